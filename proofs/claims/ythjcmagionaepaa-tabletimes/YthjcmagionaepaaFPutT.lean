/- package table: a longer row is stored; strings.Clone. -/
import Derived.Test.YthjcmagionaepaaFFindT
import Derived.Test.YthjcmagionaepaaGKit
import Derived.Lib.UnsafeStr
import Derived.Lib.BufferWrite
import Derived.Laws.CopyOwn
import Derived.Deep.OwnRows
namespace Go.Proofs.Ythjcmagionaepaa
open Go.RowKit Kit
set_option linter.unusedVariables false

theorem infoEn : (Try.prog.info? 48).map (fun i => (i.zero, i.size, i.bytes)) = some (some (.agg #[.string ⟨#[]⟩, .int .i64 0, .int .i64 0, .int .i64 0]), 4, 40) := by kernel_rfl
/-- Append at a step of a drawn region: which block the answer lies in, too. -/
theorem step_appF {α : Type} {E : Enc α} {P : Program} {T e : TypeId} {z : Value} {bytes : Nat} (hT : P.underlying T = some (.slice e)) (hI : (P.info? e).map (fun i => (i.zero, i.size, i.bytes)) = some (some z, E.k, bytes)) (hzc : z.cells.size = E.k) {ops : Array Oper} {o : Oper} {a : Act} {K : Act → World → Prop} {Q : Exit → Act → World → Prop} {F : Prop} {w : World} (hgd : o.guard = none) (s x : Operand)
    (ho : o.op = .call { callee := .builtin .append, args := #[s, x], argTypes := #[T, T] }) (base : Nat) (v : Value) (xs : List α) (hs : a.eval s = v) (hown : RowE E w base e v xs)
    (y : Value) (news : List α) (hx : a.eval x = y) (hv : SeesE E w y news) (hm : xs.length + news.length ≤ maxLen) (hlen : (xs.length + news.length) * bytes ≤ 140737488355328) (hbase : base ≤ w.heap.size)
    (h : ∀ v' w', RowE E w' base e v' (xs ++ news) → w.grownBy w' v.ownBlock → (∀ k, v'.ownBlock = some k → v.ownBlock = some k ∨ w.heap.size ≤ k) → K (a.put o.dst v') w') : if Region.wanted o (yielded ops a.tmps) = true then Oper.wp P o a w K Q else F := by
  have hw : Region.wanted o (yielded ops a.tmps) = true := by simp [Region.wanted, hgd]
  rw [if_pos hw]
  exact wp_appF hT hI hzc s x ho base v xs hs hown y news hx hv hm hlen hbase h
/-- Append, then the store into the map: what has become of the table. -/
theorem add_put {W Wa w4 : World} {p B b : Nat} {last : Int} {g : ByteArray → Option Value} {ρ : ByteArray → List Rw} (hb : Below W.heap.size W Wa) (hc : W.heap[p]? = some (.cells #[.map (some b), .int .i64 last] 40)) (h : MapR W B (some b) g ρ)
    {name : ByteArray} {v' : Value} {xs' : List Rw} (hg : Wa.grownBy w4 (rv g name).ownBlock) (hr : RowE rwE w4 B 48 v' xs') (hx : xs' ≠ []) (hf : ∀ k, v'.ownBlock = some k → (rv g name).ownBlock = some k ∨ Wa.heap.size ≤ k)
    (hn : name.size ≤ maxLen) (L : List ByteArray) (hL : ∀ s, (g s).isSome = true → s ∈ L) (hLn : L.length < maxLen) :
    w4.heap[p]? = some (.cells #[.map (some b), .int .i64 last] 40) ∧ ∃ w5, (Instr.mapUpdate 38 (.map (some b)) (.string name) v').run Try.prog w4 = .ok () w5 ∧ MapR w5 B (some b) (putS g name v') (fun s => if s = name then xs' else ρ s) ∧ w5.heap[p]? = some (.cells #[.map (some b), .int .i64 last] 40) ∧ TurnF (tbfoot p (some b) g) (tbfoot p (some b) (putS g name v')) W w5 := by
  have ha := h.below hb
  have hca := blk_below hb hc
  have hoff : ¬ rfoot (some b) g p := fun e => absurd (ha.ty e hca) (by decide)
  have hno : (rv g name).ownBlock ≠ some p := fun e => by
    obtain ⟨cs, hcs⟩ := rowE_obj (ha.rowv name) e
    exact obj_ne hcs hca (by decide) rfl
  have h4 : w4.heap[p]? = some (.cells #[.map (some b), .int .i64 last] 40) := (hg.block p (blk_lt hca) (fun e => hno e.symm)).trans hca
  obtain ⟨w5, k1, k2, k3, k4⟩ := ha.put hg hr hx hf hn L hL hLn
  have h5 := k3.kept hca hoff
  refine ⟨h4, w5, k1, k2, h5, ?_⟩
  have t1 : TurnF (rfoot (some b) g) (rfoot (some b) (putS g name v')) W w5 := (turnF_below (F := rfoot (some b) g) hb).trans k3
  refine ⟨t1.os, t1.tape, t1.output, t1.size, fun k hk hF => t1.block k hk (fun e => hF (.inr e)), fun k hk => ?_⟩
  rcases hk with rfl | hk
  · exact .inl (.inl rfl)
  · exact (t1.fresh k hk).imp .inr id
theorem infoU8 : (Try.prog.info? 5).map (fun i => (i.zero, i.size, i.bytes)) = some (some (.int .u8 0), 1, 1) := by kernel_rfl
theorem sizeU8 : (Try.prog.info? 5).map (·.size) = some 1 := by kernel_rfl
theorem made_list (n : Nat) : (madeCells #[Value.int .u8 0] n).toList = List.replicate n (.int .u8 0) := by
  apply List.ext_getElem?
  intro i
  by_cases h : i < n
  · simp [madeCells, h, Nat.mod_one]
  · simp [madeCells, h]
theorem made_arr (n : Nat) : madeCells #[Value.int .u8 0] n = (List.replicate n (Value.int .u8 0)).toArray := by
  rw [← made_list n]
set_option maxRecDepth 4000 in
set_option maxHeartbeats 4000000 in
theorem tslclone_any (s : ByteArray) (w : World) (hs : s.size ≤ 2000) : Calls Try.prog 24 #[.string s] w fun e w' => e = .returned (.string s) ∧ Below w.heap.size w w' := by
  by_cases h0 : s.size = 0
  · have e : s = ⟨#[]⟩ := by
      cases s with
      | mk d => have : d.size = 0 := h0; rw [Array.eq_empty_of_size_eq_zero this]
    subst e
    go_enter Try.func24, Try.ntmps24
    go_wp2
    go_ret
    exact ⟨rfl, Below.refl _ _⟩
  · have h1 := run_make_row' (P := Try.prog) 68 5 (.int .u8 0) 1 Try.underlying68 infoU8 rfl .i64 .i64 s.size (by omega) (by omega) w
    obtain ⟨W1, hW1⟩ : ∃ W, W = w.alloc (.cells (madeCells #[.int .u8 0] s.size) 5) := ⟨_, rfl⟩
    rw [← hW1] at h1
    have hg1 : W1.heap[w.heap.size]? = some (.cells (madeCells #[.int .u8 0] s.size) 5 (0, 0)) := by rw [hW1]; exact (MapKept.heap_alloc w _).1
    have h2 := fun ty => Lib.run_copy_row_string (P := Try.prog) W1 68 9 ty 5 w.heap.size 0 s.size s.size s _ 5 Try.underlying68 sizeU8 hg1 (Nat.le_refl _) (by rw [made_arr, List.size_toArray, List.length_replicate]; omega)
    obtain ⟨W2, hW2⟩ : ∃ W, W = W1.setRow w.heap.size ((madeCells #[Value.int .u8 0] s.size).toList.take 0 ++ Lib.byteCells s.data.toList ++ (madeCells #[Value.int .u8 0] s.size).toList.drop (0 + s.size)).toArray := ⟨_, rfl⟩
    rw [← hW2] at h2
    have hsz : s.data.toList.length = s.size := by rw [Array.length_toList]; rfl
    have hg2 : W2.heap[w.heap.size]? = some (.cells (Lib.byteCells s.data.toList).toArray 5 (0, 0)) := by
      rw [hW2, setRow_heap _ _ _ _ _ _ hg1, made_list]
      simp
    have h3 := fun ty => Lib.run_unsafeString_row (P := Try.prog) W2 69 3 ty 5 Try.underlying69 (by kernel_rfl) w.heap.size s.size (by simp [World.shape?, hg2, Lib.byteCells_length, hsz]) s.data.toList (by intro e; rw [e] at hsz; simp at hsz; omega) (by omega) (by omega) (fun j x hx => by
      have hj : j < (Lib.byteCells s.data.toList).length := by rw [Lib.byteCells_length]; exact (List.getElem?_eq_some_iff.1 hx).1
      rw [Addr.add_lit]
      simp only [World.cell?, hg2, Nat.zero_add]
      simp [Lib.byteCells, hx])
    rw [hsz] at h3
    have es : (⟨s.data.toList.toArray⟩ : ByteArray) = s := by cases s; simp
    rw [es] at h3
    have HB : Hid (Below w.heap.size w (W2.freeze ⟨w.heap.size, 0, none⟩ s.size)) := by
      show Below w.heap.size w (W2.freeze ⟨w.heap.size, 0, none⟩ s.size)
      refine Lib.below_freeze (B := w.heap.size) (p := ⟨w.heap.size, 0, none⟩) ?_ (by exact Nat.le_refl _) _
      rw [hW2]
      refine below_setRow ?_ (Nat.le_refl _) _
      rw [hW1]
      exact (Below.refl _ _).alloc (Nat.le_refl _) _
    obtain ⟨W3, hW3⟩ : ∃ W, W = W2.freeze ⟨w.heap.size, 0, none⟩ s.size := ⟨_, rfl⟩
    rw [← hW3] at h3 HB
    have hz : ((s.size : Int) == 0) = false := beq_eq_false_iff_ne.2 (by omega)
    have hp : (0 : Int) < (s.size : Int) := by omega
    have hp2 : (s.size : Int) ≤ 2000 := by omega
    simp only [goInt] at h2
    clear hW1 hW2 hW3 hg1 hg2 es hsz
    go_enter Try.func24, Try.ntmps24
    go_wp2
    go_ret
    exact ⟨rfl, HB.out⟩
set_option maxRecDepth 4000 in
set_option maxHeartbeats 4000000 in
theorem tsclone_any (s : ByteArray) (w : World) (hs : s.size ≤ 2000) : Calls Try.prog 15 #[.string s] w fun e w' => e = .returned (.string s) ∧ Below w.heap.size w w' := by
  have HX : Hid (Calls Try.prog 24 _ _ _) := tslclone_any s w hs
  go_enter Try.func15, Try.ntmps15
  go_wp2_with (go_at_call 24; refine HX.out.mono ?_; rintro e w' ⟨rfl, hb⟩)
  go_ret
  exact ⟨rfl, hb⟩
end Go.Proofs.Ythjcmagionaepaa
