/- The document's book (dolmenref9.Book): how it lies; place, Epoch, Holds, holdsAny. -/
import Derived.Test.YtbkciencikdacaaFBook
import Derived.Test.YtbkciencikdacaaLInts
import Derived.Test.YtbkciencikdacaaKitSg
import Derived.BigQuiet
import Derived.Deep.RegionHeld3
import Derived.Deep.RegionWith
import Derived.Deep.DeepCutAuto
namespace Go.Proofs.Ytbkciencikdacaa
open Go.RowKit Kit
set_option linter.unusedVariables false

/-- Numbers, one cell each. -/
def inE : Enc Int where
  k := 1
  c x := [.int .i64 x]
  len _ := rfl
  pos := by decide
  one p u hu := by simp at hu; subst hu; rfl
theorem inE_flat (l : List Int) : inE.flat l = iV l := by
  unfold Enc.flat iV inE
  induction l with
  | nil => rfl
  | cons a l ih => rw [List.flatMap_cons, ih]; rfl
theorem inE_row {w : World} {B : Nat} {e : TypeId} {v : Value} {l : List Int} (h : RowE inE w B e v l) : RowV w B e v (iV l) := by
  unfold RowE at h
  rw [inE_flat] at h
  unfold RowV
  rw [iV_len]
  exact h
theorem inE_rowE {w : World} {B : Nat} {e : TypeId} {v : Value} {l : List Int} (h : RowV w B e v (iV l)) : RowE inE w B e v l := by
  unfold RowV at h
  rw [iV_len] at h
  unfold RowE
  rw [inE_flat]
  exact h
theorem inE_sees {w : World} {v : Value} {l : List Int} (h : SeesE inE w v l) : Sees w v (iV l) := by
  obtain ⟨ao, cap, h1, h2, h3, h4, h5⟩ := h
  refine ⟨ao, cap, by rw [iV_len]; exact h1, by rw [iV_len]; exact h2, h3, h4, fun h0 => ?_⟩
  rw [iV_len] at h0
  obtain ⟨b, off, e, hb, hc⟩ := h5 h0
  rw [inE_flat] at hc
  exact ⟨b, off, e, hb, hc⟩
theorem from_seesE {α : Type} {E : Enc α} {w : World} {B g n cap : Nat} {e : TypeId} {xs : List α} (h : RowE E w B e (.slice (some ⟨g, 0, none⟩) n cap) xs) (j : Nat) (hj : j ≤ n) :
    ∃ A : Addr, (if cap = j then some (⟨g, 0, none⟩ : Addr) else some ⟨g, j * E.k, none⟩) = some A ∧ Hid (SeesE E w (.slice (some A) (n - j) (cap - j)) (xs.drop j)) := by
  obtain ⟨_, h2, h3, h4, _⟩ := rowE_un h
  by_cases hc : cap = j
  · refine ⟨_, by rw [if_pos hc], ?_⟩
    have : xs.drop j = [] := List.drop_eq_nil_of_le (by omega)
    show SeesE _ _ _ _
    rw [this, show n - j = 0 by omega, show cap - j = 0 by omega]
    exact ⟨_, 0, rfl, Nat.le_refl _, Nat.zero_le _, by simp, fun h => absurd h (by simp)⟩
  · exact ⟨_, by rw [if_neg hc], h.from j hj⟩
/-- The document's book: its numbers, its spans, in the order in which they came. -/
structure RBk (w : World) (q B : Nat) (iv sv : Value) (is : List Int) (rs : List Th) : Prop where
  cell : w.heap[q]? = some (.cells #[iv, sv] 32)
  ids : RowE inE w B 3 iv is
  sps : RowE spE w B 25 sv rs
  low : B ≤ w.heap.size
  hq : B ≤ q
def RBook (w : World) (q B : Nat) (iv sv : Value) (rs : List Th) : Prop := RBk w q B iv sv (rs.map Th.id) rs
def rfoot (q : Nat) (iv sv : Value) (k : Nat) : Prop := k = q ∨ iv.ownBlock = some k ∨ sv.ownBlock = some k
theorem RBk.below {w w' : World} {q B : Nat} {iv sv : Value} {is : List Int} {rs : List Th} (h : RBk w q B iv sv is rs) (hb : Below w.heap.size w w') : RBk w' q B iv sv is rs := ⟨blk_below hb h.cell, h.ids.below hb, h.sps.below hb, Nat.le_trans h.low hb.size, h.hq⟩
theorem RBk.foot {w : World} {q B : Nat} {iv sv : Value} {is : List Int} {rs : List Th} (h : RBk w q B iv sv is rs) : ∀ k, rfoot q iv sv k → B ≤ k := by
  intro k hk
  rcases hk with rfl | hk | hk
  · exact h.hq
  · exact h.ids.block k hk
  · exact h.sps.block k hk
theorem RBk.obj {w : World} {q B : Nat} {iv sv : Value} {is : List Int} {rs : List Th} (h : RBk w q B iv sv is rs) : ∀ k, rfoot q iv sv k → ∃ cs t, w.heap[k]? = some (.cells cs t) ∧ (t = 32 ∨ t = 3 ∨ t = 25) := by
  intro k hk
  rcases hk with rfl | hk | hk
  · exact ⟨_, _, h.cell, .inl rfl⟩
  · obtain ⟨cur, hc⟩ := rowE_obj h.ids hk
    exact ⟨_, _, hc, .inr (.inl rfl)⟩
  · obtain ⟨cur, hc⟩ := rowE_obj h.sps hk
    exact ⟨_, _, hc, .inr (.inr rfl)⟩
theorem RBk.lt {w : World} {q B : Nat} {iv sv : Value} {is : List Int} {rs : List Th} (h : RBk w q B iv sv is rs) : ∀ k, rfoot q iv sv k → k < w.heap.size := by
  intro k hk
  obtain ⟨cs, t, h1, _⟩ := h.obj k hk
  exact blk_lt h1
theorem RBk.stay {w w' : World} {q B : Nat} {iv sv : Value} {is : List Int} {rs : List Th} {F F' : Nat → Prop} (h : RBk w q B iv sv is rs) (t : TurnF F F' w w') (hF : ∀ k, rfoot q iv sv k → ¬ F k) : RBk w' q B iv sv is rs :=
  ⟨t.kept h.cell (hF q (.inl rfl)), rowE_stay h.ids (fun k hk => t.block k (h.lt k (.inr (.inl hk))) (hF k (.inr (.inl hk)))), rowE_stay h.sps (fun k hk => t.block k (h.lt k (.inr (.inr hk))) (hF k (.inr (.inr hk)))), Nat.le_trans h.low t.size, h.hq⟩
theorem RBk.apart {w : World} {q B : Nat} {iv sv : Value} {is : List Int} {rs : List Th} (h : RBk w q B iv sv is rs) : iv.ownBlock ≠ some q ∧ sv.ownBlock ≠ some q ∧ ∀ k, iv.ownBlock = some k → sv.ownBlock ≠ some k := by
  refine ⟨fun e => ?_, fun e => ?_, fun k hk e => ?_⟩
  · obtain ⟨c, hc⟩ := rowE_obj h.ids e
    exact obj_ne hc h.cell (by decide) rfl
  · obtain ⟨c, hc⟩ := rowE_obj h.sps e
    exact obj_ne hc h.cell (by decide) rfl
  · obtain ⟨c, hc⟩ := rowE_obj h.ids hk
    obtain ⟨d, hd⟩ := rowE_obj h.sps e
    exact obj_ne hc hd (by decide) rfl
/-- New numbers are stored, new spans. -/
theorem rbk_ids {w w1 : World} {q B : Nat} {iv sv iv' : Value} {is is' : List Int} {rs : List Th} (h0 : RBk w q B iv sv is rs) (hg : w.grownBy w1 iv.ownBlock) (hr : RowE inE w1 B 3 iv' is') (hf : ∀ k, iv'.ownBlock = some k → iv.ownBlock = some k ∨ w.heap.size ≤ k) :
    RBk (w1.setCell ⟨q, 0, none⟩ iv') q B iv' sv is' rs ∧ TurnF (rfoot q iv sv) (rfoot q iv' sv) w (w1.setCell ⟨q, 0, none⟩ iv') := by
  obtain ⟨a1, a2, a3⟩ := h0.apart
  have hq := blk_lt h0.cell
  have hc : w1.heap[q]? = some (.cells #[iv, sv] 32) := by rw [hg.block q hq (fun e => a1 e.symm)]; exact h0.cell
  have ho : iv'.ownBlock ≠ some q := fun e => (hf q e).elim a1 (fun h => by omega)
  have hs : (w1.setCell ⟨q, 0, none⟩ iv').heap.size = w1.heap.size := by simp [World.setCell]
  have hst : ∀ k, k ≠ q → (w1.setCell ⟨q, 0, none⟩ iv').heap[k]? = w1.heap[k]? := fun k hk => Below.heap_setCell _ _ _ k hk
  have hsl : ∀ k, sv.ownBlock = some k → k < w.heap.size := fun k hk => h0.lt k (.inr (.inr hk))
  refine ⟨⟨?_, rowE_stay hr (fun k hk => hst k (fun e => ho (by rw [hk, e]))), rowE_stay h0.sps (fun k hk => ?_), by rw [hs]; exact Nat.le_trans h0.low hg.size, h0.hq⟩, hg.os, hg.tape, hg.output, by rw [hs]; exact hg.size, fun k hk h1 => ?_, fun k hk => ?_⟩
  · rw [setCell_blk hc]; rfl
  · rw [hst k (fun e => a2 (by rw [hk, e]))]
    exact hg.block k (hsl k hk) (fun e => a3 k e.symm hk)
  · rw [hst k (fun e => h1 (.inl e))]
    exact hg.block k hk (fun e => h1 (.inr (.inl e.symm)))
  · rcases hk with rfl | hk | hk
    · exact .inl (.inl rfl)
    · exact (hf k hk).imp (fun e => .inr (.inl e)) id
    · exact .inl (.inr (.inr hk))
theorem rbk_sps {w w1 : World} {q B : Nat} {iv sv sv' : Value} {is : List Int} {rs rs' : List Th} (h0 : RBk w q B iv sv is rs) (hg : w.grownBy w1 sv.ownBlock) (hr : RowE spE w1 B 25 sv' rs') (hf : ∀ k, sv'.ownBlock = some k → sv.ownBlock = some k ∨ w.heap.size ≤ k) :
    RBk (w1.setCell ⟨q, 1, none⟩ sv') q B iv sv' is rs' ∧ TurnF (rfoot q iv sv) (rfoot q iv sv') w (w1.setCell ⟨q, 1, none⟩ sv') := by
  obtain ⟨a1, a2, a3⟩ := h0.apart
  have hq := blk_lt h0.cell
  have hc : w1.heap[q]? = some (.cells #[iv, sv] 32) := by rw [hg.block q hq (fun e => a2 e.symm)]; exact h0.cell
  have ho : sv'.ownBlock ≠ some q := fun e => (hf q e).elim a2 (fun h => by omega)
  have hs : (w1.setCell ⟨q, 1, none⟩ sv').heap.size = w1.heap.size := by simp [World.setCell]
  have hst : ∀ k, k ≠ q → (w1.setCell ⟨q, 1, none⟩ sv').heap[k]? = w1.heap[k]? := fun k hk => Below.heap_setCell _ _ _ k hk
  have hsl : ∀ k, iv.ownBlock = some k → k < w.heap.size := fun k hk => h0.lt k (.inr (.inl hk))
  refine ⟨⟨?_, rowE_stay h0.ids (fun k hk => ?_), rowE_stay hr (fun k hk => hst k (fun e => ho (by rw [hk, e]))), by rw [hs]; exact Nat.le_trans h0.low hg.size, h0.hq⟩, hg.os, hg.tape, hg.output, by rw [hs]; exact hg.size, fun k hk h1 => ?_, fun k hk => ?_⟩
  · rw [setCell_blk hc]; rfl
  · rw [hst k (fun e => a1 (by rw [hk, e]))]
    exact hg.block k (hsl k hk) (fun e => a3 k hk e.symm)
  · rw [hst k (fun e => h1 (.inl e))]
    exact hg.block k hk (fun e => h1 (.inr (.inr e.symm)))
  · rcases hk with rfl | hk | hk
    · exact .inl (.inl rfl)
    · exact .inl (.inr (.inl hk))
    · exact (hf k hk).imp (fun e => .inr (.inr e)) id
theorem in_cells {w : World} {ao : Option Addr} {n cap : Nat} {l : List Int} (h : SeesE inE w (.slice ao n cap) l) (h0 : 0 < l.length) : ∃ b off, ao = some ⟨b, off, none⟩ ∧ n = l.length ∧ b < w.heap.size ∧ ∀ (i : Nat) (hi : i < l.length), w.cell? ⟨b, off + i, none⟩ = some (.int .i64 l[i]) := by
  obtain ⟨b, off, e, hn, hb, hc⟩ := h.cells h0
  exact ⟨b, off, e, hn, hb, fun i hi => by have := hc i hi 0 _ rfl; simpa [inE] using this⟩
/-- May an epoch be? Where a number stands; -1: nowhere. -/
def epochB (e : Int) : Bool := decide (1 ≤ e ∧ e ≤ maxE)
def placeI (rs : List Th) (id : Int) : Int := if hasT rs id then ((seatT rs id : Nat) : Int) else -1
theorem repoch_any (e : Int) (w : World) : Calls Try.prog 43 #[.int .i64 e] w fun r w' => r = .returned (.bool (epochB e)) ∧ w' = w := by
  by_cases h1 : 1 ≤ e
  · by_cases h2 : e ≤ 1099511627776
    · have HV : Hid (epochB e = true) := decide_eq_true ⟨h1, h2⟩
      go_enter Try.func43, Try.ntmps43
      go_wp2
      go_ret
      exact ⟨by rw [HV.out]; rfl, rfl⟩
    · have HV : Hid (epochB e = false) := decide_eq_false (fun h => h2 h.2)
      go_enter Try.func43, Try.ntmps43
      go_wp2
      go_ret
      exact ⟨by rw [HV.out]; rfl, rfl⟩
  · have HV : Hid (epochB e = false) := decide_eq_false (fun h => h1 h.1)
    go_enter Try.func43, Try.ntmps43
    go_wp2
    go_ret
    exact ⟨by rw [HV.out]; rfl, rfl⟩
theorem rholds_any (b d e : Int) (w : World) : Calls Try.prog 20 #[.agg #[.int .i64 b, .int .i64 d], .int .i64 e] w fun r w' => r = .returned (.bool (holdsB b d e)) ∧ Below w.heap.size w w' := by
  by_cases h1 : b ≤ e
  · by_cases h2 : d = 0
    · subst h2
      have HV : Hid (holdsB b 0 e = true) := by show _ = _; unfold holdsB; simp [h1]
      go_enter Try.func20, Try.ntmps20
      go_wp2
      go_ret
      exact ⟨by rw [HV.out]; rfl, bel_newG _ _⟩
    · have h4 : (d == 0) = false := by simpa using h2
      by_cases h3 : e < d
      · have HV : Hid (holdsB b d e = true) := by show _ = _; unfold holdsB; simp [h1, h3]
        go_enter Try.func20, Try.ntmps20
        go_wp2
        go_ret
        exact ⟨by rw [HV.out]; rfl, bel_newG _ _⟩
      · have HV : Hid (holdsB b d e = false) := by show _ = _; unfold holdsB; simp [h1, h2, h3]
        go_enter Try.func20, Try.ntmps20
        go_wp2
        go_ret
        exact ⟨by rw [HV.out]; rfl, bel_newG _ _⟩
  · have HV : Hid (holdsB b d e = false) := by show _ = _; unfold holdsB; simp [h1]
    go_enter Try.func20, Try.ntmps20
    go_wp2
    go_ret
    exact ⟨by rw [HV.out]; rfl, bel_newG _ _⟩
set_option maxRecDepth 4000 in
set_option maxHeartbeats 4000000 in
theorem rplace_any (q B : Nat) (id : Int) (iv sv : Value) (rs : List Th) (w : World) (h : RBook w q B iv sv rs) (hl : rs.length ≤ 100000) :
    Calls Try.prog 44 #[.pointer (some ⟨q, 0, none⟩), .int .i64 id] w fun e w' => e = .returned (.int .i64 (placeI rs id)) ∧ w' = w := by
  have hs : SeesE inE w iv (rs.map Th.id) := h.ids.sees
  obtain ⟨ao, cap, rfl⟩ := hs.form
  obtain ⟨n, hn⟩ : ∃ n, n = (rs.map Th.id).length := ⟨_, rfl⟩
  have hn2 : n = rs.length := by rw [hn, List.length_map]
  rw [← hn] at hs h
  have q0 : w.cell? ⟨q, 0, none⟩ = some (.slice ao n cap) := blk_cell h.cell rfl
  have HS : Hid (SeesE inE w (.slice ao n cap) (rs.map Th.id)) := hs
  have HN : Hid (n = rs.length) := hn2
  have hnm : (n : Int) ≤ 100000 := by omega
  clear h hs hn hn2 hl
  go_enter Try.func44, Try.ntmps44
  go_wp2_with fail
  go_loopw [5] (fun s5 wr => ∃ i : Nat, i ≤ n ∧ s5 = .int .i64 (i : Int) ∧ Hid (i ≤ seatT rs id) ∧ wr = w) (fun s5 _ => n - (intOf s5).toNat)
  case atStart => exact ⟨0, Nat.zero_le _, rfl, Nat.zero_le _, rfl⟩
  case round =>
    obtain ⟨i, hi, rfl, HI, hw⟩ := hrel
    subst hw
    by_cases hlt : i < n
    · have hil : i < rs.length := by have := HN.out; omega
      have hii : (i : Int) < (n : Int) := by omega
      have hi0 : (0 : Int) ≤ (i : Int) := by omega
      obtain ⟨b, off, e, hnn, hb, hc⟩ := in_cells HS.out (by rw [List.length_map]; omega)
      have c0 := hc i (by rw [List.length_map]; exact hil)
      rw [List.getElem_map] at c0
      clear hnn hc
      subst e
      obtain ⟨x, hx⟩ : ∃ x, x = rs[i].id := ⟨_, rfl⟩
      rw [← hx] at c0
      have HX : Hid (rs[i].id = x) := hx.symm
      clear hx
      by_cases hxe : x = id
      · subst hxe
        have HE : Hid (placeI rs x = (i : Int)) := by
          have hseat : seatT rs x = i := seat_ofT (by omega) (fun j hj hji => (seat_at rs x).1 j hj (by have : i ≤ seatT rs x := HI.out; omega)) (fun _ => HX.out)
          have hh : hasT rs x = true := seat_has.2 (by omega)
          show _ = _
          unfold placeI
          rw [if_pos hh, hseat]
        go_wp2
        go_ret
        exact ⟨by rw [HE.out]; rfl, rfl⟩
      · have hxb : (x == id) = false := by simpa using hxe
        have HI2 : Hid (i + 1 ≤ seatT rs id) := by
          have h1 : i ≤ seatT rs id := HI.out
          have h2 := (seat_at rs id).2
          show _ ≤ _
          by_cases e : seatT rs id = i
          · exact absurd (by rw [← HX.out]; simp only [← e]; exact h2 (by omega)) hxe
          · omega
        clear HI
        go_wp2
        go_roundw
        case rel => exact ⟨i + 1, by omega, by go_num, HI2.out, by first | trivial | rfl⟩
        case measure => simp [intOf]; omega
    · have hin : ¬ (i : Int) < (n : Int) := by omega
      have HE : Hid (placeI rs id = -1) := by
        have h1 : i ≤ seatT rs id := HI.out
        have h2 := HN.out
        have hh : ¬ hasT rs id = true := fun e => by have := seat_has.1 e; omega
        show _ = _
        unfold placeI
        rw [if_neg hh]
      go_wp2
      go_ret
      exact ⟨by rw [HE.out]; rfl, rfl⟩
theorem any_snoc (p : Int → Bool) (l : List Int) (i : Nat) (h : i < l.length) : (l.take (i + 1)).any p = ((l.take i).any p || p (l.getD i 0)) := by
  rw [List.take_succ_eq_append_getElem h, List.any_append]
  simp [List.getD, h]
set_option maxRecDepth 4000 in
set_option maxHeartbeats 4000000 in
theorem rany_any (b d : Int) (v : Value) (es : List Int) (w : World) (hv : Sees w v (iV es)) :
    Calls Try.prog 37 #[.agg #[.int .i64 b, .int .i64 d], v] w fun e w' => e = .returned (.bool (needB b d es)) ∧ Below w.heap.size w w' := by
  obtain ⟨ao, cap, rfl, h1, h2, h3, h4⟩ := hv
  rw [iV_len] at h1 h4 ⊢
  obtain ⟨n, hn⟩ : ∃ n, n = es.length := ⟨_, rfl⟩
  rw [← hn] at h1 h4 ⊢
  have hm : (n : Int) ≤ 9223372036854775807 := by unfold maxLen at h2; omega
  have H4 : Hid (0 < n → ∃ b off, ao = some ⟨b, off, none⟩ ∧ b < w.heap.size ∧ ∀ (i : Nat) (x : Value), (iV es)[i]? = some x → w.cell? ⟨b, off + i, none⟩ = some x) := h4
  have HN : Hid (n = es.length) := hn
  have HH : Hid (∀ e w, Calls Try.prog 20 #[.agg #[.int .i64 b, .int .i64 d], .int .i64 e] w fun r w' => r = .returned (.bool (holdsB b d e)) ∧ Below w.heap.size w w') := rholds_any b d
  clear h1 h2 h3 h4 hn
  go_enter Try.func37, Try.ntmps37
  have hbx : (w.alloc (.cells #[.int .i64 b, .int .i64 d] 25)).heap[w.heap.size]? = some (.cells #[.int .i64 b, .int .i64 d] 25) := (MapKept.heap_alloc w _).1
  have HBX : Hid (Below w.heap.size w (w.alloc (.cells #[.int .i64 b, .int .i64 d] 25)) ∧ (w.alloc (.cells #[.int .i64 b, .int .i64 d] 25)).heap[w.heap.size]? = some (.cells #[.int .i64 b, .int .i64 d] 25)) := ⟨bel_newG _ _, hbx⟩
  clear hbx
  go_wp2_with fail
  go_loopw [5] (fun s5 wr => ∃ i : Nat, i ≤ n ∧ s5 = .int .i64 (i : Int) ∧ Hid ((es.take i).any (fun e => holdsB b d e) = false ∧ Below w.heap.size w wr ∧ wr.heap[w.heap.size]? = some (.cells #[.int .i64 b, .int .i64 d] 25))) (fun s5 _ => n - (intOf s5).toNat)
  case atStart => exact ⟨0, Nat.zero_le _, rfl, by simp, HBX.out⟩
  case round =>
    obtain ⟨wa, hwa⟩ : ∃ z, z = wr := ⟨_, rfl⟩
    subst hwa
    obtain ⟨i, hi, rfl, HI⟩ := hrel
    have c0 : wa.cell? ⟨w.heap.size, 0, none⟩ = some (.int .i64 b) := blk_cell HI.out.2.2 rfl
    have c1 : wa.cell? ⟨w.heap.size, 1, none⟩ = some (.int .i64 d) := blk_cell HI.out.2.2 rfl
    by_cases hlt : i < n
    · have hii : (i : Int) < (n : Int) := by omega
      have hi0 : (0 : Int) ≤ (i : Int) := by omega
      obtain ⟨bb, off, e, hbl, hc⟩ := H4.out (by omega)
      subst e
      have c2 := (HI.out.2.1.cell (by exact hbl)).trans (hc i _ (iV_at es i (by have := HN.out; omega)))
      obtain ⟨x, hx⟩ : ∃ x, x = es.getD i 0 := ⟨_, rfl⟩
      rw [← hx] at c2
      have HSN : Hid ((es.take (i + 1)).any (fun e => holdsB b d e) = ((es.take i).any (fun e => holdsB b d e) || holdsB b d x)) := by rw [hx]; exact any_snoc _ es i (by have := HN.out; omega)
      have HIN : Hid (x ∈ es) := by
        have h1 : i < es.length := by have := HN.out; omega
        show _ ∈ _
        rw [hx]
        simp [List.getD, h1]
      have hbl2 : bb < wa.heap.size := cell_lt9 c2
      have hwl : w.heap.size < wa.heap.size := cell_lt9 c0
      have hne := ownW_nonempty wa
      have t0 : ∀ n : OwnW wa, n.1.cell? ⟨w.heap.size, 0, none⟩ = some (.int .i64 b) := fun n => (n.2.cell (by exact hwl)).trans c0
      have t1 : ∀ n : OwnW wa, n.1.cell? ⟨w.heap.size, 1, none⟩ = some (.int .i64 d) := fun n => (n.2.cell (by exact hwl)).trans c1
      have t2 : ∀ n : OwnW wa, n.1.cell? ⟨bb, off + i, none⟩ = some (.int .i64 x) := fun n => (n.2.cell (by exact hbl2)).trans c2
      have HE : Hid (∀ n : OwnW wa, Calls Try.prog 20 #[.agg #[.int .i64 b, .int .i64 d], .int .i64 x] n.1 fun e w'' => e = .returned (.bool (holdsB b d x)) ∧ ∃ m : OwnW wa, w'' = m.1) := fun n => Calls.own_of (rholds_any b d x n.1)
      clear hc hx hbl c0 c1 c2
      go_upto_region 4 with fail
      refine wp_region_own (by kernel_rfl) (by kernel_rfl) ?_
      repeat (go_big_quiet_step (exact HE.out _))
      refine wpQuiet_nil ?_
      rintro _ ⟨m, rfl⟩
      have HM : Hid (Below wa.heap.size wa m.1) := m.2
      cases hh : holdsB b d x with
      | true =>
        have HE2 : Hid (needB b d es = true) := by
          show _ = _
          unfold needB
          rw [Bool.or_eq_true, List.any_eq_true]
          exact .inr ⟨x, HIN.out, hh⟩
        clear HSN HE t0 t1 t2
        go_wp2
        go_ret
        exact ⟨by rw [HE2.out]; simp, bel_tr HI.out.2.1 HM.out⟩
      | false =>
        have HS2 : Hid ((es.take (i + 1)).any (fun e => holdsB b d e) = false) := by
          show _ = _
          rw [HSN.out, HI.out.1, hh]; rfl
        clear HSN HE t0 t1 t2
        go_wp2
        go_roundw
        case rel => exact ⟨i + 1, by omega, by go_num, HS2.out, bel_tr HI.out.2.1 HM.out, blk_below HM.out HI.out.2.2⟩
        case measure => simp [intOf]; omega
    · have hin : ¬ (i : Int) < (n : Int) := by omega
      have HE2 : Hid (needB b d es = decide (d = 0)) := by
        have h1 := HI.out.1
        rw [List.take_of_length_le (by have := HN.out; omega)] at h1
        show _ = _
        unfold needB
        rw [h1, Bool.or_false]
      by_cases hd : d = 0
      · subst hd
        have HE3 : Hid (needB b 0 es = true) := by show _ = _; rw [HE2.out]; exact decide_eq_true rfl
        clear HE2
        go_wp2
        go_ret
        exact ⟨by rw [HE3.out]; simp, HI.out.2.1⟩
      · have HE3 : Hid (needB b d es = false) := by show _ = _; rw [HE2.out]; exact decide_eq_false hd
        have hdb : (d == 0) = false := by simpa using hd
        clear HE2
        go_wp2
        go_ret
        exact ⟨by rw [HE3.out]; simp, HI.out.2.1⟩
end Go.Proofs.Ytbkciencikdacaa
