/- Several texts in one: DMath DFind DBytes DConcat DLinks DNode DPlace DPut DNameA. -/
import Derived.Test.YtbebgobboccjcaaGreatDoorMDSearch
import Derived.Test.YtbebgobboccjcaaGreatDoorG2
import Derived.Lib.UnsafeStr
import Derived.Lib.BufferWrite
import Derived.Laws.CopyOwn
import Derived.Deep.OwnRows
import Derived.Test.YtbebgobboccjcaaGreatDoorG1
import Derived.Shelf.Spec.SlicesGrow
import Derived.Deep.RegionWith
import Derived.RegionTactic
/- Trees that need not be whole: what the program's functions want of one. (No walk in it.) -/
namespace Go.Proofs.YtbebgobboccjcaaGreatDoor
open Go.RowKit Kit
set_option linter.unusedVariables false

structure Fair (t : TreeB) : Prop where
  root : ∃ r l, t.nodes = r :: l ∧ r.ino = 1 ∧ r.kind = 2
  size : t.nodes.length ≤ 61
  next : 1 ≤ t.next ∧ t.next ≤ 2199023255552
  rise : Rises t
  below : ∀ n ∈ t.nodes, n.ino ≤ 2199023255552
  each : ∀ n ∈ t.nodes, NodeOK n
  leads : ∀ n ∈ t.nodes, ∀ i ∈ n.inos, i ≠ 1 ∧ ∃ m ∈ t.nodes, m.ino = i
  names : ∀ n ∈ t.nodes, n.names.length ≤ 10000
theorem len_le : ∀ (S l : List Int), (∀ i ∈ l, i ∈ S) → (∀ i, l.count i ≤ 20) → l.length ≤ 20 * S.length
  | [], l, h, _ => by
    cases l with
    | nil => simp
    | cons a r => exact absurd (h a (by simp)) (by simp)
  | a :: S, l, h, hc => by
    have h1 := len_le S (l.filter (fun x => !(x == a))) (fun i hi => by
      obtain ⟨h2, h3⟩ := List.mem_filter.1 hi
      rcases List.mem_cons.1 (h i h2) with e | e
      · subst e; simp at h3
      · exact e) (fun i => Nat.le_trans (List.Sublist.count_le i List.filter_sublist) (hc i))
    have h2 := List.length_eq_countP_add_countP (fun x => x == a) (l := l)
    have h3 : l.countP (fun x => x == a) ≤ 20 := hc a
    have h4 : l.countP (fun x => decide (¬ (x == a) = true)) = (l.filter (fun x => !(x == a))).length := by
      rw [← List.countP_eq_length_filter]
      congr 1
      funext x
      cases (x == a) <;> rfl
    rw [List.length_cons]
    omega
theorem kids_ge {t : TreeB} {n : NodeB} (hn : n ∈ t.nodes) (i : Int) : n.inos.count i ≤ kidsB t i := by
  unfold kidsB
  exact sum_ge (f := fun n : NodeB => n.inos.count i) hn
theorem names_small {e : Int} {t : TreeB} (h : GoodE e t) {n : NodeB} (hn : n ∈ t.nodes) : n.names.length ≤ 1200 ∧ n.inos.length ≤ 1200 := by
  have h1 : n.inos.length ≤ 20 * (t.nodes.map NodeB.ino).length := len_le _ _ (fun i hi => by
    obtain ⟨_, m, hm, e⟩ := h.leads n hn i hi
    exact List.mem_map.2 ⟨m, hm, e⟩) (fun i => Nat.le_trans (kids_ge hn i) (h.many i))
  rw [List.length_map] at h1
  have h2 := h.size
  have h3 := (h.each n hn).len
  omega
theorem GoodE.fair {e : Int} {t : TreeB} (h : GoodE e t) : Fair t := by
  have hp : 1 ≤ t.next := by
    obtain ⟨r, l, hl, h1, _⟩ := h.root
    have := h.below r (by rw [hl]; simp)
    omega
  have := h.next
  exact ⟨h.root, by have := h.size; omega, ⟨hp, by omega⟩, h.rise, fun n hn => by have := h.below n hn; omega, h.each, h.leads, fun n hn => by have := (names_small h hn).1; omega⟩
theorem Fair.pos {t : TreeB} (h : Fair t) : ∀ n ∈ t.nodes, 1 ≤ n.ino := by
  obtain ⟨r, l, hl, h1, _⟩ := h.root
  intro n hn
  have hr := h.rise
  unfold Rises at hr
  rw [hl] at hr hn
  rcases List.mem_cons.1 hn with hn | hn
  · rw [hn, h1]; omega
  · have := (List.pairwise_cons.1 hr).1 n hn
    omega
theorem Fair.one {t : TreeB} (h : Fair t) : placeO t 1 = some 0 := by
  obtain ⟨r, l, hl, h1, _⟩ := h.root
  unfold placeO
  rw [hl]
  simp [List.findIdx?_cons, h1]
theorem Fair.root0 {t : TreeB} (h : Fair t) : 0 < t.nodes.length ∧ (nodeAt t 0).ino = 1 ∧ (nodeAt t 0).kind = 2 := by
  obtain ⟨r, l, hl, h1, h2⟩ := h.root
  refine ⟨by rw [hl]; simp, ?_, ?_⟩
  · simp [nodeAt, hl, h1]
  · simp [nodeAt, hl, h2]
theorem Fair.rootP {t : TreeB} (h : Fair t) : rootP t = 0 := by unfold Go.Proofs.YtbebgobboccjcaaGreatDoor.rootP; rw [h.one]; rfl
theorem Fair.nz {t : TreeB} (h : Fair t) {n : NodeB} (hn : n ∈ t.nodes) : ∀ i ∈ n.inos, i ≠ 0 := by
  intro i hi
  obtain ⟨_, m, hm, e⟩ := h.leads n hn i hi
  have := h.pos m hm
  omega
theorem Fair.kind {t : TreeB} (h : Fair t) {n : NodeB} (hn : n ∈ t.nodes) : n.kind = 1 ∨ n.kind = 2 := by
  rcases (h.each n hn).2.2 with k | k
  · exact .inr k.1
  · exact .inl k.1
/-- Where a name leads, by searching. -/
theorem name_low {n : NodeB} (ok : NodeOK n) (s : ByteArray) : nameB n s = if hasB n.names s then n.inos.getD (lowB n.names s) 0 else 0 := by
  rcases ok.2.2 with hk | hk
  · cases hh : hasB n.names s with
    | true =>
      obtain ⟨hl, he⟩ := (low_mem ok.1).1 (has_iff.1 hh)
      have := nameB_at hk.1 ok.len ok.1 hl
      rw [he] at this
      rw [this, if_pos rfl]
      have hl2 : lowB n.names s < n.inos.length := by rw [← ok.len]; exact hl
      simp [List.getD, hl2]
    | false =>
      have hm : s ∉ n.names := fun h => by rw [has_iff.2 h] at hh; cases hh
      unfold nameB
      rw [if_pos hk.1, List.findIdx?_eq_none_iff.2 (fun q hq => by
        apply decide_eq_false
        intro e
        exact hm (e ▸ hq))]
      rfl
  · have : hasB n.names s = false := by rw [hk.2.1]; rfl
    rw [this]
    unfold nameB
    rw [if_neg (by omega)]
    rfl
theorem has_name {n : NodeB} (ok : NodeOK n) (hz : ∀ i ∈ n.inos, i ≠ 0) (s : ByteArray) : hasB n.names s = true ↔ nameB n s ≠ 0 := by
  rw [name_low ok]
  cases hh : hasB n.names s with
  | false => simp
  | true =>
    obtain ⟨hl, he⟩ := (low_mem ok.1).1 (has_iff.1 hh)
    have hl2 : lowB n.names s < n.inos.length := by rw [← ok.len]; exact hl
    simp only [if_true, true_iff]
    simp only [List.getD, List.getElem?_eq_getElem hl2, Option.getD_some]
    exact hz _ (List.getElem_mem hl2)
/-- One step of a walk. -/
theorem Fair.step {t : TreeB} (h : Fair t) {k : Nat} (hk : k < t.nodes.length) {s : ByteArray} (hn : nameB (nodeAt t k) s ≠ 0) : ∃ k', placeO t (nameB (nodeAt t k) s) = some k' ∧ k' < t.nodes.length ∧ (nodeAt t k').ino = nameB (nodeAt t k) s ∧ nameB (nodeAt t k) s ≠ 1 := by
  have ok := h.each _ (nodeAt_mem hk)
  obtain ⟨h2, i, hi, e1, e2⟩ := nameB_some ok.len hn
  obtain ⟨h1, m, hm, e⟩ := h.leads _ (nodeAt_mem hk) (nameB (nodeAt t k) s) (by rw [← e2]; exact List.getElem_mem _)
  obtain ⟨k', hk'⟩ := placeO_of hm
  rw [e] at hk'
  exact ⟨k', hk', (placeO_some hk').1, (placeO_some hk').2, h1⟩
end Go.Proofs.YtbebgobboccjcaaGreatDoor
/- follow, Find. -/
namespace Go.Proofs.YtbebgobboccjcaaGreatDoor
open Go.RowKit Kit
set_option linter.unusedVariables false

theorem zeroN_run (w : World) : (zeroValue 70).run Tryz.prog w = .ok zeroN w := by kernel_rfl
theorem nfield0 (a b c : Value) (w : World) : (Instr.field 70 (.agg #[a, b, c]) 0).run Tryz.prog w = .ok a w := by kernel_rfl
theorem nfield1 (a b c : Value) (w : World) : (Instr.field 70 (.agg #[a, b, c]) 1).run Tryz.prog w = .ok b w := by kernel_rfl
theorem nfield2 (a b c : Value) (w : World) : (Instr.field 70 (.agg #[a, b, c]) 2).run Tryz.prog w = .ok c w := by kernel_rfl
/-- A node with its two slices written out. -/
def dnOf (n : NodeB) (da : Option Addr) (dc : Nat) (sa : Option Addr) (sc : Nat) : DN := ⟨n, .slice da n.data.length dc, .slice sa n.names.length sc⟩
theorem DN.is.form {w : World} {f : DN} (h : f.is w) (ok : NodeOK f.n) : ∃ da dc sa sc, f = dnOf f.n da dc sa sc := by
  obtain ⟨da, dc, h1, _⟩ := h.1
  obtain ⟨sa, sc, h2, _⟩ := h.2
  have e : (pairsB f.n).length = f.n.names.length := by unfold pairsB; rw [List.length_zip]; have := ok.len; omega
  rw [e] at h2
  rw [intsV_len] at h1
  refine ⟨da, dc, sa, sc, ?_⟩
  cases f
  simp only at h1 h2
  subst h1 h2
  rfl
/-- A number of the tree's is looked up. -/
theorem DAt.look {w : World} {p b : Nat} {ds : List DN} {nx : Int} {t : TreeB} (h : DAt w p b ds nx) (hn : ds.map DN.n = t.nodes) (ht : Fair t) {k : Nat} (hk : k < t.nodes.length) :
    ∃ da dc sa sc, dnOf (nodeAt t k) da dc sa sc ∈ ds ∧ (∀ w', MapIs Tryz.prog 3 w' b (ds.map DN.ent) → (Instr.lookup 50 (.map (some b)) (.int .i64 (nodeAt t k).ino) false).run Tryz.prog w' = .ok (.agg #[.int .i64 (nodeAt t k).kind, .slice da (nodeAt t k).data.length dc, .slice sa (nodeAt t k).names.length sc]) w') := by
  have hl : k < ds.length := by rw [← List.length_map (f := DN.n), hn]; exact hk
  have e1 : ds[k].n = nodeAt t k := by
    rw [nodeAt_eq t k hk]
    have : (ds.map DN.n)[k]'(by rw [List.length_map]; exact hl) = t.nodes[k] := by simp only [hn]
    rw [← this, List.getElem_map]
  obtain ⟨da, dc, sa, sc, e2⟩ := (h.2.2 _ (List.getElem_mem hl)).form (by rw [e1]; exact ht.each _ (nodeAt_mem hk))
  rw [e1] at e2
  refine ⟨da, dc, sa, sc, e2 ▸ List.getElem_mem hl, fun w' hm => ?_⟩
  have h1 := ht.pos _ (nodeAt_mem hk)
  have h2 := ht.below _ (nodeAt_mem hk)
  have := hm.look (t := 50) (e := 70) Tryz.underlying3 Tryz.underlying50 (zeroN_run w') (i := (nodeAt t k).ino) (by omega)
  rw [this, get_ent hn, placeO_at ht.rise hk]
  simp only [Option.map_some, Option.getD_some, List.getD, List.getElem?_eq_getElem hl]
  rw [e2]
  rfl
/-- .. in whatever world that has only added to the first one. -/
theorem DTree.lookAt {w : World} {p b : Nat} {t : TreeB} (h : DTree w p b t) (ht : Fair t) {k : Nat} (hk : k < t.nodes.length) :
    ∃ da dc sa sc, ∀ W, Below w.heap.size w W → (Instr.lookup 50 (.map (some b)) (.int .i64 (nodeAt t k).ino) false).run Tryz.prog W = .ok (.agg #[.int .i64 (nodeAt t k).kind, .slice da (nodeAt t k).data.length dc, .slice sa (nodeAt t k).names.length sc]) W ∧ W.cell? ⟨p, 0, none⟩ = some (.map (some b)) ∧ (dnOf (nodeAt t k) da dc sa sc).is W := by
  obtain ⟨ds, hd, hn⟩ := h
  obtain ⟨da, dc, sa, sc, hm, hlook⟩ := hd.look hn ht hk
  exact ⟨da, dc, sa, sc, fun W hW => ⟨hlook W (hd.2.1.below hW), (hW.cell (by exact hd.lt.1)).trans hd.cells.1, (hd.2.2 _ hm).below hW⟩⟩
theorem walk_more {t : TreeB} (h : Fair t) {l : List ByteArray} {j k : Nat} (hj : j < l.length) (h1 : (nodeAt t k).kind = 2) (h2 : nameB (nodeAt t k) l[j] ≠ 0) {k' : Nat} (h3 : placeO t (nameB (nodeAt t k) l[j]) = some k') : walkB t k (l.drop j) = walkB t k' (l.drop (j + 1)) := by
  rw [List.drop_eq_getElem_cons hj]
  rw [walkB, if_neg (by omega), if_neg h2, h3]
  rfl
/-- leads, of a directory. -/
theorem leads_of {n : NodeB} {da sa : Option Addr} {dc sc : Nat} {W : World} (ok : NodeOK n) (hk : n.kind = 2) (hs : n.names.length ≤ 10000) (h : (dnOf n da dc sa sc).is W) (x : ByteArray) :
    Calls Tryz.prog 78 #[.agg #[.int .i64 2, .slice da n.data.length dc, .slice sa n.names.length sc], .string x] W fun e w' => e = .returned (.tuple #[.int .i64 (nameB n x), .bool (hasB n.names x)]) ∧ Below W.heap.size W w' := by
  have h1 := dleads_any (dnOf n da dc sa sc) x W h ok.1 ok.len (by show n.names.length ≤ _; omega)
  have e2 : (dnOf n da dc sa sc).val = .agg #[.int .i64 2, .slice da n.data.length dc, .slice sa n.names.length sc] := by unfold DN.val dnOf; simp only; rw [hk]
  have e3 : (dnOf n da dc sa sc).n = n := rfl
  rw [e2, e3, ← name_low ok] at h1
  exact h1
def outW2 (t : TreeB) (r : Except Int Nat) : Int × Int := match r with
  | .ok k => ((nodeAt t k).ino, 0)
  | .error e => (0, e)
set_option maxRecDepth 4000 in
set_option maxHeartbeats 8000000 in
theorem dfollow_any (v : Value) (l : List ByteArray) (w : World) (p b : Nat) (t : TreeB) (hT : DTree w p b t) (ht : Fair t) (hv : Sees w v (strs l)) (hs : l.length ≤ 1000) :
    Calls Tryz.prog 45 #[.pointer (some ⟨p, 0, none⟩), v] w fun e w' => e = .returned (.tuple #[.int .i64 (outW2 t (walkB t 0 l)).1, errV (outW2 t (walkB t 0 l)).2]) ∧ Below w.heap.size w w' := by
  obtain ⟨ds, hd, hn⟩ := hT
  obtain ⟨ao, cap, rfl, h1, h2, h3, h4⟩ := hv
  rw [strs_len] at h1 h4 ⊢
  obtain ⟨hr0, hr1, hr2⟩ := ht.root0
  have H4 : Hid (0 < l.length → _) := h4
  have HD : Hid (DAt w p b ds t.next) := hd
  have HF : Hid (Fair t) := ht
  have HN : Hid (ds.map DN.n = t.nodes) := hn
  obtain ⟨r, hr⟩ : ∃ r, walkB t 0 l = r := ⟨_, rfl⟩
  have HR : Hid (walkB t 0 l = r) := hr
  rw [hr]
  have lm : (l.length : Int) ≤ 1000 := by omega
  clear h1 h2 h3 h4 hd ht hn hr
  go_enter Tryz.func45, Tryz.ntmps45
  go_wp2
  go_loopw [6, 14] (fun s6 s14 wr => ∃ k j : Nat, s6 = .int .i64 (nodeAt t k).ino ∧ s14 = .int .i64 (j : Int) ∧ j ≤ l.length ∧ k < t.nodes.length ∧ Hid (walkB t k (l.drop j) = r) ∧ Hid (Below w.heap.size w wr)) (fun _ s14 _ => l.length - (intOf s14).toNat)
  case atStart => exact ⟨0, 0, by rw [hr1], rfl, Nat.zero_le _, hr0, HR.out, Below.refl _ _⟩
  case round =>
    obtain ⟨k, j, rfl, rfl, hj, hk, HW, HB⟩ := hrel
    have hdr := HD.out.below HB.out
    by_cases hlt : j < l.length
    · obtain ⟨g, off, hao, hb, hc⟩ := H4.out (by omega)
      subst hao
      have c0 := (HB.out.cell (by exact hb)).trans (hc j _ (strs_at l j hlt))
      obtain ⟨da, dc, sa, sc, hf, hlook⟩ := hdr.look HN.out HF.out hk
      have hl := hlook wr hdr.2.1
      obtain ⟨d0, _, _⟩ := hdr.cells
      obtain ⟨x, hx⟩ : ∃ x, l.getD j ⟨#[]⟩ = x := ⟨_, rfl⟩
      have hx2 : l[j] = x := by rw [← hx]; simp [List.getD, hlt]
      rw [hx] at c0
      have ok := HF.out.each _ (nodeAt_mem hk)
      have hkk := HF.out.kind (nodeAt_mem hk)
      have HX : Hid (l[j] = x) := hx2
      have ji : (j : Int) < (l.length : Int) := by omega
      obtain ⟨ki, hki⟩ : ∃ q, (nodeAt t k).kind = q := ⟨_, rfl⟩
      obtain ⟨ii, hii⟩ : ∃ q, (nodeAt t k).ino = q := ⟨_, rfl⟩
      rw [hki, hii] at hl
      rw [hki] at hkk
      rw [hii]
      have HK : Hid ((nodeAt t k).kind = ki) := hki
      have HFI : Hid ((dnOf (nodeAt t k) da dc sa sc).is wr) := hdr.2.2 _ hf
      have HOK : Hid (NodeOK (nodeAt t k)) := ok
      have HDR : Hid (DAt wr p b ds t.next) := hdr
      clear hc hdr hlook hx hx2 ok hki hii hf
      rcases hkk with hk1 | hk2
      · subst hk1
        have HE : Hid (r = .error 8) := by
          show _ = _
          rw [← HW.out, List.drop_eq_getElem_cons hlt, walkB, if_pos (by rw [HK.out]; omega)]
        clear HW
        go_wp2
        go_ret2
        rw [HE.out]
        exact ⟨rfl, HB.out.alloc HB.out.size _⟩
      · subst hk2
        have hz := HF.out.nz (nodeAt_mem hk)
        have HL : Hid (∀ W, Below wr.heap.size wr W → Calls Tryz.prog 78 #[.agg #[.int .i64 2, .slice da (nodeAt t k).data.length dc, .slice sa (nodeAt t k).names.length sc], .string x] W fun e w' => e = .returned (.tuple #[.int .i64 (nameB (nodeAt t k) x), .bool (hasB (nodeAt t k).names x)]) ∧ Below W.heap.size W w') := fun W hW => by
          exact leads_of HOK.out HK.out (HF.out.names _ (nodeAt_mem hk)) (HFI.out.below hW) x
        have HNM := has_name HOK.out hz x
        cases hh : hasB (nodeAt t k).names x with
        | false =>
          have hz0 : nameB (nodeAt t k) x = 0 := by
            apply Classical.byContradiction
            intro hc
            rw [HNM.2 hc] at hh; cases hh
          have HE : Hid (r = .error 5) := by
            show _ = _
            rw [← HW.out, List.drop_eq_getElem_cons hlt, walkB, if_neg (by rw [HK.out]; omega), if_pos (by rw [HX.out]; exact hz0)]
          rw [hz0, hh] at HL
          clear HW HNM hz hz0 hh
          go_wp2_with fail
          go_at_call 78
          refine (HL.out _ ((Below.refl _ _).alloc (Nat.le_refl _) _)).mono ?_
          rintro e w1 ⟨rfl, hb1⟩
          have HB1 : Hid (Below w.heap.size w w1) := bel2v (HB.out.alloc HB.out.size _) hb1
          clear hb1
          go_wp2
          go_ret2
          rw [HE.out]
          exact ⟨rfl, HB1.out⟩
        | true =>
          obtain ⟨k', hp1, hp2, hp3, hp4⟩ := HF.out.step hk (s := x) (HNM.1 hh)
          have HW2 : Hid (walkB t k' (l.drop (j + 1)) = r) := by
            show _ = _
            rw [← HW.out]
            exact (walk_more HF.out hlt HK.out (by rw [HX.out]; exact HNM.1 hh) (by rw [HX.out]; exact hp1)).symm
          rw [hh, ← hp3] at HL
          clear HW HNM hz hh hp1 hp3 hp4
          go_wp2_with fail
          go_at_call 78
          refine (HL.out _ ((Below.refl _ _).alloc (Nat.le_refl _) _)).mono ?_
          rintro e w1 ⟨rfl, hb1⟩
          have HB1 : Hid (Below w.heap.size w w1) := bel2v (HB.out.alloc HB.out.size _) hb1
          clear hb1
          go_wp2
          go_roundw
          case rel => exact ⟨k', j + 1, rfl, by simp, by omega, hp2, HW2, HB1⟩
          case measure => simp [intOf]; omega
    · have e : j = l.length := by omega
      subst e
      have HE : Hid (r = .ok k) := by
        show _ = _
        rw [← HW.out, List.drop_length, walkB]
      clear HW hdr
      go_wp2
      go_ret2
      rw [HE.out]
      exact ⟨rfl, HB.out⟩
set_option maxRecDepth 4000 in
set_option maxHeartbeats 8000000 in
theorem dfind_any (s : ByteArray) (w : World) (p b : Nat) (t : TreeB) (hT : DTree w p b t) (ht : Fair t) (hs : s.size ≤ maxLen) :
    Calls Tryz.prog 22 #[.pointer (some ⟨p, 0, none⟩), .string s] w fun e w' => e = .returned (.tuple #[.int .i64 (outW2 t (findB t s)).1, errV (outW2 t (findB t s)).2]) ∧ Below w.heap.size w w' := by
  have HX : Hid (Calls Tryz.prog 44 _ _ _) := nsplit_any s w hs
  have cp := split_code s
  have sp := split_small s
  have HU : Hid (findB t s = if (splitB s).2 ≠ 0 then .error (splitB s).2 else walkB t 0 (splitB s).1) := by
    show findB t s = _
    unfold findB
    rw [ht.rootP]
  obtain ⟨⟨a, e⟩, he⟩ : ∃ x, splitB s = x := ⟨_, rfl⟩
  rw [he] at HX cp sp HU
  simp only at HX cp sp HU
  have HT : Hid (DTree w p b t ∧ Fair t ∧ a.length ≤ 6) := ⟨hT, ht, sp.1⟩
  obtain ⟨q, hq⟩ : ∃ q, findB t s = q := ⟨_, rfl⟩
  rw [hq] at HU ⊢
  clear hs he sp hT ht hq
  rcases cp with hp0 | ⟨hp0, _⟩
  · subst hp0
    have e0 : errV 0 = .nilIface := rfl
    rw [e0] at HX
    have HR : Hid (q = walkB t 0 a) := by show _ = _; rw [HU.out, if_neg (by simp)]
    clear e0 HU
    go_enter Tryz.func22, Tryz.ntmps22
    go_wp2_with fail
    go_at_call 44
    refine HX.out.mono ?_
    rintro e1 w1 ⟨r1, rfl, hr1, hb1⟩
    have H1 : Hid (Sees w1 r1 (strs a) ∧ Below w.heap.size w w1) := ⟨hr1, hb1⟩
    have HM : Hid (Calls Tryz.prog 32 _ _ _) := dmade_any w1 p b t (HT.out.1.below hb1)
    have HFo : Hid (Calls Tryz.prog 45 _ _ _) := dfollow_any r1 a w1 p b t (HT.out.1.below hb1) HT.out.2.1 hr1 (by have := HT.out.2.2; omega)
    clear hr1 hb1 HX
    go_wp2_with fail
    go_at_call 32
    refine HM.out.mono ?_
    rintro e2 w2 ⟨rfl, h2⟩
    have h2 := h2.symm
    subst h2
    clear HM
    go_wp2_with fail
    go_at_call 45
    refine HFo.out.mono ?_
    rintro e2 w2 ⟨rfl, hb2⟩
    have H2 : Hid (Below w.heap.size w w2) := bel2v H1.out.2 hb2
    clear HFo hb2 H1
    go_wp2
    go_ret2
    rw [HR.out]
    exact ⟨rfl, H2.out⟩
  · have HE : errV e = .iface 80 (.int .i64 e) := by unfold errV; rw [if_neg hp0]
    have HE2 : Hid (errV e = .iface 80 (.int .i64 e)) := HE
    have HR : Hid (q = .error e) := by show _ = _; rw [HU.out, if_pos hp0]
    rw [HE] at HX
    clear HU hp0 HE
    go_enter Tryz.func22, Tryz.ntmps22
    go_wp2_with fail
    go_at_call 44
    refine HX.out.mono ?_
    rintro e1 w1 ⟨r1, rfl, hr1, hb1⟩
    have H1 : Hid (Below w.heap.size w w1) := hb1
    clear hr1 hb1 HX
    go_wp2
    go_ret2
    rw [HR.out]
    exact ⟨by simp only [outW2]; rw [HE2.out]; rfl, H1.out⟩
end Go.Proofs.YtbebgobboccjcaaGreatDoor
/- strings.Clone, and a file's bytes: sized, written. -/
namespace Go.Proofs.YtbebgobboccjcaaGreatDoor
open Go.RowKit Kit
set_option linter.unusedVariables false

theorem infoU8 : (Tryz.prog.info? 5).map (fun i => (i.zero, i.size, i.bytes)) = some (some (.int .u8 0), 1, 1) := by kernel_rfl
theorem sizeU8 : (Tryz.prog.info? 5).map (·.size) = some 1 := by kernel_rfl
theorem made_list (n : Nat) : (madeCells #[Value.int .u8 0] n).toList = List.replicate n (.int .u8 0) := by
  apply List.ext_getElem?
  intro i
  by_cases h : i < n
  · simp [madeCells, h, Nat.mod_one]
  · simp [madeCells, h]
theorem made_arr (n : Nat) : madeCells #[Value.int .u8 0] n = (List.replicate n (Value.int .u8 0)).toArray := by
  rw [← made_list n]
set_option maxRecDepth 4000 in
set_option maxHeartbeats 4000000 in
theorem dslclone_any (s : ByteArray) (w : World) (hs : s.size ≤ 1000) : Calls Tryz.prog 107 #[.string s] w fun e w' => e = .returned (.string s) ∧ Below w.heap.size w w' := by
  by_cases h0 : s.size = 0
  · have e : s = ⟨#[]⟩ := by
      cases s with
      | mk d => have : d.size = 0 := h0; rw [Array.eq_empty_of_size_eq_zero this]
    subst e
    go_enter Tryz.func107, Tryz.ntmps107
    go_wp2
    go_ret
    exact ⟨rfl, Below.refl _ _⟩
  · have h1 := run_make_row' (P := Tryz.prog) 33 5 (.int .u8 0) 1 Tryz.underlying33 infoU8 rfl .i64 .i64 s.size (by omega) (by omega) w
    obtain ⟨W1, hW1⟩ : ∃ W, W = w.alloc (.cells (madeCells #[.int .u8 0] s.size) 5) := ⟨_, rfl⟩
    rw [← hW1] at h1
    have hg1 : W1.heap[w.heap.size]? = some (.cells (madeCells #[.int .u8 0] s.size) 5 (0, 0)) := by rw [hW1]; exact (MapKept.heap_alloc w _).1
    have h2 := fun ty => Lib.run_copy_row_string (P := Tryz.prog) W1 33 9 ty 5 w.heap.size 0 s.size s.size s _ 5 Tryz.underlying33 sizeU8 hg1 (Nat.le_refl _) (by rw [made_arr, List.size_toArray, List.length_replicate]; omega)
    obtain ⟨W2, hW2⟩ : ∃ W, W = W1.setRow w.heap.size ((madeCells #[Value.int .u8 0] s.size).toList.take 0 ++ Lib.byteCells s.data.toList ++ (madeCells #[Value.int .u8 0] s.size).toList.drop (0 + s.size)).toArray := ⟨_, rfl⟩
    rw [← hW2] at h2
    have hsz : s.data.toList.length = s.size := by rw [Array.length_toList]; rfl
    have hg2 : W2.heap[w.heap.size]? = some (.cells (Lib.byteCells s.data.toList).toArray 5 (0, 0)) := by
      rw [hW2, setRow_heap _ _ _ _ _ _ hg1, made_list]
      simp
    have h3 := fun ty => Lib.run_unsafeString_row (P := Tryz.prog) W2 192 3 ty 5 Tryz.underlying192 (by kernel_rfl) w.heap.size s.size (by simp [World.shape?, hg2, Lib.byteCells_length, hsz]) s.data.toList (by intro e; rw [e] at hsz; simp at hsz; omega) (by omega) (by omega) (fun j x hx => by
      have hj : j < (Lib.byteCells s.data.toList).length := by rw [Lib.byteCells_length]; exact (List.getElem?_eq_some_iff.1 hx).1
      rw [Addr.add_lit]
      simp only [World.cell?, hg2, Nat.zero_add]
      simp [Lib.byteCells, hx])
    rw [hsz] at h3
    have es : (⟨s.data.toList.toArray⟩ : ByteArray) = s := by cases s; simp
    rw [es] at h3
    have HB : Hid (Below w.heap.size w (W2.freeze ⟨w.heap.size, 0, none⟩ s.size)) := by
      show Below w.heap.size w (W2.freeze ⟨w.heap.size, 0, none⟩ s.size)
      refine Lib.below_freeze (B := w.heap.size) (p := ⟨w.heap.size, 0, none⟩) ?_ (by exact Nat.le_refl _) _
      rw [hW2]
      refine below_setRow ?_ (Nat.le_refl _) _
      rw [hW1]
      exact (Below.refl _ _).alloc (Nat.le_refl _) _
    obtain ⟨W3, hW3⟩ : ∃ W, W = W2.freeze ⟨w.heap.size, 0, none⟩ s.size := ⟨_, rfl⟩
    rw [← hW3] at h3 HB
    have hz : ((s.size : Int) == 0) = false := beq_eq_false_iff_ne.2 (by omega)
    have hp : (0 : Int) < (s.size : Int) := by omega
    have hp2 : (s.size : Int) ≤ 1000 := by omega
    simp only [goInt] at h2
    clear hW1 hW2 hW3 hg1 hg2 es hsz
    go_enter Tryz.func107, Tryz.ntmps107
    go_wp2
    go_ret
    exact ⟨rfl, HB.out⟩
set_option maxRecDepth 4000 in
set_option maxHeartbeats 4000000 in
theorem dsclone_any (s : ByteArray) (w : World) (hs : s.size ≤ 1000) : Calls Tryz.prog 70 #[.string s] w fun e w' => e = .returned (.string s) ∧ Below w.heap.size w w' := by
  have HX : Hid (Calls Tryz.prog 107 _ _ _) := dslclone_any s w hs
  go_enter Tryz.func70, Tryz.ntmps70
  go_wp2_with (go_at_call 107; refine HX.out.mono ?_; rintro e w' ⟨rfl, hb⟩)
  go_ret
  exact ⟨rfl, hb⟩
/-- copy, as an equation. -/
theorem run_copy_sp (w : World) (sp : Option Addr) (dLen dCap sLen sCap : Nat) (g off : Nat) (cur : List Value) (hg : w.heap[g]? = some (.cells cur.toArray 5 (0, 0))) (cs : List Value) (hn : cs.length = Nat.min sLen dLen)
    (hpos : 0 < cs.length → ∃ ad, sp = some ad ∧ ∀ j v, cs[j]? = some v → w.cell? (ad.add j) = some v)
    (hfit : off + cs.length ≤ cur.length) (h1 : ∀ v ∈ cs, v.oneCell' = true) (B : Nat) (w0 : World) (hb : Below B w0 w) (hBg : B ≤ g) :
    ∃ w', (Builtin.copy_ #[33, 33] 3 #[.slice (some ⟨g, off, none⟩) dLen dCap, .slice sp sLen sCap]).run Tryz.prog w = .ok (.int .i64 (cs.length : Int)) w' ∧ w'.heap[g]? = some (.cells (splice cur off cs).toArray 5 (0, 0)) ∧ Below B w0 w' := by
  by_cases h0 : cs.length = 0
  · obtain rfl : cs = [] := List.eq_nil_of_length_eq_zero h0
    exact ⟨w, run_copy_none (P := Tryz.prog) w 33 33 3 5 _ sp dLen dCap sLen sCap Tryz.underlying33 sizeU8 (by simpa using hn.symm), by simpa [splice] using hg, hb⟩
  · obtain ⟨ad, rfl, hsrc⟩ := hpos (by omega)
    refine ⟨_, run_copy_row (P := Tryz.prog) w 33 33 3 5 g off dLen dCap ad sLen sCap cur.toArray 5 cs Tryz.underlying33 sizeU8 hg hn hsrc (by simpa using hfit) h1, ?_, below_setRow hb hBg _⟩
    simpa [splice] using setRow_heap w g _ _ 5 _ hg
theorem splice_bytes (l : List Int) (n : Nat) : splice (List.replicate n (Value.int .u8 0)) 0 ((intsV .u8 l).take n) = intsV .u8 (bytesB l n) := by
  unfold splice bytesB intsV
  simp only [List.take_zero, List.nil_append, Nat.zero_add, List.map_append, List.map_take, List.map_replicate]
  congr 1
  rw [List.drop_replicate, List.length_take, List.length_map]
  congr 1
  omega
theorem ints_one (k : IntKind) (l : List Int) : ∀ v ∈ intsV k l, v.oneCell' = true := by
  intro v hv
  unfold intsV at hv
  obtain ⟨x, _, rfl⟩ := List.mem_map.1 hv
  rfl
set_option maxRecDepth 4000 in
set_option maxHeartbeats 4000000 in
theorem dsized_any (dv : Value) (l : List Int) (n : Nat) (w : World) (hd : Sees w dv (intsV .u8 l)) (hn : n ≤ 2000) :
    Calls Tryz.prog 105 #[dv, .int .i64 (n : Int)] w fun e w' => e = .returned (.slice (some ⟨w.heap.size, 0, none⟩) n n) ∧ w'.heap[w.heap.size]? = some (.cells (intsV .u8 (bytesB l n)).toArray 5 (0, 0)) ∧ Below w.heap.size w w' := by
  obtain ⟨ao, cap, rfl, h1, h2, h3, h4⟩ := hd
  rw [intsV_len] at h1 h4 ⊢
  have hm := run_make_row' (P := Tryz.prog) 33 5 (.int .u8 0) 1 Tryz.underlying33 infoU8 rfl .i64 .i64 n (by omega) (by omega) w
  obtain ⟨W1, hW1⟩ : ∃ W, W = w.alloc (.cells (madeCells #[.int .u8 0] n) 5) := ⟨_, rfl⟩
  rw [← hW1] at hm
  have H1 : Hid (W1.heap[w.heap.size]? = some (.cells (List.replicate n (Value.int .u8 0)).toArray 5 (0, 0)) ∧ Below w.heap.size w W1) := by
    rw [hW1, made_arr]
    exact ⟨(MapKept.heap_alloc w _).1, (Below.refl _ _).alloc (Nat.le_refl _) _⟩
  have HP : Hid (0 < ((intsV .u8 l).take n).length → ∃ ad, ao = some ad ∧ ∀ j v, ((intsV .u8 l).take n)[j]? = some v → W1.cell? (ad.add j) = some v) := fun h0 => by
    have hl0 : 0 < l.length := by rw [List.length_take, intsV_len] at h0; omega
    obtain ⟨b, off, e, hb, hh⟩ := h4 hl0
    refine ⟨_, e, fun j v hj => ?_⟩
    rw [Addr.add_lit, H1.out.2.cell (by exact hb)]
    rw [List.getElem?_take] at hj
    split at hj
    · exact hh j v hj
    · cases hj
  have HC : Hid (((intsV .u8 l).take n).length = Nat.min l.length n ∧ 0 + ((intsV .u8 l).take n).length ≤ (List.replicate n (Value.int .u8 0)).length ∧ ∀ v ∈ (intsV .u8 l).take n, v.oneCell' = true) := by
    refine ⟨by rw [List.length_take, intsV_len]; exact Nat.min_comm _ _, by rw [List.length_take, List.length_replicate]; omega, fun v hv => ints_one .u8 l v (List.mem_of_mem_take hv)⟩
  obtain ⟨cs, hcs⟩ : ∃ cs, (intsV .u8 l).take n = cs := ⟨_, rfl⟩
  have HSP : Hid (splice (List.replicate n (Value.int .u8 0)) 0 cs = intsV .u8 (bytesB l n)) := by show _ = _; rw [← hcs]; exact splice_bytes l n
  rw [hcs] at HP HC
  obtain ⟨cur, hcur⟩ : ∃ cur, List.replicate n (Value.int .u8 0) = cur := ⟨_, rfl⟩
  rw [hcur] at H1 HC HSP
  have ni : (n : Int) ≤ 2000 := by omega
  have n0 : (0 : Int) ≤ (n : Int) := by omega
  obtain ⟨w2, hcp, hg2, hb2⟩ := run_copy_sp W1 ao n n l.length cap w.heap.size 0 cur H1.out.1 cs HC.out.1 HP.out HC.out.2.1 HC.out.2.2 w.heap.size w H1.out.2 (Nat.le_refl _)
  have HG : Hid (w2.heap[w.heap.size]? = some (.cells (splice cur 0 cs).toArray 5 (0, 0)) ∧ Below w.heap.size w w2) := ⟨hg2, hb2⟩
  clear h1 h2 h3 h4 hW1 hcs hcur hg2 hb2 HP HC
  go_enter Tryz.func105, Tryz.ntmps105
  go_wp2
  go_ret
  refine ⟨rfl, ?_, HG.out.2⟩
  rw [← HSP.out]
  exact HG.out.1
theorem splice_laid (b d : List Int) (off : Nat) (h : off + d.length ≤ b.length) : splice (intsV .u8 b) off (intsV .u8 d) = intsV .u8 (laidB b off d) := by
  unfold splice laidB intsV
  simp [List.append_assoc]
set_option maxRecDepth 4000 in
set_option maxHeartbeats 4000000 in
theorem dwritten_any (dv mv : Value) (l m : List Int) (off : Nat) (w : World) (hd : Sees w dv (intsV .u8 l)) (hm : Sees w mv (intsV .u8 m)) (hl : l.length ≤ 2000) (ho : off + m.length ≤ 2000) :
    Calls Tryz.prog 104 #[dv, .int .i64 (off : Int), mv] w fun e w' => ∃ v, e = .returned v ∧ Sees w' v (intsV .u8 (if m.length = 0 then l else laidB (bytesB l (max l.length (off + m.length))) off m)) ∧ Below w.heap.size w w' := by
  have hd0 := hd
  obtain ⟨mo, mc, rfl, k1, k2, k3, k4⟩ := hm
  rw [intsV_len] at k1 k4 ⊢
  by_cases h0 : m.length = 0
  · rw [if_pos h0, h0]
    have HD : Hid (Sees w dv (intsV .u8 l)) := hd
    obtain ⟨ao, cap, hdv, hjunk⟩ := hd
    subst hdv
    clear hjunk
    clear k1 k2 k3 k4 hd0
    go_enter Tryz.func104, Tryz.ntmps104
    go_wp2
    go_ret
    exact ⟨_, rfl, HD.out, Below.refl _ _⟩
  · rw [if_neg h0]
    have HX : Hid (Calls Tryz.prog 105 _ _ _) := dsized_any dv l (max l.length (off + m.length)) w hd (by omega)
    obtain ⟨ao, cap, hdv, hjunk⟩ := hd
    subst hdv
    clear hjunk
    obtain ⟨N, hN⟩ : ∃ N, max l.length (off + m.length) = N := ⟨_, rfl⟩
    rw [hN] at HX ⊢
    rw [intsV_len] at HX ⊢
    obtain ⟨mb, mf, hmo, hmb, hmh⟩ := k4 (by omega)
    subst hmo
    clear k4
    have HM : Hid (∀ W, Below w.heap.size w W → ∀ j v, (intsV .u8 m)[j]? = some v → W.cell? ((⟨mb, mf, none⟩ : Addr).add j) = some v) := fun W hW j v hj => by
      rw [Addr.add_lit, hW.cell (by exact hmb)]
      exact hmh j v hj
    have HL : Hid (off + m.length ≤ N ∧ (bytesB l N).length = N) := ⟨by omega, bytesB_len l N⟩
    have hNi : ((max l.length (off + m.length) : Nat) : Int) = (N : Int) := by rw [hN]
    have hmx : max (l.length : Int) ((off : Int) + (m.length : Int)) = (N : Int) := by omega
    have mz : ((m.length : Int) == 0) = false := beq_eq_false_iff_ne.2 (by omega)
    have m1 : (m.length : Int) ≤ 2000 := by omega
    have o1 : (off : Int) ≤ 2000 := by omega
    have oN : (off : Int) ≤ (N : Int) := by omega
    clear k1 k2 k3 hd0 hN hNi hmh
    go_enter Tryz.func104, Tryz.ntmps104
    go_wp2_with fail
    go_at_call 105
    refine HX.out.mono ?_
    rintro e w1 ⟨rfl, hg1, hb1⟩
    have H1 : Hid (w1.heap[w.heap.size]? = some (.cells (intsV .u8 (bytesB l N)).toArray 5 (0, 0)) ∧ Below w.heap.size w w1) := ⟨hg1, hb1⟩
    have HP : Hid (0 < (intsV .u8 m).length → ∃ ad, some (⟨mb, mf, none⟩ : Addr) = some ad ∧ ∀ j v, (intsV .u8 m)[j]? = some v → w1.cell? (ad.add j) = some v) := fun _ => ⟨_, rfl, HM.out w1 hb1⟩
    have HC : Hid ((intsV .u8 m).length = Nat.min m.length (N - off) ∧ off + (intsV .u8 m).length ≤ (intsV .u8 (bytesB l N)).length ∧ ∀ v ∈ intsV .u8 m, v.oneCell' = true) := by
      have := HL.out
      refine ⟨?_, by rw [intsV_len, intsV_len]; omega, ints_one .u8 m⟩
      rw [intsV_len]
      have : Nat.min m.length (N - off) = m.length := Nat.min_eq_left (by omega)
      rw [this]
    have HSP : Hid (splice (intsV .u8 (bytesB l N)) off (intsV .u8 m) = intsV .u8 (laidB (bytesB l N) off m)) := splice_laid _ _ _ (by have := HL.out; omega)
    have HLN : Hid ((laidB (bytesB l N) off m).length = N) := by
      have := HL.out
      show _ = _
      rw [laidB_len _ _ _ (by omega), this.2]
    obtain ⟨cs, hcs⟩ : ∃ cs, intsV .u8 m = cs := ⟨_, rfl⟩
    obtain ⟨cur, hcur⟩ : ∃ cur, intsV .u8 (bytesB l N) = cur := ⟨_, rfl⟩
    rw [hcs] at HP HC HSP
    rw [hcur] at H1 HC HSP
    obtain ⟨w2, hcp, hg2, hb2⟩ := run_copy_sp w1 (some ⟨mb, mf, none⟩) (N - off) (N - off) m.length mc w.heap.size off cur H1.out.1 cs HC.out.1 HP.out HC.out.2.1 HC.out.2.2 w.heap.size w H1.out.2 (Nat.le_refl _)
    have HG : Hid (w2.heap[w.heap.size]? = some (.cells (splice cur off cs).toArray 5 (0, 0)) ∧ Below w.heap.size w w2) := ⟨hg2, hb2⟩
    clear hg1 hb1 HX HM hcs hcur hg2 hb2 HP HC
    go_wp2
    go_ret
    refine ⟨_, rfl, ?_, HG.out.2⟩
    have hg3 := HG.out.1
    rw [HSP.out] at hg3
    have hl3 : w.heap.size < w2.heap.size := (Array.getElem?_eq_some_iff.1 hg3).1
    have hLN := HLN.out
    refine ⟨some ⟨w.heap.size, 0, none⟩, N, by rw [intsV_len, hLN]; rfl, by rw [intsV_len, hLN]; exact Nat.le_refl _, by unfold maxLen; omega, by simp, fun _ => ⟨w.heap.size, 0, rfl, hl3, fun i x hx => ?_⟩⟩
    simp only [World.cell?, hg3, Nat.zero_add]
    simpa using hx
end Go.Proofs.YtbebgobboccjcaaGreatDoor
/- slices.Concat of a directory's slots. -/
namespace Go.Proofs.YtbebgobboccjcaaGreatDoor
open Go.RowKit Kit
set_option linter.unusedVariables false

theorem infoSl : (Tryz.prog.info? 97).map (fun i => (i.zero, i.size, i.bytes)) = some (some (.agg #[.string ⟨#[]⟩, .int .i64 0]), 2, 24) := by kernel_rfl
/-- A row of the call's own that holds slots. -/
def RowS (w : World) (base : Nat) (v : Value) (ps : List (ByteArray × Int)) : Prop := w.ownsRow base 97 2 v ps.length (flatS ps)
theorem RowS.sees {w : World} {base : Nat} {v : Value} {ps : List (ByteArray × Int)} (h : RowS w base v ps) : SeesS w v ps := by
  have h0 := h
  unfold RowS at h
  obtain ⟨h1, h2⟩ := h
  rcases h2 with ⟨h2, h3⟩ | ⟨g, cap, cur, hv, hg, hh, hn, hm, _, _⟩
  · exact ⟨none, 0, by rw [h3]; exact h2, by omega, by simp, fun _ => rfl, fun h => absurd h (by omega)⟩
  · refine ⟨_, cap, hv, hn, hm, by simp, fun _ => ⟨g, 0, rfl, (Array.getElem?_eq_some_iff.1 hh).1, fun i x hx => ?_⟩⟩
    subst hv
    unfold RowS at h0
    have hi := (List.getElem?_eq_some_iff.1 hx).1
    rw [flatS_len] at hi
    rw [Nat.zero_add, h0.cellAt i (by omega)]
    exact hx
theorem RowS.block {w : World} {base : Nat} {v : Value} {ps : List (ByteArray × Int)} (h : RowS w base v ps) : ∀ j, v.ownBlock = some j → base ≤ j := by
  intro j hj
  unfold RowS at h
  exact (h.lt j hj).1
theorem slots_one (ps : List (ByteArray × Int)) : ∀ u ∈ flatS ps, u.oneCell' = true := by
  intro u hu
  unfold flatS at hu
  obtain ⟨p, _, hp⟩ := List.mem_flatMap.1 hu
  simp [slotC] at hp
  rcases hp with rfl | rfl <;> rfl
set_option maxRecDepth 4000 in
/-- append of slots onto a row of the call's own. -/
theorem wpList_appP {ops : Array Oper} {rest : List Oper} {o : Oper} {a : Act} {Q : Exit → Act → World → Prop} {w : World} (hgd : o.guard = none) (s x : Operand)
    (ho : o.op = .call { callee := .builtin .append, args := #[s, x], argTypes := #[68, 68] }) (base : Nat) (v : Value) (xs : List (ByteArray × Int)) (hs : a.eval s = v) (hown : RowS w base v xs)
    (y : Value) (news : List (ByteArray × Int)) (hx : a.eval x = y) (hv : SeesS w y news) (hlen : xs.length + news.length ≤ 1000000) (hbase : base ≤ w.heap.size)
    (h : ∀ v' w', RowS w' base v' (xs ++ news) → w.grownBy w' v.ownBlock → wpList Tryz.prog ops Q rest (a.put o.dst v') w') : wpList Tryz.prog ops Q (o :: rest) a w := by
  obtain ⟨i0, hi, hz0, hz1, hz2⟩ := info_partsV infoSl
  obtain ⟨ao, cap, rfl, h1, h2, h3, h4⟩ := hv
  cases ao with
  | none =>
    have hc := h3 rfl
    have hn : news = [] := List.eq_nil_of_length_eq_zero (by omega)
    subst hn
    subst hc
    refine wpList_append_own_none hgd s x 68 ho base 97 i0 2 Tryz.underlying68 hi v xs.length (flatS xs) hs hown hx (h v w ?_ ⟨rfl, rfl, rfl, Nat.le_refl _, fun _ _ _ => rfl⟩)
    rw [List.append_nil]; exact hown
  | some ad =>
    refine wpList_appS Tryz.underlying68 infoSl (by rfl) (by omega) hgd s x ho base v xs.length (flatS xs) hs hown ad news.length cap (flatS news) hx (flatS_len news) ?_ (slots_one news) (by unfold maxLen; omega) (by omega) hbase ?_
    · intro j u hj
      have hj' : j < (flatS news).length := (List.getElem?_eq_some_iff.1 hj).1
      rw [flatS_len] at hj'
      obtain ⟨b, off, e, _, hh⟩ := h4 (by omega)
      cases e
      rw [Addr.add_lit]
      exact hh j u hj
    · intro v' w' k1 k2
      refine h v' w' ?_ k2
      unfold RowS
      rw [List.length_append, flatS_append]; exact k1
set_option maxRecDepth 4000 in
/-- slices.Grow of nothing. -/
theorem dgrow_any (n : Nat) (w : World) (hn : n ≤ 1000000) : Calls Tryz.prog 147 #[.slice none 0 0, .int .i64 (n : Int)] w fun e w' => ∃ v, e = .returned v ∧ RowS w' w.heap.size v [] ∧ Below w.heap.size w w' := by
  obtain ⟨i0, hi, hz0, hz1, hz2⟩ := info_partsV infoSl
  by_cases h0 : n = 0
  · subst h0
    refine (Any8.slices_Grow_room Tryz.growS none 0 0 0 w (by omega) (by omega) (by omega) (by omega)).mono ?_
    rintro e w' ⟨rfl, rfl⟩
    exact ⟨_, rfl, World.ownsRow_nil _ _ _ _, Below.refl _ _⟩
  · refine (Any8.slices_Grow_grow Tryz.growS i0 (.agg #[.string ⟨#[]⟩, .int .i64 0]) hi hz0 (by omega) none 0 0 n [] w (by omega) (by omega) (by rw [hz2]; omega) (by omega) (by simp) (fun _ => rfl) (fun a h => by cases h)).mono ?_
    rintro e w' ⟨rfl, rfl⟩
    refine ⟨_, rfl, ?_, (Below.refl _ w).drew.alloc (Nat.le_refl _) _⟩
    have hg : n ≤ grownCap w (0 + n) 0 97 := by have := grownCap_ge w (0 + n) 0 97; omega
    have hm := grownCap_le_maxLen w (0 + n) 0 97 (by unfold maxLen; omega)
    unfold RowS
    have := World.ownsRow_made (base := w.heap.size) (e := 97) (size := 2) w.drew (((([] : List Value).toArray ++ Builtin.zeroCells (Value.agg #[.string ⟨#[]⟩, .int .i64 0]).cells (0 + n - 0) ++ Builtin.zeroCells (Value.agg #[.string ⟨#[]⟩, .int .i64 0]).cells (grownCap w (0 + n) 0 97 - (0 + n))))) (grownCap w (0 + n) 0 97) (Nat.le_refl _) hm (by
      rw [Nat.zero_add] at hg
      simp [Builtin.zeroCells, Value.cells]
      omega)
    exact this
def tot2 (pss : List (List (ByteArray × Int))) (j : Nat) : Nat := ((pss.take j).map List.length).sum
theorem tot2_succ (pss : List (List (ByteArray × Int))) (j : Nat) (h : j < pss.length) : tot2 pss (j + 1) = tot2 pss j + pss[j].length := by
  unfold tot2
  rw [List.take_succ_eq_append_getElem h, List.map_append, List.sum_append]
  simp
theorem tot2_le (pss : List (List (ByteArray × Int))) (j : Nat) : tot2 pss j ≤ (pss.map List.length).sum := by
  unfold tot2
  have : (pss.map List.length).sum = ((pss.take j).map List.length).sum + ((pss.drop j).map List.length).sum := by
    rw [← List.sum_append, ← List.map_append, List.take_append_drop]
  omega
theorem flat_take_len (pss : List (List (ByteArray × Int))) (j : Nat) : (pss.take j).flatten.length = tot2 pss j := by
  unfold tot2
  rw [List.length_flatten]
set_option maxRecDepth 4000 in
set_option maxHeartbeats 8000000 in
theorem dconcat_any (v : Value) (vs : List Value) (pss : List (List (ByteArray × Int))) (w : World) (hv : Sees w v vs) (hl : vs.length = pss.length) (hn : pss.length ≤ 1000) (hs : ∀ j (h1 : j < vs.length) (h2 : j < pss.length), SeesS w vs[j] pss[j]) (hsz : (pss.map List.length).sum ≤ 1000000) :
    Calls Tryz.prog 129 #[v] w fun e w' => ∃ r, e = .returned r ∧ RowS w' w.heap.size r pss.flatten ∧ Below w.heap.size w w' := by
  obtain ⟨ao, cap, rfl, h1, h2, h3, h4⟩ := hv
  rw [hl] at h1 h4 ⊢
  have H4 : Hid (0 < pss.length → _) := h4
  have HS : Hid (∀ j (h1 : j < vs.length) (h2 : j < pss.length), SeesS w vs[j] pss[j]) := hs
  have HL : Hid (vs.length = pss.length) := hl
  have HT : Hid (∀ j, tot2 pss j ≤ 1000000) := fun j => Nat.le_trans (tot2_le pss j) hsz
  have HTF : Hid (tot2 pss pss.length = (pss.map List.length).sum) := by show _ = _; unfold tot2; rw [List.take_length]
  have lm : (pss.length : Int) ≤ 1000 := by omega
  clear h1 h2 h3 h4 hl hs hsz
  -- what one round reads
  have HR : Hid (∀ j (hj : j < pss.length) W, Below w.heap.size w W → ∃ g off so n sc, ao = some ⟨g, off, none⟩ ∧ n = pss[j].length ∧ W.cell? ⟨g, off + j, none⟩ = some (.slice so n sc) ∧ SeesS W (.slice so n sc) pss[j] ∧ vs[j]'(by rw [HL.out]; exact hj) = .slice so n sc) := fun j hj W hW => by
    obtain ⟨g, off, hao, hg, hc⟩ := H4.out (by omega)
    have hj2 : j < vs.length := by rw [HL.out]; exact hj
    have hse := HS.out j hj2 hj
    obtain ⟨so, sc, e, r⟩ := id hse
    refine ⟨g, off, so, pss[j].length, sc, hao, rfl, ?_, ?_, e⟩
    · rw [← e]
      exact (hW.cell (by exact hg)).trans (hc j _ (List.getElem?_eq_getElem hj2))
    · rw [← e]; exact hse.below hW
  clear H4 HS
  go_enter Tryz.func129, Tryz.ntmps129
  go_wp2
  go_loopw [3, 11] (fun s3 s11 wr => ∃ j : Nat, j ≤ pss.length ∧ s11 = .int .i64 (j : Int) ∧ s3 = .int .i64 ((tot2 pss j : Nat) : Int) ∧ wr = w) (fun _ s11 _ => pss.length - (intOf s11).toNat)
  case atStart => exact ⟨0, Nat.zero_le _, rfl, rfl, rfl⟩
  case round =>
    obtain ⟨j, hj, rfl, rfl, rfl⟩ := hrel
    by_cases hlt : j < pss.length
    · obtain ⟨g, off, so, n, sc, hao, hn2, hc, _, _⟩ := HR.out j hlt wr (Below.refl _ _)
      subst hao
      have h1 := tot2_succ pss j hlt
      rw [← hn2] at h1
      have h2 := HT.out (j + 1)
      have h3 := HT.out j
      obtain ⟨a, ha⟩ : ∃ a, tot2 pss j = a := ⟨_, rfl⟩
      rw [ha] at h1 h3 ⊢
      have HA : Hid (tot2 pss (j + 1) = a + n) := h1
      have m1 : (a : Int) + (n : Int) ≤ 1000000 := by omega
      have m0 : ¬ ((a : Int) + (n : Int) < 0) := by omega
      have ji : (j : Int) < (pss.length : Int) := by omega
      clear h1 h2 h3 ha hn2
      go_wp2
      go_roundw
      case rel => exact ⟨j + 1, by omega, by simp, by rw [HA.out]; simp, by simp⟩
      case measure => simp [intOf]; omega
    · have ej : j = pss.length := by omega
      subst ej
      have HG : Hid (Calls Tryz.prog 147 _ _ _) := dgrow_any (tot2 pss pss.length) wr (HT.out _)
      go_wp2_with fail
      go_at_call 147
      refine HG.out.mono ?_
      rintro e w1 ⟨v1, rfl, hr1, hb1⟩
      have H1 : Hid (RowS w1 wr.heap.size v1 [] ∧ Below wr.heap.size wr w1) := ⟨hr1, hb1⟩
      clear hr1 hb1 HG
      obtain ⟨w0, hw0⟩ : ∃ z, z = wr := ⟨_, rfl⟩
      subst hw0
      go_wp2
      go_loopw [6, 27] (fun s6 s27 wr => ∃ j : Nat, j ≤ pss.length ∧ s27 = .int .i64 (j : Int) ∧ Hid (RowS wr w0.heap.size s6 (pss.take j).flatten ∧ Below w0.heap.size w0 wr)) (fun _ s27 _ => pss.length - (intOf s27).toNat)
      case atStart => exact ⟨0, Nat.zero_le _, rfl, H1.out⟩
      case round =>
        obtain ⟨j, hj, rfl, HI⟩ := hrel
        by_cases hlt : j < pss.length
        · obtain ⟨g, off, so, n, sc, hao, hn2, hc, hse, _⟩ := HR.out j hlt wr HI.out.2
          subst hao
          have ji : (j : Int) < (pss.length : Int) := by omega
          have HSE : Hid (SeesS wr (.slice so n sc) pss[j]) := hse
          have HN : Hid ((pss.take j).flatten.length + pss[j].length ≤ 1000000) := by
            have h1 := tot2_succ pss j hlt
            have h2 := HT.out (j + 1)
            rw [flat_take_len]
            show _ ≤ _
            omega
          have HTK : Hid ((pss.take (j + 1)).flatten = (pss.take j).flatten ++ pss[j]) := by
            show _ = _
            rw [List.take_succ_eq_append_getElem hlt, List.flatten_append]
            simp
          clear hn2 hse
          go_wp2_with (at_builtin; refine wpList_appP rfl _ _ rfl w0.heap.size _ _ rfl HI.out.1 _ _ rfl HSE.out HN.out HI.out.2.size ?_; intro v' w' k1 k2)
          have HK : Hid (RowS w' w0.heap.size v' (pss.take (j + 1)).flatten ∧ Below w0.heap.size w0 w') := ⟨by rw [HTK.out]; exact k1, HI.out.2.grown k2 HI.out.2.size HI.out.1.block⟩
          clear k1 k2
          go_wp2
          go_roundw
          case rel => exact ⟨j + 1, by omega, by simp, HK⟩
          case measure => simp [intOf]; omega
        · have ej : j = pss.length := by omega
          subst ej
          go_wp2
          go_ret
          refine ⟨_, rfl, ?_, HI.out.2⟩
          have := HI.out.1
          rw [List.take_length] at this
          exact this
end Go.Proofs.YtbebgobboccjcaaGreatDoor
/- Links, names, plain of a node. -/
namespace Go.Proofs.YtbebgobboccjcaaGreatDoor
open Go.RowKit Kit
set_option linter.unusedVariables false

abbrev Shp := Int × Option Addr × Nat × Nat × Option Addr × Nat × Nat
def mkN (q : Shp) : Value := .agg #[.int .i64 q.1, .slice q.2.1 q.2.2.1 q.2.2.2.1, .slice q.2.2.2.2.1 q.2.2.2.2.2.1 q.2.2.2.2.2.2]
/-- What is left of a count. -/
def leftSum (ds : List DN) (left : Lit → Bool) (i : Int) : Nat := (ds.map fun f => if left (.int .i64 f.n.ino) then f.n.inos.count i else 0).sum
theorem leftSum_all {ds : List DN} {left : Lit → Bool} {i : Int} (h : ∀ f ∈ ds, left (.int .i64 f.n.ino) = true) : leftSum ds left i = (ds.map fun f => f.n.inos.count i).sum := by
  unfold leftSum
  congr 1
  apply List.map_congr_left
  intro f hf
  rw [h f hf]; rfl
theorem leftSum_none {ds : List DN} {left : Lit → Bool} {i : Int} (h : ∀ f ∈ ds, left (.int .i64 f.n.ino) = false) : leftSum ds left i = 0 := by
  unfold leftSum
  have : (ds.map fun f => if left (.int .i64 f.n.ino) then f.n.inos.count i else 0) = ds.map fun _ => 0 := by
    apply List.map_congr_left
    intro f hf
    rw [h f hf]; rfl
  rw [this]
  clear h this
  induction ds with
  | nil => rfl
  | cons a r ih => simp [ih]
theorem leftSum_step : ∀ {ds : List DN} {left : Lit → Bool} {i : Int} {f : DN}, (ds.map DN.ent).Pairwise (fun a b => a.1 < b.1) → f ∈ ds → left (.int .i64 f.n.ino) = true →
    leftSum ds (fun z => left z && !z.sameKey (.int .i64 f.n.ino)) i + f.n.inos.count i = leftSum ds left i
  | a :: r, left, i, f, hp, hf, hl => by
    obtain ⟨h1, h2⟩ := List.pairwise_cons.1 hp
    have e : ∀ (l : Lit → Bool), leftSum (a :: r) l i = (if l (.int .i64 a.n.ino) then a.n.inos.count i else 0) + leftSum r l i := fun l => rfl
    rw [e, e]
    rcases List.mem_cons.1 hf with hf | hf
    · subst hf
      rw [hl]
      have hs : ((Lit.int IntKind.i64 f.n.ino).sameKey (.int .i64 f.n.ino)) = true := by rw [same_int]; simp
      rw [hs]
      have : leftSum r (fun z => left z && !z.sameKey (.int .i64 f.n.ino)) i = leftSum r left i := by
        unfold leftSum
        congr 1
        apply List.map_congr_left
        intro g hg
        have h3 := h1 g.ent (List.mem_map.2 ⟨g, hg, rfl⟩)
        have h3 : f.n.ino < g.n.ino := h3
        have : ((Lit.int IntKind.i64 g.n.ino).sameKey (.int .i64 f.n.ino)) = false := by rw [same_int]; simp; omega
        simp only [this]
        simp
      rw [this]
      simp
      omega
    · have h3 := h1 f.ent (List.mem_map.2 ⟨f, hf, rfl⟩)
      have h3 : a.n.ino < f.n.ino := h3
      have : ((Lit.int IntKind.i64 a.n.ino).sameKey (.int .i64 f.n.ino)) = false := by rw [same_int]; simp; omega
      simp only [this]
      have ih := leftSum_step (i := i) h2 hf hl
      simp only [Bool.not_false, Bool.and_true]
      omega
theorem kids_ds {ds : List DN} {t : TreeB} (h : ds.map DN.n = t.nodes) (i : Int) : kidsB t i = (ds.map fun f => f.n.inos.count i).sum := by
  unfold kidsB
  rw [← h, List.map_map]
  rfl
theorem count_take_succ (l : List Int) (j : Nat) (h : j < l.length) (i : Int) : (l.take (j + 1)).count i = (l.take j).count i + if l[j] = i then 1 else 0 := by
  rw [List.take_succ_eq_append_getElem h, List.count_append, List.count_singleton]
  by_cases e : l[j] = i <;> simp [e]
def linksD (t : TreeB) (i : Int) : Nat := if i = 1 then 1 else kidsB t i
theorem sum_le {α : Type} {f : α → Nat} {c : Nat} : ∀ {l : List α}, (∀ x ∈ l, f x ≤ c) → (l.map f).sum ≤ l.length * c
  | [], _ => by simp
  | a :: r, h => by
    rw [List.map_cons, List.sum_cons, List.length_cons]
    have h1 := h a (by simp)
    have h2 := sum_le (l := r) (fun x hx => h x (by simp [hx]))
    have : (r.length + 1) * c = r.length * c + c := Nat.succ_mul _ _
    omega
theorem Fair.kids_small {t : TreeB} (h : Fair t) (i : Int) : kidsB t i ≤ 610000 := by
  unfold kidsB
  have h1 := sum_le (l := t.nodes) (f := fun n => n.inos.count i) (c := 10000) (fun n hn => by
    have h2 := h.names n hn
    have h3 := (h.each n hn).len
    have h4 : n.inos.count i ≤ n.inos.length := List.count_le_length
    omega)
  have h5 := h.size
  have : t.nodes.length * 10000 ≤ 61 * 10000 := Nat.mul_le_mul_right _ h5
  omega
set_option maxRecDepth 4000 in
set_option maxHeartbeats 8000000 in
theorem dlinks_any (i : Int) (w : World) (p b : Nat) (t : TreeB) (hT : DTree w p b t) (ht : Fair t) :
    Calls Tryz.prog 29 #[.pointer (some ⟨p, 0, none⟩), .int .i64 i] w fun e w' => e = .returned (.int .i64 (linksD t i : Nat)) ∧ Below w.heap.size w w' := by
  have HM : Hid (Calls Tryz.prog 32 _ _ _) := dmade_any w p b t hT
  obtain ⟨ds, hd, hn⟩ := hT
  obtain ⟨c0, _, _⟩ := hd.cells
  by_cases h1 : i = 1
  · subst h1
    have HR : Hid (linksD t 1 = 1) := rfl
    clear hd hn ht
    go_enter Tryz.func29, Tryz.ntmps29
    go_wp2
    go_ret
    exact ⟨by rw [HR.out]; rfl, Below.refl _ _⟩
  · have hi1 : (i == 1) = false := beq_eq_false_iff_ne.2 h1
    have HR : Hid (linksD t i = (ds.map fun f => f.n.inos.count i).sum) := by
      show _ = _
      unfold linksD
      rw [if_neg h1, kids_ds hn]
    have HSM : Hid (linksD t i ≤ 610000) := by
      have := ht.kids_small i
      show linksD t i ≤ _
      unfold linksD
      rw [if_neg h1]; exact this
    obtain ⟨L, hL⟩ : ∃ L, linksD t i = L := ⟨_, rfl⟩
    rw [hL] at HR HSM ⊢
    obtain ⟨w0, hrng, r0, g0, s0⟩ := hd.2.1.range (t := 50) (e := 70) Tryz.underlying3 Tryz.underlying50
    have HW0 : Hid (RangeIs Tryz.prog 3 w0 b w.heap.size (ds.map DN.ent) (Maps.has (entD (ds.map DN.ent))) (ds.map DN.ent).length ∧ Below w.heap.size w w0) := ⟨r0, (Below.refl _ _).grown g0 (Nat.le_refl _) (fun k hk => by cases hk)⟩
    have HD : Hid (DAt w p b ds t.next) := hd
    have HOK : Hid (∀ f ∈ ds, NodeOK f.n ∧ f.n.names.length ≤ 10000) := fun f hf => by
      have hm : f.n ∈ t.nodes := by rw [← hn]; exact List.mem_map.2 ⟨f, hf, rfl⟩
      exact ⟨ht.each _ hm, ht.names _ hm⟩
    have HS : Hid (leftSum ds (Maps.has (entD (ds.map DN.ent))) i = L) := by
      show _ = _
      rw [leftSum_all, HR.out]
      intro f hf
      rw [has_entD]
      have hm : f.ent ∈ ds.map DN.ent := List.mem_map.2 ⟨f, hf, rfl⟩
      unfold getK
      rw [Option.isSome_map, List.find?_isSome]
      exact ⟨f.ent, hm, by show (f.n.ino == f.n.ino) = true; simp⟩
    clear hd hn ht hL r0 g0 s0 HR h1
    go_enter Tryz.func29, Tryz.ntmps29
    go_wp2_with fail
    go_at_call 32
    refine HM.out.mono ?_
    rintro e1 w1 ⟨rfl, h2⟩
    have h2 := h2.symm
    subst h2
    clear HM
    go_wp2
    go_loopw [5] (fun s5 wr => ∃ (c : Nat) (left : Lit → Bool) (cnt : Nat), s5 = .int .i64 (c : Int) ∧ Hid (RangeIs Tryz.prog 3 wr b w.heap.size (ds.map DN.ent) left cnt ∧ Below w.heap.size w wr ∧ c + leftSum ds left i = L)) (fun _ wr => wr.rangeLeft b w.heap.size)
    case atStart => exact ⟨0, _, _, rfl, ⟨HW0.out.1, HW0.out.2, by rw [HS.out]; omega⟩⟩
    case round =>
      obtain ⟨c, left, cnt, rfl, HI⟩ := hrel
      have hrg := HI.out.1
      have inv : ∀ e ∈ ds.map DN.ent, ∃ q : Shp, e.2 = mkN q := by
        intro e he
        obtain ⟨f, hf, rfl⟩ := List.mem_map.1 he
        obtain ⟨da, dc, sa, sc, hfo⟩ := (HD.out.2.2 f hf).form (HOK.out f hf).1
        refine ⟨(f.n.kind, da, f.n.data.length, dc, sa, f.n.names.length, sc), ?_⟩
        show f.val = _
        rw [hfo]; rfl
      have HINV : Hid (∀ e ∈ ds.map DN.ent, ∃ q : Shp, e.2 = mkN q) := inv
      clear inv
      go_wp2_with (at_next; refine wpList_nextK rfl _ rfl 3 Tryz.underlying3 b w.heap.size _ left cnt rfl hrg (fun q : Shp => .agg #[.int .i64 q.1, .slice q.2.1 q.2.2.1 q.2.2.2.1, .slice q.2.2.2.2.1 q.2.2.2.2.2.1 q.2.2.2.2.2.2]) HINV.out ?_ ?_; intro hl0; rotate_left; rintro x ⟨kd, da, dn, dc, sa, n, sc⟩ w1 cnt1 hmem hlx hrg1 hlt hg1 hs1 hen; simp only at hmem hen; rotate_left)
      · have HR : Hid (c = L) := by
          have h1 := HI.out.2.2
          rw [leftSum_none (fun f _ => hl0 _)] at h1
          exact h1
        have HB : Hid (Below w.heap.size w wr) := HI.out.2.1
        clear HI hrg hl0 HINV
        go_wp2
        go_ret
        exact ⟨by rw [HR.out]; rfl, HB.out⟩
      · obtain ⟨f, hf, hfe⟩ := List.mem_map.1 hmem
        have hx : f.n.ino = x := congrArg Prod.fst hfe
        have hv : f.val = .agg #[.int .i64 kd, .slice da dn dc, .slice sa n sc] := congrArg Prod.snd hfe
        have hfs : f.s = .slice sa n sc := by
          unfold DN.val at hv
          injection hv with hv
          have := congrArg (fun a : Array Value => a[2]?) hv
          simpa using this
        have hok := HOK.out f hf
        have hpl : (pairsB f.n).length = f.n.names.length := by unfold pairsB; rw [List.length_zip]; have := hok.1.len; omega
        obtain ⟨ao, cap, e1, k1, k2, k3, k4⟩ := (HD.out.2.2 f hf).2
        rw [hfs] at e1
        injection e1 with e1 e2 e3
        subst e1 e2 e3
        have hni : f.n.inos.length = (pairsB f.n).length := by rw [hpl, hok.1.len]
        have hstep := leftSum_step (i := i) HI.out.1.2 hf (by rw [hx]; exact hlx)
        rw [hx] at hstep
        have hin := HI.out.2.2
        have HB1 : Hid (Below w.heap.size w w1) := HI.out.2.1.grown hg1 HI.out.2.1.size (fun k hk => by injection hk with hk; omega)
        have H4 : Hid (0 < (pairsB f.n).length → _) := k4
        have HIN : Hid (RangeIs Tryz.prog 3 w1 b w.heap.size (ds.map DN.ent) (fun z => left z && !z.sameKey (Lit.int IntKind.i64 x)) cnt1) := hrg1
        have HST : Hid (c + (f.n.inos.count i + leftSum ds (fun z => left z && !z.sameKey (Lit.int IntKind.i64 x)) i) = L) := by show _ = _; omega
        have HNI : Hid (f.n.inos.length = (pairsB f.n).length) := hni
        have nsm : ((pairsB f.n).length : Int) ≤ 10000 := by have := hok.2; omega
        have HCL : Hid (cnt1 < cnt ∧ wr.rangeLeft b w.heap.size = cnt) := ⟨hlt, HI.out.1.1.left_eq⟩
        have HSM2 : Hid (f.n.inos.count i ≤ 10000 ∧ c ≤ 610000) := by
          have h4 : f.n.inos.count i ≤ f.n.inos.length := List.count_le_length
          have h5 := HSM.out
          constructor <;> omega
        have HG : Hid (∀ j, (hj : j < (pairsB f.n).length) → ((pairsB f.n)[j].2 = f.n.inos.getD j 0)) := fun j hj => by
          have : j < f.n.inos.length := by omega
          simp [pairsB, List.getD, this]
        clear hmem hfe hx hv hfs hok hpl k1 k2 k3 k4 hni hstep hin hrg1 hlt hg1 hs1 HI hrg HINV hf hlx
        obtain ⟨w9, hw9⟩ : ∃ z, z = wr := ⟨_, rfl⟩
        subst hw9
        go_loopw [5, 25] (fun s5 s25 wr => ∃ j : Nat, j ≤ (pairsB f.n).length ∧ s25 = .int .i64 (j : Int) ∧ s5 = .int .i64 ((c + (f.n.inos.take j).count i : Nat) : Int) ∧ Hid (Below w1.heap.size w1 wr)) (fun _ s25 _ => (pairsB f.n).length - (intOf s25).toNat)
        case atStart => exact ⟨0, Nat.zero_le _, rfl, by simp, (Below.refl _ _).alloc (Nat.le_refl _) _⟩
        case round =>
          obtain ⟨j, hj, rfl, rfl, HB2⟩ := hrel
          by_cases hjl : j < (pairsB f.n).length
          · obtain ⟨g, off, hao, hgb, hc⟩ := H4.out (by omega)
            subst hao
            have cc := at2_of hc hjl
            have bb := bel2v HB1.out HB2.out
            have d0 := (bb.cell hgb).trans cc.1
            have d1 := (bb.cell hgb).trans cc.2
            have hji : j < f.n.inos.length := by have := HNI.out; omega
            have hgd : f.n.inos.getD j 0 = f.n.inos[j] := by simp [List.getD, hji]
            rw [HG.out j hjl, hgd] at d1
            clear hgd
            have hct := count_take_succ f.n.inos j hji i
            obtain ⟨y, hy⟩ : ∃ y, f.n.inos[j] = y := ⟨_, rfl⟩
            rw [hy] at d1 hct
            have jl : (j : Int) < ((pairsB f.n).length : Int) := by omega
            have hle : (f.n.inos.take j).count i ≤ f.n.inos.count i := List.Sublist.count_le i (List.take_sublist _ _)
            have m1 : ((c + (f.n.inos.take j).count i : Nat) : Int) ≤ 620000 := by have := HSM2.out; omega
            obtain ⟨cj, hcj⟩ : ∃ cj, c + (f.n.inos.take j).count i = cj := ⟨_, rfl⟩
            rw [hcj] at m1 ⊢
            clear hc cc bb hle
            by_cases hyi : y = i
            · subst hyi
              have HC : Hid (c + (f.n.inos.take (j + 1)).count y = cj + 1) := by show _ = _; rw [hct]; simp; omega
              clear hct hcj hy hji
              go_wp2
              go_roundw
              case rel => exact ⟨j + 1, by omega, by simp, by rw [HC.out]; simp, HB2.out.alloc HB2.out.size _⟩
              case measure => simp [intOf]; omega
            · have hyf : (y == i) = false := beq_eq_false_iff_ne.2 hyi
              have HC : Hid (c + (f.n.inos.take (j + 1)).count i = cj) := by show _ = _; rw [hct, if_neg hyi]; omega
              clear hct hcj hy hyi hji
              go_wp2
              go_roundw
              case rel => exact ⟨j + 1, by omega, by simp, by rw [HC.out], HB2.out.alloc HB2.out.size _⟩
              case measure => simp [intOf]; omega
          · have ej : j = (pairsB f.n).length := by omega
            subst ej
            have HT : Hid (f.n.inos.take (pairsB f.n).length = f.n.inos) := List.take_of_length_le (by have := HNI.out; omega)
            rw [HT.out]
            go_wp2
            go_roundw
            case rel => exact ⟨_, _, _, rfl, ⟨HIN.out.below HB2.out, bel2v HB1.out HB2.out, by have := HST.out; omega⟩⟩
            case measure =>
              rw [(HIN.out.below HB2.out).1.left_eq, HCL.out.2]
              exact HCL.out.1
end Go.Proofs.YtbebgobboccjcaaGreatDoor
/- bytes.Clone, part; a node's names; unlike. -/
namespace Go.Proofs.YtbebgobboccjcaaGreatDoor
open Go.RowKit Kit
set_option linter.unusedVariables false

theorem infoSt : (Tryz.prog.info? 9).map (fun i => (i.zero, i.size, i.bytes)) = some (some (.string ⟨#[]⟩), 1, 16) := by kernel_rfl
set_option maxRecDepth 4000 in
set_option maxHeartbeats 4000000 in
theorem dbclone_any (v : Value) (l : List Int) (w : World) (hv : Sees w v (intsV .u8 l)) (hl : l.length ≤ 10000) :
    Calls Tryz.prog 59 #[v] w fun e w' => ∃ r, e = .returned r ∧ RowV w' w.heap.size 5 r (intsV .u8 l) ∧ Below w.heap.size w w' := by
  have HV : Hid (Sees w v (intsV .u8 l)) := hv
  obtain ⟨ao, cap, rfl, h1, h2, h3, h4⟩ := hv
  rw [intsV_len] at h1 h4 HV ⊢
  cases ao with
  | none =>
    have hc := h3 rfl
    have hl0 : l = [] := List.eq_nil_of_length_eq_zero (by omega)
    subst hl0 hc
    have hq := Lib.run_eql_slice_nil (P := Tryz.prog) w 33 5 none 0 0 0 0 Tryz.underlying33
    clear h1 h2 h3 h4 HV
    go_enter Tryz.func59, Tryz.ntmps59
    go_wp2
    go_ret
    exact ⟨_, rfl, rowV_nil _ _ _, Below.refl _ _⟩
  | some ad =>
    have hq := Lib.run_eql_slice_nil (P := Tryz.prog) w 33 5 (some ad) l.length cap 0 0 Tryz.underlying33
    have HR : Hid (RowV (w.alloc (.cells #[] 5)) w.heap.size 5 (.slice (some ⟨w.heap.size, 0, none⟩) 0 0) []) := rowV_lit w w.heap.size 5 [] (Nat.le_refl _) (by simp)
    have HV2 : Hid (Sees (w.alloc (.cells #[] 5)) (.slice (some ad) l.length cap) (intsV .u8 l)) := Sees.below HV.out ((Below.refl _ _).alloc (Nat.le_refl _) _)
    have HL : Hid ((([] : List Value).length + (intsV .u8 l).length) * 16 ≤ 140737488355328) := by show _ ≤ _; rw [intsV_len]; simp; omega
    have HO : Hid (∀ u ∈ intsV .u8 l, u.oneCell' = true) := ints_one .u8 l
    clear h1 h2 h3 h4 HV
    go_enter Tryz.func59, Tryz.ntmps59
    go_wp2_with (at_builtin; refine wpList_appV Tryz.underlying33 infoU8 rfl (by omega) rfl _ _ rfl w.heap.size _ [] rfl HR.out _ (intsV .u8 l) rfl HV2.out HO.out HL.out (by simp) ?_; intro v' w' k1 k2)
    have HB : Hid (RowV w' w.heap.size 5 v' (intsV .u8 l) ∧ Below w.heap.size w w') := ⟨k1, ((Below.refl _ w).alloc (Nat.le_refl _) _).trans k2⟩
    clear k1 k2
    go_ret
    exact ⟨_, rfl, HB.out.1, HB.out.2⟩
/-- What a part of a slice shows. -/
theorem sees_part {w : World} {ao : Option Addr} {cap n : Nat} {xs : List Value} (h : Sees w (.slice ao n cap) xs) (k m : Nat) (hk : k + m ≤ n) : ∀ ao', (∀ a, ao = some a → ao' = some (a.add k)) → (ao = none → ao' = none) → Sees w (.slice ao' m (cap - k)) ((xs.drop k).take m) := by
  obtain ⟨a0, c0, e, h1, h2, h3, h4⟩ := h
  injection e with e1 e2 e3
  subst e1 e3
  intro ao' g1 g2
  have hl : ((xs.drop k).take m).length = m := by rw [List.length_take, List.length_drop]; omega
  refine ⟨ao', cap - k, by rw [hl], by rw [hl]; omega, by omega, fun hn => ?_, fun h0 => ?_⟩
  · cases ao with
    | none => have := h3 rfl; omega
    | some a => rw [g1 a rfl] at hn; cases hn
  · obtain ⟨b, off, e, hb, hc⟩ := h4 (by omega)
    refine ⟨b, off + k, by rw [g1 _ e, Addr.add_lit], hb, fun i x hx => ?_⟩
    rw [Nat.add_assoc]
    refine hc (k + i) x ?_
    rw [List.getElem?_take] at hx
    split at hx
    · rw [List.getElem?_drop] at hx; exact hx
    · cases hx
set_option maxRecDepth 4000 in
set_option maxHeartbeats 4000000 in
theorem dpart_any (v : Value) (l : List Int) (off n : Int) (w : World) (hv : Sees w v (intsV .u8 l)) (hl : l.length ≤ 10000) (ho : 0 ≤ off) (hn : 0 ≤ n) :
    Calls Tryz.prog 103 #[v, .int .i64 off, .int .i64 n] w fun e w' => ∃ r, e = .returned r ∧ RowV w' w.heap.size 5 r (intsV .u8 ((l.drop off.toNat).take n.toNat)) ∧ Below w.heap.size w w' := by
  obtain ⟨k, hk⟩ : ∃ k : Nat, (k : Int) = min off l.length := ⟨(min off l.length).toNat, by omega⟩
  obtain ⟨m, hm⟩ : ∃ m : Nat, (m : Int) = min n ((l.length - k : Nat) : Int) := ⟨(min n ((l.length - k : Nat) : Int)).toNat, by omega⟩
  have hkl : k ≤ l.length := by omega
  have hml : k + m ≤ l.length := by omega
  have e1 : (l.drop off.toNat).take n.toNat = (l.drop k).take m := by
    by_cases c1 : off ≤ l.length
    · have : off.toNat = k := by omega
      rw [this]
      by_cases c2 : n ≤ ((l.length - k : Nat) : Int)
      · have : n.toNat = m := by omega
        rw [this]
      · have hm2 : m = l.length - k := by omega
        rw [List.take_of_length_le (by rw [List.length_drop]; omega), List.take_of_length_le (by rw [List.length_drop]; omega)]
    · have h2 : l.drop off.toNat = [] := List.drop_of_length_le (by omega)
      have h3 : l.drop k = [] := List.drop_of_length_le (by omega)
      rw [h2, h3]; simp
  rw [e1]
  obtain ⟨ao, cap, rfl, h1, h2, h3, h4⟩ := id hv
  rw [intsV_len] at h1 hv ⊢
  have HV : Hid (Sees w (.slice ao l.length cap) (intsV .u8 l)) := hv
  have e2 : ((intsV .u8 l).drop k).take m = intsV .u8 ((l.drop k).take m) := by unfold intsV; rw [List.map_take, List.map_drop]
  have HX : Hid (∀ v, Sees w v (intsV .u8 ((l.drop k).take m)) → Calls Tryz.prog 59 #[v] w fun e w' => ∃ r, e = .returned r ∧ RowV w' w.heap.size 5 r (intsV .u8 ((l.drop k).take m)) ∧ Below w.heap.size w w') := fun v h => dbclone_any v _ w h (by rw [List.length_take, List.length_drop]; omega)
  clear h4 hv
  have hk2 : min off (l.length : Int) = (k : Int) := hk.symm
  have hm2 : min n ((l.length - k : Nat) : Int) = (m : Int) := hm.symm
  have hki : (k : Int) ≤ (l.length : Int) := by omega
  have hmi : (m : Int) ≤ ((l.length - k : Nat) : Int) := by omega
  have hli : (l.length : Int) ≤ 10000 := by omega
  have hci : (l.length : Int) ≤ (cap : Int) := by omega
  have HL : Hid (((l.drop k).take m).length = m) := by show _ = _; rw [List.length_take, List.length_drop]; omega
  cases ao with
  | none =>
    have hc := h3 rfl
    subst hc
    have l0 : l.length = 0 := by omega
    have k0 : k = 0 := by omega
    have m0 : m = 0 := by omega
    subst k0 m0
    have HY : Hid (Calls Tryz.prog 59 #[.slice none 0 0] w _) := HX.out (.slice none 0 0) ⟨none, 0, by rw [intsV_len, HL.out], by rw [intsV_len, HL.out]; exact Nat.le_refl _, by simp, fun _ => rfl, fun h => by rw [intsV_len, HL.out] at h; omega⟩
    rw [l0] at hk2 ⊢
    have hk3 : min off 0 = 0 := by omega
    have hm3 : min n 0 = 0 := by omega
    clear HX e1 e2 h1 h2 h3 hk hm hkl hml hl HV HL hki hmi hli hci
    go_enter Tryz.func103, Tryz.ntmps103
    go_wp2_with (go_at_call 59; refine HY.out.mono ?_; rintro e w' ⟨r, rfl, hr, hb⟩)
    go_ret
    exact ⟨_, rfl, hr, hb⟩
  | some a =>
    obtain ⟨ab, aoff, asp⟩ := a
    by_cases hck : cap = k
    · have m0 : m = 0 := by omega
      subst m0
      have HY : Hid (Calls Tryz.prog 59 #[.slice (some ⟨ab, aoff, asp⟩) 0 0] w _) := HX.out (.slice (some ⟨ab, aoff, asp⟩) 0 0) ⟨_, 0, by rw [intsV_len, HL.out], by rw [intsV_len, HL.out]; exact Nat.le_refl _, by simp, fun _ => rfl, fun h => by rw [intsV_len, HL.out] at h; omega⟩
      subst hck
      clear HX e1 e2 h1 h2 h3 hk hm hkl hml hl HV HL
      go_enter Tryz.func103, Tryz.ntmps103
      go_wp2_with (go_at_call 59; refine HY.out.mono ?_; rintro e w' ⟨r, rfl, hr, hb⟩)
      go_ret
      exact ⟨_, rfl, hr, hb⟩
    · have hs := sees_part HV.out k m hml (some ((⟨ab, aoff, asp⟩ : Addr).add k)) (fun a h => by injection h with h; subst h; rfl) (fun h => by cases h)
      rw [e2] at hs
      have HY : Hid (Calls Tryz.prog 59 #[.slice (some ((⟨ab, aoff, asp⟩ : Addr).add k)) m (cap - k)] w _) := HX.out _ hs
      have hc0 : ¬ cap - k = 0 := by omega
      clear HX e1 e2 h1 h2 h3 hk hm hkl hml hl HV HL hs
      go_enter Tryz.func103, Tryz.ntmps103
      go_wp2_with (go_at_call 59; refine HY.out.mono ?_; rintro e w' ⟨r, rfl, hr, hb⟩)
      go_ret
      exact ⟨_, rfl, hr, hb⟩
def unlikeB (kind nk : Int) (len : Nat) : Int := if kind = 2 ∧ nk = 1 then 8 else if kind = 1 ∧ nk = 2 then 7 else if 0 < len then 9 else 0
set_option maxRecDepth 4000 in
set_option maxHeartbeats 4000000 in
theorem dunlike_any (kind nk : Int) (da sa : Option Addr) (dn dc sn sc : Nat) (w : World) (h1 : kind = 1 ∨ kind = 2) (h2 : nk = 1 ∨ nk = 2) (h3 : sn ≤ 1000000) :
    Calls Tryz.prog 97 #[.int .i64 kind, .agg #[.int .i64 nk, .slice da dn dc, .slice sa sn sc]] w fun e w' => e = .returned (errV (unlikeB kind nk sn)) ∧ Below w.heap.size w w' := by
  have hs : (sn : Int) ≤ 1000000 := by omega
  rcases h1 with rfl | rfl <;> rcases h2 with rfl | rfl
  · by_cases h0 : sn = 0
    · subst h0
      go_enter Tryz.func97, Tryz.ntmps97
      go_wp2
      go_ret
      exact ⟨rfl, (Below.refl _ _).alloc (Nat.le_refl _) _⟩
    · have hp : (sn : Int) > 0 := by omega
      have HR : Hid (unlikeB 1 1 sn = 9) := by show _ = _; unfold unlikeB; rw [if_neg (by omega), if_neg (by omega), if_pos (by omega)]
      go_enter Tryz.func97, Tryz.ntmps97
      go_wp2
      go_ret
      exact ⟨by rw [HR.out]; rfl, (Below.refl _ _).alloc (Nat.le_refl _) _⟩
  · have HR : Hid (unlikeB 1 2 sn = 7) := by show _ = _; unfold unlikeB; rw [if_neg (by omega), if_pos (by omega)]
    go_enter Tryz.func97, Tryz.ntmps97
    go_wp2
    go_ret
    exact ⟨by rw [HR.out]; rfl, (Below.refl _ _).alloc (Nat.le_refl _) _⟩
  · have HR : Hid (unlikeB 2 1 sn = 8) := by show _ = _; unfold unlikeB; rw [if_pos (by omega)]
    go_enter Tryz.func97, Tryz.ntmps97
    go_wp2
    go_ret
    exact ⟨by rw [HR.out]; rfl, (Below.refl _ _).alloc (Nat.le_refl _) _⟩
  · by_cases h0 : sn = 0
    · subst h0
      go_enter Tryz.func97, Tryz.ntmps97
      go_wp2
      go_ret
      exact ⟨rfl, (Below.refl _ _).alloc (Nat.le_refl _) _⟩
    · have hp : (sn : Int) > 0 := by omega
      have HR : Hid (unlikeB 2 2 sn = 9) := by show _ = _; unfold unlikeB; rw [if_neg (by omega), if_neg (by omega), if_pos (by omega)]
      go_enter Tryz.func97, Tryz.ntmps97
      go_wp2
      go_ret
      exact ⟨by rw [HR.out]; rfl, (Below.refl _ _).alloc (Nat.le_refl _) _⟩
end Go.Proofs.YtbebgobboccjcaaGreatDoor
/- place, free, file. -/
namespace Go.Proofs.YtbebgobboccjcaaGreatDoor
open Go.RowKit Kit
set_option linter.unusedVariables false

theorem parent_small (s : ByteArray) : (parentB s).1.size ≤ maxLen := by
  by_cases h : (parentB s).2.2 = 0
  · obtain ⟨h1, l, q, h2, h3, h4, _⟩ := parent_ok h
    rw [h3]
    have h5 := split_small (joinB l)
    rw [h4] at h5
    have h6 := tot_small l h5.2
    have h8 := h5.1
    simp only at *
    by_cases h0 : l.length = 0
    · have : l = [] := List.eq_nil_of_length_eq_zero h0
      subst this
      have : (joinB []).size = 1 := by decide
      rw [this]
      unfold maxLen
      omega
    · rw [joinB_size h0]
      unfold maxLen
      omega
  · have : (parentB s).1 = ⟨#[]⟩ := by
      unfold parentB at h ⊢
      split
      · rfl
      · split
        · rfl
        · rename_i h1 h2
          rw [if_neg h1, if_neg h2] at h
          exact absurd rfl h
    rw [this]
    simp [ByteArray.size, maxLen]
theorem find_lt {t : TreeB} (h : Fair t) {s : ByteArray} {k : Nat} (hf : findB t s = .ok k) : k < t.nodes.length := by
  unfold findB at hf
  rw [h.rootP] at hf
  split at hf
  · cases hf
  · have : ∀ (l : List ByteArray) (k x : Nat), k < t.nodes.length → walkB t k l = .ok x → x < t.nodes.length := by
      intro l
      induction l with
      | nil => intro k x hk hw; rw [walkB] at hw; injection hw with hw; omega
      | cons s r ih =>
        intro k x hk hw
        rw [walkB] at hw
        split at hw
        · cases hw
        · split at hw
          · cases hw
          · rename_i h1 h2
            obtain ⟨k', h3, h4, _⟩ := h.step hk h2
            rw [h3] at hw
            exact ih k' x h4 hw
    exact this _ 0 k h.root0.1 hf
theorem find_code' {t : TreeB} {s : ByteArray} {e : Int} (hf : findB t s = .error e) : e ≠ 0 := by
  rcases find_code hf with h | h | h | h | h <;> omega
def outP (t : TreeB) (r : Except Int (Nat × ByteArray)) : Int × ByteArray × Int := match r with
  | .ok (k, s) => ((nodeAt t k).ino, s, 0)
  | .error e => (0, ⟨#[]⟩, e)
theorem errV_ne {e : Int} (h : e ≠ 0) : errV e = .iface 80 (.int .i64 e) := by unfold errV; rw [if_neg h]
set_option maxRecDepth 4000 in
set_option maxHeartbeats 8000000 in
theorem dplace_any (s : ByteArray) (w : World) (p b : Nat) (t : TreeB) (hT : DTree w p b t) (ht : Fair t) (hs : s.size ≤ maxLen) :
    Calls Tryz.prog 100 #[.pointer (some ⟨p, 0, none⟩), .string s] w fun e w' => e = .returned (.tuple #[.int .i64 (outP t (homeB t s)).1, .string (outP t (homeB t s)).2.1, errV (outP t (homeB t s)).2.2]) ∧ Below w.heap.size w w' := by
  have HX : Hid (Calls Tryz.prog 96 _ _ _) := nparent_any s w hs
  have HPS := parent_small s
  have HU : Hid (homeB t s = if (parentB s).2.2 ≠ 0 then .error (parentB s).2.2 else match findB t (parentB s).1 with
    | .error e => .error e
    | .ok d => if (nodeAt t d).kind ≠ 2 then .error 8 else .ok (d, (parentB s).2.1)) := rfl
  obtain ⟨⟨d, q, e⟩, he⟩ : ∃ x, parentB s = x := ⟨_, rfl⟩
  rw [he] at HX HPS HU
  simp only at HX HPS HU
  obtain ⟨h, hh⟩ : ∃ h, homeB t s = h := ⟨_, rfl⟩
  rw [hh] at HU ⊢
  have HT : Hid (DTree w p b t ∧ Fair t) := ⟨hT, ht⟩
  clear hs he hT ht hh
  by_cases hp0 : e = 0
  · subst hp0
    have e0 : errV 0 = .nilIface := rfl
    rw [e0] at HX
    clear e0
    have HFd : Hid (∀ W, Below w.heap.size w W → _) := fun W hW => dfind_any d W p b t (HT.out.1.below hW) HT.out.2 HPS
    obtain ⟨r, hr⟩ : ∃ r, findB t d = r := ⟨_, rfl⟩
    rw [hr] at HFd HU
    have HR2 : Hid (findB t d = r) := hr
    clear hr HPS
    cases r with
    | error x =>
      have hx := find_code' HR2.out
      have HE : Hid (errV x = .iface 80 (.int .i64 x)) := errV_ne hx
      have HR : Hid (h = .error x) := by show _ = _; rw [HU.out, if_neg (by simp)]
      simp only [outW2] at HFd
      rw [errV_ne hx] at HFd
      clear HU hx
      go_enter Tryz.func100, Tryz.ntmps100
      go_wp2_with fail
      go_at_call 96
      refine HX.out.mono ?_
      rintro e1 w1 ⟨rfl, hb1⟩
      have H1 : Hid (Below w.heap.size w w1) := hb1
      clear hb1 HX
      go_wp2_with fail
      go_at_call 22
      refine (HFd.out _ H1.out).mono ?_
      rintro e2 w2 ⟨rfl, hb2⟩
      have H2 : Hid (Below w.heap.size w w2) := bel2v H1.out hb2
      clear hb2 HFd H1
      go_wp2
      go_ret3
      rw [HR.out]
      exact ⟨by simp only [outP]; rw [HE.out]; rfl, H2.out⟩
    | ok k =>
      have hk := find_lt HT.out.2 HR2.out
      simp only [outW2] at HFd
      have e0 : errV 0 = .nilIface := rfl
      rw [e0] at HFd
      clear e0
      have hkk := HT.out.2.kind (nodeAt_mem hk)
      obtain ⟨da, dc, sa, sc, hlook⟩ := HT.out.1.lookAt HT.out.2 hk
      have HLK : Hid (∀ W, Below w.heap.size w W → _) := hlook
      have hf0 := nfield0
      have HK : Hid (h = if (nodeAt t k).kind ≠ 2 then .error 8 else .ok (k, q)) := by show _ = _; rw [HU.out, if_neg (by simp)]
      have HRO : Hid (∀ z, outP t (.ok (k, z)) = ((nodeAt t k).ino, z, 0)) := fun z => rfl
      obtain ⟨ii, hii⟩ : ∃ x, (nodeAt t k).ino = x := ⟨_, rfl⟩
      obtain ⟨kk, hkq⟩ : ∃ x, (nodeAt t k).kind = x := ⟨_, rfl⟩
      rw [hii] at HFd HLK HRO
      rw [hkq] at HLK HK hkk
      clear HU hlook hii hkq HR2
      go_enter Tryz.func100, Tryz.ntmps100
      go_wp2_with fail
      go_at_call 96
      refine HX.out.mono ?_
      rintro e1 w1 ⟨rfl, hb1⟩
      have H1 : Hid (Below w.heap.size w w1) := hb1
      clear hb1 HX
      go_wp2_with fail
      go_at_call 22
      refine (HFd.out _ H1.out).mono ?_
      rintro e2 w2 ⟨rfl, hb2⟩
      have H2 : Hid (Below w.heap.size w w2) := bel2v H1.out hb2
      obtain ⟨hl, c0, _⟩ := HLK.out w2 H2.out
      clear hb2 HFd H1
      rcases hkk with rfl | rfl
      · have HR : Hid (h = .error 8) := by show _ = _; rw [HK.out, if_pos (by omega)]
        clear HK
        go_wp2
        go_ret3
        rw [HR.out]
        exact ⟨rfl, H2.out⟩
      · have HR : Hid (h = .ok (k, q)) := by show _ = _; rw [HK.out, if_neg (by omega)]
        clear HK
        go_wp2
        go_ret3
        rw [HR.out, HRO.out]
        exact ⟨rfl, H2.out⟩
  · have HE : Hid (errV e = .iface 80 (.int .i64 e)) := errV_ne hp0
    have HR : Hid (h = .error e) := by show _ = _; rw [HU.out, if_pos hp0]
    rw [errV_ne hp0] at HX
    clear HU hp0 HPS
    go_enter Tryz.func100, Tryz.ntmps100
    go_wp2_with fail
    go_at_call 96
    refine HX.out.mono ?_
    rintro e1 w1 ⟨rfl, hb1⟩
    have H1 : Hid (Below w.heap.size w w1) := hb1
    clear hb1 HX
    go_wp2
    go_ret3
    rw [HR.out]
    exact ⟨by simp only [outP]; rw [HE.out]; rfl, H1.out⟩
def outF (t : TreeB) (r : Except Int (Nat × ByteArray)) : Except Int (Nat × ByteArray) := match r with
  | .ok (k, s) => if nameB (nodeAt t k) s ≠ 0 then .error 6 else .ok (k, s)
  | .error e => .error e
theorem home_lt {t : TreeB} (h : Fair t) {s q : ByteArray} {k : Nat} (hh : homeB t s = .ok (k, q)) : k < t.nodes.length ∧ (nodeAt t k).kind = 2 := by
  unfold homeB at hh
  split at hh
  · cases hh
  · split at hh
    · cases hh
    · rename_i d hd
      split at hh
      · cases hh
      · rename_i h2
        injection hh with hh
        injection hh with h3 h4
        subst h3
        exact ⟨find_lt h hd, by omega⟩
theorem home_code' {t : TreeB} {s : ByteArray} {x : Int} (h : homeB t s = .error x) : x ≠ 0 := by
  unfold homeB at h
  split at h
  · rename_i h1
    injection h with h
    exact fun e => h1 (h.trans e)
  · split at h
    · rename_i y hy
      injection h with h
      subst h
      exact find_code' hy
    · split at h
      · injection h with h; omega
      · cases h
set_option maxRecDepth 4000 in
set_option maxHeartbeats 8000000 in
theorem dfree_any (s : ByteArray) (w : World) (p b : Nat) (t : TreeB) (hT : DTree w p b t) (ht : Fair t) (hs : s.size ≤ maxLen) :
    Calls Tryz.prog 94 #[.pointer (some ⟨p, 0, none⟩), .string s] w fun e w' => e = .returned (.tuple #[.int .i64 (outP t (outF t (homeB t s))).1, .string (outP t (outF t (homeB t s))).2.1, errV (outP t (outF t (homeB t s))).2.2]) ∧ Below w.heap.size w w' := by
  have HX : Hid (Calls Tryz.prog 100 _ _ _) := dplace_any s w p b t hT ht hs
  obtain ⟨h, hh⟩ : ∃ h, homeB t s = h := ⟨_, rfl⟩
  rw [hh] at HX ⊢
  have HT : Hid (DTree w p b t ∧ Fair t) := ⟨hT, ht⟩
  have HH : Hid (homeB t s = h) := hh
  clear hs hT ht hh
  cases h with
  | error x =>
    have hx := home_code' HH.out
    have HE : Hid (errV x = .iface 80 (.int .i64 x)) := errV_ne hx
    simp only [outP] at HX
    rw [errV_ne hx] at HX
    clear hx
    go_enter Tryz.func94, Tryz.ntmps94
    go_wp2_with fail
    go_at_call 100
    refine HX.out.mono ?_
    rintro e1 w1 ⟨rfl, hb1⟩
    have H1 : Hid (Below w.heap.size w w1) := hb1
    clear hb1 HX
    go_wp2
    go_ret3
    exact ⟨by simp only [outP, outF]; rw [HE.out]; rfl, H1.out⟩
  | ok kq =>
    obtain ⟨k, q⟩ := kq
    obtain ⟨hk, hk2⟩ := home_lt HT.out.2 HH.out
    obtain ⟨da, dc, sa, sc, hlook⟩ := HT.out.1.lookAt HT.out.2 hk
    have ok := HT.out.2.each _ (nodeAt_mem hk)
    have hz := HT.out.2.nz (nodeAt_mem hk)
    have HLK : Hid (∀ W, Below w.heap.size w W → _) := hlook
    have HLD : Hid (∀ W, Below w.heap.size w W → _) := fun W hW => leads_of ok hk2 (HT.out.2.names _ (nodeAt_mem hk)) (hlook W hW).2.2 q
    have HNM := has_name ok hz q
    simp only [outP] at HX
    have e0 : errV 0 = .nilIface := rfl
    rw [e0] at HX
    rw [hk2] at HLK
    have HRO : Hid (outP t (outF t (.ok (k, q))) = if nameB (nodeAt t k) q ≠ 0 then (0, ⟨#[]⟩, 6) else ((nodeAt t k).ino, q, 0)) := by
      show _ = _
      simp only [outF]
      split <;> rfl
    obtain ⟨ii, hii⟩ : ∃ x, (nodeAt t k).ino = x := ⟨_, rfl⟩
    rw [hii] at HX HLK HRO
    cases hh : hasB (nodeAt t k).names q with
    | true =>
      have HR : Hid (outP t (outF t (.ok (k, q))) = (0, ⟨#[]⟩, 6)) := by show _ = _; rw [HRO.out, if_pos (HNM.1 hh)]
      rw [hh] at HLD
      clear hlook e0 ok hz HNM HRO hii hh
      go_enter Tryz.func94, Tryz.ntmps94
      go_wp2_with fail
      go_at_call 100
      refine HX.out.mono ?_
      rintro e1 w1 ⟨rfl, hb1⟩
      have H1 : Hid (Below w.heap.size w w1) := hb1
      obtain ⟨hl, c0, _⟩ := HLK.out w1 hb1
      clear hb1 HX
      go_wp2_with fail
      go_at_call 78
      refine (HLD.out w1 H1.out).mono ?_
      rintro e2 w2 ⟨rfl, hb2⟩
      have H2 : Hid (Below w.heap.size w w2) := bel2v H1.out hb2
      clear hb2
      go_wp2
      go_ret3
      rw [HR.out]
      exact ⟨rfl, H2.out⟩
    | false =>
      have HR : Hid (outP t (outF t (.ok (k, q))) = (ii, q, 0)) := by
        show _ = _
        rw [HRO.out, if_neg]
        intro hc
        rw [HNM.2 hc] at hh; cases hh
      rw [hh] at HLD
      clear hlook e0 ok hz HNM HRO hii hh
      go_enter Tryz.func94, Tryz.ntmps94
      go_wp2_with fail
      go_at_call 100
      refine HX.out.mono ?_
      rintro e1 w1 ⟨rfl, hb1⟩
      have H1 : Hid (Below w.heap.size w w1) := hb1
      obtain ⟨hl, c0, _⟩ := HLK.out w1 hb1
      clear hb1 HX
      go_wp2_with fail
      go_at_call 78
      refine (HLD.out w1 H1.out).mono ?_
      rintro e2 w2 ⟨rfl, hb2⟩
      have H2 : Hid (Below w.heap.size w w2) := bel2v H1.out hb2
      clear hb2
      go_wp2
      go_ret3
      rw [HR.out]
      exact ⟨rfl, H2.out⟩
def outFile (t : TreeB) (r : Except Int Nat) : Except Int Nat := match r with
  | .ok k => if (nodeAt t k).kind = 2 then .error 7 else .ok k
  | .error e => .error e
set_option maxRecDepth 4000 in
set_option maxHeartbeats 8000000 in
theorem dfile_any (s : ByteArray) (w : World) (p b : Nat) (t : TreeB) (hT : DTree w p b t) (ht : Fair t) (hs : s.size ≤ maxLen) :
    Calls Tryz.prog 102 #[.pointer (some ⟨p, 0, none⟩), .string s] w fun e w' => e = .returned (.tuple #[.int .i64 (outW2 t (outFile t (findB t s))).1, errV (outW2 t (outFile t (findB t s))).2]) ∧ Below w.heap.size w w' := by
  have HX : Hid (Calls Tryz.prog 22 _ _ _) := dfind_any s w p b t hT ht hs
  obtain ⟨h, hh⟩ : ∃ h, findB t s = h := ⟨_, rfl⟩
  rw [hh] at HX ⊢
  have HT : Hid (DTree w p b t ∧ Fair t) := ⟨hT, ht⟩
  have HH : Hid (findB t s = h) := hh
  clear hs hT ht hh
  cases h with
  | error x =>
    have hx := find_code' HH.out
    have HE : Hid (errV x = .iface 80 (.int .i64 x)) := errV_ne hx
    simp only [outW2] at HX
    rw [errV_ne hx] at HX
    clear hx
    go_enter Tryz.func102, Tryz.ntmps102
    go_wp2_with fail
    go_at_call 22
    refine HX.out.mono ?_
    rintro e1 w1 ⟨rfl, hb1⟩
    have H1 : Hid (Below w.heap.size w w1) := hb1
    clear hb1 HX
    go_wp2
    go_ret2
    exact ⟨by simp only [outW2, outFile]; rw [HE.out]; rfl, H1.out⟩
  | ok k =>
    have hk := find_lt HT.out.2 HH.out
    obtain ⟨da, dc, sa, sc, hlook⟩ := HT.out.1.lookAt HT.out.2 hk
    have hkk := HT.out.2.kind (nodeAt_mem hk)
    have HLK : Hid (∀ W, Below w.heap.size w W → _) := hlook
    have hf0 := nfield0
    simp only [outW2] at HX
    have e0 : errV 0 = .nilIface := rfl
    rw [e0] at HX
    have HRO : Hid (outW2 t (outFile t (.ok k)) = if (nodeAt t k).kind = 2 then (0, 7) else ((nodeAt t k).ino, 0)) := by
      show _ = _
      simp only [outFile]
      split <;> rfl
    obtain ⟨ii, hii⟩ : ∃ x, (nodeAt t k).ino = x := ⟨_, rfl⟩
    obtain ⟨kk, hkq⟩ : ∃ x, (nodeAt t k).kind = x := ⟨_, rfl⟩
    rw [hii] at HX HLK HRO
    rw [hkq] at HLK HRO hkk
    clear hlook e0 hii hkq
    rcases hkk with rfl | rfl
    · have HR : Hid (outW2 t (outFile t (.ok k)) = (ii, 0)) := by show _ = _; rw [HRO.out, if_neg (by omega)]
      go_enter Tryz.func102, Tryz.ntmps102
      go_wp2_with fail
      go_at_call 22
      refine HX.out.mono ?_
      rintro e1 w1 ⟨rfl, hb1⟩
      have H1 : Hid (Below w.heap.size w w1) := hb1
      obtain ⟨hl, c0, _⟩ := HLK.out w1 hb1
      clear hb1 HX
      go_wp2
      go_ret2
      rw [HR.out]
      exact ⟨rfl, H1.out⟩
    · have HR : Hid (outW2 t (outFile t (.ok k)) = (0, 7)) := by show _ = _; rw [HRO.out, if_pos rfl]
      go_enter Tryz.func102, Tryz.ntmps102
      go_wp2_with fail
      go_at_call 22
      refine HX.out.mono ?_
      rintro e1 w1 ⟨rfl, hb1⟩
      have H1 : Hid (Below w.heap.size w w1) := hb1
      obtain ⟨hl, c0, _⟩ := HLK.out w1 hb1
      clear hb1 HX
      go_wp2
      go_ret2
      rw [HR.out]
      exact ⟨rfl, H1.out⟩
end Go.Proofs.YtbebgobboccjcaaGreatDoor
/- The map of a tree's nodes turned: one node set anew, one more, one less. (No walk in it.) -/
namespace Go.Proofs.YtbebgobboccjcaaGreatDoor
open Go.RowKit Kit
set_option linter.unusedVariables false

theorem putK_at : ∀ (es : List (Int × Value)) (k : Nat) (hk : k < es.length) (v : Value), RiseK es → putK es es[k].1 v = es.set k (es[k].1, v)
  | (a, x) :: r, 0, _, v, h => by
    unfold putK
    simp
  | (a, x) :: r, k + 1, hk, v, h => by
    obtain ⟨h1, h2⟩ := List.pairwise_cons.1 h
    have hk2 : k < r.length := by simpa using hk
    have := h1 r[k] (List.getElem_mem hk2)
    have ih := putK_at r k hk2 v h2
    have hlt : a < r[k].1 := this
    unfold putK
    simp only [List.getElem_cons_succ, List.set_cons_succ]
    rw [if_neg (by omega), if_neg (by omega), ih]
theorem putK_last : ∀ (es : List (Int × Value)) (i : Int) (v : Value), (∀ e ∈ es, e.1 < i) → putK es i v = es ++ [(i, v)]
  | [], i, v, _ => rfl
  | (a, x) :: r, i, v, h => by
    have h1 := h (a, x) (by simp)
    have h1 : a < i := h1
    unfold putK
    rw [if_neg (by omega), if_neg (by omega), putK_last r i v (fun e he => h e (by simp [he]))]
    rfl
theorem ds_len {ds : List DN} {t : TreeB} (h : ds.map DN.n = t.nodes) : ds.length = t.nodes.length := by rw [← h, List.length_map]
theorem ds_at {ds : List DN} {t : TreeB} (h : ds.map DN.n = t.nodes) {k : Nat} (hk : k < ds.length) : ds[k].n = nodeAt t k := by
  have hk2 : k < t.nodes.length := by rw [← ds_len h]; exact hk
  rw [nodeAt_eq t k hk2]
  have : (ds.map DN.n)[k]'(by rw [List.length_map]; exact hk) = t.nodes[k] := by simp only [h]
  rw [← this, List.getElem_map]
set_option maxRecDepth 4000 in
/-- One node set anew. -/
theorem DTree.put {w w1 : World} {p b : Nat} {t : TreeB} (h : DTree w p b t) (ht : Fair t) {k : Nat} (hk : k < t.nodes.length) (f : DN) (hi : f.n.ino = (nodeAt t k).ino) (hf : f.is w) :
    ∃ w', (Instr.mapUpdate 50 (.map (some b)) (.int .i64 (nodeAt t k).ino) f.val).run Tryz.prog w = .ok () w' ∧ DTree w' p b (setB t k f.n) ∧ Turn p b w w' ∧ w'.heap.size = w.heap.size := by
  obtain ⟨ds, hd, hn⟩ := h
  have hl : k < ds.length := by rw [ds_len hn]; exact hk
  have hp := ht.pos _ (nodeAt_mem hk)
  have hb := ht.below _ (nodeAt_mem hk)
  have hs := ht.size
  obtain ⟨w', h1, h2, h3, h4⟩ := hd.2.1.put (t := 50) (e := 70) Tryz.underlying3 Tryz.underlying50 (by rw [List.length_map, ds_len hn]; unfold maxLen; omega) (i := (nodeAt t k).ino) (by omega) f.val
  refine ⟨w', h1, ⟨ds.set k f, hd.mapTo (w' := w') ?_ h3 (fun g hg => ?_), ?_⟩, turn_grown h3, h4⟩
  · have e1 : (ds.map DN.ent)[k]'(by rw [List.length_map]; exact hl) = ds[k].ent := by rw [List.getElem_map]
    have e2 := putK_at (ds.map DN.ent) k (by rw [List.length_map]; exact hl) f.val hd.2.1.2
    have e3 : ((ds.map DN.ent)[k]'(by rw [List.length_map]; exact hl)).1 = (nodeAt t k).ino := by rw [e1]; show ds[k].n.ino = _; rw [ds_at hn hl]
    rw [e3] at e2
    rw [e2] at h2
    have e4 : (ds.set k f).map DN.ent = (ds.map DN.ent).set k ((nodeAt t k).ino, f.val) := by
      rw [List.map_set]
      congr 1
      show (f.n.ino, f.val) = _
      rw [hi]
    rw [e4]; exact h2
  · rcases List.mem_or_eq_of_mem_set hg with e | e
    · exact .inl e
    · subst e; exact .inr hf
  · unfold setB
    simp only
    rw [List.map_set, hn]
set_option maxRecDepth 4000 in
/-- One node more. -/
theorem DTree.more {w : World} {p b : Nat} {t : TreeB} (h : DTree w p b t) (ht : Fair t) (f : DN) (hi : ∀ n ∈ t.nodes, n.ino < f.n.ino) (hb : f.n.ino ≤ 2199023255552) (hf : f.is w) :
    ∃ w', (Instr.mapUpdate 50 (.map (some b)) (.int .i64 f.n.ino) f.val).run Tryz.prog w = .ok () w' ∧ DTree w' p b ⟨t.nodes ++ [f.n], t.next⟩ ∧ Turn p b w w' ∧ w'.heap.size = w.heap.size := by
  obtain ⟨ds, hd, hn⟩ := h
  have hs := ht.size
  have h0 : 0 ≤ f.n.ino := by
    have h1 := ht.root0
    have := hi _ (nodeAt_mem h1.1)
    omega
  obtain ⟨w', h1, h2, h3, h4⟩ := hd.2.1.put (t := 50) (e := 70) Tryz.underlying3 Tryz.underlying50 (by rw [List.length_map, ds_len hn]; unfold maxLen; omega) (i := f.n.ino) (by omega) f.val
  refine ⟨w', h1, ⟨ds ++ [f], hd.mapTo (w' := w') ?_ h3 (fun g hg => ?_), ?_⟩, turn_grown h3, h4⟩
  · rw [putK_last (ds.map DN.ent) f.n.ino f.val (fun e he => by
      obtain ⟨g, hg, rfl⟩ := List.mem_map.1 he
      exact hi g.n (by rw [← hn]; exact List.mem_map.2 ⟨g, hg, rfl⟩))] at h2
    rw [List.map_append]; exact h2
  · rcases List.mem_append.1 hg with e | e
    · exact .inl e
    · simp at e; subst e; exact .inr hf
  · simp only
    rw [List.map_append, hn]; rfl
set_option maxRecDepth 4000 in
/-- One node less. -/
theorem DTree.less' {w : World} {p b : Nat} {t : TreeB} (h : DTree w p b t) {i : Int} (hi : 0 ≤ i ∧ i ≤ 2199023255552) :
    ∃ w', (Builtin.delete_ #[50, 3] 0 #[.map (some b), .int .i64 i]).run Tryz.prog w = .ok (.tuple #[]) w' ∧ DTree w' p b ⟨t.nodes.filter (fun n => !(n.ino == i)), t.next⟩ ∧ Turn p b w w' ∧ w'.heap.size = w.heap.size := by
  obtain ⟨ds, hd, hn⟩ := h
  obtain ⟨w', h1, h2, h3, h4⟩ := hd.2.1.del (t := 50) (e := 70) Tryz.underlying3 Tryz.underlying50 (i := i) (by omega) 0
  refine ⟨w', h1, ⟨ds.filter (fun f => !(f.n.ino == i)), hd.mapTo (w' := w') ?_ h3 (fun g hg => .inl (List.mem_filter.1 hg).1), ?_⟩, turn_grown h3, h4⟩
  · have : delK (ds.map DN.ent) i = (ds.filter (fun f => !(f.n.ino == i))).map DN.ent := by
      unfold delK
      rw [List.filter_map]
      rfl
    rw [← this]; exact h2
  · simp only
    rw [← hn, List.filter_map]
    rfl
theorem DTree.turn {w w' : World} {p b p2 b2 : Nat} {t t2 : TreeB} (h : DTree w p b t) (h2 : DTree w p2 b2 t2) (ht : Turn p2 b2 w w') (h1 : p ≠ p2) (h3 : b ≠ b2) : DTree w' p b t := by
  obtain ⟨ds, hd, hn⟩ := h
  obtain ⟨ds2, hd2, _⟩ := h2
  have hpb : p ≠ b2 := fun e => by
    obtain ⟨xs, c, hb⟩ := hd2.2.1.isMap
    rw [← e, hd.1] at hb
    cases hb
  have hbp : b ≠ p2 := fun e => by
    obtain ⟨xs, c, hb⟩ := hd.2.1.isMap
    rw [e, hd2.1] at hb
    cases hb
  exact ⟨ds, ⟨(ht.block p hd.lt.1 h1 hpb).trans hd.1, hd.2.1.block (ht.block b hd.lt.2 hbp h3), fun f hf => (hd.2.2 f hf).turn hd2 ht⟩, hn⟩
theorem DTree.setNext {w : World} {p b : Nat} {t : TreeB} (h : DTree w p b t) (n : Int) : DTree (w.setCell ⟨p, 1, none⟩ (.int .i64 n)) p b ⟨t.nodes, n⟩ := by
  obtain ⟨ds, hd, hn⟩ := h
  exact ⟨ds, hd.setNext n, hn⟩
theorem DTree.cells {w : World} {p b : Nat} {t : TreeB} (h : DTree w p b t) : w.cell? ⟨p, 0, none⟩ = some (.map (some b)) ∧ w.cell? ⟨p, 1, none⟩ = some (.int .i64 t.next) ∧ (∀ j, w.frozen? ⟨p, j, none⟩ = false) ∧ p < w.heap.size ∧ b < w.heap.size := by
  obtain ⟨ds, hd, hn⟩ := h
  exact ⟨hd.cells.1, hd.cells.2.1, hd.cells.2.2, hd.lt.1, hd.lt.2⟩
theorem DTree.size {w : World} {p b : Nat} {t : TreeB} (h : DTree w p b t) (ty : TypeId) : (Builtin.len_ #[50] ty #[.map (some b)]).run Tryz.prog w = .ok (.int .i64 (t.nodes.length : Int)) w := by
  obtain ⟨ds, hd, hn⟩ := h
  have := hd.2.1.len (t := 50) (e := 70) Tryz.underlying50 ty
  rw [List.length_map, ds_len hn] at this
  exact this
/-- Where a name goes in is where it would stand. -/
theorem goes_low {l : List ByteArray} {s : ByteArray} (h : Rising l) (hs : s ∉ l) : goesB l s = lowB l s := by
  obtain ⟨h1, h2, h3⟩ := goes_spec l s h hs
  symm
  apply low_of h h1
  · intro j hj hl
    exact h2 _ (by rw [List.mem_take_iff_getElem]; exact ⟨j, by omega, rfl⟩)
  · intro j hj hl hlt
    have : l[j] ∈ l.drop (goesB l s) := by rw [List.mem_drop_iff_getElem]; exact ⟨j - goesB l s, by omega, by congr 1; omega⟩
    exact less_irrefl _ (less_trans hlt (h3 _ this))
theorem zip_take2 {α β : Type} : ∀ (a : List α) (b : List β) (k : Nat), (a.take k).zip (b.take k) = (a.zip b).take k
  | [], b, k => by simp
  | x :: a, [], k => by cases k <;> simp
  | x :: a, y :: b, 0 => by simp
  | x :: a, y :: b, k + 1 => by simp only [List.take_succ_cons, List.zip_cons_cons, zip_take2 a b k]
theorem zip_drop2 {α β : Type} : ∀ (a : List α) (b : List β) (k : Nat), (a.drop k).zip (b.drop k) = (a.zip b).drop k
  | [], b, k => by simp
  | x :: a, [], k => by cases k <;> simp
  | x :: a, y :: b, 0 => by simp
  | x :: a, y :: b, k + 1 => by simp only [List.drop_succ_cons, List.zip_cons_cons, zip_drop2 a b k]
theorem pairs_with {n : NodeB} (ok : NodeOK n) {s : ByteArray} (hs : s ∉ n.names) (i : Int) : pairsB (withB n s i) = (pairsB n).take (lowB n.names s) ++ (s, i) :: (pairsB n).drop (lowB n.names s) := by
  have hg := goes_low ok.1 hs
  have hl := low_le n.names s
  have hle := ok.len
  unfold withB pairsB
  simp only
  rw [hg, List.zip_append (by rw [List.length_take, List.length_take]; omega), List.zip_cons_cons, zip_take2, zip_drop2]
theorem pairs_without {n : NodeB} (ok : NodeOK n) {s : ByteArray} (hs : s ∈ n.names) : pairsB (withoutB n s) = (pairsB n).take (lowB n.names s) ++ (pairsB n).drop (lowB n.names s + 1) := by
  obtain ⟨hl, he⟩ := (low_mem ok.1).1 hs
  have hle := ok.len
  have hz : pairsB (withoutB n s) = (pairsB n).filter fun p => decide (p.1 ≠ s) := by
    have : ∀ l : List (ByteArray × Int), (l.map Prod.fst).zip (l.map Prod.snd) = l := fun l => by
      induction l with
      | nil => rfl
      | cons a r ih => simp only [List.map_cons, List.zip_cons_cons, ih]
    unfold withoutB
    rw [pairsB]
    simp only
    rw [this]
  have hpl : (pairsB n).length = n.names.length := by unfold pairsB; rw [List.length_zip]; omega
  have hat : ∀ j (hj : j < (pairsB n).length), (pairsB n)[j].1 = n.names[j]'(by omega) := fun j hj => by simp [pairsB]
  have key : ∀ (l : List (ByteArray × Int)) (k : Nat) (hk : k < l.length), (∀ j (hj : j < l.length), (l[j].1 = s ↔ j = k)) → (l.filter fun p => decide (p.1 ≠ s)) = l.take k ++ l.drop (k + 1) := by
    intro l
    induction l with
    | nil => intro k hk; simp at hk
    | cons a r ih =>
      intro k hk h
      cases k with
      | zero =>
        have h0 : a.1 = s := (h 0 (by simp)).2 rfl
        rw [List.filter_cons, if_neg (by simp [h0])]
        simp only [List.take_zero, List.nil_append, Nat.zero_add, List.drop_succ_cons, List.drop_zero]
        rw [List.filter_eq_self]
        intro x hx
        obtain ⟨j, hj, rfl⟩ := List.mem_iff_getElem.1 hx
        have := (h (j + 1) (by simpa using hj)).1
        simp only [List.getElem_cons_succ] at this
        apply decide_eq_true
        intro e
        have := this e
        omega
      | succ k =>
        have h0 : a.1 ≠ s := fun e => by have := (h 0 (by simp)).1 e; omega
        rw [List.filter_cons, if_pos (decide_eq_true h0), ih k (by simpa using hk) (fun j hj => by
          have := h (j + 1) (by simpa using hj)
          simp only [List.getElem_cons_succ] at this
          rw [this]; omega)]
        rfl
  rw [hz]
  apply key _ _ (by omega)
  intro j hj
  rw [hat j hj]
  constructor
  · intro e
    have e2 : n.names[j]'(by omega) = n.names[lowB n.names s] := by rw [e, he]
    have hp := List.pairwise_iff_getElem.1 ok.1
    by_cases c : j < lowB n.names s
    · have := hp j _ (by omega) hl c
      rw [e2] at this
      exact absurd this (less_irrefl _)
    · by_cases d : lowB n.names s < j
      · have := hp _ j hl (by omega) d
        rw [e2] at this
        exact absurd this (less_irrefl _)
      · omega
  · intro e
    subst e; exact he
end Go.Proofs.YtbebgobboccjcaaGreatDoor
/- What giving and taking a name have in common. -/
namespace Go.Proofs.YtbebgobboccjcaaGreatDoor
open Go.RowKit Kit
set_option linter.unusedVariables false

theorem SeesS.take {w : World} {ao : Option Addr} {n cap : Nat} {ps : List (ByteArray × Int)} (h : SeesS w (.slice ao n cap) ps) (m : Nat) (hm : m ≤ n) : SeesS w (.slice ao m cap) (ps.take m) := by
  obtain ⟨a0, c0, e, h1, h2, h3, h4⟩ := h
  injection e with e1 e2 e3
  subst e1 e3
  have hl : (ps.take m).length = m := by rw [List.length_take]; omega
  refine ⟨ao, cap, by rw [hl], by omega, h2, h3, fun h0 => ?_⟩
  obtain ⟨b, off, e, hb, hc⟩ := h4 (by omega)
  refine ⟨b, off, e, hb, fun j x hx => hc j x ?_⟩
  have hj := (List.getElem?_eq_some_iff.1 hx).1
  have e3 : flatS ps = flatS (ps.take m) ++ flatS (ps.drop m) := by rw [← flatS_append, List.take_append_drop]
  rw [e3, List.getElem?_append_left hj]; exact hx
theorem SeesS.drop {w : World} {ao : Option Addr} {n cap : Nat} {ps : List (ByteArray × Int)} (h : SeesS w (.slice ao n cap) ps) (m : Nat) (hm : m ≤ n) : SeesS w (.slice (if cap = m then ao else ao.map (fun a => a.add (m * 2))) (n - m) (cap - m)) (ps.drop m) := by
  obtain ⟨a0, c0, e, h1, h2, h3, h4⟩ := h
  injection e with e1 e2 e3
  subst e1 e3
  have hl : (ps.drop m).length = n - m := by rw [List.length_drop]; omega
  refine ⟨_, cap - m, by rw [hl], by omega, by omega, fun hn => ?_, fun h0 => ?_⟩
  · by_cases c : cap = m
    · omega
    · rw [if_neg c] at hn
      cases ao with
      | none => have := h3 rfl; omega
      | some a => cases hn
  · obtain ⟨b, off, e, hb, hc⟩ := h4 (by omega)
    refine ⟨b, off + m * 2, by rw [if_neg (by omega), e, Option.map_some, Addr.add_lit], hb, fun j x hx => ?_⟩
    rw [Nat.add_assoc]
    refine hc (m * 2 + j) x ?_
    have e3 : flatS ps = flatS (ps.take m) ++ flatS (ps.drop m) := by rw [← flatS_append, List.take_append_drop]
    have e4 : (flatS (ps.take m)).length = m * 2 := by rw [flatS_len, List.length_take]; omega
    rw [e3, List.getElem?_append_right (by omega), e4, Nat.add_sub_cancel_left]; exact hx
theorem slots_elem : Tryz.prog.underlying 68 = some (.slice (Tryz.prog.elem 68)) := by kernel_rfl
theorem slots_size (w : World) : (sizeOf (Tryz.prog.elem 68)).run Tryz.prog w = .ok 2 w := by kernel_rfl
/-- A slice of slots cut in two. -/
theorem cut_runs {w : World} {sa : Option Addr} {n sc : Nat} {ps : List (ByteArray × Int)} (h : SeesS w (.slice sa n sc) ps) (i j : Nat) (hi : i ≤ n) (hj : j ≤ n) :
    ∃ a2 c2, (∀ W, (Instr.slice 68 (.slice sa n sc) none (some (.int .i64 (i : Int))) none).run Tryz.prog W = .ok (.slice sa i sc) W) ∧ (∀ W, (Instr.slice 68 (.slice sa n sc) (some (.int .i64 (j : Int))) none none).run Tryz.prog W = .ok (.slice a2 (n - j) c2) W) ∧ SeesS w (.slice sa i sc) (ps.take i) ∧ SeesS w (.slice a2 (n - j) c2) (ps.drop j) := by
  have hc : n ≤ sc := by
    obtain ⟨a0, c0, e, h1, _⟩ := id h
    injection e with e1 e2 e3
    omega
  refine ⟨_, _, fun W => ?_, fun W => ?_, h.take i hi, h.drop j hj⟩
  · rw [run_slice_h (P := Tryz.prog) W 68 sa n sc slots_elem .i64 (i : Int) (by omega) (by omega), slots_size]
    simp [sliced, Result.andThen]
    intro e
    cases sa <;> simp [Addr.add]
  · rw [run_slice_l (P := Tryz.prog) W 68 sa n sc slots_elem .i64 (j : Int) (by omega) (by omega), slots_size]
    simp [sliced, Result.andThen]
theorem RowS.form {w : World} {base : Nat} {v : Value} {ps : List (ByteArray × Int)} (h : RowS w base v ps) (h0 : 0 < ps.length) : ∃ g cap, v = .slice (some ⟨g, 0, none⟩) ps.length cap ∧ base ≤ g := by
  unfold RowS at h
  rcases h.2 with ⟨_, h2⟩ | ⟨g, cap, cur, hv, hg, _⟩
  · omega
  · exact ⟨g, cap, hv, hg⟩
theorem seesS_one (w : World) (s : ByteArray) (i : Int) : SeesS (w.alloc (.cells #[.string s, .int .i64 i] 97)) (.slice (some ⟨w.heap.size, 0, none⟩) 1 1) [(s, i)] := by
  refine ⟨_, 1, rfl, by simp, by unfold maxLen; omega, by simp, fun _ => ⟨w.heap.size, 0, rfl, by simp, ?_⟩⟩
  intro j y hy
  match j, hy with
  | 0, hy => simp [flatS, slotC] at hy; subst hy; simp
  | 1, hy => simp [flatS, slotC] at hy; subst hy; simp
theorem sees_lit (w : World) (xs : List Value) (e : TypeId) (hm : xs.length ≤ 1000) : Sees (w.alloc (.cells xs.toArray e)) (.slice (some ⟨w.heap.size, 0, none⟩) xs.length xs.length) xs :=
  RowV.sees (rowV_lit w w.heap.size e xs (Nat.le_refl _) (by unfold maxLen; omega))
/-- The box of a node. -/
def NBox (w : World) (B : Nat) (kd : Int) (d sv : Value) : Prop := w.heap[B]? = some (.cells #[.int .i64 kd, d, sv] 70)
theorem NBox.c {w : World} {B : Nat} {kd : Int} {d sv : Value} (h : NBox w B kd d sv) : w.cell? ⟨B, 0, none⟩ = some (.int .i64 kd) ∧ w.cell? ⟨B, 1, none⟩ = some d ∧ w.cell? ⟨B, 2, none⟩ = some sv ∧ (∀ j, w.frozen? ⟨B, j, none⟩ = false) ∧ B < w.heap.size := by
  have hl := (Array.getElem?_eq_some_iff.1 h).1
  unfold NBox at h
  refine ⟨?_, ?_, ?_, ?_, hl⟩ <;> simp [World.cell?, World.frozen?, h]
theorem NBox.below {w w' : World} {B : Nat} {kd : Int} {d sv : Value} (h : NBox w B kd d sv) (hb : Below w.heap.size w w') : NBox w' B kd d sv := (hb.block B h.c.2.2.2.2).trans h
theorem NBox.set2 {w : World} {B : Nat} {kd : Int} {d sv : Value} (h : NBox w B kd d sv) (v : Value) : NBox (w.setCell ⟨B, 2, none⟩ v) B kd d v := by
  unfold NBox at *
  simp [World.setCell, Array.getElem?_modify, h]
theorem seesS_set {w : World} {g m cap B : Nat} {ps : List (ByteArray × Int)} {v : Value} (h : SeesS w (.slice (some ⟨g, 0, none⟩) m cap) ps) (hne : g ≠ B) (o : Nat) : SeesS (w.setCell ⟨B, o, none⟩ v) (.slice (some ⟨g, 0, none⟩) m cap) ps := by
  obtain ⟨ao, c, e, h1, h2, h3, h4⟩ := h
  injection e with e1 e2 e3
  subst e1 e3
  refine ⟨_, _, by rw [e2], h1, h2, h3, fun h0 => ?_⟩
  obtain ⟨b, off, e, hb, hc⟩ := h4 h0
  refine ⟨b, off, e, by simpa [World.setCell] using hb, fun j x hx => ?_⟩
  have hbg : b = g := by injection e with e; injection e with e _ _; exact e.symm
  rw [← hc j x hx]
  simp only [World.cell?]
  rw [Below.heap_setCell _ _ _ b (by show b ≠ B; omega)]
theorem sees_below_set {w w3 : World} {d : Value} {l : List Int} {B : Nat} (h : Sees w d (intsV .u8 l)) (hb : Below w.heap.size w w3) (hB : w.heap.size ≤ B) (o : Nat) (v : Value) : Sees (w3.setCell ⟨B, o, none⟩ v) d (intsV .u8 l) :=
  h.below (hb.setCell (by exact hB) v)
/-- A directory's node with other slots is laid into the map. -/
theorem put_tail {w w3 : World} {p b B : Nat} {t : TreeB} {k : Nat} {da sa' : Option Addr} {dc m cap : Nat} (hT : DTree w p b t) (ht : Fair t) (hk : k < t.nodes.length) (hk2 : (nodeAt t k).kind = 2) (n' : NodeB) (hi : n'.ino = (nodeAt t k).ino) (hkk : n'.kind = 2) (hd : n'.data = (nodeAt t k).data)
    (hdv : Sees w (.slice da (nodeAt t k).data.length dc) (intsV .u8 (nodeAt t k).data)) (hB : w.heap.size ≤ B) (hb : Below w.heap.size w w3) (hsv : SeesS (w3.setCell ⟨B, 2, none⟩ (.slice sa' m cap)) (.slice sa' m cap) (pairsB n')) :
    ∃ w5, (Instr.mapUpdate 50 (.map (some b)) (.int .i64 (nodeAt t k).ino) (.agg #[.int .i64 2, .slice da (nodeAt t k).data.length dc, .slice sa' m cap])).run Tryz.prog (w3.setCell ⟨B, 2, none⟩ (.slice sa' m cap)).drew = .ok () w5 ∧ DTree w5 p b (setB t k n') ∧ Turn p b w w5 := by
  obtain ⟨W4, hW4⟩ : ∃ z, z = w3.setCell ⟨B, 2, none⟩ (.slice sa' m cap) := ⟨_, rfl⟩
  have hb4 : Below w.heap.size w W4 := by rw [hW4]; exact hb.setCell (by exact hB) _
  rw [← hW4] at hsv ⊢
  have hT4 : DTree W4.drew p b t := hT.below hb4.drew
  obtain ⟨w5, h1, h2, h3, h4⟩ := hT4.put (w1 := W4) ht hk ⟨n', .slice da (nodeAt t k).data.length dc, .slice sa' m cap⟩ hi ⟨by
    show Sees W4.drew (.slice da (nodeAt t k).data.length dc) (intsV .u8 n'.data)
    rw [hd]
    exact hdv.below hb4.drew, hsv⟩
  refine ⟨w5, ?_, h2, (turn_below hb4.drew).trans h3⟩
  have e : (⟨n', .slice da (nodeAt t k).data.length dc, .slice sa' m cap⟩ : DN).val = .agg #[.int .i64 2, .slice da (nodeAt t k).data.length dc, .slice sa' m cap] := by unfold DN.val; simp only; rw [hkk]
  rw [e] at h1
  exact h1
end Go.Proofs.YtbebgobboccjcaaGreatDoor
