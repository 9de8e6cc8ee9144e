/- The document's table: All. -/
import Derived.Test.YthjcmagionaepaaGreatRTabN
import Derived.Deep.CutBlock
namespace Go.Proofs.YthjcmagionaepaaGreat
open Go.RowKit Kit
set_option linter.unusedVariables false

/-- One row stands behind another one. -/
def gtB (a x : Rw) : Bool := (!Op.bytesLess a.name.toList x.name.toList && !(a.name.toList == x.name.toList)) || (a.name.toList == x.name.toList && decide (x.born < a.born))
def zR : Rw := ⟨⟨#[]⟩, 0, 0, 0⟩
def posW (out : List Rw) (x : Rw) : Nat → Nat
  | 0 => 0
  | k + 1 => if gtB (out.getD k zR) x = true then posW out x k else k + 1
def insW (out : List Rw) (x : Rw) : List Rw := out.take (posW out x out.length) ++ x :: out.drop (posW out x out.length)
def allW (l : List Rw) : List Rw := l.foldl insW []
theorem posW_le (out : List Rw) (x : Rw) : ∀ k, posW out x k ≤ k
  | 0 => Nat.le_refl _
  | k + 1 => by
    rw [posW]
    split
    · exact Nat.le_succ_of_le (posW_le out x k)
    · exact Nat.le_refl _
theorem insW_len (out : List Rw) (x : Rw) : (insW out x).length = out.length + 1 := by
  have := posW_le out x out.length
  unfold insW
  simp
  omega
theorem allW_step (l : List Rw) (i : Nat) (h : i < l.length) : allW (l.take (i + 1)) = insW (allW (l.take i)) l[i] := by
  unfold allW
  rw [List.take_succ_eq_append_getElem h, List.foldl_append]
  rfl
theorem foldW_len : ∀ (l a : List Rw), (l.foldl insW a).length = a.length + l.length
  | [], a => by simp
  | x :: l, a => by
    rw [List.foldl_cons, foldW_len l, insW_len, List.length_cons]
    omega
theorem allW_len (l : List Rw) : (allW l).length = l.length := by
  unfold allW
  rw [foldW_len]
  simp
theorem rw_row {w : World} {B g n cap : Nat} {e : TypeId} {xs : List Rw} (h : RowE rwE w B e (.slice (some ⟨g, 0, none⟩) n cap) xs) (i : Nat) (hi : i < xs.length) :
    g < w.heap.size ∧ (∀ j, w.frozen? ⟨g, j, none⟩ = false) ∧ w.cell? ⟨g, i * 4, none⟩ = some (.string xs[i].name) ∧ w.cell? ⟨g, i * 4 + 1, none⟩ = some (.int .i64 xs[i].ino) ∧ w.cell? ⟨g, i * 4 + 2, none⟩ = some (.int .i64 xs[i].born) ∧ w.cell? ⟨g, i * 4 + 3, none⟩ = some (.int .i64 xs[i].died) := by
  obtain ⟨g', cap', e1, hB, hl, hf, hc⟩ := rowE_form h (by omega)
  injection e1 with e2 e3 e4
  injection e2 with e2
  injection e2 with e2
  subst e2
  exact ⟨hl, hf, hc i hi 0 _ rfl, hc i hi 1 _ rfl, hc i hi 2 _ rfl, hc i hi 3 _ rfl⟩
/-- A whole row stored. -/
def set4 (w : World) (g o : Nat) (r : Rw) : World := (((w.setCell ⟨g, o, none⟩ (.string r.name)).setCell ⟨g, o + 1, none⟩ (.int .i64 r.ino)).setCell ⟨g, o + 2, none⟩ (.int .i64 r.born)).setCell ⟨g, o + 3, none⟩ (.int .i64 r.died)
theorem set4_heap (w : World) (g o : Nat) (r : Rw) {k : Nat} (hk : k ≠ g) : (set4 w g o r).heap[k]? = w.heap[k]? := by
  have s : ∀ (W : World) (j : Nat) (u : Value), (W.setCell ⟨g, j, none⟩ u).heap[k]? = W.heap[k]? := fun W j u => Below.heap_setCell _ _ _ k (fun e => hk e)
  unfold set4
  rw [s, s, s, s]
theorem set4_below {B : Nat} {w0 w : World} (h : Below B w0 w) {g : Nat} (hg : B ≤ g) (o : Nat) (r : Rw) : Below B w0 (set4 w g o r) :=
  (((h.setCell hg _).setCell hg _).setCell hg _).setCell hg _
theorem rowE_set4 {w : World} {B g n cap : Nat} {e : TypeId} {xs : List Rw} (h : RowE rwE w B e (.slice (some ⟨g, 0, none⟩) n cap) xs) (i : Nat) (hi : i < xs.length) (r : Rw) : RowE rwE (set4 w g (i * 4) r) B e (.slice (some ⟨g, 0, none⟩) n cap) (xs.set i r) := by
  have h1 := rowE_put h i hi 0 (by decide) (.string r.name) ⟨r.name, xs[i].ino, xs[i].born, xs[i].died⟩ rfl
  have h2 := rowE_put h1 i (by rw [List.length_set]; exact hi) 1 (by decide) (.int .i64 r.ino) ⟨r.name, r.ino, xs[i].born, xs[i].died⟩ (by rw [List.getElem_set_self]; rfl)
  rw [List.set_set] at h2
  have h3 := rowE_put h2 i (by rw [List.length_set]; exact hi) 2 (by decide) (.int .i64 r.born) ⟨r.name, r.ino, r.born, xs[i].died⟩ (by rw [List.getElem_set_self]; rfl)
  rw [List.set_set] at h3
  have h4 := rowE_put h3 i (by rw [List.length_set]; exact hi) 3 (by decide) (.int .i64 r.died) r (by rw [List.getElem_set_self]; rfl)
  rw [List.set_set] at h4
  exact h4
/-- While room is made: the place k is free; x waits in its box. -/
def SInW (w wy : World) (g n cp X : Nat) (x : Rw) (out : List Rw) (k : Nat) : Prop :=
  (∃ y, RowE rwE wy w.heap.size 72 (.slice (some ⟨g, 0, none⟩) n cp) (out.take k ++ y :: out.drop k)) ∧ Below w.heap.size w wy ∧ wy.heap[X]? = some (.cells #[.string x.name, .int .i64 x.ino, .int .i64 x.born, .int .i64 x.died] 72) ∧ X ≠ g ∧ w.heap.size ≤ g
theorem gapW_len (out : List Rw) (k : Nat) (y : Rw) (hk : k ≤ out.length) : (out.take k ++ y :: out.drop k).length = out.length + 1 := by simp; omega
theorem SInW.cellB {w wy : World} {g n cp X k : Nat} {x : Rw} {out : List Rw} (h : SInW w wy g n cp X x out k) {j : Nat} (hj : j < k) (hk : k ≤ out.length) : wy.cell? ⟨g, j * 4, none⟩ = some (.string (out.getD j zR).name) ∧ wy.cell? ⟨g, j * 4 + 1, none⟩ = some (.int .i64 (out.getD j zR).ino) ∧ wy.cell? ⟨g, j * 4 + 2, none⟩ = some (.int .i64 (out.getD j zR).born) ∧ wy.cell? ⟨g, j * 4 + 3, none⟩ = some (.int .i64 (out.getD j zR).died) := by
  obtain ⟨⟨y, h1⟩, _⟩ := h
  have hl := gapW_len out k y hk
  have h2 := (rw_row h1 j (by omega)).2.2
  have e : (out.take k ++ y :: out.drop k)[j]'(by omega) = out.getD j zR := by
    have h3 : j < out.length := by omega
    rw [List.getElem_append_left (by simp; omega), List.getElem_take]
    simp [List.getD, h3]
  rw [e] at h2
  exact h2
theorem SInW.cellA {w wy : World} {g n cp X k : Nat} {x : Rw} {out : List Rw} (h : SInW w wy g n cp X x out k) (hk : k ≤ out.length) : ∃ y : Rw, g < wy.heap.size ∧ (∀ j, wy.frozen? ⟨g, j, none⟩ = false) ∧ wy.cell? ⟨g, k * 4, none⟩ = some (.string y.name) ∧ wy.cell? ⟨g, k * 4 + 1, none⟩ = some (.int .i64 y.ino) ∧ wy.cell? ⟨g, k * 4 + 2, none⟩ = some (.int .i64 y.born) ∧ wy.cell? ⟨g, k * 4 + 3, none⟩ = some (.int .i64 y.died) := by
  obtain ⟨⟨y, h1⟩, _⟩ := h
  have hl := gapW_len out k y hk
  have h2 := rw_row h1 k (by omega)
  have e : (out.take k ++ y :: out.drop k)[k]'(by omega) = y := by
    have h3 : (out.take k).length = k := by simp; omega
    rw [List.getElem_append_right (by omega)]
    simp [h3]
  rw [e] at h2
  exact ⟨y, h2⟩
theorem SInW.box {w wy : World} {g n cp X k : Nat} {x : Rw} {out : List Rw} (h : SInW w wy g n cp X x out k) : X < wy.heap.size ∧ wy.cell? ⟨X, 0, none⟩ = some (.string x.name) ∧ wy.cell? ⟨X, 1, none⟩ = some (.int .i64 x.ino) ∧ wy.cell? ⟨X, 2, none⟩ = some (.int .i64 x.born) ∧ wy.cell? ⟨X, 3, none⟩ = some (.int .i64 x.died) :=
  ⟨blk_lt h.2.2.1, blk_cell h.2.2.1 rfl, blk_cell h.2.2.1 rfl, blk_cell h.2.2.1 rfl, blk_cell h.2.2.1 rfl⟩
theorem gapW_set (out : List Rw) (k : Nat) (y z : Rw) (hk : k ≤ out.length) : (out.take k ++ y :: out.drop k).set k z = out.take k ++ z :: out.drop k := by
  have h2 : (out.take k).length = k := by simp; omega
  rw [List.set_append_right _ _ (by omega), h2]
  simp
theorem SInW.put {w wy : World} {g n cp X k : Nat} {x : Rw} {out : List Rw} (h : SInW w wy g n cp X x out k) (hk : k ≤ out.length) (z : Rw) : RowE rwE (set4 wy g (k * 4) z) w.heap.size 72 (.slice (some ⟨g, 0, none⟩) n cp) (out.take k ++ z :: out.drop k) ∧ Below w.heap.size w (set4 wy g (k * 4) z) ∧ (set4 wy g (k * 4) z).heap[X]? = some (.cells #[.string x.name, .int .i64 x.ino, .int .i64 x.born, .int .i64 x.died] 72) := by
  obtain ⟨⟨y, h1⟩, h2, h3, h4, h5⟩ := h
  have hl := gapW_len out k y hk
  have h6 := rowE_set4 h1 k (by omega) z
  rw [gapW_set out k y z hk] at h6
  exact ⟨h6, set4_below h2 h5 _ _, (set4_heap _ _ _ _ h4).trans h3⟩
theorem SInW.move {w wy : World} {g n cp X j : Nat} {x : Rw} {out : List Rw} (h : SInW w wy g n cp X x out (j + 1)) (hj : j + 1 ≤ out.length) : SInW w (set4 wy g ((j + 1) * 4) (out.getD j zR)) g n cp X x out j := by
  have h1 := h.put hj (out.getD j zR)
  have h4 : j < out.length := by omega
  have e : out.take (j + 1) ++ out.getD j zR :: out.drop (j + 1) = out.take j ++ out.getD j zR :: out.drop j := by
    have e1 : out.getD j zR = out[j] := by simp [List.getD, h4]
    rw [e1, List.take_add_one, List.getElem?_eq_getElem h4, List.drop_eq_getElem_cons h4]
    simp only [Option.toList_some, List.append_assoc, List.singleton_append]
  rw [e] at h1
  exact ⟨⟨_, h1.1⟩, h1.2.1, h1.2.2, h.2.2.2⟩
theorem app_gapW {w wc w3 : World} {a2 : Option Addr} {m cap2 X : Nat} {x : Rw} {out : List Rw} {v3 : Value} {o : Obj} (hw : RowE rwE wc w.heap.size 72 (.slice a2 m cap2) out ∧ Below w.heap.size w wc ∧ wc.heap[X]? = some (.cells #[.string x.name, .int .i64 x.ino, .int .i64 x.born, .int .i64 x.died] 72) ∧ (∀ k, (Value.slice a2 m cap2).ownBlock = some k → k < X)) (hm : m = out.length)
    (k1 : RowE rwE w3 w.heap.size 72 v3 (out ++ [zR])) (k2 : (wc.alloc o).grownBy w3 (Value.slice a2 m cap2).ownBlock) (k3 : ∀ k, v3.ownBlock = some k → (Value.slice a2 m cap2).ownBlock = some k ∨ (wc.alloc o).heap.size ≤ k) :
    ∃ g cp, v3 = .slice (some ⟨g, 0, none⟩) (m + 1) cp ∧ Hid (SInW w w3 g (m + 1) cp X x out m) := by
  obtain ⟨h1, h2, h3, h4⟩ := hw
  have hb := bel_newG wc o
  have hX : X < wc.heap.size := blk_lt h3
  obtain ⟨g, cp, rfl, hg, _⟩ := rowE_form k1 (by simp)
  have el : (out ++ [zR]).length = m + 1 := by simp [hm]
  rw [el] at k1 k3 ⊢
  have hXg : X ≠ g := by
    intro e
    rcases k3 g rfl with h | h
    · have := h4 g h; omega
    · have := hb.size; omega
  have hs := Nat.le_trans h2.size hb.size
  refine ⟨g, cp, rfl, ⟨zR, ?_⟩, (bel_tr h2 hb).grown k2 hs (fun j hj => h1.block j hj), ?_, hXg, hg⟩
  · rw [hm, List.take_length, List.drop_length, ← hm]; exact k1
  · rw [k2.block X (by have := hb.size; omega) (fun e => by have := h4 X e.symm; omega), hb.block X hX]
    exact h3
def SOutW (w wr : World) (v : Value) (l : List Rw) (i : Nat) : Prop := RowE rwE wr w.heap.size 72 v (allW (l.take i)) ∧ Below w.heap.size w wr
set_option maxRecDepth 4000 in
set_option maxHeartbeats 8000000 in
theorem rall_any (q B : Nat) (sv : Value) (last : Int) (rs : List Rw) (w : World) (h : RTab w q B sv last rs) (hsm : rs.length ≤ 900) :
    Calls Tryz.prog 19 #[.pointer (some ⟨q, 0, none⟩)] w fun e w' => ∃ r, e = .returned r ∧ RowE rwE w' w.heap.size 72 r (allW rs) ∧ Below w.heap.size w w' := by
  have hs : SeesE rwE w sv rs := h.row.sees
  obtain ⟨ao, cap, rfl⟩ := hs.form
  obtain ⟨n, hn⟩ : ∃ n, n = rs.length := ⟨_, rfl⟩
  have hcell := h.cell
  rw [← hn] at hs hcell
  have H0 : Hid (w.heap[q]? = some (.cells #[.slice ao n cap, .int .i64 last] 30) ∧ SeesE rwE w (.slice ao n cap) rs) := ⟨hcell, hs⟩
  have HN : Hid (n = rs.length ∧ n ≤ 900) := ⟨hn, by omega⟩
  have hnm : (n : Int) ≤ 900 := by omega
  clear h hs hn hsm hcell
  go_enter Tryz.func19, Tryz.ntmps19
  go_upto_region 3 with fail
  go_loopw [3, 4] (fun sl si wr => ∃ i : Nat, i ≤ n ∧ si = .int .i64 (i : Int) ∧ Hid (SOutW w wr sl rs i)) (fun _ si _ => n - (intOf si).toNat)
  case atStart => exact ⟨0, Nat.zero_le _, rfl, rowE_nil rwE _ _ _, Below.refl _ _⟩
  case round =>
    obtain ⟨w1, hw1⟩ : ∃ z, z = wr := ⟨_, rfl⟩
    subst hw1
    obtain ⟨i, hi, rfl, HO⟩ := hrel
    have hso := HO.out
    unfold SOutW at hso
    have hqk := blk_below hso.2 H0.out.1
    have q0 : w1.cell? ⟨q, 0, none⟩ = some (.slice ao n cap) := blk_cell hqk rfl
    have hql : q < w1.heap.size := blk_lt hqk
    clear hqk
    by_cases hlt : i < n
    · have hil : i < rs.length := by have := HN.out.1; omega
      have hii : (i : Int) < (n : Int) := by omega
      have hi0 : (0 : Int) ≤ (i : Int) := by omega
      obtain ⟨b1, o1, e1, hnn1, hb1, hc1⟩ := rw_cells (H0.out.2.below hso.2) (by omega)
      subst e1
      obtain ⟨c0, c1, c2, c3⟩ := hc1 i hil
      clear hnn1 hc1
      have HST : Hid (allW (rs.take (i + 1)) = insW (allW (rs.take i)) rs[i]) := allW_step rs i hil
      obtain ⟨x, hx⟩ : ∃ x, x = rs[i] := ⟨_, rfl⟩
      rw [← hx] at c0 c1 c2 c3 HST
      clear hx
      obtain ⟨out, ho⟩ : ∃ o, o = allW (rs.take i) := ⟨_, rfl⟩
      have hol : out.length = i := by rw [ho, allW_len, List.length_take]; omega
      rw [← ho] at hso HST
      clear ho HO
      obtain ⟨a2, cap2, hv⟩ := hso.1.sees.form
      obtain ⟨m, hm⟩ : ∃ m, m = out.length := ⟨_, rfl⟩
      rw [← hm] at hv
      subst hv
      have hmm : (m : Int) ≤ 900 := by omega
      have HR : Hid (RowE rwE w1 w.heap.size 72 (.slice a2 m cap2) out ∧ Below w.heap.size w w1 ∧ m = out.length ∧ m ≤ 900) := ⟨hso.1, hso.2, hm, by omega⟩
      clear hso hol hm
      go_upto_block 2 with fail
      obtain ⟨W2, hW2⟩ : ∃ z, z = w1.alloc (.cells #[.string x.name, .int .i64 x.ino, .int .i64 x.born, .int .i64 x.died] 72) := ⟨_, rfl⟩
      obtain ⟨X, hX⟩ : ∃ z, z = w1.heap.size := ⟨_, rfl⟩
      have H2 : Hid (RowE rwE W2 w.heap.size 72 (.slice a2 m cap2) out ∧ Below w.heap.size w W2 ∧ W2.heap[X]? = some (.cells #[.string x.name, .int .i64 x.ino, .int .i64 x.born, .int .i64 x.died] 72) ∧ (∀ k, (Value.slice a2 m cap2).ownBlock = some k → k < X) ∧ w.heap.size ≤ W2.heap.size) := by
        have hb : Below w1.heap.size w1 W2 := by rw [hW2]; exact bel_newG _ _
        refine ⟨HR.out.1.below hb, bel_tr HR.out.2.1 hb, ?_, fun k hk => ?_, (bel_tr HR.out.2.1 hb).size⟩
        · rw [hW2, hX]; exact (MapKept.heap_alloc w1 _).1
        · obtain ⟨cur, hc⟩ := rowE_obj HR.out.1 hk
          rw [hX]; exact blk_lt hc
      have HXR : Hid (Below w.heap.size w w1) := HR.out.2.1
      rw [← hW2, ← hX]
      have HMM : Hid (m = out.length ∧ m ≤ 900) := HR.out.2.2
      clear hW2 hX HR c0 c1 c2 c3 q0 hql hb1
      go_cut [6] from 8 to 88 (fun s6 wx => ∃ a : Nat, a ≤ m ∧ s6 = .int .i64 (a : Int) ∧ Hid (posW out x out.length = a ∧ Below W2.heap.size W2 wx))
      case first =>
        go_wp2_with fail
        go_loopw [6] (fun s6 wx => ∃ a : Nat, a ≤ m ∧ s6 = .int .i64 (a : Int) ∧ Hid (posW out x out.length = posW out x a ∧ Below W2.heap.size W2 wx)) (fun s6 _ => (intOf s6).toNat)
        case atStart => exact ⟨m, Nat.le_refl _, rfl, by rw [HMM.out.1], Below.refl _ _⟩
        case round =>
          obtain ⟨wx, hwx⟩ : ∃ z, z = wr := ⟨_, rfl⟩
          subst hwx
          obtain ⟨a, ha, rfl, HP⟩ := hrel
          have hXk := blk_below HP.out.2 H2.out.2.2.1
          have x0 : wx.cell? ⟨X, 0, none⟩ = some (.string x.name) := blk_cell hXk rfl
          have x2 : wx.cell? ⟨X, 2, none⟩ = some (.int .i64 x.born) := blk_cell hXk rfl
          have xl : X < wx.heap.size := blk_lt hXk
          clear hXk
          cases a with
          | zero =>
            have HP2 : Hid (posW out x out.length = 0 ∧ Below W2.heap.size W2 wx) := ⟨HP.out.1, HP.out.2⟩
            clear HP
            go_wp2
            go_quiet (fail)
            go_wp2
            go_meet
            case rel => exact ⟨0, by omega, rfl, HP2.out.1, by first | exact HP2.out.2 | exact drewNB HP2.out.2 _⟩
          | succ p =>
            have hrow := H2.out.1.below HP.out.2
            obtain ⟨g, cap3, e1, hgB, _⟩ := rowE_form hrow (by have := HMM.out; omega)
            have e2 := (Value.slice.inj e1).1
            clear e1
            subst e2
            obtain ⟨hgl, _, y0, _, y2, _⟩ := rw_row hrow p (by have := HMM.out; omega)
            clear hrow
            have hpp := HP.out.1
            rw [posW] at hpp
            have hgd : out.getD p zR = out[p]'(by have := HMM.out; omega) := by simp [List.getD, show p < out.length by have := HMM.out; omega]
            rw [← hgd] at y0 y2
            obtain ⟨y, hy⟩ : ∃ y, out.getD p zR = y := ⟨_, rfl⟩
            rw [hy] at hpp y0 y2
            have ec : ((p + 1 : Nat) : Int) = (p : Int) + 1 := by omega
            rw [ec]
            have f0 : (p : Int) + 1 - 1 = (p : Int) := by omega
            have fw : IntKind.i64.wrap (p : Int) = (p : Int) := by rw [IntKind.wrap_i64]; omega
            have f1 : (p : Int) < (m : Int) := by omega
            have f2 : (0 : Int) ≤ (p : Int) := by omega
            have f3 : (0 : Int) < (p : Int) + 1 := by omega
            have HB : Hid (Below W2.heap.size W2 wx) := HP.out.2
            have HPP : Hid (posW out x out.length = if gtB y x = true then posW out x p else p + 1) := hpp
            clear hgd hy HP ec hpp
            obtain ⟨ny, iy, by', dy⟩ := y
            simp only at y0 y2
            cases hB : (ny.toList == x.name.toList) with
            | true =>
              by_cases hbo : x.born < by'
              · have hbd : decide (x.born < by') = true := decide_eq_true hbo
                have HV : Hid (posW out x out.length = posW out x p) := by show _ = _; rw [HPP.out, if_pos]; unfold gtB; simp only [hB, hbd]; simp
                clear HPP
                cases hA : Op.bytesLess ny.toList x.name.toList <;>
                · go_wp2
                  go_quiet (fail)
                  go_wp2
                  go_roundw
                  case rel => exact ⟨p, by omega, by go_num, HV.out, by first | exact HB.out | exact drewNB HB.out _⟩
                  case measure => simp [intOf]
              · have hbd : decide (x.born < by') = false := decide_eq_false hbo
                have HV : Hid (posW out x out.length = p + 1) := by show _ = _; rw [HPP.out, if_neg]; unfold gtB; simp only [hB, hbd]; simp
                clear HPP
                cases hA : Op.bytesLess ny.toList x.name.toList <;>
                · go_wp2
                  go_quiet (fail)
                  go_wp2
                  go_meet
                  case rel => exact ⟨p + 1, by omega, by first | rfl | go_num, HV.out, by first | exact HB.out | exact drewNB HB.out _⟩
            | false =>
              cases hA : Op.bytesLess ny.toList x.name.toList with
              | true =>
                have HV : Hid (posW out x out.length = p + 1) := by show _ = _; rw [HPP.out, if_neg]; unfold gtB; simp only [hB, hA]; simp
                clear HPP
                go_wp2
                go_quiet (fail)
                go_wp2
                go_meet
                case rel => exact ⟨p + 1, by omega, by first | rfl | go_num, HV.out, by first | exact HB.out | exact drewNB HB.out _⟩
              | false =>
                have HV : Hid (posW out x out.length = posW out x p) := by show _ = _; rw [HPP.out, if_pos]; unfold gtB; simp only [hB, hA]; simp
                clear HPP
                go_wp2
                go_quiet (fail)
                go_wp2
                go_roundw
                case rel => exact ⟨p, by omega, by go_num, HV.out, by first | exact HB.out | exact drewNB HB.out _⟩
                case measure => simp [intOf]
      case rest =>
        obtain ⟨a, ham, rfl, HC⟩ := hcut
        have HW : Hid (RowE rwE wc w.heap.size 72 (.slice a2 m cap2) out ∧ Below w.heap.size w wc ∧ wc.heap[X]? = some (.cells #[.string x.name, .int .i64 x.ino, .int .i64 x.born, .int .i64 x.died] 72) ∧ (∀ k, (Value.slice a2 m cap2).ownBlock = some k → k < X)) :=
          ⟨H2.out.1.below HC.out.2, bel_tr H2.out.2.1 HC.out.2, blk_below HC.out.2 H2.out.2.2.1, H2.out.2.2.2.1⟩
        have HI : Hid (allW (rs.take (i + 1)) = out.take a ++ x :: out.drop a) := by
          show _ = _
          rw [HST.out, insW, HC.out.1]
        have HA : Hid (RowE rwE (wc.alloc (.cells #[.string ⟨#[]⟩, .int .i64 0, .int .i64 0, .int .i64 0] 72)) w.heap.size 72 (.slice a2 m cap2) out ∧ SeesE rwE (wc.alloc (.cells #[.string ⟨#[]⟩, .int .i64 0, .int .i64 0, .int .i64 0] 72)) (.slice (some ⟨wc.heap.size, 0, none⟩) 1 1) [zR] ∧ out.length + [zR].length ≤ maxLen ∧ (out.length + [zR].length) * 40 ≤ 140737488355328 ∧ w.heap.size ≤ (wc.alloc (.cells #[.string ⟨#[]⟩, .int .i64 0, .int .i64 0, .int .i64 0] 72)).heap.size) := by
          have hb := bel_newG wc (.cells #[.string ⟨#[]⟩, .int .i64 0, .int .i64 0, .int .i64 0] 72)
          have h1 := HMM.out
          refine ⟨HW.out.1.below hb, seesE_at rwE (x := zR) (MapKept.heap_alloc wc _).1, ?_, ?_, Nat.le_trans HW.out.2.1.size hb.size⟩ <;> simp only [List.length_cons, List.length_nil] <;> (try unfold maxLen) <;> omega
        clear H2 HC HST
        go_upto_region 10 with (at_builtin; refine wpList_appF (E := rwE) Tryz.underlying28 infoRw rfl rfl _ _ rfl w.heap.size (.slice a2 m cap2) out rfl HA.out.1 (.slice (some ⟨wc.heap.size, 0, none⟩) 1 1) [zR] rfl HA.out.2.1 HA.out.2.2.1 HA.out.2.2.2.1 HA.out.2.2.2.2 ?_; intro v3 w3 k1 k2 k3; obtain ⟨g, cp, hv3, HQ⟩ := app_gapW HW.out HMM.out.1 k1 k2 k3; subst hv3; clear k1 k2 k3)
        clear HW HA
        go_wp2
        go_loopw [7] (fun v wy => ∃ k : Nat, a ≤ k ∧ k ≤ m ∧ v = .int .i64 (k : Int) ∧ Hid (SInW w wy g (m + 1) cp X x out k)) (fun v _ => (intOf v).toNat)
        case atStart => exact ⟨m, ham, Nat.le_refl _, by first | rfl | simp | go_num, HQ.out⟩
        case round =>
          obtain ⟨wy, hwy⟩ : ∃ z, z = wr := ⟨_, rfl⟩
          subst hwy
          obtain ⟨k, hka, hkl, rfl, HK⟩ := hrel
          by_cases hlt2 : a < k
          · obtain ⟨j, rfl⟩ : ∃ j, k = j + 1 := ⟨k - 1, by omega⟩
            have ec : ((j + 1 : Nat) : Int) = (j : Int) + 1 := by omega
            rw [ec]
            have p0 : (a : Int) < (j : Int) + 1 := by omega
            have p1 : (j : Int) < (m : Int) + 1 := by omega
            have p2 : (j : Int) + 1 < (m : Int) + 1 := by omega
            have p3 : (0 : Int) ≤ (j : Int) := by omega
            have p4 : (j : Int) + 1 - 1 = (j : Int) := by omega
            have hjo : j + 1 ≤ out.length := by have := HMM.out.1; omega
            obtain ⟨d0, d1, d2, d3⟩ := HK.out.cellB (j := j) (by omega) hjo
            obtain ⟨yo, gl, gf, b0, b1', b2, b3⟩ := HK.out.cellA hjo
            have HK2 := HK.out.move hjo
            obtain ⟨y, hy⟩ : ∃ y, out.getD j zR = y := ⟨_, rfl⟩
            rw [hy] at d0 d1 d2 d3 HK2
            have HK3 : Hid _ := HK2
            clear ec HK HK2 hy hjo
            go_wp2
            go_roundw
            case rel => exact ⟨j, by omega, by omega, by first | rfl | simp | go_num, HK3.out⟩
            case measure => simp [intOf]
          · obtain rfl : k = a := by omega
            have p0 : ¬ (k : Int) < (k : Int) := by omega
            have p2 : (k : Int) < (m : Int) + 1 := by omega
            have p3 : (0 : Int) ≤ (k : Int) := by omega
            have hjo : k ≤ out.length := by have := HMM.out.1; omega
            obtain ⟨xl, d0, d1, d2, d3⟩ := HK.out.box
            obtain ⟨yo, gl, gf, b0, b1', b2, b3⟩ := HK.out.cellA hjo
            have HK2 := HK.out.put hjo x
            rw [← HI.out] at HK2
            have HK3 : Hid _ := HK2
            clear HK HK2 hjo
            go_wp2
            go_roundw
            case rel => exact ⟨i + 1, by omega, by first | rfl | simp | go_num, HK3.out.1, HK3.out.2.1⟩
            case measure => simp [intOf]; omega
    · have hkl : i = rs.length := by have := HN.out.1; omega
      rw [hkl, List.take_length] at hso
      have HE : Hid (RowE rwE w1 w.heap.size 72 u3 (allW rs) ∧ Below w.heap.size w w1) := ⟨hso.1, hso.2⟩
      have h2 : ¬ (i : Int) < (n : Int) := by omega
      clear hso HO hkl
      go_wp2
      go_ret
      exact ⟨_, rfl, HE.out⟩
end Go.Proofs.YthjcmagionaepaaGreat
