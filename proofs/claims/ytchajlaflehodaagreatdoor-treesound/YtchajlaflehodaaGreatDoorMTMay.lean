/- dolmenref5.May of a tree that keeps what a tree keeps: it may be. -/
import Derived.Test.YtchajlaflehodaaGreatDoorMTReach
import Derived.Test.YtchajlaflehodaaGreatDoorG1
import Derived.Deep.DeepCutAuto
import Derived.Deep.CutRange
import Derived.BigQuiet
namespace Go.Proofs.YtchajlaflehodaaGreatDoor
open Go.RowKit Kit
set_option linter.unusedVariables false

theorem split_single {s : ByteArray} (h1 : okB s = true) (h2 : s.size ≤ 12) : splitB (⟨#[47]⟩ ++ s) = ([s], 0) := by
  have h := split_join (l := [s]) (by simp [h1]) (by simp [longB]; omega) (by simp)
  have e : joinB [s] = ⟨#[47]⟩ ++ s := by
    unfold joinB
    rw [if_neg (by simp)]
    simp [joinTo]
    rfl
  rw [← e]; exact h
theorem rising_next {l : List ByteArray} (h : Rising l) {j : Nat} (hj : j + 1 < l.length) : Op.bytesLess (l.getD j ⟨#[]⟩).toList (l.getD (j + 1) ⟨#[]⟩).toList = true := by
  have h1 := List.pairwise_iff_getElem.1 h j (j + 1) (by omega) hj (by omega)
  simp [List.getD, hj, (by omega : j < l.length)]
  exact h1
theorem kids_le {t : TreeB} (h : Good t) (i : Int) : (t.nodes.map fun n => countB n i).sum ≤ 20 := by
  have h1 := h.1.many i
  unfold kidsB at h1
  have e : (t.nodes.map fun n => countB n i) = t.nodes.map fun n => n.inos.count i := List.map_congr_left fun n hn => countB_eq (h.1.each n hn) i
  rw [e]; exact h1
theorem links_good {t : TreeB} (h : Good t) {k : Nat} (hk : k < t.nodes.length) : 1 ≤ linksB t (nodeAt t k).ino ∧ linksB t (nodeAt t k).ino ≤ 20 ∧ ((nodeAt t k).kind = 2 → linksB t (nodeAt t k).ino ≤ 1) := by
  by_cases e : (nodeAt t k).ino = 1
  · rw [e, links_root h.1]; omega
  · rw [links_kids h.1 (nodeAt_mem hk) e]
    exact ⟨h.2 _ (nodeAt_mem hk) e, h.1.many _, h.1.once _ (nodeAt_mem hk)⟩
/-- Where May's memory stands. -/
structure MAt (w : World) (v0 v1 : Value) (U : World) (nb : Nat) (ino kind : Int) (d m i : Value) : Prop where
  box : U.heap[w.heap.size]? = some (.cells #[v0, v1] 41)
  bel : Below w.heap.size w U
  nbx : U.heap[nb]? = some (.cells #[.int .i64 ino, .int .i64 kind, d, m, i] 49)
theorem MAt.below {w U U' : World} {v0 v1 d m i : Value} {nb : Nat} {ino kind : Int} (h : MAt w v0 v1 U nb ino kind d m i) (hb : Below U.heap.size U U') : MAt w v0 v1 U' nb ino kind d m i :=
  ⟨(hb.block _ (Array.getElem?_eq_some_iff.1 h.box).1).trans h.box, bel2v h.bel hb, (hb.block _ (Array.getElem?_eq_some_iff.1 h.nbx).1).trans h.nbx⟩
theorem MAt.c {w U : World} {v0 v1 d m i : Value} {nb : Nat} {ino kind : Int} (h : MAt w v0 v1 U nb ino kind d m i) : U.cell? ⟨w.heap.size, 0, none⟩ = some v0 ∧ U.cell? ⟨w.heap.size, 1, none⟩ = some v1 ∧ w.heap.size < U.heap.size ∧ U.cell? ⟨nb, 0, none⟩ = some (.int .i64 ino) ∧ U.cell? ⟨nb, 1, none⟩ = some (.int .i64 kind) ∧ U.cell? ⟨nb, 2, none⟩ = some d ∧ U.cell? ⟨nb, 3, none⟩ = some m ∧ U.cell? ⟨nb, 4, none⟩ = some i ∧ nb < U.heap.size := by
  have h1 := h.box
  have h2 := h.nbx
  refine ⟨?_, ?_, (Array.getElem?_eq_some_iff.1 h1).1, ?_, ?_, ?_, ?_, ?_, (Array.getElem?_eq_some_iff.1 h2).1⟩
  · simp [World.cell?, h1]
  · simp [World.cell?, h1]
  · simp [World.cell?, h2]
  · simp [World.cell?, h2]
  · simp [World.cell?, h2]
  · simp [World.cell?, h2]
  · simp [World.cell?, h2]
def BAt (w : World) (v0 v1 : Value) (U : World) : Prop := U.heap[w.heap.size]? = some (.cells #[v0, v1] 41) ∧ Below w.heap.size w U
theorem MAt.b {w U : World} {v0 v1 d m i : Value} {nb : Nat} {ino kind : Int} (h : MAt w v0 v1 U nb ino kind d m i) : BAt w v0 v1 U := ⟨h.box, h.bel⟩
theorem BAt.below {w U U' : World} {v0 v1 : Value} (h : BAt w v0 v1 U) (hb : Below U.heap.size U U') : BAt w v0 v1 U' := ⟨(hb.block _ (Array.getElem?_eq_some_iff.1 h.1).1).trans h.1, bel2v h.2 hb⟩
theorem BAt.c {w U : World} {v0 v1 : Value} (h : BAt w v0 v1 U) : U.cell? ⟨w.heap.size, 0, none⟩ = some v0 ∧ U.cell? ⟨w.heap.size, 1, none⟩ = some v1 ∧ w.heap.size < U.heap.size := by
  have h1 := h.1
  refine ⟨?_, ?_, (Array.getElem?_eq_some_iff.1 h1).1⟩
  · simp [World.cell?, h1]
  · simp [World.cell?, h1]
theorem BAt.node {w U : World} {v0 v1 : Value} (h : BAt w v0 v1 U) (ino kind : Int) (d m i : Value) : MAt w v0 v1 (U.alloc (.cells #[.int .i64 ino, .int .i64 kind, d, m, i] 49)) U.heap.size ino kind d m i := by
  have hb : Below U.heap.size U (U.alloc (.cells #[.int .i64 ino, .int .i64 kind, d, m, i] 49)) := (Below.refl _ _).alloc (Nat.le_refl _) _
  have := h.below hb
  exact ⟨this.1, this.2, (MapKept.heap_alloc U _).1⟩
set_option maxRecDepth 4000 in
set_option maxHeartbeats 8000000 in
theorem tmay_any (v : Value) (t : TreeB) (w : World) (hT : TreeAt w v t) (hG : Good t) :
    Calls Tryz.prog 17 #[v] w fun e w' => e = .returned (.bool true) ∧ Below w.heap.size w w' := by
  have HT : Hid (TreeAt w v t) := hT
  obtain ⟨ao, cap, fs, rfl, h1, h2, h3, h4, h5⟩ := hT.opened
  have hl := fs_len h3
  have h60 : t.nodes.length ≤ 60 := hG.1.size
  have lm : (t.nodes.length : Int) ≤ 60 := by omega
  have r0 := hG.1.root0
  have lp : (0 : Int) < (t.nodes.length : Int) := by omega
  have lq : ((t.nodes.length : Int) == 0) = false := beq_eq_false_iff_ne.2 (by omega)
  have nx : t.next ≤ 1099511627776 := hG.1.next
  obtain ⟨b, off, rfl, hb, hc⟩ := h5 r0.1
  have HC : Hid (∀ k (hk : k < fs.length), At5 w b (off + k * 5) fs[k]) := hc
  have HX : Hid (fs.map FN.n = t.nodes ∧ (∀ f ∈ fs, f.is w) ∧ fs.length = t.nodes.length ∧ b < w.heap.size) := ⟨h3, h4, hl, hb⟩
  have HG : Hid (Good t) := hG
  have HNd : Hid (∀ k, k < t.nodes.length → ∃ f : FN, nodeAt t k = f.n ∧ f.is w ∧ ∀ U, Below w.heap.size w U → At5 U b (off + k * 5) f) := fun k hk => ⟨fs[k]'(by omega), fs_at h3 (by omega), h4 _ (List.getElem_mem _), fun U hU => At5.below (hc k (by omega)) hb hU⟩
  obtain ⟨W0, hW0⟩ : ∃ z, z = w.alloc (.cells #[.slice (some ⟨b, off, none⟩) t.nodes.length cap, .int .i64 t.next] 41) := ⟨_, rfl⟩
  have HB0 : Hid (BAt w (.slice (some ⟨b, off, none⟩) t.nodes.length cap) (.int .i64 t.next) W0) := by
    rw [hW0]; exact ⟨(MapKept.heap_alloc w _).1, (Below.refl _ _).alloc (Nat.le_refl _) _⟩
  have r1 : (w.alloc (.cells #[.slice (some ⟨b, off, none⟩) t.nodes.length cap, .int .i64 t.next] 41)).cell? ⟨b, off, none⟩ = some (.int .i64 1) := by
    obtain ⟨f, e, _, ha⟩ := HNd.out 0 r0.1
    have := (ha W0 HB0.out.2).1
    rw [Nat.zero_mul, Nat.add_zero, ← e, r0.2.1, hW0] at this
    exact this
  have r2 : (w.alloc (.cells #[.slice (some ⟨b, off, none⟩) t.nodes.length cap, .int .i64 t.next] 41)).cell? ⟨b, off + 1, none⟩ = some (.int .i64 2) := by
    obtain ⟨f, e, _, ha⟩ := HNd.out 0 r0.1
    have := (ha W0 HB0.out.2).2.1
    rw [Nat.zero_mul, Nat.add_zero, ← e, r0.2.2, hW0] at this
    exact this
  have bl : b < w.heap.size := hb
  clear h1 h2 h3 h4 h5 hT hG hc hb r0
  go_enter Tryz.func17, Tryz.ntmps17
  go_wp2_with fail
  rw [← hW0]
  clear hW0 r1 r2
  go_loopw [3, 4, 5, 6, 7] (fun s3 _ _ _ _ wr => ∃ k : Nat, k ≤ t.nodes.length ∧ s3 = .int .i64 (k : Int) ∧ Hid (BAt w (.slice (some ⟨b, off, none⟩) t.nodes.length cap) (.int .i64 t.next) wr)) (fun s3 _ _ _ _ _ => t.nodes.length - (intOf s3).toNat)
  case atStart => exact ⟨0, Nat.zero_le _, rfl, HB0⟩
  case round =>
    obtain ⟨k, hk, rfl, HB⟩ := hrel
    clear HB0
    obtain ⟨x0, x1, x2⟩ := HB.out.c
    by_cases hlt : k < t.nodes.length
    · have kl : (k : Int) < (t.nodes.length : Int) := by omega
      have kz : (0 : Int) ≤ (k : Int) := by omega
      obtain ⟨f, hn, hfi, ha⟩ := HNd.out k hlt
      have a5 := ha wr HB.out.2
      have ok := HG.out.1.each _ (nodeAt_mem hlt)
      have hbelow := HG.out.1.below _ (nodeAt_mem hlt)
      rw [hn] at ok hbelow
      have HKN : Hid (nodeAt t k = f.n) := hn
      have HLd := HG.out.1.leads _ (nodeAt_mem hlt)
      have HSm := names_small HG.out.1 (nodeAt_mem hlt)
      rw [hn] at HLd HSm
      obtain ⟨⟨ino, kind, data, names, inos⟩, d, m, iv⟩ := f
      obtain ⟨hd, hm, hi⟩ := hfi
      simp only at hd hm hi ok hbelow HKN HLd HSm
      obtain ⟨dox, dc, rfl, p1, p2, p3, p4⟩ := hd
      obtain ⟨mo, mc, rfl, m1, m2, m3, m4⟩ := hm
      obtain ⟨io, ic, rfl, i1, i2, i3, i4⟩ := hi
      rw [intsV_len] at p1 i1
      simp only [intsV_len, strs_len] at a5 m1 m4 i4
      obtain ⟨y0, y1, y2, y3, y4⟩ := a5
      simp only at y0 y1 y2 y3 y4
      have HOK : Hid (NodeOK ⟨ino, kind, data, names, inos⟩) := ok
      have HLD : Hid (∀ i ∈ inos, _) := HLd
      have HM4 : Hid (0 < names.length → _) := m4
      have HI4 : Hid (0 < inos.length → _) := i4
      have HSM : Hid (names.length ≤ 1200 ∧ inos.length ≤ 1200) := HSm
      have bl2 : b < wr.heap.size := Nat.lt_of_lt_of_le bl HB.out.2.size
      clear hn ha p1 p2 p3 p4 m1 m2 m3 m4 i1 i2 i3 i4 HLd HSm
      go_upto_region 7 with fail
      obtain ⟨W2, hW2⟩ : ∃ z, z = wr.alloc (.cells #[.int .i64 ino, .int .i64 kind, .slice dox data.length dc, .slice mo names.length mc, .slice io inos.length ic] 49) := ⟨_, rfl⟩
      rw [← hW2]
      have HM2 : Hid (MAt w (.slice (some ⟨b, off, none⟩) t.nodes.length cap) (.int .i64 t.next) W2 wr.heap.size ino kind (.slice dox data.length dc) (.slice mo names.length mc) (.slice io inos.length ic)) := by rw [hW2]; exact HB.out.node _ _ _ _ _
      obtain ⟨nb, hnb⟩ : ∃ z, z = wr.heap.size := ⟨_, rfl⟩
      rw [← hnb] at HM2
      have hnb2 : wr.heap.size = nb := hnb.symm
      rw [hnb2]
      clear hW2 x0 x1 x2 y0 y1 y2 y3 y4 hnb hnb2 bl2
      go_cut [108] (fun c wx => c = .bool false ∧ Hid (MAt w (.slice (some ⟨b, off, none⟩) t.nodes.length cap) (.int .i64 t.next) wx nb ino kind (.slice dox data.length dc) (.slice mo names.length mc) (.slice io inos.length ic)))
      case first =>
        obtain ⟨x0, x1, x2, n0, n1, n2, n3, n4, n5⟩ := HM2.out.c
        have q1 : ¬ t.next ≤ ino := by omega
        have q1d : decide (t.next ≤ ino) = false := decide_eq_false q1
        have bl2 : b < W2.heap.size := Nat.lt_of_lt_of_le bl HM2.out.bel.size
        rcases HOK.out.2.2 with ⟨e1, _, e3⟩ | ⟨e1, e2, e3, e4, _⟩
        · simp only at e1 e3
          subst e1
          have e5 : ((names.length : Int) != (inos.length : Int)) = false := by simp [e3]
          by_cases k0 : k = 0
          · subst k0
            go_quiet (fail)
            go_wp2
            go_meet
            case rel => exact ⟨rfl, HM2.out.below (drewNB (Below.refl _ _) _)⟩
          · obtain ⟨j, rfl⟩ : ∃ j, k = j + 1 := ⟨k - 1, by omega⟩
            obtain ⟨g, hgn, _, hga⟩ := HNd.out j (by omega)
            have z0 := (hga W2 HM2.out.bel).1
            have hri := List.pairwise_iff_getElem.1 HG.out.1.rise j (j + 1) (by omega) hlt (by omega)
            rw [← nodeAt_eq t j (by omega), ← nodeAt_eq t (j + 1) hlt, HKN.out, hgn] at hri
            obtain ⟨y, hy⟩ : ∃ y, g.n.ino = y := ⟨_, rfl⟩
            rw [hy] at z0 hri
            simp only at hri
            have hr2 : ¬ ino ≤ y := by omega
            have hr3 : decide (ino ≤ y) = false := decide_eq_false hr2
            have jl : (j : Int) < (t.nodes.length : Int) := by omega
            have jz : (0 : Int) ≤ (j : Int) := by omega
            clear hga hgn hy
            go_quiet (fail)
            go_wp2
            go_meet
            case rel => exact ⟨rfl, HM2.out.below (drewNB (Below.refl _ _) _)⟩
        · simp only at e1 e2 e3 e4
          subst e1
          have e5 : decide ((2000 : Int) < (data.length : Int)) = false := decide_eq_false (by omega)
          by_cases k0 : k = 0
          · subst k0
            go_quiet (fail)
            go_wp2
            go_meet
            case rel => exact ⟨rfl, HM2.out.below (drewNB (Below.refl _ _) _)⟩
          · obtain ⟨j, rfl⟩ : ∃ j, k = j + 1 := ⟨k - 1, by omega⟩
            obtain ⟨g, hgn, _, hga⟩ := HNd.out j (by omega)
            have z0 := (hga W2 HM2.out.bel).1
            have hri := List.pairwise_iff_getElem.1 HG.out.1.rise j (j + 1) (by omega) hlt (by omega)
            rw [← nodeAt_eq t j (by omega), ← nodeAt_eq t (j + 1) hlt, HKN.out, hgn] at hri
            obtain ⟨y, hy⟩ : ∃ y, g.n.ino = y := ⟨_, rfl⟩
            rw [hy] at z0 hri
            simp only at hri
            have hr2 : ¬ ino ≤ y := by omega
            have hr3 : decide (ino ≤ y) = false := decide_eq_false hr2
            have jl : (j : Int) < (t.nodes.length : Int) := by omega
            have jz : (0 : Int) ≤ (j : Int) := by omega
            clear hga hgn hy
            go_quiet (fail)
            go_wp2
            go_meet
            case rel => exact ⟨rfl, HM2.out.below (drewNB (Below.refl _ _) _)⟩
      case rest =>
        obtain ⟨rfl, HM3⟩ := hcut
        clear HM2 HB
        have HHere : Hid (∀ U, MAt w (.slice (some ⟨b, off, none⟩) t.nodes.length cap) (.int .i64 t.next) U nb ino kind (.slice dox data.length dc) (.slice mo names.length mc) (.slice io inos.length ic) → U.cell? ⟨w.heap.size, 0, none⟩ = some (.slice (some ⟨b, off, none⟩) t.nodes.length cap) ∧ U.cell? ⟨w.heap.size, 1, none⟩ = some (.int .i64 t.next) ∧ w.heap.size < U.heap.size ∧ U.cell? ⟨nb, 1, none⟩ = some (.int .i64 kind) ∧ U.cell? ⟨nb, 3, none⟩ = some (.slice mo names.length mc) ∧ U.cell? ⟨nb, 4, none⟩ = some (.slice io inos.length ic) ∧ nb < U.heap.size) := fun U h => by
          obtain ⟨x0, x1, x2, n0, n1, n2, n3, n4, n5⟩ := h.c
          exact ⟨x0, x1, x2, n1, n3, n4, n5⟩
        have nl : (names.length : Int) ≤ 1200 := by have := HSM.out.1; omega
        go_wp2_with fail
        go_loopw [5, 6, 7] (fun s5 _ _ wr => ∃ g : Nat, g ≤ names.length ∧ s5 = .int .i64 (g : Int) ∧ Hid (MAt w (.slice (some ⟨b, off, none⟩) t.nodes.length cap) (.int .i64 t.next) wr nb ino kind (.slice dox data.length dc) (.slice mo names.length mc) (.slice io inos.length ic))) (fun s5 _ _ _ => names.length - (intOf s5).toNat)
        case atStart => exact ⟨0, Nat.zero_le _, rfl, HM3⟩
        case round =>
          obtain ⟨g, hg, rfl, HMg⟩ := hrel
          clear HM3
          obtain ⟨x0, x1, x2, n1, n3, n4, n5⟩ := HHere.out _ HMg.out
          by_cases hgl : g < names.length
          · have gl : (g : Int) < (names.length : Int) := by omega
            have gz : (0 : Int) ≤ (g : Int) := by omega
            have hkd : kind = 2 := by
              rcases HOK.out.2.2 with ⟨e1, _, _⟩ | ⟨_, e2, _⟩
              · exact e1
              · simp only at e2; rw [e2] at hgl; exact absurd hgl (by simp)
            subst hkd
            have hil : g < inos.length := by have := HOK.out.len; simp only at this; omega
            have il : (g : Int) < (inos.length : Int) := by omega
            obtain ⟨mb, mf, rfl, hmb, hmc⟩ := HM4.out (by omega)
            obtain ⟨ib, jf, rfl, hib, hic⟩ := HI4.out (by omega)
            have sg : (strs names)[g]? = some (.string (names.getD g ⟨#[]⟩)) := by simp [strs, List.getD, hgl]
            have HSc : Hid (∀ U, MAt w (.slice (some ⟨b, off, none⟩) t.nodes.length cap) (.int .i64 t.next) U nb ino 2 (.slice dox data.length dc) (.slice (some ⟨mb, mf, none⟩) names.length mc) (.slice (some ⟨ib, jf, none⟩) inos.length ic) → U.cell? ⟨mb, mf + g, none⟩ = some (.string (names.getD g ⟨#[]⟩)) ∧ U.cell? ⟨ib, jf + g, none⟩ = some (.int .i64 (inos.getD g 0)) ∧ mb < U.heap.size ∧ ib < U.heap.size ∧ ∀ j, j + 1 = g → U.cell? ⟨mb, mf + j, none⟩ = some (.string (names.getD j ⟨#[]⟩))) := fun U h => by
              refine ⟨(h.bel.cell (by exact hmb)).trans (hmc g _ sg), (h.bel.cell (by exact hib)).trans (hic g _ (intsV_at .i64 inos g hil)), Nat.lt_of_lt_of_le hmb h.bel.size, Nat.lt_of_lt_of_le hib h.bel.size, fun j hj => ?_⟩
              exact (h.bel.cell (by exact hmb)).trans (hmc j _ (by simp [strs, List.getD, (by omega : j < names.length)]))
            obtain ⟨s0, s1, s2, s3, _⟩ := HSc.out _ HMg.out
            have hmem : names.getD g ⟨#[]⟩ ∈ names := by simp [List.getD, hgl]
            obtain ⟨o1, o2⟩ := HOK.out.2.1 _ hmem
            have hsp := split_single o1 o2
            have him : inos.getD g 0 ∈ inos := by simp [List.getD, hil]
            obtain ⟨v1, v2⟩ := HLD.out _ him
            have HRi : Hid (∀ j, j + 1 = g → Op.bytesLess (names.getD j ⟨#[]⟩).toList (names.getD g ⟨#[]⟩).toList = true) := fun j hj => by subst hj; exact rising_next HOK.out.1 hgl
            obtain ⟨x, hx⟩ : ∃ x, inos.getD g 0 = x := ⟨_, rfl⟩
            obtain ⟨s, hs⟩ : ∃ s, names.getD g ⟨#[]⟩ = s := ⟨_, rfl⟩
            rw [hx] at HSc s1 v1 v2
            rw [hs] at HSc s0 o2 hsp HRi
            have HPq : Hid (∃ q : Nat, placeB t x = (q : Int)) := by
              obtain ⟨n, hn, he⟩ := v2
              obtain ⟨q, hq⟩ := placeO_of hn
              rw [he] at hq
              exact ⟨q, by unfold placeB; rw [hq]⟩
            have xe : (x == 1) = false := beq_eq_false_iff_ne.2 v1
            have HSp : Hid (∀ U, Calls Tryz.prog 34 #[.string (⟨#[47]⟩ ++ s)] U fun e w' => ∃ a c, e = .returned (.tuple #[.slice a 1 c, .int .i64 0]) ∧ Hid (Below U.heap.size U w')) := fun U => by
              refine (split_any _ U (by rw [ByteArray.size_append]; unfold maxLen; have : (⟨#[47]⟩ : ByteArray).size = 1 := rfl; omega)).mono ?_
              rintro e w' ⟨r, rfl, hr, hb'⟩
              rw [hsp] at hr ⊢
              obtain ⟨a, c, e, _⟩ := hr.sees
              exact ⟨a, c, by rw [e]; rfl, hb'⟩
            have ss : s.size ≤ 12 := o2
            clear hmb hmc hib hic sg hmem him v2 hsp hx hs o1 o2
            go_wp2_with fail
            go_at_call 34
            refine (HSp.out _).mono ?_
            rintro e w5 ⟨sa, sc, rfl, HB5⟩
            have HM5 : Hid (MAt _ _ _ _ _ _ _ _ _ _) := HMg.out.below HB5.out
            clear HB5 HSp HMg x0 x1 x2 n1 n3 n4 n5 s0 s1 s2 s3
            go_upto_region 13 with fail
            go_cut [173] (fun c wx => c = .bool false ∧ Hid (MAt w (.slice (some ⟨b, off, none⟩) t.nodes.length cap) (.int .i64 t.next) wx nb ino 2 (.slice dox data.length dc) (.slice (some ⟨mb, mf, none⟩) names.length mc) (.slice (some ⟨ib, jf, none⟩) inos.length ic)))
            case first =>
              obtain ⟨q, hq⟩ := HPq.out
              have HPl : Hid (∀ n : OwnW w5, Calls Tryz.prog 35 #[.agg #[.slice (some ⟨b, off, none⟩) t.nodes.length cap, .int .i64 t.next], .int .i64 x] n.1 fun e w' => e = .returned (.int .i64 (q : Int)) ∧ ∃ m : OwnW w5, w' = m.1) := fun n => Calls.own_of (by
                have := place_any _ t x n.1 (HT.out.below (HM5.out.below n.2).bel)
                rw [hq] at this
                exact this)
              have qd : decide ((q : Int) < 0) = false := decide_eq_false (by omega)
              have t0 : ∀ n : OwnW w5, n.1.cell? ⟨w.heap.size, 0, none⟩ = some (.slice (some ⟨b, off, none⟩) t.nodes.length cap) := fun n => (HHere.out _ (HM5.out.below n.2)).1
              have t1 : ∀ n : OwnW w5, n.1.cell? ⟨w.heap.size, 1, none⟩ = some (.int .i64 t.next) := fun n => (HHere.out _ (HM5.out.below n.2)).2.1
              have t3 : ∀ n : OwnW w5, n.1.cell? ⟨nb, 3, none⟩ = some (.slice (some ⟨mb, mf, none⟩) names.length mc) := fun n => (HHere.out _ (HM5.out.below n.2)).2.2.2.2.1
              have t4 : ∀ n : OwnW w5, n.1.cell? ⟨nb, 4, none⟩ = some (.slice (some ⟨ib, jf, none⟩) inos.length ic) := fun n => (HHere.out _ (HM5.out.below n.2)).2.2.2.2.2.1
              have hne := ownW_nonempty w5
              by_cases g0 : g = 0
              · subst g0
                have t5 : ∀ n : OwnW w5, n.1.cell? ⟨mb, mf, none⟩ = some (.string s) := fun n => (HSc.out _ (HM5.out.below n.2)).1
                have t6 : ∀ n : OwnW w5, n.1.cell? ⟨ib, jf, none⟩ = some (.int .i64 x) := fun n => (HSc.out _ (HM5.out.below n.2)).2.1
                refine wp_region_own (by kernel_rfl) (by kernel_rfl) ?_
                repeat (go_big_quiet_step (exact HPl.out _))
                refine wpQuiet_nil ?_
                intro _ hw'
                obtain ⟨m, hw''⟩ := hw'
                subst hw''
                have HM6 : Hid (MAt _ _ _ _ _ _ _ _ _ _) := HM5.out.below m.2
                go_wp2
                go_meet
                case rel => exact ⟨rfl, HM6⟩
              · obtain ⟨j, rfl⟩ : ∃ j, g = j + 1 := ⟨g - 1, by omega⟩
                have hles := HRi.out j rfl
                obtain ⟨y, hy⟩ : ∃ y, names.getD j ⟨#[]⟩ = y := ⟨_, rfl⟩
                rw [hy] at hles
                have hl1 : Op.bytesLess s.toList y.toList = false := by
                  cases e : Op.bytesLess s.toList y.toList with
                  | false => rfl
                  | true => have := lb_trans _ _ _ hles e; rw [lb_irrefl] at this; cases this
                have hlne : s ≠ y := fun e => by subst e; rw [lb_irrefl] at hles; cases hles
                have hl2 : (s.toList == y.toList) = false := by rw [bytes_eq]; simp [hlne]
                have t5 : ∀ n : OwnW w5, n.1.cell? ⟨mb, mf + (j + 1), none⟩ = some (.string s) := fun n => (HSc.out _ (HM5.out.below n.2)).1
                have t6 : ∀ n : OwnW w5, n.1.cell? ⟨ib, jf + (j + 1), none⟩ = some (.int .i64 x) := fun n => (HSc.out _ (HM5.out.below n.2)).2.1
                have t7 : ∀ n : OwnW w5, n.1.cell? ⟨mb, mf + j, none⟩ = some (.string y) := fun n => by rw [← hy]; exact (HSc.out _ (HM5.out.below n.2)).2.2.2.2 j rfl
                have jl : (j : Int) < (names.length : Int) := by omega
                have jz : (0 : Int) ≤ (j : Int) := by omega
                have f3 : (0 : Int) < (j : Int) + 1 := by omega
                have f4 : decide ((0 : Int) < (j : Int) + 1) = true := decide_eq_true f3
                refine wp_region_own (by kernel_rfl) (by kernel_rfl) ?_
                repeat (go_big_quiet_step (exact HPl.out _))
                refine wpQuiet_nil ?_
                intro _ hw'
                obtain ⟨m, hw''⟩ := hw'
                subst hw''
                have HM6 : Hid (MAt _ _ _ _ _ _ _ _ _ _) := HM5.out.below m.2
                go_wp2
                go_meet
                case rel => exact ⟨rfl, HM6⟩
            case rest =>
              obtain ⟨rfl, HM6⟩ := hcut
              clear HM5 HPq HRi HSc
              go_wp2
              exact ⟨⟨g + 1, by omega, by simp, HM6⟩, by simp [intOf]; omega⟩
          · obtain rfl : g = names.length := by omega
            have HBe := HMg.out.b
            clear HMg
            go_wp2
            exact ⟨⟨k + 1, by omega, by simp, HBe⟩, by simp [intOf]; omega⟩
    · obtain rfl : k = t.nodes.length := by omega
      go_wp2_with fail
      go_loopw [8, 9] (fun s8 _ wr => ∃ k : Nat, k ≤ t.nodes.length ∧ s8 = .int .i64 (k : Int) ∧ Hid (BAt w (.slice (some ⟨b, off, none⟩) t.nodes.length cap) (.int .i64 t.next) wr)) (fun s8 _ _ => t.nodes.length - (intOf s8).toNat)
      case atStart => exact ⟨0, Nat.zero_le _, rfl, HB⟩
      case round =>
        obtain ⟨k, hk, rfl, HBk⟩ := hrel
        clear HB x0 x1 x2
        obtain ⟨x0, x1, x2⟩ := HBk.out.c
        by_cases hlt : k < t.nodes.length
        · have kl : (k : Int) < (t.nodes.length : Int) := by omega
          have kz : (0 : Int) ≤ (k : Int) := by omega
          obtain ⟨f, hn, _, ha⟩ := HNd.out k hlt
          have bl2 : b < wr.heap.size := Nat.lt_of_lt_of_le bl HBk.out.2.size
          have t2 : ∀ n : OwnW wr, n.1.cell? ⟨b, off + k * 5, none⟩ = some (.int .i64 f.n.ino) := fun n => (ha n.1 (HBk.out.below n.2).2).1
          have HK1 : Hid (∀ U, Below w.heap.size w U → U.cell? ⟨b, off + k * 5 + 1, none⟩ = some (.int .i64 f.n.kind) ∧ b < U.heap.size) := fun U hU => ⟨(ha U hU).2.1, Nat.lt_of_lt_of_le bl hU.size⟩
          obtain ⟨g1, g2, g3⟩ := links_good HG.out hlt
          rw [hn] at g1 g2 g3
          obtain ⟨ino, hino⟩ : ∃ z, f.n.ino = z := ⟨_, rfl⟩
          obtain ⟨kind, hkind⟩ : ∃ z, f.n.kind = z := ⟨_, rfl⟩
          rw [hino] at g1 g2 g3 t2
          rw [hkind] at g3 HK1
          have HLk : Hid (∀ n : OwnW wr, Calls Tryz.prog 19 #[.agg #[.slice (some ⟨b, off, none⟩) t.nodes.length cap, .int .i64 t.next], .int .i64 ino] n.1 fun e w' => e = .returned (.int .i64 (linksB t ino : Int)) ∧ ∃ m : OwnW wr, w' = m.1) := fun n => Calls.own_of (links_any _ t ino n.1 (HT.out.below (HBk.out.below n.2).2) (by omega) (by
            have := kids_le HG.out ino
            omega))
          obtain ⟨L, hL⟩ : ∃ L, linksB t ino = L := ⟨_, rfl⟩
          rw [hL] at HLk g1 g2 g3
          have t0 : ∀ n : OwnW wr, n.1.cell? ⟨w.heap.size, 0, none⟩ = some (.slice (some ⟨b, off, none⟩) t.nodes.length cap) := fun n => (HBk.out.below n.2).c.1
          have t1 : ∀ n : OwnW wr, n.1.cell? ⟨w.heap.size, 1, none⟩ = some (.int .i64 t.next) := fun n => (HBk.out.below n.2).c.2.1
          have hne := ownW_nonempty wr
          clear ha hn hino hkind hL
          go_wp2_with fail
          refine wp_region_own (by kernel_rfl) (by kernel_rfl) ?_
          repeat (go_big_quiet_step (exact HLk.out _))
          refine wpQuiet_nil ?_
          intro _ hw'
          obtain ⟨m, hw''⟩ := hw'
          subst hw''
          have HB6 : Hid (BAt _ _ _ m.1) := HBk.out.below m.2
          obtain ⟨w6, hw6⟩ : ∃ z, m.1 = z := ⟨_, rfl⟩
          rw [hw6] at HB6 ⊢
          clear hw6 t0 t1 t2 HLk x0 x1 x2
          obtain ⟨x0, x1, x2⟩ := HB6.out.c
          obtain ⟨y1, bl3⟩ := HK1.out _ HB6.out.2
          have e1 : ¬ (L : Int) < 1 := by omega
          have e2 : ¬ (20 : Int) < (L : Int) := by omega
          have e1d : decide ((L : Int) < 1) = false := decide_eq_false e1
          have e2d : decide ((20 : Int) < (L : Int)) = false := decide_eq_false e2
          by_cases hkd : kind = 2
          · subst hkd
            have e3 : ¬ (1 : Int) < (L : Int) := by have := g3 rfl; omega
            have e3d : decide ((1 : Int) < (L : Int)) = false := decide_eq_false e3
            go_wp2
            go_roundw
            case rel => exact ⟨k + 1, by omega, by simp, HB6⟩
            case measure => simp [intOf]; omega
          · have hke : (kind == 2) = false := beq_eq_false_iff_ne.2 hkd
            go_wp2
            go_roundw
            case rel => exact ⟨k + 1, by omega, by simp, HB6⟩
            case measure => simp [intOf]; omega
        · obtain rfl : k = t.nodes.length := by omega
          have t0 : ∀ n : OwnW wr, n.1.cell? ⟨w.heap.size, 0, none⟩ = some (.slice (some ⟨b, off, none⟩) t.nodes.length cap) := fun n => (HBk.out.below n.2).c.1
          have t1 : ∀ n : OwnW wr, n.1.cell? ⟨w.heap.size, 1, none⟩ = some (.int .i64 t.next) := fun n => (HBk.out.below n.2).c.2.1
          have HRe : Hid (∀ n : OwnW wr, Calls Tryz.prog 36 #[.agg #[.slice (some ⟨b, off, none⟩) t.nodes.length cap, .int .i64 t.next]] n.1 fun e w' => e = .returned (.int .i64 (t.nodes.length : Int)) ∧ ∃ m : OwnW wr, w' = m.1) := fun n => Calls.own_of (reached_any _ t n.1 (HT.out.below (HBk.out.below n.2).2) HG.out)
          have hne := ownW_nonempty wr
          have HBB : Hid (∀ n : OwnW wr, Below w.heap.size w n.1) := fun n => (HBk.out.below n.2).2
          go_wp2_with fail
          refine wp_region_own (by kernel_rfl) (by kernel_rfl) ?_
          repeat (go_big_quiet_step (exact HRe.out _))
          refine wpQuiet_nil ?_
          intro _ hw'
          obtain ⟨m, hw''⟩ := hw'
          subst hw''
          clear t0 t1 HRe
          go_wp2
          go_ret
          exact ⟨rfl, HBB.out m⟩
end Go.Proofs.YtchajlaflehodaaGreatDoor
