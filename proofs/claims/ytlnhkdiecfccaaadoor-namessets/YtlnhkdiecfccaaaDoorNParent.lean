/- names.Parent, Under: what one call answers. -/
import Derived.Test.YtlnhkdiecfccaaaDoorNJoin
import Derived.Deep.RegionHeld3
namespace Go.Proofs.YtlnhkdiecfccaaaDoor
open Go.RowKit Kit
set_option linter.unusedVariables false

theorem keepP {w a b : World} {p : Addr} {x v : Value} {l : List ByteArray} (h : a.cell? p = some x ∧ Hid (Sees a v (strs l) ∧ p.block < a.heap.size ∧ Below w.heap.size w a)) (k : Below a.heap.size a b) : b.cell? p = some x ∧ Hid (Sees b v (strs l) ∧ p.block < b.heap.size ∧ Below w.heap.size w b) := by
  obtain ⟨h1, h2⟩ := h
  have h2 := h2.out
  have := k.size
  exact ⟨(k.cell h2.2.1).trans h1, ⟨h2.1.below k, by omega, bel2v h2.2.2 k⟩⟩
set_option maxRecDepth 4000 in
set_option maxHeartbeats 8000000 in
theorem nparent_any (s : ByteArray) (w : World) (hs : s.size ≤ maxLen) :
    Calls Tryd.prog 12 #[.string s] w fun e w' => e = .returned (.tuple #[.string (parentB s).1, .string (parentB s).2.1, errV (parentB s).2.2]) ∧ Below w.heap.size w w' := by
  have HX : Hid (Calls Tryd.prog 10 _ _ _) := nsplit_any s w hs
  have cp := split_code s
  have sp := split_small s
  have HU : Hid (parentB s = if (splitB s).2 ≠ 0 then (⟨#[]⟩, ⟨#[]⟩, (splitB s).2) else if (splitB s).1.length = 0 then (⟨#[]⟩, ⟨#[]⟩, 2) else (joinB ((splitB s).1.take ((splitB s).1.length - 1)), (splitB s).1.getD ((splitB s).1.length - 1) ⟨#[]⟩, 0)) := rfl
  obtain ⟨⟨a, e⟩, he⟩ : ∃ x, splitB s = x := ⟨_, rfl⟩
  rw [he] at HX cp sp HU
  simp only at HX cp sp HU
  have HSM : Hid (a.length ≤ 6 ∧ ∀ q ∈ a, q.size ≤ 12) := sp
  clear hs he sp
  rcases cp with hp0 | ⟨hp0, _⟩
  · subst hp0
    have e0 : errV 0 = .nilIface := rfl
    rw [e0] at HX
    clear e0
    go_enter Tryd.func12, Tryd.ntmps12
    go_wp2_with fail
    go_at_call 10
    refine HX.out.mono ?_
    rintro e1 w1 ⟨r1, rfl, hr1, hb1⟩
    have H1 : Hid (Sees w1 r1 (strs a) ∧ Below w.heap.size w w1) := ⟨hr1, hb1⟩
    clear hr1 hb1 HX
    obtain ⟨ao, ac, ha, hcap, _, _, hac⟩ := H1.out.1
    rw [strs_len] at ha hac hcap
    subst ha
    rcases Nat.eq_zero_or_pos a.length with h0 | h0
    · have HR : Hid (parentB s = (⟨#[]⟩, ⟨#[]⟩, 2)) := by show _ = _; rw [HU.out, if_neg (by simp), if_pos h0]
      rw [h0]
      clear HU hac hcap
      go_wp2
      go_ret3
      exact ⟨by rw [HR.out]; rfl, H1.out.2⟩
    · obtain ⟨m, hm⟩ : ∃ m, a.length = m + 1 := ⟨a.length - 1, by omega⟩
      have HR : Hid (parentB s = (joinB (a.take m), a.getD m ⟨#[]⟩, 0)) := by
        show _ = _
        rw [HU.out, if_neg (by simp), if_neg (by omega), hm]; rfl
      obtain ⟨b, off, hao, hbl, hc⟩ := hac h0
      subst hao
      have HSE : Sees w1 (.slice (some ⟨b, off, none⟩) m ac) (strs (a.take m)) := Sees.cut H1.out.1 m (by omega)
      have hml : m < a.length := by omega
      have c0 := hc m _ (strs_at a m hml)
      have HTT : Hid (tot (a.take m) ≤ 1000000) := by
        have h1 := tot_take a m
        have h2 := tot_small a HSM.out.2
        have := HSM.out.1
        show _ ≤ _
        omega
      have m6 : (m : Int) ≤ 6 := by have := HSM.out.1; omega
      have m0 : (0 : Int) ≤ (m : Int) := by omega
      have mc : (m : Int) ≤ (ac : Int) := by
        omega
      obtain ⟨q, hq⟩ : ∃ q, a.getD m ⟨#[]⟩ = q := ⟨_, rfl⟩
      rw [hq] at c0 HR
      have HS0 : Hid (w1.cell? ⟨b, off + m, none⟩ = some (.string q) ∧ Hid (Sees w1 (.slice (some ⟨b, off, none⟩) m ac) (strs (a.take m)) ∧ b < w1.heap.size ∧ Below w.heap.size w w1)) := ⟨c0, ⟨HSE, hbl, H1.out.2⟩⟩
      have HJ : Hid (∀ W, (W.cell? ⟨b, off + m, none⟩ = some (.string q) ∧ Hid (Sees W (.slice (some ⟨b, off, none⟩) m ac) (strs (a.take m)) ∧ b < W.heap.size ∧ Below w.heap.size w W)) → Calls Tryd.prog 24 #[.slice (some ⟨b, off, none⟩) m ac] W fun e w' => e = .returned (.string (joinB (a.take m))) ∧ Below W.heap.size W w') := fun W h => njoin_any _ (a.take m) W h.2.out.1 HTT.out
      rw [hm]
      clear hac hc hbl hm hml h0 hq HU hcap HSE HTT HSM H1
      have f0 : ((m : Int) + 1 - 1) = (m : Int) := by omega
      have f1 : (m : Int) < (m : Int) + 1 := by omega
      have f2 : IntKind.i64.wrap (m : Int) = (m : Int) := by rw [IntKind.wrap_i64]; omega
      go_wp2
      go_region_held3 (fun w' => w'.cell? ⟨b, off + m, none⟩ = some (.string q) ∧ Hid (Sees w' (.slice (some ⟨b, off, none⟩) m ac) (strs (a.take m)) ∧ b < w'.heap.size ∧ Below w.heap.size w w')) (first | exact HS0.out | exact keepP HS0.out ((Below.refl _ _).drew) | exact keepP (by assumption) (by assumption))
        (first
          | (go_at_call 24; refine (HJ.out _ (by assumption)).mono ?_; rintro e w2 ⟨rfl, hb2⟩))
      rename_i hS
      have HB : Hid (Below w.heap.size w w2) := hS.2.out.2.2
      clear hS HJ HS0
      go_wp2
      go_ret3
      exact ⟨by rw [HR.out]; rfl, HB.out⟩
  · have HE : errV e = .iface 49 (.int .i64 e) := by unfold errV; rw [if_neg hp0]
    have HR : Hid (parentB s = (⟨#[]⟩, ⟨#[]⟩, e)) := by show _ = _; rw [HU.out, if_pos hp0]
    have HE2 : Hid (errV e = .iface 49 (.int .i64 e)) := HE
    rw [HE] at HX
    clear HU hp0 HE
    go_enter Tryd.func12, Tryd.ntmps12
    go_wp2_with fail
    go_at_call 10
    refine HX.out.mono ?_
    rintro e1 w1 ⟨r1, rfl, hr1, hb1⟩
    have H1 : Hid (Below w.heap.size w w1) := hb1
    clear hr1 hb1 HX
    go_wp2
    go_ret3
    exact ⟨by rw [HR.out]; simp only; rw [HE2.out]; rfl, H1.out⟩
theorem equal_any (x y : Value) (a b : List ByteArray) (w : World) (hx : Sees w x (strs a)) (hy : Sees w y (strs b)) (hl : a.length = b.length) :
    Calls Tryd.prog 31 #[x, y] w fun e w' => e = .returned (.bool (decide (a = b))) ∧ Below w.heap.size w w' := by
  obtain ⟨ao, ac, rfl, h1, h2, h3, h4⟩ := hx
  obtain ⟨bo, bc, rfl, k1, k2, k3, k4⟩ := hy
  rw [strs_len] at h1 h4 k1 k4
  rw [strs_len, strs_len]
  unfold maxLen at h2 k2
  rcases Nat.eq_zero_or_pos a.length with h0 | h0
  · rw [h0, ← hl, h0]
    refine (Any.slices_Equal_string_empty Tryd.lays193 ao bo ac 0 bc w (by omega)).mono ?_
    rintro e w' ⟨rfl, rfl⟩
    have ea : a = [] := List.eq_nil_of_length_eq_zero h0
    have eb : b = [] := List.eq_nil_of_length_eq_zero (by omega)
    subst ea eb
    exact ⟨rfl, Below.refl _ _⟩
  · obtain ⟨p, o, rfl, hp, hc⟩ := h4 h0
    obtain ⟨q, o2, rfl, hq, kc⟩ := k4 (by omega)
    refine (Any.slices_Equal_string Tryd.lays193 p o a.length ac q o2 b.length bc a b w (Nat.le_refl _) (Nat.le_refl _) (by omega) (by omega) (fun j hj => hc j _ (strs_at a j hj)) (fun j hj => kc j _ (strs_at b j hj))).mono ?_
    rintro e w' ⟨rfl, m, rfl⟩
    rw [List.take_length, List.take_length]
    exact ⟨rfl, drewB (Below.refl _ _) m⟩
set_option maxRecDepth 4000 in
set_option maxHeartbeats 8000000 in
theorem nunder_any (p d : ByteArray) (w : World) (hp : p.size ≤ maxLen) (hd : d.size ≤ maxLen) :
    Calls Tryd.prog 16 #[.string p, .string d] w fun e w' => e = .returned (.bool (underB p d)) ∧ Below w.heap.size w w' := by
  have HX : Hid (Calls Tryd.prog 10 _ _ _) := nsplit_any p w hp
  have HY : Hid (∀ w, Calls Tryd.prog 10 #[.string d] w fun e w' => ∃ r, e = .returned (.tuple #[r, errV (splitB d).2]) ∧ Sees w' r (strs (splitB d).1) ∧ Below w.heap.size w w') := fun w => nsplit_any d w hd
  have cp := split_code p
  have cd := split_code d
  have sp := (split_small p).1
  have sd := (split_small d).1
  have HU : Hid (underB p d = decide ((splitB p).2 = 0 ∧ (splitB d).2 = 0 ∧ (splitB p).1.take (splitB d).1.length = (splitB d).1)) := rfl
  obtain ⟨⟨a, e⟩, he⟩ : ∃ x, splitB p = x := ⟨_, rfl⟩
  obtain ⟨⟨b, f⟩, hf⟩ : ∃ x, splitB d = x := ⟨_, rfl⟩
  rw [he] at HX cp sp HU
  rw [hf] at HY cd sd HU
  simp only at HX HY cp cd sp sd HU
  clear hp hd he hf
  rcases cp with hp0 | ⟨hp0, _⟩
  · subst hp0
    have e0 : errV 0 = .nilIface := rfl
    rw [e0] at HX
    clear e0
    go_enter Tryd.func16, Tryd.ntmps16
    go_wp2_with fail
    go_at_call 10
    refine HX.out.mono ?_
    rintro e1 w1 ⟨r1, rfl, hr1, hb1⟩
    have H1 : Hid (Sees w1 r1 (strs a) ∧ Below w.heap.size w w1) := ⟨hr1, hb1⟩
    clear hr1 hb1 HX
    rcases cd with hd0 | ⟨hd0, _⟩
    · subst hd0
      have e0 : errV 0 = .nilIface := rfl
      rw [e0] at HY
      clear e0
      go_wp2_with fail
      go_at_call 10
      refine (HY.out w1).mono ?_
      rintro e2 w2 ⟨r2, rfl, hr2, hb2⟩
      have H2 : Hid (Sees w2 r1 (strs a) ∧ Sees w2 r2 (strs b) ∧ Below w.heap.size w w2) := ⟨H1.out.1.below hb2, hr2, bel2v H1.out.2 hb2⟩
      clear hr2 hb2 HY H1
      obtain ⟨ao, ac, ha, h1, _, _, _⟩ := H2.out.1
      obtain ⟨bo, bc, hb, k1, _, _, _⟩ := H2.out.2.1
      rw [strs_len] at ha hb h1 k1
      subst ha hb
      have la : (a.length : Int) ≤ 6 := by omega
      have lb : (b.length : Int) ≤ 6 := by omega
      by_cases hl : (a.length : Int) < (b.length : Int)
      · have HR : Hid (underB p d = false) := by
          show _ = _
          rw [HU.out]
          refine decide_eq_false ?_
          rintro ⟨_, _, h⟩
          have := congrArg List.length h
          simp at this
          omega
        clear HU
        go_wp2
        go_ret
        exact ⟨congrArg (fun b => Ending.returned (.bool b)) HR.out.symm, H2.out.2.2⟩
      · have HQ : Hid (Calls Tryd.prog 31 _ _ _) := equal_any _ _ (a.take b.length) b w2 (Sees.cut H2.out.1 b.length (by omega)) H2.out.2.1 (by simp; omega)
        have HR : Hid (underB p d = decide (a.take b.length = b)) := by
          show _ = _
          rw [HU.out]
          simp
        obtain ⟨u, hu⟩ : ∃ u, decide (a.take b.length = b) = u := ⟨_, rfl⟩
        rw [hu] at HQ HR
        have lc : (b.length : Int) ≤ (ac : Int) := by omega
        have ld : (0 : Int) ≤ (b.length : Int) := by omega
        clear HU hu
        go_wp2_with fail
        go_at_call 31
        refine HQ.out.mono ?_
        rintro e3 w3 ⟨rfl, hb3⟩
        have H3 : Hid (Below w.heap.size w w3) := bel2v H2.out.2.2 hb3
        clear hb3 HQ
        go_wp2
        go_ret
        exact ⟨congrArg (fun b => Ending.returned (.bool b)) HR.out.symm, H3.out⟩
    · have HE : errV f = .iface 49 (.int .i64 f) := by unfold errV; rw [if_neg hd0]
      have HR : Hid (underB p d = false) := by
        show _ = _
        rw [HU.out]
        refine decide_eq_false ?_
        rintro ⟨_, h, _⟩
        exact hd0 h
      rw [HE] at HY
      clear HU hd0 HE
      go_wp2_with fail
      go_at_call 10
      refine (HY.out w1).mono ?_
      rintro e2 w2 ⟨r2, rfl, hr2, hb2⟩
      have H2 : Hid (Below w.heap.size w w2) := bel2v H1.out.2 hb2
      clear hr2 hb2 HY H1
      go_wp2
      go_ret
      exact ⟨congrArg (fun b => Ending.returned (.bool b)) HR.out.symm, H2.out⟩
  · have HE : errV e = .iface 49 (.int .i64 e) := by unfold errV; rw [if_neg hp0]
    have HR : Hid (underB p d = false) := by
      show _ = _
      rw [HU.out]
      refine decide_eq_false ?_
      rintro ⟨h, _⟩
      exact hp0 h
    rw [HE] at HX
    clear HU hp0 cd HE HY
    go_enter Tryd.func16, Tryd.ntmps16
    go_wp2_with fail
    go_at_call 10
    refine HX.out.mono ?_
    rintro e1 w1 ⟨r1, rfl, hr1, hb1⟩
    have H1 : Hid (Below w.heap.size w w1) := hb1
    clear hr1 hb1 HX
    go_wp2
    go_ret
    exact ⟨congrArg (fun b => Ending.returned (.bool b)) HR.out.symm, H1.out⟩
end Go.Proofs.YtlnhkdiecfccaaaDoor
