/- dolmenlaw11.TableCleans, over any table that is held to the contracts. -/
import Derived.Test.YthjcmagionaepaaGreatLStrE
import Derived.Deep.RegionHeld3
namespace Go.Proofs.YthjcmagionaepaaGreat
open Go.RowKit Kit
set_option linter.unusedVariables false
variable {T : World → Nat → Nat → (Nat → Prop) → Tb → Prop}

theorem infoIC : (Tryz.prog.info? 3).map (fun i => (i.zero, i.size, i.bytes)) = some (some (.int .i64 0), inE.k, 8) := by kernel_rfl
/-- Two tables of the program's, one of the document's. -/
structure ThrT (T : World → Nat → Nat → (Nat → Prop) → Tb → Prop) (w0 w : World) (p p2 q : Nat) (F G : Nat → Prop) (sv : Value) (t u : Tb) : Prop where
  tp : T w p w0.heap.size F t
  up : T w p2 w0.heap.size G u
  tr : RTab w q w0.heap.size sv t.last t.rs
  ap : ∀ k, F k → ¬ G k
  be : Below w0.heap.size w0 w
theorem TabK.thr1 (K : TabK T) {w0 w : World} {p p2 q : Nat} {F G : Nat → Prop} {sv : Value} {t u : Tb} (h : ThrT T w0 w p p2 q F G sv t u) (hi : Inv t) (hl : t.rs.length ≤ 900) (s : Ts) (ea : Option Addr) (ec : Nat) (hf : TsFit w0 s ea ec) (hsz : s.name.size ≤ 2000 ∧ s.es.length ≤ 2000) :
    Calls Tryz.prog 11 #[.pointer (some ⟨p, 0, none⟩), .pointer (some ⟨q, 0, none⟩), .agg #[.int .i64 s.kind, .string s.name, .int .i64 s.ino, .int .i64 s.ep, .slice ea s.es.length ec]] w fun e w' => e = .returned (.bool true) ∧ ∃ F' sv', Hid (ThrT T w0 w' p p2 q F' G sv' (stepT t s) u) := by
  refine (does_any K p q w0.heap.size w0.heap.size F sv t t s ea ec w h.tp h.tr hi hl hl w0 h.be (Nat.le_refl _) hf hsz).mono ?_
  rintro e w' ⟨b, rfl, hb, F', sv', k1, k2, k3⟩
  rw [hb rfl]
  have hGa : ∀ k, G k → ¬ bfootT F q sv k := fun k hk e => by
    rcases e with e | e
    · exact h.ap k e hk
    · exact K.apart h.up (t2 := t) h.tr k e hk
  refine ⟨rfl, F', sv', k1, K.stay h.up k3 hGa, k2, fun k hF hG => ?_, k3.below h.be h.be.size fun k hk => ?_⟩
  · rcases k3.fresh k (.inl hF) with e | e
    · exact hGa k hG e
    · have := (K.lo h.up k hG).2; omega
  · rcases hk with hk | hk
    · exact (K.lo h.tp k hk).1
    · exact h.tr.foot k hk
theorem TabK.thrU (K : TabK T) {w0 w w' : World} {p p2 q : Nat} {F G G' : Nat → Prop} {sv : Value} {t u u' : Tb} (h : ThrT T w0 w p p2 q F G sv t u) (k1 : T w' p2 w0.heap.size G' u') (k3 : TurnF G G' w w') : ThrT T w0 w' p p2 q F G' sv t u' := by
  refine ⟨K.stay h.tp k3 h.ap, k1, h.tr.stay k3 (K.apart h.up (t2 := t) h.tr), fun k hF hG => ?_, K.turn h.up h.be (Nat.le_refl _) k3⟩
  rcases k3.fresh k hG with e | e
  · exact h.ap k hF e
  · have := (K.lo h.tp k hF).2; omega
/-- The two tables of the program's alone. -/
structure PairT (T : World → Nat → Nat → (Nat → Prop) → Tb → Prop) (w0 w : World) (p p2 : Nat) (F G : Nat → Prop) (t u : Tb) : Prop where
  tp : T w p w0.heap.size F t
  up : T w p2 w0.heap.size G u
  ap : ∀ k, F k → ¬ G k
  be : Below w0.heap.size w0 w
theorem PairT.below (K : TabK T) {w0 w w' : World} {p p2 : Nat} {F G : Nat → Prop} {t u : Tb} (h : PairT T w0 w p p2 F G t u) (hb : Below w.heap.size w w') : PairT T w0 w' p p2 F G t u := ⟨K.below h.tp hb, K.below h.up hb, h.ap, bel_tr h.be hb⟩
theorem TabK.pairT (K : TabK T) {w0 w w' : World} {p p2 : Nat} {F F' G : Nat → Prop} {t t' u : Tb} (h : PairT T w0 w p p2 F G t u) (k1 : T w' p w0.heap.size F' t') (k3 : TurnF F F' w w') : PairT T w0 w' p p2 F' G t' u := by
  refine ⟨k1, K.stay h.up k3 (fun k hG hF => h.ap k hF hG), fun k hF hG => ?_, K.turn h.tp h.be (Nat.le_refl _) k3⟩
  rcases k3.fresh k hF with e | e
  · exact h.ap k e hG
  · have := (K.lo h.up k hG).2; omega
theorem two_sees (w : World) (x y : Int) (H : Nat) (hH : w.heap.size = H) : SeesE inE (w.alloc (.cells #[.int .i64 x, .int .i64 y] 3)) (.slice (some ⟨H, 0, none⟩) 2 2) [x, y] := by
  subst hH
  exact sees_inE (rowV_lit w 0 3 (iV [x, y]) (Nat.zero_le _) (by simp [iV]; unfold maxLen; omega)).sees
theorem clean_twice (t : Tb) (es : List Int) : cleanT (cleanT t es) es = cleanT t es := by
  unfold cleanT
  simp only [kept_again]
set_option maxRecDepth 4000 in
set_option maxHeartbeats 16000000 in
theorem lcleans_any (K : TabK T) (v : Value) (ve : Value) (name : ByteArray) (later : Int) (es : List Int) (ss : List Ts) (w : World) (hs : StepsAt w v ss) (he : Sees w ve (iV es)) (hname : name.size ≤ maxLen) :
    Calls Tryz.prog 5 #[v, ve, .string name, .int .i64 later] w fun e w' => e = .returned (.bool true) ∧ Below w.heap.size w w' := by
  have HSM : Hid (Calls Tryz.prog 8 #[v] w fun e w' => ∃ z : Bool, e = .returned (.bool z) ∧ (z = true → ss.length ≤ 80 ∧ ∀ s ∈ ss, s.name.size ≤ 2000 ∧ s.es.length ≤ 2000) ∧ Below w.heap.size w w') := small_any v ss w hs
  have HAW : Hid (∀ X, Calls Tryz.prog 9 #[] X fun e w' => e = .returned (.bool true) ∧ Below X.heap.size X w') := fun X => awake_any K X
  have hee := sees_inE he
  obtain ⟨eo, ecap, rfl⟩ := hee.form
  obtain ⟨m, hm⟩ : ∃ m, m = es.length := ⟨_, rfl⟩
  rw [← hm] at he hee ⊢
  have HE : Hid (Sees w (.slice eo m ecap) (iV es) ∧ SeesE inE w (.slice eo m ecap) es ∧ m = es.length ∧ name.size ≤ maxLen) := ⟨he, hee, hm, hname⟩
  clear he hee hm hname
  obtain ⟨ao, cap, rfl, h2, h3⟩ := hs
  obtain ⟨n, hn⟩ : ∃ n, n = ss.length := ⟨_, rfl⟩
  rw [← hn] at HSM ⊢
  have HN : Hid (n = ss.length) := hn
  have H3 : Hid (0 < ss.length → _) := h3
  have HSZ : Hid (∀ s ∈ ss, s.name.size ≤ maxLen) := fun s hs => by
    obtain ⟨i, hi, rfl⟩ := List.mem_iff_getElem.1 hs
    obtain ⟨_, _, _, _, hc⟩ := h3 (by omega)
    obtain ⟨_, _, _, hf⟩ := hc i hi
    exact hf.2.1
  clear h2 h3 hn
  go_enter Tryz.func5, Tryz.ntmps5
  go_wp2_with fail
  go_at_call 8
  refine HSM.out.mono ?_
  rintro e w1 ⟨z, rfl, hz, hb1⟩
  have HB1 : Hid (Below w.heap.size w w1) := hb1
  have HZ : Hid (z = true → n ≤ 80 ∧ ∀ s ∈ ss, s.name.size ≤ 2000 ∧ s.es.length ≤ 2000) := hz
  clear hz hb1 HSM
  cases z with
  | false =>
    go_wp2_with (go_at_call 9; refine (HAW.out _).mono ?_; rintro e w2 ⟨rfl, hb2⟩)
    go_ret
    exact ⟨rfl, bel_tr HB1.out hb2⟩
  | true =>
    have hn80 : n ≤ 80 := (HZ.out rfl).1
    have HS2 : Hid (∀ s ∈ ss, s.name.size ≤ 2000 ∧ s.es.length ≤ 2000) := (HZ.out rfl).2
    have hnm : (n : Int) ≤ 80 := by omega
    have HNN : Hid (n ≤ 80) := hn80
    have HNEW : Hid (∀ X, Calls Tryz.prog 10 #[] X fun x w' => ∃ p F, x = .returned (.pointer (some ⟨p, 0, none⟩)) ∧ Hid (T w' p X.heap.size F tb0 ∧ Below X.heap.size X w')) := fun X => K.new X
    clear hn80 HZ
    by_cases hc1 : (20 : Int) < (m : Int)
    · go_wp2_with (go_at_call 9; refine (HAW.out _).mono ?_; rintro e w2 ⟨rfl, hb2⟩)
      go_ret
      exact ⟨rfl, bel_tr HB1.out hb2⟩
    by_cases hc2 : (100 : Int) < (name.size : Int)
    · go_wp2_with (go_at_call 9; refine (HAW.out _).mono ?_; rintro e w2 ⟨rfl, hb2⟩)
      go_ret
      exact ⟨rfl, bel_tr HB1.out hb2⟩
    by_cases hc3 : later < 0
    · go_wp2_with (go_at_call 9; refine (HAW.out _).mono ?_; rintro e w2 ⟨rfl, hb2⟩)
      go_ret
      exact ⟨rfl, bel_tr HB1.out hb2⟩
    by_cases hc4 : (2199023255552 : Int) < later
    · go_wp2_with (go_at_call 9; refine (HAW.out _).mono ?_; rintro e w2 ⟨rfl, hb2⟩)
      go_ret
      exact ⟨rfl, bel_tr HB1.out hb2⟩
    have HMM : Hid (m ≤ 20) := by show _ ≤ _; omega
    have hmm : (m : Int) ≤ 20 := by omega
    have hl1 : (0 : Int) ≤ later := by omega
    have hl2 : later ≤ 2199023255552 := by omega
    go_upto_region 4 with (go_at_call 10; refine (HNEW.out _).mono ?_; rintro e w2 ⟨p, F0, rfl, HT0⟩)
    go_upto_region 5 with (go_at_call 10; refine (HNEW.out _).mono ?_; rintro e w3 ⟨p2, G0, rfl, HU0⟩)
    obtain ⟨W, hW⟩ : ∃ z, z = w3.alloc (.cells #[.slice none 0 0, .int .i64 0] 30) := ⟨_, rfl⟩
    have HT1 : Hid (ThrT T w W p p2 w3.heap.size F0 G0 (.slice none 0 0) (playT (ss.take 0)) (playT (ss.take 0))) := by
      have hb := bel_newG w3 (.cells #[.slice none 0 0, .int .i64 0] 30)
      have b2 := bel_tr HB1.out HT0.out.2
      have b3 := bel_tr b2 HU0.out.2
      rw [hW]
      refine ⟨K.below (K.below (K.mono HT0.out.1 HB1.out.size) HU0.out.2) hb, K.below (K.mono HU0.out.1 b2.size) hb, ⟨(rtab_box w3).cell, rowE_nil rwE _ _ _, (bel_tr b3 hb).size, b3.size⟩, fun k hF hG => ?_, bel_tr b3 hb⟩
      have h1 := (K.lo HT0.out.1 k hF).2
      have h2 := (K.lo HU0.out.1 k hG).1
      omega
    obtain ⟨q, hq⟩ : ∃ z, z = w3.heap.size := ⟨_, rfl⟩
    rw [← hq] at HT1
    go_upto_region 6 with fail
    rw [← hW, ← hq]
    clear hW hq HT0 HU0 HNEW hc1 hc2 hc3 hc4
    go_wp2_with fail
    go_loopw [12] (fun s wr => ∃ (i : Nat) (F G : Nat → Prop) (sv : Value), i ≤ n ∧ s = .int .i64 (i : Int) ∧ Hid (ThrT T w wr p p2 q F G sv (playT (ss.take i)) (playT (ss.take i)))) (fun s _ => n - (intOf s).toNat)
    case atStart => exact ⟨0, _, _, _, Nat.zero_le _, rfl, HT1.out⟩
    case round =>
      obtain ⟨wa, hwa⟩ : ∃ z, z = wr := ⟨_, rfl⟩
      subst hwa
      obtain ⟨i, F, G, sv, hi, rfl, HI⟩ := hrel
      clear HT1
      by_cases hlt : i < n
      · have hii : (i : Int) < (n : Int) := by omega
        have hi0 : (0 : Int) ≤ (i : Int) := by omega
        have hil : i < ss.length := by have := HN.out; omega
        obtain ⟨b, off, e, hb, hc⟩ := H3.out (by omega)
        subst e
        obtain ⟨ea, ec, ha, hf⟩ := hc i hil
        obtain ⟨c0, c1, c2, c3, c4⟩ := ha.below hb HI.out.be
        have hbl : b < wa.heap.size := Nat.lt_of_lt_of_le hb HI.out.be.size
        have hl9 : (playT (ss.take i)).rs.length ≤ 900 := by
          have h1 := play_len (ss.take i)
          have h2 := HNN.out
          rw [List.length_take] at h1
          omega
        have HD : Hid (Calls Tryz.prog 11 #[.pointer (some ⟨p, 0, none⟩), .pointer (some ⟨q, 0, none⟩), .agg #[.int .i64 ss[i].kind, .string ss[i].name, .int .i64 ss[i].ino, .int .i64 ss[i].ep, .slice ea ss[i].es.length ec]] wa fun e w' => e = .returned (.bool true) ∧ ∃ F' sv', Hid (ThrT T w w' p p2 q F' G sv' (playT (ss.take (i + 1))) (playT (ss.take i)))) := by
          rw [play_next ss i hil]
          exact K.thr1 HI.out (play_inv _) hl9 ss[i] ea ec hf (HS2.out _ (List.getElem_mem _))
        have HUD : Hid (∀ X F' sv', ThrT T w X p p2 q F' G sv' (playT (ss.take (i + 1))) (playT (ss.take i)) → Calls Tryz.prog 11 #[.pointer (some ⟨p2, 0, none⟩), .pointer (some ⟨X.heap.size, 0, none⟩), .agg #[.int .i64 ss[i].kind, .string ss[i].name, .int .i64 ss[i].ino, .int .i64 ss[i].ep, .slice ea ss[i].es.length ec]] (X.alloc (.cells #[.slice none 0 0, .int .i64 0] 30)) fun e w' => ∃ b, e = .returned (.bool b) ∧ ∃ G', Hid (ThrT T w w' p p2 q F' G' sv' (playT (ss.take (i + 1))) (playT (ss.take (i + 1))))) := fun X F' sv' h => by
          refine (K.step1 (w0 := w) (w := X) (p := p2) (F := G) (t := playT (ss.take i)) ⟨h.up, h.be⟩ (play_inv _) hl9 ss[i] ea ec hf (HS2.out _ (List.getElem_mem _))).mono ?_
          rintro e w' ⟨bb, rfl, G', hh⟩
          have h2 := K.thrU h hh.out.1.tp hh.out.2
          rw [← play_next ss i hil] at h2
          exact ⟨bb, rfl, G', h2⟩
        have HUC : Hid (ss[i].kind = 3 → ∀ X F' sv', ThrT T w X p p2 q F' G sv' (playT (ss.take (i + 1))) (playT (ss.take i)) → Calls Tryz.prog 21 #[.pointer (some ⟨p2, 0, none⟩), .slice ea ss[i].es.length ec] X fun e w' => ∃ c, e = .returned (.int .i64 c) ∧ ∃ G', Hid (ThrT T w w' p p2 q F' G' sv' (playT (ss.take (i + 1))) (playT (ss.take (i + 1))))) := fun hk X F' sv' h => by
          refine (K.clean (.slice ea ss[i].es.length ec) ss[i].es h.up (play_inv _) hl9 (hf.1.below h.be) (HS2.out _ (List.getElem_mem _)).2).mono ?_
          rintro e w' ⟨rfl, G', h1, h2⟩
          have h3 := K.thrU h h1 h2
          rw [← step_clean (t := playT (ss.take i)) hk, ← play_next ss i hil] at h3
          exact ⟨_, rfl, G', h3⟩
        have HCW : Hid (∀ X, Below w.heap.size w X → At5 X b (off + i * 5) ss[i] ea ec ∧ b < X.heap.size) := fun X hX => ⟨ha.below hb hX, Nat.lt_of_lt_of_le hb hX.size⟩
        obtain ⟨s, hs⟩ : ∃ s, s = ss[i] := ⟨_, rfl⟩
        rw [← hs] at c0 c1 c2 c3 c4 HD HUD HUC HCW
        clear hs hc ha hf hl9 hb
        by_cases hk : s.kind = 3
        · have hkb : (s.kind == 3) = true := by rw [hk]; rfl
          have HUC2 := HUC.out hk
          have HUC3 : Hid (∀ X F' sv', ThrT T w X p p2 q F' G sv' (playT (ss.take (i + 1))) (playT (ss.take i)) → Calls Tryz.prog 21 #[.pointer (some ⟨p2, 0, none⟩), .slice ea s.es.length ec] X fun e w' => ∃ c, e = .returned (.int .i64 c) ∧ ∃ G', Hid (ThrT T w w' p p2 q F' G' sv' (playT (ss.take (i + 1))) (playT (ss.take (i + 1))))) := HUC2
          clear HUC HUC2 HUD
          rw [hk] at c0 HD
          go_wp2_with (first
            | (go_at_call 21; refine (HUC3.out _ _ _ HI3.out).mono ?_; rintro e w4 ⟨cc, rfl, G4, HI4⟩)
            | (go_at_call 11; refine HD.out.mono ?_; rintro e w3 ⟨rfl, F3, sv3, HI3⟩; obtain ⟨⟨e0, e1, e2, e3, e4⟩, el⟩ := HCW.out _ HI3.out.be; rw [hk] at e0))
          go_roundw
          case rel => exact ⟨i + 1, _, _, _, by omega, by go_num, HI4.out⟩
          case measure => simp [intOf]; omega
        · have hkb : (s.kind == 3) = false := by rw [beq_eq_false_iff_ne]; exact hk
          clear HUC
          go_wp2_with (first
            | (go_at_call 11; refine (HUD.out _ _ _ HI3.out).mono ?_; rintro e w4 ⟨cc, rfl, G4, HI4⟩)
            | (go_at_call 11; refine HD.out.mono ?_; rintro e w3 ⟨rfl, F3, sv3, HI3⟩; obtain ⟨⟨e0, e1, e2, e3, e4⟩, el⟩ := HCW.out _ HI3.out.be))
          go_roundw
          case rel => exact ⟨i + 1, _, _, _, by omega, by go_num, HI4.out⟩
          case measure => simp [intOf]; omega
      · have hin : ¬ (i : Int) < (n : Int) := by omega
        obtain ⟨t, ht⟩ : ∃ z, z = playT (ss.take i) := ⟨_, rfl⟩
        have HG : Hid (Inv t ∧ t.rs.length ≤ 900) := by
          have h1 := play_len (ss.take i)
          have h2 := HNN.out
          rw [List.length_take] at h1
          rw [ht]
          exact ⟨play_inv _, by omega⟩
        rw [← ht] at HI
        clear ht H3 HSZ
        have HP : Hid (PairT T w wa p p2 F G t t) := ⟨HI.out.tp, HI.out.up, HI.out.ap, HI.out.be⟩
        have hlast := HG.out.1.last
        obtain ⟨la, hla⟩ : ∃ z, z = t.last := ⟨_, rfl⟩
        rw [← hla] at hlast
        obtain ⟨la1, la2⟩ := hlast
        have la3 : la ≤ 1099511627776 := la2
        obtain ⟨c, hc⟩ : ∃ z, z = cleanT t es := ⟨_, rfl⟩
        obtain ⟨N, hN⟩ : ∃ z, z = t.rs.length := ⟨_, rfl⟩
        obtain ⟨M, hM⟩ : ∃ z, z = c.rs.length := ⟨_, rfl⟩
        have HC : Hid (Inv c ∧ c.rs.length ≤ 900 ∧ c.last = la ∧ c = cleanT t es ∧ M ≤ N ∧ N ≤ 900 ∧ cleanN t es = (N : Int) - (M : Int) ∧ la = t.last) := by
          have h1 := keptR_len t.rs es
          have h2 : (cleanT t es).rs.length = (keptR t.rs es).length := rfl
          have h3 := HG.out.2
          refine ⟨by rw [hc]; exact inv_clean HG.out.1 es, by rw [hc, h2]; omega, by rw [hc, hla]; rfl, hc, by rw [hM, hc, h2, hN]; exact h1, by omega, by rw [hN, hM, hc]; rfl, hla⟩
        have hMN : (M : Int) ≤ (N : Int) := by have := HC.out.2.2.2.2.1; omega
        have hN9 : (N : Int) ≤ 900 := by have := HC.out.2.2.2.2.2.1; omega
        have hM0 : (0 : Int) ≤ (M : Int) := by omega
        have hsub : (N : Int) - ((N : Int) - (M : Int)) = (M : Int) := by omega
        have HA1 : Hid (Calls Tryz.prog 18 #[.pointer (some ⟨p, 0, none⟩)] wa fun x w' => ∃ zo zc, x = .returned (.slice zo N zc) ∧ Hid (PairT T w w' p p2 F G t t)) := by
          refine (K.all HP.out.tp HG.out.1 HG.out.2).mono ?_
          rintro x w' ⟨r, rfl, h1, h2⟩
          obtain ⟨zo, zc, hz⟩ := h1.form
          rw [allW_len, ← hN] at hz
          exact ⟨zo, zc, by rw [hz], HP.out.below K h2⟩
        have HCL : Hid (∀ X, PairT T w X p p2 F G t t → Calls Tryz.prog 21 #[.pointer (some ⟨p, 0, none⟩), .slice eo m ecap] X fun x w' => x = .returned (.int .i64 ((N : Int) - (M : Int))) ∧ ∃ F', Hid (PairT T w w' p p2 F' G c t)) := fun X hX => by
          refine (K.clean (.slice eo m ecap) es hX.tp HG.out.1 HG.out.2 (HE.out.1.below hX.be) (by have := HMM.out; have := HE.out.2.2.1; omega)).mono ?_
          rintro x w' ⟨rfl, F', h1, h2⟩
          rw [HC.out.2.2.2.2.2.2.1]
          exact ⟨rfl, F', by rw [hc]; exact K.pairT hX h1 h2⟩
        have HA2 : Hid (∀ X F', PairT T w X p p2 F' G c t → Calls Tryz.prog 18 #[.pointer (some ⟨p, 0, none⟩)] X fun x w' => ∃ zo zc, x = .returned (.slice zo M zc) ∧ Hid (PairT T w w' p p2 F' G c t)) := fun X F' hX => by
          refine (K.all hX.tp HC.out.1 HC.out.2.1).mono ?_
          rintro x w' ⟨r, rfl, h1, h2⟩
          obtain ⟨zo, zc, hz⟩ := h1.form
          rw [allW_len, ← hM] at hz
          exact ⟨zo, zc, by rw [hz], hX.below K h2⟩
        have HC2 : Hid (∀ X F', PairT T w X p p2 F' G c t → Calls Tryz.prog 21 #[.pointer (some ⟨p, 0, none⟩), .slice eo m ecap] X fun x w' => x = .returned (.int .i64 0) ∧ ∃ F2, Hid (PairT T w w' p p2 F2 G c t)) := fun X F' hX => by
          refine (K.clean (.slice eo m ecap) es hX.tp HC.out.1 HC.out.2.1 (HE.out.1.below hX.be) (by have := HMM.out; have := HE.out.2.2.1; omega)).mono ?_
          rintro x w' ⟨rfl, F2, h1, h2⟩
          have h3 : cleanT c es = c := by rw [hc]; exact clean_twice t es
          have h4 : cleanN c es = 0 := by rw [hc]; exact clean_again t es
          rw [h3] at h1
          exact ⟨by rw [h4], F2, K.pairT hX h1 h2⟩
        have HLT : Hid (∀ X F', PairT T w X p p2 F' G c t → Calls Tryz.prog 20 #[.pointer (some ⟨p, 0, none⟩)] X fun x w' => x = .returned (.int .i64 la) ∧ Below X.heap.size X w') := fun X F' hX => by
          have h := K.last hX.tp
          rw [HC.out.2.2.1] at h
          exact h
        have HLU : Hid (∀ X F', PairT T w X p p2 F' G c t → Calls Tryz.prog 20 #[.pointer (some ⟨p2, 0, none⟩)] X fun x w' => x = .returned (.int .i64 la) ∧ Below X.heap.size X w') := fun X F' hX => by
          rw [hla]
          exact K.last hX.up
        clear hla hN hM hc HI
        go_upto_region 17 with (go_at_call 18; refine HA1.out.mono ?_; rintro e w4 ⟨zo, zc, rfl, H4⟩)
        go_upto_region 18 with (go_at_call 21; refine (HCL.out _ H4.out).mono ?_; rintro e w5 ⟨rfl, F5, H5⟩)
        go_upto_region 20 with (first
          | (go_at_call 20; refine (HLU.out _ _ (H7.out.below K B8.out)).mono ?_; rintro e w9 ⟨rfl, b9⟩; have B9 : Hid (Below w7.heap.size w7 w9) := bel_tr B8.out b9; clear b9)
          | (go_at_call 20; refine (HLT.out _ _ H7.out).mono ?_; rintro e w8 ⟨rfl, b8⟩; have B8 : Hid (Below w7.heap.size w7 w8) := b8; clear b8)
          | (go_at_call 21; refine (HC2.out _ _ H6.out).mono ?_; rintro e w7 ⟨rfl, F7, H7⟩)
          | (go_at_call 18; refine (HA2.out _ _ H5.out).mono ?_; rintro e w6 ⟨yo, yc, rfl, H6⟩))
        have H9 : Hid (PairT T w w9 p p2 F7 G c t) := H7.out.below K B9.out
        clear HA1 HCL HA2 HC2 H4 H5 H6 H7 B8 B9 HP
        have HE1 : Hid (RowE inE (w9.alloc (.cells #[] 3)) w9.heap.size 3 (.slice (some ⟨w9.heap.size, 0, none⟩) 0 0) [] ∧ SeesE inE (w9.alloc (.cells #[] 3)) (.slice eo m ecap) es ∧ ([] : List Int).length + es.length ≤ maxLen ∧ (([] : List Int).length + es.length) * 8 ≤ 140737488355328 ∧ w9.heap.size ≤ (w9.alloc (.cells #[] 3)).heap.size ∧ es.length + [la, la + later].length ≤ maxLen ∧ (es.length + [la, la + later].length) * 8 ≤ 140737488355328) := by
          have h1 := HE.out.2.2.1
          have h2 := HMM.out
          refine ⟨rowE_empty inE w9 3 w9.heap.size _ rfl (Nat.le_refl _), (HE.out.2.1.below H9.out.be).below (bel_newG _ _), ?_, ?_, (bel_newG w9 _).size, ?_, ?_⟩ <;> simp only [List.length_cons, List.length_nil] <;> (try unfold maxLen) <;> omega
        obtain ⟨L, hL⟩ : ∃ z, z = m + 2 := ⟨_, rfl⟩
        have HL : Hid ((es ++ [la, la + later]).length = L ∧ L ≤ 22) := ⟨by rw [List.length_append, ← HE.out.2.2.1, hL]; rfl, by have := HMM.out; omega⟩
        have hL22 : (L : Int) ≤ 22 := by have := HL.out.2; omega
        clear hL
        go_upto_region 21 with (first
          | (at_builtin; refine wpList_appF (E := inE) Tryz.underlying32 infoIC rfl rfl _ _ rfl w9.heap.size v10 es rfl H12.out.1 (.slice (some ⟨w12.heap.size, 0, none⟩) 2 2) [la, la + later] rfl H12.out.2.1 HE1.out.2.2.2.2.2.1 HE1.out.2.2.2.2.2.2 H12.out.2.2 ?_; intro v13 w13 k1 k2 k3; have HB13 : Below w9.heap.size w9 w13 := (bel_tr (bel_tr H10.out.2 B12.out) (bel_newG _ _)).grown k2 H12.out.2.2 (fun j hj => H10.out.1.block j hj); obtain ⟨xo, xc, hx⟩ := k1.sees.form; rw [HL.out.1] at hx; subst hx; have H13 : Hid (SeesE inE w13 (.slice xo L xc) (es ++ [la, la + later]) ∧ PairT T w w13 p p2 F7 G c t) := ⟨k1.sees, H9.out.below K HB13⟩; clear k1 k2 k3 HB13)
          | (go_at_call 20; refine (HLT.out _ _ ((H9.out.below K H10.out.2).below K B11.out)).mono ?_; rintro e w12 ⟨rfl, b12⟩; have B12 : Hid (Below w10.heap.size w10 w12) := bel_tr B11.out b12; clear b12; have H12 : Hid (RowE inE (w12.alloc (.cells #[.int .i64 la, .int .i64 (la + later)] 3)) w9.heap.size 3 v10 es ∧ SeesE inE (w12.alloc (.cells #[.int .i64 la, .int .i64 (la + later)] 3)) (.slice (some ⟨w12.heap.size, 0, none⟩) 2 2) [la, la + later] ∧ w9.heap.size ≤ (w12.alloc (.cells #[.int .i64 la, .int .i64 (la + later)] 3)).heap.size) := ⟨(H10.out.1.below B12.out).below (bel_newG _ _), two_sees _ _ _ _ rfl, Nat.le_trans (bel_tr H10.out.2 B12.out).size (bel_newG w12 _).size⟩)
          | (go_at_call 20; refine (HLT.out _ _ (H9.out.below K H10.out.2)).mono ?_; rintro e w11 ⟨rfl, b11⟩; have B11 : Hid (Below w10.heap.size w10 w11) := b11; clear b11)
          | (at_builtin; refine wpList_appF (E := inE) Tryz.underlying32 infoIC rfl rfl _ _ rfl w9.heap.size (.slice (some ⟨w9.heap.size, 0, none⟩) 0 0) [] rfl HE1.out.1 (.slice eo m ecap) es rfl HE1.out.2.1 HE1.out.2.2.1 HE1.out.2.2.2.1 HE1.out.2.2.2.2.1 ?_; intro v10 w10 k1 k2 k3; have H10 : Hid (RowE inE w10 w9.heap.size 3 v10 es ∧ Below w9.heap.size w9 w10) := ⟨by rw [List.nil_append] at k1; exact k1, (bel_newG w9 _).grown k2 HE1.out.2.2.2.2.1 (fun j hj => HE1.out.1.block j hj)⟩; clear k1 k2 k3))
        have HMEM : Hid (∀ e ∈ es ++ [la, la + later], e ∈ es ∨ t.last ≤ e) := fun e he => by
          have h1 := HC.out.2.2.2.2.2.2.2
          rcases List.mem_append.1 he with h | h
          · exact .inl h
          · right
            simp only [List.mem_cons, List.not_mem_nil, or_false] at h
            rcases h with h | h <;> omega
        obtain ⟨at9, hat9⟩ : ∃ z, z = es ++ [la, la + later] := ⟨_, rfl⟩
        rw [← hat9] at HL H13 HMEM
        clear hat9 HLT HLU HE1 H9 H10 H12 B11 B12
        go_wp2_with fail
        go_loopw [16] (fun s wx => ∃ (j : Nat), j ≤ L ∧ s = .int .i64 (j : Int) ∧ Hid (Below w13.heap.size w13 wx)) (fun s _ => L - (intOf s).toNat)
        case atStart => exact ⟨0, Nat.zero_le _, rfl, Below.refl _ _⟩
        case round =>
          obtain ⟨wb, hwb⟩ : ∃ z, z = wr := ⟨_, rfl⟩
          subst hwb
          obtain ⟨j, hj, rfl, HJ⟩ := hrel
          by_cases hlt2 : j < L
          · have q1 : (j : Int) < (L : Int) := by omega
            have q2 : (0 : Int) ≤ (j : Int) := by omega
            have hj1 : j < at9.length := by have := HL.out.1; omega
            obtain ⟨b, o, e1, hnn9, hb, hc⟩ := in_cells (H13.out.1.below HJ.out) (by omega)
            subst e1
            have y0 := hc j hj1
            have hme := HMEM.out _ (List.getElem_mem hj1)
            obtain ⟨y, hy⟩ : ∃ y, y = at9[j] := ⟨_, rfl⟩
            rw [← hy] at y0 hme
            obtain ⟨fi, hfi⟩ : ∃ z, z = foundI t.rs name y := ⟨_, rfl⟩
            obtain ⟨fb, hfb⟩ : ∃ z, z = foundB t.rs name y := ⟨_, rfl⟩
            obtain ⟨hn, hhn⟩ : ∃ z, z = heldN t.rs y := ⟨_, rfl⟩
            have HPX : Hid (∀ X, Below wb.heap.size wb X → PairT T w X p p2 F7 G c t) := fun X hX => (H13.out.2.below K HJ.out).below K hX
            have HF1 : Hid (∀ X, Below wb.heap.size wb X → Calls Tryz.prog 12 #[.pointer (some ⟨p, 0, none⟩), .string name, .int .i64 y] X fun x w' => x = .returned (.tuple #[.int .i64 fi, .bool fb]) ∧ Below X.heap.size X w') := fun X hX => by
              have h1 := K.find name y (HPX.out X hX).tp HC.out.1 HC.out.2.1 HE.out.2.2.2
              have h2 := kept_found HG.out.1 es name y hme
              rw [← HC.out.2.2.2.1] at h2
              rw [h2.1, h2.2, ← hfi, ← hfb] at h1
              exact h1
            have HF2 : Hid (∀ X, Below wb.heap.size wb X → Calls Tryz.prog 12 #[.pointer (some ⟨p2, 0, none⟩), .string name, .int .i64 y] X fun x w' => x = .returned (.tuple #[.int .i64 fi, .bool fb]) ∧ Below X.heap.size X w') := fun X hX => by
              rw [hfi, hfb]
              exact K.find name y (HPX.out X hX).up HG.out.1 HG.out.2 HE.out.2.2.2
            have HN1 : Hid (∀ X, Below wb.heap.size wb X → Calls Tryz.prog 15 #[.pointer (some ⟨p, 0, none⟩), .int .i64 y] X fun x w' => ∃ r, x = .returned r ∧ Sees w' r (strs hn) ∧ Below X.heap.size X w') := fun X hX => by
              have h1 := K.names y (HPX.out X hX).tp HC.out.1 HC.out.2.1
              have h2 := kept_held HG.out.1 es y hme
              rw [← HC.out.2.2.2.1] at h2
              rw [h2, ← hhn] at h1
              exact h1
            have HN2 : Hid (∀ X, Below wb.heap.size wb X → Calls Tryz.prog 15 #[.pointer (some ⟨p2, 0, none⟩), .int .i64 y] X fun x w' => ∃ r, x = .returned r ∧ Sees w' r (strs hn) ∧ Below X.heap.size X w') := fun X hX => by
              rw [hhn]
              exact K.names y (HPX.out X hX).up HG.out.1 HG.out.2
            have HKB : Hid (∀ X, Below wb.heap.size wb X → X.cell? ⟨b, o + j, none⟩ = some (.int .i64 y) ∧ b < X.heap.size) := fun X hX => ⟨(hX.cell (by exact hb)).trans y0, Nat.lt_of_lt_of_le hb hX.size⟩
            clear hnn9 hc hj1 hy hfi hfb hhn hme
            go_upto_region 26 with (first
              | (go_at_call 12; refine (HF2.out _ z1b).mono ?_; rintro e z2 ⟨rfl, z2b'⟩; have z2b : Below wb.heap.size wb z2 := bel_tr z1b z2b'; obtain ⟨z2c, z2l⟩ := HKB.out _ z2b)
              | (go_at_call 12; refine (HF1.out _ (Below.refl _ _)).mono ?_; rintro e z1 ⟨rfl, z1b⟩; obtain ⟨z1c, z1l⟩ := HKB.out _ z1b))
            have z2d : Below wb.heap.size wb z2.drew := bel_tr z2b (bel_drewL z2)
            obtain ⟨z3c, z3l⟩ := HKB.out _ z2d
            go_region_held3 (fun X => X.cell? ⟨b, o + j, none⟩ = some (.int .i64 y)) (first | exact z3c | exact (HKB.out _ x1b).1 | exact (HKB.out _ x2b).1 | exact (HKB.out _ x3b).1 | fail)
              (first
                | (go_at_call 14; refine (texts_same _ _ _ _ (g1.below b2) g2).mono ?_; rintro e x3 ⟨rfl, b3⟩; have x3b : Below wb.heap.size wb x3 := bel_tr x2b b3)
                | (go_at_call 15; refine (HN2.out _ x1b).mono ?_; rintro e x2 ⟨r2, rfl, g2, b2⟩; have x2b : Below wb.heap.size wb x2 := bel_tr x1b b2)
                | (go_at_call 15; refine (HN1.out _ z2d).mono ?_; rintro e x1 ⟨r1, rfl, g1, b1⟩; have x1b : Below wb.heap.size wb x1 := bel_tr z2d b1)
                | fail)
            have HZ : Hid (Below w13.heap.size w13 x3) := bel_tr HJ.out x3b
            clear z1b z2b z2b' z2d z1c z1l z2c z2l z3c z3l g1 g2 b1 b2 b3 x1b x2b x3b y0 hb
            go_wp2_with fail
            go_roundw
            case rel => exact ⟨j + 1, by omega, by go_num, HZ.out⟩
            case measure => simp [intOf]; omega
          · have hjm : ¬ (j : Int) < (L : Int) := by omega
            have HEND : Hid (Below w.heap.size w wb) := bel_tr H13.out.2.be HJ.out
            go_wp2_with (go_at_call 9; refine (HAW.out _).mono ?_; rintro e w99 ⟨rfl, b99⟩)
            go_ret
            exact ⟨rfl, bel_tr HEND.out b99⟩
end Go.Proofs.YthjcmagionaepaaGreat
