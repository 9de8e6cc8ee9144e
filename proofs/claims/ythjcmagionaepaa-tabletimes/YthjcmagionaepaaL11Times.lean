/- dolmenlaw11.TableTimes, over any table that is held to the contracts. -/
import Derived.Test.YthjcmagionaepaaLStrE
import Derived.Test.YthjcmagionaepaaLRound
namespace Go.Proofs.Ythjcmagionaepaa
open Go.RowKit Kit
set_option linter.unusedVariables false
variable {T : World → Nat → Nat → (Nat → Prop) → Tb → Prop}

/-- dolmenalike.Round of five. -/
def roundI (k : Int) : Int := if k.tmod 5 < 0 then k.tmod 5 + 5 else k.tmod 5
theorem roundI_in (k : Int) : 0 ≤ roundI k ∧ roundI k ≤ 4 := by
  obtain ⟨m1, m2⟩ := tmod_lt64 k 5 (by omega)
  unfold roundI
  split <;> omega
theorem round5_any (k : Int) (w : World) : Calls Try.prog 7 #[.int .i64 k, .int .i64 5] w fun e w' => e = .returned (.int .i64 (roundI k)) ∧ w' = w := by
  obtain ⟨m1, m2⟩ := tmod_lt64 k 5 (by omega)
  by_cases hs : k.tmod 5 < 0
  · have HV : Hid (roundI k = k.tmod 5 + 5) := by show _ = _; unfold roundI; rw [if_pos hs]
    rw [HV.out]
    go_enter Try.func7, Try.ntmps7
    go_wp2
    go_ret
    exact ⟨rfl, rfl⟩
  · have HV : Hid (roundI k = k.tmod 5) := by show _ = _; unfold roundI; rw [if_neg hs]
    rw [HV.out]
    go_enter Try.func7, Try.ntmps7
    go_wp2
    go_ret
    exact ⟨rfl, rfl⟩
theorem infoIE : (Try.prog.info? 3).map (fun i => (i.zero, i.size, i.bytes)) = some (some (.int .i64 0), inE.k, 8) := by kernel_rfl
theorem ap_turn {α : Type} {E : Enc α} {ty : TypeId} {B : Nat} {w w' : World} {F F' : Nat → Prop} {v : Value} {l : List α} (h : RowE E w B ty v l) (hap : ∀ k, v.ownBlock = some k → ¬ F k) (ht : TurnF F F' w w') : ∀ k, v.ownBlock = some k → ¬ F' k := fun k hk hF => by
  obtain ⟨cur, hc⟩ := rowE_obj h hk
  rcases ht.fresh k hF with e | e
  · exact hap k hk e
  · have := blk_lt hc; omega
def xB : ByteArray := ⟨#[120]⟩
theorem xB_ne : xB ≠ ⟨#[]⟩ := by decide
def tmMid (d : Nat → Int) (k : Nat) : Tb := ⟨tmR d xB k ++ [⟨xB, (k : Int) + 1, tmE d k, 0⟩], tmE d k⟩
theorem tmMid_inv {d : Nat → Int} (hd : ∀ i, 0 ≤ d i ∧ d i ≤ 4) (k : Nat) (hk : k ≤ 100) : Inv (tmMid d k) ∧ (tmMid d k).rs.length ≤ 900 := by
  constructor
  · have h1 := inv_add (tm_inv hd xB_ne k hk) xB ((k : Int) + 1) (tmE d k)
    rw [(tm_add hd xB_ne k hk).2] at h1
    exact h1
  · show (tmR d xB k ++ [(⟨xB, (k : Int) + 1, tmE d k, 0⟩ : Rw)]).length ≤ 900
    rw [List.length_append, tmR_len, List.length_singleton]
    omega
/-- One round: given; taken; not there. -/
theorem TabK.tm_add (K : TabK T) {d : Nat → Int} (hd : ∀ i, 0 ≤ d i ∧ d i ≤ 4) {w0 w : World} {p : Nat} {F : Nat → Prop} (k : Nat) (hk : k ≤ 100) (h : OneT T w0 w p F (tmT d xB k)) :
    Calls Try.prog 6 #[.pointer (some ⟨p, 0, none⟩), .string ⟨#[120]⟩, .int .i64 ((k : Int) + 1), .int .i64 (tmE d k)] w fun x w' => x = .returned .nilIface ∧ ∃ F', Hid (OneT T w0 w' p F' (tmMid d k) ∧ TurnF F F' w w') := by
  have hl : (tmT d xB k).rs.length ≤ 900 := by show (tmR d xB k).length ≤ 900; rw [tmR_len]; omega
  refine (K.add xB ((k : Int) + 1) (tmE d k) h.tp (tm_inv hd xB_ne k hk) hl (by decide)).mono ?_
  rintro x w' ⟨a, F', b, c⟩
  have h2 := Go.Proofs.Ythjcmagionaepaa.tm_add hd xB_ne k hk
  rw [h2.1, errV_0] at a
  rw [h2.2] at b
  exact ⟨a, F', ⟨b, K.turn h.tp h.be (Nat.le_refl _) c⟩, c⟩
theorem TabK.tm_rem (K : TabK T) {d : Nat → Int} (hd : ∀ i, 0 ≤ d i ∧ d i ≤ 4) {w0 w : World} {p : Nat} {F : Nat → Prop} (k : Nat) (hk : k ≤ 100) (h : OneT T w0 w p F (tmMid d k)) :
    Calls Try.prog 8 #[.pointer (some ⟨p, 0, none⟩), .string ⟨#[120]⟩, .int .i64 (tmE d k + 1 + d k)] w fun x w' => x = .returned .nilIface ∧ ∃ F', Hid (OneT T w0 w' p F' (tmT d xB (k + 1)) ∧ TurnF F F' w w') := by
  have hi := tmMid_inv hd k hk
  refine (K.rem xB (tmE d k + 1 + d k) h.tp hi.1 hi.2 (by decide)).mono ?_
  rintro x w' ⟨a, F', b, c⟩
  have h2 := Go.Proofs.Ythjcmagionaepaa.tm_rem hd xB_ne k hk
  rw [show tmMid d k = ⟨tmR d xB k ++ [⟨xB, (k : Int) + 1, tmE d k, 0⟩], tmE d k⟩ from rfl] at a b
  rw [h2.1, errV_0] at a
  rw [h2.2] at b
  exact ⟨a, F', ⟨b, K.turn h.tp h.be (Nat.le_refl _) c⟩, c⟩
theorem TabK.tm_again (K : TabK T) {d : Nat → Int} (hd : ∀ i, 0 ≤ d i ∧ d i ≤ 4) {w0 w : World} {p : Nat} {F : Nat → Prop} (k : Nat) (hk : k + 1 ≤ 100) (h : OneT T w0 w p F (tmT d xB (k + 1))) :
    Calls Try.prog 8 #[.pointer (some ⟨p, 0, none⟩), .string ⟨#[120]⟩, .int .i64 (tmE d k + 1 + d k)] w fun x w' => x = .returned (errV 5) ∧ ∃ F', Hid (OneT T w0 w' p F' (tmT d xB (k + 1)) ∧ TurnF F F' w w') := by
  have hl : (tmT d xB (k + 1)).rs.length ≤ 900 := by show (tmR d xB (k + 1)).length ≤ 900; rw [tmR_len]; omega
  refine (K.rem xB (tmE d k + 1 + d k) h.tp (tm_inv hd xB_ne (k + 1) hk) hl (by decide)).mono ?_
  rintro x w' ⟨a, F', b, c⟩
  have h2 := Go.Proofs.Ythjcmagionaepaa.tm_again hd xB_ne k (by omega)
  rw [h2.1] at a
  rw [h2.2] at b
  exact ⟨a, F', ⟨b, K.turn h.tp h.be (Nat.le_refl _) c⟩, c⟩
set_option maxRecDepth 4000 in
set_option maxHeartbeats 16000000 in
theorem ltimes_any (K : TabK T) (v : Value) (gs : List Int) (w : World) (hg : Sees w v (iV gs)) :
    Calls Try.prog 3 #[v] w fun e w' => e = .returned (.bool true) ∧ Below w.heap.size w w' := by
  have HAW : Hid (∀ X, Calls Try.prog 4 #[] X fun e w' => e = .returned (.bool true) ∧ Below X.heap.size X w') := fun X => awake_any K X
  obtain ⟨d, hdd⟩ : ∃ d : Nat → Int, d = fun i => roundI (gs.getD i 0) := ⟨_, rfl⟩
  have HD : Hid (∀ i, 0 ≤ d i ∧ d i ≤ 4) := fun i => by rw [hdd]; exact roundI_in _
  have HDG : Hid (∀ i, roundI (gs.getD i 0) = d i) := fun i => by rw [hdd]
  clear hdd
  have hs := sees_inE hg
  obtain ⟨ao, cap, rfl⟩ := hs.form
  obtain ⟨n, hn⟩ : ∃ n, n = gs.length := ⟨_, rfl⟩
  rw [← hn] at hs hg ⊢
  have HN : Hid (n = gs.length) := hn
  have HS : Hid (SeesE inE w (.slice ao n cap) gs) := hs
  clear hs hg hn
  by_cases hbig : 40 < n
  · have hbi : (40 : Int) < (n : Int) := by omega
    go_enter Try.func3, Try.ntmps3
    go_wp2_with (go_at_call 4; refine (HAW.out _).mono ?_; rintro e w2 ⟨rfl, hb2⟩)
    go_ret
    exact ⟨rfl, hb2⟩
  have hnm : (n : Int) ≤ 40 := by omega
  have HNN : Hid (n ≤ 40) := by show _ ≤ _; omega
  have HNEW : Hid (∀ X, Calls Try.prog 5 #[] X fun x w' => ∃ p F, x = .returned (.pointer (some ⟨p, 0, none⟩)) ∧ Hid (T w' p X.heap.size F tb0 ∧ Below X.heap.size X w')) := fun X => K.new X
  clear hbig
  go_enter Try.func3, Try.ntmps3
  go_upto_region 6 with (go_at_call 5; refine (HNEW.out _).mono ?_; rintro e w2 ⟨p, F0, rfl, HT0⟩)
  have HT1 : Hid (OneT T w w2 p F0 (tmT d xB 0) ∧ RowE inE w2 w.heap.size 3 (.slice none 0 0) ((List.range 0).map (tmE d)) ∧ ∀ k, (Value.slice none 0 0).ownBlock = some k → ¬ F0 k) := ⟨⟨HT0.out.1, HT0.out.2⟩, rowE_nil inE _ _ _, fun k hk => by simp [Value.ownBlock] at hk⟩
  clear HT0 HNEW
  go_wp2_with fail
  go_loopw [4, 5, 6] (fun s4 s5 s wr => ∃ (i : Nat) (F : Nat → Prop), i ≤ n ∧ s4 = .int .i64 (tmE d i) ∧ s = .int .i64 (i : Int) ∧ Hid (OneT T w wr p F (tmT d xB i) ∧ RowE inE wr w.heap.size 3 s5 ((List.range i).map (tmE d)) ∧ ∀ k, s5.ownBlock = some k → ¬ F k)) (fun _ _ s _ => n - (intOf s).toNat)
  case atStart => exact ⟨0, _, Nat.zero_le _, rfl, rfl, HT1.out⟩
  case round =>
    obtain ⟨wa, hwa⟩ : ∃ z, z = wr := ⟨_, rfl⟩
    subst hwa
    obtain ⟨i, F, hi, rfl, rfl, HI⟩ := hrel
    clear HT1
    by_cases hlt : i < n
    · have hii : (i : Int) < (n : Int) := by omega
      have hi0 : (0 : Int) ≤ (i : Int) := by omega
      have hil : i < gs.length := by have := HN.out; omega
      have hi9 : i ≤ 40 := by have := HNN.out; omega
      obtain ⟨hE1, hE2⟩ := tmE_pos d HD.out i
      have hr := HD.out i
      have HA : Hid (Calls Try.prog 6 #[.pointer (some ⟨p, 0, none⟩), .string ⟨#[120]⟩, .int .i64 ((i : Int) + 1), .int .i64 (tmE d i)] wa fun x w' => x = .returned .nilIface ∧ ∃ F', Hid (OneT T w w' p F' (tmMid d i) ∧ TurnF F F' wa w')) := K.tm_add HD.out i (by omega) HI.out.1
      have HR1 : Hid (∀ X G, OneT T w X p G (tmMid d i) → Calls Try.prog 8 #[.pointer (some ⟨p, 0, none⟩), .string ⟨#[120]⟩, .int .i64 (tmE d i + 1 + d i)] X fun x w' => x = .returned .nilIface ∧ ∃ F', Hid (OneT T w w' p F' (tmT d xB (i + 1)) ∧ TurnF G F' X w')) := fun X G h => K.tm_rem HD.out i (by omega) h
      have HR2 : Hid (∀ X G, OneT T w X p G (tmT d xB (i + 1)) → Calls Try.prog 8 #[.pointer (some ⟨p, 0, none⟩), .string ⟨#[120]⟩, .int .i64 (tmE d i + 1 + d i)] X fun x w' => x = .returned (errV 5) ∧ ∃ F', Hid (OneT T w w' p F' (tmT d xB (i + 1)) ∧ TurnF G F' X w')) := fun X G h => K.tm_again HD.out i (by omega) h
      have HC5 : Hid (∀ X, Calls Try.prog 9 #[errV 5] X fun e w' => e = .returned (.int .i64 5) ∧ w' = X) := fun X => codeV_any 5 (by simp) X
      have HEN : Hid (tmE d (i + 1) = tmE d i + 1 + d i + ((i % 2 : Nat) : Int)) := rfl
      have HRN : Hid ((List.range (i + 1)).map (tmE d) = (List.range i).map (tmE d) ++ [tmE d i]) := by show _ = _; rw [List.range_succ, List.map_append]; rfl
      have HLN : Hid (((List.range i).map (tmE d)).length + [tmE d i].length ≤ maxLen ∧ (((List.range i).map (tmE d)).length + [tmE d i].length) * 8 ≤ 140737488355328) := by
        refine ⟨?_, ?_⟩ <;> simp only [List.length_cons, List.length_nil, List.length_map, List.length_range] <;> (try unfold maxLen) <;> omega
      have HRO : Hid (∀ X, Calls Try.prog 7 #[.int .i64 (gs.getD i 0), .int .i64 5] X fun e w' => e = .returned (.int .i64 (d i)) ∧ w' = X) := fun X => by rw [← HDG.out i]; exact round5_any _ X
      obtain ⟨b, off, e, hnn9, hb, hc⟩ := in_cells HS.out (by omega)
      subst e
      have c0 := hc i hil
      rw [← getD9 hil] at c0
      obtain ⟨gv, hgv⟩ : ∃ z, z = gs.getD i 0 := ⟨_, rfl⟩
      rw [← hgv] at c0 HRO
      obtain ⟨E, hE⟩ : ∃ z, z = tmE d i := ⟨_, rfl⟩
      obtain ⟨r, hrr⟩ : ∃ z, z = d i := ⟨_, rfl⟩
      rw [← hE, ← hrr] at HEN HR1 HR2
      rw [← hE] at HA HRN HLN hE1 hE2 ⊢
      rw [← hrr] at HRO hr
      obtain ⟨hr1, hr2⟩ := hr
      have hm1 : (i : Int).tmod 2 = ((i % 2 : Nat) : Int) := (Int.ofNat_tmod i 2).symm
      have hm2 : i % 2 < 2 := Nat.mod_lt _ (by omega)
      obtain ⟨h2, hh2⟩ : ∃ z : Nat, z = i % 2 := ⟨_, rfl⟩
      rw [← hh2] at hm1 hm2 HEN
      have HCW : Hid (∀ X, Below w.heap.size w X → X.cell? ⟨b, off + i, none⟩ = some (.int .i64 gv)) := fun X hX => (hX.cell (by exact hb)).trans c0
      clear hnn9 hc hgv hE hrr hh2 c0 hb
      go_upto_region 13 with (go_at_call 6; refine HA.out.mono ?_; rintro e w3 ⟨rfl, F3, HI3⟩)
      have HRW : Hid (RowE inE (w3.alloc (.cells #[.int .i64 E] 3)) w.heap.size 3 u5 ((List.range i).map (tmE d)) ∧ SeesE inE (w3.alloc (.cells #[.int .i64 E] 3)) (.slice (some ⟨w3.heap.size, 0, none⟩) 1 1) [E] ∧ w.heap.size ≤ (w3.alloc (.cells #[.int .i64 E] 3)).heap.size) := by
        have hb3 := bel_newG w3 (.cells #[.int .i64 E] 3)
        exact ⟨(row_turn HI.out.2.1 HI.out.2.2 HI3.out.2).below hb3, seesE_at inE (x := E) (MapKept.heap_alloc w3 _).1, Nat.le_trans HI3.out.1.be.size hb3.size⟩
      go_upto_region 14 with (at_builtin; refine wpList_appF (E := inE) Try.underlying22 infoIE rfl rfl _ _ rfl w.heap.size u5 ((List.range i).map (tmE d)) rfl HRW.out.1 (.slice (some ⟨w3.heap.size, 0, none⟩) 1 1) [E] rfl HRW.out.2.1 HLN.out.1 HLN.out.2 HRW.out.2.2 ?_; intro v4 w4 k1 k2 k3; have HI4 : Hid (OneT T w w4 p F3 (tmMid d i) ∧ RowE inE w4 w.heap.size 3 v4 ((List.range (i + 1)).map (tmE d)) ∧ ∀ k, v4.ownBlock = some k → ¬ F3 k) := (by rw [HRN.out]; exact one_app K HI.out.2.1 HI.out.2.2 HI3.out.1 HI3.out.2 k1 k2 k3); clear k1 k2 k3)
      have d0 := HCW.out _ HI4.out.1.be
      have dl : b < w4.heap.size := cell_lt9 d0
      clear HA HRW HI3
      go_wp2_with (first
        | (go_at_call 7; refine (HRO.out _).mono ?_; rintro e w9 ⟨rfl, hw9⟩; subst w9)
        | (go_at_call 9; refine (HC5.out _).mono ?_; rintro e w9 ⟨rfl, hw9⟩; subst w9)
        | (go_at_call 8; refine (HR2.out _ _ HI5.out.1).mono ?_; rintro e w6 ⟨rfl, F6, HI6⟩)
        | (go_at_call 8; refine (HR1.out _ _ HI4.out.1).mono ?_; rintro e w5 ⟨rfl, F5, HI5⟩))
      have HI7 : Hid (OneT T w w6 p F6 (tmT d xB (i + 1)) ∧ RowE inE w6 w.heap.size 3 v4 ((List.range (i + 1)).map (tmE d)) ∧ ∀ k, v4.ownBlock = some k → ¬ F6 k) := by
        have a1 := row_turn HI4.out.2.1 HI4.out.2.2 HI5.out.2
        have a2 := ap_turn HI4.out.2.1 HI4.out.2.2 HI5.out.2
        exact ⟨HI6.out.1, row_turn a1 a2 HI6.out.2, ap_turn a1 a2 HI6.out.2⟩
      go_roundw
      case rel => exact ⟨i + 1, _, by omega, by first | (rw [HEN.out]; done) | (rw [HEN.out]; go_num) | (rw [HEN.out, ← hm1]), by go_num, HI7.out⟩
      case measure => simp [intOf]; omega
    · have hin : ¬ (i : Int) < (n : Int) := by omega
      have hie : i = n := by omega
      subst hie
      have hi9 : i ≤ 40 := HNN.out
      obtain ⟨hE1, hE2⟩ := tmE_pos d HD.out i
      have HIV : Hid (Inv (tmT d xB i) ∧ (tmT d xB i).rs.length ≤ 900) := ⟨tm_inv HD.out xB_ne i (by omega), by show (tmR d xB i).length ≤ 900; rw [tmR_len]; omega⟩
      obtain ⟨E, hE⟩ : ∃ z, z = tmE d i := ⟨_, rfl⟩
      have HEND : Hid (foundB (tmT d xB i).rs xB (E + 1) = false) := by show _ = _; rw [hE]; exact tm_end HD.out i
      rw [← hE] at hE1 hE2 ⊢
      have HO : Hid (OneT T w wa p F (tmT d xB i)) := HI.out.1
      have HSE : Hid (SeesE inE wa u5 ((List.range i).map (tmE d))) := HI.out.2.1.sees
      obtain ⟨xo, xc, hx5⟩ := HSE.out.form
      rw [List.length_map, List.length_range] at hx5
      subst hx5
      have HFI : Hid (∀ j X, j < i → Below wa.heap.size wa X → Calls Try.prog 10 #[.pointer (some ⟨p, 0, none⟩), .string ⟨#[120]⟩, .int .i64 (tmE d j)] X fun x w' => x = .returned (.tuple #[.int .i64 ((j : Int) + 1), .bool true]) ∧ Below X.heap.size X w') := fun j X hj hX => by
        have h1 := tm_find HD.out xB_ne i j (by omega) hj
        have h2 := K.find xB (tmE d j) (HO.out.below K hX).tp HIV.out.1 HIV.out.2 (by decide)
        rw [h1.1, h1.2] at h2
        exact h2
      obtain ⟨fi, hfi⟩ : ∃ z, z = foundI (tmT d xB i).rs xB (E + 1) := ⟨_, rfl⟩
      have HFE : Hid (∀ X, Below wa.heap.size wa X → Calls Try.prog 10 #[.pointer (some ⟨p, 0, none⟩), .string ⟨#[120]⟩, .int .i64 (E + 1)] X fun x w' => x = .returned (.tuple #[.int .i64 fi, .bool false]) ∧ Below X.heap.size X w') := fun X hX => by
        have h2 := K.find xB (E + 1) (HO.out.below K hX).tp HIV.out.1 HIV.out.2 (by decide)
        rw [HEND.out, ← hfi] at h2
        exact h2
      have HAL : Hid (∀ X, Below wa.heap.size wa X → Calls Try.prog 11 #[.pointer (some ⟨p, 0, none⟩)] X fun x w' => ∃ zo zc, x = .returned (.slice zo i zc) ∧ Below X.heap.size X w') := fun X hX => by
        refine (K.all (HO.out.below K hX).tp HIV.out.1 HIV.out.2).mono ?_
        rintro x w' ⟨r, rfl, h1, h2⟩
        obtain ⟨zo, zc, hz⟩ := h1.form
        rw [allW_len, show (tmT d xB i).rs.length = i from tmR_len d xB i] at hz
        exact ⟨zo, zc, by rw [hz], h2⟩
      have HBE : Hid (Below w.heap.size w wa) := HI.out.1.be
      clear HI hE hfi hlt
      go_wp2_with fail
      go_loopw [7] (fun s wx => ∃ (j : Nat), j ≤ i ∧ s = .int .i64 (j : Int) ∧ Hid (Below wa.heap.size wa wx)) (fun s _ => i - (intOf s).toNat)
      case atStart => exact ⟨0, Nat.zero_le _, rfl, Below.refl _ _⟩
      case round =>
        obtain ⟨wb, hwb⟩ : ∃ z, z = wr := ⟨_, rfl⟩
        subst hwb
        obtain ⟨j, hj, rfl, HJ⟩ := hrel
        by_cases hlt2 : j < i
        · have q1 : (j : Int) < (i : Int) := by omega
          have q2 : (0 : Int) ≤ (j : Int) := by omega
          have hj1 : j < ((List.range i).map (tmE d)).length := by rw [List.length_map, List.length_range]; exact hlt2
          obtain ⟨b, o, e1, hnn9, hb, hc⟩ := in_cells (HSE.out.below HJ.out) (by omega)
          subst e1
          have y0 := hc j hj1
          rw [List.getElem_map, List.getElem_range] at y0
          have HF : Hid (Calls Try.prog 10 #[.pointer (some ⟨p, 0, none⟩), .string ⟨#[120]⟩, .int .i64 (tmE d j)] wb fun x w' => x = .returned (.tuple #[.int .i64 ((j : Int) + 1), .bool true]) ∧ Below wb.heap.size wb w') := HFI.out j wb hlt2 HJ.out
          obtain ⟨y, hy⟩ : ∃ y, y = tmE d j := ⟨_, rfl⟩
          rw [← hy] at y0 HF
          clear hnn9 hc hj1 hy
          go_wp2_with (go_at_call 10; refine HF.out.mono ?_; rintro e w6 ⟨rfl, b6⟩; have H6 : Hid (Below wa.heap.size wa w6) := bel_tr HJ.out b6; clear b6)
          go_roundw
          case rel => exact ⟨j + 1, by omega, by go_num, H6.out⟩
          case measure => simp [intOf]; omega
        · have hjm : ¬ (j : Int) < (i : Int) := by omega
          go_wp2_with (first
            | (go_at_call 4; refine (HAW.out _).mono ?_; rintro e w9 ⟨rfl, b9⟩)
            | (go_at_call 11; refine (HAL.out _ H7.out).mono ?_; rintro e w8 ⟨zo, zc, rfl, b8⟩)
            | (go_at_call 10; refine (HFE.out _ HJ.out).mono ?_; rintro e w7 ⟨rfl, b7⟩; have H7 : Hid (Below wa.heap.size wa w7) := bel_tr HJ.out b7; clear b7))
          go_ret
          exact ⟨rfl, bel_tr (bel_tr (bel_tr HBE.out H7.out) b8) b9⟩
end Go.Proofs.Ythjcmagionaepaa
