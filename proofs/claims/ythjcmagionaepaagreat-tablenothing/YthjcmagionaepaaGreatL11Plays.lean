/- dolmenlaw11.TablePlays, over any table that is held to the contracts. -/
import Derived.Test.YthjcmagionaepaaGreatLDoesT
import Derived.Test.YthjcmagionaepaaGreatLAwakeT
import Derived.Test.YthjcmagionaepaaGreatLSmallT
import Derived.Test.YthjcmagionaepaaGreatLRowsT
import Derived.Test.YthjcmagionaepaaGreatRTexts
import Derived.Deep.RegionHeld3
namespace Go.Proofs.YthjcmagionaepaaGreat
open Go.RowKit Kit
set_option linter.unusedVariables false
variable {T : World → Nat → Nat → (Nat → Prop) → Tb → Prop}

/-- Both tables, in one world: the program's at p, the document's at q. -/
structure TwoT (T : World → Nat → Nat → (Nat → Prop) → Tb → Prop) (w0 w : World) (p q : Nat) (F : Nat → Prop) (sv : Value) (t r : Tb) : Prop where
  tp : T w p w0.heap.size F t
  tr : RTab w q w0.heap.size sv r.last r.rs
  be : Below w0.heap.size w0 w
theorem TwoT.below (K : TabK T) {w0 w w' : World} {p q : Nat} {F : Nat → Prop} {sv : Value} {t r : Tb} (h : TwoT T w0 w p q F sv t r) (hb : Below w.heap.size w w') : TwoT T w0 w' p q F sv t r := ⟨K.below h.tp hb, h.tr.below hb, bel_tr h.be hb⟩
/-- A step of a list, on both. -/
theorem TabK.step (K : TabK T) {w0 w : World} {p q : Nat} {F : Nat → Prop} {sv : Value} {t r : Tb} (h : TwoT T w0 w p q F sv t r) (hi : Inv t) (hl : t.rs.length ≤ 900) (hl2 : r.rs.length ≤ 900) (s : Ts) (ea : Option Addr) (ec : Nat) (hf : TsFit w0 s ea ec) (hsz : s.name.size ≤ 2000 ∧ s.es.length ≤ 2000) :
    Calls Tryz.prog 11 #[.pointer (some ⟨p, 0, none⟩), .pointer (some ⟨q, 0, none⟩), .agg #[.int .i64 s.kind, .string s.name, .int .i64 s.ino, .int .i64 s.ep, .slice ea s.es.length ec]] w fun e w' => ∃ b, e = .returned (.bool b) ∧ (t = r → b = true) ∧ ∃ F' sv', TwoT T w0 w' p q F' sv' (stepT t s) (stepT r s) := by
  refine (does_any K p q w0.heap.size w0.heap.size F sv t r s ea ec w h.tp h.tr hi hl hl2 w0 h.be (Nat.le_refl _) hf hsz).mono ?_
  rintro e w' ⟨b, rfl, hb, F', sv', k1, k2, k3⟩
  refine ⟨b, rfl, hb, F', sv', k1, k2, k3.below h.be h.be.size fun k hk => ?_⟩
  rcases hk with hk | hk
  · exact (K.lo h.tp k hk).1
  · exact h.tr.foot k hk
theorem texts_same (x y : Value) (l : List ByteArray) (w : World) (hx : Sees w x (strs l)) (hy : Sees w y (strs l)) : Calls Tryz.prog 14 #[x, y] w fun e w' => e = .returned (.bool true) ∧ Below w.heap.size w w' :=
  (texts_any x y l l w hx hy).mono fun e w' ⟨a, b⟩ => ⟨by rw [a, decide_eq_true rfl], b⟩
theorem rtab_box (w : World) : RTab (w.alloc (.cells #[.slice none 0 0, .int .i64 0] 30)) w.heap.size w.heap.size (.slice none 0 0) 0 [] := ⟨(MapKept.heap_alloc w _).1, rowE_nil rwE _ _ _, (bel_newG w _).size, Nat.le_refl _⟩
set_option maxRecDepth 4000 in
set_option maxHeartbeats 16000000 in
theorem lplays_any (K : TabK T) (v : Value) (name : ByteArray) (ep : Int) (ss : List Ts) (w : World) (hs : StepsAt w v ss) (hnm : name.size ≤ maxLen) :
    Calls Tryz.prog 3 #[v, .string name, .int .i64 ep] w fun e w' => e = .returned (.bool true) ∧ Below w.heap.size w w' := by
  have HSM : Hid (Calls Tryz.prog 8 #[v] w fun e w' => ∃ z : Bool, e = .returned (.bool z) ∧ (z = true → ss.length ≤ 80 ∧ ∀ s ∈ ss, s.name.size ≤ 2000 ∧ s.es.length ≤ 2000) ∧ Below w.heap.size w w') := small_any v ss w hs
  have HAW : Hid (∀ X, Calls Tryz.prog 9 #[] X fun e w' => e = .returned (.bool true) ∧ Below X.heap.size X w') := fun X => awake_any K X
  obtain ⟨ao, cap, rfl, h2, h3⟩ := hs
  obtain ⟨n, hn⟩ : ∃ n, n = ss.length := ⟨_, rfl⟩
  rw [← hn] at HSM ⊢
  have HN : Hid (n = ss.length ∧ name.size ≤ maxLen) := ⟨hn, hnm⟩
  have H3 : Hid (0 < ss.length → _) := h3
  clear h2 h3 hn hnm
  go_enter Tryz.func3, Tryz.ntmps3
  go_wp2_with fail
  go_at_call 8
  refine HSM.out.mono ?_
  rintro e w1 ⟨z, rfl, hz, hb1⟩
  have HB1 : Hid (Below w.heap.size w w1) := hb1
  have HZ : Hid (z = true → n ≤ 80 ∧ ∀ s ∈ ss, s.name.size ≤ 2000 ∧ s.es.length ≤ 2000) := hz
  clear hz hb1 HSM
  cases z with
  | false =>
    go_wp2_with (go_at_call 9; refine (HAW.out _).mono ?_; rintro e w2 ⟨rfl, hb2⟩)
    go_ret
    exact ⟨rfl, bel_tr HB1.out hb2⟩
  | true =>
    by_cases hbig : (100 : Int) < (name.size : Int)
    · go_wp2_with (go_at_call 9; refine (HAW.out _).mono ?_; rintro e w2 ⟨rfl, hb2⟩)
      go_ret
      exact ⟨rfl, bel_tr HB1.out hb2⟩
    have hn80 : n ≤ 80 := (HZ.out rfl).1
    have HS2 : Hid (∀ s ∈ ss, s.name.size ≤ 2000 ∧ s.es.length ≤ 2000) := (HZ.out rfl).2
    have hnm : (n : Int) ≤ 80 := by omega
    have HNN : Hid (n ≤ 80) := hn80
    have HNEW : Hid (∀ X, Calls Tryz.prog 10 #[] X fun x w' => ∃ p F, x = .returned (.pointer (some ⟨p, 0, none⟩)) ∧ Hid (T w' p X.heap.size F tb0 ∧ Below X.heap.size X w')) := fun X => K.new X
    clear hn80 HZ
    go_upto_region 4 with (go_at_call 10; refine (HNEW.out _).mono ?_; rintro e w2 ⟨p, F0, rfl, HT0⟩)
    obtain ⟨W, hW⟩ : ∃ z, z = w2.alloc (.cells #[.slice none 0 0, .int .i64 0] 30) := ⟨_, rfl⟩
    have HT1 : Hid (TwoT T w W p w2.heap.size F0 (.slice none 0 0) (playT (ss.take 0)) (playT (ss.take 0))) := by
      have hb := bel_newG w2 (.cells #[.slice none 0 0, .int .i64 0] 30)
      have hbb := bel_tr HB1.out HT0.out.2
      rw [hW]
      exact ⟨K.below (K.mono HT0.out.1 HB1.out.size) hb, ⟨(rtab_box w2).cell, rowE_nil rwE _ _ _, (bel_tr hbb hb).size, hbb.size⟩, bel_tr hbb hb⟩
    obtain ⟨q, hq⟩ : ∃ z, z = w2.heap.size := ⟨_, rfl⟩
    rw [← hq] at HT1
    go_upto_region 5 with fail
    rw [← hW, ← hq]
    clear hW hq HT0 HNEW
    go_wp2_with fail
    go_loopw [9] (fun s wr => ∃ (i : Nat) (F : Nat → Prop) (sv : Value), i ≤ n ∧ s = .int .i64 (i : Int) ∧ Hid (TwoT T w wr p q F sv (playT (ss.take i)) (playT (ss.take i)))) (fun s _ => n - (intOf s).toNat)
    case atStart => exact ⟨0, _, _, Nat.zero_le _, rfl, HT1.out⟩
    case round =>
      obtain ⟨wa, hwa⟩ : ∃ z, z = wr := ⟨_, rfl⟩
      subst hwa
      obtain ⟨i, F, sv, hi, rfl, HI⟩ := hrel
      clear HT1
      by_cases hlt : i < n
      · have hii : (i : Int) < (n : Int) := by omega
        have hi0 : (0 : Int) ≤ (i : Int) := by omega
        have hil : i < ss.length := by have := HN.out.1; omega
        obtain ⟨b, off, e, hb, hc⟩ := H3.out (by omega)
        subst e
        obtain ⟨ea, ec, ha, hf⟩ := hc i hil
        obtain ⟨c0, c1, c2, c3, c4⟩ := ha.below hb HI.out.be
        have hl9 : (playT (ss.take i)).rs.length ≤ 900 := by
          have h1 := play_len (ss.take i)
          have h2 := HNN.out
          rw [List.length_take] at h1
          omega
        have HD : Hid (Calls Tryz.prog 11 #[.pointer (some ⟨p, 0, none⟩), .pointer (some ⟨q, 0, none⟩), .agg #[.int .i64 ss[i].kind, .string ss[i].name, .int .i64 ss[i].ino, .int .i64 ss[i].ep, .slice ea ss[i].es.length ec]] wa fun e w' => e = .returned (.bool true) ∧ ∃ F' sv', Hid (TwoT T w w' p q F' sv' (playT (ss.take (i + 1))) (playT (ss.take (i + 1))))) := by
          rw [play_next ss i hil]
          refine (K.step HI.out (play_inv _) hl9 hl9 ss[i] ea ec hf (HS2.out _ (List.getElem_mem _))).mono ?_
          rintro e w' ⟨bb, rfl, hbb, F', sv', k⟩
          rw [hbb rfl]
          exact ⟨rfl, F', sv', k⟩
        obtain ⟨s, hs⟩ : ∃ s, s = ss[i] := ⟨_, rfl⟩
        rw [← hs] at c0 c1 c2 c3 c4 HD
        clear hs hc ha hf hl9
        go_wp2_with (go_at_call 11; refine HD.out.mono ?_; rintro e w2 ⟨rfl, F2, sv2, HI2⟩)
        go_roundw
        case rel => exact ⟨i + 1, _, _, by omega, by go_num, HI2.out⟩
        case measure => simp [intOf]; omega
      · have hin : ¬ (i : Int) < (n : Int) := by omega
        obtain ⟨t, ht⟩ : ∃ z, z = playT (ss.take i) := ⟨_, rfl⟩
        have HG : Hid (Inv t ∧ t.rs.length ≤ 900) := by
          have h1 := play_len (ss.take i)
          have h2 := HNN.out
          rw [List.length_take] at h1
          rw [ht]
          exact ⟨play_inv _, by omega⟩
        rw [← ht] at HI
        clear ht
        obtain ⟨fi, hfi⟩ : ∃ z, z = foundI t.rs name ep := ⟨_, rfl⟩
        obtain ⟨fb, hfb⟩ : ∃ z, z = foundB t.rs name ep := ⟨_, rfl⟩
        obtain ⟨la, hla⟩ : ∃ z, z = t.last := ⟨_, rfl⟩
        have HS1 : Hid (∀ X, Below wa.heap.size wa X → TwoT T w X p q F sv t t) := fun X hX => HI.out.below K hX
        have HF : Hid (∀ X, Below wa.heap.size wa X → Calls Tryz.prog 12 #[.pointer (some ⟨p, 0, none⟩), .string name, .int .i64 ep] X fun x w' => x = .returned (.tuple #[.int .i64 fi, .bool fb]) ∧ Below X.heap.size X w') := fun X hX => by rw [hfi, hfb]; exact K.find name ep (HS1.out X hX).tp HG.out.1 HG.out.2 HN.out.2
        have HRF : Hid (∀ X, Below wa.heap.size wa X → Calls Tryz.prog 13 #[.pointer (some ⟨q, 0, none⟩), .string name, .int .i64 ep] X fun x w' => x = .returned (.tuple #[.int .i64 fi, .bool fb]) ∧ Below X.heap.size X w') := fun X hX => by rw [hfi, hfb]; exact rfind_any q _ sv t.last t.rs name ep X (HS1.out X hX).tr (by have := HG.out.2; omega)
        have HNA : Hid (∀ X, Below wa.heap.size wa X → Calls Tryz.prog 15 #[.pointer (some ⟨p, 0, none⟩), .int .i64 ep] X fun x w' => ∃ r, x = .returned r ∧ Sees w' r (strs (heldN t.rs ep)) ∧ Below X.heap.size X w') := fun X hX => K.names ep (HS1.out X hX).tp HG.out.1 HG.out.2
        have HRN : Hid (∀ X, Below wa.heap.size wa X → Calls Tryz.prog 16 #[.pointer (some ⟨q, 0, none⟩), .int .i64 ep] X fun x w' => ∃ r, x = .returned r ∧ Sees w' r (strs (heldN t.rs ep)) ∧ Below X.heap.size X w') := fun X hX => (rnames_any q _ sv t.last t.rs ep X (HS1.out X hX).tr HG.out.2).mono fun x w' ⟨r, a, b, c⟩ => ⟨r, a, b.sees, c⟩
        have HAL : Hid (∀ X, Below wa.heap.size wa X → Calls Tryz.prog 18 #[.pointer (some ⟨p, 0, none⟩)] X fun x w' => ∃ r, x = .returned r ∧ SeesE rwE w' r (allW t.rs) ∧ Below X.heap.size X w') := fun X hX => K.all (HS1.out X hX).tp HG.out.1 HG.out.2
        have HRA : Hid (∀ X, Below wa.heap.size wa X → Calls Tryz.prog 19 #[.pointer (some ⟨q, 0, none⟩)] X fun x w' => ∃ r, x = .returned r ∧ SeesE rwE w' r (allW t.rs) ∧ Below X.heap.size X w') := fun X hX => (rall_any q _ sv t.last t.rs X (HS1.out X hX).tr HG.out.2).mono fun x w' ⟨r, a, b, c⟩ => ⟨r, a, b.sees, c⟩
        have HLA : Hid (∀ X, Below wa.heap.size wa X → Calls Tryz.prog 20 #[.pointer (some ⟨p, 0, none⟩)] X fun x w' => x = .returned (.int .i64 la) ∧ Below X.heap.size X w') := fun X hX => by rw [hla]; exact K.last (HS1.out X hX).tp
        have HQ : Hid (∀ {X : World}, Below wa.heap.size wa X → X.cell? ⟨q, 1, none⟩ = some (.int .i64 la)) := fun hX => by rw [hla]; exact blk_cell (HS1.out _ hX).tr.cell rfl
        have HQL : Hid (∀ {X : World}, Below wa.heap.size wa X → q < X.heap.size) := fun hX => blk_lt (HS1.out _ hX).tr.cell
        have HEND : Hid (Below w.heap.size w wa) := HI.out.be
        clear hfi hfb hla H3
        go_upto_region 14 with (first
          | (go_at_call 13; refine (HRF.out _ k1).mono ?_; rintro e y2 ⟨rfl, k2'⟩; have k2 : Below wa.heap.size wa y2 := bel_tr k1 k2')
          | (go_at_call 12; refine (HF.out _ (Below.refl _ _)).mono ?_; rintro e y1 ⟨rfl, k1⟩))
        have k2d : Below wa.heap.size wa y2.drew := bel_tr k2 (bel_drewL y2)
        go_region_held3 (fun X => X.cell? ⟨q, 1, none⟩ = some (.int .i64 la)) (first | exact HQ.out k2d | exact HQ.out k3 | exact HQ.out k4 | exact HQ.out k5 | exact HQ.out k6 | exact HQ.out k7 | exact HQ.out k8 | exact HQ.out k9 | exact HQ.out k10 | fail)
          (first
            | (go_at_call 9; refine (HAW.out _).mono ?_; rintro e y10 ⟨rfl, b10⟩; have k10 : Below wa.heap.size wa y10 := bel_tr k9 b10)
            | (go_at_call 20; refine (HLA.out _ k8).mono ?_; rintro e y9 ⟨rfl, b9⟩; have k9 : Below wa.heap.size wa y9 := bel_tr k8 b9)
            | (go_at_call 17; refine (rows_any _ _ _ _ (g6.below b7) g7).mono ?_; rintro e y8 ⟨rfl, b8⟩; have k8 : Below wa.heap.size wa y8 := bel_tr k7 b8)
            | (go_at_call 19; refine (HRA.out _ k6).mono ?_; rintro e y7 ⟨r7, rfl, g7, b7⟩; have k7 : Below wa.heap.size wa y7 := bel_tr k6 b7)
            | (go_at_call 18; refine (HAL.out _ k5).mono ?_; rintro e y6 ⟨r6, rfl, g6, b6⟩; have k6 : Below wa.heap.size wa y6 := bel_tr k5 b6)
            | (go_at_call 14; refine (texts_same _ _ _ _ (g3.below b4) g4).mono ?_; rintro e y5 ⟨rfl, b5⟩; have k5 : Below wa.heap.size wa y5 := bel_tr k4 b5)
            | (go_at_call 16; refine (HRN.out _ k3).mono ?_; rintro e y4 ⟨r4, rfl, g4, b4⟩; have k4 : Below wa.heap.size wa y4 := bel_tr k3 b4)
            | (go_at_call 15; refine (HNA.out _ k2d).mono ?_; rintro e y3 ⟨r3, rfl, g3, b3⟩; have k3 : Below wa.heap.size wa y3 := bel_tr k2d b3)
            | fail)
        have HZ : Hid (Below w.heap.size w y10) := bel_tr HEND.out k10
        clear k1 k2 k2d k3 k4 k5 k6 k7 k8 k9 k10 g3 g4 g6 g7 b3 b4 b5 b6 b7 b8 b9 b10
        go_wp2_with fail
        go_ret
        exact ⟨by first | rfl | simp, HZ.out⟩
end Go.Proofs.YthjcmagionaepaaGreat
