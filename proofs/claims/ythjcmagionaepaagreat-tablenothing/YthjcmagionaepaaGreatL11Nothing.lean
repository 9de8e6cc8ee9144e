/- dolmenlaw11.TableNothing, over any table that is held to the contracts. -/
import Derived.Test.YthjcmagionaepaaGreatLAwakeT
namespace Go.Proofs.YthjcmagionaepaaGreat
open Go.RowKit Kit
set_option linter.unusedVariables false
variable {T : World → Nat → Nat → (Nat → Prop) → Tb → Prop}

/-- What a nil table answers. -/
structure NilK : Prop where
  find : ∀ (w : World) (name : ByteArray) (ep : Int), name.size ≤ maxLen → Calls Tryz.prog 12 #[.pointer none, .string name, .int .i64 ep] w fun x w' => ∃ k : Int, x = .returned (.tuple #[.int .i64 k, .bool false]) ∧ Below w.heap.size w w'
  add : ∀ (w : World) (name : ByteArray) (ino ep : Int), Calls Tryz.prog 23 #[.pointer none, .string name, .int .i64 ino, .int .i64 ep] w fun x w' => x = .returned (errV 1) ∧ Below w.heap.size w w'
  all : ∀ w : World, Calls Tryz.prog 18 #[.pointer none] w fun x w' => ∃ zo zc, x = .returned (.slice zo 0 zc) ∧ Below w.heap.size w w'
  last : ∀ w : World, Calls Tryz.prog 20 #[.pointer none] w fun x w' => x = .returned (.int .i64 0) ∧ Below w.heap.size w w'
  clean : ∀ w : World, Calls Tryz.prog 21 #[.pointer none, .slice none 0 0] w fun x w' => x = .returned (.int .i64 0) ∧ Below w.heap.size w w'
theorem errV_1 : errV 1 = .iface 81 (.int .i64 1) := if_neg (by omega)
set_option maxRecDepth 4000 in
set_option maxHeartbeats 4000000 in
theorem lnothing_any (K : TabK T) (Z : NilK) (hz : ∀ w : World, ∃ F, T (w.alloc (.cells #[.map none, .int .i64 0] 56)) w.heap.size w.heap.size F tb0) (name : ByteArray) (ino : Int) (w : World) (hname : name.size ≤ maxLen) :
    Calls Tryz.prog 7 #[.string name, .int .i64 ino] w fun e w' => e = .returned (.bool true) ∧ Below w.heap.size w w' := by
  have HAW : Hid (∀ X, Calls Tryz.prog 9 #[] X fun e w' => e = .returned (.bool true) ∧ Below X.heap.size X w') := fun X => awake_any K X
  by_cases hbig : (100 : Int) < (name.size : Int)
  · go_enter Tryz.func7, Tryz.ntmps7
    go_wp2_with (go_at_call 9; refine (HAW.out _).mono ?_; rintro e w2 ⟨rfl, hb2⟩)
    go_ret
    exact ⟨rfl, hb2⟩
  have HNF : Hid (∀ X, Calls Tryz.prog 12 #[.pointer none, .string name, .int .i64 1] X fun x w' => ∃ k : Int, x = .returned (.tuple #[.int .i64 k, .bool false]) ∧ Below X.heap.size X w') := fun X => Z.find X name 1 hname
  have HNA : Hid (∀ X, Calls Tryz.prog 23 #[.pointer none, .string name, .int .i64 ino, .int .i64 1] X fun x w' => x = .returned (.iface 81 (.int .i64 1)) ∧ Below X.heap.size X w') := fun X => by have := Z.add X name ino 1; rw [errV_1] at this; exact this
  have HNC : Hid (∀ X, Calls Tryz.prog 24 #[.iface 81 (.int .i64 1)] X fun e w' => e = .returned (.int .i64 1) ∧ w' = X) := fun X => by have := codeV_any 1 (by simp) X; rw [errV_1] at this; exact this
  have HNL : Hid (∀ X, Calls Tryz.prog 20 #[.pointer none] X fun x w' => x = .returned (.int .i64 0) ∧ Below X.heap.size X w') := Z.last
  have HNE : Hid (∀ X, Calls Tryz.prog 21 #[.pointer none, .slice none 0 0] X fun x w' => x = .returned (.int .i64 0) ∧ Below X.heap.size X w') := Z.clean
  have HNW : Hid (∀ X, Calls Tryz.prog 18 #[.pointer none] X fun x w' => ∃ zo zc, x = .returned (.slice zo 0 zc) ∧ Below X.heap.size X w') := Z.all
  obtain ⟨W, hW⟩ : ∃ z, z = w.alloc (.cells #[.map none, .int .i64 0] 56) := ⟨_, rfl⟩
  obtain ⟨F, hF⟩ := hz w
  rw [← hW] at hF
  have HBW : Hid (Below w.heap.size w W) := by rw [hW]; exact bel_newG _ _
  obtain ⟨cv, hcv⟩ : ∃ z, z = errV (addC tb0 name ino 1) := ⟨_, rfl⟩
  have HA : Hid (∀ X, Below W.heap.size W X → Calls Tryz.prog 23 #[.pointer (some ⟨w.heap.size, 0, none⟩), .string name, .int .i64 ino, .int .i64 1] X fun x w' => x = .returned cv ∧ Below w.heap.size w w') := fun X hX => by
    refine (K.add name ino 1 (K.below hF hX) inv0 (by simp [tb0]) (by omega)).mono ?_
    rintro x w' ⟨rfl, F', h1, h2⟩
    exact ⟨by rw [hcv], K.turn (K.below hF hX) (bel_tr HBW.out hX) (Nat.le_refl _) h2⟩
  by_cases hn : name = ⟨#[]⟩
  · subst hn
    have hc : addC tb0 ⟨#[]⟩ ino 1 = 1 := by
      unfold addC
      rw [if_neg]
      rintro ⟨h, _⟩
      exact (may_iff h).1 rfl
    rw [hc, errV_1] at hcv
    subst cv
    clear hF hc hname hbig
    go_enter Tryz.func7, Tryz.ntmps7
    go_upto_region 5 with fail
    rw [← hW]
    clear hW
    go_upto_region 7 with (first
      | (go_at_call 23; refine (HA.out _ b2).mono ?_; rintro e w3 ⟨rfl, b3⟩)
      | (go_at_call 12; refine (HNF.out _).mono ?_; rintro e w2 ⟨kk, rfl, b2⟩))
    clear HA HNF
    go_wp2_with (first
      | (go_at_call 9; refine (HAW.out _).mono ?_; rintro e w8 ⟨rfl, b8⟩)
      | (go_at_call 21; refine (HNE.out _).mono ?_; rintro e w7 ⟨rfl, b7⟩)
      | (go_at_call 20; refine (HNL.out _).mono ?_; rintro e w6 ⟨rfl, b6⟩)
      | (go_at_call 18; refine (HNW.out _).mono ?_; rintro e w5 ⟨zo, zc, rfl, b5⟩)
      | (go_at_call 24; refine (HNC.out _).mono ?_; rintro e w9 ⟨rfl, hw9⟩; subst w9)
      | (go_at_call 23; refine (HNA.out _).mono ?_; rintro e w4 ⟨rfl, b4⟩))
    have HZ : Hid (Below w.heap.size w w8) := bel_tr (bel_tr (bel_tr (bel_tr (bel_tr b3 b4) b5) b6) b7) b8
    clear b2 b3 b4 b5 b6 b7 b8
    go_ret
    exact ⟨rfl, HZ.out⟩
  · have hnl := not_empty hn
    have hnb : (name.toList == []) = false := by simpa using hnl
    by_cases hi : 1 ≤ ino
    · have hc : addC tb0 name ino 1 = 0 := by
        unfold addC
        have hm : mayB tb0.last name 1 = true := by unfold mayB; rw [decide_eq_false hn]; decide
        rw [if_pos ⟨hm, hi⟩, if_neg (by simp [tb0])]
      rw [hc, errV_0] at hcv
      subst cv
      clear hF hc hname
      go_enter Tryz.func7, Tryz.ntmps7
      go_upto_region 5 with fail
      rw [← hW]
      clear hW
      go_upto_region 7 with (first
        | (go_at_call 23; refine (HA.out _ b2).mono ?_; rintro e w3 ⟨rfl, b3⟩)
        | (go_at_call 12; refine (HNF.out _).mono ?_; rintro e w2 ⟨kk, rfl, b2⟩))
      clear HA HNF
      go_wp2_with (first
        | (go_at_call 9; refine (HAW.out _).mono ?_; rintro e w8 ⟨rfl, b8⟩)
        | (go_at_call 21; refine (HNE.out _).mono ?_; rintro e w7 ⟨rfl, b7⟩)
        | (go_at_call 20; refine (HNL.out _).mono ?_; rintro e w6 ⟨rfl, b6⟩)
        | (go_at_call 18; refine (HNW.out _).mono ?_; rintro e w5 ⟨zo, zc, rfl, b5⟩)
        | (go_at_call 24; refine (HNC.out _).mono ?_; rintro e w9 ⟨rfl, hw9⟩; subst w9)
        | (go_at_call 23; refine (HNA.out _).mono ?_; rintro e w4 ⟨rfl, b4⟩))
      have HZ : Hid (Below w.heap.size w w8) := bel_tr (bel_tr (bel_tr (bel_tr (bel_tr b3 b4) b5) b6) b7) b8
      clear b2 b3 b4 b5 b6 b7 b8
      go_ret
      exact ⟨rfl, HZ.out⟩
    · have hc : addC tb0 name ino 1 = 1 := by
        unfold addC
        rw [if_neg (fun h => hi h.2)]
      have hi2 : decide (1 ≤ ino) = false := decide_eq_false hi
      rw [hc, errV_1] at hcv
      subst cv
      clear hF hc hi hname
      go_enter Tryz.func7, Tryz.ntmps7
      go_upto_region 5 with fail
      rw [← hW]
      clear hW
      go_upto_region 7 with (first
        | (go_at_call 23; refine (HA.out _ b2).mono ?_; rintro e w3 ⟨rfl, b3⟩)
        | (go_at_call 12; refine (HNF.out _).mono ?_; rintro e w2 ⟨kk, rfl, b2⟩))
      clear HA HNF
      go_wp2_with (first
        | (go_at_call 9; refine (HAW.out _).mono ?_; rintro e w8 ⟨rfl, b8⟩)
        | (go_at_call 21; refine (HNE.out _).mono ?_; rintro e w7 ⟨rfl, b7⟩)
        | (go_at_call 20; refine (HNL.out _).mono ?_; rintro e w6 ⟨rfl, b6⟩)
        | (go_at_call 18; refine (HNW.out _).mono ?_; rintro e w5 ⟨zo, zc, rfl, b5⟩)
        | (go_at_call 24; refine (HNC.out _).mono ?_; rintro e w9 ⟨rfl, hw9⟩; subst w9)
        | (go_at_call 23; refine (HNA.out _).mono ?_; rintro e w4 ⟨rfl, b4⟩))
      have HZ : Hid (Below w.heap.size w w8) := bel_tr (bel_tr (bel_tr (bel_tr (bel_tr b3 b4) b5) b6) b7) b8
      clear b2 b3 b4 b5 b6 b7 b8
      go_ret
      exact ⟨rfl, HZ.out⟩
end Go.Proofs.YthjcmagionaepaaGreat
