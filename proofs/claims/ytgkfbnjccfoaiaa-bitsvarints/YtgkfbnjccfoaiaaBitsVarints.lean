/-
  Proved here: for every value, text and bytes the law BitsVarints returns true and leaves its arguments as they were: any value is laid as a varint; any bytes are read as the varint, the text that they begin with, or refused, as the document says. No condition.
-/
import Derived.Test.YtgkfbnjccfoaiaaRows
import Derived.Test.YtgkfbnjccfoaiaaArgs
import Derived.Test.YtgkfbnjccfoaiaaRefV
import Derived.Test.YtgkfbnjccfoaiaaRefT
import Derived.Deep.RegionWith
import Derived.WalkKit
import Derived.ProofKit
import Derived.OpenShut
import Derived.ShutString
import Derived.ChangeOld
import Derived.Below
namespace Go.Proofs.Ytgkfbnjccfoaiaa.bitsVarints
open Go.ChangeShapes Go.WideShapes Go.ChangeAt Go.RowKit
open Go.ChangeMaps (open_string shut_string)
set_option linter.unusedVariables false

theorem own : ownKnob Try.prog.godebug = none := by kernel_rfl
theorem laidOut : laidOutB Try.prog = true := by kernel_rfl

theorem below_two {w w6 w7 w8 : World} (h : w.heap.size ≤ w6.heap.size) (h7 : Below w6.heap.size w6 w7) (h8 : Below w7.heap.size w7 w8) : Below w.heap.size w6 w8 := (h7.trans (h8.mono h7.size)).mono h

theorem tailcut {F : Value → Value → World → Prop} {P : Value → Value → World → Prop} {G : Prop} (h : (∀ a b c, F a b c → P a b c) → G) (t : ∀ a b c, F a b c → P a b c) : G := h t

theorem untexts (B : Nat) (v : Value) (zs : List Int) (w : World) (hv : Vw B w .u8 v zs) (hb : bytesIn zs) : ∃ (s : ByteArray) (k f : Int) (x : Value),
    (Calls Try.prog 20 #[v] w fun e w' => e = .returned (.tuple #[.string s, .int .i64 k, x]) ∧ w' = w) ∧
    (Calls Try.prog 21 #[v] w fun e w' => e = .returned (.tuple #[.string s, .int .i64 k, .int .i64 f]) ∧ w' = w) ∧
    ∀ w, Calls Try.prog 12 #[x] w fun e w' => e = .returned (.int .i64 f) ∧ w' = w := by
  have hvb := vval_bd zs hb
  have hvl := vlen_le zs
  by_cases hok : 0 < vlen zs ∧ vval zs + vlen zs ≤ zs.length
  · obtain ⟨hv0, hv1⟩ := hok
    have hm : vval zs = ((vval zs).toNat : Int) := by omega
    have hmb : (vval zs).toNat + vlen zs ≤ zs.length := by omega
    exact ⟨_, _, 0, _, untext_ok B v zs w hv hb hv0 _ hm hmb, runtext_ok B v zs w hv hb hv0 _ hm hmb, code_nil⟩
  · have h : vlen zs = 0 ∨ (zs.length : Int) - vlen zs < vval zs := by omega
    exact ⟨_, _, 14, _, untext_bad B v zs w hv hb h, runtext_bad B v zs w hv hb h, code_bad⟩

set_option maxHeartbeats 4000000 in
theorem walk (a0 : Int) (a1 : ByteArray) (a2 : Option Addr) (len2 cap2 : Nat) (z2 : List Int) (w : World) (w0 : (Lit.int .u64 a0).wf = true) (w1 : a1.size ≤ maxLen) (w2 : IsRow .u8 w a2 len2 cap2 z2) :
    Calls Try.prog 4 #[.int .u64 a0, .string a1, .slice a2 len2 cap2] w fun e w' => e = .returned (.bool true) ∧ Below w.heap.size w w' := by
  have x0 : 0 ≤ a0 ∧ a0 < 18446744073709551616 := by have := bounds_u64 w0; omega
  obtain ⟨p0, p1⟩ := x0
  obtain ⟨hl1, hl2, hl3⟩ := isRow_len w2
  unfold maxLen at w1 hl3
  have hlen2 : (len2 : Int) ≤ 9223372036854775807 := by omega
  have hlen1 : (a1.size : Int) ≤ 9223372036854775807 := by omega
  have HVB : Hid (Vw w.heap.size w .u8 (.slice a2 len2 cap2) (z2.take len2)) := isRow_view w2
  have HBB : Hid (bytesIn (z2.take len2)) := isRow_bytes w2
  generalize hL : z2.take len2 = L at *
  clear w0 w1 w2 hl2 hl3 hL
  by_cases hs : 2000 < a1.size
  · go_enter Try.func4, Try.ntmps4
    go_wp2_with (first | (go_at_call 9; refine (awake_any _).mono ?_; rintro e w' ⟨rfl, hb⟩))
    go_ret
    exact ⟨rfl, hb⟩
  by_cases hb2 : 2000 < len2
  · go_enter Try.func4, Try.ntmps4
    go_wp2_with (first | (go_at_call 9; refine (awake_any _).mono ?_; rintro e w' ⟨rfl, hb⟩))
    go_ret
    exact ⟨rfl, hb⟩
  have hsz : (a1.size : Int) ≤ 140737488351232 := by omega
  obtain ⟨us, uk, uf, ux, hu1, hu2, hu3⟩ := untexts _ _ L _ HVB.out HBB.out
  have HU1 : Hid (Calls Try.prog 20 #[.slice a2 len2 cap2] w fun e w' => e = .returned (.tuple #[.string us, .int .i64 uk, ux]) ∧ w' = w) := hu1
  have HU2 : Hid (Calls Try.prog 21 #[.slice a2 len2 cap2] w fun e w' => e = .returned (.tuple #[.string us, .int .i64 uk, .int .i64 uf]) ∧ w' = w) := hu2
  have HU3 : Hid (∀ w, Calls Try.prog 12 #[ux] w fun e w' => e = .returned (.int .i64 uf) ∧ w' = w) := hu3
  clear hu1 hu2 hu3
  go_enter Try.func4, Try.ntmps4
  go_wp2_with (first
    | (go_at_call 18; refine (unv_view _ _ L _ HVB.out HBB.out).mono ?_; rintro e w1 ⟨rfl, hx⟩; have hx := hx.symm; subst hx)
    | (go_at_call 19; refine (runv_view _ _ L _ HVB.out HBB.out).mono ?_; rintro e w2 ⟨rfl, hx⟩; have hx := hx.symm; subst hx)
    | (go_at_call 20; refine (HU1.out).mono ?_; rintro e w3 ⟨rfl, hx⟩; have hx := hx.symm; subst hx)
    | (go_at_call 21; refine (HU2.out).mono ?_; rintro e w4 ⟨rfl, hx⟩; have hx := hx.symm; subst hx))
  clear HVB HBB HU1 HU2
  refine wp_region_any (by kernel_rfl) ?_
  change wpAny _ _ _ _ _ _ _ (World.drew _)
  apply tailcut (F := fun _ _ w' => Below w.heap.size w w')
  · intro ht1
    refine wpAny_take (i := 0) (v := ?_) rfl (by kernel_rfl) (by kernel_rfl) (by kernel_rfl) (fun _ _ _ h => h) (Or.inl ⟨by rfl, ?_⟩) ?_
    rotate_left 1
    · intro w'
      go_simp
      try with_reducible rfl
    refine wpAny_take (i := 3) (v := ?_) rfl (by kernel_rfl) (by kernel_rfl) (by kernel_rfl) (fun _ _ _ h => h) (Or.inl ⟨by rfl, ?_⟩) ?_
    rotate_left 1
    · intro w'
      go_simp
      try with_reducible rfl
    refine wpAny_ready (rs := [1]) (by kernel_rfl) (by simp) ?_
    refine AllReady.cons rfl (fun K hK => ?_) AllReady.nil
    go_simp
    go_wp2_with (go_at_call 22; refine (varint_any a0 _ p0 p1).mono ?_; rintro e w5 ⟨v5, rfl, hr5, hb5⟩; have hc5 := conv_view (row_view hr5); have HR5 : Hid (Row w5 _ .u8 5 v5 (vint a0)) := hr5; clear hr5)
    try (refine hK _ _ ?_)
    try clear hK K
    refine wpAny_ready (rs := [2, 4]) (by kernel_rfl) (by simp) ?_
    refine AllReady.cons rfl (fun K hK => ?_) ?_
    · go_simp
      refine hK _ _ ?_
      clear hK K
      refine wpAny_ready (rs := [4]) (by kernel_rfl) (by simp) ?_
      refine AllReady.cons rfl (fun K hK => ?_) AllReady.nil
      go_simp
      go_wp2_with (go_at_call 23; refine (rvarint_any a0 _ p0 p1).mono ?_; rintro e w6 ⟨v6, rfl, hr6, hb6⟩; have hc6 := conv_view (row_view hr6); have hc56 := conv_view ((row_view HR5.out).below hb6); clear hr6)
      try (refine hK _ _ ?_)
      try clear hK K
      refine wpAny_ready (rs := [5]) (by kernel_rfl) (by simp) ?_
      refine AllReady.cons rfl (fun K hK => ?_) AllReady.nil
      go_simp
      refine hK _ _ ?_
      clear hK K
      exact ht1 v5 v6 w6 ((Below.refl _ _).drew.trans (hb5.trans (hb6.mono hb5.size)))

    refine AllReady.cons rfl (fun K hK => ?_) AllReady.nil
    go_simp
    go_wp2_with (go_at_call 23; refine (rvarint_any a0 _ p0 p1).mono ?_; rintro e w6 ⟨v6, rfl, hr6, hb6⟩; have hc6 := conv_view (row_view hr6); have hc56 := conv_view ((row_view HR5.out).below hb6); clear hr6)
    try (refine hK _ _ ?_)
    try clear hK K
    refine wpAny_ready (rs := [2, 5]) (by kernel_rfl) (by simp) ?_
    refine AllReady.cons rfl (fun K hK => ?_) ?_
    · go_simp
      refine hK _ _ ?_
      clear hK K
      refine wpAny_ready (rs := [5]) (by kernel_rfl) (by simp) ?_
      refine AllReady.cons rfl (fun K hK => ?_) AllReady.nil
      go_simp
      refine hK _ _ ?_
      clear hK K
      rw [Array.setIfInBounds_comm true true (i := 4) (j := 2) (by decide)]
      exact ht1 v5 v6 w6 ((Below.refl _ _).drew.trans (hb5.trans (hb6.mono hb5.size)))

    refine AllReady.cons rfl (fun K hK => ?_) AllReady.nil
    go_simp
    refine hK _ _ ?_
    clear hK K
    refine wpAny_ready (rs := [2]) (by kernel_rfl) (by simp) ?_
    refine AllReady.cons rfl (fun K hK => ?_) AllReady.nil
    go_simp
    refine hK _ _ ?_
    clear hK K
    rw [Array.setIfInBounds_comm true true (i := 5) (j := 2) (by decide)]
    rw [Array.setIfInBounds_comm true true (i := 4) (j := 2) (by decide)]
    exact ht1 v5 v6 w6 ((Below.refl _ _).drew.trans (hb5.trans (hb6.mono hb5.size)))
  · intro v5 v6 w6 hw6
    refine wpAny_take (i := 6) (v := ?_) rfl (by kernel_rfl) (by kernel_rfl) (by kernel_rfl) (fun _ _ _ h => h) (Or.inl ⟨by rfl, ?_⟩) ?_
    rotate_left 1
    · intro w'
      go_simp
      try with_reducible rfl
    refine wpAny_take (i := 7) (v := ?_) rfl (by kernel_rfl) (by kernel_rfl) (by kernel_rfl) (fun _ _ _ h => h) (Or.inl ⟨by rfl, ?_⟩) ?_
    rotate_left 1
    · intro w'
      go_simp
      try with_reducible rfl
    refine wpAny_take (i := 8) (v := ?_) rfl (by kernel_rfl) (by kernel_rfl) (by kernel_rfl) (fun _ _ _ h => h) (Or.inl ⟨by rfl, ?_⟩) ?_
    rotate_left 1
    · intro w'
      go_simp
      try with_reducible rfl
    refine wpAny_take (i := 11) (v := ?_) rfl (by kernel_rfl) (by kernel_rfl) (by kernel_rfl) (fun _ _ _ h => h) (Or.inl ⟨by rfl, ?_⟩) ?_
    rotate_left 1
    · intro w'
      go_simp
      try with_reducible rfl
    apply tailcut (F := fun _ _ w' => Below w.heap.size w w')
    · intro ht2
      refine wpAny_ready (rs := [9]) (by kernel_rfl) (by simp) ?_
      refine AllReady.cons rfl (fun K hK => ?_) AllReady.nil
      go_simp
      go_wp2_with (go_at_call 24; refine (text_any a1 _ hsz).mono ?_; rintro e w7 ⟨v7, rfl, hr7, hb7⟩; have hc7 := conv_view (row_view hr7); have HR7 : Hid (Row w7 _ .u8 5 v7 (textOf a1)) := hr7; clear hr7)
      try (refine hK _ _ ?_)
      try clear hK K
      refine wpAny_ready (rs := [10, 12]) (by kernel_rfl) (by simp) ?_
      refine AllReady.cons rfl (fun K hK => ?_) ?_
      · go_simp
        refine hK _ _ ?_
        clear hK K
        refine wpAny_ready (rs := [12]) (by kernel_rfl) (by simp) ?_
        refine AllReady.cons rfl (fun K hK => ?_) AllReady.nil
        go_simp
        go_wp2_with (go_at_call 25; refine (rtext_any a1 _ hsz).mono ?_; rintro e w8 ⟨v8, rfl, hr8, hb8⟩; have hc8 := conv_view (row_view hr8); have hc78 := conv_view ((row_view HR7.out).below hb8); clear hr8)
        try (refine hK _ _ ?_)
        try clear hK K
        refine wpAny_ready (rs := [13]) (by kernel_rfl) (by simp) ?_
        refine AllReady.cons rfl (fun K hK => ?_) AllReady.nil
        go_simp
        refine hK _ _ ?_
        clear hK K
        exact ht2 v7 v8 w8 (hw6.trans (below_two hw6.size hb7 hb8))

      refine AllReady.cons rfl (fun K hK => ?_) AllReady.nil
      go_simp
      go_wp2_with (go_at_call 25; refine (rtext_any a1 _ hsz).mono ?_; rintro e w8 ⟨v8, rfl, hr8, hb8⟩; have hc8 := conv_view (row_view hr8); have hc78 := conv_view ((row_view HR7.out).below hb8); clear hr8)
      try (refine hK _ _ ?_)
      try clear hK K
      refine wpAny_ready (rs := [10, 13]) (by kernel_rfl) (by simp) ?_
      refine AllReady.cons rfl (fun K hK => ?_) ?_
      · go_simp
        refine hK _ _ ?_
        clear hK K
        refine wpAny_ready (rs := [13]) (by kernel_rfl) (by simp) ?_
        refine AllReady.cons rfl (fun K hK => ?_) AllReady.nil
        go_simp
        refine hK _ _ ?_
        clear hK K
        rw [Array.setIfInBounds_comm true true (i := 12) (j := 10) (by decide)]
        exact ht2 v7 v8 w8 (hw6.trans (below_two hw6.size hb7 hb8))

      refine AllReady.cons rfl (fun K hK => ?_) AllReady.nil
      go_simp
      refine hK _ _ ?_
      clear hK K
      refine wpAny_ready (rs := [10]) (by kernel_rfl) (by simp) ?_
      refine AllReady.cons rfl (fun K hK => ?_) AllReady.nil
      go_simp
      refine hK _ _ ?_
      clear hK K
      rw [Array.setIfInBounds_comm true true (i := 13) (j := 10) (by decide)]
      rw [Array.setIfInBounds_comm true true (i := 12) (j := 10) (by decide)]
      exact ht2 v7 v8 w8 (hw6.trans (below_two hw6.size hb7 hb8))
    · intro v7 v8 w8 hw8
      refine wpAny_ready (rs := [14]) (by kernel_rfl) (by simp) ?_
      refine AllReady.cons rfl (fun K hK => ?_) AllReady.nil
      go_simp
      refine hK _ _ ?_
      clear hK K
      refine wpAny_ready (rs := [15]) (by kernel_rfl) (by simp) ?_
      refine AllReady.cons rfl (fun K hK => ?_) AllReady.nil
      go_simp
      refine hK _ _ ?_
      clear hK K
      refine wpAny_ready (rs := [16]) (by kernel_rfl) (by simp) ?_
      refine AllReady.cons rfl (fun K hK => ?_) AllReady.nil
      go_simp
      refine hK _ _ ?_
      clear hK K
      refine wpAny_take (i := 17) (v := ?_) rfl (by kernel_rfl) (by kernel_rfl) (by kernel_rfl) (fun _ _ _ h => h) (Or.inl ⟨by rfl, ?_⟩) ?_
      rotate_left 1
      · intro w'
        go_simp
        try with_reducible rfl
      refine wpAny_ready (rs := [18]) (by kernel_rfl) (by simp) ?_
      refine AllReady.cons rfl (fun K hK => ?_) AllReady.nil
      go_simp
      refine hK _ _ ?_
      clear hK K
      refine wpAny_ready (rs := [19]) (by kernel_rfl) (by simp) ?_
      refine AllReady.cons rfl (fun K hK => ?_) AllReady.nil
      go_simp
      refine hK _ _ ?_
      clear hK K
      refine wpAny_ready (rs := [20]) (by kernel_rfl) (by simp) ?_
      refine AllReady.cons rfl (fun K hK => ?_) AllReady.nil
      go_simp
      refine hK _ _ ?_
      clear hK K
      refine wpAny_ready (rs := [21]) (by kernel_rfl) (by simp) ?_
      refine AllReady.cons rfl (fun K hK => ?_) AllReady.nil
      go_simp
      refine hK _ _ ?_
      clear hK K
      refine wpAny_take (i := 22) (v := ?_) rfl (by kernel_rfl) (by kernel_rfl) (by kernel_rfl) (fun _ _ _ h => h) (Or.inl ⟨by rfl, ?_⟩) ?_
      rotate_left 1
      · intro w'
        go_simp
        try with_reducible rfl
      refine wpAny_ready (rs := [23]) (by kernel_rfl) (by simp) ?_
      refine AllReady.cons rfl (fun K hK => ?_) AllReady.nil
      go_simp
      refine hK _ _ ?_
      clear hK K
      refine wpAny_ready (rs := [24]) (by kernel_rfl) (by simp) ?_
      refine AllReady.cons rfl (fun K hK => ?_) AllReady.nil
      go_simp
      refine hK _ _ ?_
      clear hK K
      refine wpAny_ready (rs := [25]) (by kernel_rfl) (by simp) ?_
      refine AllReady.cons rfl (fun K hK => ?_) AllReady.nil
      go_simp
      refine hK _ _ ?_
      clear hK K
      refine wpAny_ready (rs := [26]) (by kernel_rfl) (by simp) ?_
      refine AllReady.cons rfl (fun K hK => ?_) AllReady.nil
      go_simp
      refine hK _ _ ?_
      clear hK K
      refine wpAny_take (i := 27) (v := ?_) rfl (by kernel_rfl) (by kernel_rfl) (by kernel_rfl) (fun _ _ _ h => h) (Or.inl ⟨by rfl, ?_⟩) ?_
      rotate_left 1
      · intro w'
        go_simp
        try with_reducible rfl
      refine wpAny_ready (rs := [28]) (by kernel_rfl) (by simp) ?_
      refine AllReady.cons rfl (fun K hK => ?_) AllReady.nil
      go_simp
      refine hK _ _ ?_
      clear hK K
      refine wpAny_ready (rs := [29]) (by kernel_rfl) (by simp) ?_
      refine AllReady.cons rfl (fun K hK => ?_) AllReady.nil
      go_simp
      refine hK _ _ ?_
      clear hK K
      refine wpAny_ready (rs := [30]) (by kernel_rfl) (by simp) ?_
      refine AllReady.cons rfl (fun K hK => ?_) AllReady.nil
      go_simp
      refine hK _ _ ?_
      clear hK K
      refine wpAny_ready (rs := [31]) (by kernel_rfl) (by simp) ?_
      refine AllReady.cons rfl (fun K hK => ?_) AllReady.nil
      go_simp
      refine hK _ _ ?_
      clear hK K
      refine wpAny_take (i := 32) (v := ?_) rfl (by kernel_rfl) (by kernel_rfl) (by kernel_rfl) (fun _ _ _ h => h) (Or.inl ⟨by rfl, ?_⟩) ?_
      rotate_left 1
      · intro w'
        go_simp
        try with_reducible rfl
      refine wpAny_ready (rs := [33]) (by kernel_rfl) (by simp) ?_
      refine AllReady.cons rfl (fun K hK => ?_) AllReady.nil
      go_simp
      refine hK _ _ ?_
      clear hK K
      refine wpAny_ready (rs := [34]) (by kernel_rfl) (by simp) ?_
      refine AllReady.cons rfl (fun K hK => ?_) AllReady.nil
      go_simp
      refine hK _ _ ?_
      clear hK K
      refine wpAny_ready (rs := [35]) (by kernel_rfl) (by simp) ?_
      refine AllReady.cons rfl (fun K hK => ?_) AllReady.nil
      go_simp
      refine hK _ _ ?_
      clear hK K
      refine wpAny_ready (rs := [36]) (by kernel_rfl) (by simp) ?_
      refine AllReady.cons rfl (fun K hK => ?_) AllReady.nil
      go_simp
      refine hK _ _ ?_
      clear hK K
      refine wpAny_take (i := 37) (v := ?_) rfl (by kernel_rfl) (by kernel_rfl) (by kernel_rfl) (fun _ _ _ h => h) (Or.inl ⟨by rfl, ?_⟩) ?_
      rotate_left 1
      · intro w'
        go_simp
        try with_reducible rfl
      refine wpAny_take (i := 39) (v := ?_) rfl (by kernel_rfl) (by kernel_rfl) (by kernel_rfl) (fun _ _ _ h => h) (Or.inl ⟨by rfl, ?_⟩) ?_
      rotate_left 1
      · intro w'
        go_simp
        try with_reducible rfl
      refine wpAny_ready (rs := [38]) (by kernel_rfl) (by simp) ?_
      refine AllReady.cons rfl (fun K hK => ?_) AllReady.nil
      go_simp
      go_wp2_with (go_at_call 12; refine (HU3.out _).mono ?_; rintro e w9 ⟨rfl, hx⟩; have hx := hx.symm; subst hx)
      try (refine hK _ _ ?_)
      try clear hK K
      refine wpAny_ready (rs := [40]) (by kernel_rfl) (by simp) ?_
      refine AllReady.cons rfl (fun K hK => ?_) AllReady.nil
      go_simp
      refine hK _ _ ?_
      clear hK K
      refine wpAny_ready (rs := [41]) (by kernel_rfl) (by simp) ?_
      refine AllReady.cons rfl (fun K hK => ?_) AllReady.nil
      go_simp
      refine hK _ _ ?_
      clear hK K
      refine wpAny_ready (rs := [42]) (by kernel_rfl) (by simp) ?_
      refine AllReady.cons rfl (fun K hK => ?_) AllReady.nil
      go_simp
      refine hK _ _ ?_
      clear hK K
      refine wpAny_ready (rs := [43]) (by kernel_rfl) (by simp) ?_
      refine AllReady.cons rfl (fun K hK => ?_) AllReady.nil
      go_simp
      go_wp2_with (go_at_call 9; refine (awake_any _).mono ?_; rintro e w10 ⟨rfl, hb10⟩)
      try (refine hK _ _ ?_)
      try clear hK K
      refine wpAny_ready (rs := [44]) (by kernel_rfl) (by simp) ?_
      refine AllReady.cons rfl (fun K hK => ?_) AllReady.nil
      go_simp
      refine hK _ _ ?_
      clear hK K
      refine wpAny_ready (rs := [45]) (by kernel_rfl) (by simp) ?_
      refine AllReady.cons rfl (fun K hK => ?_) AllReady.nil
      go_simp
      refine hK _ _ ?_
      clear hK K
      refine wpAny_done (by kernel_rfl) ?_ _
      go_wp2
      go_ret
      exact ⟨rfl, hw8.trans (hb10.mono hw8.size)⟩

/-! THE ROW's STEP -/
set_option maxRecDepth 100000 in
theorem lifted (os : Os) (started : os.Started) (H : Type) (enc : TypeId × Value → H) :
    ReturnsInHanded {} Try.checked os 4 .any (Rows.bitsVarintsSpec.pre6 enc Try.prog Try.f4 Rows.bitsVarintsRow.domain false) (Rows.bitsVarintsSpec.post enc Try.prog Try.f4 false true false false) := by
  refine returnsInHanded_of_change (C := Try.checked) own started (by kernel_rfl) Try.func4
    (ChangeSpec.witness6 (enc := enc) (C := Try.checked) false ⟨#[], #[.int .u64 0, .string ByteArray.empty, .slice none 0 0], []⟩ 8 (by kernel_rfl) (by kernel_rfl) (by kernel_rfl) (by kernel_rfl)) ?_
  intro W base args ds gs before hval0 hW hcnd _
  have hval : ∀ (j : Nat) t v, Try.f4.params[j]? = some t → args[j]? = some v → Value.okWide Try.prog W .any base t v := hval0
  have hW' := hW
  obtain ⟨p, q, hA0, hV, rfl, hfz, hnd⟩ := hW
  have hA : DataW.TrodAll enc Try.prog W 0 (fun _ => true) true Try.f4.params.toList args.toList ds p := hA0
  rw [Try.params4] at hA hval
  obtain ⟨v0, vs0, d0, ds0, p0, q0, hargs, rfl, rfl, h0, r0⟩ := trodAll_cons hA
  obtain ⟨v1, vs1, d1, ds1, p1, q1, rfl, rfl, rfl, h1, r1⟩ := trodAll_cons r0
  obtain ⟨v2, vs2, d2, ds2, p2, q2, rfl, rfl, rfl, h2, r2⟩ := trodAll_cons r1
  obtain ⟨rfl, rfl, rfl⟩ := trodAll_nil r2
  obtain rfl : args = #[v0, v1, v2] := by cases args; simp_all
  obtain ⟨rfl, rfl⟩ := trodVars_none hV
  obtain ⟨a0, rfl, rfl, rfl, w0⟩ := open_int Try.underlying34 (hval 0 34 v0 rfl rfl) h0
  obtain ⟨a1, rfl, rfl, rfl, w1⟩ := open_string Try.underlying9 (hval 1 9 v1 rfl rfl) h1
  obtain ⟨a2, len2, cap2, rfl⟩ := okWide_slice Try.underlying22 (hval 2 22 v2 rfl rfl)
  have k2 := h2
  have lt2 : ∀ x ∈ p2, x.block < W.heap.size := by obtain ⟨m, hm⟩ := k2; exact DataW.trod_lt m _ _ _ hm
  obtain ⟨z2, w2⟩ : ∃ zs, IsRow .u8 W a2 len2 cap2 zs := by
    obtain ⟨fuel, hf⟩ := h2
    rcases open_ints Try.underlying22 Try.underlying5 (by kernel_rfl) hf with ⟨hcs, _⟩ | ⟨x, l, c, zs, hcs, _, hl, hm, hz, _, hcell, hwz⟩
    · simp [Value.cells] at hcs
      obtain ⟨rfl, rfl, rfl⟩ := hcs
      exact ⟨[], .inl ⟨rfl, rfl, rfl, rfl⟩⟩
    · simp [Value.cells] at hcs
      obtain ⟨rfl, rfl, rfl⟩ := hcs
      exact ⟨zs, .inr ⟨_, rfl, hl, hm, by simpa using hz, hcell, hwz⟩⟩
  clear hA0 hval0
  refine (walk a0 a1 a2 len2 cap2 z2 W w0 w1 w2).mono fun e W' ⟨he, bel⟩ => ?_
  subst he
  exact ⟨_, rfl, _, _, _, [], _, [], hW', trodAll_mk1 (shut_bool Try.underlying4 _), (trodAll_cons_mk (shut_int Try.underlying34 w0) (trodAll_cons_mk (shut_string Try.underlying9 w1) (trodAll_cons_mk (Below.trod laidOut (by kernel_rfl) (of_decide_eq_true (by kernel_rfl)) k2 bel lt2) trodAll_mk0))), rfl, bel.frame _, fun h => by cases h⟩

theorem over : Rows.bitsVarintsRow.holds Try.pinned (OpenSpec.ofChange Rows.bitsVarintsSpec) :=
  OpenClaim.holds_of_wide 4 Try.f4 rfl rfl rfl rfl rfl rfl rfl ⟨rfl, rfl, rfl, rfl, rfl⟩ rfl rfl rfl rfl rfl (by kernel_rfl) Try.func4 (by kernel_rfl)
    (of_decide_eq_true (by kernel_rfl)) (by unfold Func.isWrapper; first | (rw [if_pos (by decide +kernel)]; kernel_rfl) | (rw [if_neg (by decide +kernel)]; exact ⟨rfl, rfl⟩))
    (fun os started H enc _ => lifted os started H enc)

/-- The statement, by the row. -/
theorem proved : Rows.BitsVarintsSaid := over
end Go.Proofs.Ytgkfbnjccfoaiaa.bitsVarints

namespace Go.Proofs.Ytgkfbnjccfoaiaa
/-- THE STATEMENT. -/
theorem bitsVarints_holds : Rows.BitsVarintsSaid := bitsVarints.proved
#print axioms bitsVarints_holds
end Go.Proofs.Ytgkfbnjccfoaiaa
