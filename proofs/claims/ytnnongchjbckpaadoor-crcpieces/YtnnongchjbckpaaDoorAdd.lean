/- (*crc.Sum).Add, (*crc.Sum).Sum: what one call answers. -/
import Derived.Test.YtnnongchjbckpaaDoorNib
namespace Go.Proofs.YtnnongchjbckpaaDoor
open Go.ChangeShapes Go.WideShapes Go.ChangeAt Go.RowKit Kit
set_option linter.unusedVariables false

/-- Bytes as Nat. -/
def natB (zs : List Int) : List Nat := zs.map Int.toNat
theorem natB_bytes {zs : List Int} (h : bytesIn zs) : bytesN (natB zs) := by
  intro b hb
  simp only [natB, List.mem_map] at hb
  obtain ⟨z, hz, rfl⟩ := hb
  have := h z hz
  omega
theorem natB_take_succ (zs : List Int) (k : Nat) (h : k < zs.length) : natB (zs.take (k + 1)) = natB (zs.take k) ++ [(zs.getD k 0).toNat] := by
  unfold natB
  rw [List.take_succ_eq_append_getElem h, List.map_append]
  simp [List.getD, h]
/-- A sum that goes on. -/
def inv (t : Nat) : Nat := t ^^^ 4294967295
def sumN (t : Nat) (l : List Nat) : Nat := inv (cReg (inv t) l)
theorem notV (t : Nat) (h : t < 4294967296) : bits .xor .u32 IntKind.u32.max (t : Int) = ((inv t : Nat) : Int) := by
  have e : IntKind.u32.max = ((4294967295 : Nat) : Int) := by decide
  rw [e, u32_xor_nat _ _ (by omega) h, Nat.xor_comm]; rfl
theorem xor32_lt (t : Nat) (h : t < 4294967296) : inv t < 4294967296 := xor_lt (n := 32) h (by omega)
theorem inv_inv (t : Nat) : inv (inv t) = t := by unfold inv; rw [Nat.xor_assoc, Nat.xor_self, Nat.xor_zero]
theorem sumN_lt (t : Nat) (l : List Nat) (h : t < 4294967296) (hl : bytesN l) : sumN t l < 4294967296 := xor32_lt _ (cReg_lt l (xor32_lt t h) hl)
theorem sumN_append (t : Nat) (l m : List Nat) : sumN t (l ++ m) = sumN (sumN t l) m := by
  unfold sumN
  rw [cReg_append, inv_inv]
theorem sumN_zero (l : List Nat) : sumN 0 l = cOf l := by unfold sumN cOf inv; rw [Nat.zero_xor]

set_option maxHeartbeats 400000 in
theorem sum_nil (w : World) : Calls Tryd.prog 20 #[.pointer none] w fun e w' => e = .returned (.int .u32 0) ∧ w' = w := by
  go_enter Tryd.func20, Tryd.ntmps20
  go_wp2
  go_ret
  exact ⟨rfl, rfl⟩
set_option maxHeartbeats 400000 in
theorem sum_any (p : Nat) (t : Int) (w : World) (hs : w.cell? ⟨p, 0, none⟩ = some (.int .u32 t)) : Calls Tryd.prog 20 #[.pointer (some ⟨p, 0, none⟩)] w fun e w' => e = .returned (.int .u32 t) ∧ w' = w := by
  go_enter Tryd.func20, Tryd.ntmps20
  go_wp2
  go_ret
  exact ⟨rfl, rfl⟩
set_option maxHeartbeats 400000 in
theorem add_nil (v : Value) (w : World) : Calls Tryd.prog 17 #[.pointer none, v] w fun e w' => e = .returned (.pointer none) ∧ w' = w := by
  go_enter Tryd.func17, Tryd.ntmps17
  go_wp2
  go_ret
  exact ⟨rfl, rfl⟩

theorem xor_byte (a : Nat) (c : Int) (ha : (a : Int) < 4294967296) (h0 : 0 ≤ c) (h1 : c < 256) : bits .xor .u32 (a : Int) c = ((a ^^^ c.toNat : Nat) : Int) := by
  have e : c = ((c.toNat : Nat) : Int) := by omega
  conv => lhs; rw [e]
  exact u32_xor_nat _ _ (by omega) (by omega)

set_option maxRecDepth 4000 in
set_option maxHeartbeats 2000000 in
theorem add_any (p t : Nat) (ht : Hid (t < 4294967296)) (v : Value) (zs : List Int) (B : Nat) (w : World) (hv : Vw B w .u8 v zs) (hb : bytesIn zs) (hs : w.cell? ⟨p, 0, none⟩ = some (.int .u32 (t : Int))) (hf : w.frozen? ⟨p, 0, none⟩ = false) (hT : Tab w) :
    Calls Tryd.prog 17 #[.pointer (some ⟨p, 0, none⟩), v] w fun e w' => e = .returned (.pointer (some ⟨p, 0, none⟩)) ∧ w' = w.setCell ⟨p, 0, none⟩ (.int .u32 ((sumN t (natB zs) : Nat) : Int)) := by
  have HT : Hid (Tab w) := hT
  clear hT
  have hn := notV t ht
  rcases hv with ⟨rfl, ao, cap, rfl, hnil, _⟩ | ⟨hz, b, off, cap, rfl, h1, h2, h3, h4⟩
  · have hn2 := notV (inv t) (xor32_lt t ht)
    have HE : Hid (sumN t (natB []) = inv (inv t)) := rfl
    go_enter Tryd.func17, Tryd.ntmps17
    go_wp2
    go_loop [5, 17] (fun l i => l = .int .u32 ((inv t : Nat) : Int) ∧ i = .int .i64 0) (fun _ i => 0)
    case atStart => exact ⟨rfl, rfl⟩
    case round =>
      obtain ⟨rfl, rfl⟩ := hrel
      go_wp2
      go_ret
      exact ⟨rfl, by rw [HE.out]⟩
  · have HC : Hid (∀ i, i < zs.length → w.cell? ⟨b, off + i, none⟩ = some (.int .u8 (zs.getD i 0))) := h4
    clear h4
    have hcm : (zs.length : Int) ≤ 9223372036854775807 := by unfold maxLen at h2; omega
    have HB : Hid (bytesIn zs) := hb
    clear hb
    have HL : Hid (∀ k, cReg (inv t) (natB (zs.take k)) < 4294967296) := fun k => cReg_lt _ (xor32_lt t ht) (natB_bytes (bytesIn_take HB.out k))
    go_enter Tryd.func17, Tryd.ntmps17
    go_wp2
    go_loop [5, 17] (fun l i => ∃ k : Nat, k ≤ zs.length ∧ l = .int .u32 ((cReg (inv t) (natB (zs.take k)) : Nat) : Int) ∧ i = .int .i64 k) (fun _ i => zs.length - (intOf i).toNat)
    case atStart => exact ⟨0, by omega, rfl, rfl⟩
    case round =>
      obtain ⟨k, hk, rfl, rfl⟩ := hrel
      clear hn
      have hlk : Hid (_ < 4294967296) := HL.out k
      by_cases hlt : k < zs.length
      · have hck := HC.out k hlt
        have hbk := bytesIn_get HB.out hlt
        obtain ⟨c0, c1⟩ := hbk
        have HK : Hid (cReg (inv t) (natB (zs.take (k + 1))) = cSteps 4 (cSteps 4 (cReg (inv t) (natB (zs.take k)) ^^^ (zs.getD k 0).toNat))) := by
          show _ = _
          rw [natB_take_succ zs k hlt, cReg_append, cReg_cons, cByte_two]; rfl
        have hx := xor_byte (cReg (inv t) (natB (zs.take k))) (zs.getD k 0) (by have := hlk.out; omega) c0 c1
        have hX : Hid (cReg (inv t) (natB (zs.take k)) ^^^ (zs.getD k 0).toNat < 4294967296) := xor_lt (n := 32) hlk.out (by omega)
        generalize hc : zs.getD k 0 = c at *
        generalize hR : cReg (inv t) (natB (zs.take k)) = R at *
        have HR : Hid (_ = _) := hR
        have HCC : Hid (_ = _) := hc
        clear hR hc
        generalize hY : R ^^^ c.toNat = Y at *
        clear hY
        have hY2 : Hid (cSteps 4 Y < 4294967296) := cSteps_lt' 4 Y hX
        go_wp2_with (go_at_call 23; refine (nib_any _ (by assumption) _ HT.out).mono ?_; rintro e w' ⟨rfl, h⟩; have h := h.symm; subst h)
        go_roundw
        case rel => exact ⟨k + 1, by omega, by rw [HK.out], by go_num⟩
        case measure => simp [intOf]; omega
      · have hk2 : k = zs.length := by omega
        subst hk2
        have hn2 := notV (cReg (inv t) (natB zs)) (by have := hlk.out; rwa [List.take_length] at this)
        clear hlk
        rw [List.take_length]
        have HE : Hid (sumN t (natB zs) = inv (cReg (inv t) (natB zs))) := rfl
        go_wp2
        go_ret
        exact ⟨rfl, by rw [HE.out]⟩
end Go.Proofs.YtnnongchjbckpaaDoor
