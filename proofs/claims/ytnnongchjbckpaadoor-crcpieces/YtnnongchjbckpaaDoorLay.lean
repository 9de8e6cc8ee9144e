/- dolmenref1.Lay: what one call answers. -/
import Derived.Test.YtnnongchjbckpaaDoorRefOf
import Derived.Test.YtnnongchjbckpaaDoorHalf
namespace Go.Proofs.YtnnongchjbckpaaDoor
open Go.ChangeShapes Go.WideShapes Go.ChangeAt Go.RowKit Kit
set_option linter.unusedVariables false

theorem Tryd.info5 : (Tryd.prog.info? 5).map (fun i => (i.zero, i.size, i.bytes)) = some (some (.int .u8 0), 1, 1) := by kernel_rfl
def layI (n v : Nat) : List Int := (layN n v).map fun (b : Nat) => (b : Int)
theorem layI_len (n v : Nat) : (layI n v).length = n := by simp [layI, layN_len]
theorem layI_in (n v : Nat) : bytesIn (layI n v) := by
  intro z hz
  simp only [layI, List.mem_map] at hz
  obtain ⟨b, hb, rfl⟩ := hz
  have := layN_bytes n v b hb
  omega
theorem natB_layI (n v : Nat) : natB (layI n v) = layN n v := by
  unfold natB layI
  rw [List.map_map]
  conv => rhs; rw [← List.map_id (layN n v)]
  exact List.map_congr_left fun b hb => by simp
theorem layN_succ : ∀ (n v : Nat), layN (n + 1) v = layN n v ++ [v / 256 ^ n % 256]
  | 0, v => by simp [layN]
  | n + 1, v => by
    have := layN_succ n (v / 256)
    rw [show layN (n + 1 + 1) v = v % 256 :: layN (n + 1) (v / 256) from rfl, this]
    rw [Nat.div_div_eq_div_mul, Nat.pow_succ, Nat.mul_comm (256 ^ n) 256]; rfl
theorem layI_succ (n v : Nat) : layI (n + 1) v = layI n v ++ [((v / 256 ^ n % 256 : Nat) : Int)] := by unfold layI; rw [layN_succ, List.map_append]; rfl

theorem lay_byte (n k : Nat) : (n : Int) / 2 ^ (8 * k) % 256 = ((n / 256 ^ k % 256 : Nat) : Int) := by
  have e : (2 : Int) ^ (8 * k) = ((256 ^ k : Nat) : Int) := by
    rw [Int.pow_mul]; simp
  rw [e]; simp
set_option maxRecDepth 4000 in
set_option maxHeartbeats 2000000 in
theorem lay_any (x : Int) (n : Nat) (hx : Hid (x = (n : Int))) (w : World) :
    Calls Tryd.prog 19 #[.int .u64 x] w fun e w' => ∃ v, e = .returned v ∧ Row w' w.heap.size .u8 5 v (layI 8 n) ∧ Below w.heap.size w w' := by
  have hx2 := hx.out
  clear hx
  subst hx2
  go_enter Tryd.func19, Tryd.ntmps19
  go_wp2
  go_loopw [3, 4] (fun v i wr => ∃ k : Nat, k ≤ 8 ∧ i = .int .i64 k ∧ Row wr w.heap.size .u8 5 v (layI k n) ∧ Below w.heap.size w wr) (fun _ i _ => 8 - (intOf i).toNat)
  case atStart => exact ⟨0, by omega, rfl, World.ownsRow_nil _ _ _ _, Below.refl _ _⟩
  case round =>
    obtain ⟨k, hk, rfl, hrow, hbel⟩ := hrel
    have hs := hbel.size
    have HL : Hid (_ = _) := layI_len k n
    by_cases hlt : k < 8
    · have HV : Hid ((n : Int) / 2 ^ (8 * k) % 256 = ((n / 256 ^ k % 256 : Nat) : Int)) := lay_byte n k
      have HS : Hid (_ = _) := layI_succ k n
      go_wp2_with (first
        | (at_builtin; refine wpList_app Tryd.underlying22 Tryd.info5 (by omega) rfl (.tmp 9) (.tmp 15) rfl w.heap.size _ (layI k n) rfl (hrow.alloc _) _ _ [_] rfl (view_one _ _ _ _ wr.heap.size rfl) (by rw [HL.out]; simp; omega) (by simp; omega) ?_; intro v2 w2 hr2 hb2))
      have hb3 : Below w.heap.size w w2 := (hbel.alloc hs _).trans hb2
      rw [HV.out, ← HS.out] at hr2
      go_roundw
      case rel => exact ⟨k + 1, by omega, by go_num, hr2, hb3⟩
      case measure => simp [intOf]; omega
    · have hk8 : k = 8 := by omega
      subst hk8
      go_wp2
      go_ret
      exact ⟨_, rfl, hrow, hbel⟩
end Go.Proofs.YtnnongchjbckpaaDoor
