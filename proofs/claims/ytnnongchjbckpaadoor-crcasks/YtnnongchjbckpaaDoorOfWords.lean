/- crc.OfWords, dolmenref1.OfWords: what one call answers. -/
import Derived.Test.YtnnongchjbckpaaDoorRefSeal
namespace Go.Proofs.YtnnongchjbckpaaDoor
open Go.ChangeShapes Go.WideShapes Go.ChangeAt Go.RowKit Kit
set_option linter.unusedVariables false

/-- The bytes of the first k words. -/
def allW (zs : List Int) (k : Nat) : List Nat := (natB (zs.take k)).flatMap (layN 8)
def allI (zs : List Int) (k : Nat) : List Int := (allW zs k).map fun (b : Nat) => (b : Int)
theorem allW_succ (zs : List Int) (k : Nat) (h : k < zs.length) : allW zs (k + 1) = allW zs k ++ layN 8 (zs.getD k 0).toNat := by
  unfold allW
  rw [natB_take_succ zs k h, List.flatMap_append]; simp
theorem allI_succ (zs : List Int) (k : Nat) (h : k < zs.length) : allI zs (k + 1) = allI zs k ++ layI 8 (zs.getD k 0).toNat := by
  unfold allI; rw [allW_succ zs k h, List.map_append]; rfl
theorem allW_bytes (zs : List Int) (k : Nat) : bytesN (allW zs k) := by
  intro b hb
  simp only [allW, List.mem_flatMap] at hb
  obtain ⟨x, _, hx⟩ := hb
  exact layN_bytes 8 x b hx
theorem allI_in (zs : List Int) (k : Nat) : bytesIn (allI zs k) := by
  intro z hz
  simp only [allI, List.mem_map] at hz
  obtain ⟨b, hb, rfl⟩ := hz
  have := allW_bytes zs k b hb
  omega
theorem natB_allI (zs : List Int) (k : Nat) : natB (allI zs k) = allW zs k := by
  unfold natB allI
  rw [List.map_map]
  conv => rhs; rw [← List.map_id (allW zs k)]
  exact List.map_congr_left fun b hb => by simp
theorem allI_len (zs : List Int) : ∀ k, k ≤ zs.length → (allI zs k).length = 8 * k
  | 0, _ => by simp [allI, allW, natB]
  | k + 1, h => by rw [allI_succ zs k (by omega), List.length_append, allI_len zs k (by omega), layI_len]; omega
theorem nat_of {z : Int} (h : 0 ≤ z) : z = ((z.toNat : Nat) : Int) := by omega

set_option maxRecDepth 4000 in
set_option maxHeartbeats 2000000 in
theorem ofWords_any (v : Value) (zs : List Int) (B : Nat) (w : World) (hv : Vw B w .u64 v zs) (hB : B ≤ w.heap.size) (hb : wordsIn zs) (hT : Tab w) :
    Calls Tryd.prog 13 #[v] w fun e w' => e = .returned (.int .u32 ((cOf (allW zs zs.length) : Nat) : Int)) ∧ Below w.heap.size w w' := by
  have HT : Hid (Tab w) := hT
  have hp := hT.size
  have E0 : sumN 0 (allW zs 0) = 0 := by simp only [allW, natB, List.take_zero, List.map_nil, List.flatMap_nil]; decide
  have S : Hid (SumIs (newSum w) w.heap.size (sumN 0 (allW zs 0))) := by rw [E0]; exact newSum_is w
  clear E0
  have BN : Hid (Below w.heap.size w (newSum w)) := newSum_below w
  have HE : Hid (_ = _) := sumN_zero (allW zs zs.length)
  clear hT
  rcases hv with ⟨rfl, ao, cap, rfl, hnil, _⟩ | ⟨hz, b, off, cap, rfl, h1, h2, h3, h4⟩
  · go_enter Tryd.func13, Tryd.ntmps13
    go_wp2
    go_loopw [9] (fun i wr => i = .int .i64 0 ∧ wr = newSum w) (fun i _ => 0)
    case atStart => exact ⟨rfl, rfl⟩
    case round =>
      obtain ⟨rfl, rfl⟩ := hrel
      go_wp2_with fail
      go_at_call 20
      refine (sum_any w.heap.size _ _ S.out.1).mono ?_
      rintro e w2 ⟨rfl, h⟩
      have h := h.symm
      subst h
      go_wp2
      go_ret
      exact ⟨congrArg (fun t : Nat => Ending.returned (.int .u32 (t : Int))) HE.out, BN.out⟩
  · have HC : Hid (∀ i, i < zs.length → w.cell? ⟨b, off + i, none⟩ = some (.int .u64 (zs.getD i 0))) := h4
    clear h4
    have hcm : (zs.length : Int) ≤ 9223372036854775807 := by unfold maxLen at h2; omega
    have HB : Hid (wordsIn zs) := hb
    clear hb
    have HL : Hid (∀ k, sumN 0 (allW zs k) < 4294967296) := fun k => sumN_lt _ _ (by decide) (allW_bytes zs k)
    have HS : Hid (∀ k, k < zs.length → sumN (sumN 0 (allW zs k)) (layN 8 (zs.getD k 0).toNat) = sumN 0 (allW zs (k + 1))) := fun k hk => by rw [← sumN_append, allW_succ zs k hk]
    generalize hG : (fun k => sumN 0 (allW zs k)) = G at *
    have HG : Hid (∀ k, sumN 0 (allW zs k) = G k) := fun k => by rw [← hG]
    clear hG
    have S2 : Hid (SumIs (newSum w) w.heap.size (G 0)) := by have := S.out; rw [HG.out] at this; exact this
    have HL2 : Hid (∀ k, G k < 4294967296) := fun k => by rw [← HG.out k]; exact HL.out k
    have HS2 : Hid (∀ k, k < zs.length → sumN (G k) (layN 8 (zs.getD k 0).toNat) = G (k + 1)) := fun k hk => by have := HS.out k hk; rw [HG.out, HG.out] at this; exact this
    have HE2 : Hid (G zs.length = cOf (allW zs zs.length)) := by have := HE.out; rw [HG.out] at this; exact this
    clear HL HS HG S HE
    go_enter Tryd.func13, Tryd.ntmps13
    go_wp2
    go_loopw [9] (fun i wr => ∃ k : Nat, k ≤ zs.length ∧ i = .int .i64 k ∧ Hid (SumIs wr w.heap.size (G k) ∧ Below w.heap.size w wr)) (fun i _ => zs.length - (intOf i).toNat)
    case atStart => exact ⟨0, by omega, rfl, S2.out, BN.out⟩
    case round =>
      obtain ⟨k, hk, rfl, HR⟩ := hrel
      by_cases hlt : k < zs.length
      · have hck : wr.cell? ⟨b, off + k, none⟩ = some (.int .u64 (zs.getD k 0)) := (HR.out.2.cell (by show b < _; omega)).trans (HC.out k hlt)
        have HZ : Hid (zs.getD k 0 = (((zs.getD k 0).toNat : Nat) : Int)) := nat_of (wordsIn_get HB.out hlt).1
        have HK : Hid (_ = _) := HS2.out k hlt
        have hl : Hid (G k < 4294967296) := HL2.out k
        generalize zs.getD k 0 = c at *
        go_wp2_with fail
        go_at_call 18
        refine (word_any w.heap.size (G k) hl c _ HZ wr HR.out.1 (HT.out.below HR.out.2 hp) hp).mono ?_
        rintro e w2 ⟨rfl, hS, hg⟩
        rw [HK.out] at hS
        have HR2 : Hid (SumIs w2 w.heap.size (G (k + 1)) ∧ Below w.heap.size w w2) := ⟨hS, HR.out.2.grown hg HR.out.2.size (by simp)⟩
        clear hS hg HR
        go_wp2
        go_roundw
        case rel => exact ⟨k + 1, by omega, by go_num, HR2⟩
        case measure => simp [intOf]; omega
      · have hk2 : k = zs.length := by omega
        subst hk2
        go_wp2_with fail
        go_at_call 20
        refine (sum_any w.heap.size _ wr HR.out.1.1).mono ?_
        rintro e w2 ⟨rfl, h⟩
        have h := h.symm
        subst h
        go_wp2
        go_ret
        exact ⟨congrArg (fun t : Nat => Ending.returned (.int .u32 (t : Int))) HE2.out, HR.out.2⟩

set_option maxRecDepth 4000 in
set_option maxHeartbeats 2000000 in
theorem refWords_any (v : Value) (zs : List Int) (B : Nat) (w : World) (hv : Vw B w .u64 v zs) (hB : B ≤ w.heap.size) (hb : wordsIn zs) (hn : zs.length ≤ 80) :
    Calls Tryd.prog 14 #[v] w fun e w' => e = .returned (.int .u32 ((cOf (allW zs zs.length) : Nat) : Int)) ∧ Below w.heap.size w w' := by
  have HE : Hid (_ = _) := natB_allI zs zs.length
  rcases hv with ⟨rfl, ao, cap, rfl, hnil, _⟩ | ⟨hz, b, off, cap, rfl, h1, h2, h3, h4⟩
  · have V0 : Hid (Vw 0 w .u8 (.slice none 0 0) []) := .inl ⟨rfl, none, 0, rfl, fun _ => rfl, by simp⟩
    have HI : Hid (bytesIn []) := fun z hz => by simp at hz
    go_enter Tryd.func14, Tryd.ntmps14
    go_wp2
    go_loopw [3, 4] (fun b i wr => b = .slice none 0 0 ∧ i = .int .i64 0 ∧ wr = w) (fun _ i _ => 0)
    case atStart => exact ⟨rfl, rfl, rfl⟩
    case round =>
      obtain ⟨rfl, rfl, h⟩ := hrel
      have h := h.symm
      subst h
      go_wp2_with fail
      go_at_call 12
      refine (refOf_any _ [] _ w V0.out HI.out).mono ?_
      rintro e w2 ⟨rfl, h⟩
      have h := h.symm
      subst h
      go_wp2
      go_ret
      exact ⟨rfl, Below.refl _ _⟩
  · have HC : Hid (∀ i, i < zs.length → w.cell? ⟨b, off + i, none⟩ = some (.int .u64 (zs.getD i 0))) := h4
    clear h4
    have HB : Hid (wordsIn zs) := hb
    clear hb
    have HLen : Hid (∀ k, k ≤ zs.length → (allI zs k).length = 8 * k) := allI_len zs
    have HS : Hid (∀ k, k < zs.length → allI zs (k + 1) = allI zs k ++ layI 8 (zs.getD k 0).toNat) := allI_succ zs
    have H8 : Hid (∀ m, (layI 8 m).length = 8) := layI_len 8
    go_enter Tryd.func14, Tryd.ntmps14
    go_wp2
    go_loopw [3, 4] (fun v i wr => ∃ k : Nat, k ≤ zs.length ∧ i = .int .i64 k ∧ Hid (Row wr w.heap.size .u8 5 v (allI zs k) ∧ Below w.heap.size w wr)) (fun _ i _ => zs.length - (intOf i).toNat)
    case atStart => exact ⟨0, by omega, rfl, World.ownsRow_nil _ _ _ _, Below.refl _ _⟩
    case round =>
      obtain ⟨k, hk, rfl, HR⟩ := hrel
      by_cases hlt : k < zs.length
      · have hck : wr.cell? ⟨b, off + k, none⟩ = some (.int .u64 (zs.getD k 0)) := (HR.out.2.cell (by show b < _; omega)).trans (HC.out k hlt)
        have HZ : Hid (zs.getD k 0 = (((zs.getD k 0).toNat : Nat) : Int)) := nat_of (wordsIn_get HB.out hlt).1
        have HK : Hid (_ = _) := HS.out k hlt
        generalize zs.getD k 0 = c at *
        go_wp2_with fail
        go_at_call 19
        refine (lay_any c _ HZ wr).mono ?_
        rintro e w2 ⟨y, rfl, hr2, hb2⟩
        have HY : Hid (Vw w2.heap.size w2 .u8 y (layI 8 c.toNat)) := row_view hr2
        have HR2 : Hid (Row w2 w.heap.size .u8 5 u3 (allI zs k) ∧ Below w.heap.size w w2) := ⟨HR.out.1.below hb2 (fun j hj => HR.out.1.lt j hj), bel2 HR.out.2 hb2⟩
        clear hr2 hb2 HR
        go_wp2_with (first
          | (at_builtin; refine wpList_app Tryd.underlying22 Tryd.info5 (by omega) rfl (.tmp 11) (.tmp 16) rfl w.heap.size _ (allI zs k) rfl HR2.out.1 _ _ (layI 8 c.toNat) rfl HY.out (by rw [HLen.out k hk, H8.out]; omega) HR2.out.2.size ?_; intro v2 w3 hr3 hb3))
        rw [← HK.out] at hr3
        have HR3 : Hid (Row w3 w.heap.size .u8 5 v2 (allI zs (k + 1)) ∧ Below w.heap.size w w3) := ⟨hr3, HR2.out.2.trans hb3⟩
        clear hr3 hb3 HR2
        go_wp2
        go_roundw
        case rel => exact ⟨k + 1, by omega, by go_num, HR3⟩
        case measure => simp [intOf]; omega
      · have hk2 : k = zs.length := by omega
        subst hk2
        have HV : Hid (Vw wr.heap.size wr .u8 u3 (allI zs zs.length)) := row_view HR.out.1
        have HI : Hid (bytesIn (allI zs zs.length)) := allI_in _ _
        go_wp2_with fail
        go_at_call 12
        refine (refOf_any _ (allI zs zs.length) _ wr HV.out HI.out).mono ?_
        rintro e w2 ⟨rfl, h⟩
        have h := h.symm
        subst h
        go_wp2
        go_ret
        exact ⟨congrArg (fun t : List Nat => Ending.returned (.int .u32 ((cOf t : Nat) : Int))) HE.out, HR.out.2⟩
end Go.Proofs.YtnnongchjbckpaaDoor
