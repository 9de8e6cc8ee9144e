/- The document's book: Drop. -/
import Derived.Test.YtbkciencikdacaaRDeath
import Derived.Deep.RegionLaw
namespace Go.Proofs.Ytbkciencikdacaa
open Go.RowKit Kit
set_option linter.unusedVariables false

theorem app_first {W w' : World} {t : TypeId} {n c : Nat} (hg : ((W.alloc (.cells #[] t)).drew).grownBy w' (Value.slice (some ⟨W.heap.size, 0, none⟩) n c).ownBlock) : Below W.heap.size W w' := by
  have hb : Below W.heap.size W (W.alloc (.cells #[] t)).drew := (bel_newG _ _).drew
  exact ⟨hg.os.trans hb.os, hg.tape.trans hb.tape, hg.output.trans hb.output, Nat.le_trans hb.size hg.size, fun k hk => by
    have h2 := hb.size
    rw [hg.block k (by omega) (fun e => by simp [Value.ownBlock] at e; omega), hb.block k hk]⟩
theorem grown_new {w w' : World} {o : Option Nat} (h : Below w.heap.size w w') : w.grownBy w' o := ⟨h.os, h.tape, h.output, h.size, fun k hk _ => h.block k hk⟩
set_option maxRecDepth 4000 in
set_option maxHeartbeats 8000000 in
theorem rdrop_good (q B : Nat) (iv sv : Value) (rs : List Th) (id : Int) (w : World) (h : RBook w q B iv sv rs) (hr : Once rs) (hsm : rs.length ≤ 900) (hn : hasT rs id = true) :
    Calls Try.prog 31 #[.pointer (some ⟨q, 0, none⟩), .int .i64 id] w fun e w' => e = .returned (.int .i64 0) ∧ ∃ iv' sv', RBook w' q B iv' sv' (outT rs id) ∧ TurnF (rfoot q iv sv) (rfoot q iv' sv') w w' := by
  have hl := seat_has.1 hn
  have ho := out_seat hr hl
  have hpl := rplace_yes q B iv sv rs id w h hsm hn
  obtain ⟨k, hk⟩ : ∃ k, k = seatT rs id := ⟨_, rfl⟩
  rw [← hk] at hl ho hpl
  obtain ⟨is, his⟩ : ∃ is, is = rs.map Th.id := ⟨_, rfl⟩
  have hil : is.length = rs.length := by rw [his, List.length_map]
  have h0 : RBk w q B iv sv is rs := by rw [his]; exact h
  obtain ⟨g, cap, hv1, _⟩ := rowE_form h0.ids (by omega)
  obtain ⟨g2, cap2, hv2, _⟩ := rowE_form h0.sps (by omega)
  obtain ⟨n, hn2⟩ : ∃ n, n = rs.length := ⟨_, rfl⟩
  rw [hil, ← hn2] at hv1
  rw [← hn2] at hv2
  subst hv1 hv2
  have HOUT : Hid (is.take k ++ is.drop (k + 1) = (outT rs id).map Th.id ∧ rs.take k ++ rs.drop (k + 1) = outT rs id) := by
    refine ⟨?_, ho.symm⟩
    rw [ho, his, List.map_append, List.map_take, List.map_drop]
  have hcap : n ≤ cap := by
    obtain ⟨_, _, u3, _⟩ := rowE_un h0.ids
    exact u3
  have hcap2 : n ≤ cap2 := by
    obtain ⟨_, _, u3, _⟩ := rowE_un h0.sps
    exact u3
  have hkn : k + 1 ≤ n := by omega
  have HP : Hid (Calls Try.prog 44 #[.pointer (some ⟨q, 0, none⟩), .int .i64 id] w fun e w' => e = .returned (.int .i64 (k : Int)) ∧ w' = w) := hpl
  have H0 : Hid (RBk w q B (.slice (some ⟨g, 0, none⟩) n cap) (.slice (some ⟨g2, 0, none⟩) n cap2) is rs ∧ is.length = n ∧ rs.length = n ∧ n ≤ 900 ∧ k + 1 ≤ n) := ⟨h0, by omega, by omega, by omega, hkn⟩
  have k0 : (0 : Int) ≤ (k : Int) := by omega
  have k1 : (k : Int) ≤ (n : Int) := by omega
  have k2 : (k : Int) + 1 ≤ (n : Int) := by omega
  have k3 : (0 : Int) ≤ (k : Int) + 1 := by omega
  have k4 : (k : Int) ≤ (cap : Int) := by omega
  have k5 : (n : Int) ≤ (cap : Int) := by omega
  have k6 : (k : Int) ≤ (cap2 : Int) := by omega
  have k7 : (n : Int) ≤ (cap2 : Int) := by omega
  have k8 : (n : Int) ≤ 900 := by omega
  have k9 : IntKind.i64.wrap ((k : Int) + 1) = (k : Int) + 1 := by rw [IntKind.wrap_i64]; omega
  have k10 : ((k : Int) + 1).toNat = k + 1 := by omega
  have q0 : w.cell? ⟨q, 0, none⟩ = some (.slice (some ⟨g, 0, none⟩) n cap) := blk_cell h0.cell rfl
  have hql : q < w.heap.size := blk_lt h0.cell
  obtain ⟨A, hA, HA⟩ := from_seesE h0.ids (k + 1) hkn
  have hA : (if cap = k + 1 then some (⟨g, 0, none⟩ : Addr) else some ⟨g, k + 1, none⟩) = some A := by simpa [inE] using hA
  clear h hr hsm hn hl ho hpl hk his hil h0 hn2 hcap hcap2 hkn
  go_enter Try.func31, Try.ntmps31
  go_upto_region 4 with (go_at_call 44; refine HP.out.mono ?_; rintro e w9 ⟨rfl, hw9⟩; subst w9)
  have HO1 : Hid (RowE inE (w.alloc (.cells #[] 3)).drew w.heap.size 3 (.slice (some ⟨w.heap.size, 0, none⟩) 0 0) []) := rowE_empty inE w 3 w.heap.size _ rfl (Nat.le_refl _)
  have HS1 : Hid (SeesE inE (w.alloc (.cells #[] 3)).drew (.slice (some ⟨g, 0, none⟩) k cap) (is.take k)) := (H0.out.1.ids.sees.take k (by have := H0.out.2.1; have := H0.out.2.2.1; have := H0.out.2.2.2.2; omega)).below ((bel_newG _ _).drew)
  have HL1 : Hid (([] : List Int).length + (is.take k).length ≤ maxLen ∧ (([] : List Int).length + (is.take k).length) * 8 ≤ 140737488355328 ∧ w.heap.size ≤ (w.alloc (.cells #[] 3)).drew.heap.size ∧ k = (([] : List Int) ++ is.take k).length ∧ (([] : List Int) ++ is.take k).length + (is.drop (k + 1)).length ≤ maxLen ∧ ((([] : List Int) ++ is.take k).length + (is.drop (k + 1)).length) * 8 ≤ 140737488355328) := by
    have h1 := H0.out.2.1
    have h2 := H0.out.2.2.1
    have h3 := H0.out.2.2.2
    have e1 : (is.take k).length = k := by rw [List.length_take]; omega
    have e2 : (is.drop (k + 1)).length = n - (k + 1) := by rw [List.length_drop]; omega
    rw [List.nil_append, e1, e2]
    refine ⟨?_, ?_, ((bel_newG w _).drew).size, rfl, ?_, ?_⟩ <;> (try simp only [List.length_nil]) <;> (try unfold maxLen) <;> omega
  have HD1 : Hid (n - (k + 1) = (is.drop (k + 1)).length) := by
    have h1 := H0.out.2.1
    have h2 := H0.out.2.2.1
    show _ = _
    rw [List.length_drop]; omega
  go_cut [5] from 6 to 29 (fun s5 wx => s5 = .int .i64 (k : Int) ∧ ∃ a4 n4 c4, Hid (RBk wx q B (.slice a4 n4 c4) (.slice (some ⟨g2, 0, none⟩) n cap2) (is.take k ++ is.drop (k + 1)) rs ∧ TurnF (rfoot q (.slice (some ⟨g, 0, none⟩) n cap) (.slice (some ⟨g2, 0, none⟩) n cap2)) (rfoot q (.slice a4 n4 c4) (.slice (some ⟨g2, 0, none⟩) n cap2)) w wx))
  case first =>
    go_region_law (first
      | (refine step_appE (E := inE) Try.underlying23 infoI9 rfl (by rfl) (.tmp 12) (.tmp 18) (by rfl) w.heap.size (.slice (some ⟨w.heap.size, 0, none⟩) 0 0) [] (by rfl) HO1.out (.slice (some ⟨g, 0, none⟩) k cap) (is.take k) (by rfl) HS1.out HL1.out.1 HL1.out.2.1 HL1.out.2.2.1 ?_; intro v3 w3 x1 x2; have HB3 : Hid (Below w.heap.size w w3) := app_first x2; obtain ⟨a3, c3, hv3⟩ := x1.sees.form; rw [← HL1.out.2.2.2.1] at hv3; subst hv3; have HR3 : Hid (RowE inE w3 w.heap.size 3 (.slice a3 k c3) (([] : List Int) ++ is.take k)) := x1; have HS3 : Hid (SeesE inE w3 (.slice (some A) (n - (k + 1)) (cap - (k + 1))) (is.drop (k + 1))) := (HA.out.below HB3.out); have p0 : w3.cell? ⟨q, 0, none⟩ = some (.slice (some ⟨g, 0, none⟩) n cap) := (HB3.out.cell (by exact hql)).trans q0; have l3 : q < w3.heap.size := cell_lt9 p0; clear x1 x2)
      | (refine step_appE (E := inE) Try.underlying23 infoI9 rfl (by rfl) (.tmp 19) (.tmp 26) (by rfl) w.heap.size (.slice a3 k c3) (([] : List Int) ++ is.take k) (by rfl) HR3.out (.slice (some A) (n - (k + 1)) (cap - (k + 1))) (is.drop (k + 1)) (by first | rfl | (simp [Act.eval, Act.put]; done)) (by first | exact HS3.out | (rw [← HD1.out]; exact HS3.out)) HL1.out.2.2.2.2.1 HL1.out.2.2.2.2.2 HB3.out.size ?_; intro v4 w4 x1 x2; have HB4 : Hid (Below w.heap.size w w4) := (row_kept HR3.out (Below.refl _ _) x2).2 HB3.out HB3.out.size; obtain ⟨a4, c4, hv4⟩ := x1.sees.form; obtain ⟨n4, hn4⟩ : ∃ z, z = (([] : List Int) ++ is.take k ++ is.drop (k + 1)).length := ⟨_, rfl⟩; rw [← hn4] at hv4; clear hn4; subst hv4; have HK4 : Hid (RowE inE w4 w.heap.size 3 (.slice a4 n4 c4) (is.take k ++ is.drop (k + 1))) := x1; have q4 : w4.cell? ⟨q, 0, none⟩ = some (.slice (some ⟨g, 0, none⟩) n cap) := (HB4.out.cell (by exact hql)).trans q0; have l4 : q < w4.heap.size := cell_lt9 q4; have f4 : w4.frozen? ⟨q, 0, none⟩ = false := blk_frozen (blk_below HB4.out H0.out.1.cell) 0; clear x1 x2))
    all_goals (
      go_wp2_with fail
      go_meet
      case rel => exact ⟨by first | rfl | simp, _, _, _, rbk_ids H0.out.1 (grown_new HB4.out) (HK4.out.mono H0.out.1.low) (fun j hj => .inr (HK4.out.block j hj))⟩)
  case rest =>
    obtain ⟨rfl, a4, n4, c4, H1⟩ := hcut
    clear HO1 HS1 HL1 HD1 hA HA q0 hql
    have q0 : wc.cell? ⟨q, 1, none⟩ = some (.slice (some ⟨g2, 0, none⟩) n cap2) := blk_cell H1.out.1.cell rfl
    have hql : q < wc.heap.size := blk_lt H1.out.1.cell
    obtain ⟨A2, hA2, HA2⟩ := from_seesE H1.out.1.sps (k + 1) H0.out.2.2.2.2
    have hA2 : (if cap2 = k + 1 then some (⟨g2, 0, none⟩ : Addr) else some ⟨g2, (k + 1) * 2, none⟩) = some A2 := by simpa [spE] using hA2
    go_upto_region 5 with fail
    have HO2 : Hid (RowE spE (wc.alloc (.cells #[] 25)).drew wc.heap.size 25 (.slice (some ⟨wc.heap.size, 0, none⟩) 0 0) []) := rowE_empty spE wc 25 wc.heap.size _ rfl (Nat.le_refl _)
    have HS2 : Hid (SeesE spE (wc.alloc (.cells #[] 25)).drew (.slice (some ⟨g2, 0, none⟩) k cap2) (rs.take k)) := (H1.out.1.sps.sees.take k (by have := H0.out.2.1; have := H0.out.2.2.1; have := H0.out.2.2.2.2; omega)).below ((bel_newG _ _).drew)
    have HL2 : Hid (([] : List Th).length + (rs.take k).length ≤ maxLen ∧ (([] : List Th).length + (rs.take k).length) * 16 ≤ 140737488355328 ∧ wc.heap.size ≤ (wc.alloc (.cells #[] 25)).drew.heap.size ∧ k = (([] : List Th) ++ rs.take k).length ∧ (([] : List Th) ++ rs.take k).length + (rs.drop (k + 1)).length ≤ maxLen ∧ ((([] : List Th) ++ rs.take k).length + (rs.drop (k + 1)).length) * 16 ≤ 140737488355328) := by
      have h1 := H0.out.2.1
      have h2 := H0.out.2.2.1
      have h3 := H0.out.2.2.2
      have e1 : (rs.take k).length = k := by rw [List.length_take]; omega
      have e2 : (rs.drop (k + 1)).length = n - (k + 1) := by rw [List.length_drop]; omega
      rw [List.nil_append, e1, e2]
      refine ⟨?_, ?_, ((bel_newG wc _).drew).size, rfl, ?_, ?_⟩ <;> (try simp only [List.length_nil]) <;> (try unfold maxLen) <;> omega
    have HD2 : Hid (n - (k + 1) = (rs.drop (k + 1)).length) := by
      have h1 := H0.out.2.1
      have h2 := H0.out.2.2.1
      show _ = _
      rw [List.length_drop]; omega
    go_region_law (first
      | (refine step_appE (E := spE) Try.underlying30 infoSp rfl (by rfl) (.tmp 31) (.tmp 37) (by rfl) wc.heap.size (.slice (some ⟨wc.heap.size, 0, none⟩) 0 0) [] (by rfl) HO2.out (.slice (some ⟨g2, 0, none⟩) k cap2) (rs.take k) (by rfl) HS2.out HL2.out.1 HL2.out.2.1 HL2.out.2.2.1 ?_; intro v3 w3 x1 x2; have HB3 : Hid (Below wc.heap.size wc w3) := app_first x2; obtain ⟨a3, c3, hv3⟩ := x1.sees.form; rw [← HL2.out.2.2.2.1] at hv3; subst hv3; have HR3 : Hid (RowE spE w3 wc.heap.size 25 (.slice a3 k c3) (([] : List Th) ++ rs.take k)) := x1; have HS3 : Hid (SeesE spE w3 (.slice (some A2) (n - (k + 1)) (cap2 - (k + 1))) (rs.drop (k + 1))) := (HA2.out.below HB3.out); have p0 : w3.cell? ⟨q, 1, none⟩ = some (.slice (some ⟨g2, 0, none⟩) n cap2) := (HB3.out.cell (by exact hql)).trans q0; have l3 : q < w3.heap.size := cell_lt9 p0; clear x1 x2)
      | (refine step_appE (E := spE) Try.underlying30 infoSp rfl (by rfl) (.tmp 38) (.tmp 45) (by rfl) wc.heap.size (.slice a3 k c3) (([] : List Th) ++ rs.take k) (by rfl) HR3.out (.slice (some A2) (n - (k + 1)) (cap2 - (k + 1))) (rs.drop (k + 1)) (by first | rfl | (simp [Act.eval, Act.put]; done)) (by first | exact HS3.out | (rw [← HD2.out]; exact HS3.out)) HL2.out.2.2.2.2.1 HL2.out.2.2.2.2.2 HB3.out.size ?_; intro v4 w4 x1 x2; have HB4 : Hid (Below wc.heap.size wc w4) := (row_kept HR3.out (Below.refl _ _) x2).2 HB3.out HB3.out.size; obtain ⟨a4, c4, hv4⟩ := x1.sees.form; obtain ⟨n4, hn4⟩ : ∃ z, z = (([] : List Th) ++ rs.take k ++ rs.drop (k + 1)).length := ⟨_, rfl⟩; rw [← hn4] at hv4; clear hn4; subst hv4; have HK4 : Hid (RowE spE w4 wc.heap.size 25 (.slice a4 n4 c4) (rs.take k ++ rs.drop (k + 1))) := x1; have q4 : w4.cell? ⟨q, 1, none⟩ = some (.slice (some ⟨g2, 0, none⟩) n cap2) := (HB4.out.cell (by exact hql)).trans q0; have l4 : q < w4.heap.size := cell_lt9 q4; have f4 : w4.frozen? ⟨q, 1, none⟩ = false := blk_frozen (blk_below HB4.out H1.out.1.cell) 1; clear x1 x2))
    all_goals (
      go_wp2_with fail
      go_ret
      obtain ⟨s1, s2⟩ := rbk_sps H1.out.1 (grown_new HB4.out) (HK4.out.mono H1.out.1.low) (fun j hj => .inr (HK4.out.block j hj))
      refine ⟨rfl, _, _, ?_, H1.out.2.trans s2⟩
      rw [HOUT.out.1, HOUT.out.2] at s1
      exact s1)
end Go.Proofs.Ytbkciencikdacaa
