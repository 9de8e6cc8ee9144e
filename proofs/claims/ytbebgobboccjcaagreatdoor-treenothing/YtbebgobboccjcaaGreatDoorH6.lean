/- Several texts in one: TFile TRename. -/
import Derived.Test.YtbebgobboccjcaaGreatDoorPTFileR
import Derived.Test.YtbebgobboccjcaaGreatDoorPTFileW
import Derived.Test.YtbebgobboccjcaaGreatDoorPTFileC
import Derived.Test.YtbebgobboccjcaaGreatDoorPTRenR
import Derived.Test.YtbebgobboccjcaaGreatDoorPTRenZ
import Derived.Test.YtbebgobboccjcaaGreatDoorPTRenN
import Derived.Test.YtbebgobboccjcaaGreatDoorPTRenS
namespace Go.Proofs.YtbebgobboccjcaaGreatDoor
open Go.RowKit Kit
set_option linter.unusedVariables false

theorem file_any5 (v ov : Value) (t : TreeB) (o : OpB) (w : World) (hT : TreeAt w v t) (hg : Good t) (ho : OpAt w ov o) (hk : o.kind = 7 ∨ o.kind = 8 ∨ o.kind = 9) :
 Calls Tryz.prog 52 #[v, ov] w fun e w' => ∃ tv rv, e = .returned (.tuple #[tv, rv, .int .i64 (fileB t o).2.2]) ∧ TreeAt w' tv (fileB t o).1 ∧ ReplyAt w' rv (fileB t o).2.1 ∧ Below w.heap.size w w' := by
 rcases hk with h | h | h
 · exact file_read5 v ov t o w hT hg ho h
 · exact file_write5 v ov t o w hT hg ho h
 · exact file_cut5 v ov t o w hT hg ho h
end Go.Proofs.YtbebgobboccjcaaGreatDoor
namespace Go.Proofs.YtbebgobboccjcaaGreatDoor
open Go.RowKit Kit
set_option linter.unusedVariables false

theorem rename_any5 (v ov : Value) (t : TreeB) (o : OpB) (w : World) (hT : TreeAt w v t) (hg : Good t) (ho : OpAt w ov o) :
 Calls Tryz.prog 50 #[v, ov] w fun e w' => ∃ tv rv, e = .returned (.tuple #[tv, rv, .int .i64 (renameB t o).2.2]) ∧ TreeAt w' tv (renameB t o).1 ∧ ReplyAt w' rv (renameB t o).2.1 ∧ Below w.heap.size w w' := by
 by_cases hpa : (parentB o.path).2.2 = 0
 · by_cases hpt : (parentB o.to).2.2 = 0
   · cases hfk : findB t o.path with
     | error x => exact rename_r3 v ov t o w hT hg ho hpa hpt x hfk
     | ok k =>
       by_cases hlo : (nodeAt t k).kind = 2 ∧ o.to ≠ o.path ∧ underB o.to o.path = true
       · exact rename_r4 v ov t o w hT hg ho hpa hpt k hfk hlo.1 hlo.2.1 hlo.2.2
       · cases hht : homeB t o.to with
         | error x => exact rename_r5 v ov t o w hT hg ho hpa hpt k hfk hlo x hht
         | ok ds =>
           obtain ⟨d, s⟩ := ds
           obtain ⟨p, old, l, hhp, _⟩ := find_home hg.e hpa hfk
           by_cases hz : nameB (nodeAt t d) s = 0
           · exact rename_z v ov t o w hT hg ho k d p s old hpa hpt hfk hlo hht hhp hz
           · have hdl : d < t.nodes.length := (home_ok hg.e (p := o.to) (d := d) (s := s) hht).1
             obtain ⟨j, hj⟩ : ∃ j, placeO t (nameB (nodeAt t d) s) = some j := by
              have ok := hg.e.each _ (nodeAt_mem hdl)
              obtain ⟨_, i, hi, hsi, hv⟩ := nameB_some ok.len hz
              have hcm : nameB (nodeAt t d) s ∈ (nodeAt t d).inos := by rw [← hv]; exact List.getElem_mem _
              obtain ⟨hc1, m, hm, hmi⟩ := hg.e.leads _ (nodeAt_mem hdl) _ hcm
              obtain ⟨y, hy⟩ := placeO_of hm
              rw [hmi] at hy
              exact ⟨y, hy⟩
             have hkk := hg.e.fair.kind (nodeAt_mem (find_ok hg.e hfk).2.2)
             have hjk := hg.e.fair.kind (nodeAt_mem (placeO_some hj).1)
             by_cases hzi : nameB (nodeAt t d) s = (nodeAt t k).ino
             · exact rename_n v ov t o w hT hg ho k d p s old hpa hpt hfk hlo hht hhp j hz hj 0 (.inl ⟨hzi, rfl⟩)
             · by_cases h1 : (nodeAt t k).kind = 2 ∧ (nodeAt t j).kind = 1
               · exact rename_n v ov t o w hT hg ho k d p s old hpa hpt hfk hlo hht hhp j hz hj 8 (.inr (.inl ⟨hzi, h1.1, h1.2, rfl⟩))
               · by_cases h2 : (nodeAt t k).kind = 1 ∧ (nodeAt t j).kind = 2
                 · exact rename_n v ov t o w hT hg ho k d p s old hpa hpt hfk hlo hht hhp j hz hj 7 (.inr (.inr (.inl ⟨hzi, h2.1, h2.2, rfl⟩)))
                 · by_cases h3 : 0 < (nodeAt t j).names.length
                   · exact rename_n v ov t o w hT hg ho k d p s old hpa hpt hfk hlo hht hhp j hz hj 9 (.inr (.inr (.inr ⟨hzi, by omega, h3, rfl⟩)))
                   · exact rename_s v ov t o w hT hg ho k d p s old hpa hpt hfk hlo hht hhp j hz hj hzi h1 h2 (by omega)
   · exact rename_r2 v ov t o w hT hg ho hpa _ rfl hpt
 · exact rename_r1 v ov t o w hT hg ho _ rfl hpa _ rfl
end Go.Proofs.YtbebgobboccjcaaGreatDoor
