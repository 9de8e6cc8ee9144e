/- dolmenref5.with: what one call answers. -/
import Derived.Test.YtbebgobboccjcaaGreatDoorH4
namespace Go.Proofs.YtbebgobboccjcaaGreatDoor
open Go.RowKit Kit
set_option linter.unusedVariables false

theorem own_len {w : World} {base n m : Nat} {e : TypeId} {v : Value} {xs : List Value} (h : w.ownsRow base e 1 v n xs) (hn : n = m) : w.ownsRow base e 1 v m xs := hn ▸ h
theorem new_cell (w : World) (v : Value) (t : TypeId) : (w.alloc (.cells #[v] t)).cell? ⟨w.heap.size, 0, none⟩ = some v := by simp
set_option maxRecDepth 4000 in
set_option maxHeartbeats 32000000 in
theorem with_any (f : FN) (s : ByteArray) (i : Int) (w : World) (h : f.is w) (hl : f.n.names.length = f.n.inos.length) (hsm : f.n.names.length ≤ 1000000) :
 Calls Tryz.prog 86 #[f.val, .string s, .int .i64 i] w fun e w' => ∃ X Y, e = .returned (.agg #[.int .i64 f.n.ino, .int .i64 f.n.kind, .slice none 0 0, X, Y]) ∧ FN.is w' ⟨withB f.n s i, .slice none 0 0, X, Y⟩ ∧ Fresh w.heap.size X ∧ Fresh w.heap.size Y ∧ Below w.heap.size w w' := by
 obtain ⟨⟨ino, kind, data, names, inos⟩, d, m, iv⟩ := f
 obtain ⟨_, hm, hi⟩ := h
 unfold FN.val
 simp only at hm hi hl hsm ⊢
 obtain ⟨mo, mc, rfl, h1, h2, h3, h4⟩ := hm
 obtain ⟨io, ic, rfl, k1, k2, k3, k4⟩ := hi
 rw [strs_len] at h1 h4 ⊢
 rw [intsV_len] at k1 k4 ⊢
 have lm : (names.length : Int) ≤ 1000000 := by omega
 have H4 : Hid (_ → _) := h4
 have K4 : Hid (_ → _) := k4
 have HL : Hid (names.length = inos.length) := hl
 have HLIM : Hid (∀ n, n ≤ names.length + 3 → ∀ b, b ≤ 16 → n + 1 ≤ maxLen ∧ (n + 1) * b ≤ 140737488355328) := fun n hn b hb => by
  have h9 : (n + 1) * b ≤ (n + 1) * 16 := Nat.mul_le_mul_left _ hb
  exact ⟨by unfold maxLen; omega, by omega⟩
 clear h1 h2 h3 h4 k1 k2 k3 k4 hl hsm
 go_enter Tryz.func86, Tryz.ntmps86
 go_wp2
 go_loopw [8, 9] (fun q z wr => ∃ (k : Nat) (b : Bool) (X Y : Value) (ds : List ByteArray) (es : List Int), k ≤ names.length ∧ q = .bool b ∧ z = .int .i64 (k : Int) ∧ Hid (WRel names inos s i k b ds es) ∧ Hid (Bld w wr ⟨⟨ino, kind, data, names, inos⟩, d, .slice mo names.length mc, .slice io inos.length ic⟩ X Y ds es)) (fun _ z _ => names.length - (intOf z).toNat)
 case atStart => exact ⟨0, false, .slice none 0 0, .slice none 0 0, [], [], Nat.zero_le _, rfl, rfl, .inl ⟨rfl, Nat.zero_le _, rfl, rfl⟩, bld_new w ⟨⟨ino, kind, data, names, inos⟩, d, .slice mo names.length mc, .slice io inos.length ic⟩⟩
 case round =>
  obtain ⟨k, b, X, Y, ds, es, hk, rfl, rfl, HR, HB⟩ := hrel
  have HDL : Hid (ds.length ≤ names.length + 1 ∧ es.length ≤ names.length + 1) := HR.out.len HL.out
  by_cases hlt : k < names.length
  · obtain ⟨mb, mf, hmo, hmb, hmcell⟩ := H4.out (by omega)
    obtain ⟨ib, jf, hio, hib, hicell⟩ := K4.out (by have := HL.out; omega)
    subst hmo hio
    obtain ⟨x, hx⟩ : ∃ x, names.getD k ⟨#[]⟩ = x := ⟨_, rfl⟩
    obtain ⟨y, hy⟩ : ∃ y, inos.getD k 0 = y := ⟨_, rfl⟩
    have e0 := hmcell k _ (strs_at names k hlt)
    have e1 := hicell k _ (intsV_at .i64 inos k (by have := HL.out; omega))
    rw [hx] at e0
    rw [hy] at e1
    have HIX : Hid (mb < w.heap.size ∧ ib < w.heap.size ∧ w.cell? ⟨mb, mf + k, none⟩ = some (.string x) ∧ w.cell? ⟨ib, jf + k, none⟩ = some (.int .i64 y)) := ⟨hmb, hib, e0, e1⟩
    have j0 : (k : Int) < (names.length : Int) := by omega
    have j1 : (0 : Int) ≤ (k : Int) := by omega
    have j2 : (k : Int) < (inos.length : Int) := by have := HL.out; omega
    clear hmcell hicell e0 e1 hmb hib
    cases b with
    | true =>
      have HRN : Hid (WRel names inos s i (k + 1) true (ds ++ [x]) (es ++ [y])) := by
       have := HR.out.more hlt HL.out
       rw [hx, hy] at this
       exact this
      clear HR hx hy
      have hB := HB.out
      have m3 := hB.2.2.1.c.2.2.2.1
      have m3a : ∀ o, (wr.alloc o).cell? ⟨w.heap.size + 2, 3, none⟩ = some (X) := fun o => ((hB.below ((Below.refl _ _).alloc (Nat.le_refl _) o)).2.2.1.c).2.2.2.1
      have n3 := hB.1.c.2.2.2.1
      have n5 := hB.1.c.2.2.2.1
      have c0 := (hB.2.2.2.2.2.cell (by exact HIX.out.1)).trans HIX.out.2.2.1
      have HBA : Hid (Bld w (wr.alloc (.cells #[.string x] 9)).drew ⟨⟨ino, kind, data, names, inos⟩, d, .slice (some ⟨mb, mf, none⟩) names.length mc, .slice (some ⟨ib, jf, none⟩) inos.length ic⟩ X Y ds es) := hB.below (((Below.refl _ _).alloc (Nat.le_refl _) _).drew)
      have HCL : Hid (∀ (j : Nat) u, [Value.string x][j]? = some u → (wr.alloc (.cells #[.string x] 9)).drew.cell? ((⟨wr.heap.size, 0, none⟩ : Addr).add j) = some u) := fun j u hu => by
       cases j with
       | zero =>
         simp at hu
         subst hu
         simp [Addr.add]
       | succ j => simp at hu
      have HM : Hid (ds.length + 1 ≤ maxLen ∧ (ds.length + 1) * 16 ≤ 140737488355328) := HLIM.out _ (by have := HDL.out; omega) 16 (by decide)
      clear hB
      go_wp2
      go_region_law (refine step_appS Tryz.underlying37 infoS rfl (by decide) (by rfl) _ _ (by rfl) (w.heap.size + 3) (X) (ds.length) (strs (ds)) (by rfl) HBA.out.2.2.2.1 ⟨wr.heap.size, 0, none⟩ 1 1 [.string x] (by rfl) (by rfl) HCL.out (by intro u hu; simp at hu; subst hu; rfl) HM.out.1 HM.out.2 (by have := HBA.out.2.2.1.lt; omega) ?_; intro Z w2 hr2 hg2; obtain ⟨g8, cp8, rfl⟩ := own_some hr2 (Nat.succ_pos _); have m3b := (HBA.out.2.2.1.grown hg2 (HBA.out.2.2.1.row HBA.out.2.2.2.1 (by decide))).c.2.2.2.1; have z3b := (HBA.out.2.2.1.grown hg2 (HBA.out.2.2.1.row HBA.out.2.2.2.1 (by decide))).fz 3)
      all_goals
       have HB8 : Hid (Bld w (w2.setCell ⟨w.heap.size + 1 + 1, 3, none⟩ (.slice (some ⟨g8, 0, none⟩) (ds.length + 1) cp8)) ⟨⟨ino, kind, data, names, inos⟩, d, .slice (some ⟨mb, mf, none⟩) names.length mc, .slice (some ⟨ib, jf, none⟩) inos.length ic⟩ (.slice (some ⟨g8, 0, none⟩) (ds.length + 1) cp8) Y (ds ++ [x]) es) := HBA.out.name hg2 hr2
       generalize (w2.setCell ⟨w.heap.size + 1 + 1, 3, none⟩ (.slice (some ⟨g8, 0, none⟩) (ds.length + 1) cp8)) = w5 at HB8 ⊢
       clear hg2 hr2 m3b z3b HBA HCL m3 m3a n3 n5 c0 HB HM w2
       have hB := HB8.out
       have m3 := hB.2.2.1.c.2.2.2.2
       have m3a : ∀ o, (w5.alloc o).cell? ⟨w.heap.size + 2, 4, none⟩ = some (Y) := fun o => ((hB.below ((Below.refl _ _).alloc (Nat.le_refl _) o)).2.2.1.c).2.2.2.2
       have n3 := hB.1.c.2.2.2.2
       have n5 := hB.1.c.2.2.2.1
       have c0 := (hB.2.2.2.2.2.cell (by exact HIX.out.2.1)).trans HIX.out.2.2.2
       have HBA : Hid (Bld w (w5.alloc (.cells #[.int .i64 y] 3)).drew ⟨⟨ino, kind, data, names, inos⟩, d, .slice (some ⟨mb, mf, none⟩) names.length mc, .slice (some ⟨ib, jf, none⟩) inos.length ic⟩ (.slice (some ⟨g8, 0, none⟩) (ds.length + 1) cp8) Y (ds ++ [x]) es) := hB.below (((Below.refl _ _).alloc (Nat.le_refl _) _).drew)
       have HCL : Hid (∀ (j : Nat) u, [Value.int .i64 y][j]? = some u → (w5.alloc (.cells #[.int .i64 y] 3)).drew.cell? ((⟨w5.heap.size, 0, none⟩ : Addr).add j) = some u) := fun j u hu => by
        cases j with
        | zero =>
          simp at hu
          subst hu
          simp [Addr.add]
        | succ j => simp at hu
       have HM : Hid (es.length + 1 ≤ maxLen ∧ (es.length + 1) * 8 ≤ 140737488355328) := HLIM.out _ (by have := HDL.out; omega) 8 (by decide)
       clear hB
       go_wp2
       go_region_law (refine step_appS Tryz.underlying38 infoI rfl (by decide) (by rfl) _ _ (by rfl) (w.heap.size + 3) (Y) (es.length) (intsV .i64 (es)) (by rfl) HBA.out.2.2.2.2.1 ⟨w5.heap.size, 0, none⟩ 1 1 [.int .i64 y] (by rfl) (by rfl) HCL.out (by intro u hu; simp at hu; subst hu; rfl) HM.out.1 HM.out.2 (by have := HBA.out.2.2.1.lt; omega) ?_; intro Z w2 hr2 hg2; obtain ⟨g9, cp9, rfl⟩ := own_some hr2 (Nat.succ_pos _); have m3b := (HBA.out.2.2.1.grown hg2 (HBA.out.2.2.1.row HBA.out.2.2.2.2.1 (by decide))).c.2.2.2.2; have z3b := (HBA.out.2.2.1.grown hg2 (HBA.out.2.2.1.row HBA.out.2.2.2.2.1 (by decide))).fz 4)
       all_goals
        have HB9 : Hid (Bld w (w2.setCell ⟨w.heap.size + 1 + 1, 4, none⟩ (.slice (some ⟨g9, 0, none⟩) (es.length + 1) cp9)) ⟨⟨ino, kind, data, names, inos⟩, d, .slice (some ⟨mb, mf, none⟩) names.length mc, .slice (some ⟨ib, jf, none⟩) inos.length ic⟩ (.slice (some ⟨g8, 0, none⟩) (ds.length + 1) cp8) (.slice (some ⟨g9, 0, none⟩) (es.length + 1) cp9) (ds ++ [x]) (es ++ [y])) := HBA.out.num hg2 hr2
        generalize (w2.setCell ⟨w.heap.size + 1 + 1, 4, none⟩ (.slice (some ⟨g9, 0, none⟩) (es.length + 1) cp9)) = w6 at HB9 ⊢
        clear hg2 hr2 m3b z3b HBA HCL m3 m3a n3 n5 c0 HB8 HM w2
        go_wp2
        go_roundw
        case rel => exact ⟨k + 1, _, _, _, _, _, by omega, rfl, by simp, HRN, HB9⟩
        case measure => simp [intOf]; omega
    | false =>
      by_cases hn : less s x
      · have HRN : Hid (WRel names inos s i (k + 1) true ((ds ++ [s]) ++ [x]) ((es ++ [i]) ++ [y])) := by
         have := HR.out.hit hlt HL.out (by rw [hx]; exact hn)
         rw [hx, hy] at this
         exact this
        have hgt := (gt_iff x s).2 hn
        have q1 : Op.bytesLess x.toList s.toList = false := by simp at hgt; exact hgt.1
        have q2 : (x.toList == s.toList) = false := by simp at hgt; simpa using hgt.2
        clear HR hx hy hgt hn
        have hB := HB.out
        have m3 := hB.2.2.1.c.2.2.2.1
        have m3a : ∀ o, (wr.alloc o).cell? ⟨w.heap.size + 2, 3, none⟩ = some (X) := fun o => ((hB.below ((Below.refl _ _).alloc (Nat.le_refl _) o)).2.2.1.c).2.2.2.1
        have n3 := hB.1.c.2.2.2.1
        have n5 := hB.1.c.2.2.2.1
        have c0 := (hB.2.2.2.2.2.cell (by exact HIX.out.1)).trans HIX.out.2.2.1
        have HBA : Hid (Bld w (wr.alloc (.cells #[.string s] 9)) ⟨⟨ino, kind, data, names, inos⟩, d, .slice (some ⟨mb, mf, none⟩) names.length mc, .slice (some ⟨ib, jf, none⟩) inos.length ic⟩ X Y ds es) := hB.below (((Below.refl _ _).alloc (Nat.le_refl _) _))
        have HCL : Hid (∀ (j : Nat) u, [Value.string s][j]? = some u → (wr.alloc (.cells #[.string s] 9)).cell? ((⟨wr.heap.size, 0, none⟩ : Addr).add j) = some u) := fun j u hu => by
         cases j with
         | zero =>
           simp at hu
           subst hu
           simp [Addr.add]
         | succ j => simp at hu
        have HM : Hid (ds.length + 1 ≤ maxLen ∧ (ds.length + 1) * 16 ≤ 140737488355328) := HLIM.out _ (by have := HDL.out; omega) 16 (by decide)
        clear hB
        go_wp2_with (at_builtin; refine wpList_appS Tryz.underlying37 infoS rfl (by decide) (by rfl) _ _ (by rfl) (w.heap.size + 3) (X) (ds.length) (strs (ds)) (by rfl) HBA.out.2.2.2.1 ⟨wr.heap.size, 0, none⟩ 1 1 [.string s] (by rfl) (by rfl) HCL.out (by intro u hu; simp at hu; subst hu; rfl) HM.out.1 HM.out.2 (by have := HBA.out.2.2.1.lt; omega) ?_)
        intro Z w7 hr2 hg2
        obtain ⟨g6, cp6, rfl⟩ := own_some hr2 (Nat.succ_pos _)
        have m3b := (HBA.out.2.2.1.grown hg2 (HBA.out.2.2.1.row HBA.out.2.2.2.1 (by decide))).c.2.2.2.1
        have z3b := (HBA.out.2.2.1.grown hg2 (HBA.out.2.2.1.row HBA.out.2.2.2.1 (by decide))).fz 3
        have HB6 : Hid (Bld w (w7.setCell ⟨w.heap.size + 1 + 1, 3, none⟩ (.slice (some ⟨g6, 0, none⟩) (ds.length + 1) cp6)) ⟨⟨ino, kind, data, names, inos⟩, d, .slice (some ⟨mb, mf, none⟩) names.length mc, .slice (some ⟨ib, jf, none⟩) inos.length ic⟩ (.slice (some ⟨g6, 0, none⟩) (ds.length + 1) cp6) Y (ds ++ [s]) es) := HBA.out.name hg2 hr2
        clear hg2 hr2 HBA HCL m3 m3a n3 n5 c0 HB HM
        have hB := HB6.out
        have m3 := hB.2.2.1.c.2.2.2.2
        have m3a : ∀ o, ((w7.setCell ⟨w.heap.size + 1 + 1, 3, none⟩ (.slice (some ⟨g6, 0, none⟩) (ds.length + 1) cp6)).alloc o).cell? ⟨w.heap.size + 2, 4, none⟩ = some (Y) := fun o => ((hB.below ((Below.refl _ _).alloc (Nat.le_refl _) o)).2.2.1.c).2.2.2.2
        have n3 := hB.1.c.2.2.2.2
        have n5 := hB.1.c.2.2.2.1
        have HBA : Hid (Bld w ((w7.setCell ⟨w.heap.size + 1 + 1, 3, none⟩ (.slice (some ⟨g6, 0, none⟩) (ds.length + 1) cp6)).alloc (.cells #[.int .i64 i] 3)) ⟨⟨ino, kind, data, names, inos⟩, d, .slice (some ⟨mb, mf, none⟩) names.length mc, .slice (some ⟨ib, jf, none⟩) inos.length ic⟩ (.slice (some ⟨g6, 0, none⟩) (ds.length + 1) cp6) Y (ds ++ [s]) es) := hB.below (((Below.refl _ _).alloc (Nat.le_refl _) _))
        have HCL : Hid (∀ (j : Nat) u, [Value.int .i64 i][j]? = some u → ((w7.setCell ⟨w.heap.size + 1 + 1, 3, none⟩ (.slice (some ⟨g6, 0, none⟩) (ds.length + 1) cp6)).alloc (.cells #[.int .i64 i] 3)).cell? ((⟨w7.heap.size, 0, none⟩ : Addr).add j) = some u) := fun j u hu => by
         cases j with
         | zero =>
           simp at hu
           subst hu
           have hz : (w7.setCell ⟨w.heap.size + 1 + 1, 3, none⟩ (.slice (some ⟨g6, 0, none⟩) (ds.length + 1) cp6)).heap.size = w7.heap.size := by simp [World.setCell]
           have hw := new_cell (w7.setCell ⟨w.heap.size + 1 + 1, 3, none⟩ (.slice (some ⟨g6, 0, none⟩) (ds.length + 1) cp6)) (.int .i64 i) 3
           rw [hz] at hw
           simpa [Addr.add] using hw
         | succ j => simp at hu
        have HM : Hid (es.length + 1 ≤ maxLen ∧ (es.length + 1) * 8 ≤ 140737488355328) := HLIM.out _ (by have := HDL.out; omega) 8 (by decide)
        clear hB
        go_wp2_with (at_builtin; refine wpList_appS Tryz.underlying38 infoI rfl (by decide) (by rfl) _ _ (by rfl) (w.heap.size + 3) (Y) (es.length) (intsV .i64 (es)) (by rfl) HBA.out.2.2.2.2.1 ⟨w7.heap.size, 0, none⟩ 1 1 [.int .i64 i] (by rfl) (by rfl) HCL.out (by intro u hu; simp at hu; subst hu; rfl) HM.out.1 HM.out.2 (by have := HBA.out.2.2.1.lt; omega) ?_)
        intro Z w8 hr2 hg2
        obtain ⟨g7, cp7, rfl⟩ := own_some hr2 (Nat.succ_pos _)
        have m3b := (HBA.out.2.2.1.grown hg2 (HBA.out.2.2.1.row HBA.out.2.2.2.2.1 (by decide))).c.2.2.2.2
        have z3b := (HBA.out.2.2.1.grown hg2 (HBA.out.2.2.1.row HBA.out.2.2.2.2.1 (by decide))).fz 4
        have HB7 : Hid (Bld w (w8.setCell ⟨w.heap.size + 1 + 1, 4, none⟩ (.slice (some ⟨g7, 0, none⟩) (es.length + 1) cp7)) ⟨⟨ino, kind, data, names, inos⟩, d, .slice (some ⟨mb, mf, none⟩) names.length mc, .slice (some ⟨ib, jf, none⟩) inos.length ic⟩ (.slice (some ⟨g6, 0, none⟩) (ds.length + 1) cp6) (.slice (some ⟨g7, 0, none⟩) (es.length + 1) cp7) (ds ++ [s]) (es ++ [i])) := HBA.out.num hg2 hr2
        clear hg2 hr2 HBA HCL m3 m3a n3 n5 HB6 HM
        go_wp2
        generalize (w8.setCell ⟨w.heap.size + 1 + 1, 4, none⟩ (.slice (some ⟨g7, 0, none⟩) (es.length + 1) cp7)) = w9 at HB7 ⊢
        clear m3b z3b
        have hB := HB7.out
        have m3 := hB.2.2.1.c.2.2.2.1
        have m3a : ∀ o, (w9.alloc o).cell? ⟨w.heap.size + 2, 3, none⟩ = some ((.slice (some ⟨g6, 0, none⟩) (ds.length + 1) cp6)) := fun o => ((hB.below ((Below.refl _ _).alloc (Nat.le_refl _) o)).2.2.1.c).2.2.2.1
        have n3 := hB.1.c.2.2.2.1
        have n5 := hB.1.c.2.2.2.1
        have c0 := (hB.2.2.2.2.2.cell (by exact HIX.out.1)).trans HIX.out.2.2.1
        have HBA : Hid (Bld w (w9.alloc (.cells #[.string x] 9)).drew ⟨⟨ino, kind, data, names, inos⟩, d, .slice (some ⟨mb, mf, none⟩) names.length mc, .slice (some ⟨ib, jf, none⟩) inos.length ic⟩ (.slice (some ⟨g6, 0, none⟩) (ds.length + 1) cp6) (.slice (some ⟨g7, 0, none⟩) (es.length + 1) cp7) (ds ++ [s]) (es ++ [i])) := hB.below (((Below.refl _ _).alloc (Nat.le_refl _) _).drew)
        have HCL : Hid (∀ (j : Nat) u, [Value.string x][j]? = some u → (w9.alloc (.cells #[.string x] 9)).drew.cell? ((⟨w9.heap.size, 0, none⟩ : Addr).add j) = some u) := fun j u hu => by
         cases j with
         | zero =>
           simp at hu
           subst hu
           simp [Addr.add]
         | succ j => simp at hu
        have HM : Hid (ds.length + 1 + 1 ≤ maxLen ∧ (ds.length + 1 + 1) * 16 ≤ 140737488355328) := HLIM.out _ (by have := HDL.out; omega) 16 (by decide)
        clear hB
        go_region_law (refine step_appS Tryz.underlying37 infoS rfl (by decide) (by rfl) _ _ (by rfl) (w.heap.size + 3) ((.slice (some ⟨g6, 0, none⟩) (ds.length + 1) cp6)) (ds.length + 1) (strs ((ds ++ [s]))) (by rfl) (own_len HBA.out.2.2.2.1 (by simp)) ⟨w9.heap.size, 0, none⟩ 1 1 [.string x] (by rfl) (by rfl) HCL.out (by intro u hu; simp at hu; subst hu; rfl) HM.out.1 HM.out.2 (by have := HBA.out.2.2.1.lt; omega) ?_; intro Z w2 hr2 hg2; obtain ⟨g8, cp8, rfl⟩ := own_some hr2 (Nat.succ_pos _); have m3b := (HBA.out.2.2.1.grown hg2 (HBA.out.2.2.1.row HBA.out.2.2.2.1 (by decide))).c.2.2.2.1; have z3b := (HBA.out.2.2.1.grown hg2 (HBA.out.2.2.1.row HBA.out.2.2.2.1 (by decide))).fz 3)
        all_goals
         have HB8 : Hid (Bld w (w2.setCell ⟨w.heap.size + 1 + 1, 3, none⟩ (.slice (some ⟨g8, 0, none⟩) (ds.length + 1 + 1) cp8)) ⟨⟨ino, kind, data, names, inos⟩, d, .slice (some ⟨mb, mf, none⟩) names.length mc, .slice (some ⟨ib, jf, none⟩) inos.length ic⟩ (.slice (some ⟨g8, 0, none⟩) (ds.length + 1 + 1) cp8) (.slice (some ⟨g7, 0, none⟩) (es.length + 1) cp7) ((ds ++ [s]) ++ [x]) (es ++ [i])) := HBA.out.name hg2 (own_len hr2 (by simp))
         generalize (w2.setCell ⟨w.heap.size + 1 + 1, 3, none⟩ (.slice (some ⟨g8, 0, none⟩) (ds.length + 1 + 1) cp8)) = w5 at HB8 ⊢
         clear hg2 hr2 m3b z3b HBA HCL m3 m3a n3 n5 c0 HB7 HM w2
         have hB := HB8.out
         have m3 := hB.2.2.1.c.2.2.2.2
         have m3a : ∀ o, (w5.alloc o).cell? ⟨w.heap.size + 2, 4, none⟩ = some ((.slice (some ⟨g7, 0, none⟩) (es.length + 1) cp7)) := fun o => ((hB.below ((Below.refl _ _).alloc (Nat.le_refl _) o)).2.2.1.c).2.2.2.2
         have n3 := hB.1.c.2.2.2.2
         have n5 := hB.1.c.2.2.2.1
         have c0 := (hB.2.2.2.2.2.cell (by exact HIX.out.2.1)).trans HIX.out.2.2.2
         have HBA : Hid (Bld w (w5.alloc (.cells #[.int .i64 y] 3)).drew ⟨⟨ino, kind, data, names, inos⟩, d, .slice (some ⟨mb, mf, none⟩) names.length mc, .slice (some ⟨ib, jf, none⟩) inos.length ic⟩ (.slice (some ⟨g8, 0, none⟩) (ds.length + 1 + 1) cp8) (.slice (some ⟨g7, 0, none⟩) (es.length + 1) cp7) ((ds ++ [s]) ++ [x]) (es ++ [i])) := hB.below (((Below.refl _ _).alloc (Nat.le_refl _) _).drew)
         have HCL : Hid (∀ (j : Nat) u, [Value.int .i64 y][j]? = some u → (w5.alloc (.cells #[.int .i64 y] 3)).drew.cell? ((⟨w5.heap.size, 0, none⟩ : Addr).add j) = some u) := fun j u hu => by
          cases j with
          | zero =>
            simp at hu
            subst hu
            simp [Addr.add]
          | succ j => simp at hu
         have HM : Hid (es.length + 1 + 1 ≤ maxLen ∧ (es.length + 1 + 1) * 8 ≤ 140737488355328) := HLIM.out _ (by have := HDL.out; omega) 8 (by decide)
         clear hB
         go_wp2
         go_region_law (refine step_appS Tryz.underlying38 infoI rfl (by decide) (by rfl) _ _ (by rfl) (w.heap.size + 3) ((.slice (some ⟨g7, 0, none⟩) (es.length + 1) cp7)) (es.length + 1) (intsV .i64 ((es ++ [i]))) (by rfl) (own_len HBA.out.2.2.2.2.1 (by simp)) ⟨w5.heap.size, 0, none⟩ 1 1 [.int .i64 y] (by rfl) (by rfl) HCL.out (by intro u hu; simp at hu; subst hu; rfl) HM.out.1 HM.out.2 (by have := HBA.out.2.2.1.lt; omega) ?_; intro Z w2 hr2 hg2; obtain ⟨g9, cp9, rfl⟩ := own_some hr2 (Nat.succ_pos _); have m3b := (HBA.out.2.2.1.grown hg2 (HBA.out.2.2.1.row HBA.out.2.2.2.2.1 (by decide))).c.2.2.2.2; have z3b := (HBA.out.2.2.1.grown hg2 (HBA.out.2.2.1.row HBA.out.2.2.2.2.1 (by decide))).fz 4)
         all_goals
          have HB9 : Hid (Bld w (w2.setCell ⟨w.heap.size + 1 + 1, 4, none⟩ (.slice (some ⟨g9, 0, none⟩) (es.length + 1 + 1) cp9)) ⟨⟨ino, kind, data, names, inos⟩, d, .slice (some ⟨mb, mf, none⟩) names.length mc, .slice (some ⟨ib, jf, none⟩) inos.length ic⟩ (.slice (some ⟨g8, 0, none⟩) (ds.length + 1 + 1) cp8) (.slice (some ⟨g9, 0, none⟩) (es.length + 1 + 1) cp9) ((ds ++ [s]) ++ [x]) ((es ++ [i]) ++ [y])) := HBA.out.num hg2 (own_len hr2 (by simp))
          generalize (w2.setCell ⟨w.heap.size + 1 + 1, 4, none⟩ (.slice (some ⟨g9, 0, none⟩) (es.length + 1 + 1) cp9)) = w6 at HB9 ⊢
          clear hg2 hr2 m3b z3b HBA HCL m3 m3a n3 n5 c0 HB8 HM w2
          go_wp2
          go_roundw
          case rel => exact ⟨k + 1, _, _, _, _, _, by omega, rfl, by simp, HRN, HB9⟩
          case measure => simp [intOf]; omega
      · have HRN : Hid (WRel names inos s i (k + 1) false (ds ++ [x]) (es ++ [y])) := by
         have := HR.out.on hlt HL.out (by rw [hx]; exact hn)
         rw [hx, hy] at this
         exact this
        have hgt : ¬ (!Op.bytesLess x.toList s.toList && !(x.toList == s.toList)) = true := fun h => hn ((gt_iff x s).1 h)
        obtain ⟨u1, hu1⟩ : ∃ u, Op.bytesLess x.toList s.toList = u := ⟨_, rfl⟩
        obtain ⟨u2, hu2⟩ : ∃ u, (x.toList == s.toList) = u := ⟨_, rfl⟩
        rw [hu1, hu2] at hgt
        have q3 : (u1 || u2) = true := by revert hgt; cases u1 <;> cases u2 <;> simp
        clear HR hx hy hgt hn
        have hB := HB.out
        have m3 := hB.2.2.1.c.2.2.2.1
        have m3a : ∀ o, (wr.alloc o).cell? ⟨w.heap.size + 2, 3, none⟩ = some (X) := fun o => ((hB.below ((Below.refl _ _).alloc (Nat.le_refl _) o)).2.2.1.c).2.2.2.1
        have n3 := hB.1.c.2.2.2.1
        have n5 := hB.1.c.2.2.2.1
        have c0 := (hB.2.2.2.2.2.cell (by exact HIX.out.1)).trans HIX.out.2.2.1
        have HBA : Hid (Bld w (wr.alloc (.cells #[.string x] 9)).drew ⟨⟨ino, kind, data, names, inos⟩, d, .slice (some ⟨mb, mf, none⟩) names.length mc, .slice (some ⟨ib, jf, none⟩) inos.length ic⟩ X Y ds es) := hB.below (((Below.refl _ _).alloc (Nat.le_refl _) _).drew)
        have HCL : Hid (∀ (j : Nat) u, [Value.string x][j]? = some u → (wr.alloc (.cells #[.string x] 9)).drew.cell? ((⟨wr.heap.size, 0, none⟩ : Addr).add j) = some u) := fun j u hu => by
         cases j with
         | zero =>
           simp at hu
           subst hu
           simp [Addr.add]
         | succ j => simp at hu
        have HM : Hid (ds.length + 1 ≤ maxLen ∧ (ds.length + 1) * 16 ≤ 140737488355328) := HLIM.out _ (by have := HDL.out; omega) 16 (by decide)
        clear hB
        go_wp2
        go_region_law (refine step_appS Tryz.underlying37 infoS rfl (by decide) (by rfl) _ _ (by rfl) (w.heap.size + 3) (X) (ds.length) (strs (ds)) (by rfl) HBA.out.2.2.2.1 ⟨wr.heap.size, 0, none⟩ 1 1 [.string x] (by rfl) (by rfl) HCL.out (by intro u hu; simp at hu; subst hu; rfl) HM.out.1 HM.out.2 (by have := HBA.out.2.2.1.lt; omega) ?_; intro Z w2 hr2 hg2; obtain ⟨g8, cp8, rfl⟩ := own_some hr2 (Nat.succ_pos _); have m3b := (HBA.out.2.2.1.grown hg2 (HBA.out.2.2.1.row HBA.out.2.2.2.1 (by decide))).c.2.2.2.1; have z3b := (HBA.out.2.2.1.grown hg2 (HBA.out.2.2.1.row HBA.out.2.2.2.1 (by decide))).fz 3)
        all_goals
         have HB8 : Hid (Bld w (w2.setCell ⟨w.heap.size + 1 + 1, 3, none⟩ (.slice (some ⟨g8, 0, none⟩) (ds.length + 1) cp8)) ⟨⟨ino, kind, data, names, inos⟩, d, .slice (some ⟨mb, mf, none⟩) names.length mc, .slice (some ⟨ib, jf, none⟩) inos.length ic⟩ (.slice (some ⟨g8, 0, none⟩) (ds.length + 1) cp8) Y (ds ++ [x]) es) := HBA.out.name hg2 hr2
         generalize (w2.setCell ⟨w.heap.size + 1 + 1, 3, none⟩ (.slice (some ⟨g8, 0, none⟩) (ds.length + 1) cp8)) = w5 at HB8 ⊢
         clear hg2 hr2 m3b z3b HBA HCL m3 m3a n3 n5 c0 HB HM w2
         have hB := HB8.out
         have m3 := hB.2.2.1.c.2.2.2.2
         have m3a : ∀ o, (w5.alloc o).cell? ⟨w.heap.size + 2, 4, none⟩ = some (Y) := fun o => ((hB.below ((Below.refl _ _).alloc (Nat.le_refl _) o)).2.2.1.c).2.2.2.2
         have n3 := hB.1.c.2.2.2.2
         have n5 := hB.1.c.2.2.2.1
         have c0 := (hB.2.2.2.2.2.cell (by exact HIX.out.2.1)).trans HIX.out.2.2.2
         have HBA : Hid (Bld w (w5.alloc (.cells #[.int .i64 y] 3)).drew ⟨⟨ino, kind, data, names, inos⟩, d, .slice (some ⟨mb, mf, none⟩) names.length mc, .slice (some ⟨ib, jf, none⟩) inos.length ic⟩ (.slice (some ⟨g8, 0, none⟩) (ds.length + 1) cp8) Y (ds ++ [x]) es) := hB.below (((Below.refl _ _).alloc (Nat.le_refl _) _).drew)
         have HCL : Hid (∀ (j : Nat) u, [Value.int .i64 y][j]? = some u → (w5.alloc (.cells #[.int .i64 y] 3)).drew.cell? ((⟨w5.heap.size, 0, none⟩ : Addr).add j) = some u) := fun j u hu => by
          cases j with
          | zero =>
            simp at hu
            subst hu
            simp [Addr.add]
          | succ j => simp at hu
         have HM : Hid (es.length + 1 ≤ maxLen ∧ (es.length + 1) * 8 ≤ 140737488355328) := HLIM.out _ (by have := HDL.out; omega) 8 (by decide)
         clear hB
         go_wp2
         go_region_law (refine step_appS Tryz.underlying38 infoI rfl (by decide) (by rfl) _ _ (by rfl) (w.heap.size + 3) (Y) (es.length) (intsV .i64 (es)) (by rfl) HBA.out.2.2.2.2.1 ⟨w5.heap.size, 0, none⟩ 1 1 [.int .i64 y] (by rfl) (by rfl) HCL.out (by intro u hu; simp at hu; subst hu; rfl) HM.out.1 HM.out.2 (by have := HBA.out.2.2.1.lt; omega) ?_; intro Z w2 hr2 hg2; obtain ⟨g9, cp9, rfl⟩ := own_some hr2 (Nat.succ_pos _); have m3b := (HBA.out.2.2.1.grown hg2 (HBA.out.2.2.1.row HBA.out.2.2.2.2.1 (by decide))).c.2.2.2.2; have z3b := (HBA.out.2.2.1.grown hg2 (HBA.out.2.2.1.row HBA.out.2.2.2.2.1 (by decide))).fz 4)
         all_goals
          have HB9 : Hid (Bld w (w2.setCell ⟨w.heap.size + 1 + 1, 4, none⟩ (.slice (some ⟨g9, 0, none⟩) (es.length + 1) cp9)) ⟨⟨ino, kind, data, names, inos⟩, d, .slice (some ⟨mb, mf, none⟩) names.length mc, .slice (some ⟨ib, jf, none⟩) inos.length ic⟩ (.slice (some ⟨g8, 0, none⟩) (ds.length + 1) cp8) (.slice (some ⟨g9, 0, none⟩) (es.length + 1) cp9) (ds ++ [x]) (es ++ [y])) := HBA.out.num hg2 hr2
          generalize (w2.setCell ⟨w.heap.size + 1 + 1, 4, none⟩ (.slice (some ⟨g9, 0, none⟩) (es.length + 1) cp9)) = w6 at HB9 ⊢
          clear hg2 hr2 m3b z3b HBA HCL m3 m3a n3 n5 c0 HB8 HM w2
          go_wp2
          go_roundw
          case rel => exact ⟨k + 1, _, _, _, _, _, by omega, rfl, by simp, HRN, HB9⟩
          case measure => simp [intOf]; omega
  · obtain rfl : k = names.length := by omega
    cases b with
    | true =>
      have HW : Hid (withB ⟨ino, kind, data, names, inos⟩ s i = ⟨ino, kind, [], ds, es⟩) := HR.out.endT HL.out ino kind data
      have hB := HB.out
      have n5 := hB.1.c.2.2.2.1
      clear hlt HR
      obtain ⟨m0, m1, m2, m3, m4⟩ := hB.2.2.1.c
      obtain ⟨r0, r1, r2, r3, r4⟩ := hB.2.1.c
      have z0 := hB.2.1.fz 0
      have z1 := hB.2.1.fz 1
      have z2 := hB.2.1.fz 2
      have z3 := hB.2.1.fz 3
      have z4 := hB.2.1.fz 4
      obtain ⟨xo, xc, hX⟩ := own_slice hB.2.2.2.1
      obtain ⟨yo, yc, hY⟩ := own_slice hB.2.2.2.2.1
      subst hX hY
      clear hB
      go_wp2
      refine bodyPost_ret (v := .agg #[.int .i64 ino, .int .i64 kind, .slice none 0 0, .slice xo ds.length xc, .slice yo es.length yc]) (by simp [results, Tryz.results86, go_sem, *]) rfl ⟨_, _, rfl, ?_, ?_, ?_, ?_⟩
      · rw [HW.out]
        exact ⟨sees_nilV _ _, (bld_done HB.out _ _ _ _ _).1, (bld_done HB.out _ _ _ _ _).2.1⟩
      · exact HB.out.fresh.1
      · exact HB.out.fresh.2
      · exact (bld_done HB.out _ _ _ _ _).2.2
    | false =>
      have HW : Hid (withB ⟨ino, kind, data, names, inos⟩ s i = ⟨ino, kind, [], ds ++ [s], es ++ [i]⟩) := HR.out.endF HL.out ino kind data
      clear hlt HR
      have hB := HB.out
      have m3 := hB.2.2.1.c.2.2.2.1
      have m3a : ∀ o, (wr.alloc o).cell? ⟨w.heap.size + 2, 3, none⟩ = some (X) := fun o => ((hB.below ((Below.refl _ _).alloc (Nat.le_refl _) o)).2.2.1.c).2.2.2.1
      have n3 := hB.1.c.2.2.2.1
      have n5 := hB.1.c.2.2.2.1
      have HBA : Hid (Bld w (wr.alloc (.cells #[.string s] 9)) ⟨⟨ino, kind, data, names, inos⟩, d, .slice mo names.length mc, .slice io inos.length ic⟩ X Y ds es) := hB.below (((Below.refl _ _).alloc (Nat.le_refl _) _))
      have HCL : Hid (∀ (j : Nat) u, [Value.string s][j]? = some u → (wr.alloc (.cells #[.string s] 9)).cell? ((⟨wr.heap.size, 0, none⟩ : Addr).add j) = some u) := fun j u hu => by
       cases j with
       | zero =>
         simp at hu
         subst hu
         simp [Addr.add]
       | succ j => simp at hu
      have HM : Hid (ds.length + 1 ≤ maxLen ∧ (ds.length + 1) * 16 ≤ 140737488355328) := HLIM.out _ (by have := HDL.out; omega) 16 (by decide)
      clear hB
      go_wp2_with (at_builtin; refine wpList_appS Tryz.underlying37 infoS rfl (by decide) (by rfl) _ _ (by rfl) (w.heap.size + 3) (X) (ds.length) (strs (ds)) (by rfl) HBA.out.2.2.2.1 ⟨wr.heap.size, 0, none⟩ 1 1 [.string s] (by rfl) (by rfl) HCL.out (by intro u hu; simp at hu; subst hu; rfl) HM.out.1 HM.out.2 (by have := HBA.out.2.2.1.lt; omega) ?_)
      intro Z w7 hr2 hg2
      obtain ⟨g6, cp6, rfl⟩ := own_some hr2 (Nat.succ_pos _)
      have m3b := (HBA.out.2.2.1.grown hg2 (HBA.out.2.2.1.row HBA.out.2.2.2.1 (by decide))).c.2.2.2.1
      have z3b := (HBA.out.2.2.1.grown hg2 (HBA.out.2.2.1.row HBA.out.2.2.2.1 (by decide))).fz 3
      have HB6 : Hid (Bld w (w7.setCell ⟨w.heap.size + 1 + 1, 3, none⟩ (.slice (some ⟨g6, 0, none⟩) (ds.length + 1) cp6)) ⟨⟨ino, kind, data, names, inos⟩, d, .slice mo names.length mc, .slice io inos.length ic⟩ (.slice (some ⟨g6, 0, none⟩) (ds.length + 1) cp6) Y (ds ++ [s]) es) := HBA.out.name hg2 hr2
      clear hg2 hr2 HBA HCL m3 m3a n3 n5 HB HM
      have hB := HB6.out
      have m3 := hB.2.2.1.c.2.2.2.2
      have m3a : ∀ o, ((w7.setCell ⟨w.heap.size + 1 + 1, 3, none⟩ (.slice (some ⟨g6, 0, none⟩) (ds.length + 1) cp6)).alloc o).cell? ⟨w.heap.size + 2, 4, none⟩ = some (Y) := fun o => ((hB.below ((Below.refl _ _).alloc (Nat.le_refl _) o)).2.2.1.c).2.2.2.2
      have n3 := hB.1.c.2.2.2.2
      have n5 := hB.1.c.2.2.2.1
      have HBA : Hid (Bld w ((w7.setCell ⟨w.heap.size + 1 + 1, 3, none⟩ (.slice (some ⟨g6, 0, none⟩) (ds.length + 1) cp6)).alloc (.cells #[.int .i64 i] 3)) ⟨⟨ino, kind, data, names, inos⟩, d, .slice mo names.length mc, .slice io inos.length ic⟩ (.slice (some ⟨g6, 0, none⟩) (ds.length + 1) cp6) Y (ds ++ [s]) es) := hB.below (((Below.refl _ _).alloc (Nat.le_refl _) _))
      have HCL : Hid (∀ (j : Nat) u, [Value.int .i64 i][j]? = some u → ((w7.setCell ⟨w.heap.size + 1 + 1, 3, none⟩ (.slice (some ⟨g6, 0, none⟩) (ds.length + 1) cp6)).alloc (.cells #[.int .i64 i] 3)).cell? ((⟨w7.heap.size, 0, none⟩ : Addr).add j) = some u) := fun j u hu => by
       cases j with
       | zero =>
         simp at hu
         subst hu
         have hz : (w7.setCell ⟨w.heap.size + 1 + 1, 3, none⟩ (.slice (some ⟨g6, 0, none⟩) (ds.length + 1) cp6)).heap.size = w7.heap.size := by simp [World.setCell]
         have hw := new_cell (w7.setCell ⟨w.heap.size + 1 + 1, 3, none⟩ (.slice (some ⟨g6, 0, none⟩) (ds.length + 1) cp6)) (.int .i64 i) 3
         rw [hz] at hw
         simpa [Addr.add] using hw
       | succ j => simp at hu
      have HM : Hid (es.length + 1 ≤ maxLen ∧ (es.length + 1) * 8 ≤ 140737488355328) := HLIM.out _ (by have := HDL.out; omega) 8 (by decide)
      clear hB
      go_wp2_with (at_builtin; refine wpList_appS Tryz.underlying38 infoI rfl (by decide) (by rfl) _ _ (by rfl) (w.heap.size + 3) (Y) (es.length) (intsV .i64 (es)) (by rfl) HBA.out.2.2.2.2.1 ⟨w7.heap.size, 0, none⟩ 1 1 [.int .i64 i] (by rfl) (by rfl) HCL.out (by intro u hu; simp at hu; subst hu; rfl) HM.out.1 HM.out.2 (by have := HBA.out.2.2.1.lt; omega) ?_)
      intro Z w8 hr2 hg2
      obtain ⟨g7, cp7, rfl⟩ := own_some hr2 (Nat.succ_pos _)
      have m3b := (HBA.out.2.2.1.grown hg2 (HBA.out.2.2.1.row HBA.out.2.2.2.2.1 (by decide))).c.2.2.2.2
      have z3b := (HBA.out.2.2.1.grown hg2 (HBA.out.2.2.1.row HBA.out.2.2.2.2.1 (by decide))).fz 4
      have HB7 : Hid (Bld w (w8.setCell ⟨w.heap.size + 1 + 1, 4, none⟩ (.slice (some ⟨g7, 0, none⟩) (es.length + 1) cp7)) ⟨⟨ino, kind, data, names, inos⟩, d, .slice mo names.length mc, .slice io inos.length ic⟩ (.slice (some ⟨g6, 0, none⟩) (ds.length + 1) cp6) (.slice (some ⟨g7, 0, none⟩) (es.length + 1) cp7) (ds ++ [s]) (es ++ [i])) := HBA.out.num hg2 hr2
      clear hg2 hr2 HBA HCL m3 m3a n3 n5 HB6 HM
      obtain ⟨W9, hW9⟩ : ∃ z, z = (w8.setCell ⟨w.heap.size + 1 + 1, 4, none⟩ (.slice (some ⟨g7, 0, none⟩) (es.length + 1) cp7)) := ⟨_, rfl⟩
      rw [← hW9] at HB7
      have hB := HB7.out
      obtain ⟨m0, m1, m2, m3, m4⟩ := hB.2.2.1.c
      obtain ⟨r0, r1, r2, r3, r4⟩ := hB.2.1.c
      have z0 := hB.2.1.fz 0
      have z1 := hB.2.1.fz 1
      have z2 := hB.2.1.fz 2
      have z3 := hB.2.1.fz 3
      have z4 := hB.2.1.fz 4
      rw [hW9] at m0 m1 m2 m3 m4 r0 r1 r2 r3 r4 z0 z1 z2 z3 z4 HB7
      clear hB hW9 W9
      go_wp2
      refine bodyPost_ret (v := .agg #[.int .i64 ino, .int .i64 kind, .slice none 0 0, (.slice (some ⟨g6, 0, none⟩) (ds.length + 1) cp6), (.slice (some ⟨g7, 0, none⟩) (es.length + 1) cp7)]) (by simp [results, Tryz.results86, go_sem, *]) rfl ⟨_, _, rfl, ?_, ?_, ?_, ?_⟩
      · rw [HW.out]
        exact ⟨sees_nilV _ _, (bld_done HB7.out _ _ _ _ _).1, (bld_done HB7.out _ _ _ _ _).2.1⟩
      · exact HB7.out.fresh.1
      · exact HB7.out.fresh.2
      · exact (bld_done HB7.out _ _ _ _ _).2.2
end Go.Proofs.YtbebgobboccjcaaGreatDoor
