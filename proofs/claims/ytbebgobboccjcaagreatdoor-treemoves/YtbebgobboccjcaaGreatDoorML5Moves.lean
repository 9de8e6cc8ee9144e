/- dolmenlaw5.TreeMoves. -/
import Derived.Test.YtbebgobboccjcaaGreatDoorG7
import Derived.Test.YtbebgobboccjcaaGreatDoorG5
import Derived.Test.YtbebgobboccjcaaGreatDoorG1
import Derived.Deep.DeepCutAuto
import Derived.Deep.CutRange
namespace Go.Proofs.YtbebgobboccjcaaGreatDoor
open Go.RowKit Kit
set_option linter.unusedVariables false

/-- A tree of the law's own, and an elder reading of it, in a variable. -/
structure KM (W w : World) (p b : Nat) (t0 : TreeB) (B xb : Nat) (a4 : Option Addr) (c4 : Nat) (t : TreeB) : Prop where
  own : Own W w p b t
  row : TreeF w B (.agg #[.slice a4 t0.nodes.length c4, .int .i64 t0.next]) t0
  box : w.heap[xb]? = some (.cells #[.slice a4 t0.nodes.length c4, .int .i64 t0.next] 29)
  lt : p < B ∧ b < B
  ne : xb ≠ p ∧ xb ≠ b
theorem KM.below {W w w' : World} {p b B xb : Nat} {t0 t : TreeB} {a4 : Option Addr} {c4 : Nat} (h : KM W w p b t0 B xb a4 c4 t) (hb : Below w.heap.size w w') : KM W w' p b t0 B xb a4 c4 t := ⟨h.own.below hb, h.row.below hb, below_block hb h.box, h.lt, h.ne⟩
theorem KM.turn {W w w' : World} {p b B xb : Nat} {t0 t t' : TreeB} {a4 : Option Addr} {c4 : Nat} (h : KM W w p b t0 B xb a4 c4 t) (ho : Own W w' p b t') (ht : Turn p b w w') : KM W w' p b t0 B xb a4 c4 t' := ⟨ho, h.row.turn ht h.lt.1 h.lt.2, turn_block ht h.box h.ne.1 h.ne.2, h.lt, h.ne⟩
theorem KM.c {W w : World} {p b B xb : Nat} {t0 t : TreeB} {a4 : Option Addr} {c4 : Nat} (h : KM W w p b t0 B xb a4 c4 t) : w.cell? ⟨xb, 0, none⟩ = some (.slice a4 t0.nodes.length c4) ∧ w.cell? ⟨xb, 1, none⟩ = some (.int .i64 t0.next) ∧ xb < w.heap.size := ⟨cell_of h.box rfl, cell_of h.box rfl, (Array.getElem?_eq_some_iff.1 h.box).1⟩
/-- The nodes of a reading. -/
theorem at_nodes {w : World} {a : Option Addr} {c : Nat} {t : TreeB} (h : TreeAt w (.agg #[.slice a t.nodes.length c, .int .i64 t.next]) t) (h0 : 0 < t.nodes.length) : ∃ bb off, a = some ⟨bb, off, none⟩ ∧ bb < w.heap.size ∧ ∀ k, k < t.nodes.length → ∃ f : FN, f.n = nodeAt t k ∧ f.is w ∧ At5 w bb (off + k * 5) f := by
  obtain ⟨ao2, cap2, fs, he, _, _, f3, f4, f5⟩ := h.opened
  have hfl := fs_len f3
  obtain ⟨bb, off, hao, hbb, hc⟩ := f5 h0
  injection he with he1
  have he2 : Value.slice a t.nodes.length c = Value.slice ao2 t.nodes.length cap2 := by
    have := congrArg (fun a : Array Value => a[0]?) he1
    simpa using this
  injection he2 with he3 _ he4
  refine ⟨bb, off, by rw [he3, hao], hbb, fun k hk => ⟨fs[k]'(by omega), (fs_at f3 (by omega)).symm, f4 _ (List.getElem_mem _), hc k (by omega)⟩⟩
theorem ownW_fact {w : World} {g : Nat} {o : Nat} {v : Value} (h : w.cell? ⟨g, o, none⟩ = some v) : ∀ n : OwnW w, n.1.cell? ⟨g, o, none⟩ = some v := fun n => (n.2.cell (by exact cell_lt h)).trans h
set_option maxRecDepth 4000 in
set_option maxHeartbeats 40000000 in
theorem moves_any (v : Value) (os : List OpB) (fr tw : ByteArray) (W : World) (hO : OpsAt W v os) (hg : Tied W) :
    Calls Tryz.prog 6 #[v, .string fr, .string tw] W fun e w' => e = .returned (.bool true) ∧ Below W.heap.size W w' := by
  have HAW : Hid (∀ w1, Below W.heap.size W w1 → Calls Tryz.prog 8 #[] w1 fun e w' => e = .returned (.bool true) ∧ Below w1.heap.size w1 w') := fun w1 h => awake5_any w1 (tied_below hg h)
  have HSm : Hid (Calls Tryz.prog 7 _ W _) := small_any v os W hO
  obtain ⟨ao, cap, rfl, h2, h3⟩ := hO
  have H3 : Hid (0 < os.length → _) := h3
  clear h2 h3 hg
  go_enter Tryz.func6, Tryz.ntmps6
  go_wp2_with fail
  go_at_call 7
  refine HSm.out.mono ?_
  rintro e w1 ⟨q, rfl, hq, hb1⟩
  have HB1 : Hid (Below W.heap.size W w1) := hb1
  have HQ : Hid (q = true → os.length ≤ 80) := hq
  clear hb1 hq HSm
  have HEnd : Hid (∀ w1, Below W.heap.size W w1 → Calls Tryz.prog 8 #[] w1 fun e w' => e = .returned (.bool true) ∧ Hid (Below W.heap.size W w')) := fun w1 h => (HAW.out w1 h).mono fun e w' hh => ⟨hh.1, bel2e h hh.2⟩
  by_cases hok : q = true ∧ fr.size ≤ 100 ∧ tw.size ≤ 100
  · obtain ⟨rfl, hf2, ht2⟩ := hok
    have hl80 : os.length ≤ 80 := HQ.out rfl
    have hl8 : (os.length : Int) ≤ 80 := by omega
    have s1 : ¬ (100 : Int) < (fr.size : Int) := by omega
    have s2 : ¬ (100 : Int) < (tw.size : Int) := by omega
    have s1d : decide ((100 : Int) < (fr.size : Int)) = false := decide_eq_false s1
    have s2d : decide ((100 : Int) < (tw.size : Int)) = false := decide_eq_false s2
    have HZ : Hid (fr.size ≤ maxLen ∧ tw.size ≤ maxLen) := ⟨by unfold maxLen; omega, by unfold maxLen; omega⟩
    have HN : Hid (Calls Tryz.prog 9 _ w1 _) := lnew w1
    go_wp2_with fail
    go_at_call 9
    refine HN.out.mono ?_
    rintro e w3 ⟨p, b, rfl, HO3⟩
    have HO : Hid (Own W w3 p b newB) := own_from HB1.out HO3.out
    clear HN HO3 HB1
    go_wp2_with fail
    go_loopw [8] (fun s8 wr => ∃ (i : Nat) (t : TreeB), i ≤ os.length ∧ s8 = .int .i64 (i : Int) ∧ Hid (Own W wr p b t)) (fun s8 _ => os.length - (intOf s8).toNat)
    case atStart => exact ⟨0, newB, Nat.zero_le _, rfl, HO⟩
    case round =>
      obtain ⟨i, t, hi, rfl, HOi⟩ := hrel
      clear HO
      by_cases hin : i < os.length
      · have hii : (i : Int) < (os.length : Int) := by omega
        obtain ⟨b1, o1, rfl, hl1, hc1⟩ := H3.out (by omega)
        obtain ⟨da1, dc1, ha1, hf1⟩ := hc1 i hin
        have hwr : Below W.heap.size W wr := HOi.out.bel
        obtain ⟨c0, c1, c2, c3, c4, c5, c6⟩ := ha1.below hl1 hwr
        have HX : Hid (Calls Tryz.prog 14 _ wr _) := ldo_go os[i] da1 dc1 W wr p b t HOi.out (hf1.below hwr)
        obtain ⟨y, hy⟩ : ∃ y, y = os[i] := ⟨_, rfl⟩
        rw [← hy] at c0 c1 c2 c3 c4 c5 c6 HX
        have l1 : b1 < wr.heap.size := by have := hwr.size; omega
        clear hc1 ha1 hf1 hy hwr
        go_wp2_with fail
        go_at_call 14
        refine HX.out.mono ?_
        rintro e w4 ⟨rv, ev, rfl, HT⟩
        have HO4 : Hid (Own W w4 p b (doB t y).1) := HT.out.1
        clear HT HX HOi
        go_wp2
        go_round
        case rel => exact ⟨i + 1, _, by omega, by go_num, HO4⟩
        case measure => simp [intOf]; omega
      · have hii : ¬ (i : Int) < (os.length : Int) := by omega
        have HA1 : Hid (Calls Tryz.prog 13 _ wr _) := lallF W wr p b t HOi.out
        go_wp2_with fail
        go_at_call 13
        refine HA1.out.mono ?_
        rintro e w4 ⟨a4, c4, rfl, HT4⟩
        obtain ⟨W5, hW5⟩ : ∃ z, z = w4.alloc (.cells #[.slice a4 t.nodes.length c4, .int .i64 t.next] 29) := ⟨_, rfl⟩
        have HK5 : Hid (KM W W5 p b t wr.heap.size w4.heap.size a4 c4 t) := by
          have h4 := HOi.out.below HT4.out.2
          have hlt := h4.lt
          rw [hW5]
          exact ⟨h4.below (bel_new _ _), HT4.out.1.below (bel_new _ _), (MapKept.heap_alloc w4 _).1, HOi.out.lt, by omega, by omega⟩
        obtain ⟨xb, hxb⟩ : ∃ z, z = w4.heap.size := ⟨_, rfl⟩
        rw [← hxb] at HK5
        obtain ⟨B, hB⟩ : ∃ z, z = wr.heap.size := ⟨_, rfl⟩
        rw [← hB] at HK5
        have HG : Hid (Good t) := HOi.out.good
        have HF1 : Hid (Calls Tryz.prog 22 _ W5 _) := dfind_any fr W5 p b t HK5.out.own.tree HG.out.1.fair HZ.out.1
        clear HA1 HT4 HOi hB
        go_wp2_with fail
        go_at_call 22
        rw [← hW5]
        clear hW5
        refine HF1.out.mono ?_
        rintro e w6 ⟨rfl, hb6⟩
        have HK6 : Hid (KM W w6 p b t B xb a4 c4 t) := HK5.out.below hb6
        clear HF1 HK5 hb6
        rw [← hxb]
        clear hxb
        obtain ⟨x0, x1, x2⟩ := HK6.out.c
        have hr0 := HG.out.1.root0.1
        obtain ⟨bb, off, ha4, hbb, hnode⟩ := at_nodes HK6.out.row.at hr0
        have e0 : errV 0 = .nilIface := rfl
        have hne := ownW_nonempty w6
        have HBl : Hid (∀ n : OwnW w6, KM W n.1 p b t B xb a4 c4 t) := fun n => HK6.out.below n.2
        cases hfr : findB t fr with
        | error x =>
          have hx := find_code hfr
          have ex : errV x = .iface 80 (.int .i64 x) := by unfold errV; rw [if_neg (by omega)]
          have eo : outW2 t (.error x) = (0, x) := rfl
          rw [eo]
          simp only [ex]
          clear hfr hx ex eo hnode
          go_wp2_with fail
          refine wp_region_own (by kernel_rfl) (by kernel_rfl) ?_
          repeat (go_big_quiet_step (fail))
          refine wpQuiet_nil ?_
          intro _ hw'
          obtain ⟨m9, hw''⟩ := hw'
          subst hw''
          have HB9 : Hid (Below W.heap.size W m9.1) := (HBl.out m9).own.bel
          go_wp2_with fail
          go_at_call 8
          refine (HEnd.out _ (HB9.out)).mono ?_
          rintro e w20 ⟨rfl, HBB⟩
          go_wp2
          go_ret
          exact ⟨rfl, HBB.out⟩
        | ok k =>
          have eo : outW2 t (.ok k) = ((nodeAt t k).ino, 0) := rfl
          rw [eo]
          simp only [e0]
          obtain ⟨_, _, hkl⟩ := find_ok HG.out.1 hfr
          obtain ⟨f, hfn, hfi, ha5⟩ := hnode k hkl
          obtain ⟨_, y1, _, _, _⟩ := id ha5
          rw [hfn] at y1
          have HPl : Hid (∀ n : OwnW w6, Calls Tryz.prog 23 #[.agg #[.slice a4 t.nodes.length c4, .int .i64 t.next], .int .i64 (nodeAt t k).ino] n.1 fun e w' => e = .returned (.int .i64 (k : Int)) ∧ ∃ m : OwnW w6, w' = m.1) := fun n => Calls.own_of (by
            have := place_any _ t (nodeAt t k).ino n.1 (HBl.out n).row.at
            have e1 : placeB t (nodeAt t k).ino = (k : Int) := by unfold placeB; rw [placeO_at HG.out.1.rise hkl]
            rw [e1] at this
            exact this)
          obtain ⟨I, hI⟩ : ∃ I, (nodeAt t k).ino = I := ⟨_, rfl⟩
          obtain ⟨kd, hkd⟩ : ∃ z, (nodeAt t k).kind = z := ⟨_, rfl⟩
          rw [hI] at HPl ⊢
          rw [hkd] at y1
          subst ha4
          have t0 := ownW_fact x0
          have t1 := ownW_fact x1
          have t2 := ownW_fact y1
          have kl : (k : Int) < (t.nodes.length : Int) := by omega
          have kz : (0 : Int) ≤ (k : Int) := by omega
          have kn : decide ((k : Int) < 0) = false := decide_eq_false (by omega)
          by_cases hk2 : kd = 2
          · subst hk2
            by_cases hsl : fr = ⟨#[47]⟩
            · have hse : (fr.toList == [47]) = true := beq_iff_eq.2 (by rw [toList_eq_iff]; exact hsl)
              go_wp2_with fail
              refine wp_region_own (by kernel_rfl) (by kernel_rfl) ?_
              repeat (go_big_quiet_step (exact HPl.out _))
              refine wpQuiet_nil ?_
              intro _ hw'
              obtain ⟨m9, hw''⟩ := hw'
              subst hw''
              have HB9 : Hid (Below W.heap.size W m9.1) := (HBl.out m9).own.bel
              go_wp2_with fail
              go_at_call 8
              refine (HEnd.out _ (HB9.out)).mono ?_
              rintro e w20 ⟨rfl, HBB⟩
              go_wp2
              go_ret
              exact ⟨rfl, HBB.out⟩
            · have hse : (fr.toList == [47]) = false := beq_mk fr [47] hsl
              go_wp2_with fail
              refine wp_region_own (by kernel_rfl) (by kernel_rfl) ?_
              repeat (go_big_quiet_step (exact HPl.out _))
              refine wpQuiet_nil ?_
              intro _ hw'
              obtain ⟨m9, hw''⟩ := hw'
              subst hw''
              have HK7 : Hid (KM W m9.1 p b t B xb (some ⟨bb, off, none⟩) c4 t) := HBl.out m9
              obtain ⟨w7, hw7⟩ : ∃ z, m9.1 = z := ⟨_, rfl⟩
              rw [hw7] at HK7 ⊢
              clear hw7 m9 t0 t1 t2 HPl HBl hne x0 x1 x2 y1 HK6
              have HNk : Hid (findB t fr = .ok k ∧ (nodeAt t k).kind = 2 ∧ k < t.nodes.length ∧ (nodeAt t k).ino = I) := ⟨hfr, hkd, hkl, hI⟩
              have HUn : Hid (∀ U, Calls Tryz.prog 24 #[.string tw, .string fr] U fun e w' => e = .returned (.bool (underB tw fr)) ∧ Below U.heap.size U w') := fun U => under_any tw fr U HZ.out.2 HZ.out.1
              have HSa : Hid (∀ U va vb, TreeAt U va t → TreeAt U vb t → Calls Tryz.prog 12 #[va, vb] U fun e w' => e = .returned (.bool true) ∧ Below U.heap.size U w') := fun U va vb h1 h2 => tsame_any va vb t U h1 h2 (good_kinds HG.out) HG.out.1.size
              have HAl : Hid (∀ U, KM W U p b t B xb (some ⟨bb, off, none⟩) c4 t → Calls Tryz.prog 13 #[.pointer (some ⟨p, 0, none⟩)] U fun e w' => ∃ a c, e = .returned (.agg #[.slice a t.nodes.length c, .int .i64 t.next]) ∧ w'.cell? ⟨xb, 0, none⟩ = some (.slice (some ⟨bb, off, none⟩) t.nodes.length c4) ∧ w'.cell? ⟨xb, 1, none⟩ = some (.int .i64 t.next) ∧ xb < w'.heap.size ∧ Hid (KM W w' p b t B xb (some ⟨bb, off, none⟩) c4 t ∧ TreeAt w' (.agg #[.slice a t.nodes.length c, .int .i64 t.next]) t)) := fun U h => by
                refine (lallF W U p b t h.own).mono ?_
                rintro e w' ⟨a, c, he, HX⟩
                have h' := h.below HX.out.2
                obtain ⟨c0, c1, c2⟩ := h'.c
                exact ⟨a, c, he, c0, c1, c2, ⟨h', HX.out.1.at⟩⟩
              have HSL : Hid (fr ≠ ⟨#[47]⟩) := hsl
              have HS1 : Hid (fr.size ≤ 100) := hf2
              clear hfr hkd hfn hfi ha5 hI hnode hbb eo hsl
              obtain ⟨o, ho⟩ : ∃ o : OpB, o = ⟨5, fr, tw, 0, 0, [], 0⟩ := ⟨_, rfl⟩
              have HFd : Hid (∀ c r t', doB t o = (t', r, c) → c ≠ 0 → Calls Tryz.prog 14 #[.pointer (some ⟨p, 0, none⟩), .agg #[.int .i64 5, .string fr, .string tw, .int .i64 0, .int .i64 0, .slice none 0 0, .int .i64 0]] w7 fun e w' => ∃ ra rc na nc sa sc g, e = .returned (.tuple #[.agg #[.int .i64 r.ino, .int .i64 r.kind, .int .i64 r.size, .int .i64 r.links, .int .i64 r.n, .slice ra r.data.length rc, .slice na r.names.length nc, .slice sa r.snaps.length sc], .iface 85 (.pointer (some ⟨g, 0, none⟩))]) ∧ Hid (KM W w' p b t B xb (some ⟨bb, off, none⟩) c4 t' ∧ w'.heap[g]? = some (.cells #[.string treeS, .string fr, .iface 80 (.int .i64 c)] 89))) := fun c r t' hd hc => by
                rw [ho] at hd
                refine (ldo_err ⟨5, fr, tw, 0, 0, [], 0⟩ none 0 W w7 p b t _ _ _ HK7.out.own HZ.out.1 HZ.out.2 bytesIn_nil (sees_noData w7) hd hc).mono ?_
                rintro e w' ⟨ra, rc, na, nc, sa, sc, g, he, hh⟩
                exact ⟨ra, rc, na, nc, sa, sc, g, he, ⟨HK7.out.turn hh.out.2.1 hh.out.2.2, hh.out.1⟩⟩
              by_cases hun : underB tw fr = true ∧ tw ≠ fr
              · -- into itself
                obtain ⟨hu1, hu2⟩ := hun
                have hX := HFd.out 10 noReply t (rename_loop HG.out o (by rw [ho]) (by rw [ho]; exact HNk.out.1) HNk.out.2.1 (by rw [ho]; exact HSL.out) (by rw [ho]; exact hu1) (by rw [ho]; exact hu2)) (by omega)
                have hq1 : (tw.toList == fr.toList) = false := by rw [bytes_eq]; simp [hu2]
                have HX : Hid (Calls Tryz.prog 14 _ w7 _) := hX
                clear hX HFd ho
                go_wp2_with fail
                go_at_call 14
                refine HX.out.mono ?_
                rintro e w8 ⟨ra, rc, na, nc, sa, sc, g, rfl, HK8⟩
                clear HX HK7
                obtain ⟨W9, hW9⟩ : ∃ z, z = w8.alloc (.cells #[.int .i64 noReply.ino, .int .i64 noReply.kind, .int .i64 noReply.size, .int .i64 noReply.links, .int .i64 noReply.n, .slice ra noReply.data.length rc, .slice na noReply.names.length nc, .slice sa noReply.snaps.length sc] 40) := ⟨_, rfl⟩
                have HK9 : Hid (KM W W9 p b t B xb (some ⟨bb, off, none⟩) c4 t ∧ W9.heap[g]? = some (.cells #[.string treeS, .string fr, .iface 80 (.int .i64 10)] 89)) := by
                  rw [hW9]; exact ⟨HK8.out.1.below (bel_new _ _), below_block (bel_new _ _) HK8.out.2⟩
                clear HK8
                go_wp2_with fail
                go_at_call 24
                rw [← hW9]
                clear hW9
                refine (HUn.out _).mono ?_
                rintro e w10 ⟨rfl, hb10⟩
                rw [hu1]
                have HK10 : Hid (KM W w10 p b t B xb (some ⟨bb, off, none⟩) c4 t) := HK9.out.1.below hb10
                have HC : Hid (∀ U, Below w10.heap.size w10 U → Calls Tryz.prog 25 #[.iface 85 (.pointer (some ⟨g, 0, none⟩))] U fun e w' => e = .returned (.int .i64 10) ∧ w'.cell? ⟨xb, 0, none⟩ = some (.slice (some ⟨bb, off, none⟩) t.nodes.length c4) ∧ w'.cell? ⟨xb, 1, none⟩ = some (.int .i64 t.next) ∧ xb < w'.heap.size ∧ Hid (KM W w' p b t B xb (some ⟨bb, off, none⟩) c4 t)) := fun U hU => (code_fault 10 U g treeS fr (by omega) (by omega) (below_block hU (below_block hb10 HK9.out.2)) (by decide) (by have := HS1.out; omega)).mono fun e w' h => ⟨h.1, ((HK10.out.below hU).below h.2).c.1, ((HK10.out.below hU).below h.2).c.2.1, ((HK10.out.below hU).below h.2).c.2.2, (HK10.out.below hU).below h.2⟩
                clear HK9 hb10 HUn
                go_wp2_with fail
                go_region_with (first
                  | (go_at_call 25; refine (HC.out _ (by first | exact Below.refl _ _ | exact (Below.refl _ _).drew)).mono ?_; rintro e w11 ⟨rfl, y0, y1, y2, HK11⟩)
                  | (go_at_call 13; refine (HAl.out _ (by first | exact HK11.out | exact HK11.out.below (Below.refl _ _).drew)).mono ?_; rintro e w12 ⟨a12, c12, rfl, z0, z1, z2, HK12⟩)
                  | (go_at_call 12; refine (HSa.out _ _ _ HK12.out.2 HK12.out.1.row.at).mono ?_; rintro e w13 ⟨rfl, hb13⟩)
                  | (go_at_call 8; refine (HEnd.out _ (bel2e HK12.out.1.own.bel hb13)).mono ?_; rintro e w14 ⟨rfl, HBB⟩))
                all_goals (
                  go_wp2
                  go_ret
                  exact ⟨rfl, HBB.out⟩)
              · have hnu : (underB tw fr && !(tw.toList == fr.toList)) = false := by
                  rw [bytes_eq]
                  cases hu : underB tw fr with
                  | false => rfl
                  | true =>
                    have : tw = fr := Decidable.byContradiction fun h => hun ⟨hu, h⟩
                    simp [this]
                have HNU : Hid ((underB tw fr = false) ∨ (underB tw fr = true ∧ (tw.toList == fr.toList) = true)) := by
                  cases hu : underB tw fr with
                  | false => exact .inl rfl
                  | true =>
                    rw [hu] at hnu
                    exact .inr ⟨rfl, by simpa using hnu⟩
                clear hnu hun
                by_cases hc : (doB t o).2.2 = 0
                · obtain ⟨j, hjl, hjn⟩ := rename_moves HG.out o (by rw [ho]) hc (by rw [ho]; exact bytesIn_nil) (by rw [ho]; exact HNk.out.1) HNk.out.2.1
                  have HDo : Hid (Calls Tryz.prog 14 #[.pointer (some ⟨p, 0, none⟩), .agg #[.int .i64 5, .string fr, .string tw, .int .i64 0, .int .i64 0, .slice none 0 0, .int .i64 0]] w7 fun e w' => ∃ ra rc na nc sa sc, e = .returned (.tuple #[.agg #[.int .i64 (doB t o).2.1.ino, .int .i64 (doB t o).2.1.kind, .int .i64 (doB t o).2.1.size, .int .i64 (doB t o).2.1.links, .int .i64 (doB t o).2.1.n, .slice ra (doB t o).2.1.data.length rc, .slice na (doB t o).2.1.names.length nc, .slice sa (doB t o).2.1.snaps.length sc], .nilIface]) ∧ Hid (KM W w' p b t B xb (some ⟨bb, off, none⟩) c4 (doB t o).1)) := by
                    subst ho
                    refine (ldo_ok ⟨5, fr, tw, 0, 0, [], 0⟩ none 0 W w7 p b t _ _ HK7.out.own HZ.out.1 HZ.out.2 bytesIn_nil (sees_noData w7) (Prod.ext rfl (Prod.ext rfl hc))).mono ?_
                    rintro e w' ⟨ra, rc, na, nc, sa, sc, he, hh⟩
                    exact ⟨ra, rc, na, nc, sa, sc, he, HK7.out.turn hh.out.2.2.1 hh.out.2.2.2⟩
                  obtain ⟨t', ht'⟩ : ∃ t', (doB t o).1 = t' := ⟨_, rfl⟩
                  obtain ⟨r, hr⟩ : ∃ r, (doB t o).2.1 = r := ⟨_, rfl⟩
                  rw [ht'] at HDo hjl hjn
                  rw [hr] at HDo
                  have HJ : Hid (j < t'.nodes.length ∧ nodeAt t' j = nodeAt t k) := ⟨hjl, hjn⟩
                  clear HFd ho hc ht' hr hjl hjn HSa HAl
                  go_wp2_with fail
                  go_at_call 14
                  refine HDo.out.mono ?_
                  rintro e w8 ⟨ra, rc, na, nc, sa, sc, rfl, HK8⟩
                  clear HDo HK7
                  obtain ⟨W9, hW9⟩ : ∃ z, z = w8.alloc (.cells #[.int .i64 r.ino, .int .i64 r.kind, .int .i64 r.size, .int .i64 r.links, .int .i64 r.n, .slice ra r.data.length rc, .slice na r.names.length nc, .slice sa r.snaps.length sc] 40) := ⟨_, rfl⟩
                  have HK9 : Hid (KM W W9 p b t B xb (some ⟨bb, off, none⟩) c4 t') := by
                    rw [hW9]; exact HK8.out.below (bel_new _ _)
                  clear HK8
                  go_upto_region 15 with fail
                  rw [← hW9]
                  clear hW9
                  go_cut [93] (fun c wx => c = .bool false ∧ Hid (KM W wx p b t B xb (some ⟨bb, off, none⟩) c4 t'))
                  case first =>
                    go_wp2_with fail
                    go_at_call 24
                    refine (HUn.out _).mono ?_
                    rintro e w10 ⟨rfl, hb10⟩
                    have HK10 : Hid (KM W w10 p b t B xb (some ⟨bb, off, none⟩) c4 t') := HK9.out.below hb10
                    rcases HNU.out with hu | ⟨hu, hq⟩
                    · rw [hu]
                      go_wp2_with fail
                      go_meet
                      case rel => exact ⟨rfl, HK10⟩
                    · rw [hu]
                      go_wp2_with fail
                      go_meet
                      case rel => exact ⟨rfl, HK10⟩
                  case rest =>
                    obtain ⟨rfl, HK10⟩ := hcut
                    obtain ⟨w10, hw10⟩ : ∃ z, wc = z := ⟨_, rfl⟩
                    rw [hw10] at HK10 ⊢
                    clear hw10 HK9 HUn
                    have HA2 : Hid (Calls Tryz.prog 13 _ w10 _) := lallF W w10 p b t' HK10.out.own
                    have HNow : Hid (∀ (U : World) (a : Option Addr) (c : Nat), TreeF U w10.heap.size (.agg #[.slice a t'.nodes.length c, .int .i64 t'.next]) t' ∧ Below w10.heap.size w10 U → KM W (U.alloc (.cells #[.slice a t'.nodes.length c, .int .i64 t'.next] 29)) p b t B xb (some ⟨bb, off, none⟩) c4 t' ∧ TreeAt (U.alloc (.cells #[.slice a t'.nodes.length c, .int .i64 t'.next] 29)) (.agg #[.slice a t'.nodes.length c, .int .i64 t'.next]) t' ∧ (U.alloc (.cells #[.slice a t'.nodes.length c, .int .i64 t'.next] 29)).heap[U.heap.size]? = some (.cells #[.slice a t'.nodes.length c, .int .i64 t'.next] 29)) := fun U a c h => ⟨(HK10.out.below h.2).below (bel_new _ _), (h.1.at).below (bel_new _ _), (MapKept.heap_alloc U _).1⟩
                    go_wp2_with fail
                    go_at_call 13
                    refine HA2.out.mono ?_
                    rintro e w12 ⟨a12, c12, rfl, HT12⟩
                    obtain ⟨W13, hW13⟩ : ∃ z, z = w12.alloc (.cells #[.slice a12 t'.nodes.length c12, .int .i64 t'.next] 29) := ⟨_, rfl⟩
                    have HN : Hid (KM W W13 p b t B xb (some ⟨bb, off, none⟩) c4 t' ∧ TreeAt W13 (.agg #[.slice a12 t'.nodes.length c12, .int .i64 t'.next]) t' ∧ W13.heap[w12.heap.size]? = some (.cells #[.slice a12 t'.nodes.length c12, .int .i64 t'.next] 29)) := by rw [hW13]; exact HNow.out w12 a12 c12 HT12.out
                    obtain ⟨nb, hnb⟩ : ∃ z, z = w12.heap.size := ⟨_, rfl⟩
                    rw [← hnb] at HN
                    clear HNow HA2 HK10 HT12
                    go_upto_region 20 with fail
                    rw [← hW13, ← hnb]
                    clear hW13 hnb
                    obtain ⟨bb1, off1, hab, hbb, hnode⟩ := at_nodes HN.out.1.row.at (show 0 < t.nodes.length by omega)
                    injection hab with hab
                    injection hab with hab1 hab2
                    subst hab1 hab2
                    obtain ⟨f, hfn, hfi, ha5⟩ := hnode k HNk.out.2.2.1
                    obtain ⟨⟨ino, kind, data, names, inos⟩, d, m, iv⟩ := f
                    obtain ⟨hd, hm, hi⟩ := hfi
                    simp only at hd hm hi hfn
                    obtain ⟨dox, dc, rfl, _⟩ := id hd
                    obtain ⟨mo, mc, rfl, _⟩ := id hm
                    obtain ⟨io, ic, rfl, _⟩ := id hi
                    have HSe : Hid (Sees W13 (.slice mo (strs names).length mc) (strs names) ∧ Sees W13 (.slice io (intsV .i64 inos).length ic) (intsV .i64 inos)) := ⟨hm, hi⟩
                    have HFN : Hid (nodeAt t k = ⟨ino, kind, data, names, inos⟩) := hfn.symm
                    obtain ⟨y0, y1, y2, y3, y4⟩ := ha5
                    simp only at y0 y1 y2 y3 y4
                    obtain ⟨x0, x1, x2⟩ := HN.out.1.c
                    have HPk : Hid (∀ U, Below W13.heap.size W13 U → Calls Tryz.prog 23 #[.agg #[.slice (some ⟨bb, off, none⟩) t.nodes.length c4, .int .i64 t.next], .int .i64 I] U fun e w' => e = .returned (.int .i64 (k : Int)) ∧ w'.cell? ⟨xb, 0, none⟩ = some (.slice (some ⟨bb, off, none⟩) t.nodes.length c4) ∧ xb < w'.heap.size ∧ w'.cell? ⟨bb, off + k * 5, none⟩ = some (.int .i64 ino) ∧ w'.cell? ⟨bb, off + k * 5 + 1, none⟩ = some (.int .i64 kind) ∧ w'.cell? ⟨bb, off + k * 5 + 2, none⟩ = some (.slice dox (intsV .u8 data).length dc) ∧ w'.cell? ⟨bb, off + k * 5 + 3, none⟩ = some (.slice mo (strs names).length mc) ∧ w'.cell? ⟨bb, off + k * 5 + 4, none⟩ = some (.slice io (intsV .i64 inos).length ic) ∧ bb < w'.heap.size ∧ Hid (Below W13.heap.size W13 w')) := fun U hU => by
                      have h1 := place_any _ t I U ((HN.out.1.below hU).row.at)
                      have e1 : placeB t I = (k : Int) := by unfold placeB; rw [← HNk.out.2.2.2, placeO_at HG.out.1.rise HNk.out.2.2.1]
                      rw [e1] at h1
                      refine h1.mono ?_
                      rintro e w' ⟨rfl, hb'⟩
                      have hbw := bel2v hU hb'
                      obtain ⟨c0, c1, c2⟩ := (HN.out.1.below hbw).c
                      exact ⟨rfl, c0, c2, (hbw.cell (by exact hbb)).trans y0, (hbw.cell (by exact hbb)).trans y1, (hbw.cell (by exact hbb)).trans y2, (hbw.cell (by exact hbb)).trans y3, (hbw.cell (by exact hbb)).trans y4, Nat.lt_of_lt_of_le hbb hbw.size, hbw⟩
                    have HPz : Hid (Calls Tryz.prog 23 #[.agg #[.slice (some ⟨bb, off, none⟩) t.nodes.length c4, .int .i64 t.next], .int .i64 I] (W13.alloc (.cells #[.int .i64 0, .int .i64 0, .slice none 0 0, .slice none 0 0, .slice none 0 0] 60)).drew fun e w' => e = .returned (.int .i64 (k : Int)) ∧ (w'.cell? ⟨xb, 0, none⟩ = some (.slice (some ⟨bb, off, none⟩) t.nodes.length c4) ∧ xb < w'.heap.size ∧ w'.cell? ⟨bb, off + k * 5, none⟩ = some (.int .i64 ino) ∧ w'.cell? ⟨bb, off + k * 5 + 1, none⟩ = some (.int .i64 kind) ∧ w'.cell? ⟨bb, off + k * 5 + 2, none⟩ = some (.slice dox (intsV .u8 data).length dc) ∧ w'.cell? ⟨bb, off + k * 5 + 3, none⟩ = some (.slice mo (strs names).length mc) ∧ w'.cell? ⟨bb, off + k * 5 + 4, none⟩ = some (.slice io (intsV .i64 inos).length ic) ∧ bb < w'.heap.size) ∧ (w'.cell? ⟨W13.heap.size, 0, none⟩ = some (.int .i64 0) ∧ w'.cell? ⟨W13.heap.size, 1, none⟩ = some (.int .i64 0) ∧ w'.cell? ⟨W13.heap.size, 2, none⟩ = some (.slice none 0 0) ∧ w'.cell? ⟨W13.heap.size, 3, none⟩ = some (.slice none 0 0) ∧ w'.cell? ⟨W13.heap.size, 4, none⟩ = some (.slice none 0 0) ∧ (∀ j, w'.frozen? ⟨W13.heap.size, j, none⟩ = false) ∧ W13.heap.size < w'.heap.size) ∧ Hid (Below W13.heap.size W13 w') ∧ Hid (PBox w' W13.heap.size (.int .i64 0) (.int .i64 0) (.slice none 0 0) (.slice none 0 0) (.slice none 0 0))) := by
                      have hz : Below W13.heap.size W13 (W13.alloc (.cells #[.int .i64 0, .int .i64 0, .slice none 0 0, .slice none 0 0, .slice none 0 0] 60)).drew := ((Below.refl _ _).alloc (Nat.le_refl _) _).drew
                      have h1 := place_any _ t I (W13.alloc (.cells #[.int .i64 0, .int .i64 0, .slice none 0 0, .slice none 0 0, .slice none 0 0] 60)).drew ((HN.out.1.below hz).row.at)
                      have e1 : placeB t I = (k : Int) := by unfold placeB; rw [← HNk.out.2.2.2, placeO_at HG.out.1.rise HNk.out.2.2.1]
                      rw [e1] at h1
                      refine h1.mono ?_
                      rintro e w' ⟨rfl, hb'⟩
                      have hbw := bel2v hz hb'
                      obtain ⟨c0, c1, c2⟩ := (HN.out.1.below hbw).c
                      have hP : PBox w' W13.heap.size (.int .i64 0) (.int .i64 0) (.slice none 0 0) (.slice none 0 0) (.slice none 0 0) := below_block hb' (MapKept.heap_alloc W13 _).1
                      have hcc := hP
                      unfold PBox at hcc
                      refine ⟨rfl, ⟨c0, c2, (hbw.cell (by exact hbb)).trans y0, (hbw.cell (by exact hbb)).trans y1, (hbw.cell (by exact hbb)).trans y2, (hbw.cell (by exact hbb)).trans y3, (hbw.cell (by exact hbb)).trans y4, Nat.lt_of_lt_of_le hbb hbw.size⟩, ⟨cell_of hcc rfl, cell_of hcc rfl, cell_of hcc rfl, cell_of hcc rfl, cell_of hcc rfl, fun j => by simp [World.frozen?, hcc], (Array.getElem?_eq_some_iff.1 hcc).1⟩, hbw, hP⟩
                    clear hnode hfn hd hm hi
                    go_cut [15] (fun s15 wc => ∃ ab, s15 = .pointer (some ⟨ab, 0, none⟩) ∧ Hid (Below W13.heap.size W13 wc ∧ wc.heap[ab]? = some (.cells #[.int .i64 ino, .int .i64 kind, .slice dox (intsV .u8 data).length dc, .slice mo (strs names).length mc, .slice io (intsV .i64 inos).length ic] 60)))
                    case first =>
                      go_region_with (first
                        | (go_at_call 23; refine (HPk.out _ (by first | exact Below.refl _ _ | exact (Below.refl _ _).drew)).mono ?_; rintro e w14 ⟨rfl, v0, v2, z0, z1, z2, z3, z4, z5, HB14⟩)
                        | (go_at_call 23; refine HPz.out.mono ?_; rintro e w14 ⟨rfl, ⟨v0, v2, z0, z1, z2, z3, z4, z5⟩, ⟨p0, p1, p2, p3, p4, pf, pl⟩, HB14, HPB⟩))
                      all_goals (
                        go_wp2_with fail
                        go_meet
                        case rel =>
                          first
                            | exact ⟨_, rfl, ⟨outQ_below HB14.out (Nat.le_refl _) _ _ _ _ _, outQ_box HPB.out _ _ _ _ _⟩⟩
                            | exact ⟨_, rfl, ⟨bel2v HB14.out (bel_new _ _), (MapKept.heap_alloc w14 _).1⟩⟩)
                    case rest =>
                      obtain ⟨ab, rfl, HC⟩ := hcut
                      have HN2 : Hid (KM W wc p b t B xb (some ⟨bb, off, none⟩) c4 t' ∧ TreeAt wc (.agg #[.slice a12 t'.nodes.length c12, .int .i64 t'.next]) t' ∧ wc.heap[nb]? = some (.cells #[.slice a12 t'.nodes.length c12, .int .i64 t'.next] 29)) := ⟨HN.out.1.below HC.out.1, HN.out.2.1.below HC.out.1, below_block HC.out.1 HN.out.2.2⟩
                      have HS2 : Hid (Sees wc (.slice mo (strs names).length mc) (strs names) ∧ Sees wc (.slice io (intsV .i64 inos).length ic) (intsV .i64 inos)) := ⟨HSe.out.1.below HC.out.1, HSe.out.2.below HC.out.1⟩
                      have HAb : Hid (wc.heap[ab]? = some (.cells #[.int .i64 ino, .int .i64 kind, .slice dox (intsV .u8 data).length dc, .slice mo (strs names).length mc, .slice io (intsV .i64 inos).length ic] 60)) := HC.out.2
                      clear HC HPk HPz HN HSe x0 x1 x2 y0 y1 y2 y3 y4
                      have n0 := cell_of (j := 0) HN2.out.2.2 rfl
                      have n1 := cell_of (j := 1) HN2.out.2.2 rfl
                      have nl := cell_lt n0
                      have HPj : Hid (Calls Tryz.prog 23 #[.agg #[.slice a12 t'.nodes.length c12, .int .i64 t'.next], .int .i64 I] wc fun e w' => e = .returned (.int .i64 (j : Int)) ∧ Below wc.heap.size wc w') := by
                        have h1 := place_any _ t' I wc HN2.out.2.1
                        have e1 : placeB t' I = (j : Int) := by
                          unfold placeB
                          rw [← HNk.out.2.2.2, ← HJ.out.2, placeO_at HN2.out.1.own.good.1.rise HJ.out.1]
                        rw [e1] at h1
                        exact h1
                      go_wp2_with fail
                      go_at_call 23
                      refine HPj.out.mono ?_
                      rintro e w15 ⟨rfl, hb15⟩
                      have HN3 : Hid (KM W w15 p b t B xb (some ⟨bb, off, none⟩) c4 t' ∧ TreeAt w15 (.agg #[.slice a12 t'.nodes.length c12, .int .i64 t'.next]) t' ∧ w15.heap[nb]? = some (.cells #[.slice a12 t'.nodes.length c12, .int .i64 t'.next] 29)) := ⟨HN2.out.1.below hb15, HN2.out.2.1.below hb15, below_block hb15 HN2.out.2.2⟩
                      have HS3 : Hid (Sees w15 (.slice mo (strs names).length mc) (strs names) ∧ Sees w15 (.slice io (intsV .i64 inos).length ic) (intsV .i64 inos)) := ⟨HS2.out.1.below hb15, HS2.out.2.below hb15⟩
                      have HA3 : Hid (w15.heap[ab]? = some (.cells #[.int .i64 ino, .int .i64 kind, .slice dox (intsV .u8 data).length dc, .slice mo (strs names).length mc, .slice io (intsV .i64 inos).length ic] 60)) := below_block hb15 HAb.out
                      clear HPj hb15 HN2 HS2 HAb n0 n1 nl
                      obtain ⟨bb2, off2, hab2, hbb2, hnode2⟩ := at_nodes HN3.out.2.1 (Nat.lt_of_le_of_lt (Nat.zero_le _) HJ.out.1)
                      subst hab2
                      obtain ⟨f2, hfn2, hfi2, ha52⟩ := hnode2 j HJ.out.1
                      rw [HJ.out.2, HFN.out] at hfn2
                      obtain ⟨n2, d2, m2, i2⟩ := f2
                      simp only at hfn2
                      subst hfn2
                      obtain ⟨_, hm2, hi2⟩ := hfi2
                      obtain ⟨_, _, _, y3, y4⟩ := ha52
                      simp only at hm2 hi2 y3 y4
                      have t0 := ownW_fact (cell_of (j := 0) HN3.out.2.2 rfl)
                      have t1 := ownW_fact (cell_of (j := 3) HA3.out rfl)
                      have t2 := ownW_fact (cell_of (j := 4) HA3.out rfl)
                      have t3 := ownW_fact y3
                      have t4 := ownW_fact y4
                      have hne := ownW_nonempty w15
                      have HTx : Hid (∀ n : OwnW w15, Calls Tryz.prog 26 #[m2, .slice mo (strs names).length mc] n.1 fun e w' => e = .returned (.bool true) ∧ ∃ m : OwnW w15, w' = m.1) := fun n => Calls.own_of (by
                        have := texts_any _ _ names names n.1 (hm2.below n.2) (HS3.out.1.below n.2)
                        rw [decide_eq_true (rfl : names = names)] at this
                        exact this)
                      have HIn : Hid (∀ n : OwnW w15, Calls Tryz.prog 27 #[i2, .slice io (intsV .i64 inos).length ic] n.1 fun e w' => e = .returned (.bool true) ∧ ∃ m : OwnW w15, w' = m.1) := fun n => Calls.own_of (ints_same _ _ inos n.1 (hi2.below n.2) (HS3.out.2.below n.2))
                      have HAk : Hid (∀ n : OwnW w15, Calls Tryz.prog 8 #[] n.1 fun e w' => e = .returned (.bool true) ∧ ∃ m : OwnW w15, w' = m.1) := fun n => Calls.own_of (HAW.out n.1 (HN3.out.1.below n.2).own.bel)
                      have HBe : Hid (∀ n : OwnW w15, Below W.heap.size W n.1) := fun n => (HN3.out.1.below n.2).own.bel
                      have jl : (j : Int) < (t'.nodes.length : Int) := by have := HJ.out.1; omega
                      have jz : (0 : Int) ≤ (j : Int) := by omega
                      have jd : decide ((0 : Int) ≤ (j : Int)) = true := decide_eq_true jz
                      clear hnode2 hm2 hi2 y3 y4
                      go_wp2_with fail
                      refine wp_region_own (by kernel_rfl) (by kernel_rfl) ?_
                      repeat (go_big_quiet_step (first | exact HTx.out _ | exact HIn.out _ | exact HAk.out _))
                      refine wpQuiet_nil ?_
                      intro _ hw'
                      obtain ⟨m9, hw''⟩ := hw'
                      subst hw''
                      clear t0 t1 t2 t3 t4
                      go_wp2
                      go_ret
                      exact ⟨rfl, HBe.out m9⟩
                · have hX := HFd.out (doB t o).2.2 (doB t o).2.1 (doB t o).1 rfl hc
                  rw [(do_refused t o hc).1] at hX
                  obtain ⟨c, hcc⟩ : ∃ c, (doB t o).2.2 = c := ⟨_, rfl⟩
                  obtain ⟨r, hr⟩ : ∃ r, (doB t o).2.1 = r := ⟨_, rfl⟩
                  rw [hcc, hr] at hX
                  have HX : Hid (Calls Tryz.prog 14 _ w7 _) := hX
                  clear hX HFd ho hc hcc hr
                  go_wp2_with fail
                  go_at_call 14
                  refine HX.out.mono ?_
                  rintro e w8 ⟨ra, rc, na, nc, sa, sc, g, rfl, HK8⟩
                  clear HX HK7
                  obtain ⟨W9, hW9⟩ : ∃ z, z = w8.alloc (.cells #[.int .i64 r.ino, .int .i64 r.kind, .int .i64 r.size, .int .i64 r.links, .int .i64 r.n, .slice ra r.data.length rc, .slice na r.names.length nc, .slice sa r.snaps.length sc] 40) := ⟨_, rfl⟩
                  have HK9 : Hid (KM W W9 p b t B xb (some ⟨bb, off, none⟩) c4 t) := by
                    rw [hW9]; exact HK8.out.1.below (bel_new _ _)
                  clear HK8
                  go_wp2_with fail
                  go_at_call 24
                  rw [← hW9]
                  clear hW9
                  refine (HUn.out _).mono ?_
                  rintro e w10 ⟨rfl, hb10⟩
                  have HK10 : Hid (KM W w10 p b t B xb (some ⟨bb, off, none⟩) c4 t) := HK9.out.below hb10
                  obtain ⟨y0, y1, y2⟩ := HK10.out.c
                  clear HK9 hb10 HUn
                  rcases HNU.out with hu | ⟨hu, hq⟩
                  all_goals (
                    rw [hu]
                    go_wp2_with fail
                    go_region_with (first
                      | (go_at_call 13; refine (HAl.out _ (by first | exact HK10.out | exact HK10.out.below (Below.refl _ _).drew)).mono ?_; rintro e w12 ⟨a12, c12, rfl, z0, z1, z2, HK12⟩)
                      | (go_at_call 12; refine (HSa.out _ _ _ HK12.out.2 HK12.out.1.row.at).mono ?_; rintro e w13 ⟨rfl, hb13⟩)
                      | (go_at_call 8; refine (HEnd.out _ (bel2e HK12.out.1.own.bel hb13)).mono ?_; rintro e w14 ⟨rfl, HBB⟩))
                    all_goals (
                      go_wp2
                      go_ret
                      exact ⟨rfl, HBB.out⟩))
          · have hkn : (kd != 2) = true := by simp [hk2]
            go_wp2_with fail
            refine wp_region_own (by kernel_rfl) (by kernel_rfl) ?_
            repeat (go_big_quiet_step (exact HPl.out _))
            refine wpQuiet_nil ?_
            intro _ hw'
            obtain ⟨m9, hw''⟩ := hw'
            subst hw''
            have HB9 : Hid (Below W.heap.size W m9.1) := (HBl.out m9).own.bel
            go_wp2_with fail
            go_at_call 8
            refine (HEnd.out _ (HB9.out)).mono ?_
            rintro e w20 ⟨rfl, HBB⟩
            go_wp2
            go_ret
            exact ⟨rfl, HBB.out⟩
  · have hcs : (q = false) ∨ (q = true ∧ 100 < fr.size) ∨ (q = true ∧ fr.size ≤ 100 ∧ 100 < tw.size) := by
      cases q
      · exact .inl rfl
      · right
        by_cases h1 : 100 < fr.size
        · exact .inl ⟨rfl, h1⟩
        · right
          refine ⟨rfl, by omega, ?_⟩
          apply Decidable.byContradiction
          intro h2
          exact hok ⟨rfl, by omega, by omega⟩
    clear hok
    rcases hcs with rfl | ⟨rfl, h1⟩ | ⟨rfl, h1, h2⟩
    · go_wp2_with fail
      go_at_call 8
      refine (HEnd.out _ HB1.out).mono ?_
      rintro e w2 ⟨rfl, HBB⟩
      go_wp2
      go_ret
      exact ⟨rfl, HBB.out⟩
    · have s1 : (100 : Int) < (fr.size : Int) := by omega
      have s1d : decide ((100 : Int) < (fr.size : Int)) = true := decide_eq_true s1
      go_wp2_with fail
      go_at_call 8
      refine (HEnd.out _ HB1.out).mono ?_
      rintro e w2 ⟨rfl, HBB⟩
      go_wp2
      go_ret
      exact ⟨rfl, HBB.out⟩
    · have s1 : ¬ (100 : Int) < (fr.size : Int) := by omega
      have s1d : decide ((100 : Int) < (fr.size : Int)) = false := decide_eq_false s1
      have s2 : (100 : Int) < (tw.size : Int) := by omega
      have s2d : decide ((100 : Int) < (tw.size : Int)) = true := decide_eq_true s2
      go_wp2_with fail
      go_at_call 8
      refine (HEnd.out _ HB1.out).mono ?_
      rintro e w2 ⟨rfl, HBB⟩
      go_wp2
      go_ret
      exact ⟨rfl, HBB.out⟩
end Go.Proofs.YtbebgobboccjcaaGreatDoor
