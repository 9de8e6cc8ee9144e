/- fault.Chain: what one call answers. -/
import Derived.Test.YtlandjnhhcnbeaaDoorFns
import Derived.Test.YtlandjnhhcnbeaaDoorKitVals
import Derived.Deep.LoopGhost
namespace Go.Proofs.YtlandjnhhcnbeaaDoor
open Go.RowKit Kit
set_option linter.unusedVariables false

/-- An operation, a blank, a place. -/
def txt (p : ByteArray × ByteArray) : ByteArray := p.1 ++ ⟨#[32]⟩ ++ p.2
def txts (l : List (ByteArray × ByteArray)) : List Value := l.map fun p => .string (txt p)
theorem txts_len (l : List (ByteArray × ByteArray)) : (txts l).length = l.length := by simp [txts]
theorem infoS : (Tryd.prog.info? 9).map (fun i => (i.zero, i.size, i.bytes)) = some (some (.string ⟨#[]⟩), 1, 16) := by kernel_rfl
def ChRel (w : World) (ns : List Nd) (k : Nat) (e l : Value) (wr : World) : Prop :=
  ∃ ms done, Pre w k e ms ∧ chainOf ns = done ++ chainOf ms ∧ RowV wr w.heap.size 9 l (txts done) ∧ Below w.heap.size w wr

set_option maxRecDepth 4000 in
set_option maxHeartbeats 4000000 in
theorem chain_any (f : Nat) (v : Value) (ns : List Nd) (w : World) (hp : Pre w f v ns) (hg : Tied w) (hf : f ≤ 100000) :
    Calls Tryd.prog 16 #[v] w fun e w' => ∃ l, e = .returned l ∧ RowV w' w.heap.size 9 l (txts (chainOf ns)) ∧ Below w.heap.size w w' := by
  have HG : Hid (Tied w) := hg
  have HF : Hid ((chainOf ns).length ≤ 100000) := Nat.le_trans (Pre.short f hp) hf
  have H0 : Hid (ChRel w ns f v (.slice none 0 0) w) := ⟨ns, [], hp, rfl, rowV_nil _ _ _, Below.refl _ _⟩
  clear hp hg hf
  go_enter Tryd.func16, Tryd.ntmps16
  go_wp2
  go_loopg [0, 3] f (fun k e l wr => Aside (ChRel w ns k e l wr))
  case atStart => exact H0.out
  case round =>
    clear H0
    obtain ⟨ms, done, h1, h2, h3, h4⟩ := Aside.out hrel
    clear hrel
    have H3 : Hid (RowV wr w.heap.size 9 u3 (txts done) ∧ Below w.heap.size w wr) := ⟨h3, h4⟩
    clear h3 h4
    rcases Pre.form h1 with he | ⟨u, x, he⟩
    · subst he
      have H4 : Hid (RowV wr w.heap.size 9 u3 (txts (chainOf ns)) ∧ Below w.heap.size w wr) := by
        rw [h2, Pre.nil h1]
        have e0 : done ++ chainOf [] = done := List.append_nil _
        rw [e0]; exact H3.out
      clear h1 h2 H3 HG HF
      go_wp2
      go_ret
      exact ⟨_, rfl, H4.out⟩
    · subst he
      have hk : 0 < gk := by
        rcases Nat.eq_zero_or_pos gk with h0 | h0
        · subst h0; cases h1.1
        · exact h0
      rcases hh : firstOf 54 ms with _ | y
      · have HX : Hid (Calls Tryd.prog 29 _ _ _) := outermost_none gk _ ms wr (h1.below H3.out.2) (HG.out.below H3.out.2) hh
        have H2 : Hid (chainOf ns = done ++ chainOf []) := by show _ = _; rw [h2, chainOf_none ms hh]; rfl
        clear h1 h2 hh
        go_wp2_with fail
        go_at_call 29
        refine HX.out.mono ?_
        rintro r w1 ⟨rfl, hw⟩
        have H5 : Hid (RowV w1 w.heap.size 9 u3 (txts done) ∧ Below w.heap.size w w1) := ⟨H3.out.1.below hw, bel2e H3.out.2 hw⟩
        have H6 : Hid (∀ o, ChRel w ns 0 .nilIface u3 (w1.alloc o)) := fun o => ⟨[], done, ⟨rfl, rfl⟩, H2.out, H5.out.1.below ((Below.refl _ _).alloc (Nat.le_refl _) _), H5.out.2.alloc H5.out.2.size _⟩
        clear hw HX H3 H5 H2 HG HF
        go_wp2
        go_roundg 0
        case measure => omega
        case rel => exact H6.out _
      · obtain ⟨b, op, path, e, ms2, k2, rfl, c0, c1, c2, ⟨s0, s1⟩, hn, h7, h8, h9⟩ := Pre.fault h1 hh
        obtain ⟨u2, x2, rfl⟩ := (Pre.form h7).resolve_left hn
        have HX : Hid (Calls Tryd.prog 29 _ _ _) := outermost_some gk _ ms wr (h1.below H3.out.2) (HG.out.below H3.out.2) b op path u2 x2 hh (cell_old H3.out.2 c0) (cell_old H3.out.2 c1) (cell_old H3.out.2 c2)
        have H2 : Hid (chainOf ns = (done ++ [(op, path)]) ++ chainOf ms2) := by show _ = _; rw [h2, h9]; simp
        have HL : Hid (done.length + 1 ≤ 100000) := by
          have := HF.out
          rw [H2.out] at this
          simp at this
          show _ ≤ _
          omega
        have HP : Hid (Pre w k2 (.iface u2 x2) ms2) := h7
        clear h1 h2 hh c0 c1 c2 hn h7 h9
        go_wp2_with fail
        go_at_call 29
        refine HX.out.mono ?_
        rintro r w1 ⟨rfl, hw⟩
        have H5 : Hid (RowV w1 w.heap.size 9 u3 (txts done) ∧ Below w.heap.size w w1) := ⟨H3.out.1.below hw, bel2e H3.out.2 hw⟩
        clear hw HX H3 HG HF
        have B1 : Hid (Below w1.heap.size w1 ((w1.alloc (.cells #[.string op, .string path, .iface u2 x2] 66)).alloc (.cells #[.string (op ++ ⟨#[32]⟩ ++ path)] 9))) := ((Below.refl _ _).alloc (Nat.le_refl _) _).alloc (by simp) _
        have S1 : Hid (Sees ((w1.alloc (.cells #[.string op, .string path, .iface u2 x2] 66)).alloc (.cells #[.string (op ++ ⟨#[32]⟩ ++ path)] 9)) (.slice (some ⟨w1.heap.size + 1, 0, none⟩) 1 1) [.string (op ++ ⟨#[32]⟩ ++ path)]) := sees_one _ _ _ _ (by simp)
        go_wp2_with (at_builtin; go_loud (refine wpList_appV Tryd.underlying33 infoS rfl (by decide) rfl _ _ rfl w.heap.size u3 (txts done) rfl (H5.out.1.below B1.out) (.slice (some ⟨w1.heap.size + 1, 0, none⟩) 1 1) _ rfl S1.out ?c1 ?c2 ?c3 ?_))
        case c1 => intro y hy; simp at hy; subst hy; rfl
        case c2 => have := HL.out; rw [txts_len]; simp; omega
        case c3 => have := H5.out.2.size; simp; omega
        intro l2 w2 hr hb
        have H6 : Hid (ChRel w ns k2 (.iface u2 x2) l2 w2) := ⟨ms2, done ++ [(op, path)], HP.out, H2.out, by unfold txts at *; rw [List.map_append]; exact hr, (bel2e H5.out.2 B1.out).trans hb⟩
        clear hr hb B1 S1 H5 H2 HL HP
        go_wp2
        go_roundg k2
        case measure => omega
        case rel => exact H6.out
end Go.Proofs.YtlandjnhhcnbeaaDoor
