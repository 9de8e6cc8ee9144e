/- dolmenlaw3.chain: what one call answers. -/
import Derived.Test.YtlandjnhhcnbeaaDoorCodes
import Derived.Deep.LoopGhost
namespace Go.Proofs.YtlandjnhhcnbeaaDoor
open Go.RowKit Kit
set_option linter.unusedVariables false

theorem chain_bulk : ∀ (n : Nat) (t : Tr n), (chainT n t).length ≤ bulk n t
  | 0, _ => by simp [chainT]
  | _ + 1, none => by simp [chainT]
  | n + 1, some (l, x, y) => by
    have hx := chain_bulk n x
    have hy := chain_bulk n y
    rw [chainT]
    show _ ≤ 1 + l.op.size + l.path.size + bulk n x + bulk n y
    split
    · simp
    split
    · simp; omega
    split
    · split
      · omega
      · omega
    · simp
/-- A Mold in a variable of the call's own. -/
def FVar (w : World) (b : Nat) (l : Lab) (a : Option Addr) (len cap : Nat) : Prop :=
  (w.cell? ⟨b, 0, none⟩ = some (.int .i64 l.kind) ∧ w.cell? ⟨b, 1, none⟩ = some (.int .i64 l.num) ∧ w.cell? ⟨b, 2, none⟩ = some (.string l.op) ∧ w.cell? ⟨b, 3, none⟩ = some (.string l.path) ∧ w.cell? ⟨b, 4, none⟩ = some (.slice a len cap)) ∧
  w.frozen? ⟨b, 0, none⟩ = false ∧ w.frozen? ⟨b, 1, none⟩ = false ∧ w.frozen? ⟨b, 2, none⟩ = false ∧ w.frozen? ⟨b, 3, none⟩ = false ∧ w.frozen? ⟨b, 4, none⟩ = false
theorem fvar_new (w : World) (l : Lab) (a : Option Addr) (len cap : Nat) (t : TypeId) : FVar (w.alloc (.cells #[.int .i64 l.kind, .int .i64 l.num, .string l.op, .string l.path, .slice a len cap] t)) w.heap.size l a len cap :=
  ⟨⟨by simp, by simp, by simp, by simp, by simp⟩, by simp, by simp, by simp, by simp, by simp⟩
theorem FVar.block {w w' : World} {b : Nat} {l : Lab} {a : Option Addr} {len cap : Nat} (h : FVar w b l a len cap) (hb : w'.heap[b]? = w.heap[b]?) : FVar w' b l a len cap := by
  unfold FVar at *
  have c : ∀ j, w'.cell? ⟨b, j, none⟩ = w.cell? ⟨b, j, none⟩ := fun j => World.cell?_of_block (w := w) hb
  have f : ∀ j, w'.frozen? ⟨b, j, none⟩ = w.frozen? ⟨b, j, none⟩ := fun j => World.frozen?_of_block (w := w) hb
  simp only [c, f]; exact h
theorem FVar.lt {w : World} {b : Nat} {l : Lab} {a : Option Addr} {len cap : Nat} (h : FVar w b l a len cap) : b < w.heap.size := by
  rcases Nat.lt_or_ge b w.heap.size with h' | h'
  · exact h'
  · have := h.1.1
    simp [World.cell?, Array.getElem?_eq_none h'] at this
theorem FVar.below {w w' : World} {b : Nat} {l : Lab} {a : Option Addr} {len cap : Nat} (h : FVar w b l a len cap) (hb : Below w.heap.size w w') : FVar w' b l a len cap := h.block (hb.block b h.lt)
theorem fvar_set {w : World} {b : Nat} {l m : Lab} {a c : Option Addr} {len cap k q : Nat} (h : FVar w b l a len cap) :
    FVar (((((w.setCell ⟨b, 0, none⟩ (.int .i64 m.kind)).setCell ⟨b, 1, none⟩ (.int .i64 m.num)).setCell ⟨b, 2, none⟩ (.string m.op)).setCell ⟨b, 3, none⟩ (.string m.path)).setCell ⟨b, 4, none⟩ (.slice c k q)) b m c k q := by
  obtain ⟨⟨h0, h1, h2, h3, h4⟩, f0, f1, f2, f3, f4⟩ := h
  unfold FVar
  simp [h0, h1, h2, h3, h4, f0, f1, f2, f3, f4, go_sem]
theorem RowV.setCell {w : World} {base : Nat} {e : TypeId} {v : Value} {xs : List Value} (h : RowV w base e v xs) {p : Addr} (hne : ∀ j, v.ownBlock = some j → j ≠ p.block) (u : Value) : RowV (w.setCell p u) base e v xs := by
  obtain ⟨h1, h2⟩ := h
  refine ⟨h1, ?_⟩
  rcases h2 with h2 | ⟨g, cap, cur, hv, hg, hh, r⟩
  · exact .inl h2
  · exact .inr ⟨g, cap, cur, hv, hg, by rw [Below.heap_setCell _ _ _ _ (hne g (by rw [hv]; rfl))]; exact hh, r⟩
theorem rowV_set5 {w : World} {base : Nat} {e : TypeId} {v : Value} {xs : List Value} (h : RowV w base e v xs) {b : Nat} (hne : ∀ j, v.ownBlock = some j → j ≠ b) (v0 v1 v2 v3 v4 : Value) :
    RowV (((((w.setCell ⟨b, 0, none⟩ v0).setCell ⟨b, 1, none⟩ v1).setCell ⟨b, 2, none⟩ v2).setCell ⟨b, 3, none⟩ v3).setCell ⟨b, 4, none⟩ v4) base e v xs :=
  RowV.setCell (RowV.setCell (RowV.setCell (RowV.setCell (RowV.setCell h hne _) hne _) hne _) hne _) hne _
theorem wpList_appG {P : Program} {T E : TypeId} {z : Value} {bytes : Nat} (hT : P.underlying T = some (.slice E)) (hI : (P.info? E).map (fun i => (i.zero, i.size, i.bytes)) = some (some z, 1, bytes)) (hzc : z.cells.size = 1) (hby : bytes ≤ 16) {ops : Array Oper} {rest : List Oper} {o : Oper} {a : Act} {Q : Exit → Act → World → Prop} {w : World} (hgd : o.guard = none) (s x : Operand)
    (ho : o.op = .call { callee := .builtin .append, args := #[s, x], argTypes := #[T, T] }) (base : Nat) (v : Value) (xs : List Value) (hs : a.eval s = v) (hown : RowV w base E v xs)
    (y : Value) (news : List Value) (hx : a.eval x = y) (hv : Sees w y news) (h1c : ∀ u ∈ news, u.oneCell' = true) (hlen : (xs.length + news.length) * 16 ≤ 140737488355328) (hbase : base ≤ w.heap.size)
    (h : ∀ v' w', RowV w' base E v' (xs ++ news) → w.grownBy w' v.ownBlock → (∀ j, v'.ownBlock = some j → j < w'.heap.size) → wpList P ops Q rest (a.put o.dst v') w') : wpList P ops Q (o :: rest) a w := by
  obtain ⟨i0, hi, hz0, hz1, hz2⟩ := Kit.info_parts hI
  obtain ⟨ao, cap, rfl, h1, h2, h3, h4⟩ := hv
  cases ao with
  | none =>
    have hc := h3 rfl
    have hn : news = [] := List.eq_nil_of_length_eq_zero (by omega)
    subst hn
    subst hc
    refine wpList_append_own_none hgd s x T ho base E i0 1 hT hi v xs.length xs hs hown hx (h v w ?_ ⟨rfl, rfl, rfl, Nat.le_refl _, fun _ _ _ => rfl⟩ fun j hj => (World.ownsRow.lt hown j hj).2)
    rw [List.append_nil]; exact hown
  | some ad =>
    refine wpList_append_own _ hgd s x T ho base E i0 z 1 bytes hT hi hz0 hz1 hz2 hzc (by omega) v xs.length xs hs hown ad news.length cap news hx (by simp) ?_ h1c (by unfold maxLen; omega) (Kit.size_ok hby hlen) hbase ?_
    · intro j u hj
      have hj' : j < news.length := (List.getElem?_eq_some_iff.1 hj).1
      obtain ⟨b, off, e, _, hh⟩ := h4 (by omega)
      cases e
      rw [Addr.add_lit]
      exact hh j u hj
    · intro v' w' k1 k2 _
      have k3 : RowV w' base E v' (xs ++ news) := by unfold RowV; rw [List.length_append]; exact k1
      exact h v' w' k3 k2 fun j hj => (World.ownsRow.lt k1 j hj).2
/-- Where the chain stands: what has been told; the Fault at hand. -/
def ClRel (w0 w : World) (n : Nat) (t : Tr n) (k : Nat) (l p : Value) (wr : World) : Prop :=
  ∃ (s : Tr k) (done : List (ByteArray × ByteArray)) (fb : Nat) (lf : Lab) (af : Option Addr) (lenf capf : Nat),
    p = .pointer (some ⟨fb, 0, none⟩) ∧ w.heap.size ≤ fb ∧ FVar wr fb lf af lenf capf ∧ FirstIs w0 k s (moldV lf af lenf capf) ∧ bulk k s ≤ 300 ∧ chainT n t = done ++ chainT k s ∧
    RowV wr w.heap.size 9 l (txts done) ∧ (∀ j, l.ownBlock = some j → j ≠ fb) ∧ Below w.heap.size w wr
theorem moldV_inj {l m : Lab} {a c : Option Addr} {len cap k q : Nat} (h : moldV l a len cap = moldV m c k q) : l = m ∧ a = c ∧ len = k ∧ cap = q := by
  unfold moldV at h
  obtain ⟨k1, n1, o1, p1⟩ := l
  obtain ⟨k2, n2, o2, p2⟩ := m
  simp at h
  obtain ⟨⟨h1, h2, h3, h4⟩, h5, h6, h7⟩ : ((k1 = k2 ∧ n1 = n2 ∧ o1 = o2 ∧ p1 = p2) ∧ a = c ∧ len = k ∧ cap = q) := by
    refine ⟨⟨?_, ?_, ?_, ?_⟩, ?_, ?_, ?_⟩ <;> simp_all
  subst h1 h2 h3 h4
  exact ⟨rfl, h5, h6, h7⟩

set_option maxRecDepth 4000 in
set_option maxHeartbeats 8000000 in
theorem chainL_any (w0 : World) (n : Nat) (v : Value) (t : Tr n) (w : World) (hb : Below w0.heap.size w0 w) (hm : MoldAt w0 n v t) (hk : bulk n t ≤ 300) :
    Calls Tryd.prog 14 #[v] w fun e w' => ∃ r, e = .returned r ∧ Hid (RowV w' w.heap.size 9 r (txts (chainT n t))) ∧ Below w.heap.size w w' := by
  obtain ⟨l, a, len, cap, rfl⟩ := mold_form hm
  have H5 : Hid (Own5 w (w.alloc (.cells #[.int .i64 l.kind, .int .i64 l.num, .string l.op, .string l.path, .slice a len cap] 24)) l.kind l.num l.op l.path a len cap) := own5_new w _ _ _ _ _ _ _ _
  have HX : Hid (Calls Tryd.prog 28 _ _ _) := first_any w0 n _ t _ (bel2m hb H5.out.out) hm
  have HW : Hid (Below w0.heap.size w0 w) := hb
  have HL : Hid ((chainT n t).length ≤ 300 ∧ bulk n t ≤ 300) := ⟨Nat.le_trans (chain_bulk n t) hk, hk⟩
  obtain ⟨kd, nm, op, pa⟩ := l
  clear hb hm hk
  unfold moldV at *
  go_enter Tryd.func14, Tryd.ntmps14
  go_wp2_with fail
  go_at_call 28
  refine HX.out.mono ?_
  rintro e w1 ⟨v1, rfl, hf, hb1⟩
  obtain ⟨lf, af, lenf, capf, hv1, _⟩ := firstIs_form hf
  subst hv1
  have HB1 : Hid (Below w.heap.size w w1) := bel2m H5.out.out hb1
  have HR : Hid (ClRel w0 w n t n (.slice none 0 0) (.pointer (some ⟨w1.heap.size, 0, none⟩)) (w1.alloc (.cells #[.int .i64 lf.kind, .int .i64 lf.num, .string lf.op, .string lf.path, .slice af lenf capf] 24))) :=
    ⟨t, [], w1.heap.size, lf, af, lenf, capf, rfl, HB1.out.size, fvar_new w1 _ _ _ _ _, hf, HL.out.2, rfl, rowV_nil _ _ _, (fun j hj => by cases hj), HB1.out.alloc HB1.out.size _⟩
  obtain ⟨kf, nf, of, pf⟩ := lf
  clear hf hb1 HX H5
  unfold moldV at *
  clear HB1
  go_wp2
  go_loopg [3, 4] n (fun k l p wr => Aside (ClRel w0 w n t k l p wr))
  case atStart => exact HR.out
  case round =>
    clear HR
    obtain ⟨s, done, fb, lf, af2, lenf2, capf2, hp, g1, g2, g3, g4, g5, g6, g7, g8⟩ := Aside.out hrel
    clear hrel
    subst hp
    obtain ⟨⟨f0, f1, f2, f3, f4⟩, z0, z1, z2, z3, z4⟩ := g2
    have G2 : Hid (FVar wr fb lf af2 lenf2 capf2) := ⟨⟨f0, f1, f2, f3, f4⟩, z0, z1, z2, z3, z4⟩
    have G : Hid (RowV wr w.heap.size 9 u3 (txts done) ∧ (∀ j, u3.ownBlock = some j → j ≠ fb) ∧ Below w.heap.size w wr ∧ w.heap.size ≤ fb) := ⟨g6, g7, g8, g1⟩
    rcases g3 with ⟨h1, h2⟩ | ⟨k2, l2, x, y, h1, h2, h3, h4, h5⟩
    · have hz : moldV lf af2 lenf2 capf2 = moldV ⟨0, 0, ⟨#[]⟩, ⟨#[]⟩⟩ none 0 0 := h2
      obtain ⟨rfl, rfl, rfl, rfl⟩ := moldV_inj hz
      have HR : Hid (RowV wr w.heap.size 9 u3 (txts (chainT n t)) ∧ Below w.heap.size w wr) := by
        rw [g5, h1, List.append_nil]; exact ⟨g6, g8⟩
      clear g1 g4 g5 g6 g7 g8 h1 h2 hz G
      simp only at f0 f1 f2 f3
      go_wp2
      go_ret
      exact ⟨_, rfl, HR.out⟩
    · have hl : lf = l2 := by
        obtain ⟨a', len', cap', e, _⟩ := h1
        exact (moldV_inj e).1
      subst hl
      have HM : Hid (MoldAt w0 (k2 + 1) (moldV lf af2 lenf2 capf2) (some (lf, x, y))) := h1
      have HC : Hid (chainT n t = (done ++ [(lf.op, lf.path)]) ++ chainT k2 x) := by show _ = _; rw [g5, h4]; simp
      have HD : Hid (done.length + 1 ≤ 300 ∧ bulk k2 x ≤ 300) := by
        have := HL.out.1
        rw [HC.out] at this
        simp at this
        exact ⟨by omega, by omega⟩
      have s0 : lf.op.size ≤ 300 := by omega
      have s1 : lf.path.size ≤ 300 := by omega
      obtain ⟨kf2, nf2, of2, pf2⟩ := lf
      simp only at h2 f0 f1 f2 f3 s0 s1
      subst h2
      clear g1 g4 g5 g6 g7 g8 h1 h4 h5 z0 z1 z2 z3 z4
      have B1 : Hid (Below wr.heap.size wr (wr.alloc (.cells #[.string (of2 ++ ⟨#[32]⟩ ++ pf2)] 9))) := (Below.refl _ _).alloc (Nat.le_refl _) _
      have S1 : Hid (Sees (wr.alloc (.cells #[.string (of2 ++ ⟨#[32]⟩ ++ pf2)] 9)) (.slice (some ⟨wr.heap.size, 0, none⟩) 1 1) [.string (of2 ++ ⟨#[32]⟩ ++ pf2)]) := sees_one _ _ _ _ rfl
      go_wp2_with (at_builtin; refine wpList_appG Tryd.underlying33 infoS rfl (by decide) rfl _ _ rfl w.heap.size u3 (txts done) rfl (G.out.1.below B1.out) (.slice (some ⟨wr.heap.size, 0, none⟩) 1 1) _ rfl S1.out ?c1 ?c2 ?c3 ?_)
      case c1 => rfl
      case c2 => have := HD.out.1; rw [txts_len]; simp; omega
      case c3 => have := G.out.2.2.1.size; simp; omega
      intro l3 w3 hr hgr hlt
      have hne : some fb ≠ u3.ownBlock := fun e => G.out.2.1 fb e.symm rfl
      have HF3 : Hid (FVar w3 fb ⟨2, nf2, of2, pf2⟩ af2 lenf2 capf2) := (G2.out.below B1.out).block (hgr.block fb (G2.out.below B1.out).lt hne)
      have HB3 : Hid (Below w.heap.size w w3) := (bel2e G.out.2.2.1 B1.out).grown hgr (Nat.le_trans G.out.2.2.1.size B1.out.size) (fun k hk => (World.ownsRow.lt G.out.1 k hk).1)
      have HR3 : Hid (RowV w3 w.heap.size 9 l3 (txts (done ++ [(of2, pf2)])) ∧ (∀ j, l3.ownBlock = some j → j < w3.heap.size)) := ⟨by unfold txts at *; rw [List.map_append]; exact hr, hlt⟩
      clear hr hgr hlt hne G G2 B1 S1 f0 f1 f2 f3 f4
      have c := HF3.out.1
      obtain ⟨f0, f1, f2, f3, f4⟩ := c
      simp only at f0 f1 f2 f3
      have B4 : Hid (Below w3.heap.size w3 (w3.alloc (.cells #[.int .i64 2, .int .i64 nf2, .string of2, .string pf2, .slice af2 lenf2 capf2] 24))) := (Below.refl _ _).alloc (Nat.le_refl _) _
      have HF4 : Hid (FVar (w3.alloc (.cells #[.int .i64 2, .int .i64 nf2, .string of2, .string pf2, .slice af2 lenf2 capf2] 24)) w3.heap.size ⟨2, nf2, of2, pf2⟩ af2 lenf2 capf2) := fvar_new w3 ⟨2, nf2, of2, pf2⟩ _ _ _ _
      have HX : Hid (Calls Tryd.prog 27 _ _ _) := (kid_any0 k2 _ _ w0 _ (bel2m HW.out (bel2m HB3.out B4.out)) HM.out).1
      unfold moldV at HX
      go_wp2_with fail
      go_at_call 27
      refine HX.out.mono ?_
      rintro e w4 ⟨v4, rfl, hm4, hb4⟩
      have HX4 : Hid (Calls Tryd.prog 28 _ _ _) := first_any w0 k2 v4 x w4 (bel2m HW.out (bel2m (bel2m HB3.out B4.out) hb4)) hm4
      have HF5 : Hid (FVar w4 w3.heap.size ⟨2, nf2, of2, pf2⟩ af2 lenf2 capf2) := HF4.out.below hb4
      have HB4 : Hid (Below w3.heap.size w3 w4) := bel2m B4.out hb4
      clear hm4 hb4 HX f0 f1 f2 f3 f4 HF3 HF4 B4 HM
      go_wp2_with fail
      go_at_call 28
      refine HX4.out.mono ?_
      rintro e w5 ⟨v5, rfl, hf5, hb5⟩
      obtain ⟨l5, a5, len5, cap5, hv5, _⟩ := firstIs_form hf5
      subst hv5
      have HF6 : Hid (FVar w5 w3.heap.size ⟨2, nf2, of2, pf2⟩ af2 lenf2 capf2) := HF5.out.below hb5
      have HB5 : Hid (Below w3.heap.size w3 w5) := bel2m HB4.out hb5
      have HR6 : Hid (ClRel w0 w n t k2 l3 (.pointer (some ⟨w3.heap.size, 0, none⟩)) (((((w5.setCell ⟨w3.heap.size, 0, none⟩ (.int .i64 l5.kind)).setCell ⟨w3.heap.size, 1, none⟩ (.int .i64 l5.num)).setCell ⟨w3.heap.size, 2, none⟩ (.string l5.op)).setCell ⟨w3.heap.size, 3, none⟩ (.string l5.path)).setCell ⟨w3.heap.size, 4, none⟩ (.slice a5 len5 cap5))) :=
        ⟨x, done ++ [(of2, pf2)], w3.heap.size, l5, a5, len5, cap5, rfl, HB3.out.size, fvar_set HF6.out, hf5, HD.out.2, HC.out, rowV_set5 (HR3.out.1.below HB5.out) (fun j hj => Nat.ne_of_lt (HR3.out.2 j hj)) _ _ _ _ _, fun j hj => Nat.ne_of_lt (HR3.out.2 j hj), set5 (bel2m HB3.out HB5.out) HB3.out.size _ _ _ _ _⟩
      have c := HF6.out
      obtain ⟨⟨f0, f1, f2, f3, f4⟩, z0, z1, z2, z3, z4⟩ := c
      simp only at f0 f1 f2 f3
      obtain ⟨k5, n5, o5, p5⟩ := l5
      clear hf5 hb5 HX4 HF5 HB4 HB5 HF6 HR3 HB3 HC HD
      unfold moldV at *
      go_wp2
      go_roundg k2
      case measure => omega
      case rel => exact HR6.out
end Go.Proofs.YtlandjnhhcnbeaaDoor
