/- package table: Clean. -/
import Derived.Test.YthjcmagionaepaaGreatFBookOf
import Derived.Test.YthjcmagionaepaaGreatFPutT
import Derived.Deep.RegionLaw
import Derived.Deep.RegionHeld3
import Derived.Deep.DeepCutAuto
import Derived.Deep.CutRange
import Derived.Deep.CutBlock
namespace Go.Proofs.YthjcmagionaepaaGreat
open Go.RowKit Kit
set_option linter.unusedVariables false

/-- The needed rows, by their places. -/
def needZ (l : List Rw) (es : List Int) : List (Rw × Nat) := l.zipIdx.filter fun x => needB x.1.born x.1.died es
def keptL (l : List Rw) (es : List Int) : List Rw := l.filter fun r => needB r.born r.died es
theorem need_ids (l : List Rw) (es : List Int) : idsT (fun t => needB t.born t.died es) (thsO l) = (needZ l es).map fun x => (x.2 : Int) := by
  unfold idsT thsO needZ
  rw [List.filter_map, List.map_map]
  rfl
theorem need_rows (l : List Rw) (es : List Int) : keptL l es = (needZ l es).map Prod.fst := by
  unfold keptL needZ
  conv => lhs; rw [← List.zipIdx_map_fst 0 l]
  rw [List.filter_map]
  rfl
theorem needZ_len (l : List Rw) (es : List Int) : (needZ l es).length = (keptL l es).length := by rw [need_rows, List.length_map]
theorem needZ_at (l : List Rw) (es : List Int) (i : Nat) (h : i < (needZ l es).length) : ∃ (k : Nat) (hk : k < l.length) (hi : i < (keptL l es).length), (iV ((needZ l es).map fun x => (x.2 : Int)))[i]? = some (.int .i64 (k : Int)) ∧ l[k] = (keptL l es)[i] := by
  have hm : (needZ l es)[i] ∈ l.zipIdx := (List.mem_filter.1 (List.getElem_mem h)).1
  have h1 := List.mem_zipIdx_iff_getElem?.1 hm
  obtain ⟨h2, h3⟩ := List.getElem?_eq_some_iff.1 h1
  refine ⟨_, h2, by rw [← needZ_len]; exact h, ?_, ?_⟩
  · simp [iV, h]
  · rw [h3]
    simp only [need_rows, List.getElem_map]
theorem insW_perm (out : List Rw) (x : Rw) : (insW out x).Perm (out ++ [x]) := by
  unfold insW
  refine List.perm_middle.trans ?_
  rw [List.take_append_drop]
  exact List.perm_append_comm (l₁ := [x]) (l₂ := out)
theorem foldW_perm : ∀ (l out : List Rw), (l.foldl insW out).Perm (out ++ l)
  | [], out => by simp
  | x :: l, out => by
    rw [List.foldl_cons]
    refine (foldW_perm l (insW out x)).trans ?_
    have := (insW_perm out x).append_right l
    simpa using this
theorem allW_perm (l : List Rw) : (allW l).Perm l := by
  have := foldW_perm l []
  simpa [allW] using this
theorem kept_len {t : Tb} (h : Inv t) (es : List Int) : (keptL (allW t.rs) es).length = (keptR t.rs es).length ∧ ∀ s, (keptL (allW t.rs) es).filter (ofN s) = (keptR t.rs es).filter (ofN s) := by
  have hp : (allW t.rs).Perm t.rs := allW_perm t.rs
  refine ⟨(hp.filter _).length_eq, fun s => ?_⟩
  have := allW_name (inv_born h) s
  unfold keptL keptR
  rw [List.filter_filter, List.filter_filter]
  have e : ∀ (L : List Rw), L.filter (fun a => ofN s a && needB a.born a.died es) = (L.filter (ofN s)).filter (fun a => needB a.born a.died es) := fun L => by
    rw [List.filter_filter]
    congr 1
    funext a
    exact Bool.and_comm _ _
  rw [e, e, this]
theorem kept_all {rs : List Rw} {es : List Int} (h : (keptR rs es).length = rs.length) : keptR rs es = rs := by
  unfold keptR at *
  exact List.filter_eq_self.2 (List.length_filter_eq_length_iff.1 h)
theorem cell_of_heap {w w' : World} {b o : Nat} (e : w'.heap[b]? = w.heap[b]?) : w'.cell? ⟨b, o, none⟩ = w.cell? ⟨b, o, none⟩ := by simp [World.cell?, e]
theorem MapR.rvlt {w : World} {B : Nat} {mo : Option Nat} {g : ByteArray → Option Value} {ρ : ByteArray → List Rw} (h : MapR w B mo g ρ) {s : ByteArray} {k : Nat} (hk : (rv g s).ownBlock = some k) : k < w.heap.size := by
  obtain ⟨cs, hc⟩ := rowE_obj (h.rowv s) hk
  exact blk_lt hc
set_option maxRecDepth 4000 in
set_option maxHeartbeats 16000000 in
theorem tclean_some {w : World} {p B : Nat} {mo : Option Nat} {g : ByteArray → Option Value} {t : Tb} (v : Value) (es : List Int) (h : TabAt w p B mo g t) (hi : Inv t) (hl : t.rs.length ≤ 900) (hv : Sees w v (iV es)) (hes : es.length ≤ 2000) :
    Calls Tryz.prog 21 #[.pointer (some ⟨p, 0, none⟩), v] w fun x w' => x = .returned (.int .i64 (cleanN t es)) ∧ ∃ F', TAt w' p B F' (cleanT t es) ∧ TurnF (tbfoot p mo g) F' w w' := by
  have HALL : Hid (Calls Tryz.prog 18 #[.pointer (some ⟨p, 0, none⟩)] w fun x w' => ∃ r, x = .returned r ∧ Hid (RowE rwE w' w.heap.size 49 r (allW t.rs) ∧ Below w.heap.size w w')) := by
    refine (tall_any ⟨mo, g, h, rfl⟩ hi hl).mono ?_
    rintro x w' ⟨r, h1, h2⟩
    exact ⟨r, h1, h2⟩
  obtain ⟨K1, K2⟩ := kept_len hi es
  obtain ⟨L, hL⟩ : ∃ L, L = allW t.rs := ⟨_, rfl⟩
  have hLl : L.length = t.rs.length := by rw [hL]; exact allW_len _
  have hmem : ∀ r, r ∈ L ↔ r ∈ t.rs := fun r => by rw [hL]; exact allW_mem _ _
  have hsp : ∀ r ∈ L, SpanOk r := fun r hr => by
    have h1 := hi.row r ((hmem r).1 hr)
    have h2 := hi.last
    exact ⟨h1.b1, Int.le_trans h1.bl h2.2, Int.le_trans h1.dl h2.2, h1.bd⟩
  have hnm : ∀ r ∈ L, r.name.size ≤ maxLen := fun r hr => h.rows.klen r.name ((h.rows.isSome r.name).2 (List.ne_nil_of_mem (a := r) (List.mem_filter.2 ⟨(hmem r).1 hr, ofN_iff.2 rfl⟩)))
  rw [← hL] at HALL K1 K2
  obtain ⟨kept, hkept⟩ : ∃ kept, kept = keptL L es := ⟨_, rfl⟩
  obtain ⟨nd, hnd⟩ : ∃ nd, nd = (needZ L es).map fun x => (x.2 : Int) := ⟨_, rfl⟩
  have hndl : nd.length = kept.length := by rw [hnd, hkept, List.length_map, needZ_len]
  have hnda : ∀ i (hi : i < kept.length), ∃ (k : Nat) (hk : k < L.length), (iV nd)[i]? = some (.int .i64 (k : Int)) ∧ L[k] = kept[i] := fun i hi => by
    subst hkept
    obtain ⟨k, hk, hi2, h1, h2⟩ := needZ_at L es i (by rw [needZ_len]; exact hi)
    exact ⟨k, hk, by rw [hnd]; exact h1, h2⟩
  rw [← hkept] at K1 K2
  have HV : Hid (Sees w v (iV es) ∧ es.length ≤ 2000) := ⟨hv, hes⟩
  have HT : Hid (TabAt w p B mo g t) := h
  have HK : Hid (L.length = t.rs.length ∧ t.rs.length ≤ 900 ∧ kept.length = (keptR t.rs es).length ∧ (∀ s, kept.filter (ofN s) = (keptR t.rs es).filter (ofN s)) ∧ nd.length = kept.length ∧ kept.length ≤ L.length) := ⟨hLl, hl, K1, K2, hndl, by rw [hkept]; exact List.length_filter_le _ _⟩
  have HNA : Hid (∀ i (hi : i < kept.length), ∃ (k : Nat) (hk : k < L.length), (iV nd)[i]? = some (.int .i64 (k : Int)) ∧ L[k] = kept[i]) := hnda
  have HSP : Hid (∀ r ∈ L, SpanOk r) := hsp
  have HNM : Hid (∀ r ∈ L, r.name.size ≤ maxLen) := hnm
  have HID : Hid (idsT (fun t => needB t.born t.died es) (thsO L) = nd) := by show _ = _; rw [hnd]; exact need_ids L es
  clear h hi hl hv hes K1 K2 hL hLl hmem hsp hnm hkept hnd hndl hnda
  go_enter Tryz.func21, Tryz.ntmps21
  go_wp2_with fail
  go_at_call 18
  refine HALL.out.mono ?_
  rintro e w1 ⟨r, rfl, H1⟩
  clear HALL
  obtain ⟨ao, cap, hr⟩ := H1.out.1.sees.form
  obtain ⟨n, hn⟩ : ∃ n, n = L.length := ⟨_, rfl⟩
  rw [← hn] at hr
  subst hr
  have HN : Hid (n = L.length ∧ n ≤ 900) := ⟨hn, by have := HK.out; omega⟩
  have hn9 : (n : Int) ≤ 900 := by have := HN.out.2; omega
  clear hn
  have HBK : Hid (Calls Tryz.prog 38 #[.slice ao n cap] w1 fun x w' => ∃ q, x = .returned (.pointer (some ⟨q, 0, none⟩)) ∧ Hid (∃ vv, BookAt w' q w1.heap.size vv (thsO L) ∧ Below w1.heap.size w1 w')) := by
    refine (tbook_any (.slice ao n cap) L w1 H1.out.1.sees (by have := HN.out; omega) HSP.out).mono ?_
    rintro x w' ⟨q, vv, h1, h2⟩
    exact ⟨q, h1, vv, h2⟩
  go_wp2_with fail
  go_at_call 38
  refine HBK.out.mono ?_
  rintro e w2 ⟨q, rfl, H2⟩
  clear HBK
  have HND : Hid (Calls Tryz.prog 39 #[.pointer (some ⟨q, 0, none⟩), v] w2 fun x w' => ∃ r, x = .returned r ∧ Hid (RowV w' w2.heap.size 3 r (iV nd) ∧ Below w2.heap.size w2 w')) := by
    obtain ⟨vv, k1, k2⟩ := H2.out
    refine (fneeded_any _ v (thsO L) es w2 k1.sees (by rw [thsO_len]; have := HN.out; omega) (HV.out.1.below (bel_tr H1.out.2 k2)) (by have := HV.out.2; omega)).mono ?_
    rintro x w' ⟨r, h1, h2, h3⟩
    rw [HID.out] at h2
    exact ⟨r, h1, h2, h3⟩
  go_wp2_with fail
  go_at_call 39
  refine HND.out.mono ?_
  rintro e w3 ⟨nv, rfl, H3⟩
  clear HND
  have HW3 : Hid (Below w.heap.size w w3 ∧ RowE rwE w3 w.heap.size 49 (.slice ao n cap) L ∧ RowV w3 w.heap.size 3 nv (iV nd)) := by
    obtain ⟨vv, k1, k2⟩ := H2.out
    exact ⟨bel_tr (bel_tr H1.out.2 k2) H3.out.2, (H1.out.1.below k2).below H3.out.2, H3.out.1.mono (Nat.le_trans H1.out.2.size k2.size)⟩
  clear H1 H2 H3 HID HSP HV
  obtain ⟨no, nc, hnv, _⟩ := HW3.out.2.2.sees
  obtain ⟨m, hm⟩ : ∃ m, m = nd.length := ⟨_, rfl⟩
  rw [iV_len, ← hm] at hnv
  subst hnv
  have HMM : Hid (m = nd.length ∧ m = kept.length ∧ m ≤ n) := ⟨hm, by rw [hm]; exact HK.out.2.2.2.2.1, by have := HK.out; have := HN.out; omega⟩
  have hmn : (m : Int) ≤ (n : Int) := by have := HMM.out.2.2; omega
  clear hm
  by_cases hmeq : m = n
  · have HE : Hid (cleanN t es = 0 ∧ cleanT t es = t) := by
      have h1 : (keptR t.rs es).length = t.rs.length := by have := HK.out; have := HMM.out; have := HN.out; omega
      refine ⟨by unfold cleanN; omega, ?_⟩
      unfold cleanT
      rw [kept_all h1]
    subst hmeq
    go_wp2_with fail
    go_ret
    rw [HE.out.1, HE.out.2]
    exact ⟨rfl, _, ⟨mo, g, HT.out.below HW3.out.1, rfl⟩, turnF_below HW3.out.1⟩
  have hne : ¬ (m : Int) = (n : Int) := by omega
  have hneb : ((m : Int) == (n : Int)) = false := beq_eq_false_iff_ne.2 hne
  have hc3 := (HT.out.below HW3.out.1).cell
  have hpl := blk_lt hc3
  have qc3 : w3.cell? ⟨p, 0, none⟩ = some (.map mo) := blk_cell hc3 rfl
  have qfa : (w3.alloc (.map #[] 0)).frozen? ⟨p, 0, none⟩ = false := blk_frozen (blk_below (bel_newG _ _) hc3) 0
  have qca : (w3.alloc (.map #[] 0)).cell? ⟨p, 0, none⟩ = some (.map mo) := blk_cell (blk_below (bel_newG _ _) hc3) rfl
  obtain ⟨W, hW⟩ : ∃ z, z = (w3.alloc (.map #[] 0)).setCell ⟨p, 0, none⟩ (.map (some w3.heap.size)) := ⟨_, rfl⟩
  obtain ⟨b, hb⟩ : ∃ b, b = w3.heap.size := ⟨_, rfl⟩
  have HM0 : Hid (W.heap[p]? = some (.cells #[.map (some b), .int .i64 t.last] 56) ∧ MapR W B (some b) (fun _ => none) (fun s => (kept.take 0).filter (ofN s)) ∧ TurnF (fun k => k = p) (tbfoot p (some b) fun _ => none) w3 W) := by
    have hBl : B ≤ w3.heap.size := (HT.out.below HW3.out.1).rows.low
    rw [hW, hb]
    refine ⟨?_, ?_, ⟨rfl, rfl, rfl, by simp [World.setCell], fun k hk h1 => ?_, fun k hk => ?_⟩⟩
    · have := setCell_blk (j := 0) (x := .map (some w3.heap.size)) (blk_below (bel_newG w3 (.map #[] 0)) hc3)
      rw [this]; rfl
    · have h2 := mapR_made (B := B) w3 hBl
      have h3 : TurnF (fun k => k = p) (fun k => k = p) (w3.alloc (.map #[] 0)) ((w3.alloc (.map #[] 0)).setCell ⟨p, 0, none⟩ (.map (some w3.heap.size))) :=
        ⟨rfl, rfl, rfl, by simp [World.setCell], fun k hk h1 => Below.heap_setCell _ _ _ k h1, fun k hk => .inl hk⟩
      refine (h2.stay h3 (fun k hk e => ?_)).congr (fun s => by simp)
      rcases hk with e1 | ⟨s, v, e1, _⟩
      · cases e1; omega
      · cases e1
    · rw [Below.heap_setCell _ _ _ k h1]
      exact (bel_newG w3 (.map #[] 0)).block k hk
    · rcases hk with rfl | e1 | ⟨s, v, e1, _⟩
      · exact .inl rfl
      · cases e1; exact .inr (Nat.le_refl _)
      · cases e1
  have hmm := @run_makeMap Tryz.prog
  rw [← hb] at hW hpl
  have HPL : Hid (p < w.heap.size) := blk_lt HT.out.cell
  have HB3 : Hid (b = w3.heap.size) := hb
  clear hc3
  go_upto_region 6 with fail
  rw [← hb, ← hW]
  clear hW hb qc3 qfa qca hmm hne hneb
  go_wp2_with fail
  go_loopw [27] (fun s27 wr => ∃ (i : Nat) (gi : ByteArray → Option Value), i ≤ m ∧ s27 = .int .i64 (i : Int) ∧ Hid (wr.heap[p]? = some (.cells #[.map (some b), .int .i64 t.last] 56) ∧ MapR wr B (some b) gi (fun s => (kept.take i).filter (ofN s)) ∧ TurnF (fun k => k = p) (tbfoot p (some b) gi) w3 wr)) (fun s27 _ => m - (intOf s27).toNat)
  case atStart => exact ⟨0, _, Nat.zero_le _, rfl, HM0.out⟩
  case round =>
    obtain ⟨i, gi, hi, rfl, HI⟩ := hrel
    clear HM0
    by_cases hlt : i < m
    · have hil : (i : Int) < (m : Int) := by omega
      have hi0 : (0 : Int) ≤ (i : Int) := by omega
      have hik : i < kept.length := by have := HMM.out; omega
      obtain ⟨k, hk, hnk, hLk⟩ := HNA.out i hik
      obtain ⟨nb, nc2, hnb, hnbB⟩ := rowV_some HW3.out.2.2 (by rw [iV_len]; have := HMM.out; omega)
      injection hnb with hnb1 hnb2 hnb3
      subst hnb1
      have hn0 : w3.cell? ⟨nb, i, none⟩ = some (.int .i64 (k : Int)) := rowV_at HW3.out.2.2 (by rw [iV_len]; exact HMM.out.1.symm) hnk
      obtain ⟨lb, lc, hlb, hlbB, hlbl, _, _⟩ := rowE_form HW3.out.2.1 (by omega)
      injection hlb with hlb1 hlb2 hlb3
      subst hlb1
      obtain ⟨_, _, d0, d1, d2, d3⟩ := rw_row HW3.out.2.1 k hk
      have hold : ∀ j, j < w3.heap.size → j ≠ p → wr.heap[j]? = w3.heap[j]? := fun j hj hjp => HI.out.2.2.block j hj hjp
      have hnbl : nb < w3.heap.size := by
        obtain ⟨cs, hc⟩ := rowV_obj HW3.out.2.2 (k := nb) rfl
        exact blk_lt hc
      have hnbp : nb ≠ p := by have := HPL.out; omega
      have hlbp : lb ≠ p := by have := HPL.out; omega
      have c9 := (cell_of_heap (o := i) (hold nb hnbl hnbp)).trans hn0
      have c0 := (cell_of_heap (o := k * 4) (hold lb hlbl hlbp)).trans d0
      have c1 := (cell_of_heap (o := k * 4 + 1) (hold lb hlbl hlbp)).trans d1
      have c2 := (cell_of_heap (o := k * 4 + 2) (hold lb hlbl hlbp)).trans d2
      have c3 := (cell_of_heap (o := k * 4 + 3) (hold lb hlbl hlbp)).trans d3
      have hxm := HNM.out _ (List.getElem_mem hk)
      have hknl : (k : Int) < (n : Int) := by have := HN.out; omega
      have hk0 : (0 : Int) ≤ (k : Int) := by omega
      have HST : Hid (kept.take (i + 1) = kept.take i ++ [kept[i]]) := by show _ = _; rw [List.take_add_one, List.getElem?_eq_getElem hik]; rfl
      rw [← hLk] at HST
      obtain ⟨x, hx⟩ : ∃ x, x = L[k] := ⟨_, rfl⟩
      rw [← hx] at c0 c1 c2 c3 hxm HST
      obtain ⟨xn, xi, xb, xd⟩ := x
      simp only at c0 c1 c2 c3 hxm
      clear hnk hLk hnb2 hnb3 hlb2 hlb3 d0 d1 d2 d3 hold hn0 hnbp hlbp hnbl hlbl hnbB hlbB hx hk
      obtain ⟨W1, hW1⟩ : ∃ z, z = wr.alloc (.cells #[.string xn, .int .i64 xi, .int .i64 xb, .int .i64 xd] 49) := ⟨_, rfl⟩
      have hbx : W1.heap[wr.heap.size]? = some (.cells #[.string xn, .int .i64 xi, .int .i64 xb, .int .i64 xd] 49) := by rw [hW1]; exact (MapKept.heap_alloc wr _).1
      have hbe1 : Below wr.heap.size wr W1 := by rw [hW1]; exact bel_newG _ _
      have hbe2 : Below wr.heap.size wr ((W1.alloc (.cells #[.string xn, .int .i64 xi, .int .i64 xb, .int .i64 xd] 49)).drew) := (bel_tr hbe1 (bel_newG _ _)).drew
      have q0 : W1.cell? ⟨p, 0, none⟩ = some (.map (some b)) := blk_cell (blk_below hbe1 HI.out.1) rfl
      have hp1 : p < W1.heap.size := blk_lt (blk_below hbe1 HI.out.1)
      have e0 : W1.cell? ⟨wr.heap.size, 0, none⟩ = some (.string xn) := blk_cell hbx rfl
      have e1 : W1.cell? ⟨wr.heap.size, 1, none⟩ = some (.int .i64 xi) := blk_cell hbx rfl
      have e2 : W1.cell? ⟨wr.heap.size, 2, none⟩ = some (.int .i64 xb) := blk_cell hbx rfl
      have e3 : W1.cell? ⟨wr.heap.size, 3, none⟩ = some (.int .i64 xd) := blk_cell hbx rfl
      have hw1 := blk_lt hbx
      have hl1 := HI.out.2.1.lookup hbe1.drew hxm
      have hl2 := HI.out.2.1.lookup hbe2 hxm
      have HMR := HI.out.2.1.below hbe2
      have hul : ∀ j, (rv gi xn).ownBlock = some j → j < wr.heap.size := fun j hj => HI.out.2.1.rvlt hj
      have HLS : Hid (∀ s, (gi s).isSome = true → s ∈ kept.map Rw.name) := fun s hs => by
        obtain ⟨y, hy⟩ := List.exists_mem_of_ne_nil _ ((HI.out.2.1.isSome s).1 hs)
        obtain ⟨h2, h3⟩ := List.mem_filter.1 hy
        exact List.mem_map.2 ⟨y, List.mem_of_mem_take h2, ofN_iff.1 h3⟩
      obtain ⟨ρ, hρ⟩ : ∃ ρ : ByteArray → List Rw, ρ = fun s => (kept.take i).filter (ofN s) := ⟨_, rfl⟩
      have hρl : (ρ xn).length ≤ 900 := by
        rw [hρ]
        have h2 := List.length_filter_le (ofN xn) (kept.take i)
        rw [List.length_take] at h2
        have := HMM.out
        have := HN.out
        show ((kept.take i).filter (ofN xn)).length ≤ 900
        omega
      rw [← hρ] at HMR
      have HI2 : Hid (wr.heap[p]? = some (.cells #[.map (some b), .int .i64 t.last] 56) ∧ MapR wr B (some b) gi ρ ∧ TurnF (fun k => k = p) (tbfoot p (some b) gi) w3 wr) := by rw [hρ]; exact HI.out
      have HRH : Hid (∀ s, ρ s = (kept.take i).filter (ofN s)) := fun s => by rw [hρ]
      obtain ⟨u, hu⟩ : ∃ u, u = rv gi xn := ⟨_, rfl⟩
      rw [← hu] at hl1 hl2
      have HRU : Hid (RowE rwE ((W1.alloc (.cells #[.string xn, .int .i64 xi, .int .i64 xb, .int .i64 xd] 49)).drew) B 49 u (ρ xn) ∧ SeesE rwE ((W1.alloc (.cells #[.string xn, .int .i64 xi, .int .i64 xb, .int .i64 xd] 49)).drew) (.slice (some ⟨W1.heap.size, 0, none⟩) 1 1) [(⟨xn, xi, xb, xd⟩ : Rw)] ∧ B ≤ ((W1.alloc (.cells #[.string xn, .int .i64 xi, .int .i64 xb, .int .i64 xd] 49)).drew).heap.size ∧ (ρ xn).length + [(⟨xn, xi, xb, xd⟩ : Rw)].length ≤ maxLen ∧ ((ρ xn).length + [(⟨xn, xi, xb, xd⟩ : Rw)].length) * 40 ≤ 140737488355328) := by
        refine ⟨by rw [hu]; exact HMR.rowv xn, seesE_at rwE (x := ⟨xn, xi, xb, xd⟩) (MapKept.heap_alloc W1 _).1, HMR.low, ?_, ?_⟩ <;> simp only [List.length_cons, List.length_nil] <;> (try unfold maxLen) <;> omega
      have HPT : Hid (∀ w4 v', RowE rwE w4 B 49 v' (ρ xn ++ [(⟨xn, xi, xb, xd⟩ : Rw)]) → ((W1.alloc (.cells #[.string xn, .int .i64 xi, .int .i64 xb, .int .i64 xd] 49)).drew).grownBy w4 u.ownBlock → (∀ k, v'.ownBlock = some k → u.ownBlock = some k ∨ ((W1.alloc (.cells #[.string xn, .int .i64 xi, .int .i64 xb, .int .i64 xd] 49)).drew).heap.size ≤ k) → w4.cell? ⟨p, 0, none⟩ = some (.map (some b)) ∧ w4.cell? ⟨wr.heap.size, 0, none⟩ = some (.string xn) ∧ w4.cell? ⟨wr.heap.size, 1, none⟩ = some (.int .i64 xi) ∧ w4.cell? ⟨wr.heap.size, 2, none⟩ = some (.int .i64 xb) ∧ w4.cell? ⟨wr.heap.size, 3, none⟩ = some (.int .i64 xd) ∧ p < w4.heap.size ∧ wr.heap.size < w4.heap.size ∧ ∃ w5, (Instr.mapUpdate 54 (.map (some b)) (.string xn) v').run Tryz.prog w4 = .ok () w5 ∧ (w5.cell? ⟨p, 0, none⟩ = some (.map (some b)) ∧ w5.cell? ⟨wr.heap.size, 0, none⟩ = some (.string xn) ∧ w5.cell? ⟨wr.heap.size, 1, none⟩ = some (.int .i64 xi) ∧ w5.cell? ⟨wr.heap.size, 2, none⟩ = some (.int .i64 xb) ∧ w5.cell? ⟨wr.heap.size, 3, none⟩ = some (.int .i64 xd)) ∧ Hid (∃ g5, MapR w5 B (some b) g5 (fun s => if s = xn then ρ xn ++ [(⟨xn, xi, xb, xd⟩ : Rw)] else ρ s) ∧ w5.heap[p]? = some (.cells #[.map (some b), .int .i64 t.last] 56) ∧ TurnF (fun k => k = p) (tbfoot p (some b) g5) w3 w5)) := fun w4 v' k1 k2 k3 => by
        rw [hu] at k2 k3
        obtain ⟨c1, w5, c2, c3, c4, c5⟩ := add_put (W := W1) (bel_newG W1 _).drew (blk_below hbe1 HI2.out.1) (HI2.out.2.1.below hbe1) k2 k1 (by simp) k3 hxm _ HLS.out (by rw [List.length_map]; have := HMM.out; have := HN.out; unfold maxLen; omega)
        have hbx4 : w4.heap[wr.heap.size]? = some (.cells #[.string xn, .int .i64 xi, .int .i64 xb, .int .i64 xd] 49) := by
          have hb2 : ((W1.alloc (.cells #[.string xn, .int .i64 xi, .int .i64 xb, .int .i64 xd] 49)).drew).heap[wr.heap.size]? = some (.cells #[.string xn, .int .i64 xi, .int .i64 xb, .int .i64 xd] 49) := blk_below (bel_newG W1 _).drew hbx
          exact (k2.block _ (blk_lt hb2) (fun e => by have := hul _ e.symm; omega)).trans hb2
        have hbx5 : w5.heap[wr.heap.size]? = some (.cells #[.string xn, .int .i64 xi, .int .i64 xb, .int .i64 xd] 49) := c5.kept hbx (fun e => by
          rcases e with e | e
          · have := blk_lt HI2.out.1; omega
          · have := HI2.out.2.1.lt e; omega)
        exact ⟨blk_cell c1 rfl, blk_cell hbx4 rfl, blk_cell hbx4 rfl, blk_cell hbx4 rfl, blk_cell hbx4 rfl, blk_lt c1, blk_lt hbx4, w5, c2, ⟨blk_cell c4 rfl, blk_cell hbx5 rfl, blk_cell hbx5 rfl, blk_cell hbx5 rfl, blk_cell hbx5 rfl⟩, _, c3, c4, (HI2.out.2.2.trans (turnF_below hbe1)).trans c5⟩
      have hbxd : W1.drew.heap[wr.heap.size]? = some (.cells #[.string xn, .int .i64 xi, .int .i64 xb, .int .i64 xd] 49) := hbx
      have hbxa : ((W1.alloc (.cells #[.string xn, .int .i64 xi, .int .i64 xb, .int .i64 xd] 49)).drew).heap[wr.heap.size]? = some (.cells #[.string xn, .int .i64 xi, .int .i64 xb, .int .i64 xd] 49) := blk_below (bel_newG W1 _).drew hbx
      have hpd : W1.drew.heap[p]? = some (.cells #[.map (some b), .int .i64 t.last] 56) := blk_below hbe1.drew HI.out.1
      have hpa : ((W1.alloc (.cells #[.string xn, .int .i64 xi, .int .i64 xb, .int .i64 xd] 49)).drew).heap[p]? = some (.cells #[.map (some b), .int .i64 t.last] 56) := blk_below hbe2 HI.out.1
      have sd0 : W1.drew.cell? ⟨p, 0, none⟩ = some (.map (some b)) := blk_cell hpd rfl
      have sd1 : W1.drew.cell? ⟨wr.heap.size, 0, none⟩ = some (.string xn) := blk_cell hbxd rfl
      have sd2 : W1.drew.cell? ⟨wr.heap.size, 1, none⟩ = some (.int .i64 xi) := blk_cell hbxd rfl
      have sd3 : W1.drew.cell? ⟨wr.heap.size, 2, none⟩ = some (.int .i64 xb) := blk_cell hbxd rfl
      have sd4 : W1.drew.cell? ⟨wr.heap.size, 3, none⟩ = some (.int .i64 xd) := blk_cell hbxd rfl
      have sa0 : ((W1.alloc (.cells #[.string xn, .int .i64 xi, .int .i64 xb, .int .i64 xd] 49)).drew).cell? ⟨p, 0, none⟩ = some (.map (some b)) := blk_cell hpa rfl
      have sa1 : ((W1.alloc (.cells #[.string xn, .int .i64 xi, .int .i64 xb, .int .i64 xd] 49)).drew).cell? ⟨wr.heap.size, 0, none⟩ = some (.string xn) := blk_cell hbxa rfl
      have sa2 : ((W1.alloc (.cells #[.string xn, .int .i64 xi, .int .i64 xb, .int .i64 xd] 49)).drew).cell? ⟨wr.heap.size, 1, none⟩ = some (.int .i64 xi) := blk_cell hbxa rfl
      have sa3 : ((W1.alloc (.cells #[.string xn, .int .i64 xi, .int .i64 xb, .int .i64 xd] 49)).drew).cell? ⟨wr.heap.size, 2, none⟩ = some (.int .i64 xb) := blk_cell hbxa rfl
      have sa4 : ((W1.alloc (.cells #[.string xn, .int .i64 xi, .int .i64 xb, .int .i64 xd] 49)).drew).cell? ⟨wr.heap.size, 3, none⟩ = some (.int .i64 xd) := blk_cell hbxa rfl
      go_upto_region 10 with fail
      rw [← hW1]
      clear hW1 c9 c0 c1 c2 c3 hxm hbxd hbxa hpd hpa hbx hbe1 hbe2 HMR hul hρ hρl hu HI
      clear q0 e0 e1 e2 e3
      go_region_held3 (fun X => X.cell? ⟨p, 0, none⟩ = some (.map (some b)) ∧ X.cell? ⟨wr.heap.size, 0, none⟩ = some (.string xn) ∧ X.cell? ⟨wr.heap.size, 1, none⟩ = some (.int .i64 xi) ∧ X.cell? ⟨wr.heap.size, 2, none⟩ = some (.int .i64 xb) ∧ X.cell? ⟨wr.heap.size, 3, none⟩ = some (.int .i64 xd)) (first | with_reducible exact ⟨sd0, sd1, sd2, sd3, sd4⟩ | with_reducible exact ⟨sa0, sa1, sa2, sa3, sa4⟩ | with_reducible exact ⟨y1, y2, z1, z2, z3⟩ | with_reducible exact y6 | fail)
        ((refine step_appF (E := rwE) Tryz.underlying41 infoEn rfl (by rfl) (.tmp 47) (.tmp 49) (by rfl) B u (ρ xn) (by rfl) HRU.out.1 (.slice (some ⟨W1.heap.size, 0, none⟩) 1 1) [(⟨xn, xi, xb, xd⟩ : Rw)] (by rfl) HRU.out.2.1 HRU.out.2.2.2.1 HRU.out.2.2.2.2 HRU.out.2.2.1 ?_; intro v4 w4 k1 k2 k3; obtain ⟨y1, y2, z1, z2, z3, y3, y4, w5, y5, y6, H5⟩ := HPT.out w4 v4 k1 k2 k3; clear k1 k2 k3))
      all_goals (
        have HN5 : Hid (∃ g5, w5.heap[p]? = some (.cells #[.map (some b), .int .i64 t.last] 56) ∧ MapR w5 B (some b) g5 (fun s => (kept.take (i + 1)).filter (ofN s)) ∧ TurnF (fun k => k = p) (tbfoot p (some b) g5) w3 w5) := by
          obtain ⟨g5, m1, m2, m3⟩ := H5.out
          refine ⟨g5, m2, m1.congr (fun s => ?_), m3⟩
          rw [HST.out, List.filter_append]
          by_cases hs : s = xn
          · subst hs
            simp only [if_true]
            rw [HRH.out, List.filter_cons_of_pos (by rw [ofN_iff])]
            rfl
          · simp only [if_neg hs]
            rw [HRH.out, List.filter_cons_of_neg (by rw [ofN_iff]; exact fun e => hs e.symm)]
            simp
        clear H5 HPT HRU HI2
        go_wp2_with fail
        go_roundw
        case rel =>
          obtain ⟨g5, hg5⟩ := HN5.out
          exact ⟨i + 1, g5, by omega, by go_num, hg5⟩
        case measure => simp [intOf]; omega)
    · have hil : ¬ (i : Int) < (m : Int) := by omega
      have HE : Hid ((n : Int) - (m : Int) = cleanN t es ∧ TAt wr p B (tbfoot p (some b) gi) (cleanT t es) ∧ TurnF (tbfoot p mo g) (tbfoot p (some b) gi) w wr) := by
        have h1 := HI.out
        rw [List.take_of_length_le (by have := HMM.out; omega)] at h1
        refine ⟨by unfold cleanN; have := HK.out; have := HMM.out; have := HN.out; omega, ⟨some b, gi, ⟨h1.1, HT.out.hp, h1.2.1.congr (fun s => HK.out.2.2.2.1 s)⟩, rfl⟩, ?_⟩
        have h2 := (turnF_below (F := fun k => k = p) HW3.out.1).trans h1.2.2
        exact ⟨h2.os, h2.tape, h2.output, h2.size, fun k hk hF => h2.block k hk (fun e => hF (.inl e)), fun k hk => (h2.fresh k hk).imp .inl id⟩
      go_wp2_with fail
      go_ret
      exact ⟨by rw [← HE.out.1]; rfl, _, HE.out.2⟩
theorem tclean_any {w : World} {p B : Nat} {F : Nat → Prop} {t : Tb} (v : Value) (es : List Int) (h : TAt w p B F t) (hi : Inv t) (hl : t.rs.length ≤ 900) (hv : Sees w v (iV es)) (hes : es.length ≤ 2000) :
    Calls Tryz.prog 21 #[.pointer (some ⟨p, 0, none⟩), v] w fun x w' => x = .returned (.int .i64 (cleanN t es)) ∧ ∃ F', TAt w' p B F' (cleanT t es) ∧ TurnF F F' w w' := by
  obtain ⟨mo, g, h1, rfl⟩ := h
  exact tclean_some v es h1 hi hl hv hes
end Go.Proofs.YthjcmagionaepaaGreat
