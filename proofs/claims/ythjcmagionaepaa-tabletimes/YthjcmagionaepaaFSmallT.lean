/- package table: New, Last, kept, takes, leads. -/
import Derived.Test.YthjcmagionaepaaFTabAt
import Derived.Shelf.Abstract
namespace Go.Proofs.Ythjcmagionaepaa
open Go.RowKit Kit
set_option linter.unusedVariables false

theorem tnew_any (w : World) : Calls Try.prog 5 #[] w fun x w' => ∃ p F, x = .returned (.pointer (some ⟨p, 0, none⟩)) ∧ TAt w' p w.heap.size F tb0 ∧ Below w.heap.size w w' := by
  have HB : Hid (Below w.heap.size w (w.alloc (.cells #[.map none, .int .i64 0] 40))) := bel_newG _ _
  have HC : Hid ((w.alloc (.cells #[.map none, .int .i64 0] 40)).heap[w.heap.size]? = some (.cells #[.map none, .int .i64 0] 40)) := (MapKept.heap_alloc w _).1
  go_enter Try.func5, Try.ntmps5
  go_wp2
  go_ret
  exact ⟨_, _, rfl, ⟨none, fun _ => none, ⟨HC.out, Nat.le_refl _, ⟨HB.out.size, .inl ⟨rfl, fun _ => rfl⟩, (fun s v e => by cases e), fun s _ => rfl, (fun s s' v v' k e => by cases e)⟩⟩, rfl⟩, HB.out⟩
theorem tzero_any (w : World) : ∃ F, TAt (w.alloc (.cells #[.map none, .int .i64 0] 40)) w.heap.size w.heap.size F tb0 :=
  ⟨_, none, fun _ => none, ⟨(MapKept.heap_alloc w _).1, Nat.le_refl _, ⟨(bel_newG _ _).size, .inl ⟨rfl, fun _ => rfl⟩, (fun s v e => by cases e), fun s _ => rfl, (fun s s' v v' k e => by cases e)⟩⟩, rfl⟩
theorem tlast_nil (w : World) : Calls Try.prog 12 #[.pointer none] w fun x w' => x = .returned (.int .i64 0) ∧ Below w.heap.size w w' := by
  go_enter Try.func12, Try.ntmps12
  go_wp2
  go_ret
  exact ⟨rfl, Below.refl _ _⟩
theorem tlast_any {w : World} {p : Nat} {m : Value} {last : Int} (h : w.heap[p]? = some (.cells #[m, .int .i64 last] 40)) : Calls Try.prog 12 #[.pointer (some ⟨p, 0, none⟩)] w fun x w' => x = .returned (.int .i64 last) ∧ Below w.heap.size w w' := by
  have q1 : w.cell? ⟨p, 1, none⟩ = some (.int .i64 last) := blk_cell h rfl
  clear h
  go_enter Try.func12, Try.ntmps12
  go_wp2
  go_ret
  exact ⟨rfl, Below.refl _ _⟩
theorem tkept_nil (w : World) : Calls Try.prog 17 #[.pointer none] w fun x w' => x = .returned (.map none) ∧ w' = w := by
  go_enter Try.func17, Try.ntmps17
  go_wp2
  go_ret
  exact ⟨rfl, rfl⟩
theorem tkept_any {w : World} {p : Nat} {mo : Option Nat} {last : Int} (h : w.heap[p]? = some (.cells #[.map mo, .int .i64 last] 40)) : Calls Try.prog 17 #[.pointer (some ⟨p, 0, none⟩)] w fun x w' => x = .returned (.map mo) ∧ w' = w := by
  have q0 : w.cell? ⟨p, 0, none⟩ = some (.map mo) := blk_cell h rfl
  clear h
  go_enter Try.func17, Try.ntmps17
  go_wp2
  go_ret
  exact ⟨rfl, rfl⟩
theorem ttakes_nil (name : ByteArray) (e : Int) (w : World) : Calls Try.prog 13 #[.pointer none, .string name, .int .i64 e] w fun x w' => x = .returned (.bool false) ∧ w' = w := by
  go_enter Try.func13, Try.ntmps13
  go_wp2
  go_ret
  exact ⟨rfl, rfl⟩
set_option maxRecDepth 4000 in
theorem ttakes_any {w : World} {p : Nat} {mo : Option Nat} {last : Int} (h : w.heap[p]? = some (.cells #[.map mo, .int .i64 last] 40)) (name : ByteArray) (e : Int) :
    Calls Try.prog 13 #[.pointer (some ⟨p, 0, none⟩), .string name, .int .i64 e] w fun x w' => x = .returned (.bool (mayB last name e)) ∧ w' = w := by
  have q1 : w.cell? ⟨p, 1, none⟩ = some (.int .i64 last) := blk_cell h rfl
  clear h
  by_cases hn : name = ⟨#[]⟩
  · subst hn
    have HV : Hid (mayB last ⟨#[]⟩ e = false) := by show _ = _; unfold mayB; simp
    go_enter Try.func13, Try.ntmps13
    go_wp2
    go_ret
    exact ⟨by rw [HV.out]; rfl, rfl⟩
  · have hnl := not_empty hn
    have hnb : (name.toList == []) = false := by simpa using hnl
    have HV : Hid (mayB last name e = (decide (max last 1 ≤ e) && decide (e ≤ 1099511627776))) := by
      show _ = _
      unfold mayB epochB maxE
      rw [decide_eq_false hn, Bool.not_false, Bool.true_and]
      rw [Bool.eq_iff_iff]
      simp only [Bool.and_eq_true, decide_eq_true_eq]
      omega
    by_cases h1 : last < 1
    · have HM : Hid (max last 1 = 1) := by show _ = _; omega
      rw [HM.out] at HV
      by_cases h2 : (1 : Int) ≤ e
      · by_cases h3 : e ≤ 1099511627776
        · have HW : Hid (mayB last name e = true) := by rw [HV.out]; simp [h2, h3]; trivial
          go_enter Try.func13, Try.ntmps13
          go_wp2
          go_ret
          exact ⟨by rw [HW.out]; rfl, rfl⟩
        · have HW : Hid (mayB last name e = false) := by rw [HV.out]; simp [h3]; trivial
          go_enter Try.func13, Try.ntmps13
          go_wp2
          go_ret
          exact ⟨by rw [HW.out]; rfl, rfl⟩
      · have HW : Hid (mayB last name e = false) := by rw [HV.out]; simp [h2]; trivial
        go_enter Try.func13, Try.ntmps13
        go_wp2
        go_ret
        exact ⟨by rw [HW.out]; rfl, rfl⟩
    · have HM : Hid (max last 1 = last) := by show _ = _; omega
      rw [HM.out] at HV
      by_cases h2 : last ≤ e
      · by_cases h3 : e ≤ 1099511627776
        · have HW : Hid (mayB last name e = true) := by rw [HV.out]; simp [h2, h3]; trivial
          go_enter Try.func13, Try.ntmps13
          go_wp2
          go_ret
          exact ⟨by rw [HW.out]; rfl, rfl⟩
        · have HW : Hid (mayB last name e = false) := by rw [HV.out]; simp [h3]; trivial
          go_enter Try.func13, Try.ntmps13
          go_wp2
          go_ret
          exact ⟨by rw [HW.out]; rfl, rfl⟩
      · have HW : Hid (mayB last name e = false) := by rw [HV.out]; simp [h2]; trivial
        go_enter Try.func13, Try.ntmps13
        go_wp2
        go_ret
        exact ⟨by rw [HW.out]; rfl, rfl⟩
/-- Does a row's name lead to an inode that has no end? -/
def leadsB (xs : List Rw) : Bool := match xs.getLast? with | some r => decide (r.died = 0) | none => false
theorem leads_nil : leadsB [] = false := rfl
theorem leads_at {xs : List Rw} (h : 0 < xs.length) : leadsB xs = decide (xs[xs.length - 1].died = 0) := by
  unfold leadsB
  rw [List.getLast?_eq_getElem?, List.getElem?_eq_getElem (by omega)]
theorem tleads_any (v : Value) (xs : List Rw) (w : World) (h : SeesE rwE w v xs) (hl : xs.length ≤ 100000) : Calls Try.prog 14 #[v] w fun x w' => x = .returned (.bool (leadsB xs)) ∧ w' = w := by
  obtain ⟨ao, cap, rfl⟩ := h.form
  by_cases h0 : xs.length = 0
  · obtain rfl : xs = [] := List.eq_nil_of_length_eq_zero h0
    have HV : Hid (leadsB ([] : List Rw) = false) := leads_nil
    clear h h0 hl
    go_enter Try.func14, Try.ntmps14
    go_wp2
    go_ret
    exact ⟨by rw [HV.out]; rfl, rfl⟩
  · obtain ⟨b, off, rfl, _, hb, hc⟩ := rw_cells h (by omega)
    have HV : Hid (leadsB xs = decide (xs[xs.length - 1].died = 0)) := leads_at (by omega)
    have c3 := (hc (xs.length - 1) (by omega)).2.2.2
    obtain ⟨d, hd⟩ : ∃ d, d = xs[xs.length - 1].died := ⟨_, rfl⟩
    rw [← hd] at c3 HV
    obtain ⟨n, hn⟩ : ∃ n, n = xs.length := ⟨_, rfl⟩
    rw [← hn] at c3 ⊢
    have hn0 : (0 : Int) < (n : Int) := by omega
    have hn1 : ((n : Int) - 1) = ((n - 1 : Nat) : Int) := by omega
    have hn2 : (n : Int) ≤ 100000 := by omega
    have hlt : ((n - 1 : Nat) : Int) < (n : Int) := by omega
    have hge : (0 : Int) ≤ ((n - 1 : Nat) : Int) := by omega
    clear h hc hd h0 hl hn
    by_cases hz : d = 0
    · subst hz
      go_enter Try.func14, Try.ntmps14
      go_wp2
      go_ret
      exact ⟨by rw [HV.out]; rfl, rfl⟩
    · go_enter Try.func14, Try.ntmps14
      go_wp2
      go_ret
      exact ⟨by rw [HV.out]; simp [hz], rfl⟩
end Go.Proofs.Ythjcmagionaepaa
