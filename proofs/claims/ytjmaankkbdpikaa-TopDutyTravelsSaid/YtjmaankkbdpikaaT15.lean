/- The search's memory, and the nearest place that is not done. No condition. -/
import Derived.Test.YtjmaankkbdpikaaT14
namespace Go.Proofs.Ytjmaankkbdpikaa
open Go.RowKit Fs

theorem RowV.set {w : World} {g : Nat} {t : TypeId} {l : List Value} (h : RowV w g t l) (i : Nat) (v : Value) : RowV (w.setCell ⟨g, i, none⟩ v) g t (l.set i v) := by
  unfold RowV
  rw [heap_setCell_same w g i l.toArray t v h]
  simp
theorem RowV.far {w : World} {g : Nat} {t : TypeId} {l : List Value} (h : RowV w g t l) {p : Addr} (hp : p.block ≠ g) (v : Value) : RowV (w.setCell p v) g t l := by
  unfold RowV
  rw [heap_setCell_other w p g v (fun e => hp e.symm)]
  exact h
/-- The search's memory: its tree at gt, whose lists lie at gl and ga, and what is done at gd, in a row at gb. -/
structure SrAt (w : World) (gt gd gl ga gb n : Nat) (s : St) : Prop where
  t0 : w.cell? ⟨gt, 0, none⟩ = some (.slice (some ⟨gl, 0, none⟩) n n)
  t1 : w.cell? ⟨gt, 1, none⟩ = some (.slice (some ⟨ga, 0, none⟩) n n)
  d0 : w.cell? ⟨gd, 0, none⟩ = some (.slice (some ⟨gb, 0, none⟩) n n)
  rl : RowV w gl 3 (s.labels.map (Value.int .i64))
  ra : RowV w ga 3 (s.last.map (Value.int .i64))
  rb : RowV w gb 4 (s.done.map Value.bool)
  nl : s.labels.length = n
  na : s.last.length = n
  nb : s.done.length = n
  ne1 : gl ≠ ga
  ne2 : gl ≠ gb
  ne3 : ga ≠ gb
  ne4 : gt ≠ gl ∧ gt ≠ ga ∧ gt ≠ gb
  ne5 : gd ≠ gl ∧ gd ≠ ga ∧ gd ≠ gb
theorem SrAt.below {w w' : World} {gt gd gl ga gb n : Nat} {s : St} (m : SrAt w gt gd gl ga gb n s) (h : Below w.heap.size w w') : SrAt w' gt gd gl ga gb n s :=
  ⟨Keep.below h _ _ m.t0, Keep.below h _ _ m.t1, Keep.below h _ _ m.d0, m.rl.below h m.rl.lt, m.ra.below h m.ra.lt, m.rb.below h m.rb.lt, m.nl, m.na, m.nb, m.ne1, m.ne2, m.ne3, m.ne4, m.ne5⟩
theorem SrAt.lab {w : World} {gt gd gl ga gb n : Nat} {s : St} (m : SrAt w gt gd gl ga gb n s) {i : Nat} (hi : i < n) : w.cell? ⟨gl, i, none⟩ = some (.int .i64 (listI s.labels i)) := by
  rw [m.rl.cell, List.getElem?_map, List.getElem?_eq_getElem (by rw [m.nl]; exact hi)]
  unfold listI
  rw [List.getD_eq_getElem?_getD, List.getElem?_eq_getElem (by rw [m.nl]; exact hi)]
  rfl
theorem SrAt.lst {w : World} {gt gd gl ga gb n : Nat} {s : St} (m : SrAt w gt gd gl ga gb n s) {i : Nat} (hi : i < n) : w.cell? ⟨ga, i, none⟩ = some (.int .i64 (listI s.last i)) := by
  rw [m.ra.cell, List.getElem?_map, List.getElem?_eq_getElem (by rw [m.na]; exact hi)]
  unfold listI
  rw [List.getD_eq_getElem?_getD, List.getElem?_eq_getElem (by rw [m.na]; exact hi)]
  rfl
theorem SrAt.don {w : World} {gt gd gl ga gb n : Nat} {s : St} (m : SrAt w gt gd gl ga gb n s) {i : Nat} (hi : i < n) : w.cell? ⟨gb, i, none⟩ = some (.bool (listB s.done i)) := by
  rw [m.rb.cell, List.getElem?_map, List.getElem?_eq_getElem (by rw [m.nb]; exact hi)]
  unfold listB
  rw [List.getD_eq_getElem?_getD, List.getElem?_eq_getElem (by rw [m.nb]; exact hi)]
  rfl
/-- A label and a last road are written. -/
theorem SrAt.put {w : World} {gt gd gl ga gb n : Nat} {s : St} (m : SrAt w gt gd gl ga gb n s) (i : Nat) (x y : Int) : SrAt ((w.setCell ⟨gl, i, none⟩ (.int .i64 x)).setCell ⟨ga, i, none⟩ (.int .i64 y)) gt gd gl ga gb n ⟨s.labels.set i x, s.last.set i y, s.done⟩ := by
  have far : ∀ g j, gl ≠ g → ga ≠ g → ((w.setCell ⟨gl, i, none⟩ (.int .i64 x)).setCell ⟨ga, i, none⟩ (.int .i64 y)).cell? ⟨g, j, none⟩ = w.cell? ⟨g, j, none⟩ := fun g j h1 h2 => by
    rw [World.cell?_setCell_far _ _ _ _ (by exact h2), World.cell?_setCell_far _ _ _ _ (by exact h1)]
  refine ⟨(far _ _ m.ne4.1.symm m.ne4.2.1.symm).trans m.t0, (far _ _ m.ne4.1.symm m.ne4.2.1.symm).trans m.t1, (far _ _ m.ne5.1.symm m.ne5.2.1.symm).trans m.d0, ?_, ?_, ?_, by simp [m.nl], by simp [m.na], m.nb, m.ne1, m.ne2, m.ne3, m.ne4, m.ne5⟩
  · have := (m.rl.set i (.int .i64 x)).far (p := ⟨ga, i, none⟩) (by exact m.ne1.symm) (.int .i64 y)
    rw [List.map_set]; exact this
  · have := (m.ra.far (p := ⟨gl, i, none⟩) (by exact m.ne1) (.int .i64 x)).set i (.int .i64 y)
    rw [List.map_set]; exact this
  · exact (m.rb.far (p := ⟨gl, i, none⟩) (by exact m.ne2) _).far (p := ⟨ga, i, none⟩) (by exact m.ne3) _
/-- A label alone is written. -/
theorem SrAt.putL {w : World} {gt gd gl ga gb n : Nat} {s : St} (m : SrAt w gt gd gl ga gb n s) (i : Nat) (x : Int) : SrAt (w.setCell ⟨gl, i, none⟩ (.int .i64 x)) gt gd gl ga gb n ⟨s.labels.set i x, s.last, s.done⟩ := by
  have far : ∀ g j, gl ≠ g → (w.setCell ⟨gl, i, none⟩ (.int .i64 x)).cell? ⟨g, j, none⟩ = w.cell? ⟨g, j, none⟩ := fun g j h1 => World.cell?_setCell_far _ _ _ _ (by exact h1)
  refine ⟨(far _ _ m.ne4.1.symm).trans m.t0, (far _ _ m.ne4.1.symm).trans m.t1, (far _ _ m.ne5.1.symm).trans m.d0, ?_, m.ra.far (by exact m.ne1) _, m.rb.far (by exact m.ne2) _, by simp [m.nl], m.na, m.nb, m.ne1, m.ne2, m.ne3, m.ne4, m.ne5⟩
  rw [List.map_set]; exact m.rl.set i _
/-- A place is marked as done. -/
theorem SrAt.putB {w : World} {gt gd gl ga gb n : Nat} {s : St} (m : SrAt w gt gd gl ga gb n s) (i : Nat) : SrAt (w.setCell ⟨gb, i, none⟩ (.bool true)) gt gd gl ga gb n ⟨s.labels, s.last, s.done.set i true⟩ := by
  have far : ∀ g j, gb ≠ g → (w.setCell ⟨gb, i, none⟩ (.bool true)).cell? ⟨g, j, none⟩ = w.cell? ⟨g, j, none⟩ := fun g j h1 => World.cell?_setCell_far _ _ _ _ (by exact h1)
  refine ⟨(far _ _ m.ne4.2.2.symm).trans m.t0, (far _ _ m.ne4.2.2.symm).trans m.t1, (far _ _ m.ne5.2.2.symm).trans m.d0, m.rl.far (by exact m.ne2.symm) _, m.ra.far (by exact m.ne3.symm) _, ?_, m.nl, m.na, by simp [m.nb], m.ne1, m.ne2, m.ne3, m.ne4, m.ne5⟩
  rw [List.map_set]; exact m.rb.set i _

theorem Fs.near_take {s : St} {k : Nat} (h : listB s.done k = false ∧ listI s.labels k ≠ -1 ∧ (nearTo s k = -1 ∨ listI s.labels k < listI s.labels (nearTo s k).toNat)) : nearTo s (k + 1) = k := by rw [nearTo, if_pos h]
theorem Fs.near_leave {s : St} {k : Nat} (h : ¬ (listB s.done k = false ∧ listI s.labels k ≠ -1 ∧ (nearTo s k = -1 ∨ listI s.labels k < listI s.labels (nearTo s k).toNat))) : nearTo s (k + 1) = nearTo s k := by rw [nearTo, if_neg h]

set_option maxHeartbeats 1600000 in
set_option maxRecDepth 100000 in
theorem nearest_any (s : St) (gt gd gl ga gb n : Nat) (w : World) (m : SrAt w gt gd gl ga gb n s) (hn : n ≤ 1000) :
    Calls Try.prog 53 #[.pointer (some ⟨gt, 0, none⟩), .pointer (some ⟨gd, 0, none⟩)] w fun e w' => e = .returned (.int .i64 (nearest s)) ∧ w = w' := by
  have M := Lib.hid m
  have t0 := m.t0
  have d0 := m.d0
  have HN := Lib.hid m.nl
  clear m
  go_enter Try.func53, Try.ntmps53
  go_wp2
  go_loop [3, 9] (fun u v => ∃ k : Nat, k ≤ n ∧ v = .int .i64 k ∧ u = .int .i64 (nearTo s k)) (fun _ v => n - (intOf v).toNat)
  case atStart => exact ⟨0, Nat.zero_le _, rfl, rfl⟩
  case round =>
    obtain ⟨k, hk, rfl, rfl⟩ := hrel
    by_cases hlt : k < n
    · have hkn : (k : Int) < (n : Int) := by omega
      have cl := M.out.lab hlt
      have cd := M.out.don hlt
      cases hb : listB s.done k with
      | true =>
        have F := Lib.hid (near_leave (s := s) (k := k) (fun hh => by rw [hb] at hh; cases hh.1))
        go_wp2
        go_round
        case rel => exact ⟨k + 1, by omega, by go_num, by rw [F.out]⟩
        case measure => simp [intOf]; omega
      | false =>
        by_cases hl : listI s.labels k = -1
        · have F := Lib.hid (near_leave (s := s) (k := k) (fun hh => hh.2.1 hl))
          have e1 : (listI s.labels k == -1) = true := by simpa using hl
          have e1' : (listI s.labels k != -1) = false := by simpa using hl
          clear hl
          go_wp2
          go_round
          case rel => exact ⟨k + 1, by omega, by go_num, by rw [F.out]⟩
          case measure => simp [intOf]; omega
        · have e1 : (listI s.labels k == -1) = false := by simpa using hl
          have e1' : (listI s.labels k != -1) = true := by simpa using hl
          rcases nearTo_is s k with ⟨h1, -⟩ | ⟨p, h1, h2, -, -, -⟩
          · have F := Lib.hid (near_take ⟨hb, hl, .inl h1⟩)
            have e2 : (nearTo s k == -1) = true := by simpa using h1
            clear hl h1
            go_wp2
            go_round
            case rel => exact ⟨k + 1, by omega, by go_num, by rw [F.out]⟩
            case measure => simp [intOf]; omega
          · have e2 : (nearTo s k == -1) = false := by rw [h1]; simp
            have cp := M.out.lab (i := p) (by omega)
            have hpn : (p : Int) < (n : Int) := by omega
            by_cases hq : listI s.labels k < listI s.labels p
            · have F := Lib.hid (near_take (s := s) (k := k) ⟨hb, hl, .inr (by rw [h1]; exact hq)⟩)
              have e3 : decide (listI s.labels k < listI s.labels p) = true := decide_eq_true hq
              clear hl hq
              go_wp2
              go_round
              case rel => exact ⟨k + 1, by omega, by go_num, by rw [F.out]⟩
              case measure => simp [intOf]; omega
            · have F := Lib.hid (near_leave (s := s) (k := k) (fun hh => by
                rcases hh.2.2 with h | h
                · rw [h1] at h; omega
                · rw [h1] at h; exact hq h))
              have e3 : decide (listI s.labels k < listI s.labels p) = false := decide_eq_false hq
              clear hl hq
              go_wp2
              go_round
              case rel => exact ⟨k + 1, by omega, by go_num, by rw [F.out, h1]⟩
              case measure => simp [intOf]; omega
    · have e : k = n := by omega
      have F : Hid (nearTo s k = nearest s) := by unfold nearest; rw [HN.out, e]; exact Lib.hid rfl
      clear e
      go_wp2
      go_ret
      exact ⟨ret_int F.out, rfl⟩
end Go.Proofs.Ytjmaankkbdpikaa
