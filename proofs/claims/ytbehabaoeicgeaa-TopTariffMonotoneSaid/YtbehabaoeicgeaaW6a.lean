/- Whether a tariff has few parts. No condition. -/
import Derived.Test.YtbehabaoeicgeaaW5a
namespace Go.Proofs.Ytbehabaoeicgeaa
open Go.RowKit Fs

def fewZ (T : Tar) : Prop := ∀ j, j < T.zones.length → (listS T.zones j).size ≤ 20
def fewR (T : Tar) : Prop := ∀ j, j < T.rules.length → (listR T.rules j).name.size ≤ 20 ∧ (listR T.rules j).zones.length ≤ 8 ∧ (listR T.rules j).days.length ≤ 10
def fewE (T : Tar) : Prop := ∀ j, j < T.extras.length → (listE T.extras j).name.size ≤ 20
/-- Few parts, or a few too many, and short names. -/
def FewP (T : Tar) : Prop := T.name.size ≤ 20 ∧ many T.zones.length 3 6 = false ∧ many T.hols.length 5 20 = false ∧ many T.rules.length 4 12 = false ∧ many T.extras.length 3 6 = false ∧ many T.fixed.length 5 16 = false ∧ fewZ T ∧ fewR T ∧ fewE T
open Classical in
noncomputable def few (T : Tar) : Bool := decide (FewP T)
theorem few_yes {T : Tar} (h : FewP T) : few T = true := by unfold few; simpa using h
theorem few_no {T : Tar} (h : ¬ FewP T) : few T = false := by unfold few; simpa using h

set_option maxHeartbeats 1000000 in
set_option maxRecDepth 100000 in
theorem few_any (T : Tar) (v : Value) (w : World) (hT : RdTar w v T) :
    Calls Try.prog 6 #[v] w fun e w' => e = .returned (.bool (few T)) ∧ Below w.heap.size w w' := by
  obtain ⟨z, h, r, e, f, zc, hc, rc, ec, fc, a, rfl, m⟩ := hT
  have a1 := m.zones.le.1
  have a2 := m.zones.le.2
  have a3 := m.hols.le.1
  have a4 := m.hols.le.2
  have a5 := m.rules.le.1
  have a6 := m.rules.le.2
  have a7 := m.extras.le.1
  have a8 := m.extras.le.2
  have a9 := m.fixed.le.1
  have a10 := m.fixed.le.2
  by_cases h0 : T.name.size ≤ 20 ∧ many T.zones.length 3 6 = false ∧ many T.hols.length 5 20 = false ∧ many T.rules.length 4 12 = false ∧ many T.extras.length 3 6 = false ∧ many T.fixed.length 5 16 = false
  · have H0 := Lib.hid h0
    obtain ⟨g0, g1, g2, g3, g4, g5⟩ := h0
    have g0' : decide ((20 : Int) < (T.name.size : Int)) = false := by simp; omega
    go_enter Try.func6, Try.ntmps6
    go_wp2_with (go_at_call 18; refine (many_any _ _ _ _ (by omega) (by omega)).mono ?_; rintro e w' ⟨rfl, rfl⟩)
    clear g0 g0' g1 g2 g3 g4 g5
    go_loop [3] (fun i => ∃ k : Nat, k ≤ T.zones.length ∧ i = .int .i64 k ∧ Hid (∀ j, j < k → (listS T.zones j).size ≤ 20)) (fun i => T.zones.length - (intOf i).toNat)
    case atStart => exact ⟨0, Nat.zero_le _, rfl, fun j hj => absurd hj (Nat.not_lt_zero _)⟩
    case round =>
      obtain ⟨k, hk, rfl, Hn⟩ := hrel
      by_cases hlt : k < T.zones.length
      · obtain ⟨b, o, rfl, c0⟩ := m.zones.at_ hlt
        have c0 := fun x => Keep.alloc w x _ _ c0
        by_cases hx : (listS T.zones k).size ≤ 20
        · have F : Hid (∀ j, j < k + 1 → (listS T.zones j).size ≤ 20) := fun j hj => by
            by_cases e : j = k
            · subst e; exact hx
            · exact Hn.out j (by omega)
          go_wp2
          go_round
          case rel => exact ⟨k + 1, by omega, by go_num, F⟩
          case measure => simp [intOf]; omega
        · have F := Lib.hid (few_no (T := T) fun hh => hx (hh.2.2.2.2.2.2.1 k hlt))
          go_wp2
          go_ret
          exact ⟨ret_bool F.out.symm, (Below.refl _ _).alloc (Nat.le_refl _) _⟩
      · have HZ : Hid (fewZ T) := fun j hj => Hn.out j (by omega)
        go_wp2
        go_loop [4] (fun i => ∃ k : Nat, k ≤ T.rules.length ∧ i = .int .i64 k ∧ Hid (∀ j, j < k → (listR T.rules j).name.size ≤ 20 ∧ (listR T.rules j).zones.length ≤ 8 ∧ (listR T.rules j).days.length ≤ 10)) (fun i => T.rules.length - (intOf i).toNat)
        case atStart => exact ⟨0, Nat.zero_le _, rfl, fun j hj => absurd hj (Nat.not_lt_zero _)⟩
        case round =>
          clear hk hlt Hn
          obtain ⟨k, hk, rfl, Hn⟩ := hrel
          by_cases hlt : k < T.rules.length
          · obtain ⟨b, o, rfl, q⟩ := m.rules.at_ hlt
            have c0 := fun x => Keep.alloc w x _ _ q.c0
            have c3 := fun x => Keep.alloc w x _ _ q.c3
            have c4 := fun x => Keep.alloc w x _ _ q.c4
            clear q
            have p1 := (m.rules.2 k hlt).1.le.1
            have p2 := (m.rules.2 k hlt).1.le.2
            have p3 := (m.rules.2 k hlt).2.le.1
            have p4 := (m.rules.2 k hlt).2.le.2
            by_cases hx : (listR T.rules k).name.size ≤ 20
            · by_cases hy : (listR T.rules k).zones.length ≤ 8
              · by_cases hv : (listR T.rules k).days.length ≤ 10
                · have F : Hid (∀ j, j < k + 1 → (listR T.rules j).name.size ≤ 20 ∧ (listR T.rules j).zones.length ≤ 8 ∧ (listR T.rules j).days.length ≤ 10) := fun j hj => by
                    by_cases e : j = k
                    · subst e; exact ⟨hx, hy, hv⟩
                    · exact Hn.out j (by omega)
                  go_wp2
                  go_round
                  case rel => exact ⟨k + 1, by omega, by go_num, F⟩
                  case measure => simp [intOf]; omega
                · have F := Lib.hid (few_no (T := T) fun hh => hv (hh.2.2.2.2.2.2.2.1 k hlt).2.2)
                  go_wp2
                  go_ret
                  exact ⟨ret_bool F.out.symm, (Below.refl _ _).alloc (Nat.le_refl _) _⟩
              · have F := Lib.hid (few_no (T := T) fun hh => hy (hh.2.2.2.2.2.2.2.1 k hlt).2.1)
                go_wp2
                go_ret
                exact ⟨ret_bool F.out.symm, (Below.refl _ _).alloc (Nat.le_refl _) _⟩
            · have F := Lib.hid (few_no (T := T) fun hh => hx (hh.2.2.2.2.2.2.2.1 k hlt).1)
              go_wp2
              go_ret
              exact ⟨ret_bool F.out.symm, (Below.refl _ _).alloc (Nat.le_refl _) _⟩
          · have HR : Hid (fewR T) := fun j hj => Hn.out j (by omega)
            go_wp2
            go_loop [5] (fun i => ∃ k : Nat, k ≤ T.extras.length ∧ i = .int .i64 k ∧ Hid (∀ j, j < k → (listE T.extras j).name.size ≤ 20)) (fun i => T.extras.length - (intOf i).toNat)
            case atStart => exact ⟨0, Nat.zero_le _, rfl, fun j hj => absurd hj (Nat.not_lt_zero _)⟩
            case round =>
              clear hk hlt Hn
              obtain ⟨k, hk, rfl, Hn⟩ := hrel
              by_cases hlt : k < T.extras.length
              · obtain ⟨b, o, rfl, c0, _⟩ := m.extras.at_ hlt
                have c0 := fun x => Keep.alloc w x _ _ c0
                by_cases hx : (listE T.extras k).name.size ≤ 20
                · have F : Hid (∀ j, j < k + 1 → (listE T.extras j).name.size ≤ 20) := fun j hj => by
                    by_cases e : j = k
                    · subst e; exact hx
                    · exact Hn.out j (by omega)
                  go_wp2
                  go_round
                  case rel => exact ⟨k + 1, by omega, by go_num, F⟩
                  case measure => simp [intOf]; omega
                · have F := Lib.hid (few_no (T := T) fun hh => hx (hh.2.2.2.2.2.2.2.2 k hlt))
                  go_wp2
                  go_ret
                  exact ⟨ret_bool F.out.symm, (Below.refl _ _).alloc (Nat.le_refl _) _⟩
              · have H := H0.out
                have F := Lib.hid (few_yes (T := T) ⟨H.1, H.2.1, H.2.2.1, H.2.2.2.1, H.2.2.2.2.1, H.2.2.2.2.2, HZ.out, HR.out, fun j hj => Hn.out j (by omega)⟩)
                clear H
                go_wp2
                go_ret
                exact ⟨ret_bool F.out.symm, (Below.refl _ _).alloc (Nat.le_refl _) _⟩
  · have F := Lib.hid (few_no (T := T) fun hh => h0 ⟨hh.1, hh.2.1, hh.2.2.1, hh.2.2.2.1, hh.2.2.2.2.1, hh.2.2.2.2.2.1⟩)
    go_enter Try.func6, Try.ntmps6
    go_wp2_with (go_at_call 18; refine (many_any _ _ _ _ (by omega) (by omega)).mono ?_; rintro e w' ⟨rfl, rfl⟩)
    all_goals first
      | (go_ret; exact ⟨ret_bool F.out.symm, (Below.refl _ _).alloc (Nat.le_refl _) _⟩)
      | (exfalso; clear m; simp_all; done)
      | (exfalso; clear m; simp_all; omega)
end Go.Proofs.Ytbehabaoeicgeaa
