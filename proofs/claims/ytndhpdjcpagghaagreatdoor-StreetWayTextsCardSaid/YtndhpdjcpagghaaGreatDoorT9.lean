/- Copies of lists of numbers and of texts; whether a net has few parts. Condition of copies: at most a million elements. -/
import Derived.Test.YtndhpdjcpagghaaGreatDoorCopy
import Derived.Test.YtndhpdjcpagghaaGreatDoorT7
namespace Go.Proofs.YtndhpdjcpagghaaGreatDoor
open Go.RowKit Fs

theorem Tryz.infoInt : (Tryz.prog.info? 3).map (fun i => (i.zero, i.size, i.bytes)) = some (some (.int .i64 0), 1, 8) := by kernel_rfl
theorem Tryz.infoText : (Tryz.prog.info? 9).map (fun i => (i.zero, i.size, i.bytes)) = some (some (.string ⟨#[]⟩), 1, 16) := by kernel_rfl
set_option maxHeartbeats 400000 in
theorem copyInts_any (l : List Int) (A : Option Addr) (c : Nat) (w : World) (h : ArrI w A l c) (hn : l.length ≤ 1000000) :
    Calls Tryz.prog 10 #[.slice A l.length c] w fun e w' => ∃ A' c', e = .returned (.slice A' l.length c') ∧ ArrI w' A' l c' ∧ Above w.heap.size A' ∧ Below w.heap.size w w' := by
  obtain ⟨i0, hi, hz0, hz1, hz2⟩ := info_parts Tryz.infoInt
  go_enter Tryz.func10, Tryz.ntmps10
  go_wp2_with (at_builtin
               refine wpList_copy rfl (.tmp 3) (.tmp 4) 26 rfl 3 i0 (.int .i64 0) 1 8 Tryz.underlying26 hi hz0 hz1 hz2 rfl (by decide) w.heap.size w.heap.size rfl (Nat.le_refl _) (heap_alloc_new _ _) A l.length c _ rfl (Arr.keep (Keep.alloc w _) h) (fun _ _ => rfl) (by unfold maxLen; omega) (by omega) ?_
               intro A1 c1 w1 ha hb)
  go_ret
  exact ⟨A1, c1, rfl, own_arrN ha, own_above ha, ((Below.refl _ _).alloc (Nat.le_refl _) _).trans hb⟩
set_option maxHeartbeats 400000 in
theorem copyTexts_any (l : List ByteArray) (A : Option Addr) (c : Nat) (w : World) (h : ArrS w A l c) (hn : l.length ≤ 1000000) :
    Calls Tryz.prog 29 #[.slice A l.length c] w fun e w' => ∃ A' c', e = .returned (.slice A' l.length c') ∧ ArrS w' A' l c' ∧ Above w.heap.size A' ∧ Below w.heap.size w w' := by
  obtain ⟨i0, hi, hz0, hz1, hz2⟩ := info_parts Tryz.infoText
  go_enter Tryz.func29, Tryz.ntmps29
  go_wp2_with (at_builtin
               refine wpList_copy rfl (.tmp 3) (.tmp 4) 22 rfl 9 i0 (.string ⟨#[]⟩) 1 16 Tryz.underlying22 hi hz0 hz1 hz2 rfl (by decide) w.heap.size w.heap.size rfl (Nat.le_refl _) (heap_alloc_new _ _) A l.length c _ rfl (Arr.keep (Keep.alloc w _) h) (fun _ _ => rfl) (by unfold maxLen; omega) (by omega) ?_
               intro A1 c1 w1 ha hb)
  go_ret
  exact ⟨A1, c1, rfl, own_arrN ha, own_above ha, ((Below.refl _ _).alloc (Nat.le_refl _) _).trans hb⟩

theorem below_of_own {w w' : World} {base : Nat} {e : TypeId} {size : Nat} {v : Value} {n : Nat} {xs : List Value} (h : w.ownsRow base e size v n xs) (hb : Below w.heap.size w w') : w'.ownsRow base e size v n xs :=
  h.kept (row := none) ⟨hb.os, hb.tape, hb.output, hb.size, fun k hk _ => hb.block k hk⟩ (by cases v.ownBlock <;> simp)

def Fs.fewD (N : Net) : Prop := ∀ j, j < N.roads.length → (listD N.roads j).name.size ≤ 20 ∧ (listD N.roads j).pts.length ≤ 10
def Fs.fewPl (N : Net) : Prop := ∀ j, j < N.places.length → (listS N.places j).size ≤ 20
def Fs.FewN (N : Net) : Prop := (N.places.length ≤ 7 ∨ (20 < N.places.length ∧ N.places.length ≤ 22)) ∧ (N.roads.length ≤ 14 ∨ (60 < N.roads.length ∧ N.roads.length ≤ 62)) ∧ fewPl N ∧ fewD N
open Classical in
noncomputable def Fs.fewN (N : Net) : Bool := decide (FewN N)
theorem fewN_yes {N : Net} (h : FewN N) : fewN N = true := by unfold fewN; simpa using h
theorem fewN_no {N : Net} (h : ¬ FewN N) : fewN N = false := by unfold fewN; simpa using h
theorem fewN_is {N : Net} (h : fewN N = true) : FewN N := by unfold fewN at h; simpa using h

set_option maxHeartbeats 1600000 in
set_option maxRecDepth 100000 in
theorem few_any (N : Net) (v : Value) (w : World) (hN : RdNet w v N) :
    Calls Tryz.prog 6 #[v] w fun e w' => e = .returned (.bool (fewN N)) ∧ Below w.heap.size w w' := by
  obtain ⟨P, R, pc, rc, a, rfl, m⟩ := hN
  have a1 := m.places.le.1
  have a2 := m.places.le.2
  have b1 := m.roads.le.1
  have b2 := m.roads.le.2
  have M := Lib.hid m
  clear m
  by_cases h0 : (N.places.length ≤ 7 ∨ (20 < N.places.length ∧ N.places.length ≤ 22)) ∧ (N.roads.length ≤ 14 ∨ (60 < N.roads.length ∧ N.roads.length ≤ 62))
  · have H0 := Lib.hid h0
    go_enter Tryz.func6, Tryz.ntmps6
    have BN := Lib.hid (BoxN.new w N P R pc rc 25)
    obtain ⟨n0, n1⟩ := BN.out
    go_upto_region 1 with fail
    generalize hwb : w.alloc _ = wb at *
    have HW : Hid (Below w.heap.size w wb) := by rw [← hwb]; exact Lib.hid ((Below.refl _ _).alloc (Nat.le_refl _) _)
    clear hwb
    go_cut [38] from 5 to 38 (fun u wx => u = .bool false ∧ wb = wx)
    case first =>
      obtain ⟨g1, g2⟩ := h0
      go_wp2_with fail
      all_goals first
        | (go_meet; exact ⟨rfl, rfl⟩)
        | (go_meet; exact ⟨by simp; omega, rfl⟩)
        | (exfalso; simp_all; done)
        | (exfalso; simp_all; omega)
    case rest =>
      obtain ⟨rfl, rfl⟩ := hcut
      clear n0 n1
      obtain ⟨n0, n1⟩ := BN.out
      go_wp2_with fail
      go_loop [3] (fun i => ∃ k : Nat, k ≤ N.places.length ∧ i = .int .i64 k ∧ Hid (∀ j, j < k → (listS N.places j).size ≤ 20)) (fun i => N.places.length - (intOf i).toNat)
      case atStart => exact ⟨0, Nat.zero_le _, rfl, fun j hj => absurd hj (Nat.not_lt_zero _)⟩
      case round =>
        obtain ⟨k, hk, rfl, Hn⟩ := hrel
        by_cases hlt : k < N.places.length
        · obtain ⟨b, o, rfl, c0⟩ := (M.out.places.keep (Keep.below HW.out)).at_ hlt
          by_cases hx : (listS N.places k).size ≤ 20
          · have F : Hid (∀ j, j < k + 1 → (listS N.places j).size ≤ 20) := fun j hj => by
              by_cases e : j = k
              · subst e; exact hx
              · exact Hn.out j (by omega)
            go_wp2
            go_round
            case rel => exact ⟨k + 1, by omega, by go_num, F⟩
            case measure => simp [intOf]; omega
          · have F := Lib.hid (fewN_no (N := N) fun hh => hx (hh.2.2.1 k hlt))
            go_wp2
            go_ret
            exact ⟨ret_bool F.out.symm, HW.out⟩
        · have HP : Hid (fewPl N) := fun j hj => Hn.out j (by omega)
          go_wp2
          clear hk hlt Hn
          go_loop [4] (fun i => ∃ k : Nat, k ≤ N.roads.length ∧ i = .int .i64 k ∧ Hid (∀ j, j < k → (listD N.roads j).name.size ≤ 20 ∧ (listD N.roads j).pts.length ≤ 10)) (fun i => N.roads.length - (intOf i).toNat)
          case atStart => exact ⟨0, Nat.zero_le _, rfl, fun j hj => absurd hj (Nat.not_lt_zero _)⟩
          case round =>
            obtain ⟨k, hk, rfl, Hn⟩ := hrel
            by_cases hlt : k < N.roads.length
            · obtain ⟨b, o, rfl, q⟩ := (M.out.roads.keep (Keep.below HW.out)).at_ hlt
              have c0 := q.c0
              have c4 := q.c4
              clear q
              have p1 := (M.out.roads.2 k hlt).le.1
              have p2 := (M.out.roads.2 k hlt).le.2
              by_cases hx : (listD N.roads k).name.size ≤ 20
              · by_cases hy : (listD N.roads k).pts.length ≤ 10
                · have F : Hid (∀ j, j < k + 1 → (listD N.roads j).name.size ≤ 20 ∧ (listD N.roads j).pts.length ≤ 10) := fun j hj => by
                    by_cases e : j = k
                    · subst e; exact ⟨hx, hy⟩
                    · exact Hn.out j (by omega)
                  go_wp2
                  go_round
                  case rel => exact ⟨k + 1, by omega, by go_num, F⟩
                  case measure => simp [intOf]; omega
                · have F := Lib.hid (fewN_no (N := N) fun hh => hy (hh.2.2.2 k hlt).2)
                  go_wp2
                  go_ret
                  exact ⟨ret_bool F.out.symm, HW.out⟩
              · have F := Lib.hid (fewN_no (N := N) fun hh => hx (hh.2.2.2 k hlt).1)
                go_wp2
                go_ret
                exact ⟨ret_bool F.out.symm, HW.out⟩
            · have F := Lib.hid (fewN_yes (N := N) ⟨H0.out.1, H0.out.2, HP.out, fun j hj => Hn.out j (by omega)⟩)
              go_wp2
              go_ret
              exact ⟨ret_bool F.out.symm, HW.out⟩
  · have F := Lib.hid (fewN_no (N := N) fun hh => h0 ⟨hh.1, hh.2.1⟩)
    go_enter Tryz.func6, Tryz.ntmps6
    go_wp2_with fail
    all_goals first
      | (go_ret; exact ⟨ret_bool F.out.symm, (Below.refl _ _).alloc (Nat.le_refl _) _⟩)
      | (exfalso; simp_all; done)
      | (exfalso; simp_all; omega)
end Go.Proofs.YtndhpdjcpagghaaGreatDoor
