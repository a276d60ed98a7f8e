/- The rule that holds at a place and moment. Conditions: the date is not negative, there are at most a million rules. -/
import Derived.Test.YtbehabaoeicgeaaW7a
import Derived.Test.YtbehabaoeicgeaaW7b
import Derived.Test.YtbehabaoeicgeaaW7d
import Derived.Deep.RegionHeld3
namespace Go.Proofs.Ytbehabaoeicgeaa
open Go.RowKit Fs

theorem below_eq {w w' : World} (h : w = w') : Below w.heap.size w w' := h ▸ Below.refl _ _
theorem rOn_listI (T : Tar) (d : Int) : ∀ k, k < (rOn T d).length → 0 ≤ listI (rOn T d) k ∧ listI (rOn T d) k < T.rules.length := by
  intro k hk
  have hm : listI (rOn T d) k ∈ rOn T d := by
    unfold listI
    simp [List.getD_eq_getElem?_getD, List.getElem?_eq_getElem hk]
  have := rOn_mem hm
  exact ⟨this.1, this.2.1⟩
set_option maxHeartbeats 1600000 in
set_option maxRecDepth 100000 in
theorem ruleAt_any (T : Tar) (v : Value) (zz d t : Int) (w : World) (hT : RdTar w v T) (h0 : 0 ≤ d) (hn : T.rules.length ≤ 1000000) :
    Calls Try.prog 26 #[v, .agg #[.int .i64 zz, .int .i64 d, .int .i64 t]] w fun e w' => e = .returned (.tuple #[.int .i64 (rAt T zz d t).1, .int .i64 (rAt T zz d t).2]) ∧ Below w.heap.size w w' := by
  have hT0 := hT
  obtain ⟨z, h, r, e, f, zc, hc, rc, ec, fc, a, rfl, m⟩ := hT
  clear m
  have hln : (rOn T d).length ≤ 1000000 := Nat.le_trans (onTo_le T d _) hn
  have HLI := Lib.hid (rOn_listI T d)
  have BT := Lib.hid ((BoxT.new w T z h r e f zc hc rc ec fc 28).keep (Keep.alloc _ (.cells #[.int .i64 zz, .int .i64 d, .int .i64 t] 53)))
  have HT := Lib.hid (hT0.keep ((Keep.alloc w (.cells #[.string T.name, .int .i64 T.unit, .int .i64 T.step, .slice z T.zones.length zc, .slice h T.hols.length hc, .slice r T.rules.length rc, .slice e T.extras.length ec, .slice f T.fixed.length fc] 28)).trans (Keep.alloc _ (.cells #[.int .i64 zz, .int .i64 d, .int .i64 t] 53))))
  have HB := Lib.hid (((Below.refl w.heap.size w).alloc (Nat.le_refl _) (.cells #[.string T.name, .int .i64 T.unit, .int .i64 T.step, .slice z T.zones.length zc, .slice h T.hols.length hc, .slice r T.rules.length rc, .slice e T.extras.length ec, .slice f T.fixed.length fc] 28)).alloc (by simp) (.cells #[.int .i64 zz, .int .i64 d, .int .i64 t] 53))
  have HP := Lib.hid (And.intro (cellNew1 w (.cells #[.string T.name, .int .i64 T.unit, .int .i64 T.step, .slice z T.zones.length zc, .slice h T.hols.length hc, .slice r T.rules.length rc, .slice e T.extras.length ec, .slice f T.fixed.length fc] 28) #[.int .i64 zz, .int .i64 d, .int .i64 t] 53 0) (And.intro (cellNew1 w (.cells #[.string T.name, .int .i64 T.unit, .int .i64 T.step, .slice z T.zones.length zc, .slice h T.hols.length hc, .slice r T.rules.length rc, .slice e T.extras.length ec, .slice f T.fixed.length fc] 28) #[.int .i64 zz, .int .i64 d, .int .i64 t] 53 1) (cellNew1 w (.cells #[.string T.name, .int .i64 T.unit, .int .i64 T.step, .slice z T.zones.length zc, .slice h T.hols.length hc, .slice r T.rules.length rc, .slice e T.extras.length ec, .slice f T.fixed.length fc] 28) #[.int .i64 zz, .int .i64 d, .int .i64 t] 53 2)))
  go_enter Try.func26, Try.ntmps26
  go_wp2_with fail
  generalize (w.alloc (.cells #[.string T.name, .int .i64 T.unit, .int .i64 T.step, .slice z T.zones.length zc, .slice h T.hols.length hc, .slice r T.rules.length rc, .slice e T.extras.length ec, .slice f T.fixed.length fc] 28)).alloc (.cells #[.int .i64 zz, .int .i64 d, .int .i64 t] 53) = wb at *
  obtain ⟨t0, t1, t2, t3, t4, t5, t6, t7⟩ := BT.out
  obtain ⟨p0, p1, p2⟩ := HP.out
  replace p0 : wb.cell? ⟨w.heap.size + 1, 0, none⟩ = some (.int .i64 zz) := p0
  replace p1 : wb.cell? ⟨w.heap.size + 1, 1, none⟩ = some (.int .i64 d) := p1
  replace p2 : wb.cell? ⟨w.heap.size + 1, 2, none⟩ = some (.int .i64 t) := p2
  clear BT HP
  have HTd : Hid (RdTar wb.drew (tarV T z h r e f zc hc rc ec fc) T) := Lib.hid (RdTar.keep (w := wb) (w' := wb.drew) (fun _ _ h => h) HT.out)
  have HBd : Hid (Below w.heap.size w wb.drew) := Lib.hid HB.out.drew
  go_region_held3 (fun w' => w'.cell? ⟨w.heap.size, 0, none⟩ = some (.string T.name) ∧ w'.cell? ⟨w.heap.size, 1, none⟩ = some (.int .i64 T.unit) ∧ w'.cell? ⟨w.heap.size, 2, none⟩ = some (.int .i64 T.step) ∧ w'.cell? ⟨w.heap.size, 3, none⟩ = some (.slice z T.zones.length zc) ∧ w'.cell? ⟨w.heap.size, 4, none⟩ = some (.slice h T.hols.length hc) ∧ w'.cell? ⟨w.heap.size, 5, none⟩ = some (.slice r T.rules.length rc) ∧ w'.cell? ⟨w.heap.size, 6, none⟩ = some (.slice e T.extras.length ec) ∧ w'.cell? ⟨w.heap.size, 7, none⟩ = some (.slice f T.fixed.length fc) ∧ w'.cell? ⟨w.heap.size + 1, 0, none⟩ = some (.int .i64 zz) ∧ w'.cell? ⟨w.heap.size + 1, 1, none⟩ = some (.int .i64 d) ∧ w'.cell? ⟨w.heap.size + 1, 2, none⟩ = some (.int .i64 t) ∧ Hid (RdTar w' (tarV T z h r e f zc hc rc ec fc) T) ∧ Hid (Below w.heap.size w w'))
    (first | exact ⟨t0, t1, t2, t3, t4, t5, t6, t7, p0, p1, p2, HTd, HBd⟩ | (go_split_ands; refine ⟨Keep.below hb1 _ _ (by assumption), Keep.below hb1 _ _ (by assumption), Keep.below hb1 _ _ (by assumption), Keep.below hb1 _ _ (by assumption), Keep.below hb1 _ _ (by assumption), Keep.below hb1 _ _ (by assumption), Keep.below hb1 _ _ (by assumption), Keep.below hb1 _ _ (by assumption), Keep.below hb1 _ _ (by assumption), Keep.below hb1 _ _ (by assumption), Keep.below hb1 _ _ (by assumption), Lib.hid (RdTar.keep (Keep.below hb1) (Hid.out (by assumption))), Lib.hid (Below.trans (Hid.out (by assumption)) (hb1.mono (Hid.out (by assumption) : Below w.heap.size w _).size))⟩))
    ((first
      | (go_at_call 41; go_split_ands; refine (rulesOn_any T _ _ _ (Hid.out (by assumption)) h0 hn).mono ?_; rintro e' w1 ⟨A1, c1, rfl, ha1, hb1⟩)
      | (go_at_call 29; go_split_ands; refine (rulesThere_any T _ (rOn T d) _ _ _ _ _ _ (Hid.out (by assumption)) (by assumption) HLI hln).mono ?_; rintro e' w2 ⟨A2, c2, rfl, ha2, hb1⟩)
      | (go_at_call 28; refine (only_any (rThere T (rOn T d) zz t) _ _ _ (by assumption)).mono ?_; rintro e' w3 ⟨rfl, he⟩; have hb1 := below_eq he)))
  rename_i hS
  obtain ⟨-, -, -, -, -, -, -, -, -, -, -, -, hbb⟩ := hS
  go_wp2
  go_ret2
  exact ⟨rfl, hbb.out⟩
end Go.Proofs.Ytbehabaoeicgeaa
