/- TopTariffChanges returns true for every tariff, place and number of seconds, and its arguments read afterwards as they did before. No condition. -/
import Derived.Test.YtbehabaoeicgeaaRows
import Derived.Test.YtbehabaoeicgeaaC9
import Derived.Test.YtbehabaoeicgeaaW13b
namespace Go.Proofs.Ytbehabaoeicgeaa
open Go.ChangeShapes Go.WideShapes Go.ChangeAt Go.RowKit Go.Deep Fs

theorem Try.cellsPlace : Try.prog.cellsOf 53 = 3 := by kernel_rfl
section
variable {H : Type} {enc : TypeId × Value → H} {w : World} {base : Nat} {spare : Nat → Bool} {held : Bool}
set_option maxRecDepth 100000 in
theorem openPlace {r : Reach} {b0 : Nat} {v : Value} {d : DataW H} {p : List MemPlace} (hv : Value.okWide Try.prog w r b0 53 v) (h : DataW.Trod enc Try.prog w base spare held 53 v d p) : ∃ z d t, v = placeV z d t := by
  obtain ⟨cs, rfl, hsz⟩ := okWide_struct Try.underlying53 hv
  obtain ⟨l⟩ := cs
  match l, hsz.trans Try.cellsPlace with
  | [v0, v1, v2], _ =>
    obtain ⟨fuel, hf⟩ := h
    have hy : DataW.trod enc Try.prog w base spare held fuel 53 [v0, v1, v2] = some (d, p) := by simpa [Value.cells] using hf
    obtain ⟨a0, h0⟩ := fieldInt Try.underlying53 hy 0 _ rfl rfl (by show _ < 3; decide)
    obtain ⟨y1, n1, g0⟩ := fieldCells Try.underlying53 hy 1 _ rfl
    have g1 : DataW.trod enc Try.prog w base spare held n1 30 (([v0, v1, v2].drop 1).take (Try.prog.cellsOf 30)) = some y1 := g0
    rw [Try.cellsMoment] at g1
    have g2 : DataW.trod enc Try.prog w base spare held n1 30 [v1, v2] = some y1 := g1
    obtain ⟨a1, h1⟩ := fieldInt Try.underlying30 g2 0 _ rfl rfl (by show _ < 2; decide)
    obtain ⟨a2, h2⟩ := fieldInt Try.underlying30 g2 1 _ rfl rfl (by show _ < 2; decide)
    have e0 : some v0 = some (.int .i64 a0) := h0
    have e1 : some v1 = some (.int .i64 a1) := h1
    have e2 : some v2 = some (.int .i64 a2) := h2
    injection e0 with e0; injection e1 with e1; injection e2 with e2
    subst e0; subst e1; subst e2
    exact ⟨a0, a1, a2, rfl⟩
end
theorem Try.own : ownKnob Try.prog.godebug = none := by kernel_rfl
theorem Try.laidOut : laidOutB Try.prog = true := by kernel_rfl
set_option maxHeartbeats 1600000 in
set_option maxRecDepth 100000 in
theorem changes_lifted (os : Os) (started : os.Started) (H : Type) (enc : TypeId × Value → H) :
    ReturnsInHanded {} Try.checked os 4 .any (Rows.topTariffChangesSpec.pre6 enc Try.prog Try.f4 Rows.topTariffChangesRow.domain false) (Rows.topTariffChangesSpec.post enc Try.prog Try.f4 false true false false) := by
  refine returnsInHanded_of_change (C := Try.checked) Try.own started (by kernel_rfl) Try.func4
    (ChangeSpec.witness6 (enc := enc) (C := Try.checked) false ⟨#[], #[.agg #[.string ⟨#[]⟩, .int .i64 0, .int .i64 0, .slice none 0 0, .slice none 0 0, .slice none 0 0, .slice none 0 0, .slice none 0 0], .agg #[.int .i64 0, .int .i64 0, .int .i64 0], .int .i64 0], []⟩ 8 (by kernel_rfl) (by kernel_rfl) (by kernel_rfl) (by kernel_rfl)) ?_
  intro W base args ds gs before hval0 hW _ _
  have hval : ∀ (j : Nat) t v, Try.f4.params[j]? = some t → args[j]? = some v → Value.okWide Try.prog W .any base t v := hval0
  have hW' := hW
  obtain ⟨p, q, hA0, hV, rfl, hfz, _⟩ := hW
  have hA : DataW.TrodAll enc Try.prog W 0 (fun _ => true) true Try.f4.params.toList args.toList ds p := hA0
  rw [Try.params4] at hA hval
  obtain ⟨v0, v1, v2, d0, d1, d2, p0, p1, p2, rfl, rfl, rfl, h0, h1, h2⟩ := trodAll_three hA
  obtain ⟨rfl, rfl⟩ := trodVars_none hV
  obtain ⟨T, hT⟩ := openTar (hval 0 28 v0 rfl rfl) h0
  obtain ⟨zz, d, t, rfl⟩ := openPlace (hval 1 53 v1 rfl rfl) h1
  obtain ⟨s, rfl⟩ := okWide_int Try.underlying3 (hval 2 3 v2 rfl rfl)
  have hlt : ∀ x ∈ p0 ++ p1 ++ p2, x.block < W.heap.size := fun x hx => by simpa using hW'.lt x (by simpa using hx)
  refine (law2_any T zz d t s v0 W hT).mono fun e W' ⟨he, hB⟩ => ?_
  subst he
  have k0 := Below.trod Try.laidOut (by kernel_rfl) (of_decide_eq_true (by kernel_rfl)) h0 hB (fun x hx => hlt x (by simp [hx]))
  have k1 := Below.trod Try.laidOut (by kernel_rfl) (of_decide_eq_true (by kernel_rfl)) h1 hB (fun x hx => hlt x (by simp [hx]))
  have k2 := Below.trod Try.laidOut (by kernel_rfl) (of_decide_eq_true (by kernel_rfl)) h2 hB (fun x hx => hlt x (by simp [hx]))
  refine ⟨_, rfl, _, _, _, [], _, [], hW', trodAll_mk1 (shut_bool Try.underlying4 true), trodAll_mk3 k0 k1 k2, rfl, hB.frame _, fun h => by cases h⟩

theorem changes_holds : Rows.TopTariffChangesSaid :=
  OpenClaim.holds_of_wide 4 Try.f4 rfl rfl rfl rfl rfl rfl rfl ⟨rfl, rfl, rfl, rfl, rfl⟩ rfl rfl rfl rfl rfl (by kernel_rfl) Try.func4 (by kernel_rfl)
    (of_decide_eq_true (by kernel_rfl)) (by unfold Func.isWrapper; rw [if_neg (of_decide_eq_false (by kernel_rfl))]; exact ⟨rfl, rfl⟩)
    (fun os started H enc _ => changes_lifted os started H enc)

#print axioms changes_holds
end Go.Proofs.Ytbehabaoeicgeaa
