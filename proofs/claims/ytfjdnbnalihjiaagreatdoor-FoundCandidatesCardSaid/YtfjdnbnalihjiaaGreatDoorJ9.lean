/- FoundCandidates returns true for every input, and its arguments read afterwards as they did before. Condition: the listed tables hold what the program lays. -/
import Derived.Test.YtfjdnbnalihjiaaGreatDoorCards
import Derived.Test.YtfjdnbnalihjiaaGreatDoorTie
import Derived.Test.YtfjdnbnalihjiaaGreatDoorK8
import Derived.Test.YtfjdnbnalihjiaaGreatDoorH18
import Derived.Test.YtfjdnbnalihjiaaGreatDoorVG
import Derived.SevenTiedAt
namespace Go.Proofs.YtfjdnbnalihjiaaGreatDoor
open Go.ChangeShapes Go.WideShapes Go.ChangeAt Go.RowKit Go.Deep Fs

set_option maxHeartbeats 1600000 in
set_option maxRecDepth 100000 in
theorem candidates_contract (H : Type) (enc : TypeId × Value → H) (W : World) (base : Nat) (args : Array Value) (ds gs : List (DataW H)) (before : List MemPlace)
    (hval : ∀ (j : Nat) t v, Tryz.f4.params[j]? = some t → args[j]? = some v → Value.okWide Tryz.prog W .any base t v)
    (hW : DataW.Whole enc Tryz.prog Tryz.f4.params.toList Rows.foundCandidatesSpec.vars false W args.toList ds gs before) (hTab : TabSt W) :
    Calls Tryz.prog 4 args W fun e W' => ∃ v, e = .returned v ∧ Rows.foundCandidatesSpec.post enc Tryz.prog Tryz.f4 false true false false W args v W' := by
  have hW' := hW
  obtain ⟨p, q, hA0, hV, rfl, hfz, _⟩ := hW
  have hA : DataW.TrodAll enc Tryz.prog W 0 (fun _ => true) true Tryz.f4.params.toList args.toList ds p := hA0
  rw [Tryz.params4] at hA hval
  obtain ⟨v0, v1, d0, d1, p0, p1, rfl, rfl, rfl, h0, h1⟩ := trodAll_two hA
  obtain ⟨rfl, rfl⟩ := trodVars_none hV
  obtain ⟨l0, A0, c0, a0, rfl, hq0⟩ := openItems (hval 0 48 v0 rfl rfl) h0
  obtain ⟨x1, hv1⟩ := openClaim (hval 1 26 v1 rfl rfl) h1
  have hlt : ∀ x ∈ p0 ++ p1, x.block < W.heap.size := fun x hx => by simpa using hW'.lt x (by simpa using hx)
  refine (lawCandidates_any l0 x1 A0 c0 a0 v1 W hq0 hv1 hTab).mono fun e W' ⟨he, hB⟩ => ?_
  subst he
  have k0 := Below.trod Tryz.laidOut (by kernel_rfl) (of_decide_eq_true (by kernel_rfl)) h0 hB (fun x hx => hlt x (by simp [hx]))
  have k1 := Below.trod Tryz.laidOut (by kernel_rfl) (of_decide_eq_true (by kernel_rfl)) h1 hB (fun x hx => hlt x (by simp [hx]))
  refine ⟨_, rfl, _, _, _, [], _, [], hW', trodAll_mk1 (shut_bool Tryz.underlying4 true), trodAll_mk2 k0 k1, rfl, hB.frame _, fun h => by cases h⟩
def candidates_args : Array Value := #[.slice none 0 0, .agg #[.string ⟨#[]⟩, .int .i64 0, .string ⟨#[]⟩, .slice none 0 0]]
set_option maxRecDepth 100000 in
theorem candidates_laid (os : Os) : laidMet Tryz.prog Rows.foundCandidatesRow.laid ((laidWorld os).forCall (fun _ _ => 0) ⟨#[], candidates_args, []⟩).memory :=
  laidMet_of_run' 8 (by kernel_rfl) (by kernel_rfl)
set_option maxRecDepth 100000 in
theorem candidates_reads (os : Os) {H : Type} (enc : TypeId × Value → H) : (DataW.whole enc Tryz.prog ((laidWorld os).forCall (fun _ _ => 0) ⟨#[], candidates_args, []⟩).memory Tryz.f4.params.toList Rows.foundCandidatesSpec.vars false candidates_args.toList 8).isSome = true := by kernel_rfl
set_option maxRecDepth 100000 in
theorem candidates_lifted (os : Os) (started : os.Started) (H : Type) (enc : TypeId × Value → H) (F : Stop.Interp) :
    ReturnsInHanded {} Tryz.checked os 4 .any ((OpenSpec.ofChange Rows.foundCandidatesSpec).preRow enc Tryz.prog Tryz.f4 Rows.foundCandidatesRow.domain false Rows.foundCandidatesRow.laid) (((OpenSpec.ofChange Rows.foundCandidatesSpec).at F).post enc Tryz.prog Tryz.f4 false true false false) := by
  obtain ⟨x, hx⟩ := Option.isSome_iff_exists.1 (candidates_reads os enc)
  refine returnsInHanded_of_row (C := Tryz.checked) (s := OpenSpec.ofChange Rows.foundCandidatesSpec) Tryz.own started (by kernel_rfl) Tryz.func4
    (witness_row_at (enc := enc) (C := Tryz.checked) false (laidWorld os) candidates_args rfl (by kernel_rfl) (by kernel_rfl) (by kernel_rfl)
      (OpenSpec.preRow_of_cond 8 hx rfl (fun k hk => by cases hk) (by kernel_rfl) (candidates_laid os))) ?_
  intro W base args ds gs before hval hW _ _ _ hL _ _
  exact candidates_contract H enc W base args ds gs before hval hW (tabSt_of hL.tail.tail.tail)
theorem candidates_said : Rows.FoundCandidatesSaid :=
  OpenClaim.holds_of_cond 4 Tryz.f4 rfl rfl rfl rfl rfl rfl rfl ⟨rfl, rfl, rfl, rfl, rfl⟩ rfl rfl rfl rfl rfl (by kernel_rfl) Tryz.func4 (by kernel_rfl)
    (of_decide_eq_true (by kernel_rfl)) (by unfold Func.isWrapper; first | (rw [if_pos (by decide +kernel)]; kernel_rfl) | (rw [if_neg (by decide +kernel)]; exact ⟨rfl, rfl⟩))
    (fun os started H enc _ F => by rw [OpenClaim.pre_eq_preRow]; exact candidates_lifted os started H enc F)
theorem candidates_plain (f : FuncId) (fn : Func) (hf : Tryz.pinned.checked.prog.funcNamed "fiacre/fiacrelaw09.FoundCandidates" = some f) (hfn : Tryz.pinned.checked.prog.funcs[f]? = some fn) :
    false = Tryz.pinned.checked.prog.looks [] ∧ ∀ (j : Nat) t, fn.params[j]? = some t → Tryz.pinned.checked.prog.wantsStandIn t = false := by
  obtain rfl : f = 4 := Option.some.inj ((show Tryz.prog.funcNamed "fiacre/fiacrelaw09.FoundCandidates" = some 4 by kernel_rfl).symm.trans hf) |>.symm
  obtain rfl : fn = Tryz.f4 := (Option.some.inj (Tryz.func4.symm.trans hfn)).symm
  refine ⟨by kernel_rfl, fun j t ht => ?_⟩
  rw [Tryz.params4] at ht
  have hm := Array.mem_of_getElem? ht
  simp only [List.mem_toArray, List.mem_cons, List.mem_nil_iff, or_false] at hm
  rcases hm with rfl | rfl <;> exact (show Tryz.prog.wantsStandIn _ = false by kernel_rfl)
/-- The tied card. -/
theorem candidates_card : Rows.FoundCandidatesCardSaid :=
  Claim7.holds_tied_plain_at .later [] _ _ _ _ candidates_said (fun _ h => by cases h) (by kernel_rfl) (fun _ h => by cases h) foundCandidates_row_tie rfl ⟨rfl, rfl⟩ (by kernel_rfl) rfl candidates_plain (by kernel_rfl)
#print axioms candidates_card
end Go.Proofs.YtfjdnbnalihjiaaGreatDoor
