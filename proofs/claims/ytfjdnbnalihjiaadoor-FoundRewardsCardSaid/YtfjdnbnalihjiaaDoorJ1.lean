/- FoundRewards returns true for every input, and its arguments read afterwards as they did before. Condition: the listed tables hold what the program lays. -/
import Derived.Test.YtfjdnbnalihjiaaDoorCards
import Derived.Test.YtfjdnbnalihjiaaDoorTie
import Derived.Test.YtfjdnbnalihjiaaDoorK8
import Derived.Test.YtfjdnbnalihjiaaDoorH11
import Derived.Test.YtfjdnbnalihjiaaDoorVG
import Derived.SevenTiedAt
namespace Go.Proofs.YtfjdnbnalihjiaaDoor
open Go.ChangeShapes Go.WideShapes Go.ChangeAt Go.RowKit Go.Deep Fs

set_option maxHeartbeats 1600000 in
set_option maxRecDepth 100000 in
theorem rewards_contract (H : Type) (enc : TypeId × Value → H) (W : World) (base : Nat) (args : Array Value) (ds gs : List (DataW H)) (before : List MemPlace)
    (hval : ∀ (j : Nat) t v, Tryd.f4.params[j]? = some t → args[j]? = some v → Value.okWide Tryd.prog W .any base t v)
    (hW : DataW.Whole enc Tryd.prog Tryd.f4.params.toList Rows.foundRewardsSpec.vars false W args.toList ds gs before) (hTab : TabSt W) :
    Calls Tryd.prog 4 args W fun e W' => ∃ v, e = .returned v ∧ Rows.foundRewardsSpec.post enc Tryd.prog Tryd.f4 false true false false W args v W' := by
  have hW' := hW
  obtain ⟨p, q, hA0, hV, rfl, hfz, _⟩ := hW
  have hA : DataW.TrodAll enc Tryd.prog W 0 (fun _ => true) true Tryd.f4.params.toList args.toList ds p := hA0
  rw [Tryd.params4] at hA hval
  obtain ⟨v0, v1, d0, d1, p0, p1, rfl, rfl, rfl, h0, h1⟩ := trodAll_two hA
  obtain ⟨rfl, rfl⟩ := trodVars_none hV
  obtain ⟨x0, rfl⟩ := okWide_int Tryd.underlying3 (hval 0 3 v0 rfl rfl)
  obtain ⟨x1, rfl⟩ := okWide_int Tryd.underlying3 (hval 1 3 v1 rfl rfl)
  have hlt : ∀ x ∈ p0 ++ p1, x.block < W.heap.size := fun x hx => by simpa using hW'.lt x (by simpa using hx)
  refine (lawRewards_any x0 x1 W hTab).mono fun e W' ⟨he, hB⟩ => ?_
  subst he
  have k0 := Below.trod Tryd.laidOut (by kernel_rfl) (of_decide_eq_true (by kernel_rfl)) h0 hB (fun x hx => hlt x (by simp [hx]))
  have k1 := Below.trod Tryd.laidOut (by kernel_rfl) (of_decide_eq_true (by kernel_rfl)) h1 hB (fun x hx => hlt x (by simp [hx]))
  refine ⟨_, rfl, _, _, _, [], _, [], hW', trodAll_mk1 (shut_bool Tryd.underlying4 true), trodAll_mk2 k0 k1, rfl, hB.frame _, fun h => by cases h⟩
def rewards_args : Array Value := #[.int .i64 0, .int .i64 0]
set_option maxRecDepth 100000 in
theorem rewards_laid (os : Os) : laidMet Tryd.prog Rows.foundRewardsRow.laid ((laidWorld os).forCall (fun _ _ => 0) ⟨#[], rewards_args, []⟩).memory :=
  laidMet_of_run' 8 (by kernel_rfl) (by kernel_rfl)
set_option maxRecDepth 100000 in
theorem rewards_reads (os : Os) {H : Type} (enc : TypeId × Value → H) : (DataW.whole enc Tryd.prog ((laidWorld os).forCall (fun _ _ => 0) ⟨#[], rewards_args, []⟩).memory Tryd.f4.params.toList Rows.foundRewardsSpec.vars false rewards_args.toList 8).isSome = true := by kernel_rfl
set_option maxRecDepth 100000 in
theorem rewards_lifted (os : Os) (started : os.Started) (H : Type) (enc : TypeId × Value → H) (F : Stop.Interp) :
    ReturnsInHanded {} Tryd.checked os 4 .any ((OpenSpec.ofChange Rows.foundRewardsSpec).preRow enc Tryd.prog Tryd.f4 Rows.foundRewardsRow.domain false Rows.foundRewardsRow.laid) (((OpenSpec.ofChange Rows.foundRewardsSpec).at F).post enc Tryd.prog Tryd.f4 false true false false) := by
  obtain ⟨x, hx⟩ := Option.isSome_iff_exists.1 (rewards_reads os enc)
  refine returnsInHanded_of_row (C := Tryd.checked) (s := OpenSpec.ofChange Rows.foundRewardsSpec) Tryd.own started (by kernel_rfl) Tryd.func4
    (witness_row_at (enc := enc) (C := Tryd.checked) false (laidWorld os) rewards_args rfl (by kernel_rfl) (by kernel_rfl) (by kernel_rfl)
      (OpenSpec.preRow_of_cond 8 hx rfl (fun k hk => by cases hk) (by kernel_rfl) (rewards_laid os))) ?_
  intro W base args ds gs before hval hW _ _ _ hL _ _
  exact rewards_contract H enc W base args ds gs before hval hW (tabSt_of hL.tail.tail.tail)
theorem rewards_said : Rows.FoundRewardsSaid :=
  OpenClaim.holds_of_cond 4 Tryd.f4 rfl rfl rfl rfl rfl rfl rfl ⟨rfl, rfl, rfl, rfl, rfl⟩ rfl rfl rfl rfl rfl (by kernel_rfl) Tryd.func4 (by kernel_rfl)
    (of_decide_eq_true (by kernel_rfl)) (by unfold Func.isWrapper; first | (rw [if_pos (by decide +kernel)]; kernel_rfl) | (rw [if_neg (by decide +kernel)]; exact ⟨rfl, rfl⟩))
    (fun os started H enc _ F => by rw [OpenClaim.pre_eq_preRow]; exact rewards_lifted os started H enc F)
theorem rewards_plain (f : FuncId) (fn : Func) (hf : Tryd.pinned.checked.prog.funcNamed "fiacre/fiacrelaw09.FoundRewards" = some f) (hfn : Tryd.pinned.checked.prog.funcs[f]? = some fn) :
    false = Tryd.pinned.checked.prog.looks [] ∧ ∀ (j : Nat) t, fn.params[j]? = some t → Tryd.pinned.checked.prog.wantsStandIn t = false := by
  obtain rfl : f = 4 := Option.some.inj ((show Tryd.prog.funcNamed "fiacre/fiacrelaw09.FoundRewards" = some 4 by kernel_rfl).symm.trans hf) |>.symm
  obtain rfl : fn = Tryd.f4 := (Option.some.inj (Tryd.func4.symm.trans hfn)).symm
  refine ⟨by kernel_rfl, fun j t ht => ?_⟩
  rw [Tryd.params4] at ht
  have hm := Array.mem_of_getElem? ht
  simp only [List.mem_toArray, List.mem_cons, List.mem_nil_iff, or_false] at hm
  rcases hm with rfl | rfl <;> exact (show Tryd.prog.wantsStandIn _ = false by kernel_rfl)
/-- The tied card. -/
theorem rewards_card : Rows.FoundRewardsCardSaid :=
  Claim7.holds_tied_plain_at .later [] _ _ _ _ rewards_said (fun _ h => by cases h) (by kernel_rfl) (fun _ h => by cases h) foundRewards_row_tie rfl ⟨rfl, rfl⟩ (by kernel_rfl) rfl rewards_plain (by kernel_rfl)
#print axioms rewards_card
end Go.Proofs.YtfjdnbnalihjiaaDoor
