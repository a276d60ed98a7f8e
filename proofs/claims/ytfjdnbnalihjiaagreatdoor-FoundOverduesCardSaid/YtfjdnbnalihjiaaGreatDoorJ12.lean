/- FoundOverdues returns true for every input, and its arguments read afterwards as they did before. Condition: the listed tables hold what the program lays. -/
import Derived.Test.YtfjdnbnalihjiaaGreatDoorCards
import Derived.Test.YtfjdnbnalihjiaaGreatDoorTie
import Derived.Test.YtfjdnbnalihjiaaGreatDoorK8
import Derived.Test.YtfjdnbnalihjiaaGreatDoorH21
import Derived.Test.YtfjdnbnalihjiaaGreatDoorVG
import Derived.SevenTiedAt
namespace Go.Proofs.YtfjdnbnalihjiaaGreatDoor
open Go.ChangeShapes Go.WideShapes Go.ChangeAt Go.RowKit Go.Deep Fs

set_option maxHeartbeats 1600000 in
set_option maxRecDepth 100000 in
theorem overdues_contract (H : Type) (enc : TypeId × Value → H) (W : World) (base : Nat) (args : Array Value) (ds gs : List (DataW H)) (before : List MemPlace)
    (hval : ∀ (j : Nat) t v, Tryz.f12.params[j]? = some t → args[j]? = some v → Value.okWide Tryz.prog W .any base t v)
    (hW : DataW.Whole enc Tryz.prog Tryz.f12.params.toList Rows.foundOverduesSpec.vars false W args.toList ds gs before) (hTab : TabSt W) :
    Calls Tryz.prog 12 args W fun e W' => ∃ v, e = .returned v ∧ Rows.foundOverduesSpec.post enc Tryz.prog Tryz.f12 false true false false W args v W' := by
  have hW' := hW
  obtain ⟨p, q, hA0, hV, rfl, hfz, _⟩ := hW
  have hA : DataW.TrodAll enc Tryz.prog W 0 (fun _ => true) true Tryz.f12.params.toList args.toList ds p := hA0
  rw [Tryz.params12] at hA hval
  obtain ⟨v0, v1, d0, d1, p0, p1, rfl, rfl, rfl, h0, h1⟩ := trodAll_two hA
  obtain ⟨rfl, rfl⟩ := trodVars_none hV
  obtain ⟨l0, A0, c0, a0, rfl, hq0⟩ := openKept (hval 0 98 v0 rfl rfl) h0
  obtain ⟨x1, rfl⟩ := okWide_int Tryz.underlying3 (hval 1 3 v1 rfl rfl)
  have hlt : ∀ x ∈ p0 ++ p1, x.block < W.heap.size := fun x hx => by simpa using hW'.lt x (by simpa using hx)
  refine (lawOverdues_any l0 A0 c0 a0 x1 W hq0 hTab).mono fun e W' ⟨he, hB⟩ => ?_
  subst he
  have k0 := Below.trod Tryz.laidOut (by kernel_rfl) (of_decide_eq_true (by kernel_rfl)) h0 hB (fun x hx => hlt x (by simp [hx]))
  have k1 := Below.trod Tryz.laidOut (by kernel_rfl) (of_decide_eq_true (by kernel_rfl)) h1 hB (fun x hx => hlt x (by simp [hx]))
  refine ⟨_, rfl, _, _, _, [], _, [], hW', trodAll_mk1 (shut_bool Tryz.underlying4 true), trodAll_mk2 k0 k1, rfl, hB.frame _, fun h => by cases h⟩
def overdues_args : Array Value := #[.slice none 0 0, .int .i64 0]
set_option maxRecDepth 100000 in
theorem overdues_laid (os : Os) : laidMet Tryz.prog Rows.foundOverduesRow.laid ((laidWorld os).forCall (fun _ _ => 0) ⟨#[], overdues_args, []⟩).memory :=
  laidMet_of_run' 8 (by kernel_rfl) (by kernel_rfl)
set_option maxRecDepth 100000 in
theorem overdues_reads (os : Os) {H : Type} (enc : TypeId × Value → H) : (DataW.whole enc Tryz.prog ((laidWorld os).forCall (fun _ _ => 0) ⟨#[], overdues_args, []⟩).memory Tryz.f12.params.toList Rows.foundOverduesSpec.vars false overdues_args.toList 8).isSome = true := by kernel_rfl
set_option maxRecDepth 100000 in
theorem overdues_lifted (os : Os) (started : os.Started) (H : Type) (enc : TypeId × Value → H) (F : Stop.Interp) :
    ReturnsInHanded {} Tryz.checked os 12 .any ((OpenSpec.ofChange Rows.foundOverduesSpec).preRow enc Tryz.prog Tryz.f12 Rows.foundOverduesRow.domain false Rows.foundOverduesRow.laid) (((OpenSpec.ofChange Rows.foundOverduesSpec).at F).post enc Tryz.prog Tryz.f12 false true false false) := by
  obtain ⟨x, hx⟩ := Option.isSome_iff_exists.1 (overdues_reads os enc)
  refine returnsInHanded_of_row (C := Tryz.checked) (s := OpenSpec.ofChange Rows.foundOverduesSpec) Tryz.own started (by kernel_rfl) Tryz.func12
    (witness_row_at (enc := enc) (C := Tryz.checked) false (laidWorld os) overdues_args rfl (by kernel_rfl) (by kernel_rfl) (by kernel_rfl)
      (OpenSpec.preRow_of_cond 8 hx rfl (fun k hk => by cases hk) (by kernel_rfl) (overdues_laid os))) ?_
  intro W base args ds gs before hval hW _ _ _ hL _ _
  exact overdues_contract H enc W base args ds gs before hval hW (tabSt_of hL.tail.tail.tail)
theorem overdues_said : Rows.FoundOverduesSaid :=
  OpenClaim.holds_of_cond 12 Tryz.f12 rfl rfl rfl rfl rfl rfl rfl ⟨rfl, rfl, rfl, rfl, rfl⟩ rfl rfl rfl rfl rfl (by kernel_rfl) Tryz.func12 (by kernel_rfl)
    (of_decide_eq_true (by kernel_rfl)) (by unfold Func.isWrapper; first | (rw [if_pos (by decide +kernel)]; kernel_rfl) | (rw [if_neg (by decide +kernel)]; exact ⟨rfl, rfl⟩))
    (fun os started H enc _ F => by rw [OpenClaim.pre_eq_preRow]; exact overdues_lifted os started H enc F)
theorem overdues_plain (f : FuncId) (fn : Func) (hf : Tryz.pinned.checked.prog.funcNamed "fiacre/fiacrelaw09.FoundOverdues" = some f) (hfn : Tryz.pinned.checked.prog.funcs[f]? = some fn) :
    false = Tryz.pinned.checked.prog.looks [] ∧ ∀ (j : Nat) t, fn.params[j]? = some t → Tryz.pinned.checked.prog.wantsStandIn t = false := by
  obtain rfl : f = 12 := Option.some.inj ((show Tryz.prog.funcNamed "fiacre/fiacrelaw09.FoundOverdues" = some 12 by kernel_rfl).symm.trans hf) |>.symm
  obtain rfl : fn = Tryz.f12 := (Option.some.inj (Tryz.func12.symm.trans hfn)).symm
  refine ⟨by kernel_rfl, fun j t ht => ?_⟩
  rw [Tryz.params12] at ht
  have hm := Array.mem_of_getElem? ht
  simp only [List.mem_toArray, List.mem_cons, List.mem_nil_iff, or_false] at hm
  rcases hm with rfl | rfl <;> exact (show Tryz.prog.wantsStandIn _ = false by kernel_rfl)
/-- The tied card. -/
theorem overdues_card : Rows.FoundOverduesCardSaid :=
  Claim7.holds_tied_plain_at .later [] _ _ _ _ overdues_said (fun _ h => by cases h) (by kernel_rfl) (fun _ h => by cases h) foundOverdues_row_tie rfl ⟨rfl, rfl⟩ (by kernel_rfl) rfl overdues_plain (by kernel_rfl)
#print axioms overdues_card
end Go.Proofs.YtfjdnbnalihjiaaGreatDoor
