/- FoundBeginnings returns true for every input, and its arguments read afterwards as they did before. Condition: the listed tables hold what the program lays. -/
import Derived.Test.YtfjdnbnalihjiaaDoorCards
import Derived.Test.YtfjdnbnalihjiaaDoorTie
import Derived.Test.YtfjdnbnalihjiaaDoorK8
import Derived.Test.YtfjdnbnalihjiaaDoorH14
import Derived.Test.YtfjdnbnalihjiaaDoorVG
import Derived.SevenTiedAt
namespace Go.Proofs.YtfjdnbnalihjiaaDoor
open Go.ChangeShapes Go.WideShapes Go.ChangeAt Go.RowKit Go.Deep Fs

set_option maxHeartbeats 1600000 in
set_option maxRecDepth 100000 in
theorem beginnings_contract (H : Type) (enc : TypeId × Value → H) (W : World) (base : Nat) (args : Array Value) (ds gs : List (DataW H)) (before : List MemPlace)
    (hval : ∀ (j : Nat) t v, Tryd.f3.params[j]? = some t → args[j]? = some v → Value.okWide Tryd.prog W .any base t v)
    (hW : DataW.Whole enc Tryd.prog Tryd.f3.params.toList Rows.foundBeginningsSpec.vars false W args.toList ds gs before) (hTab : TabSt W) :
    Calls Tryd.prog 3 args W fun e W' => ∃ v, e = .returned v ∧ Rows.foundBeginningsSpec.post enc Tryd.prog Tryd.f3 false true false false W args v W' := by
  have hW' := hW
  obtain ⟨p, q, hA0, hV, rfl, hfz, _⟩ := hW
  have hA : DataW.TrodAll enc Tryd.prog W 0 (fun _ => true) true Tryd.f3.params.toList args.toList ds p := hA0
  rw [Tryd.params3] at hA hval
  obtain ⟨v0, v1, v2, d0, d1, d2, p0, p1, p2, rfl, rfl, rfl, h0, h1, h2⟩ := trodAll_three hA
  obtain ⟨rfl, rfl⟩ := trodVars_none hV
  obtain ⟨x0, hv0⟩ := openItem (hval 0 24 v0 rfl rfl) h0
  obtain ⟨l1, A1, c1, rfl, hq1⟩ := openEvents (hval 1 25 v1 rfl rfl) h1
  obtain ⟨x2, y2, rfl⟩ := openPair (hval 2 26 v2 rfl rfl) h2
  have hlt : ∀ x ∈ p0 ++ p1 ++ p2, x.block < W.heap.size := fun x hx => by simpa using hW'.lt x (by simpa using hx)
  refine (lawBegin_any x0 v0 l1 A1 c1 x2 y2 W hv0 hq1 hTab).mono fun e W' ⟨he, hB⟩ => ?_
  subst he
  have k0 := Below.trod Tryd.laidOut (by kernel_rfl) (of_decide_eq_true (by kernel_rfl)) h0 hB (fun x hx => hlt x (by simp [hx]))
  have k1 := Below.trod Tryd.laidOut (by kernel_rfl) (of_decide_eq_true (by kernel_rfl)) h1 hB (fun x hx => hlt x (by simp [hx]))
  have k2 := Below.trod Tryd.laidOut (by kernel_rfl) (of_decide_eq_true (by kernel_rfl)) h2 hB (fun x hx => hlt x (by simp [hx]))
  refine ⟨_, rfl, _, _, _, [], _, [], hW', trodAll_mk1 (shut_bool Tryd.underlying4 true), trodAll_mk3 k0 k1 k2, rfl, hB.frame _, fun h => by cases h⟩
def beginnings_args : Array Value := #[.agg #[.string ⟨#[]⟩, .int .i64 0, .string ⟨#[]⟩, .slice none 0 0], .slice none 0 0, .agg #[.int .i64 0, .int .i64 0]]
set_option maxRecDepth 100000 in
theorem beginnings_laid (os : Os) : laidMet Tryd.prog Rows.foundBeginningsRow.laid ((laidWorld os).forCall (fun _ _ => 0) ⟨#[], beginnings_args, []⟩).memory :=
  laidMet_of_run' 8 (by kernel_rfl) (by kernel_rfl)
set_option maxRecDepth 100000 in
theorem beginnings_reads (os : Os) {H : Type} (enc : TypeId × Value → H) : (DataW.whole enc Tryd.prog ((laidWorld os).forCall (fun _ _ => 0) ⟨#[], beginnings_args, []⟩).memory Tryd.f3.params.toList Rows.foundBeginningsSpec.vars false beginnings_args.toList 8).isSome = true := by kernel_rfl
set_option maxRecDepth 100000 in
theorem beginnings_lifted (os : Os) (started : os.Started) (H : Type) (enc : TypeId × Value → H) (F : Stop.Interp) :
    ReturnsInHanded {} Tryd.checked os 3 .any ((OpenSpec.ofChange Rows.foundBeginningsSpec).preRow enc Tryd.prog Tryd.f3 Rows.foundBeginningsRow.domain false Rows.foundBeginningsRow.laid) (((OpenSpec.ofChange Rows.foundBeginningsSpec).at F).post enc Tryd.prog Tryd.f3 false true false false) := by
  obtain ⟨x, hx⟩ := Option.isSome_iff_exists.1 (beginnings_reads os enc)
  refine returnsInHanded_of_row (C := Tryd.checked) (s := OpenSpec.ofChange Rows.foundBeginningsSpec) Tryd.own started (by kernel_rfl) Tryd.func3
    (witness_row_at (enc := enc) (C := Tryd.checked) false (laidWorld os) beginnings_args rfl (by kernel_rfl) (by kernel_rfl) (by kernel_rfl)
      (OpenSpec.preRow_of_cond 8 hx rfl (fun k hk => by cases hk) (by kernel_rfl) (beginnings_laid os))) ?_
  intro W base args ds gs before hval hW _ _ _ hL _ _
  exact beginnings_contract H enc W base args ds gs before hval hW (tabSt_of hL.tail.tail.tail)
theorem beginnings_said : Rows.FoundBeginningsSaid :=
  OpenClaim.holds_of_cond 3 Tryd.f3 rfl rfl rfl rfl rfl rfl rfl ⟨rfl, rfl, rfl, rfl, rfl⟩ rfl rfl rfl rfl rfl (by kernel_rfl) Tryd.func3 (by kernel_rfl)
    (of_decide_eq_true (by kernel_rfl)) (by unfold Func.isWrapper; first | (rw [if_pos (by decide +kernel)]; kernel_rfl) | (rw [if_neg (by decide +kernel)]; exact ⟨rfl, rfl⟩))
    (fun os started H enc _ F => by rw [OpenClaim.pre_eq_preRow]; exact beginnings_lifted os started H enc F)
theorem beginnings_plain (f : FuncId) (fn : Func) (hf : Tryd.pinned.checked.prog.funcNamed "fiacre/fiacrelaw09.FoundBeginnings" = some f) (hfn : Tryd.pinned.checked.prog.funcs[f]? = some fn) :
    false = Tryd.pinned.checked.prog.looks [] ∧ ∀ (j : Nat) t, fn.params[j]? = some t → Tryd.pinned.checked.prog.wantsStandIn t = false := by
  obtain rfl : f = 3 := Option.some.inj ((show Tryd.prog.funcNamed "fiacre/fiacrelaw09.FoundBeginnings" = some 3 by kernel_rfl).symm.trans hf) |>.symm
  obtain rfl : fn = Tryd.f3 := (Option.some.inj (Tryd.func3.symm.trans hfn)).symm
  refine ⟨by kernel_rfl, fun j t ht => ?_⟩
  rw [Tryd.params3] at ht
  have hm := Array.mem_of_getElem? ht
  simp only [List.mem_toArray, List.mem_cons, List.mem_nil_iff, or_false] at hm
  rcases hm with rfl | rfl | rfl <;> exact (show Tryd.prog.wantsStandIn _ = false by kernel_rfl)
/-- The tied card. -/
theorem beginnings_card : Rows.FoundBeginningsCardSaid :=
  Claim7.holds_tied_plain_at .later [] _ _ _ _ beginnings_said (fun _ h => by cases h) (by kernel_rfl) (fun _ h => by cases h) foundBeginnings_row_tie rfl ⟨rfl, rfl⟩ (by kernel_rfl) rfl beginnings_plain (by kernel_rfl)
#print axioms beginnings_card
end Go.Proofs.YtfjdnbnalihjiaaDoor
