/- FoundProofs returns true for every input, and its arguments read afterwards as they did before. Condition: the listed tables hold what the program lays. -/
import Derived.Test.YtfjdnbnalihjiaaGreatDoorCards
import Derived.Test.YtfjdnbnalihjiaaGreatDoorTie
import Derived.Test.YtfjdnbnalihjiaaGreatDoorK8
import Derived.Test.YtfjdnbnalihjiaaGreatDoorG15
import Derived.Test.YtfjdnbnalihjiaaGreatDoorVG
import Derived.SevenTiedAt
namespace Go.Proofs.YtfjdnbnalihjiaaGreatDoor
open Go.ChangeShapes Go.WideShapes Go.ChangeAt Go.RowKit Go.Deep Fs

set_option maxHeartbeats 1600000 in
set_option maxRecDepth 100000 in
theorem proofs_contract (H : Type) (enc : TypeId × Value → H) (W : World) (base : Nat) (args : Array Value) (ds gs : List (DataW H)) (before : List MemPlace)
    (hval : ∀ (j : Nat) t v, Tryz.f6.params[j]? = some t → args[j]? = some v → Value.okWide Tryz.prog W .any base t v)
    (hW : DataW.Whole enc Tryz.prog Tryz.f6.params.toList Rows.foundProofsSpec.vars false W args.toList ds gs before) (hTab : TabSt W) :
    Calls Tryz.prog 6 args W fun e W' => ∃ v, e = .returned v ∧ Rows.foundProofsSpec.post enc Tryz.prog Tryz.f6 false true false false W args v W' := by
  have hW' := hW
  obtain ⟨p, q, hA0, hV, rfl, hfz, _⟩ := hW
  have hA : DataW.TrodAll enc Tryz.prog W 0 (fun _ => true) true Tryz.f6.params.toList args.toList ds p := hA0
  rw [Tryz.params6] at hA hval
  obtain ⟨v0, v1, v2, d0, d1, d2, p0, p1, p2, rfl, rfl, rfl, h0, h1, h2⟩ := trodAll_three hA
  obtain ⟨rfl, rfl⟩ := trodVars_none hV
  obtain ⟨l0, A0, c0, a0, rfl, hq0⟩ := openItems (hval 0 48 v0 rfl rfl) h0
  obtain ⟨l1, A1, c1, a1, rfl, hq1⟩ := openClaims (hval 1 50 v1 rfl rfl) h1
  obtain ⟨q2, s2, t2, P2, S2, T2, pc2, sc2, tc2, rfl, hq2, hs2, ht2⟩ := openProof (hval 2 72 v2 rfl rfl) h2
  have hlt : ∀ x ∈ p0 ++ p1 ++ p2, x.block < W.heap.size := fun x hx => by simpa using hW'.lt x (by simpa using hx)
  refine (lawProofs_any l0 l1 q2 s2 t2 A0 A1 P2 S2 T2 c0 c1 pc2 sc2 tc2 a0 a1 W hq0 hq1 hq2 hs2 ht2 hTab).mono fun e W' ⟨he, hB⟩ => ?_
  subst he
  have k0 := Below.trod Tryz.laidOut (by kernel_rfl) (of_decide_eq_true (by kernel_rfl)) h0 hB (fun x hx => hlt x (by simp [hx]))
  have k1 := Below.trod Tryz.laidOut (by kernel_rfl) (of_decide_eq_true (by kernel_rfl)) h1 hB (fun x hx => hlt x (by simp [hx]))
  have k2 := Below.trod Tryz.laidOut (by kernel_rfl) (of_decide_eq_true (by kernel_rfl)) h2 hB (fun x hx => hlt x (by simp [hx]))
  refine ⟨_, rfl, _, _, _, [], _, [], hW', trodAll_mk1 (shut_bool Tryz.underlying4 true), trodAll_mk3 k0 k1 k2, rfl, hB.frame _, fun h => by cases h⟩
def proofs_args : Array Value := #[.slice none 0 0, .slice none 0 0, .agg #[.slice none 0 0, .slice none 0 0, .slice none 0 0]]
set_option maxRecDepth 100000 in
theorem proofs_laid (os : Os) : laidMet Tryz.prog Rows.foundProofsRow.laid ((laidWorld os).forCall (fun _ _ => 0) ⟨#[], proofs_args, []⟩).memory :=
  laidMet_of_run' 8 (by kernel_rfl) (by kernel_rfl)
set_option maxRecDepth 100000 in
theorem proofs_reads (os : Os) {H : Type} (enc : TypeId × Value → H) : (DataW.whole enc Tryz.prog ((laidWorld os).forCall (fun _ _ => 0) ⟨#[], proofs_args, []⟩).memory Tryz.f6.params.toList Rows.foundProofsSpec.vars false proofs_args.toList 8).isSome = true := by kernel_rfl
set_option maxRecDepth 100000 in
theorem proofs_lifted (os : Os) (started : os.Started) (H : Type) (enc : TypeId × Value → H) (F : Stop.Interp) :
    ReturnsInHanded {} Tryz.checked os 6 .any ((OpenSpec.ofChange Rows.foundProofsSpec).preRow enc Tryz.prog Tryz.f6 Rows.foundProofsRow.domain false Rows.foundProofsRow.laid) (((OpenSpec.ofChange Rows.foundProofsSpec).at F).post enc Tryz.prog Tryz.f6 false true false false) := by
  obtain ⟨x, hx⟩ := Option.isSome_iff_exists.1 (proofs_reads os enc)
  refine returnsInHanded_of_row (C := Tryz.checked) (s := OpenSpec.ofChange Rows.foundProofsSpec) Tryz.own started (by kernel_rfl) Tryz.func6
    (witness_row_at (enc := enc) (C := Tryz.checked) false (laidWorld os) proofs_args rfl (by kernel_rfl) (by kernel_rfl) (by kernel_rfl)
      (OpenSpec.preRow_of_cond 8 hx rfl (fun k hk => by cases hk) (by kernel_rfl) (proofs_laid os))) ?_
  intro W base args ds gs before hval hW _ _ _ hL _ _
  exact proofs_contract H enc W base args ds gs before hval hW (tabSt_of hL.tail.tail.tail)
theorem proofs_said : Rows.FoundProofsSaid :=
  OpenClaim.holds_of_cond 6 Tryz.f6 rfl rfl rfl rfl rfl rfl rfl ⟨rfl, rfl, rfl, rfl, rfl⟩ rfl rfl rfl rfl rfl (by kernel_rfl) Tryz.func6 (by kernel_rfl)
    (of_decide_eq_true (by kernel_rfl)) (by unfold Func.isWrapper; first | (rw [if_pos (by decide +kernel)]; kernel_rfl) | (rw [if_neg (by decide +kernel)]; exact ⟨rfl, rfl⟩))
    (fun os started H enc _ F => by rw [OpenClaim.pre_eq_preRow]; exact proofs_lifted os started H enc F)
theorem proofs_plain (f : FuncId) (fn : Func) (hf : Tryz.pinned.checked.prog.funcNamed "fiacre/fiacrelaw09.FoundProofs" = some f) (hfn : Tryz.pinned.checked.prog.funcs[f]? = some fn) :
    false = Tryz.pinned.checked.prog.looks [] ∧ ∀ (j : Nat) t, fn.params[j]? = some t → Tryz.pinned.checked.prog.wantsStandIn t = false := by
  obtain rfl : f = 6 := Option.some.inj ((show Tryz.prog.funcNamed "fiacre/fiacrelaw09.FoundProofs" = some 6 by kernel_rfl).symm.trans hf) |>.symm
  obtain rfl : fn = Tryz.f6 := (Option.some.inj (Tryz.func6.symm.trans hfn)).symm
  refine ⟨by kernel_rfl, fun j t ht => ?_⟩
  rw [Tryz.params6] at ht
  have hm := Array.mem_of_getElem? ht
  simp only [List.mem_toArray, List.mem_cons, List.mem_nil_iff, or_false] at hm
  rcases hm with rfl | rfl | rfl <;> exact (show Tryz.prog.wantsStandIn _ = false by kernel_rfl)
/-- The tied card. -/
theorem proofs_card : Rows.FoundProofsCardSaid :=
  Claim7.holds_tied_plain_at .later [] _ _ _ _ proofs_said (fun _ h => by cases h) (by kernel_rfl) (fun _ h => by cases h) foundProofs_row_tie rfl ⟨rfl, rfl⟩ (by kernel_rfl) rfl proofs_plain (by kernel_rfl)
#print axioms proofs_card
end Go.Proofs.YtfjdnbnalihjiaaGreatDoor
