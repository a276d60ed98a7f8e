/- What holds of the search's labels: plain; and callees, the length under a name. Condition: the net is right. -/
import Derived.Test.YthipneggplebcaaT64p
import Derived.Test.YthipneggplebcaaT58
import Derived.Test.YthipneggplebcaaT46
namespace Go.Proofs.Ythipneggplebcaa
open Go.RowKit Fs

structure Fs.LabFacts (N : Net) (X : Nat) (a : Int) (S L : List Int) : Prop where
  s1 : S.length = N.places.length
  l1 : L.length = N.places.length
  s2 : LabIn S
  l2 : LabIn L
  claim : ∀ Y, Y < N.places.length → cl N X Y a S L = bound S L Y
  est : ∀ Y : Nat, Y < N.places.length → estimate N X Y a = bound S L Y
  both : ∀ Y, Y < N.places.length → listI S Y = -1 → listI L Y = -1
  both2 : ∀ Y, Y < N.places.length → listI S Y ≠ -1 → listI L Y ≠ -1
  none : ∀ Y, Y < N.places.length → -1 ≤ listI S Y
  over : ∀ (Y : Nat) (way : List Int), wayErr N way = 0 → JoinsIs N way X Y → listI S Y ≤ (arrivals N way a).1 ∧ listI L Y ≤ (arrivals N way a).2
theorem Fs.lab_in {N : Net} {nx : Nat → Int → Int} {X : Nat} {a : Int} (hE : netErr N = 0) (hg : Good N nx) (hm : Small N nx) (hX : X < N.places.length) (h0 : 0 ≤ a) (h1 : a ≤ 604800) : LabIn (search N X a nx).labels := fun j hj => by
  rw [search_len.1] at hj
  have h20 := (net_sound hE).2.1
  by_cases e : listI (search N X a nx).labels j = -1
  · rw [e]; rfl
  · have := found_bound (net_joined hE) hg hm hX h0 j hj e
    exact Fs.within_iff.2 ⟨by have := this.1; omega, by have := this.2; omega⟩
theorem Fs.lab_facts {N : Net} {X : Nat} {a : Int} (hE : netErr N = 0) (hX : X < N.places.length) (h0 : 0 ≤ a) (h1 : a ≤ 604800) :
    LabFacts N X a (search N X a (soonest N)).labels (search N X a (latest N)).labels := by
  have F1 := search_found (net_joined hE) (soonest_good hE) hX h0
  have F2 := search_found (net_joined hE) (latest_good hE) hX h0
  have I1 := lab_in hE (soonest_good hE) (soonest_small hE) hX h0 h1
  have I2 := lab_in hE (latest_good hE) (latest_small hE) hX h0 h1
  have r1 := fun Y hY => search_reach (net_joined hE) (soonest_good hE) (latest_good hE) hX h0 h0 Y hY
  have r2 := fun Y hY => search_reach (net_joined hE) (latest_good hE) (soonest_good hE) hX h0 h0 Y hY
  have n1 : (search N X a (soonest N)).labels.length = N.places.length := search_len.1
  have n2 : (search N X a (latest N)).labels.length = N.places.length := search_len.1
  refine ⟨n1, n2, I1, I2, fun Y hY => ?_, fun Y hY => ?_, fun Y hY h => ?_, fun Y hY h => r1 Y hY h, fun Y hY => ?_, fun Y way hw hj => ?_⟩
  · rw [cl_is hE (trip_zero hX hY ⟨h0, h1⟩)]
    unfold rcl
    rw [if_pos (labErr_two.2 ⟨n1, n2, I1, I2⟩)]
    unfold clRes
    refine if_pos ⟨?_, ?_, fun i hi => ?_, fun i hi => ?_⟩
    · rw [F1.own]; exact Fs.within_iff.2 ⟨h0, Int.le_refl _⟩
    · rw [F2.own]; exact Fs.within_iff.2 ⟨h0, Int.le_refl _⟩
    · by_cases e : listI (search N X a (soonest N)).labels (listD N.roads i).src.toNat = -1
      · exact .inl e
      · exact .inr (F1.step i hi e)
    · by_cases e : listI (search N X a (latest N)).labels (listD N.roads i).src.toNat = -1
      · exact .inl e
      · exact .inr (F2.step i hi e)
  · have e : estErr N X Y a = 0 := by rw [est_is, if_pos hE]; exact trip_zero hX hY ⟨h0, h1⟩
    unfold estimate
    rw [if_neg (fun h => h e), Int.toNat_natCast]
  · by_cases e : listI (search N X a (latest N)).labels Y = -1
    · exact e
    · exact absurd h (r2 Y hY e)
  · have := Fs.within_iff.1 (I1 Y (by omega)); exact this.1
  · exact ⟨(along_joins F1 (net_joined hE) (soonest_good hE) hX h0 hw hj).2, (along_joins F2 (net_joined hE) (latest_good hE) hX h0 hw hj).2⟩

theorem ints_sameN (n : Nat) (l : List Int) (A B : Option Addr) (c d : Nat) (w : World) (hn : l.length = n) (hA : ArrI w A l c) (hB : ArrI w B l d) :
    Calls Try.prog 40 #[.slice A n c, .slice B n d] w fun e w' => e = .returned (.bool true) ∧ Below w.heap.size w w' := by
  subst hn; exact ints_same l A B c d w hA hB
theorem copyLabelsN_any (n : Nat) (l m : List Int) (A B : Option Addr) (c d : Nat) (w : World) (h1 : l.length = n) (h2 : m.length = n) (hn : n ≤ 1000000) (hA : ArrI w A l c) (hB : ArrI w B m d) :
    Calls Try.prog 42 #[.agg #[.slice A n c, .slice B n d]] w fun e w' => ∃ A1 c1 A2 c2, e = .returned (.agg #[.slice A1 n c1, .slice A2 n c2]) ∧ TwoI w' A1 l c1 A2 m c2 ∧ Below w.heap.size w w' := by
  have H := copyLabelsT_any l m A B c d w hA hB (by omega) (by omega)
  rw [h2] at H
  rw [h1] at H
  exact H
theorem checkLabelsN_any (n : Nat) (N : Net) (v : Value) (f t a : Int) (l m : List Int) (A B : Option Addr) (c d : Nat) (w : World) (h1 : l.length = n) (h2 : m.length = n) (hn : n ≤ 1000) (hN : RdNet w v N) (hA : ArrI w A l c) (hB : ArrI w B m d) :
    Calls Try.prog 41 #[v, stripV f t a, .agg #[.slice A n c, .slice B n d]] w fun e w' => e = .returned (.tuple #[.agg #[.int .i64 (cl N f t a l m).1.1, .int .i64 (cl N f t a l m).1.2], .int .i64 (cl N f t a l m).2]) ∧ Below w.heap.size w w' := by
  have H := checkLabels_any N v f t a l m A B c d w hN hA hB (by omega) (by omega)
  rw [h2] at H
  rw [h1] at H
  exact H
end Go.Proofs.Ythipneggplebcaa
