/- Handed. No condition. -/
import Derived.Test.YtjmaankkbdpikaaX14
import Derived.Test.YtjmaankkbdpikaaD9
import Derived.Test.YtjmaankkbdpikaaX1
import Derived.Test.YtjmaankkbdpikaaD14
import Derived.Test.YtjmaankkbdpikaaD24
namespace Go.Proofs.Ytjmaankkbdpikaa
open Go.RowKit Fs

theorem Fs.list_cars (l : List WRec) : manyErr l.length 40 (wrongRec false l) = recsErr false l := rfl
/-- The drivers of the first k groups. -/
def Fs.whoTo (l : List WRec) (L : List (Int × Int)) (k : Nat) : List ByteArray := (L.take k).map fun p => (listW l p.1.toNat).who
theorem Fs.whoTo_next {l : List WRec} {L : List (Int × Int)} {k : Nat} (h : k < L.length) : whoTo l L (k + 1) = whoTo l L k ++ [(listW l (listJ L k).1.toNat).who] := by
  unfold whoTo
  rw [List.take_add_one, List.getElem?_eq_getElem h, List.map_append]
  have : listJ L k = L[k] := by unfold listJ; rw [List.getD_eq_getElem?_getD, List.getElem?_eq_getElem h]; rfl
  rw [this]
  rfl
theorem Fs.whoTo_len {l : List WRec} {L : List (Int × Int)} {k : Nat} (h : k ≤ L.length) : (whoTo l L k).length = k := by
  unfold whoTo
  rw [List.length_map, List.length_take]
  omega
end Go.Proofs.Ytjmaankkbdpikaa
/- Licences: their check, which hold on a date, up to when, which kind is missing. No condition. -/
namespace Go.Proofs.Ytjmaankkbdpikaa
open Go.RowKit Fs

def Fs.sortErr (s : ByteArray) : Int := if isName s = true then 0 else 4
/-! ### which hold -/
open Classical in
noncomputable def Fs.heldTo (l : List WRec) (s : ByteArray) (d : Int) : Nat → Int
  | 0 => d - 1
  | k + 1 => if holdsAt l s d k then max (heldTo l s d k) (listW l k).fin else heldTo l s d k
theorem Fs.held_ge (l : List WRec) (s : ByteArray) (d : Int) : ∀ n, (∃ k, k < n ∧ holdsAt l s d k ∧ heldTo l s d n = (listW l k).fin ∧ d ≤ heldTo l s d n) ∨ (heldTo l s d n = d - 1 ∧ ∀ k, k < n → ¬ holdsAt l s d k)
  | 0 => Or.inr ⟨rfl, fun k hk => absurd hk (Nat.not_lt_zero _)⟩
  | n + 1 => by
    by_cases h : holdsAt l s d n
    · have e : heldTo l s d (n + 1) = max (heldTo l s d n) (listW l n).fin := if_pos h
      have hw := Fs.within_iff.1 h.2
      rw [e]
      refine Or.inl ?_
      rcases held_ge l s d n with ⟨k, hk, h1, h2, h3⟩ | ⟨h1, h2⟩
      · by_cases hc : (listW l n).fin ≤ heldTo l s d n
        · exact ⟨k, by omega, h1, by omega, by omega⟩
        · exact ⟨n, by omega, h, by omega, by omega⟩
      · exact ⟨n, by omega, h, by omega, by omega⟩
    · have e : heldTo l s d (n + 1) = heldTo l s d n := if_neg h
      rw [e]
      rcases held_ge l s d n with ⟨k, hk, h1, h2, h3⟩ | ⟨h1, h2⟩
      · exact Or.inl ⟨k, by omega, h1, h2, h3⟩
      · refine Or.inr ⟨h1, fun k hk => ?_⟩
        by_cases ek : k = n
        · subst ek; exact h
        · exact h2 k (by omega)
theorem Fs.held_holds (l : List WRec) (s : ByteArray) (d : Int) : decide (d ≤ heldTo l s d l.length) = licHolds l s d := by
  rcases held_ge l s d l.length with ⟨k, hk, h1, h2, h3⟩ | ⟨h1, h2⟩
  · rw [licHolds_yes ⟨k, hk, h1⟩, decide_eq_true h3]
  · rw [licHolds_no h2, decide_eq_false (by omega)]
theorem Fs.held_is {l : List WRec} (hL : licsErr l = 0) {s : ByteArray} {d : Int} (h0 : -1 ≤ d) (h1 : d ≤ 100002) : ∀ n, n ≤ l.length → -2 ≤ heldTo l s d n ∧ heldTo l s d n ≤ 100002 := by
  intro n hn
  rcases held_ge l s d n with ⟨k, hk, h2, h3, h4⟩ | ⟨h2, -⟩
  · have := (licErr_ok ((lics_ok hL).2 k (by omega))).2.2.1
    omega
  · omega
theorem Fs.kindX_is (l : List WRec) (s : ByteArray) (d : Int) : (if licsErr l ≠ 0 then licsErr l else if sortErr s ≠ 0 then sortErr s else dateErr d) = kindErr l s d := by
  unfold kindErr sortErr
  cases h1 : isName s <;> rfl
theorem Fs.kindX_ok {l : List WRec} {s : ByteArray} {d : Int} (h : kindErr l s d = 0) : licsErr l = 0 ∧ 0 ≤ d ∧ d ≤ 100000 := by
  unfold kindErr at h
  by_cases h1 : licsErr l = 0
  · rw [if_neg (fun hh => hh h1)] at h
    cases h2 : isName s with
    | false => rw [h2, if_pos rfl] at h; exact absurd h (by decide)
    | true =>
      rw [h2, if_neg (by decide)] at h
      refine ⟨h1, ?_⟩
      unfold dateErr at h
      by_cases hw : within d 0 100000 = true
      · exact Fs.within_iff.1 hw
      · rw [if_neg hw] at h; exact absurd h (by decide)
  · rw [if_pos h1] at h; exact absurd h h1
end Go.Proofs.Ytjmaankkbdpikaa
/- The next inspection. No condition. -/
namespace Go.Proofs.Ytjmaankkbdpikaa
open Go.RowKit Fs

def Fs.everyErr (n : Int) : Int := if within n 1 1000 = true then 0 else 2
end Go.Proofs.Ytjmaankkbdpikaa
/- Searching in ascending numbers. No condition. -/
namespace Go.Proofs.Ytjmaankkbdpikaa
open Go.RowKit Fs

/-! ### searching -/
structure Fs.FoundAt (L : List Int) (t : Int) (i : Nat) (b : Bool) : Prop where
  le : i ≤ L.length
  lo : ∀ k, k < i → listI L k < t
  hi : ∀ k, i ≤ k → k < L.length → t ≤ listI L k
  is : b = true ↔ i < L.length ∧ listI L i = t
def FoundE (L : List Int) (t : Int) (e : Ending) : Prop := ∃ (i : Nat) (b : Bool), e = .returned (.tuple #[.int .i64 i, .bool b]) ∧ FoundAt L t i b
end Go.Proofs.Ytjmaankkbdpikaa
