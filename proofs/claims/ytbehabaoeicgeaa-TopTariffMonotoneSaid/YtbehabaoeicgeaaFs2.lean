/- Which rules hold on a date and at a time, as lists of numbers. No condition. -/
import Derived.Test.YtbehabaoeicgeaaFs
namespace Go.Proofs.Ytbehabaoeicgeaa.Fs

/-- The numbers of the first n rules that hold on a date. -/
def onTo (T : Tar) (d : Int) (n : Nat) : List Int := ((List.range n).filter (onDate T d)).map fun i : Nat => (i : Int)
def rOn (T : Tar) (d : Int) : List Int := onTo T d T.rules.length
theorem onTo_yes {T : Tar} {d : Int} {n : Nat} (h : onDate T d n = true) : onTo T d (n + 1) = onTo T d n ++ [(n : Int)] := by
  unfold onTo
  rw [List.range_succ, List.filter_append, List.map_append]
  simp [h]
theorem onTo_no {T : Tar} {d : Int} {n : Nat} (h : onDate T d n = false) : onTo T d (n + 1) = onTo T d n := by
  unfold onTo
  rw [List.range_succ, List.filter_append, List.map_append]
  simp [h]
theorem onTo_le (T : Tar) (d : Int) (n : Nat) : (onTo T d n).length ≤ n := by
  unfold onTo
  have := List.length_filter_le (onDate T d) (List.range n)
  simp at this ⊢
  exact this
theorem rOn_mem {T : Tar} {d x : Int} (h : x ∈ rOn T d) : 0 ≤ x ∧ x < T.rules.length ∧ onDate T d x.toNat = true := by
  unfold rOn onTo at h
  simp only [List.mem_map, List.mem_filter, List.mem_range] at h
  obtain ⟨i, ⟨h1, h2⟩, rfl⟩ := h
  exact ⟨by omega, by omega, by simpa using h2⟩
/-- Those of the first n of some rules that hold at a place and time. -/
def thereTo (T : Tar) (l : List Int) (z t : Int) (n : Nat) : List Int := ((List.range n).filter fun k => there T z t (listI l k).toNat).map (listI l)
def rThere (T : Tar) (l : List Int) (z t : Int) : List Int := thereTo T l z t l.length
theorem thereTo_yes {T : Tar} {l : List Int} {z t : Int} {n : Nat} (h : there T z t (listI l n).toNat = true) : thereTo T l z t (n + 1) = thereTo T l z t n ++ [listI l n] := by
  unfold thereTo
  rw [List.range_succ, List.filter_append, List.map_append]
  simp [h]
theorem thereTo_no {T : Tar} {l : List Int} {z t : Int} {n : Nat} (h : there T z t (listI l n).toNat = false) : thereTo T l z t (n + 1) = thereTo T l z t n := by
  unfold thereTo
  rw [List.range_succ, List.filter_append, List.map_append]
  simp [h]
theorem thereTo_le (T : Tar) (l : List Int) (z t : Int) (n : Nat) : (thereTo T l z t n).length ≤ n := by
  unfold thereTo
  have := List.length_filter_le (fun k => there T z t (listI l k).toNat) (List.range n)
  simp at this ⊢
  exact this
/-- The only rule, or an error. -/
def only (l : List Int) : Int × Int := if l.length = 0 then (0, 12) else if l.length = 1 then (listI l 0, 0) else (0, 13)
def rAt (T : Tar) (z d t : Int) : Int × Int := only (rThere T (rOn T d) z t)
end Go.Proofs.Ytbehabaoeicgeaa.Fs
