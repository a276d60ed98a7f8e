/- Ways told as texts, plainly: the number of a road's name, what is read of a text, and that a way is read back. No condition. -/
import Derived.Test.YtndhpdjcpagghaaGreatDoorXU
import Derived.Test.YtndhpdjcpagghaaGreatDoorT38
import Derived.Test.YtndhpdjcpagghaaGreatDoorT52
import Derived.Test.YtndhpdjcpagghaaGreatDoorT35
import Derived.Test.YtndhpdjcpagghaaGreatDoorT60
namespace Go.Proofs.YtndhpdjcpagghaaGreatDoor
open Go.RowKit Fs

namespace Fs
theorem road_named {N : Net} (h : netErr N = 0) {i : Nat} (hi : i < N.roads.length) :
    isName (listD N.roads i).name = true ∧ ∀ j, j < i → (listD N.roads j).name ≠ (listD N.roads i).name := by
  have h1 := (net_sound h).2.2.2 i hi
  unfold errRoad at h1
  by_cases h0 : errName (fun j => (listD N.roads j).name) i ≠ 0
  · rw [if_pos h0] at h1; exact absurd h1 h0
  · have h0 := Decidable.not_not.1 h0
    unfold errName at h0
    cases hn : isName (listD N.roads i).name with
    | false => rw [hn, if_neg (by decide)] at h0; exact absurd h0 (by decide)
    | true =>
      rw [hn, if_pos rfl] at h0
      refine ⟨rfl, fun j hj he => ?_⟩
      have := fst_zero h0 j hj
      rw [if_pos he] at this
      exact absurd this (by decide)
theorem roads_differ {N : Net} (h : netErr N = 0) {i j : Nat} (hi : i < N.roads.length) (hj : j < N.roads.length) (e : (listD N.roads i).name = (listD N.roads j).name) : i = j := by
  rcases Nat.lt_trichotomy i j with g | g | g
  · exact absurd e ((road_named h hj).2 i g)
  · exact g
  · exact absurd e.symm ((road_named h hi).2 j g)
/-- The number of the first road with a name, or -1. -/
def roadNo (N : Net) (s : ByteArray) : Int :=
  if fst (fun j => if (listD N.roads j).name = s then 1 else 0) N.roads.length = 0 then -1 else (idx (fun j => if (listD N.roads j).name = s then 1 else 0) N.roads.length : Nat)
theorem roadNo_hit {N : Net} {s : ByteArray} {k : Nat} (hk : k < N.roads.length) (h : ∀ j, j < k → (listD N.roads j).name ≠ s) (h1 : (listD N.roads k).name = s) : roadNo N s = k := by
  obtain ⟨a, b⟩ := fst_hit (f := fun j => if (listD N.roads j).name = s then (1 : Int) else 0) hk (fun j hj => if_neg (h j hj)) (by rw [if_pos h1]; decide)
  unfold roadNo
  rw [a, b, if_pos h1, if_neg (by decide)]
theorem roadNo_none {N : Net} {s : ByteArray} (h : ∀ j, j < N.roads.length → (listD N.roads j).name ≠ s) : roadNo N s = -1 := by
  unfold roadNo
  rw [if_pos (fst_none fun j hj => if_neg (h j hj))]
theorem roadNo_of {N : Net} (h : netErr N = 0) {k : Nat} (hk : k < N.roads.length) : roadNo N (listD N.roads k).name = k :=
  roadNo_hit hk (fun j hj => (road_named h hk).2 j hj) rfl
theorem idx_lt {f : Nat → Int} : ∀ {n : Nat}, fst f n ≠ 0 → idx f n < n
  | 0, h => absurd rfl h
  | n + 1, h => by
    unfold idx
    by_cases h0 : fst f n = 0
    · rw [if_pos h0]
      split <;> omega
    · rw [if_neg h0]
      have := idx_lt h0
      omega
theorem roadNo_ge (N : Net) (s : ByteArray) : -1 ≤ roadNo N s ∧ roadNo N s < (N.roads.length : Int) := by
  unfold roadNo
  by_cases h : fst (fun j => if (listD N.roads j).name = s then (1 : Int) else 0) N.roads.length = 0
  · rw [if_pos h]; omega
  · rw [if_neg h]
    have := idx_lt h
    omega
def wayOf (N : Net) (P : List ByteArray) : List Int := P.map (roadNo N)
/-- The error, and the way, that a text of a right net has. -/
def readErr (N : Net) (s : ByteArray) : Int :=
  if s.size = 0 then 0 else if Lib.containsS (cutB 32 s) ByteArray.empty = true then 7 else if (wayOf N (cutB 32 s)).contains (-1) = true then 6 else wayErr N (wayOf N (cutB 32 s))
def readWay (N : Net) (s : ByteArray) : List Int := if s.size = 0 then [] else if readErr N s = 0 then wayOf N (cutB 32 s) else []
theorem wayErr_nil (N : Net) : wayErr N [] = 0 := (way_none (by simp) (fun j hj => absurd hj (Nat.not_lt_zero _))).1
/-- The text of a way. -/
def wayText (N : Net) (l : List Int) : ByteArray := joinB 32 (l.map fun z => (listD N.roads z.toNat).name)
theorem name_no_blank {s : ByteArray} (h : isName s = true) : (32 : UInt8) ∉ s.data.toList := by
  unfold isName at h
  rw [Bool.and_eq_true] at h
  have h4 := of_decide_eq_true h.2
  intro hm
  obtain ⟨j, hj, e⟩ := List.getElem_of_mem hm
  have hb := h4 j (by simpa using hj)
  have : byteAt s j = 32 := by
    unfold byteAt
    rw [List.getD_eq_getElem?_getD, List.getElem?_eq_getElem hj, e]
    rfl
  rw [this] at hb
  exact absurd hb (by decide)
theorem name_size {s : ByteArray} (h : isName s = true) : 1 ≤ s.size ∧ s.size ≤ 12 := by
  unfold isName at h
  rw [Bool.and_eq_true, Bool.and_eq_true, Bool.and_eq_true] at h
  exact ⟨of_decide_eq_true h.1.1.1, of_decide_eq_true h.1.1.2⟩
theorem listI_map (l : List Int) (f : Int → Int) (i : Nat) (h : i < l.length) : listI (l.map f) i = f (listI l i) := by
  unfold listI
  rw [List.getD_eq_getElem?_getD, List.getD_eq_getElem?_getD, List.getElem?_map, List.getElem?_eq_getElem h]
  rfl
theorem wayText_back {N : Net} {l : List Int} (hN : netErr N = 0) (hl : wayErr N l = 0) : readErr N (wayText N l) = 0 ∧ readWay N (wayText N l) = l := by
  have hw := (way_ok hl).2
  by_cases h0 : l = []
  · subst h0
    have : (wayText N []).size = 0 := rfl
    unfold readErr readWay
    rw [if_pos this, if_pos this]
    exact ⟨rfl, rfl⟩
  · have hmem : ∀ z ∈ l, 0 ≤ z ∧ z < N.roads.length := fun z hz => by
      obtain ⟨k, hk, rfl⟩ := mem_listI hz
      exact (hw k hk).1
    have hnm : ∀ p ∈ l.map (fun z => (listD N.roads z.toNat).name), isName p = true := fun p hp => by
      obtain ⟨z, hz, rfl⟩ := List.mem_map.1 hp
      have := hmem z hz
      exact (road_named hN (by omega)).1
    have hc : cutB 32 (wayText N l) = l.map fun z => (listD N.roads z.toNat).name := cutB_joinB (by simpa using h0) (fun p hp => name_no_blank (hnm p hp))
    have hwo : wayOf N (l.map fun z => (listD N.roads z.toNat).name) = l := by
      unfold wayOf
      rw [List.map_map]
      conv => rhs; rw [← List.map_id l]
      apply List.map_congr_left
      intro z hz
      have := hmem z hz
      show roadNo N (listD N.roads z.toNat).name = z
      rw [roadNo_of hN (by omega)]
      omega
    have hs : (wayText N l).size ≠ 0 := fun he => by
      have : wayText N l = ByteArray.empty := by
        apply ByteArray.ext
        exact Array.eq_empty_of_size_eq_zero he
      rw [this] at hc
      have h1 : ByteArray.empty ∈ l.map fun z => (listD N.roads z.toNat).name := by
        rw [← hc]; exact List.mem_singleton.2 rfl
      have := (name_size (hnm _ h1)).1
      exact absurd this (by decide)
    have hne : ¬ Lib.containsS (cutB 32 (wayText N l)) ByteArray.empty = true := by
      rw [hc, Lib.containsS_iff]
      intro h1
      have := (name_size (hnm _ h1)).1
      exact absurd this (by decide)
    have hmi : ¬ l.contains (-1) = true := fun h => by have := (hmem _ (by simpa using h)).1; omega
    have he : readErr N (wayText N l) = 0 := by
      unfold readErr
      rw [if_neg hs, if_neg hne, hc, hwo, if_neg hmi]
      exact hl
    refine ⟨he, ?_⟩
    unfold readWay
    rw [if_neg hs, if_pos he, hc, hwo]
end Fs
end Go.Proofs.YtndhpdjcpagghaaGreatDoor
/- The texts of ways: what the program and the reference write and read. Conditions: the net can be read; texts are shorter than 2^32 bytes. -/
namespace Go.Proofs.YtndhpdjcpagghaaGreatDoor
open Go.RowKit Fs

/-- A row of n that is filled up to k. -/
def rowP (f : Nat → Value) (z : Value) (n k : Nat) : List Value := (List.range n).map fun i => if i < k then f i else z
theorem rowP_zero (f : Nat → Value) (z : Value) (n : Nat) : rowP f z n 0 = List.replicate n z := by
  unfold rowP
  apply List.ext_getElem
  · simp
  · intro i h1 h2
    simp
theorem rowP_set {f : Nat → Value} {z : Value} {n k : Nat} : (rowP f z n k).set k (f k) = rowP f z n (k + 1) := by
  unfold rowP
  apply List.ext_getElem
  · simp
  · intro i h1 h2
    rw [List.getElem_set]
    by_cases e : k = i
    · subst e; simp
    · rw [if_neg e]
      simp only [List.getElem_map, List.getElem_range]
      by_cases h : i < k
      · rw [if_pos h, if_pos (by omega)]
      · rw [if_neg h, if_neg (by omega)]
theorem rowP_full {f : Nat → Value} {z : Value} {n : Nat} {xs : List Value} (hl : xs.length = n) (h : ∀ i, i < n → xs[i]? = some (f i)) : rowP f z n n = xs := by
  unfold rowP
  apply List.ext_getElem?
  intro i
  by_cases hi : i < n
  · rw [h i hi, List.getElem?_map, List.getElem?_range hi]
    simp [hi]
  · rw [List.getElem?_eq_none (by simp; omega), List.getElem?_eq_none (by omega)]
theorem listS_map (l : List Int) (f : Int → ByteArray) (i : Nat) (h : i < l.length) : listS (l.map f) i = f (listI l i) := by
  unfold listS listI
  rw [List.getD_eq_getElem?_getD, List.getD_eq_getElem?_getD, List.getElem?_map, List.getElem?_eq_getElem h]
  rfl
theorem listI_of_map (l : List ByteArray) (f : ByteArray → Int) (i : Nat) (h : i < l.length) : listI (l.map f) i = f (listS l i) := by
  unfold listS listI
  rw [List.getD_eq_getElem?_getD, List.getD_eq_getElem?_getD, List.getElem?_map, List.getElem?_eq_getElem h]
  rfl
def Fs.wayNames (N : Net) (l : List Int) : List ByteArray := l.map fun z => (listD N.roads z.toNat).name
theorem Fs.wayNames_len (N : Net) (l : List Int) : (wayNames N l).length = l.length := by simp [wayNames]
theorem lens_le {P : List ByteArray} (h : ∀ p ∈ P, p.size ≤ 12) : Lib.lens (P.map (·.data.toList)) ≤ 12 * P.length := by
  induction P with
  | nil => exact Nat.zero_le _
  | cons x r ih =>
    have h1 := ih fun p hp => h p (List.mem_cons_of_mem _ hp)
    have h2 := h x (by simp)
    rw [Lib.size_eq] at h2
    unfold Lib.lens at h1 ⊢
    simp only [List.map_cons, List.sum_cons, List.length_cons] at h1 ⊢
    omega
theorem joinB_size {b : UInt8} {P : List ByteArray} (h : ∀ p ∈ P, p.size ≤ 12) : (joinB b P).size ≤ 13 * P.length := by
  have e : (joinB b P).size = (Lib.join (P.map (·.data.toList)) [b]).length := by unfold joinB; simp [ByteArray.size]
  rw [e]
  cases P with
  | nil => simp [Lib.join_nil]
  | cons x r =>
    rw [List.map_cons, Lib.join_length, ← List.map_cons (f := fun p : ByteArray => p.data.toList)]
    have := lens_le h
    simp only [List.length_map, List.length_cons, List.length_nil] at this ⊢
    omega
theorem Fs.way_names {N : Net} {l : List Int} (hN : netErr N = 0) (hl : wayErr N l = 0) : ∀ p ∈ wayNames N l, isName p = true := fun p hp => by
  obtain ⟨z, hz, rfl⟩ := List.mem_map.1 hp
  obtain ⟨k, hk, rfl⟩ := mem_listI hz
  have := ((way_ok hl).2 k hk).1
  exact (road_named hN (by omega)).1
theorem Fs.wayText_size {N : Net} {l : List Int} (hN : netErr N = 0) (hl : wayErr N l = 0) : (wayText N l).size ≤ 2600 := by
  have h1 := joinB_size (b := 32) (P := wayNames N l) fun p hp => (name_size (way_names hN hl p hp)).2
  rw [wayNames_len] at h1
  have := (way_ok hl).1
  show (joinB 32 (wayNames N l)).size ≤ 2600
  omega
theorem Fs.cw_ok {N : Net} {l : List Int} (h : cwErr N l = 0) : netErr N = 0 ∧ wayErr N l = 0 := by
  unfold cwErr at h
  by_cases e : netErr N = 0
  · rw [if_pos e] at h; exact ⟨e, h⟩
  · rw [if_neg e] at h; exact absurd h e
def Fs.fwText (N : Net) (l : List Int) : ByteArray := if cwErr N l = 0 then wayText N l else ByteArray.empty

set_option maxHeartbeats 3200000 in
set_option maxRecDepth 100000 in
theorem formatWay_any (N : Net) (v : Value) (l : List Int) (A : Option Addr) (c : Nat) (w : World) (hN : RdNet w v N) (h : ArrI w A l c) :
    Calls Tryz.prog 8 #[v, .slice A l.length c] w fun e w' => e = .returned (.tuple #[.string (fwText N l), .int .i64 (cwErr N l)]) ∧ Below w.heap.size w w' := by
  have hN0 := Lib.hid hN
  obtain ⟨P, R, pc, rc, ar, rfl, m⟩ := hN
  have M := Lib.hid m
  have rb1 := m.roads.le.1
  have rb2 := m.roads.le.2
  clear m
  have b1 := h.le.1
  have b2 := h.le.2
  have HA := Lib.hid h
  clear h
  have BN := Lib.hid (BoxN.new w N P R pc rc 25)
  go_enter Tryz.func8, Tryz.ntmps8
  go_upto_region 1 with fail
  generalize hwb : w.alloc _ = wb at *
  have HW : Hid (Below w.heap.size w wb) := by rw [← hwb]; exact Lib.hid ((Below.refl _ _).alloc (Nat.le_refl _) _)
  clear hwb
  obtain ⟨n0, n1⟩ := BN.out
  go_wp2_with fail
  refine (errWay_any N _ l A c _ (hN0.out.keep (Keep.below HW.out)) (HA.out.keep (Keep.below HW.out))).mono ?_
  rintro e' w1 ⟨rfl, hb1⟩
  replace BN := Lib.hid (BN.out.keep (Keep.below hb1))
  replace HW := Lib.hid (HW.out.trans (hb1.mono HW.out.size))
  clear hb1 n0 n1
  by_cases he : cwErr N l = 0
  · obtain ⟨hE, hw⟩ := cw_ok he
    have hlen := (way_ok hw).1
    have HIN := Lib.hid fun j hj => ((way_ok hw).2 j hj).1
    have HSZ := Lib.hid (wayText_size hE hw)
    have HF := Lib.hid (show fwText N l = wayText N l from if_pos he)
    have HNL := Lib.hid (wayNames_len N l)
    have HE := Lib.hid he
    rw [he]
    clear he hE hw
    obtain ⟨i0, hi, hz0, hz1, hz2⟩ := info_parts Tryz.infoText
    obtain ⟨n0, n1⟩ := BN.out
    go_upto_region 5 with (at_make; refine wpList_make_full _ rfl (.tmp 17) (.tmp 17) 22 rfl _ 9 i0 (.string ⟨#[]⟩) 1 Tryz.underlying22 hi hz0 hz1 .i64 .i64 l.length l.length l.length rfl rfl rfl rfl (by rw [hz2]; omega) (by unfold maxLen; omega) (Nat.le_refl _) ?_)
    intro w2 hown hg2
    have HB2 : Hid (Below w1.heap.size w1 w2) := Lib.hid ⟨hg2.os, hg2.tape, hg2.output, hg2.size, fun k hk => hg2.block k hk (by simp)⟩
    have HR2 : Hid (RowV w2 w1.heap.size 9 (rowP (fun i => .string (listD N.roads (listI l i).toNat).name) (.string ⟨#[]⟩) l.length 0)) := Lib.hid (by
      have := (RowV.of_own hown).1
      rw [toList_madeCells_one, ← rowP_zero] at this
      exact this)
    have hlt2 := HR2.out.lt
    clear hown hg2 n0 n1
    go_wp2_with fail
    go_loopw [21] (fun i wr => ∃ k : Nat, k ≤ l.length ∧ i = .int .i64 k ∧ Hid (RowV wr w1.heap.size 9 (rowP (fun i => .string (listD N.roads (listI l i).toNat).name) (.string ⟨#[]⟩) l.length k)) ∧ Hid (Below w1.heap.size w1 wr)) (fun i _ => l.length - (intOf i).toNat)
    case atStart => exact ⟨0, Nat.zero_le _, rfl, HR2, HB2⟩
    case round =>
      obtain ⟨k, hk, rfl, HR, HB⟩ := hrel
      have HX := Lib.hid (HW.out.trans (HB.out.mono HW.out.size))
      by_cases hlt : k < l.length
      · have hkn : (k : Int) < (l.length : Int) := by omega
        obtain ⟨z, hz⟩ : ∃ z : Nat, listI l k = z := ⟨_, (Int.toNat_of_nonneg (HIN.out k hlt).1).symm⟩
        have hzl : z < N.roads.length := by have := (HIN.out k hlt).2; omega
        obtain ⟨ba, oa, rfl, ca⟩ := (HA.out.keep (Keep.below HX.out)).at_ hlt
        rw [hz] at ca
        obtain ⟨b, o, rfl, q⟩ := (M.out.roads.keep (Keep.below HX.out)).at_ hzl
        have q0 := q.c0
        obtain ⟨n0, n1⟩ := BN.out.keep (Keep.below HB.out)
        have rc := (HR.out.cell k)
        have fr := (HR.out.frozen k)
        have hck : (rowP (fun i => .string (listD N.roads (listI l i).toNat).name) (.string ⟨#[]⟩) l.length k)[k]? = some (.string ⟨#[]⟩) := by
          unfold rowP
          rw [List.getElem?_map, List.getElem?_range hlt]
          simp
        rw [hck] at rc
        have HS : Hid (RowV (wr.setCell ⟨w1.heap.size, k, none⟩ (.string (listD N.roads z).name)) w1.heap.size 9 (rowP (fun i => .string (listD N.roads (listI l i).toNat).name) (.string ⟨#[]⟩) l.length (k + 1))) := Lib.hid (by
          rw [← rowP_set]
          have := HR.out.set k (.string (listD N.roads (listI l k).toNat).name)
          rw [hz, Int.toNat_natCast] at this
          rw [hz, Int.toNat_natCast]
          exact this)
        have HB3 : Hid (Below w1.heap.size w1 (wr.setCell ⟨w1.heap.size, k, none⟩ (.string (listD N.roads z).name))) := Lib.hid (HB.out.setCell (p := ⟨w1.heap.size, k, none⟩) (Nat.le_refl _) _)
        clear q hck HR hz
        go_wp2_with fail
        go_roundw
        case rel => exact ⟨k + 1, by omega, by go_num, HS, HB3⟩
        case measure => simp [intOf]; omega
      · obtain rfl : k = l.length := by omega
        have HAR : Hid (ArrS wr (some ⟨w1.heap.size, 0, none⟩) (wayNames N l) l.length) := Lib.hid (by
          refine RowV.arrS (t := 9) ?_ (by rw [HNL.out]; exact Nat.le_refl _) (by unfold maxLen; omega)
          rw [← rowP_full (f := fun i => .string (listD N.roads (listI l i).toNat).name) (z := .string ⟨#[]⟩) (n := l.length) (xs := strVals (wayNames N l)) (by unfold strVals; rw [List.length_map, HNL.out]) (fun i hi => by
            rw [strVals_get (by rw [HNL.out]; exact hi)]
            unfold wayNames
            rw [listS_map _ _ _ hi])]
          exact HR.out)
        clear HR hlt hk
        go_wp2_with (go_at_call 28; refine (joinN_any (wayNames N l) l.length _ _ 32 _ HNL.out HAR.out (by omega) (Nat.le_trans HSZ.out (by decide))).mono ?_; rintro e' w3 ⟨rfl, hb3⟩)
        refine bodyPost_ret (v := .tuple #[.string (wayText N l), .int .i64 0]) (by simp [results, Tryz.results8, go_sem]; rfl) rfl ⟨?_, HX.out.trans (hb3.mono HX.out.size)⟩
        rw [HF.out, HE.out]
  · have G2 := Lib.hid (show fwText N l = ByteArray.empty from if_neg he)
    have d1 : (cwErr N l != 0) = true := by simpa using he
    clear he
    obtain ⟨n0, n1⟩ := BN.out
    go_wp2_with fail
    refine bodyPost_ret (v := .tuple #[.string ⟨#[]⟩, .int .i64 (cwErr N l)]) (by simp [results, Tryz.results8, go_sem]) rfl ⟨?_, HW.out⟩
    rw [G2.out]; rfl
end Go.Proofs.YtndhpdjcpagghaaGreatDoor
/- Reading a way's text: what the program returns. Conditions: the net can be read; the text is shorter than 2^32 bytes. -/
namespace Go.Proofs.YtndhpdjcpagghaaGreatDoor
open Go.RowKit Fs

theorem strEq_toList {a b : ByteArray} : (a.toList == b.toList) = decide (a = b) := by
  by_cases h : a = b
  · rw [decide_eq_true h, str_eq h]
  · rw [decide_eq_false h, str_ne h]
set_option maxHeartbeats 1600000 in
set_option maxRecDepth 100000 in
theorem sameName_any (r : Rd) (p : Option Addr) (pc g : Nat) (x : ByteArray) (w : World) (hg : w.cell? ⟨g, 0, none⟩ = some (.string x)) :
    Calls Tryz.prog 34 #[rdV r p pc, .pointer (some ⟨g, 0, none⟩)] w fun e w' => e = .returned (.bool (decide (r.name = x))) ∧ Below w.heap.size w w' := by
  have BD := Lib.hid (BoxW.new w r p pc 67)
  have hg2 := Keep.alloc w (.cells #[.string r.name, .int .i64 r.src, .int .i64 r.dst, .int .i64 r.metres, .slice p r.pts.length pc] 67) _ _ hg
  obtain ⟨d0, d1, d2, d3, d4⟩ := BD.out.box
  by_cases e : r.name = x
  · have e1 := str_eq e
    have F := Lib.hid (decide_eq_true e)
    clear e
    go_enter Tryz.func34, Tryz.ntmps34
    go_wp2_with fail
    go_ret
    exact ⟨ret_bool (by rw [F.out]), (Below.refl _ _).alloc (Nat.le_refl _) _⟩
  · have e1 := str_ne e
    have F := Lib.hid (decide_eq_false e)
    clear e
    go_enter Tryz.func34, Tryz.ntmps34
    go_wp2_with fail
    go_ret
    exact ⟨ret_bool (by rw [F.out]), (Below.refl _ _).alloc (Nat.le_refl _) _⟩
set_option maxHeartbeats 1600000 in
set_option maxRecDepth 100000 in
theorem roadIdx_any (N : Net) (R : Option Addr) (rc g : Nat) (ar : DA) (x : ByteArray) (w : World) (hR : ArrD w R N.roads rc ar) (hg : w.cell? ⟨g, 0, none⟩ = some (.string x)) :
    Calls Tryz.prog 33 #[.slice R N.roads.length rc, .func (.func 34) #[] #[.pointer (some ⟨g, 0, none⟩)]] w fun e w' => e = .returned (.int .i64 (roadNo N x)) ∧ Below w.heap.size w w' := by
  have rb1 := hR.le.1
  have rb2 := hR.le.2
  have HR := Lib.hid hR
  have HG := Lib.hid hg
  clear hR hg
  go_enter Tryz.func33, Tryz.ntmps33
  go_wp2_with fail
  go_loopw [8] (fun i wr => ∃ k : Nat, k ≤ N.roads.length ∧ i = .int .i64 k ∧ Hid (∀ j, j < k → (listD N.roads j).name ≠ x) ∧ Hid (Below w.heap.size w wr)) (fun i _ => N.roads.length - (intOf i).toNat)
  case atStart => exact ⟨0, Nat.zero_le _, rfl, Lib.hid fun j hj => absurd hj (Nat.not_lt_zero _), Lib.hid (Below.refl _ _)⟩
  case round =>
    obtain ⟨k, hk, rfl, Hn, HB⟩ := hrel
    by_cases hlt : k < N.roads.length
    · have hkn : (k : Int) < (N.roads.length : Int) := by omega
      obtain ⟨b, o, rfl, q⟩ := (HR.out.keep (Keep.below HB.out)).at_ hlt
      obtain ⟨q0, q1, q2, q3, q4⟩ := q
      have hgr := Keep.below HB.out _ _ HG.out
      by_cases e : (listD N.roads k).name = x
      · have F := Lib.hid (roadNo_hit hlt Hn.out e)
        have D := Lib.hid (decide_eq_true e)
        clear e Hn
        go_wp2_with (go_at_call 34; refine (sameName_any (listD N.roads k) _ _ _ x _ hgr).mono ?_; rintro e' w1 ⟨rfl, hb1⟩; rw [D.out])
        go_ret
        exact ⟨ret_int F.out.symm, HB.out.trans (hb1.mono HB.out.size)⟩
      · have G : Hid (∀ j, j < k + 1 → (listD N.roads j).name ≠ x) := Lib.hid fun j hj => by
          by_cases e2 : j = k
          · subst e2; exact e
          · exact Hn.out j (by omega)
        have D := Lib.hid (decide_eq_false e)
        clear e Hn
        go_wp2_with (go_at_call 34; refine (sameName_any (listD N.roads k) _ _ _ x _ hgr).mono ?_; rintro e' w1 ⟨rfl, hb1⟩; rw [D.out])
        go_roundw
        case rel => exact ⟨k + 1, by omega, by go_num, G, Lib.hid (HB.out.trans (hb1.mono HB.out.size))⟩
        case measure => simp [intOf]; omega
    · have F := Lib.hid (roadNo_none fun j hj => Hn.out j (by omega))
      clear Hn
      go_wp2_with fail
      go_ret
      exact ⟨ret_int F.out.symm, HB.out⟩

theorem cutB_short (b : UInt8) (s : ByteArray) : 1 ≤ (cutB b s).length ∧ (cutB b s).length ≤ s.size + 1 := by
  rw [cutB_length]
  have := Lib.countB_le ⟨#[b]⟩ (Nat.le_refl 1) s.size s (Nat.le_refl _)
  omega
theorem containsIN_any (l : List Int) (n : Nat) (A : Option Addr) (c : Nat) (x : Int) (w : World) (hl : l.length = n) (h : ArrI w A l c) :
    Calls Tryz.prog 35 #[.slice A n c, .int .i64 x] w fun e w' => e = .returned (.bool (l.contains x)) ∧ w = w' := by
  subst hl
  exact containsI_any l A c x w h
theorem errWayN_any (N : Net) (v : Value) (l : List Int) (n : Nat) (A : Option Addr) (c : Nat) (w : World) (hl : l.length = n) (hN : RdNet w v N) (h : ArrI w A l c) :
    Calls Tryz.prog 27 #[v, .slice A n c] w fun e w' => e = .returned (.int .i64 (cwErr N l)) ∧ Below w.heap.size w w' := by
  subst hl
  exact errWay_any N v l A c w hN h
def Fs.pwErr (N : Net) (s : ByteArray) : Int := if netErr N = 0 then readErr N s else netErr N
def Fs.pwWay (N : Net) (s : ByteArray) : List Int := if netErr N = 0 then readWay N s else []
theorem Fs.wayOf_len (N : Net) (P : List ByteArray) : (wayOf N P).length = P.length := by simp [wayOf]

set_option maxHeartbeats 6400000 in
set_option maxRecDepth 100000 in
theorem parseWay_any (N : Net) (v : Value) (s : ByteArray) (w : World) (hN : RdNet w v N) (hs : s.size < 4294967281) :
    Calls Tryz.prog 11 #[v, .string s] w fun e w' => ∃ A c, e = .returned (.tuple #[.slice A (pwWay N s).length c, .int .i64 (pwErr N s)]) ∧ ArrI w' A (pwWay N s) c ∧ Below w.heap.size w w' := by
  have hN0 := Lib.hid hN
  obtain ⟨P, R, pc, rc, ar, rfl, m⟩ := hN
  have M := Lib.hid m
  have rb1 := m.roads.le.1
  have rb2 := m.roads.le.2
  clear m
  have BN := Lib.hid (BoxN.new w N P R pc rc 25)
  have NIL : ∀ w' : World, Hid (ArrI w' none [] 0) := fun w' => Lib.hid ⟨Nat.le_refl _, by decide, fun hh => absurd hh (by decide)⟩
  go_enter Tryz.func11, Tryz.ntmps11
  go_upto_region 1 with fail
  generalize hwb : w.alloc _ = wb at *
  have HW : Hid (Below w.heap.size w wb) := by rw [← hwb]; exact Lib.hid ((Below.refl _ _).alloc (Nat.le_refl _) _)
  clear hwb
  obtain ⟨n0, n1⟩ := BN.out
  go_wp2_with fail
  refine (errNet_any N _ _ (hN0.out.keep (Keep.below HW.out))).mono ?_
  rintro e' w1 ⟨rfl, hb1⟩
  replace BN := Lib.hid (BN.out.keep (Keep.below hb1))
  replace HW := Lib.hid (HW.out.trans (hb1.mono HW.out.size))
  clear hb1 n0 n1
  by_cases he : netErr N = 0
  · have HE := Lib.hid he
    have FE := Lib.hid (show pwErr N s = readErr N s from if_pos he)
    have FW := Lib.hid (show pwWay N s = readWay N s from if_pos he)
    rw [he]
    clear he
    by_cases h0 : s.size = 0
    · have F1 := Lib.hid (show readErr N s = 0 from if_pos h0)
      have F2 := Lib.hid (show readWay N s = [] from if_pos h0)
      obtain rfl : s = ⟨#[]⟩ := ByteArray.ext (Array.eq_empty_of_size_eq_zero h0)
      clear h0
      go_wp2_with fail
      refine bodyPost_ret (v := .tuple #[.slice none 0 0, .int .i64 0]) (by simp [results, Tryz.results11, go_sem]) rfl ⟨none, 0, ?_, ?_, HW.out⟩
      · rw [FE.out, FW.out, F1.out, F2.out]; rfl
      · rw [FW.out, F2.out]; exact (NIL _).out
    · have hse : s.toList.isEmpty = false := by
        rw [Lib.toList_data]
        cases h : s.data.toList with
        | nil => exact absurd (by have := Lib.size_eq s; rw [h] at this; exact this) h0
        | cons _ _ => rfl
      have HP := Lib.hid (cutB_short 32 s)
      have hpl := (cutB_short 32 s).2
      have H0 := Lib.hid h0
      clear h0
      obtain ⟨n0, n1⟩ := BN.out
      go_wp2_with (go_at_call 31; refine (split_any s 32 _ hs).mono ?_; rintro e' w2 ⟨rfl, rfl⟩)
      have HR2 : Hid (RowV (w1.alloc (.cells ((cutB 32 s).map Value.string).toArray 9)) w1.heap.size 9 (strVals (cutB 32 s))) := Lib.hid (RowV.mk _ _ _)
      have HB2 : Hid (Below w1.heap.size w1 (w1.alloc (.cells ((cutB 32 s).map Value.string).toArray 9))) := Lib.hid ((Below.refl _ _).alloc (Nat.le_refl _) _)
      clear n0 n1
      generalize w1.alloc _ = w2 at *
      have HX2 := Lib.hid (HW.out.trans (HB2.out.mono HW.out.size))
      replace BN := Lib.hid (BN.out.keep (Keep.below HB2.out))
      have HA2 := Lib.hid (HR2.out.arrS (Nat.le_refl _) (by unfold maxLen; omega))
      have hlt2 := HR2.out.lt
      generalize hPP : cutB 32 s = PP at *
      cases hcs : Lib.containsS PP ⟨#[]⟩ with
      | true =>
        have F1 := Lib.hid (show readErr N s = 7 by unfold readErr; rw [if_neg H0.out, hPP]; exact if_pos hcs)
        have F2 := Lib.hid (show readWay N s = [] by unfold readWay; rw [if_neg H0.out, if_neg (by rw [F1.out]; decide)])
        have CS := Lib.hid hcs
        clear hcs
        refine (containsS_any PP _ _ _ _ HA2.out).mono ?_
        rintro e' w3 ⟨rfl, rfl⟩
        rw [CS.out]
        go_wp2_with fail
        refine bodyPost_ret (v := .tuple #[.slice none 0 0, .int .i64 7]) (by simp [results, Tryz.results11, go_sem]) rfl ⟨none, 0, ?_, ?_, HX2.out⟩
        · rw [FE.out, FW.out, F1.out, F2.out]; rfl
        · rw [FW.out, F2.out]; exact (NIL _).out
      | false =>
        have CS := Lib.hid hcs
        have HRE := Lib.hid (show readErr N s = if (wayOf N PP).contains (-1) = true then 6 else wayErr N (wayOf N PP) by unfold readErr; rw [if_neg H0.out, hPP, if_neg (fun h => by rw [show Lib.containsS PP ByteArray.empty = false from hcs] at h; cases h)])
        have HRW := Lib.hid (show readErr N s = 0 → readWay N s = wayOf N PP from fun h => by unfold readWay; rw [if_neg H0.out, if_pos h, hPP])
        have HRN := Lib.hid (show readErr N s ≠ 0 → readWay N s = [] from fun h => by unfold readWay; rw [if_neg H0.out, if_neg h])
        have HWL := Lib.hid (wayOf_len N PP)
        clear hcs
        refine (containsS_any PP _ _ _ _ HA2.out).mono ?_
        rintro e' w3 ⟨rfl, rfl⟩
        rw [CS.out]
        obtain ⟨i0, hi, hz0, hz1, hz2⟩ := info_parts Tryz.infoInt
        go_upto_region 8 with (at_make; refine wpList_make_full _ rfl (.tmp 26) (.tmp 26) 26 rfl _ 3 i0 (.int .i64 0) 1 Tryz.underlying26 hi hz0 hz1 .i64 .i64 PP.length PP.length PP.length rfl rfl rfl rfl (by rw [hz2]; omega) (by unfold maxLen; omega) (Nat.le_refl _) ?_)
        intro w4 hown hg2
        have HB4 : Hid (Below w2.heap.size w2 w4) := Lib.hid ⟨hg2.os, hg2.tape, hg2.output, hg2.size, fun k hk => hg2.block k hk (by simp)⟩
        have HR4 : Hid (RowV w4 w2.heap.size 3 (rowP (fun i => .int .i64 (roadNo N (listS PP i))) (.int .i64 0) PP.length 0)) := Lib.hid (by
          have := (RowV.of_own hown).1
          rw [toList_madeCells_one, ← rowP_zero] at this
          exact this)
        clear hown hg2
        go_wp2_with fail
        go_loopw [30] (fun i wr => ∃ k : Nat, k ≤ PP.length ∧ i = .int .i64 k ∧ Hid (RowV wr w2.heap.size 3 (rowP (fun i => .int .i64 (roadNo N (listS PP i))) (.int .i64 0) PP.length k)) ∧ Hid (Below w2.heap.size w2 wr)) (fun i _ => PP.length - (intOf i).toNat)
        case atStart => exact ⟨0, Nat.zero_le _, rfl, HR4, HB4⟩
        case round =>
          obtain ⟨k, hk, rfl, HR, HB⟩ := hrel
          have HX := Lib.hid (HX2.out.trans (HB.out.mono HX2.out.size))
          have BNr := Lib.hid (BN.out.keep (Keep.below HB.out))
          by_cases hlt : k < PP.length
          · have hkn : (k : Int) < (PP.length : Int) := by omega
            have cs := (HB.out.cell (p := ⟨w1.heap.size, k, none⟩) hlt2).trans ((HR2.out.cell k).trans (strVals_get hlt))
            have hgr : w2.heap.size < wr.heap.size := HR.out.lt
            have HBn := Lib.hid (HB.out.alloc HB.out.size (.cells #[.string (listS PP k)] 9))
            have HRn := Lib.hid (HR.out.alloc (.cells #[.string (listS PP k)] 9))
            have HGn := Lib.hid (cellNew wr #[.string (listS PP k)] 9 0)
            go_upto_region 11 with fail
            generalize wr.alloc _ = wn at *
            clear cs HR BNr
            have HXn := Lib.hid (HX2.out.trans (HBn.out.mono HX2.out.size))
            obtain ⟨n0, n1⟩ := BN.out.keep (Keep.below HBn.out)
            have HRD := Lib.hid (M.out.roads.keep (Keep.below HXn.out))
            have hck : (rowP (fun i => .int .i64 (roadNo N (listS PP i))) (.int .i64 0) PP.length k)[k]? = some (.int .i64 0) := by
              unfold rowP
              rw [List.getElem?_map, List.getElem?_range hlt]
              simp
            have HCK := Lib.hid hck
            clear hck
            go_wp2_with fail
            refine (roadIdx_any N R rc wr.heap.size ar (listS PP k) _ HRD.out HGn.out).mono ?_
            rintro e' w5 ⟨rfl, hb5⟩
            have HR5 := Lib.hid (HRn.out.keep hb5)
            have rc5 := (HR5.out.cell k).trans HCK.out
            have fr5 := HR5.out.frozen k
            go_wp2_with fail
            have HR6 : Hid (RowV (w5.setCell ⟨w2.heap.size, k, none⟩ (.int .i64 (roadNo N (listS PP k)))) w2.heap.size 3 (rowP (fun i => .int .i64 (roadNo N (listS PP i))) (.int .i64 0) PP.length (k + 1))) := Lib.hid (by
              rw [← rowP_set]
              exact HR5.out.set k _)
            have HB6 : Hid (Below w2.heap.size w2 (w5.setCell ⟨w2.heap.size, k, none⟩ (.int .i64 (roadNo N (listS PP k))))) := Lib.hid ((HBn.out.trans (hb5.mono HBn.out.size)).setCell (p := ⟨w2.heap.size, k, none⟩) (Nat.le_refl _) _)
            go_roundw
            case rel => exact ⟨k + 1, by omega, by go_num, HR6, HB6⟩
            case measure => simp [intOf]; omega
          · obtain rfl : k = PP.length := by omega
            have HAR : Hid (ArrI wr (some ⟨w2.heap.size, 0, none⟩) (wayOf N PP) PP.length) := Lib.hid (by
              refine RowV.arrI (t := 3) ?_ (by rw [HWL.out]; exact Nat.le_refl _) (by unfold maxLen; omega)
              rw [← rowP_full (f := fun i => .int .i64 (roadNo N (listS PP i))) (z := .int .i64 0) (n := PP.length) (xs := intVals (wayOf N PP)) (by unfold intVals; rw [List.length_map, HWL.out]) (fun i hi => by
                rw [intVals_at (by rw [HWL.out]; exact hi)]
                unfold wayOf
                rw [listI_of_map _ _ _ hi])]
              exact HR.out)
            clear HR hlt hk
            go_wp2_with fail
            refine (containsIN_any (wayOf N PP) PP.length _ _ (-1) _ HWL.out HAR.out).mono ?_
            rintro e' w6 ⟨rfl, rfl⟩
            cases hmi : (wayOf N PP).contains (-1) with
            | true =>
              have F1 := Lib.hid (HRE.out.trans (if_pos hmi))
              have F2 := Lib.hid (HRN.out (by rw [F1.out]; decide))
              clear hmi
              go_wp2_with fail
              refine bodyPost_ret (v := .tuple #[.slice none 0 0, .int .i64 6]) (by simp [results, Tryz.results11, go_sem]) rfl ⟨none, 0, ?_, ?_, HX.out⟩
              · rw [FE.out, FW.out, F1.out, F2.out]; rfl
              · rw [FW.out, F2.out]; exact (NIL _).out
            | false =>
              have F1 := Lib.hid (HRE.out.trans (if_neg (by rw [hmi]; decide)))
              have FC := Lib.hid (show cwErr N (wayOf N PP) = wayErr N (wayOf N PP) from if_pos HE.out)
              clear hmi
              obtain ⟨n0, n1⟩ := BNr.out
              go_wp2_with fail
              refine (errWayN_any N _ (wayOf N PP) PP.length _ _ _ HWL.out (hN0.out.keep (Keep.below HX.out)) HAR.out).mono ?_
              rintro e' w7 ⟨rfl, hb7⟩
              rw [FC.out]
              have HX7 := Lib.hid (HX.out.trans (hb7.mono HX.out.size))
              have HA7 := Lib.hid (HAR.out.keep (Keep.below hb7))
              by_cases hw : wayErr N (wayOf N PP) = 0
              · have HW0 := Lib.hid hw
                have F2 := Lib.hid (HRW.out (by rw [F1.out]; exact hw))
                rw [hw]
                clear hw hb7 n0 n1
                go_wp2_with fail
                refine bodyPost_ret (v := .tuple #[.slice (some ⟨w2.heap.size, 0, none⟩) PP.length PP.length, .int .i64 0]) (by simp [results, Tryz.results11, go_sem]) rfl ⟨some ⟨w2.heap.size, 0, none⟩, PP.length, ?_, ?_, HX7.out⟩
                · rw [FE.out, FW.out, F1.out, F2.out, HW0.out, HWL.out]
                · rw [FW.out, F2.out]; exact HA7.out
              · have F2 := Lib.hid (HRN.out (by rw [F1.out]; exact hw))
                have d1 : (wayErr N (wayOf N PP) != 0) = true := by simpa using hw
                clear hw hb7 n0 n1
                go_wp2_with fail
                refine bodyPost_ret (v := .tuple #[.slice none 0 0, .int .i64 (wayErr N (wayOf N PP))]) (by simp [results, Tryz.results11, go_sem]) rfl ⟨none, 0, ?_, ?_, HX7.out⟩
                · rw [FE.out, FW.out, F1.out, F2.out]; rfl
                · rw [FW.out, F2.out]; exact (NIL _).out
  · have d1 : (netErr N != 0) = true := by simpa using he
    have F1 := Lib.hid (show pwErr N s = netErr N from if_neg he)
    have F2 := Lib.hid (show pwWay N s = [] from if_neg he)
    clear he
    go_wp2_with fail
    refine bodyPost_ret (v := .tuple #[.slice none 0 0, .int .i64 (netErr N)]) (by simp [results, Tryz.results11, go_sem]) rfl ⟨none, 0, ?_, ?_, HW.out⟩
    · rw [F1.out, F2.out]; rfl
    · rw [F2.out]; exact (NIL _).out
end Go.Proofs.YtndhpdjcpagghaaGreatDoor
/- The reference's texts of ways. Conditions: the net is right; texts are shorter than 2^32 bytes. -/
namespace Go.Proofs.YtndhpdjcpagghaaGreatDoor
open Go.RowKit Fs

theorem join_snoc (b : UInt8) : ∀ {P : List (List UInt8)} (y : List UInt8), P ≠ [] → Lib.join (P ++ [y]) [b] = Lib.join P [b] ++ [b] ++ y
  | [], _, h => absurd rfl h
  | x :: r, y, _ => by
    rw [List.cons_append, Lib.join_cons, Lib.join_cons]
    simp [Lib.joinTail, List.append_assoc]
theorem joinB_one (b : UInt8) (x : ByteArray) : joinB b [x] = x := by
  unfold joinB
  rw [List.map_cons, List.map_nil, Lib.join_one, Lib.mk_data]
theorem joinB_snoc (b : UInt8) {P : List ByteArray} (y : ByteArray) (h : P ≠ []) : joinB b (P ++ [y]) = joinB b P ++ ⟨#[b]⟩ ++ y := by
  apply ByteArray.ext
  apply Array.toList_inj.1
  unfold joinB
  rw [List.map_append, List.map_cons, List.map_nil, join_snoc b _ (by simpa using h)]
  simp [ByteArray.append_eq, ByteArray.data_append]
/-- The text of the first k roads. -/
def Fs.textTo (N : Net) (l : List Int) (k : Nat) : ByteArray := joinB 32 ((wayNames N l).take k)
theorem Fs.textTo_first {N : Net} {l : List Int} (h : 0 < l.length) : textTo N l 1 = (listD N.roads (listI l 0).toNat).name := by
  unfold textTo
  have hl : 0 < (wayNames N l).length := by rw [wayNames_len]; exact h
  rw [List.take_add_one, List.take_zero, listS_get hl, List.nil_append]
  show joinB 32 [_] = _
  rw [joinB_one]
  exact listS_map l _ 0 h
theorem Fs.textTo_next {N : Net} {l : List Int} {k : Nat} (h0 : 0 < k) (h : k < l.length) : textTo N l (k + 1) = textTo N l k ++ ⟨#[32]⟩ ++ (listD N.roads (listI l k).toNat).name := by
  unfold textTo
  have hl : k < (wayNames N l).length := by rw [wayNames_len]; exact h
  rw [List.take_add_one, listS_get hl]
  show joinB 32 ((wayNames N l).take k ++ [_]) = _
  rw [joinB_snoc 32 _ (by
    intro e
    have := congrArg List.length e
    rw [List.length_take, wayNames_len, List.length_nil] at this
    omega)]
  rw [show listS (wayNames N l) k = (listD N.roads (listI l k).toNat).name from listS_map l _ k h]
theorem Fs.textTo_all (N : Net) (l : List Int) : textTo N l l.length = wayText N l := by
  unfold textTo
  rw [List.take_of_length_le (by rw [wayNames_len]; exact Nat.le_refl _)]
  rfl
theorem Fs.textTo_size {N : Net} {l : List Int} (hN : netErr N = 0) (hl : wayErr N l = 0) : ∀ k, k ≤ l.length → (textTo N l k).size ≤ 2600 := fun k hk => by
  have h1 := joinB_size (b := 32) (P := (wayNames N l).take k) fun p hp => (name_size (way_names hN hl p (List.mem_of_mem_take hp))).2
  have := (way_ok hl).1
  rw [List.length_take, wayNames_len] at h1
  show (joinB 32 ((wayNames N l).take k)).size ≤ 2600
  omega
-- WALK
set_option maxHeartbeats 3200000 in
set_option maxRecDepth 100000 in
theorem rFormatWay_any (N : Net) (v : Value) (l : List Int) (A : Option Addr) (c : Nat) (w : World) (hN : RdNet w v N) (h : ArrI w A l c) (hE : netErr N = 0) (hl : wayErr N l = 0) :
    Calls Tryz.prog 16 #[v, .slice A l.length c] w fun e w' => e = .returned (.string (wayText N l)) ∧ Below w.heap.size w w' := by
  have hN0 := Lib.hid hN
  obtain ⟨P, R, pc, rc, ar, rfl, m⟩ := hN
  have M := Lib.hid m
  have rb1 := m.roads.le.1
  have rb2 := m.roads.le.2
  clear m
  have b1 := h.le.1
  have b2 := h.le.2
  have HA := Lib.hid h
  clear h
  have hlen := (way_ok hl).1
  have HIN := Lib.hid fun j hj => ((way_ok hl).2 j hj).1
  have HTS := Lib.hid (textTo_size hE hl)
  have HNS := Lib.hid (fun i (hi : i < N.roads.length) => (name_size (road_named hE hi).1).2)
  clear hl
  have BN := Lib.hid (BoxN.new w N P R pc rc 25)
  go_enter Tryz.func16, Tryz.ntmps16
  go_upto_region 1 with fail
  generalize hwb : w.alloc _ = wb at *
  have HW : Hid (Below w.heap.size w wb) := by rw [← hwb]; exact Lib.hid ((Below.refl _ _).alloc (Nat.le_refl _) _)
  clear hwb
  go_wp2_with fail
  go_loopw [5, 6] (fun u i wr => ∃ k : Nat, k ≤ l.length ∧ u = .string (textTo N l k) ∧ i = .int .i64 k ∧ Hid (Below wb.heap.size wb wr)) (fun _ i _ => l.length - (intOf i).toNat)
  case atStart => exact ⟨0, Nat.zero_le _, rfl, rfl, Lib.hid (Below.refl _ _)⟩
  case round =>
    obtain ⟨k, hk, rfl, rfl, HB⟩ := hrel
    have HX := Lib.hid (HW.out.trans (HB.out.mono HW.out.size))
    by_cases hlt : k < l.length
    · have hkn : (k : Int) < (l.length : Int) := by omega
      obtain ⟨z, hz⟩ : ∃ z : Nat, listI l k = z := ⟨_, (Int.toNat_of_nonneg (HIN.out k hlt).1).symm⟩
      have hzl : z < N.roads.length := by have := (HIN.out k hlt).2; omega
      have hzn : (z : Int) < (N.roads.length : Int) := by omega
      obtain ⟨ba, oa, rfl, ca⟩ := (HA.out.keep (Keep.below HX.out)).at_ hlt
      rw [hz] at ca
      obtain ⟨b, o, rfl, q⟩ := (M.out.roads.keep (Keep.below HX.out)).at_ hzl
      have q0 := q.c0
      obtain ⟨n0, n1⟩ := BN.out.keep (Keep.below HB.out)
      clear q
      have s1 := HTS.out k (by omega)
      have s2 := HNS.out z hzl
      by_cases h0 : k = 0
      · subst h0
        have F := Lib.hid (show textTo N l (0 + 1) = textTo N l 0 ++ (listD N.roads z).name by
          rw [textTo_first hlt, hz, Int.toNat_natCast]
          apply ByteArray.ext
          rw [ByteArray.data_append]
          show _ = #[] ++ (listD N.roads z).name.data
          simp)
        clear hz
        have s4 : ¬ 9223372036854775807 < (textTo N l 0).size + (listD N.roads z).name.size := by omega
        rw [Nat.add_zero] at ca
        go_wp2_with fail
        obtain ⟨C, Ci, Co⟩ := classOf wr
        refine quietC (C := C) (by kernel_rfl) (by kernel_rfl) (Co.out _ (Below.refl _ _).drew) ?_
        repeat (first
          | go_big_quiet_skip
          | (go_big_quiet_want; go_big_quiet_op; go_big_quiet_on)
          | (refine quiet_yes (by rfl) ?_
             apply Exists.intro
             refine ⟨fun w' hC => ?_, ?_⟩
             · have hbb := Ci.out _ hC
               have zz0 := Keep.below hbb _ _ n0
               have zz1 := Keep.below hbb _ _ n1
               have zz2 := Keep.below hbb _ _ ca
               have zz3 := Keep.below hbb _ _ q0
               go_simp
               try go_bits
               first
                 | done
                 | rfl
                 | (rw [if_neg]
                    · exact ⟨rfl, rfl⟩
                    · have e0 : (⟨#[32]⟩ : ByteArray).size = 1 := rfl
                      first
                        | exact s4
                        | omega
                        | (simp; omega))
             simp only [Act.put, List.setIfInBounds_toArray, List.set_cons_zero, List.set_cons_succ]))
        refine wpQuiet_nil ?_
        intro wE hC1
        have HQ := Lib.hid (Ci.out _ hC1)
        go_wp2_with fail
        rw [← F.out]
        go_roundw
        case rel => exact ⟨_, by omega, rfl, by go_num, Lib.hid (HB.out.trans (HQ.out.mono HB.out.size))⟩
        case measure => simp [intOf]; omega
      · have F := Lib.hid (show textTo N l (k + 1) = textTo N l k ++ ⟨#[32]⟩ ++ (listD N.roads z).name by
          rw [textTo_next (by omega) hlt, hz, Int.toNat_natCast])
        have s3 : (textTo N l k ++ ⟨#[32]⟩).size ≤ 2601 := by
          rw [ByteArray.size_append]
          show (textTo N l k).size + 1 ≤ 2601
          omega
        have s4 : ¬ 9223372036854775807 < (textTo N l k ++ ⟨#[32]⟩).size + (listD N.roads z).name.size := by omega
        have d1 : decide ((k : Int) > 0) = true := decide_eq_true (by omega)
        have d2 : decide (0 < (k : Int)) = true := decide_eq_true (by omega)
        clear hz
        go_wp2_with fail
        obtain ⟨C, Ci, Co⟩ := classOf wr
        refine quietC (C := C) (by kernel_rfl) (by kernel_rfl) (Co.out _ (Below.refl _ _).drew) ?_
        repeat (first
          | go_big_quiet_skip
          | (go_big_quiet_want; go_big_quiet_op; go_big_quiet_on)
          | (refine quiet_yes (by rfl) ?_
             apply Exists.intro
             refine ⟨fun w' hC => ?_, ?_⟩
             · have hbb := Ci.out _ hC
               have zz0 := Keep.below hbb _ _ n0
               have zz1 := Keep.below hbb _ _ n1
               have zz2 := Keep.below hbb _ _ ca
               have zz3 := Keep.below hbb _ _ q0
               go_simp
               try go_bits
               first
                 | done
                 | rfl
                 | (rw [if_neg]
                    · exact ⟨rfl, rfl⟩
                    · have e0 : (⟨#[32]⟩ : ByteArray).size = 1 := rfl
                      first
                        | exact s4
                        | omega
                        | (simp; omega))
             simp only [Act.put, List.setIfInBounds_toArray, List.set_cons_zero, List.set_cons_succ]))
        refine wpQuiet_nil ?_
        intro wE hC1
        have HQ := Lib.hid (Ci.out _ hC1)
        go_wp2_with fail
        rw [← F.out]
        go_roundw
        case rel => exact ⟨_, by omega, rfl, by go_num, Lib.hid (HB.out.trans (HQ.out.mono HB.out.size))⟩
        case measure => simp [intOf]; omega
    · obtain rfl : k = l.length := by omega
      have F := Lib.hid (textTo_all N l)
      go_wp2_with fail
      go_ret
      exact ⟨congrArg (fun x => Ending.returned (.string x)) F.out, HX.out⟩
end Go.Proofs.YtndhpdjcpagghaaGreatDoor
/- The reference's reading of a way's text. Conditions: the net is right; the text is shorter than 2^32 bytes. -/
namespace Go.Proofs.YtndhpdjcpagghaaGreatDoor
open Go.RowKit Fs

/-- The last of the first k roads with a name, or -1. -/
def Fs.lastTo (N : Net) (x : ByteArray) : Nat → Int
  | 0 => -1
  | k + 1 => if (listD N.roads k).name = x then (k : Int) else lastTo N x k
theorem Fs.lastTo_none {N : Net} {x : ByteArray} : ∀ {k : Nat}, (∀ j, j < k → (listD N.roads j).name ≠ x) → lastTo N x k = -1
  | 0, _ => rfl
  | k + 1, h => by
    rw [lastTo, if_neg (h k (Nat.lt_succ_self k))]
    exact lastTo_none fun j hj => h j (by omega)
theorem Fs.lastTo_hit {N : Net} (hN : netErr N = 0) {i : Nat} (hi : i < N.roads.length) : ∀ {k : Nat}, i < k → k ≤ N.roads.length → lastTo N (listD N.roads i).name k = i
  | 0, h, _ => absurd h (Nat.not_lt_zero _)
  | k + 1, h, hk => by
    rw [lastTo]
    by_cases e : (listD N.roads k).name = (listD N.roads i).name
    · rw [if_pos e, roads_differ hN (by omega) hi e]
    · rw [if_neg e]
      have : i ≠ k := fun h2 => e (by rw [h2])
      exact lastTo_hit hN hi (by omega) (by omega)
theorem Fs.lastTo_all {N : Net} (hN : netErr N = 0) (x : ByteArray) : lastTo N x N.roads.length = roadNo N x := by
  by_cases h : ∃ i, i < N.roads.length ∧ (listD N.roads i).name = x
  · obtain ⟨i, hi, rfl⟩ := h
    rw [lastTo_hit hN hi hi (Nat.le_refl _), roadNo_of hN hi]
  · have h2 : ∀ j, j < N.roads.length → (listD N.roads j).name ≠ x := fun j hj e => h ⟨j, hj, e⟩
    rw [lastTo_none h2, roadNo_none h2]
theorem Fs.lastTo_is (N : Net) (x : ByteArray) : ∀ k, -1 ≤ lastTo N x k ∧ lastTo N x k < k
  | 0 => ⟨Int.le_refl _, by show (-1 : Int) < 0; decide⟩
  | k + 1 => by
    have := lastTo_is N x k
    rw [lastTo]
    split <;> omega
theorem bcut32_any (s : ByteArray) (w : World) (hs : s.size < 4294967281) :
    Calls Tryz.prog 37 #[.string s, .int .u8 32] w fun e w' => ∃ A c, e = .returned (.slice A (cutB 32 s).length c) ∧ ArrS w' A (cutB 32 s) c ∧ Below w.heap.size w w' := bcut_any s 32 w hs
theorem Fs.hasText_contains (P : List ByteArray) (x : ByteArray) : hasText (listS P) P.length x = Lib.containsS P x := by
  cases h : Lib.containsS P x with
  | true =>
    obtain ⟨k, hk, e⟩ := mem_listS ((Lib.containsS_iff P x).1 h)
    exact hasText_yes hk e
  | false =>
    refine hasText_no fun j hj e => ?_
    have := (Lib.containsS_iff P x).2 (e ▸ listS_mem hj)
    rw [h] at this
    cases this
theorem Fs.wayOf_take (N : Net) {P : List ByteArray} {k : Nat} (h : k < P.length) : wayOf N (P.take (k + 1)) = wayOf N (P.take k) ++ [roadNo N (listS P k)] := by
  unfold wayOf
  rw [List.take_add_one, listS_get h, List.map_append]
  rfl

set_option maxHeartbeats 6400000 in
set_option maxRecDepth 100000 in
theorem rParseWay_any (N : Net) (v : Value) (s : ByteArray) (w : World) (hN : RdNet w v N) (hE : netErr N = 0) (hs : s.size < 4294967281) :
    Calls Tryz.prog 13 #[v, .string s] w fun e w' => ∃ A c, e = .returned (.tuple #[.slice A (readWay N s).length c, .int .i64 (readErr N s)]) ∧ ArrI w' A (readWay N s) c ∧ Below w.heap.size w w' := by
  have hN0 := Lib.hid hN
  obtain ⟨P, R, pc, rc, ar, rfl, m⟩ := hN
  have M := Lib.hid m
  have rb1 := m.roads.le.1
  have rb2 := m.roads.le.2
  clear m
  have HE := Lib.hid hE
  clear hE
  have BN := Lib.hid (BoxN.new w N P R pc rc 25)
  have NIL : ∀ w' : World, Hid (ArrI w' none [] 0) := fun w' => Lib.hid ⟨Nat.le_refl _, by decide, fun hh => absurd hh (by decide)⟩
  go_enter Tryz.func13, Tryz.ntmps13
  go_upto_region 1 with fail
  generalize hwb : w.alloc _ = wb at *
  have HW : Hid (Below w.heap.size w wb) := by rw [← hwb]; exact Lib.hid ((Below.refl _ _).alloc (Nat.le_refl _) _)
  clear hwb
  by_cases h0 : s.size = 0
  · have F1 := Lib.hid (show readErr N s = 0 from if_pos h0)
    have F2 := Lib.hid (show readWay N s = [] from if_pos h0)
    obtain rfl : s = ⟨#[]⟩ := ByteArray.ext (Array.eq_empty_of_size_eq_zero h0)
    clear h0
    obtain ⟨n0, n1⟩ := BN.out
    go_wp2_with fail
    refine (rWayErr_any N _ [] none 0 _ (hN0.out.keep (Keep.below HW.out)) (NIL _).out).mono ?_
    rintro e' w1 ⟨rfl, hb1⟩
    rw [wayErr_nil]
    replace HW := Lib.hid (HW.out.trans (hb1.mono HW.out.size))
    clear hb1 n0 n1
    go_wp2_with fail
    refine bodyPost_ret (v := .tuple #[.slice none 0 0, .int .i64 0]) (by simp [results, Tryz.results13, go_sem]) rfl ⟨none, 0, ?_, ?_, HW.out⟩
    · rw [F1.out, F2.out]; rfl
    · rw [F2.out]; exact (NIL _).out
  · have hse : s.toList.isEmpty = false := by
      rw [Lib.toList_data]
      cases h : s.data.toList with
      | nil => exact absurd (by have := Lib.size_eq s; rw [h] at this; exact this) h0
      | cons _ _ => rfl
    have hpl := (cutB_short 32 s).2
    have H0 := Lib.hid h0
    clear h0
    go_wp2_with fail
    refine (bcut32_any s _ hs).mono ?_
    rintro e' w2 ⟨A2, c2, rfl, ha2, hb2⟩
    have HA2 := Lib.hid ha2
    have a1 := ha2.le.1
    have a2 := ha2.le.2
    replace BN := Lib.hid (BN.out.keep (Keep.below hb2))
    replace HW := Lib.hid (HW.out.trans (hb2.mono HW.out.size))
    clear hb2 ha2
    generalize hPP : cutB 32 s = PP at *
    go_wp2_with fail
    refine (hasText_any PP A2 c2 PP.length ⟨#[]⟩ _ HA2.out (Nat.le_refl _)).mono ?_
    rintro e' w3 ⟨rfl, rfl⟩
    rw [hasText_contains]
    cases hcs : Lib.containsS PP ⟨#[]⟩ with
    | true =>
      have F1 := Lib.hid (show readErr N s = 7 by unfold readErr; rw [if_neg H0.out, hPP]; exact if_pos hcs)
      have F2 := Lib.hid (show readWay N s = [] by unfold readWay; rw [if_neg H0.out, if_neg (by rw [F1.out]; decide)])
      clear hcs
      go_wp2_with fail
      refine bodyPost_ret (v := .tuple #[.slice none 0 0, .int .i64 7]) (by simp [results, Tryz.results13, go_sem]) rfl ⟨none, 0, ?_, ?_, HW.out⟩
      · rw [F1.out, F2.out]; rfl
      · rw [F2.out]; exact (NIL _).out
    | false =>
      have HRE := Lib.hid (show readErr N s = if (wayOf N PP).contains (-1) = true then 6 else wayErr N (wayOf N PP) by unfold readErr; rw [if_neg H0.out, hPP, if_neg (fun h => by rw [show Lib.containsS PP ByteArray.empty = false from hcs] at h; cases h)])
      have HRW := Lib.hid (show readErr N s = 0 → readWay N s = wayOf N PP from fun h => by unfold readWay; rw [if_neg H0.out, if_pos h, hPP])
      have HRN := Lib.hid (show readErr N s ≠ 0 → readWay N s = [] from fun h => by unfold readWay; rw [if_neg H0.out, if_neg h])
      clear hcs
      obtain ⟨i0, hi, hz0, hz1, hz2⟩ := info_parts Tryz.infoInt
      go_wp2_with fail
      go_loopw [6, 8] (fun u i wr => ∃ k : Nat, k ≤ PP.length ∧ i = .int .i64 k ∧ Hid (wr.ownsRow w2.heap.size 3 1 u (wayOf N (PP.take k)).length (intVals (wayOf N (PP.take k)))) ∧ Hid (∀ j, j < k → roadNo N (listS PP j) ≠ -1) ∧ Hid (Below w2.heap.size w2 wr)) (fun _ i _ => PP.length - (intOf i).toNat)
      case atStart => exact ⟨0, Nat.zero_le _, rfl, Lib.hid (World.ownsRow_nil _ _ _ _), Lib.hid fun j hj => absurd hj (Nat.not_lt_zero _), Lib.hid (Below.refl _ _)⟩
      case round =>
        obtain ⟨k, hk, rfl, HO, HN, HB⟩ := hrel
        have HX := Lib.hid (HW.out.trans (HB.out.mono HW.out.size))
        have hws : w2.heap.size ≤ wr.heap.size := HB.out.size
        by_cases hlt : k < PP.length
        · have hkn : (k : Int) < (PP.length : Int) := by omega
          have HKN := Lib.hid hkn
          have hto : (wayOf N (PP.take k)).length ≤ 4294967282 := by rw [wayOf_len, List.length_take]; omega
          go_wp2_with fail
          go_loopw [9, 10] (fun u i wi => ∃ j : Nat, j ≤ N.roads.length ∧ u = .int .i64 (lastTo N (listS PP k) j) ∧ i = .int .i64 j ∧ Hid (Below wr.heap.size wr wi)) (fun _ i _ => N.roads.length - (intOf i).toNat)
          case atStart => exact ⟨0, Nat.zero_le _, rfl, rfl, Lib.hid (Below.refl _ _)⟩
          case round =>
            obtain ⟨j, hj, rfl, rfl, HBi⟩ := hrel
            rename World => wi
            have HXi := Lib.hid (HX.out.trans (HBi.out.mono HX.out.size))
            obtain ⟨n0, n1⟩ := (BN.out.keep (Keep.below HB.out)).keep (Keep.below HBi.out)
            have hkn := HKN.out
            by_cases hjl : j < N.roads.length
            · have hjn : (j : Int) < (N.roads.length : Int) := by omega
              obtain ⟨b, o, rfl, q⟩ := (M.out.roads.keep (Keep.below HXi.out)).at_ hjl
              have q0 := q.c0
              obtain ⟨ba, oa, rfl, ca⟩ := ((HA2.out.keep (Keep.below HB.out)).keep (Keep.below HBi.out)).at_ hlt
              clear q
              by_cases e : (listD N.roads j).name = listS PP k
              · have F := Lib.hid (show lastTo N (listS PP k) (j + 1) = (j : Int) from if_pos e)
                have e1 := str_eq e
                clear e
                go_wp2_with fail
                obtain ⟨C, Ci, Co⟩ := classOf wi
                refine quietC (C := C) (by kernel_rfl) (by kernel_rfl) (Co.out _ (Below.refl _ _).drew) ?_
                repeat (first
                  | go_big_quiet_skip
                  | (go_big_quiet_want; go_big_quiet_op; go_big_quiet_on)
                  | (refine quiet_yes (by rfl) ?_
                     apply Exists.intro
                     refine ⟨fun w' hC => ?_, ?_⟩
                     · have hbb := Ci.out _ hC
                       have zz0 := Keep.below hbb _ _ n0
                       have zz1 := Keep.below hbb _ _ n1
                       have zz2 := Keep.below hbb _ _ ca
                       have zz3 := Keep.below hbb _ _ q0
                       go_simp
                       first
                         | done
                         | rfl
                         | (fail)
                     simp only [Act.put, List.setIfInBounds_toArray, List.set_cons_zero, List.set_cons_succ]))
                refine wpQuiet_nil ?_
                intro wE hC1
                have HQ := Lib.hid (Ci.out _ hC1)
                go_wp2_with fail
                go_roundw
                case rel => exact ⟨j + 1, by omega, by rw [F.out], by go_num, Lib.hid (HBi.out.trans (HQ.out.mono HBi.out.size))⟩
                case measure => simp [intOf]; omega
              · have F := Lib.hid (show lastTo N (listS PP k) (j + 1) = lastTo N (listS PP k) j from if_neg e)
                have e1 := str_ne e
                clear e
                go_wp2_with fail
                obtain ⟨C, Ci, Co⟩ := classOf wi
                refine quietC (C := C) (by kernel_rfl) (by kernel_rfl) (Co.out _ (Below.refl _ _).drew) ?_
                repeat (first
                  | go_big_quiet_skip
                  | (go_big_quiet_want; go_big_quiet_op; go_big_quiet_on)
                  | (refine quiet_yes (by rfl) ?_
                     apply Exists.intro
                     refine ⟨fun w' hC => ?_, ?_⟩
                     · have hbb := Ci.out _ hC
                       have zz0 := Keep.below hbb _ _ n0
                       have zz1 := Keep.below hbb _ _ n1
                       have zz2 := Keep.below hbb _ _ ca
                       have zz3 := Keep.below hbb _ _ q0
                       go_simp
                       first
                         | done
                         | rfl
                         | (fail)
                     simp only [Act.put, List.setIfInBounds_toArray, List.set_cons_zero, List.set_cons_succ]))
                refine wpQuiet_nil ?_
                intro wE hC1
                have HQ := Lib.hid (Ci.out _ hC1)
                go_wp2_with fail
                go_roundw
                case rel => exact ⟨j + 1, by omega, by rw [F.out], by go_num, Lib.hid (HBi.out.trans (HQ.out.mono HBi.out.size))⟩
                case measure => simp [intOf]; omega
            · obtain rfl : j = N.roads.length := by omega
              have FA := Lib.hid (lastTo_all HE.out (listS PP k))
              have hr := roadNo_ge N (listS PP k)
              rw [FA.out]
              clear hj hjl
              by_cases hz : roadNo N (listS PP k) = -1
              · have hci : (wayOf N PP).contains (-1) = true := by
                  rw [List.contains_iff_mem]
                  rw [← hz]
                  exact List.mem_map_of_mem (listS_mem hlt)
                have F1 := Lib.hid (HRE.out.trans (if_pos hci))
                have F2 := Lib.hid (HRN.out (by rw [F1.out]; decide))
                rw [hz]
                clear hz hci hr
                go_wp2_with fail
                refine bodyPost_ret (v := .tuple #[.slice none 0 0, .int .i64 6]) (by simp [results, Tryz.results13, go_sem]) rfl ⟨none, 0, ?_, ?_, HXi.out⟩
                · rw [F1.out, F2.out]; rfl
                · rw [F2.out]; exact (NIL _).out
              · have d1 : decide (roadNo N (listS PP k) < 0) = false := decide_eq_false (by omega)
                have F := Lib.hid (wayOf_take N hlt)
                have G : Hid (∀ j, j < k + 1 → roadNo N (listS PP j) ≠ -1) := Lib.hid fun j hj => by
                  by_cases e : j = k
                  · subst e; exact hz
                  · exact HN.out j (by omega)
                have HOi := Lib.hid (below_of_own HO.out HBi.out)
                have HBB := Lib.hid (HB.out.trans (HBi.out.mono hws))
                have hwi : w2.heap.size ≤ wi.heap.size := HBB.out.size
                clear hz hr HN HO
                go_wp2_with (at_builtin; refine wpList_append_own _ rfl (.tmp 46) (.tmp 48) 26 rfl w2.heap.size 3 i0 (.int .i64 0) 1 8 Tryz.underlying26 hi hz0 hz1 hz2 rfl (by decide) _ _ _ rfl (HOi.out.alloc _) ⟨wi.heap.size, 0, none⟩ 1 1 [.int .i64 (roadNo N (listS PP k))] rfl rfl ?c1 ?c2 ?c3 ?c4 ?c5 ?_)
                case c1 => exact news0 _ _ _
                case c2 => exact oneInt _
                case c3 => unfold maxLen; omega
                case c4 => omega
                case c5 => simp; omega
                intro v3 w3 hown3 hg3 _
                have HB3 := Lib.hid ((HBB.out.alloc hwi _).grown hg3 (by simp; omega) (fun j hj => (HOi.out.lt j hj).1))
                have HO3 : Hid (w3.ownsRow w2.heap.size 3 1 v3 (wayOf N (PP.take (k + 1))).length (intVals (wayOf N (PP.take (k + 1))))) := by
                  rw [F.out, intVals_snoc, List.length_append]
                  exact Lib.hid hown3
                clear hown3 hg3 HOi
                go_wp2_with fail
                go_roundw
                case rel => exact ⟨k + 1, by omega, by go_num, HO3, G, HB3⟩
                case measure => simp [intOf]; omega
        · obtain rfl : k = PP.length := by omega
          have hci : ¬ (wayOf N PP).contains (-1) = true := fun h => by
            rw [List.contains_iff_mem] at h
            obtain ⟨x, hx, e⟩ := List.mem_map.1 h
            obtain ⟨j, hj, rfl⟩ := mem_listS hx
            exact HN.out j hj e
          have F1 := Lib.hid (HRE.out.trans (if_neg hci))
          rw [List.take_length] at HO
          obtain ⟨A, c, hv, harr⟩ := own_arr HO.out
          subst hv
          have HAR := Lib.hid harr
          obtain ⟨n0, n1⟩ := BN.out.keep (Keep.below HB.out)
          clear harr HO HN hci hlt hk
          go_wp2_with fail
          refine (rWayErr_any N _ (wayOf N PP) A c _ (hN0.out.keep (Keep.below HX.out)) HAR.out).mono ?_
          rintro e' w7 ⟨rfl, hb7⟩
          have HX7 := Lib.hid (HX.out.trans (hb7.mono HX.out.size))
          have HA7 := Lib.hid (HAR.out.keep (Keep.below hb7))
          by_cases hw : wayErr N (wayOf N PP) = 0
          · have HW0 := Lib.hid hw
            have F2 := Lib.hid (HRW.out (by rw [F1.out]; exact hw))
            rw [hw]
            clear hw hb7 n0 n1
            go_wp2_with fail
            refine bodyPost_ret (v := .tuple #[.slice A (wayOf N PP).length c, .int .i64 0]) (by simp [results, Tryz.results13, go_sem]) rfl ⟨A, c, ?_, ?_, HX7.out⟩
            · rw [F1.out, F2.out, HW0.out]
            · rw [F2.out]; exact HA7.out
          · have F2 := Lib.hid (HRN.out (by rw [F1.out]; exact hw))
            have d1 : (wayErr N (wayOf N PP) != 0) = true := by simpa using hw
            clear hw hb7 n0 n1
            go_wp2_with fail
            refine bodyPost_ret (v := .tuple #[.slice none 0 0, .int .i64 (wayErr N (wayOf N PP))]) (by simp [results, Tryz.results13, go_sem]) rfl ⟨none, 0, ?_, ?_, HX7.out⟩
            · rw [F1.out, F2.out]; rfl
            · rw [F2.out]; exact (NIL _).out
end Go.Proofs.YtndhpdjcpagghaaGreatDoor
/- The law of ways' texts: a way's text, and the way with any text, are as specified; a right way is read back. No condition. -/
namespace Go.Proofs.YtndhpdjcpagghaaGreatDoor
open Go.RowKit Fs

set_option maxHeartbeats 12800000 in
set_option maxRecDepth 100000 in
theorem lawXL_any (N : Net) (v : Value) (l : List Int) (A : Option Addr) (c : Nat) (s : ByteArray) (w : World) (hN : RdNet w v N) (hA : ArrI w A l c) :
    Calls Tryz.prog 3 #[v, .slice A l.length c, .string s] w fun e w' => e = .returned (.bool true) ∧ Below w.heap.size w w' := by
  have hN0 := Lib.hid hN
  obtain ⟨P, R, pc, rc, ar, rfl, mm⟩ := hN
  clear mm
  have HA := Lib.hid hA
  clear hA
  have BN := Lib.hid (BoxN.new w N P R pc rc 25)
  go_enter Tryz.func3, Tryz.ntmps3
  go_upto_region 1 with fail
  generalize hwb : w.alloc _ = wb at *
  have HW : Hid (Below w.heap.size w wb) := by rw [← hwb]; exact Lib.hid ((Below.refl _ _).alloc (Nat.le_refl _) _)
  clear hwb
  obtain ⟨n0, n1⟩ := BN.out
  go_wp2_with fail
  refine (awake_any _).mono ?_
  rintro e' w1 ⟨rfl, hb1⟩
  replace HW := Lib.hid (HW.out.trans (hb1.mono HW.out.size))
  replace BN := Lib.hid (BN.out.keep (Keep.below hb1))
  clear n0 n1
  clear hb1
  obtain ⟨n0, n1⟩ := BN.out
  go_wp2_with fail
  refine (few_any N _ _ (hN0.out.keep (Keep.below HW.out))).mono ?_
  rintro e' w2 ⟨rfl, hb1⟩
  replace HW := Lib.hid (HW.out.trans (hb1.mono HW.out.size))
  replace BN := Lib.hid (BN.out.keep (Keep.below hb1))
  clear n0 n1
  clear hb1
  cases hf : fewN N with
  | false =>
    go_wp2_with fail
    go_ret
    exact ⟨rfl, HW.out⟩
  | true =>
    have HL := Lib.hid (few_lens hf)
    clear hf
    obtain ⟨n0, n1⟩ := BN.out
    go_wp2_with fail
    refine (short_any l A c _ (HA.out.keep (Keep.below HW.out))).mono ?_
    rintro e' w3 ⟨rfl, rfl⟩
    clear n0 n1
    cases hs : shortL l.length with
    | false =>
      go_wp2_with fail
      go_ret
      exact ⟨rfl, HW.out⟩
    | true =>
      have hlen := shortL_le hs
      clear hs
      by_cases h100 : 100 < s.size
      · have z1 : decide (100 < (s.size : Int)) = true := decide_eq_true (by omega)
        have z2 : decide ((s.size : Int) > 100) = true := decide_eq_true (by omega)
        clear h100
        go_wp2_with fail
        go_ret
        exact ⟨rfl, HW.out⟩
      · have z1 : decide (100 < (s.size : Int)) = false := decide_eq_false (by omega)
        have z2 : decide ((s.size : Int) > 100) = false := decide_eq_false (by omega)
        have hsz : s.size < 4294967281 := by omega
        clear h100
        obtain ⟨n0, n1⟩ := BN.out
        go_wp2_with fail
        refine (copyNet_any N _ _ (hN0.out.keep (Keep.below HW.out)) HL.out.1 HL.out.2.1 HL.out.2.2).mono ?_
        rintro e' wa1 ⟨va1, rfl, h3, hb1⟩
        replace HW := Lib.hid (HW.out.trans (hb1.mono HW.out.size))
        replace BN := Lib.hid (BN.out.keep (Keep.below hb1))
        have HC1 := Lib.hid h3
        clear h3
        clear n0 n1
        clear hb1
        obtain ⟨n0, n1⟩ := BN.out
        go_wp2_with fail
        refine (copyInts_any l A c _ (HA.out.keep (Keep.below HW.out)) (by omega)).mono ?_
        rintro e' wi1 ⟨A1, c1, rfl, h3, -, hb1⟩
        replace HW := Lib.hid (HW.out.trans (hb1.mono HW.out.size))
        replace BN := Lib.hid (BN.out.keep (Keep.below hb1))
        replace HC1 := Lib.hid (HC1.out.keep (Keep.below hb1))
        have HI1 := Lib.hid h3
        clear h3
        clear n0 n1
        clear hb1
        obtain ⟨n0, n1⟩ := BN.out
        go_wp2_with fail
        refine (formatWay_any N _ l A1 c1 _ HC1.out HI1.out).mono ?_
        rintro e' w4 ⟨rfl, hb1⟩
        replace HW := Lib.hid (HW.out.trans (hb1.mono HW.out.size))
        replace BN := Lib.hid (BN.out.keep (Keep.below hb1))
        clear HC1 HI1
        clear n0 n1
        clear hb1
        obtain ⟨n0, n1⟩ := BN.out
        go_wp2_with fail
        refine (copyNet_any N _ _ (hN0.out.keep (Keep.below HW.out)) HL.out.1 HL.out.2.1 HL.out.2.2).mono ?_
        rintro e' wa2 ⟨va2, rfl, h3, hb1⟩
        replace HW := Lib.hid (HW.out.trans (hb1.mono HW.out.size))
        replace BN := Lib.hid (BN.out.keep (Keep.below hb1))
        have HC2 := Lib.hid h3
        clear h3
        clear n0 n1
        clear hb1
        obtain ⟨n0, n1⟩ := BN.out
        go_wp2_with fail
        refine (parseWay_any N _ s _ HC2.out hsz).mono ?_
        rintro e' w5 ⟨A5, c5, rfl, h3, hb1⟩
        replace HW := Lib.hid (HW.out.trans (hb1.mono HW.out.size))
        replace BN := Lib.hid (BN.out.keep (Keep.below hb1))
        have HX := Lib.hid h3
        have x1 := h3.le.1
        have x2 := h3.le.2
        clear h3 HC2
        clear n0 n1
        clear hb1
        obtain ⟨n0, n1⟩ := BN.out
        go_wp2_with fail
        refine (rNetErr_any N _ _ (hN0.out.keep (Keep.below HW.out))).mono ?_
        rintro e' w6 ⟨rfl, hb1⟩
        replace HW := Lib.hid (HW.out.trans (hb1.mono HW.out.size))
        replace BN := Lib.hid (BN.out.keep (Keep.below hb1))
        replace HX := Lib.hid (HX.out.keep (Keep.below hb1))
        clear n0 n1
        clear hb1
        by_cases he : netErr N = 0
        · have HE := Lib.hid he
          have F1 : pwErr N s = readErr N s := if_pos he
          have F2 : pwWay N s = readWay N s := if_pos he
          have F3 : cwErr N l = wayErr N l := if_pos he
          rw [F2] at HX x1
          rw [F1, F2, F3, he]
          clear he F1 F2 F3
          obtain ⟨n0, n1⟩ := BN.out
          go_wp2_with fail
          refine (rParseWay_any N _ s _ (hN0.out.keep (Keep.below HW.out)) HE.out hsz).mono ?_
          rintro e' w7 ⟨A7, c7, rfl, h3, hb1⟩
          replace HW := Lib.hid (HW.out.trans (hb1.mono HW.out.size))
          replace BN := Lib.hid (BN.out.keep (Keep.below hb1))
          replace HX := Lib.hid (HX.out.keep (Keep.below hb1))
          have HY := Lib.hid h3
          have y1 := h3.le.1
          have y2 := h3.le.2
          clear h3
          clear n0 n1
          clear hb1
          obtain ⟨n0, n1⟩ := BN.out
          go_wp2_with fail
          refine (ints_same (readWay N s) A5 A7 c5 c7 _ HX.out HY.out).mono ?_
          rintro e' w8 ⟨rfl, hb1⟩
          replace HW := Lib.hid (HW.out.trans (hb1.mono HW.out.size))
          replace BN := Lib.hid (BN.out.keep (Keep.below hb1))
          replace HX := Lib.hid (HX.out.keep (Keep.below hb1))
          replace HY := Lib.hid (HY.out.keep (Keep.below hb1))
          clear n0 n1
          clear hb1
          clear HX HY
          obtain ⟨n0, n1⟩ := BN.out
          go_wp2_with fail
          refine (rWayErr_any N _ l A c _ (hN0.out.keep (Keep.below HW.out)) (HA.out.keep (Keep.below HW.out))).mono ?_
          rintro e' w9 ⟨rfl, hb1⟩
          replace HW := Lib.hid (HW.out.trans (hb1.mono HW.out.size))
          replace BN := Lib.hid (BN.out.keep (Keep.below hb1))
          clear n0 n1
          clear hb1
          by_cases hw : wayErr N l = 0
          · have HQ := Lib.hid hw
            have HT := Lib.hid (show fwText N l = wayText N l from if_pos (by unfold cwErr; rw [if_pos HE.out]; exact hw))
            have hts : (wayText N l).size < 4294967281 := Nat.lt_of_le_of_lt (wayText_size HE.out hw) (by decide)
            obtain ⟨rb1, rb2⟩ := wayText_back HE.out hw
            have FB1 := Lib.hid (show pwErr N (wayText N l) = 0 from (if_pos HE.out).trans rb1)
            have FB2 := Lib.hid (show pwWay N (wayText N l) = l from (if_pos HE.out).trans rb2)
            rw [hw, HT.out]
            clear hw rb1 rb2
            obtain ⟨n0, n1⟩ := BN.out
            go_wp2_with fail
            refine (copyNet_any N _ _ (hN0.out.keep (Keep.below HW.out)) HL.out.1 HL.out.2.1 HL.out.2.2).mono ?_
            rintro e' wa3 ⟨va3, rfl, h3, hb1⟩
            replace HW := Lib.hid (HW.out.trans (hb1.mono HW.out.size))
            replace BN := Lib.hid (BN.out.keep (Keep.below hb1))
            have HC3 := Lib.hid h3
            clear h3
            clear n0 n1
            clear hb1
            obtain ⟨n0, n1⟩ := BN.out
            go_wp2_with fail
            refine (parseWay_any N _ (wayText N l) _ HC3.out hts).mono ?_
            rintro e' w10 ⟨A10, c10, rfl, h3, hb1⟩
            replace HW := Lib.hid (HW.out.trans (hb1.mono HW.out.size))
            replace BN := Lib.hid (BN.out.keep (Keep.below hb1))
            have HZ := Lib.hid h3
            clear h3 HC3
            clear n0 n1
            clear hb1
            rw [FB2.out] at HZ
            rw [FB1.out, FB2.out]
            have q1 := HZ.out.le.1
            have q2 := HZ.out.le.2
            obtain ⟨n0, n1⟩ := BN.out
            go_wp2_with fail
            refine (rFormatWay_any N _ l A c _ (hN0.out.keep (Keep.below HW.out)) (HA.out.keep (Keep.below HW.out)) HE.out HQ.out).mono ?_
            rintro e' w11 ⟨rfl, hb1⟩
            replace HW := Lib.hid (HW.out.trans (hb1.mono HW.out.size))
            replace BN := Lib.hid (BN.out.keep (Keep.below hb1))
            replace HZ := Lib.hid (HZ.out.keep (Keep.below hb1))
            clear n0 n1
            clear hb1
            have z9 : ((wayText N l).toList == (wayText N l).toList) = true := by simp
            obtain ⟨n0, n1⟩ := BN.out
            go_wp2_with fail
            refine (ints_same l A10 A c10 c _ HZ.out (HA.out.keep (Keep.below HW.out))).mono ?_
            rintro e' w12 ⟨rfl, hb1⟩
            replace HW := Lib.hid (HW.out.trans (hb1.mono HW.out.size))
            replace BN := Lib.hid (BN.out.keep (Keep.below hb1))
            replace HZ := Lib.hid (HZ.out.keep (Keep.below hb1))
            clear n0 n1
            clear hb1
            go_wp2_with fail
            go_ret
            exact ⟨rfl, HW.out⟩
          · have HT : fwText N l = ByteArray.empty := if_neg (by unfold cwErr; rw [if_pos HE.out]; exact hw)
            have e1 : (wayErr N l == 0) = false := by simpa using hw
            have e2 : (wayErr N l != 0) = true := by simpa using hw
            rw [HT]
            clear HT hw
            obtain ⟨n0, n1⟩ := BN.out
            go_wp2_with fail
            go_ret
            exact ⟨rfl, HW.out⟩
        · have F1 : pwErr N s = netErr N := if_neg he
          have F2 : pwWay N s = [] := if_neg he
          have F3 : cwErr N l = netErr N := if_neg he
          have F4 : fwText N l = ByteArray.empty := if_neg (by rw [F3]; exact he)
          have e1 : (netErr N == 0) = false := by simpa using he
          have e2 : (netErr N != 0) = true := by simpa using he
          rw [F1, F2, F3, F4]
          clear F1 F2 F3 F4 he
          obtain ⟨n0, n1⟩ := BN.out
          go_wp2_with fail
          go_ret
          exact ⟨rfl, HW.out⟩
end Go.Proofs.YtndhpdjcpagghaaGreatDoor
