/- Which places are reached. Condition: the net can be read. -/
import Derived.Test.YtnjaadmmbdlfoaaT83
import Derived.Test.YtnjaadmmbdlfoaaT52
namespace Go.Proofs.Ytnjaadmmbdlfoaa
open Go.RowKit Fs

def Fs.reachTo (N : Net) (X : Nat) : Nat → List Int
  | 0 => []
  | k + 1 => reachTo N X k ++ (if listI (heights N X) k = -1 then [] else [(k : Int)])
def Fs.reachL (N : Net) (X : Nat) : List Int := reachTo N X N.places.length
theorem Fs.reachTo_len (N : Net) (X : Nat) : ∀ k, (reachTo N X k).length ≤ k
  | 0 => Nat.le_refl _
  | k + 1 => by
    have := reachTo_len N X k
    rw [reachTo, List.length_append]
    split <;> simp <;> omega
theorem Fs.mem_reachTo {N : Net} {X : Nat} {z : Int} : ∀ k, z ∈ reachTo N X k ↔ ∃ j : Nat, z = j ∧ j < k ∧ listI (heights N X) j ≠ -1
  | 0 => by simp [reachTo]
  | k + 1 => by
    rw [reachTo, List.mem_append, mem_reachTo k]
    constructor
    · rintro (⟨j, h1, h2, h3⟩ | h)
      · exact ⟨j, h1, by omega, h3⟩
      · by_cases e : listI (heights N X) k = -1
        · rw [if_pos e] at h; cases h
        · rw [if_neg e] at h
          exact ⟨k, by simpa using h, by omega, e⟩
    · rintro ⟨j, h1, h2, h3⟩
      by_cases e : j = k
      · subst e; right; rw [if_neg h3]; simp [h1]
      · left; exact ⟨j, h1, by omega, h3⟩
def Fs.rcList (N : Net) (f : Int) : List Int := if hfErr N f = 0 then reachL N f.toNat else []
set_option linter.unusedSimpArgs false in
set_option maxHeartbeats 6400000 in
set_option maxRecDepth 100000 in
theorem reaches_any (N : Net) (v : Value) (f : Int) (w : World) (hN : RdNet w v N) :
    Calls Try.prog 8 #[v, .int .i64 f] w fun e w' => ∃ A c, e = .returned (.tuple #[.slice A (rcList N f).length c, .int .i64 (hfErr N f)]) ∧ ArrI w' A (rcList N f) c ∧ Below w.heap.size w w' := by
  have hN0 := Lib.hid hN
  obtain ⟨P, R, pc, rc, ar, rfl, m⟩ := hN
  clear m
  have BN := Lib.hid (BoxN.new w N P R pc rc 25)
  go_enter Try.func8, Try.ntmps8
  go_upto_region 1 with fail
  generalize hwb : w.alloc _ = wb at *
  have HW : Hid (Below w.heap.size w wb) := by rw [← hwb]; exact Lib.hid ((Below.refl _ _).alloc (Nat.le_refl _) _)
  clear hwb
  obtain ⟨n0, n1⟩ := BN.out
  go_cut [6] from 10 to 17 (fun s wx => s = .int .i64 (hfErr N f) ∧ Hid (Below wb.heap.size wb wx))
  case first =>
    have HBd : Hid (Below wb.heap.size wb wb.drew) := Lib.hid (Below.refl _ _).drew
    have MK : Hid (∀ w', Below wb.heap.size wb w' → w'.cell? ⟨w.heap.size, 0, none⟩ = some (.slice P N.places.length pc) ∧ w'.cell? ⟨w.heap.size, 1, none⟩ = some (.slice R N.roads.length rc) ∧ Hid (Below wb.heap.size wb w')) :=
      Lib.hid fun w' hw => ⟨Keep.below hw _ _ n0, Keep.below hw _ _ n1, Lib.hid hw⟩
    have KN : Hid (∀ w', Below wb.heap.size wb w' → RdNet w' (netV N P R pc rc) N) := Lib.hid fun w' hw => (hN0.out.keep (Keep.below (HW.out.trans (hw.mono HW.out.size))))
    go_region_held3 (fun w' => w'.cell? ⟨w.heap.size, 0, none⟩ = some (.slice P N.places.length pc) ∧ w'.cell? ⟨w.heap.size, 1, none⟩ = some (.slice R N.roads.length rc) ∧ Hid (Below wb.heap.size wb w'))
      (first
        | exact MK.out _ HBd.out
        | (go_split_ands; exact ⟨by assumption, by assumption, by assumption⟩)
        | (go_split_ands; exact MK.out _ (Below.trans (Hid.out (by assumption)) (hb1.mono (Hid.out (by assumption) : Below wb.heap.size wb _).size)))
        | (go_split_ands; exact MK.out _ (Below.alloc (Hid.out (by assumption)) (Hid.out (by assumption) : Below wb.heap.size wb _).size _)))
      ((first
          | (go_at_call 32
             go_split_ands
             refine (errNet_any N _ _ (KN.out _ (Hid.out (by assumption)))).mono ?_
             rintro e' w1 ⟨rfl, hb1⟩
             try (first
               | (have HQ0 := ArrI.keep (Keep.below hb1) (arr1New _ f _); (try simp only [size_drew] at HQ0); have HQ := Lib.hid HQ0; clear HQ0)
               | (have HQ0 := ArrI.keep ((Keep.drew _).trans (Keep.below hb1)) (arr1New wb f _); have HQ := Lib.hid HQ0; clear HQ0)))
          | (go_at_call 33
             go_split_ands
             refine (placesErr_any N _ [f] _ 1 _ (KN.out _ (Hid.out (by assumption))) (by first | exact HQ.out | exact arr1New _ f _ | exact ArrI.keep (Keep.drew _) (arr1New wb f _))).mono ?_
             rintro e' w1 ⟨rfl, hb1⟩)
          | (go_at_call 31
             refine (firstError_any [netErr N, placesErr N [f]] _ _ _ (by first | exact arr2New _ _ _ _ | exact ArrI.keep (Keep.drew _) (arr2New _ _ _ _))).mono ?_
             rintro e' w1 ⟨rfl, rfl⟩)))
    all_goals
      rename_i hS
      obtain ⟨-, -, hbb⟩ := hS
      go_wp2_with fail
      go_meet
      exact ⟨rfl, hbb⟩
  case rest =>
    obtain ⟨rfl, HB⟩ := hcut
    obtain ⟨wp, hwp⟩ : ∃ wp, wp = wc := ⟨_, rfl⟩
    subst hwp
    replace BN := Lib.hid (BN.out.keep (Keep.below HB.out))
    replace HW := Lib.hid (HW.out.trans (HB.out.mono HW.out.size))
    clear HB n0 n1
    by_cases he : hfErr N f = 0
    · obtain ⟨hE, f0, f1⟩ := hfErr_ok he
      have HE := Lib.hid hE
      have h20 := (net_sound hE).2.1
      have HE0 := Lib.hid he
      have HF := Lib.hid (show rcList N f = reachL N f.toNat from if_pos he)
      rw [he]
      clear he hE
      obtain ⟨X, hX⟩ : ∃ X : Nat, f = X := ⟨_, (Int.toNat_of_nonneg f0).symm⟩
      subst hX
      rw [Int.toNat_natCast] at HF
      have hXl : X < N.places.length := by omega
      have HLN := Lib.hid (heights_len N X)
      obtain ⟨n0, n1⟩ := BN.out
      go_wp2_with fail
      refine (heightsFrom_any N _ X _ (hN0.out.keep (Keep.below HW.out)) HE.out hXl).mono ?_
      rintro e' w2 ⟨g, rfl, h8, hb1⟩
      replace h8 := Lib.hid h8
      replace HW := Lib.hid (HW.out.trans (hb1.mono HW.out.size))
      clear hb1 n0 n1
      obtain ⟨i0, hi, hz0, hz1, hz2⟩ := info_parts Try.infoInt
      go_wp2_with fail
      go_loopw [7, 25] (fun u i wr => ∃ k : Nat, k ≤ N.places.length ∧ i = .int .i64 k ∧ Hid (wr.ownsRow w2.heap.size 3 1 u (reachTo N X k).length (intVals (reachTo N X k))) ∧ Hid (Below w2.heap.size w2 wr)) (fun _ i _ => N.places.length - (intOf i).toNat)
      case atStart => exact ⟨0, Nat.zero_le _, rfl, Lib.hid (World.ownsRow_nil _ _ _ _), Lib.hid (Below.refl _ _)⟩
      case round =>
        obtain ⟨k, hk, rfl, HO, HB⟩ := hrel
        have HX := Lib.hid (HW.out.trans (HB.out.mono HW.out.size))
        by_cases hlt : k < N.places.length
        · have hkn : (k : Int) < (N.places.length : Int) := by omega
          have c9 := (h8.out.keep HB.out).int (i := k) (by rw [HLN.out]; exact hlt)
          have hlen := reachTo_len N X k
          have hws : w2.heap.size ≤ wr.heap.size := HB.out.size
          by_cases hz : listI (heights N X) k = -1
          · have F := Lib.hid (show reachTo N X (k + 1) = reachTo N X k by rw [reachTo, if_pos hz, List.append_nil])
            have e1 : (listI (heights N X) k != -1) = false := by simpa using hz
            clear hz
            go_wp2_with fail
            go_roundw
            case rel => exact ⟨k + 1, by omega, by go_num, by rw [F.out]; exact HO, HB⟩
            case measure => simp [intOf]; omega
          · have F := Lib.hid (show reachTo N X (k + 1) = reachTo N X k ++ [(k : Int)] by rw [reachTo, if_neg hz])
            have e1 : (listI (heights N X) k != -1) = true := by simpa using hz
            clear hz
            go_wp2_with (at_builtin; refine wpList_append_own _ rfl (.tmp 32) (.tmp 34) 29 rfl w2.heap.size 3 i0 (.int .i64 0) 1 8 Try.underlying29 hi hz0 hz1 hz2 rfl (by decide) _ _ _ rfl (HO.out.alloc _) ⟨wr.heap.size, 0, none⟩ 1 1 [.int .i64 (k : Int)] rfl rfl ?c1 ?c2 ?c3 ?c4 ?c5 ?_)
            case c1 => exact news0 _ _ _
            case c2 => exact oneInt _
            case c3 => unfold maxLen; omega
            case c4 => omega
            case c5 => simp; omega
            intro v3 w3 hown3 hg3 _
            have HB3 := Lib.hid ((HB.out.alloc hws _).grown hg3 (by simp; omega) (fun j hj => (HO.out.lt j hj).1))
            have HO3 : Hid (w3.ownsRow w2.heap.size 3 1 v3 (reachTo N X (k + 1)).length (intVals (reachTo N X (k + 1)))) := by
              rw [F.out, intVals_snoc, List.length_append]
              exact Lib.hid hown3
            clear hown3 hg3 F HO
            go_wp2_with fail
            go_roundw
            case rel => exact ⟨k + 1, by omega, by go_num, HO3, HB3⟩
            case measure => simp [intOf]; omega
        · obtain rfl : k = N.places.length := by omega
          clear hlt hk
          obtain ⟨A, c, hv, harr⟩ := own_arr HO.out
          subst hv
          have HA := Lib.hid harr
          clear harr HO
          go_wp2_with fail
          refine bodyPost_ret (v := .tuple #[.slice A (reachTo N X N.places.length).length c, .int .i64 0]) (by simp [results, Try.results8, go_sem]) rfl ⟨A, c, ?_, ?_, HX.out⟩
          · rw [HF.out, HE0.out]; rfl
          · rw [HF.out]; exact HA.out
    · have G2 := Lib.hid (show rcList N f = [] from if_neg he)
      have d1 : (hfErr N f != 0) = true := by simpa using he
      clear he
      go_wp2_with fail
      refine bodyPost_ret (v := .tuple #[.slice none 0 0, .int .i64 (hfErr N f)]) (by simp [results, Try.results8, go_sem]) rfl ⟨none, 0, ?_, ?_, HW.out⟩
      · rw [G2.out]; rfl
      · rw [G2.out]; exact ⟨Nat.le_refl _, by decide, fun hh => absurd hh (by decide)⟩

set_option linter.unusedSimpArgs false in
set_option maxHeartbeats 6400000 in
set_option maxRecDepth 100000 in
theorem rReaches_any (N : Net) (v : Value) (X : Nat) (w : World) (hN : RdNet w v N) (hE : netErr N = 0) (hXl : X < N.places.length) :
    Calls Try.prog 16 #[v, .int .i64 X] w fun e w' => ∃ A c, e = .returned (.slice A (reachL N X).length c) ∧ ArrI w' A (reachL N X) c ∧ Below w.heap.size w w' := by
  have hN0 := Lib.hid hN
  obtain ⟨P, R, pc, rc, ar, rfl, m⟩ := hN
  clear m
  have BN := Lib.hid (BoxN.new w N P R pc rc 25)
  have h20 := (net_sound hE).2.1
  have HLN := Lib.hid (heights_len N X)
  have HMIN := Lib.hid (show ∀ k, k < N.places.length → -1 ≤ listI (heights N X) k from fun k hk => by
    rcases (search_found (net_joined hE) (further_good hE) hXl (Int.le_refl 0)).least k hk with h | h
    · show -1 ≤ listI (search N X 0 (further N)).labels k
      omega
    · show -1 ≤ listI (search N X 0 (further N)).labels k
      omega)
  go_enter Try.func16, Try.ntmps16
  go_upto_region 1 with fail
  generalize hwb : w.alloc _ = wb at *
  have HW : Hid (Below w.heap.size w wb) := by rw [← hwb]; exact Lib.hid ((Below.refl _ _).alloc (Nat.le_refl _) _)
  clear hwb
  obtain ⟨n0, n1⟩ := BN.out
  go_wp2_with fail
  refine (rHts_any N _ X _ (hN0.out.keep (Keep.below HW.out)) hE hXl).mono ?_
  rintro e' w2 ⟨g, c8, rfl, -, h8, hb1⟩
  have h81 := h8.le.1
  have h82 := h8.le.2
  replace h8 := Lib.hid (show ArrI w2 (some ⟨g, 0, none⟩) (heights N X) c8 from h8)
  replace HW := Lib.hid (HW.out.trans (hb1.mono HW.out.size))
  clear hb1 n0 n1
  obtain ⟨i0, hi, hz0, hz1, hz2⟩ := info_parts Try.infoInt
  go_wp2_with fail
  go_loopw [5, 7] (fun u i wr => ∃ k : Nat, k ≤ N.places.length ∧ i = .int .i64 k ∧ Hid (wr.ownsRow w2.heap.size 3 1 u (reachTo N X k).length (intVals (reachTo N X k))) ∧ Hid (Below w2.heap.size w2 wr)) (fun _ i _ => N.places.length - (intOf i).toNat)
  case atStart => exact ⟨0, Nat.zero_le _, rfl, Lib.hid (World.ownsRow_nil _ _ _ _), Lib.hid (Below.refl _ _)⟩
  case round =>
    obtain ⟨k, hk, rfl, HO, HB⟩ := hrel
    have HX := Lib.hid (HW.out.trans (HB.out.mono HW.out.size))
    by_cases hlt : k < N.places.length
    · have hkn : (k : Int) < (N.places.length : Int) := by omega
      have c9 := (h8.out.keep (Keep.below HB.out)).cells (k := k) (by rw [HLN.out]; exact hlt)
      rw [Nat.zero_add] at c9
      have hlen := reachTo_len N X k
      have hws : w2.heap.size ≤ wr.heap.size := HB.out.size
      have hmin := HMIN.out k hlt
      by_cases hz : listI (heights N X) k = -1
      · have F := Lib.hid (show reachTo N X (k + 1) = reachTo N X k by rw [reachTo, if_pos hz, List.append_nil])
        rw [hz] at c9
        clear hz hmin
        go_wp2_with fail
        go_roundw
        case rel => exact ⟨k + 1, by omega, by go_num, by rw [F.out]; exact HO, HB⟩
        case measure => simp [intOf]; omega
      · have F := Lib.hid (show reachTo N X (k + 1) = reachTo N X k ++ [(k : Int)] by rw [reachTo, if_neg hz])
        have e1 : decide (listI (heights N X) k ≥ 0) = true := decide_eq_true (by omega)
        have e2 : decide (0 ≤ listI (heights N X) k) = true := decide_eq_true (by omega)
        clear hz hmin
        go_wp2_with (at_builtin; refine wpList_append_own _ rfl (.tmp 22) (.tmp 24) 29 rfl w2.heap.size 3 i0 (.int .i64 0) 1 8 Try.underlying29 hi hz0 hz1 hz2 rfl (by decide) _ _ _ rfl (HO.out.alloc _) ⟨wr.heap.size, 0, none⟩ 1 1 [.int .i64 (k : Int)] rfl rfl ?c1 ?c2 ?c3 ?c4 ?c5 ?_)
        case c1 => exact news0 _ _ _
        case c2 => exact oneInt _
        case c3 => unfold maxLen; omega
        case c4 => omega
        case c5 => simp; omega
        intro v3 w3 hown3 hg3 _
        have HB3 := Lib.hid ((HB.out.alloc hws _).grown hg3 (by simp; omega) (fun j hj => (HO.out.lt j hj).1))
        have HO3 : Hid (w3.ownsRow w2.heap.size 3 1 v3 (reachTo N X (k + 1)).length (intVals (reachTo N X (k + 1)))) := by
          rw [F.out, intVals_snoc, List.length_append]
          exact Lib.hid hown3
        clear hown3 hg3 F HO
        go_wp2_with fail
        go_roundw
        case rel => exact ⟨k + 1, by omega, by go_num, HO3, HB3⟩
        case measure => simp [intOf]; omega
    · obtain rfl : k = N.places.length := by omega
      clear hlt hk
      obtain ⟨A, c, hv, harr⟩ := own_arr HO.out
      subst hv
      have HA := Lib.hid harr
      clear harr HO
      go_wp2_with fail
      go_ret
      exact ⟨A, c, rfl, HA.out, HX.out⟩
end Go.Proofs.Ytnjaadmmbdlfoaa
/- The islands of a net. Condition: the net can be read. -/
namespace Go.Proofs.Ytnjaadmmbdlfoaa
open Go.RowKit Fs

theorem Try.infoList : (Try.prog.info? 29).map (fun i => (i.zero, i.size, i.bytes)) = some (some (.slice none 0 0), 1, 24) := by kernel_rfl
def Fs.ownP (N : Net) (i : Nat) (z : Int) : Bool := listI (heights N z) i != -1
def Fs.ownTo (N : Net) (i k : Nat) : List Int := (reachTo N i k).filter (ownP N i)
def Fs.ownL (N : Net) (i : Nat) : List Int := ownTo N i N.places.length
theorem Fs.ownTo_yes {N : Net} {i k : Nat} (h1 : listI (heights N i) k ≠ -1) (h2 : listI (heights N k) i ≠ -1) : ownTo N i (k + 1) = ownTo N i k ++ [(k : Int)] := by
  unfold ownTo
  rw [reachTo, if_neg h1, List.filter_append]
  congr 1
  have : ownP N i (k : Int) = true := by unfold ownP; simpa using h2
  simp [this]
theorem Fs.ownTo_no {N : Net} {i k : Nat} (h : listI (heights N i) k = -1 ∨ listI (heights N k) i = -1) : ownTo N i (k + 1) = ownTo N i k := by
  unfold ownTo
  rw [reachTo, List.filter_append]
  by_cases h1 : listI (heights N i) k = -1
  · rw [if_pos h1]; simp
  · rw [if_neg h1]
    have h2 : listI (heights N k) i = -1 := by rcases h with h | h; exact absurd h h1; exact h
    have : ownP N i (k : Int) = false := by unfold ownP; simpa using h2
    simp [this]
theorem Fs.ownTo_len (N : Net) (i k : Nat) : (ownTo N i k).length ≤ k := Nat.le_trans (List.length_filter_le _ _) (reachTo_len N i k)
theorem Fs.own_self {N : Net} (hE : netErr N = 0) {i : Nat} (hi : i < N.places.length) : 0 < (ownL N i).length := by
  have F := further_found hE hi
  have h0 : listI (heights N i) i = 0 := F.own
  have : (i : Int) ∈ ownL N i := by
    unfold ownL ownTo
    rw [List.mem_filter]
    refine ⟨(mem_reachTo _).2 ⟨i, rfl, hi, by rw [h0]; decide⟩, ?_⟩
    unfold ownP
    rw [h0]
    decide
  exact List.length_pos_of_mem this
def Fs.islTo (N : Net) : Nat → List (List Int)
  | 0 => []
  | k + 1 => islTo N k ++ (if listI (ownL N k) 0 = k then [ownL N k] else [])
theorem Fs.islTo_len (N : Net) : ∀ k, (islTo N k).length ≤ k
  | 0 => Nat.le_refl _
  | k + 1 => by
    have := islTo_len N k
    rw [islTo, List.length_append]
    split <;> simp <;> omega
def Fs.islOf (N : Net) : List (List Int) := if netErr N = 0 then islTo N N.places.length else []
def lvals (ls : List (List Int)) (a : DA) : List Value := flat ls.length 1 fun i _ => .slice (a.p i) (listL ls i).length (a.pc i)
theorem lvals_snoc (ls : List (List Int)) (a : DA) (x : List Int) (A : Option Addr) (c : Nat) : lvals (ls ++ [x]) (a.put ls.length A c) = lvals ls a ++ [.slice A x.length c] := by
  unfold lvals flat
  rw [List.length_append, List.length_cons, List.length_nil, Nat.mul_one, Nat.mul_one, List.range_succ, List.map_append]
  congr 1
  · refine List.map_congr_left fun t ht => ?_
    have ht := List.mem_range.1 ht
    have e : listL (ls ++ [x]) t = listL ls t := by unfold listL; rw [List.getD_eq_getElem?_getD, List.getD_eq_getElem?_getD, List.getElem?_append_left ht]
    simp only [Nat.div_one, DA.put, if_neg (show ¬ t = ls.length by omega), e]
  · have e : listL (ls ++ [x]) ls.length = x := by unfold listL; rw [List.getD_eq_getElem?_getD, List.getElem?_append_right (Nat.le_refl _)]; simp
    simp [DA.put, e]
theorem listL_snoc {ls : List (List Int)} {x : List Int} {i : Nat} (h : i < ls.length) : listL (ls ++ [x]) i = listL ls i := by unfold listL; rw [List.getD_eq_getElem?_getD, List.getD_eq_getElem?_getD, List.getElem?_append_left h]
theorem listL_last {ls : List (List Int)} {x : List Int} : listL (ls ++ [x]) ls.length = x := by unfold listL; rw [List.getD_eq_getElem?_getD, List.getElem?_append_right (Nat.le_refl _)]; simp
abbrev AwI (S : Nat → Prop) (w : World) (A : Option Addr) (l : List Int) (c : Nat) : Prop := Aw S w A l.length c 1 fun i _ => .int .i64 (listI l i)
/-- The row x has grown, in its place or at the end of memory. -/
theorem Aw.grown {x x' : Option Nat} {w w' : World} {A : Option Addr} {n c size : Nat} {C : Nat → Nat → Value} (h : Aw (fun b => x = some b) w A n c size C) (hs : 0 < size) (hg : w.grownBy w' x) (hx : x' = x ∨ x' = some w.heap.size) : Aw (fun b => x' = some b) w' A n c size C := by
  refine ⟨h.1, h.2.1, fun hn => ?_⟩
  obtain ⟨b, o, h1, h3, h4⟩ := h.2.2 hn
  have hb : b < w.heap.size := World.block_lt_of_cell? w _ (h4 0 0 hn hs)
  refine ⟨b, o, h1, fun e => ?_, fun i j hi hj => ?_⟩
  · rcases hx with hx | hx
    · exact h3 (hx ▸ e)
    · rw [hx] at e; injection e with e; omega
  · rw [← h4 i j hi hj]
    have := hg.block b hb (fun e => h3 e.symm)
    unfold World.cell?
    simp only [this]
/-- The rows of heights, as far as they are laid. -/
def hrow (gs : Nat → Nat) (k n : Nat) : List Value := (List.range n).map fun i => if i < k then .slice (some ⟨gs i, 0, none⟩) n n else .slice none 0 0
theorem hrow_zero (gs : Nat → Nat) (n : Nat) : hrow gs 0 n = List.replicate n (.slice none 0 0) := by
  unfold hrow
  refine List.ext_getElem? fun i => ?_
  rw [List.getElem?_map, List.getElem?_replicate]
  by_cases h : i < n
  · rw [List.getElem?_range h, if_pos h]; rfl
  · rw [if_neg h, List.getElem?_eq_none (by simpa using h)]; rfl
theorem hrow_get {gs : Nat → Nat} {k n i : Nat} (hi : i < n) (hk : i < k) : (hrow gs k n)[i]? = some (.slice (some ⟨gs i, 0, none⟩) n n) := by
  unfold hrow
  rw [List.getElem?_map, List.getElem?_range hi]
  simp [hk]
theorem hrow_next {gs : Nat → Nat} {k n : Nat} (hk : k < n) : (hrow gs k n)[k]? = some (.slice none 0 0) := by
  unfold hrow
  rw [List.getElem?_map, List.getElem?_range hk]
  simp
theorem hrow_set {gs : Nat → Nat} {k n g : Nat} (hk : k < n) : (hrow gs k n).set k (.slice (some ⟨g, 0, none⟩) n n) = hrow (fun i => if i = k then g else gs i) (k + 1) n := by
  unfold hrow
  refine List.ext_getElem? fun i => ?_
  rw [List.getElem?_set, List.getElem?_map, List.getElem?_map, List.length_map, List.length_range]
  by_cases h : i < n
  · rw [List.getElem?_range h]
    by_cases e : k = i
    · subst e; simp [h]
    · rw [if_neg e]
      have e' : ¬ i = k := fun h => e h.symm
      simp only [Option.map_some, if_neg e']
      by_cases h2 : i < k
      · rw [if_pos h2, if_pos (by omega)]
      · rw [if_neg h2, if_neg (by omega)]
  · rw [List.getElem?_eq_none (by simpa using h)]
    by_cases e : k = i
    · omega
    · rw [if_neg e]
      rfl
theorem oneSlice (A : Option Addr) (n c : Nat) : ∀ u ∈ [Value.slice A n c], u.oneCell' = true := by
  intro u hu
  have : u = .slice A n c := by simpa using hu
  subst this
  rfl
theorem rowV_ne {w : World} {g h : Nat} {l m : List Value} {t s : TypeId} (a : RowV w g t l) (b : RowV w h s m) (hts : t ≠ s) : g ≠ h := by
  intro e
  subst e
  unfold RowV at a b
  rw [a] at b
  injection b with b
  injection b with b1 b2 b3
  exact hts b2

set_option linter.unusedSimpArgs false in
set_option maxHeartbeats 12800000 in
set_option maxRecDepth 100000 in
theorem islands_any (N : Net) (v : Value) (w : World) (hN : RdNet w v N) :
    Calls Try.prog 10 #[v] w fun e w' => ∃ A c a, e = .returned (.tuple #[.slice A (islOf N).length c, .int .i64 (netErr N)]) ∧ ArrL w' A (islOf N) c a ∧ Below w.heap.size w w' := by
  have hN0 := Lib.hid hN
  obtain ⟨P, R, pc, rc, ar, rfl, m⟩ := hN
  have pb1 := m.places.le.1
  have pb2 := m.places.le.2
  clear m
  have BN := Lib.hid (BoxN.new w N P R pc rc 25)
  obtain ⟨i0, hi, hz0, hz1, hz2⟩ := info_parts Try.infoInt
  obtain ⟨j0, hj, jz0, jz1, jz2⟩ := info_parts Try.infoList
  go_enter Try.func10, Try.ntmps10
  go_upto_region 1 with fail
  generalize hwb : w.alloc _ = wb at *
  have HW : Hid (Below w.heap.size w wb) := by rw [← hwb]; exact Lib.hid ((Below.refl _ _).alloc (Nat.le_refl _) _)
  have HWS : Hid (w.heap.size < wb.heap.size) := by rw [← hwb]; exact Lib.hid (by simp)
  clear hwb
  obtain ⟨n0, n1⟩ := BN.out
  go_wp2_with fail
  refine (errNet_any N _ _ (hN0.out.keep (Keep.below HW.out))).mono ?_
  rintro e' w1 ⟨rfl, hb1⟩
  replace BN := Lib.hid (BN.out.keep (Keep.below hb1))
  replace HWS := Lib.hid (show w.heap.size < w1.heap.size by have := hb1.size; have := HWS.out; omega)
  replace HW := Lib.hid (HW.out.trans (hb1.mono HW.out.size))
  clear hb1 n0 n1
  by_cases he : netErr N = 0
  · have HE := Lib.hid he
    have h20 := (net_sound he).2.1
    have h0 := (net_sound he).1
    have HF := Lib.hid (show islOf N = islTo N N.places.length from if_pos he)
    rw [he]
    clear he
    obtain ⟨n0, n1⟩ := BN.out
    go_wp2_with (at_make; refine wpList_make_full _ rfl (.tmp 18) (.tmp 18) 34 rfl _ 29 j0 (.slice none 0 0) 1 Try.underlying34 hj jz0 jz1 .i64 .i64 N.places.length N.places.length N.places.length rfl rfl rfl rfl (by rw [jz2]; omega) (by unfold maxLen; omega) (Nat.le_refl _) ?_)
    intro w2 hown hg1
    have HB1 : Hid (Below w1.heap.size w1 w2) := Lib.hid ⟨hg1.os, hg1.tape, hg1.output, hg1.size, fun k hk => hg1.block k hk (by simp)⟩
    have HR1 : Hid (RowV w2 w1.heap.size 29 (hrow (fun _ => 0) 0 N.places.length)) := Lib.hid (by
      have := (RowV.of_own hown).1
      rw [toList_madeCells_one] at this
      rw [hrow_zero]
      exact this)
    replace BN := Lib.hid (BN.out.keep (Keep.below HB1.out))
    replace HW := Lib.hid (HW.out.trans (HB1.out.mono HW.out.size))
    have hwz : w.heap.size < w1.heap.size := HWS.out
    clear hown hg1 n0 n1
    go_wp2_with fail
    go_loopw [22] (fun i wr => ∃ (k : Nat) (gs : Nat → Nat), k ≤ N.places.length ∧ i = .int .i64 k ∧ Hid (RowV wr w1.heap.size 29 (hrow gs k N.places.length)) ∧ Hid (∀ i, i < k → RowV wr (gs i) 3 ((heights N i).map (Value.int .i64))) ∧ Hid (Below w1.heap.size w2 wr)) (fun i _ => N.places.length - (intOf i).toNat)
    case atStart => exact ⟨0, _, Nat.zero_le _, rfl, HR1, Lib.hid (fun i hi => absurd hi (Nat.not_lt_zero _)), Lib.hid (Below.refl _ _)⟩
    case round =>
      obtain ⟨k, gs, hk, rfl, HR, HG, HB⟩ := hrel
      have HX := Lib.hid (HW.out.trans (HB.out.mono (Nat.le_of_lt hwz)))
      by_cases hlt : k < N.places.length
      · have hkn : (k : Int) < (N.places.length : Int) := by omega
        have n0 := (HB.out.cell (p := ⟨w.heap.size, 0, none⟩) hwz).trans BN.out.c0
        have n1 := (HB.out.cell (p := ⟨w.heap.size, 1, none⟩) hwz).trans BN.out.c1
        go_wp2_with fail
        refine (heightsFrom_any N _ k _ (hN0.out.keep (Keep.below HX.out)) HE.out hlt).mono ?_
        rintro e' w3 ⟨g, rfl, h8, hb1⟩
        have R3 := HR.out.keep hb1
        have hne : w1.heap.size ≠ g := fun e => rowV_ne h8 R3 (by decide) e.symm
        have c0 := (R3.cell k).trans (hrow_next hlt)
        have cf := R3.frozen k
        have G1 := R3.set k (.slice (some ⟨g, 0, none⟩) N.places.length N.places.length)
        rw [hrow_set hlt] at G1
        have G1 := Lib.hid G1
        have G2 := Lib.hid (show ∀ i, i < k + 1 → RowV (w3.setCell ⟨w1.heap.size, k, none⟩ (.slice (some ⟨g, 0, none⟩) N.places.length N.places.length)) ((fun i => if i = k then g else gs i) i) 3 ((heights N i).map (Value.int .i64)) from fun i hi => by
          by_cases e : i = k
          · subst e
            simp only [if_pos]
            exact h8.far (p := ⟨w1.heap.size, i, none⟩) hne _
          · simp only [if_neg e]
            have R4 := (HG.out i (by omega)).keep hb1
            exact R4.far (p := ⟨w1.heap.size, k, none⟩) (fun e => rowV_ne R4 R3 (by decide) e.symm) _)
        have G3 := Lib.hid ((HB.out.trans (hb1.mono (by have h1 := HB.out.size; have h2 := HR1.out.lt; omega))).setCell (p := ⟨w1.heap.size, k, none⟩) (Nat.le_refl _) (.slice (some ⟨g, 0, none⟩) N.places.length N.places.length))
        clear n0 n1 h8 hb1 R3 hne
        go_wp2_with fail
        go_roundw
        case rel => exact ⟨k + 1, _, by omega, by go_num, G1, G2, G3⟩
        case measure => simp [intOf]; omega
      · obtain rfl : k = N.places.length := by omega
        obtain ⟨n, hn⟩ : ∃ n, n = N.places.length := ⟨_, rfl⟩
        obtain ⟨wB, hwB⟩ : ∃ wB : World, wB = wr := ⟨_, rfl⟩
        subst hwB
        clear hlt hk BN hn
        go_wp2_with fail
        go_loopw [7, 34] (fun u i wr => ∃ (k : Nat) (a : DA) (uv : Value), k ≤ N.places.length ∧ i = .int .i64 k ∧ uv = u ∧ Hid (wr.ownsRow wB.heap.size 29 1 uv (islTo N k).length (lvals (islTo N k) a)) ∧ Hid (∀ i, i < (islTo N k).length → AwI (fun b => uv.ownBlock = some b) wr (a.p i) (listL (islTo N k) i) (a.pc i)) ∧ Hid (Below wB.heap.size wB wr)) (fun _ i _ => N.places.length - (intOf i).toNat)
        case atStart => exact ⟨0, ⟨fun _ => none, fun _ => 0⟩, _, Nat.zero_le _, rfl, rfl, Lib.hid (World.ownsRow_nil _ _ _ _), Lib.hid (fun i hi => absurd hi (Nat.not_lt_zero _)), Lib.hid (Below.refl _ _)⟩
        case round =>
          obtain ⟨k, a, uv, hk, rfl, rfl, HO, HA, HB2⟩ := hrel
          by_cases hlt : k < N.places.length
          · have hkn : (k : Int) < (N.places.length : Int) := by omega
            have hil := islTo_len N k
            obtain ⟨wq, hwq⟩ : ∃ wq : World, wq = wr := ⟨_, rfl⟩
            subst hwq
            go_wp2_with fail
            go_loopw [9, 39] (fun y i wi => ∃ j : Nat, j ≤ N.places.length ∧ i = .int .i64 j ∧ Hid (wi.ownsRow wq.heap.size 3 1 y (ownTo N k j).length (intVals (ownTo N k j))) ∧ Hid (Below wq.heap.size wq wi)) (fun _ i _ => N.places.length - (intOf i).toNat)
            case atStart => exact ⟨0, Nat.zero_le _, rfl, Lib.hid (World.ownsRow_nil _ _ _ _), Lib.hid (Below.refl _ _)⟩
            case round =>
              obtain ⟨j, hj2, rfl, HI, HB3⟩ := hrel
              have HBB := Lib.hid (HB2.out.trans (HB3.out.mono HB2.out.size))
              by_cases hlj : j < N.places.length
              · have hjn : (j : Int) < (N.places.length : Int) := by omega
                have hjl := ownTo_len N k j
                have hws : wq.heap.size ≤ wr.heap.size := HB3.out.size
                have r1 := ((HR.out.keep HBB.out).cell k).trans (hrow_get hlt hlt)
                have r2 := ((HG.out k hlt).keep HBB.out).int (i := j) (by rw [heights_len]; exact hlj)
                have r3 := ((HR.out.keep HBB.out).cell j).trans (hrow_get hlj hlj)
                have r4 := ((HG.out j hlj).keep HBB.out).int (i := k) (by rw [heights_len]; exact hlt)
                by_cases hz1 : listI (heights N k) j = -1
                · have F := Lib.hid (ownTo_no (.inl hz1))
                  have e1 : (listI (heights N k) j != -1) = false := by simpa using hz1
                  clear hz1
                  go_wp2_with fail
                  go_roundw
                  case rel => exact ⟨j + 1, by omega, by go_num, by rw [F.out]; exact HI, HB3⟩
                  case measure => simp [intOf]; omega
                · have e1 : (listI (heights N k) j != -1) = true := by simpa using hz1
                  by_cases hz2' : listI (heights N j) k = -1
                  · have F := Lib.hid (ownTo_no (.inr hz2') : ownTo N k (j + 1) = ownTo N k j)
                    have e2 : (listI (heights N j) k != -1) = false := by simpa using hz2'
                    clear hz1 hz2'
                    go_wp2_with fail
                    go_roundw
                    case rel => exact ⟨j + 1, by omega, by go_num, by rw [F.out]; exact HI, HB3⟩
                    case measure => simp [intOf]; omega
                  · have F := Lib.hid (ownTo_yes hz1 hz2')
                    have e2 : (listI (heights N j) k != -1) = true := by simpa using hz2'
                    clear hz1 hz2'
                    go_wp2_with (at_builtin; refine wpList_append_own _ rfl (.tmp 60) (.tmp 62) 29 rfl wq.heap.size 3 i0 (.int .i64 0) 1 8 Try.underlying29 hi hz0 hz1 hz2 rfl (by decide) _ _ _ rfl (HI.out.alloc _) ⟨wr.heap.size, 0, none⟩ 1 1 [.int .i64 (j : Int)] rfl rfl ?c1 ?c2 ?c3 ?c4 ?c5 ?_)
                    case c1 => exact news0 _ _ _
                    case c2 => exact oneInt _
                    case c3 => unfold maxLen; omega
                    case c4 => omega
                    case c5 => simp; omega
                    intro v3 w3 hown3 hg3 _
                    have HB4 := Lib.hid ((HB3.out.alloc hws _).grown hg3 (by simp; omega) (fun j hj => (HI.out.lt j hj).1))
                    have HI3 : Hid (w3.ownsRow wq.heap.size 3 1 v3 (ownTo N k (j + 1)).length (intVals (ownTo N k (j + 1)))) := by
                      rw [F.out, intVals_snoc, List.length_append]
                      exact Lib.hid hown3
                    clear hown3 hg3 F HI
                    go_wp2_with fail
                    go_roundw
                    case rel => exact ⟨j + 1, by omega, by go_num, HI3, HB4⟩
                    case measure => simp [intOf]; omega
              · obtain rfl : j = N.places.length := by omega
                clear hlj hj2
                obtain ⟨A, c, hv, harr⟩ := own_arr HI.out
                subst hv
                have hab := own_above HI.out
                have hpos := own_self HE.out hlt
                have hol : (ownL N k).length ≤ N.places.length := ownTo_len N k _
                obtain ⟨b, o, hAe, q0⟩ := harr.at_ (k := 0) hpos
                subst hAe
                rw [Nat.add_zero] at q0
                have HN := Lib.hid (Aw.new (S := fun b => uv.ownBlock = some b) harr hab (fun b hb e => by have := (HO.out.lt b e).2; omega))
                have HAi := Lib.hid fun i hi => (HA.out i hi).keep (Keep.below HB3.out)
                have HOi := Lib.hid (own_below HO.out HB3.out)
                have hws : wB.heap.size ≤ wr.heap.size := HBB.out.size
                have hpn : (0 : Int) < (((ownTo N k N.places.length).length : Nat) : Int) := by have : 0 < (ownTo N k N.places.length).length := hpos; omega
                rw [show listI (ownTo N k N.places.length) 0 = listI (ownL N k) 0 from rfl] at q0
                clear harr hab HI
                by_cases e : listI (ownL N k) 0 = k
                · have F := Lib.hid (show islTo N (k + 1) = islTo N k ++ [ownL N k] by rw [islTo, if_pos e])
                  have e1 : (listI (ownL N k) 0 == (k : Int)) = true := by simpa using e
                  clear e
                  have hk63 : (islTo N k).length + 1 ≤ maxLen := by unfold maxLen; omega
                  have hk64 : ((islTo N k).length + 1) * 24 ≤ 140737488355328 := by omega
                  have HBS := Lib.hid (show wB.heap.size ≤ (wr.alloc (.cells #[.slice (some ⟨b, o, none⟩) (ownTo N k N.places.length).length c] 29)).heap.size by simp; omega)
                  have HOW := Lib.hid (HOi.out.alloc (.cells #[.slice (some ⟨b, o, none⟩) (ownTo N k N.places.length).length c] 29))
                  have HNW := Lib.hid (news0 wr (.slice (some ⟨b, o, none⟩) (ownTo N k N.places.length).length c) 29)
                  go_wp2_with (at_builtin
                               refine wpList_append_own_at _ rfl (.tmp 70) (.tmp 72) 34 rfl wB.heap.size 29 j0 _ 1 24 Try.underlying34 hj jz0 jz1 jz2 rfl (by decide) uv (islTo N k).length (lvals (islTo N k) a) rfl HOW.out ⟨wr.heap.size, 0, none⟩ 1 1 [.slice (some ⟨b, o, none⟩) (ownTo N k N.places.length).length c] rfl rfl HNW.out (oneSlice _ _ _) hk63 hk64 HBS.out ?_)
                  intro v5 w5 hown5 hg5 hnil hblk
                  have hblk' : v5.ownBlock = uv.ownBlock ∨ v5.ownBlock = some (wr.alloc (.cells #[.slice (some ⟨b, o, none⟩) (ownTo N k N.places.length).length c] 29)).heap.size := by rw [World.size_alloc]; exact hblk
                  have G1 : Hid (w5.ownsRow wB.heap.size 29 1 v5 (islTo N (k + 1)).length (lvals (islTo N (k + 1)) (a.put (islTo N k).length (some ⟨b, o, none⟩) c))) := by
                    rw [F.out, lvals_snoc, List.length_append]
                    exact Lib.hid hown5
                  have G2 := Lib.hid (show ∀ i, i < (islTo N (k + 1)).length → AwI (fun b => v5.ownBlock = some b) w5 ((a.put (islTo N k).length (some ⟨b, o, none⟩) c).p i) (listL (islTo N (k + 1)) i) ((a.put (islTo N k).length (some ⟨b, o, none⟩) c).pc i) from fun i hi => by
                    rw [F.out] at hi ⊢
                    rw [List.length_append] at hi
                    have hi : i < (islTo N k).length + 1 := hi
                    by_cases e : i = (islTo N k).length
                    · subst e
                      rw [listL_last]
                      simp only [DA.put, if_pos]
                      exact (HN.out.keep (Keep.alloc _ _)).grown (by decide) hg5 hblk'
                    · rw [listL_snoc (by omega)]
                      simp only [DA.put, if_neg e]
                      exact ((HAi.out i (by omega)).keep (Keep.alloc _ _)).grown (by decide) hg5 hblk')
                  have G3 := Lib.hid ((HBB.out.alloc hws _).grown hg5 (by simp; omega) (fun x hx => (HOi.out.lt x hx).1))
                  clear hown5 hg5 hnil hblk hblk' q0
                  go_wp2_with fail
                  go_roundw
                  case rel => exact ⟨k + 1, _, _, by omega, by go_num, rfl, G1, G2, G3⟩
                  case measure => simp [intOf]; omega
                · have F := Lib.hid (show islTo N (k + 1) = islTo N k by rw [islTo, if_neg e, List.append_nil])
                  have e1 : (listI (ownL N k) 0 == (k : Int)) = false := by simpa using e
                  clear e
                  go_wp2_with fail
                  go_roundw
                  case rel => exact ⟨k + 1, a, _, by omega, by go_num, rfl, by rw [F.out]; exact HOi, by rw [F.out]; exact HAi, HBB⟩
                  case measure => simp [intOf]; omega
          · obtain rfl : k = N.places.length := by omega
            clear hlt hk
            obtain ⟨A, c, hv, harr⟩ := own_row (show wr.ownsRow wB.heap.size 29 1 _ _ (flat _ 1 _) from HO.out)
            subst hv
            have HAR := Lib.hid (show ArrL wr A (islTo N N.places.length) c a from ⟨harr, fun i hi => (HA.out i hi).arr⟩)
            have HZ := Lib.hid (HX.out.trans (HB2.out.mono HX.out.size))
            clear harr HO HA
            go_wp2_with fail
            refine bodyPost_ret (v := .tuple #[.slice A (islTo N N.places.length).length c, .int .i64 0]) (by simp [results, Try.results10, go_sem]) rfl ⟨A, c, a, ?_, ?_, HZ.out⟩
            · rw [HF.out, HE.out]
            · rw [HF.out]; exact HAR.out
  · have HF := Lib.hid (show islOf N = [] from if_neg he)
    have d1 : (netErr N != 0) = true := by simpa using he
    clear he
    go_wp2_with fail
    refine bodyPost_ret (v := .tuple #[.slice none 0 0, .int .i64 (netErr N)]) (by simp [results, Try.results10, go_sem]) rfl ⟨none, 0, ⟨fun _ => none, fun _ => 0⟩, ?_, ?_, HW.out⟩
    · rw [HF.out]; rfl
    · rw [HF.out]
      exact ⟨⟨Nat.le_refl _, by decide, fun hh => absurd hh (by decide)⟩, fun i hi => absurd hi (Nat.not_lt_zero _)⟩
end Go.Proofs.Ytnjaadmmbdlfoaa
/- The reference's islands and needed roads; lists of lists that are the same. Condition: the net is right. -/
namespace Go.Proofs.Ytnjaadmmbdlfoaa
open Go.RowKit Fs

set_option maxHeartbeats 1600000 in
set_option maxRecDepth 100000 in
theorem lists_same (ls : List (List Int)) (A B : Option Addr) (c d : Nat) (a b : DA) (w : World) (hA : ArrL w A ls c a) (hB : ArrL w B ls d b) :
    Calls Try.prog 13 #[.slice A ls.length c, .slice B ls.length d] w fun e w' => e = .returned (.bool true) ∧ Below w.heap.size w w' := by
  have b1 := hA.1.1
  have b2 := hA.1.2.1
  have b3 := hB.1.1
  have b4 := hB.1.2.1
  have HA := Lib.hid hA
  have HB := Lib.hid hB
  clear hA hB
  go_enter Try.func13, Try.ntmps13
  go_wp2_with fail
  go_loopw [5] (fun i wr => ∃ k : Nat, k ≤ ls.length ∧ i = .int .i64 k ∧ Hid (Below w.heap.size w wr)) (fun i _ => ls.length - (intOf i).toNat)
  case atStart => exact ⟨0, Nat.zero_le _, rfl, Lib.hid (Below.refl _ _)⟩
  case round =>
    obtain ⟨k, hk, rfl, HX⟩ := hrel
    by_cases hlt : k < ls.length
    · have hkn : (k : Int) < (ls.length : Int) := by omega
      obtain ⟨p, o1, h1, c1⟩ := (HA.out.keep (Keep.below HX.out)).at_ hlt
      obtain ⟨q, o2, h2, c2⟩ := (HB.out.keep (Keep.below HX.out)).at_ hlt
      subst h1; subst h2
      have K1 : Hid (∀ w', Below wr.heap.size wr w' → ArrI w' (a.p k) (listL ls k) (a.pc k)) := Lib.hid fun w' hw => (HA.out.2 k hlt).keep (Keep.below (HX.out.trans (hw.mono HX.out.size)))
      have K2 : Hid (∀ w', Below wr.heap.size wr w' → ArrI w' (b.p k) (listL ls k) (b.pc k)) := Lib.hid fun w' hw => (HB.out.2 k hlt).keep (Keep.below (HX.out.trans (hw.mono HX.out.size)))
      obtain ⟨wq, hwq⟩ : ∃ wq : World, wq = wr := ⟨_, rfl⟩
      subst hwq
      go_wp2_with fail
      obtain ⟨C, Ci, Co⟩ := classOf wq
      refine quietC (C := C) (by kernel_rfl) (by kernel_rfl) (Co.out _ (Below.refl _ _).drew) ?_
      repeat (first
        | go_big_quiet_skip
        | (go_big_quiet_want; go_big_quiet_op; go_big_quiet_on)
        | (refine quiet_yes (by rfl) ?_
           apply Exists.intro
           refine ⟨fun w' hC => ?_, ?_⟩
           · have hbb := Ci.out _ hC
             have zz0 := Keep.below hbb _ _ c1
             have zz1 := Keep.below hbb _ _ c2
             go_simp
             first
               | done
               | rfl
               | (go_at_call 17
                  refine (ints_same (listL ls k) _ _ _ _ _ (K1.out _ hbb) (K2.out _ hbb)).mono ?_
                  rintro e' w1 ⟨rfl, hb1⟩
                  exact ⟨rfl, Co.out _ (hbb.trans (hb1.mono hbb.size))⟩)
           simp only [Act.put, List.setIfInBounds_toArray, List.set_cons_zero, List.set_cons_succ]))
      refine wpQuiet_nil ?_
      intro w7 hC7
      have hb7 := Ci.out _ hC7
      replace HX := Lib.hid (HX.out.trans (hb7.mono HX.out.size))
      clear hb7 hC7 Ci Co C K1 K2 c1 c2
      go_wp2_with fail
      go_roundw
      case rel => exact ⟨k + 1, by omega, by go_num, HX⟩
      case measure => simp [intOf]; omega
    · obtain rfl : k = ls.length := by omega
      clear hlt hk
      go_wp2_with fail
      go_ret
      exact ⟨rfl, HX.out⟩

theorem Fs.reach_in {N : Net} {X : Nat} {j : Nat} (hj : j < (reachL N X).length) : ∃ z : Nat, listI (reachL N X) j = z ∧ z < N.places.length := by
  have : listI (reachL N X) j ∈ reachL N X := by rw [listI_get hj]; exact List.getElem_mem hj
  obtain ⟨z, h1, h2, -⟩ := (mem_reachTo _).1 this
  exact ⟨z, h1, h2⟩
theorem Fs.mem_reachL {N : Net} {X k : Nat} (hk : k < N.places.length) : decide ((k : Int) ∈ reachL N X) = (listI (heights N X) k != -1) := by
  by_cases h : listI (heights N X) k = -1
  · rw [show (listI (heights N X) k != -1) = false by simpa using h]
    refine decide_eq_false fun hm => ?_
    obtain ⟨j, h1, h2, h3⟩ := (mem_reachTo _).1 hm
    have : j = k := by omega
    subst this
    exact h3 h
  · rw [show (listI (heights N X) k != -1) = true by simpa using h]
    exact decide_eq_true ((mem_reachTo _).2 ⟨k, rfl, hk, h⟩)
theorem Fs.take_filter {l : List Int} {p : Int → Bool} {j : Nat} (hj : j < l.length) : (l.take (j + 1)).filter p = (l.take j).filter p ++ (if p (listI l j) then [listI l j] else []) := by
  rw [List.take_succ_eq_append_getElem hj, List.filter_append, ← listI_get hj]
  congr 1
  by_cases h : p (listI l j) = true
  · simp [h]
  · simp [h]

set_option linter.unusedSimpArgs false in
set_option maxHeartbeats 12800000 in
set_option maxRecDepth 100000 in
theorem rIslands_any (N : Net) (v : Value) (w : World) (hN : RdNet w v N) (hE : netErr N = 0) :
    Calls Try.prog 14 #[v] w fun e w' => ∃ A c a, e = .returned (.slice A (islTo N N.places.length).length c) ∧ ArrL w' A (islTo N N.places.length) c a ∧ Below w.heap.size w w' := by
  have hN0 := Lib.hid hN
  obtain ⟨P, R, pc, rc, ar, rfl, m⟩ := hN
  have pb1 := m.places.le.1
  have pb2 := m.places.le.2
  clear m
  have BN := Lib.hid (BoxN.new w N P R pc rc 25)
  have h20 := (net_sound hE).2.1
  have HE := Lib.hid hE
  obtain ⟨i0, hi, hz0, hz1, hz2⟩ := info_parts Try.infoInt
  obtain ⟨j0, hj, jz0, jz1, jz2⟩ := info_parts Try.infoList
  clear hE
  go_enter Try.func14, Try.ntmps14
  go_upto_region 1 with fail
  generalize hwb : w.alloc _ = wB at *
  have HW : Hid (Below w.heap.size w wB) := by rw [← hwb]; exact Lib.hid ((Below.refl _ _).alloc (Nat.le_refl _) _)
  clear hwb
  go_wp2_with fail
  go_loopw [3, 4] (fun u i wr => ∃ (k : Nat) (a : DA) (uv : Value), k ≤ N.places.length ∧ i = .int .i64 k ∧ uv = u ∧ Hid (wr.ownsRow wB.heap.size 29 1 uv (islTo N k).length (lvals (islTo N k) a)) ∧ Hid (∀ i, i < (islTo N k).length → AwI (fun b => uv.ownBlock = some b) wr (a.p i) (listL (islTo N k) i) (a.pc i)) ∧ Hid (Below wB.heap.size wB wr)) (fun _ i _ => N.places.length - (intOf i).toNat)
  case atStart => exact ⟨0, ⟨fun _ => none, fun _ => 0⟩, _, Nat.zero_le _, rfl, rfl, Lib.hid (World.ownsRow_nil _ _ _ _), Lib.hid (fun i hi => absurd hi (Nat.not_lt_zero _)), Lib.hid (Below.refl _ _)⟩
  case round =>
    obtain ⟨k, a, uv, hk, rfl, rfl, HO, HA, HB2⟩ := hrel
    have HX := Lib.hid (HW.out.trans (HB2.out.mono HW.out.size))
    obtain ⟨n0, n1⟩ := BN.out.keep (Keep.below HB2.out)
    by_cases hlt : k < N.places.length
    · have hkn : (k : Int) < (N.places.length : Int) := by omega
      have hil := islTo_len N k
      obtain ⟨wq, hwq⟩ : ∃ wq : World, wq = wr := ⟨_, rfl⟩
      subst hwq
      go_wp2_with fail
      refine (rReaches_any N _ k _ (hN0.out.keep (Keep.below HX.out)) HE.out hlt).mono ?_
      rintro e' w2 ⟨AL, cl, rfl, hl, hb1⟩
      have hl1 := hl.le.1
      have hl2 := hl.le.2
      have HL := Lib.hid hl
      have hw2 := hb1.size
      have hrl : (reachL N k).length ≤ N.places.length := reachTo_len N k _
      have HBq := Lib.hid hb1
      clear hl hb1 n0 n1
      go_wp2_with fail
      go_loopw [5, 7] (fun y i wi => ∃ j : Nat, j ≤ (reachL N k).length ∧ i = .int .i64 j ∧ Hid (wi.ownsRow w2.heap.size 3 1 y (((reachL N k).take j).filter (ownP N k)).length (intVals (((reachL N k).take j).filter (ownP N k)))) ∧ Hid (Below w2.heap.size w2 wi)) (fun _ i _ => (reachL N k).length - (intOf i).toNat)
      case atStart => exact ⟨0, Nat.zero_le _, rfl, Lib.hid (World.ownsRow_nil _ _ _ _), Lib.hid (Below.refl _ _)⟩
      case round =>
        obtain ⟨j, hj2, rfl, HI, HB3⟩ := hrel
        have HBw := Lib.hid (HBq.out.trans (HB3.out.mono hw2))
        have HBB := Lib.hid (HB2.out.trans (HBw.out.mono HB2.out.size))
        have HXX := Lib.hid (HX.out.trans (HBw.out.mono HX.out.size))
        by_cases hlj : j < (reachL N k).length
        · have hjn : (j : Int) < ((reachL N k).length : Int) := by omega
          obtain ⟨z, hz, hzl⟩ := reach_in hlj
          have HZ := Lib.hid hz
          have hjl : (((reachL N k).take j).filter (ownP N k)).length ≤ j := Nat.le_trans (List.length_filter_le _ _) (by rw [List.length_take]; omega)
          obtain ⟨n0, n1⟩ := BN.out.keep (Keep.below HBB.out)
          obtain ⟨pb, po, hAe, q0⟩ := (HL.out.keep (Keep.below HB3.out)).at_ hlj
          subst hAe
          rw [hz] at q0
          clear hz
          have HBd : Hid (Below wr.heap.size wr wr.drew) := Lib.hid (Below.refl _ _).drew
          have MK : Hid (∀ w', Below wr.heap.size wr w' → w'.cell? ⟨w.heap.size, 0, none⟩ = some (.slice P N.places.length pc) ∧ w'.cell? ⟨w.heap.size, 1, none⟩ = some (.slice R N.roads.length rc) ∧ w'.cell? ⟨pb, po + j, none⟩ = some (.int .i64 (z : Int)) ∧ Hid (Below wr.heap.size wr w')) :=
            Lib.hid fun w' hw => ⟨Keep.below hw _ _ n0, Keep.below hw _ _ n1, Keep.below hw _ _ q0, Lib.hid hw⟩
          have KN : Hid (∀ w', Below wr.heap.size wr w' → RdNet w' (netV N P R pc rc) N) := Lib.hid fun w' hw => (hN0.out.keep (Keep.below (HXX.out.trans (hw.mono HXX.out.size))))
          obtain ⟨wi, hwi⟩ : ∃ wi : World, wi = wr := ⟨_, rfl⟩
          subst hwi
          go_wp2_with fail
          refine wp_region_held_drew (S := fun w' => w'.cell? ⟨w.heap.size, 0, none⟩ = some (.slice P N.places.length pc) ∧ w'.cell? ⟨w.heap.size, 1, none⟩ = some (.slice R N.roads.length rc) ∧ w'.cell? ⟨pb, po + j, none⟩ = some (.int .i64 (z : Int)) ∧ Hid (Below wi.heap.size wi w')) (by kernel_rfl) (MK.out _ HBd.out) (fun hHeld => ?_)
          refine wpAnyH_take (i := 0) (v := ?val0x1) rfl (by kernel_rfl) (by kernel_rfl) (by kernel_rfl) (fun _ _ _ h => h) (Or.inl ⟨by rfl, fun w9 hS9 => ?yields0x1⟩) (by assumption) ?later0x1
          case yields0x1 =>
            dsimp only at hS9
            go_simp
            try with_reducible rfl
          try simp only [Act.put, List.getElem_toArray, List.getElem_cons_succ, List.getElem_cons_zero, List.setIfInBounds_toArray, List.set_cons_zero, List.set_cons_succ]
          refine wpAnyH_take (i := 1) (v := ?val1x2) rfl (by kernel_rfl) (by kernel_rfl) (by kernel_rfl) (fun _ _ _ h => h) (Or.inl ⟨by rfl, fun w9 hS9 => ?yields1x2⟩) (by assumption) ?later1x2
          case yields1x2 =>
            dsimp only at hS9
            go_simp
            try with_reducible rfl
          try simp only [Act.put, List.getElem_toArray, List.getElem_cons_succ, List.getElem_cons_zero, List.setIfInBounds_toArray, List.set_cons_zero, List.set_cons_succ]
          refine wpAnyH_take (i := 2) (v := ?val2x3) rfl (by kernel_rfl) (by kernel_rfl) (by kernel_rfl) (fun _ _ _ h => h) (Or.inl ⟨by rfl, fun w9 hS9 => ?yields2x3⟩) (by assumption) ?later2x3
          case yields2x3 =>
            dsimp only at hS9
            go_simp
            try with_reducible rfl
          try simp only [Act.put, List.getElem_toArray, List.getElem_cons_succ, List.getElem_cons_zero, List.setIfInBounds_toArray, List.set_cons_zero, List.set_cons_succ]
          refine wpAnyH_take (i := 3) (v := ?val3x4) rfl (by kernel_rfl) (by kernel_rfl) (by kernel_rfl) (fun _ _ _ h => h) (Or.inl ⟨by rfl, fun w9 hS9 => ?yields3x4⟩) (by assumption) ?later3x4
          case yields3x4 =>
            dsimp only at hS9
            go_simp
            try with_reducible rfl
          try simp only [Act.put, List.getElem_toArray, List.getElem_cons_succ, List.getElem_cons_zero, List.setIfInBounds_toArray, List.set_cons_zero, List.set_cons_succ]
          refine wpAnyH_take (i := 4) (v := ?val4x5) rfl (by kernel_rfl) (by kernel_rfl) (by kernel_rfl) (fun _ _ _ h => h) (Or.inl ⟨by rfl, fun w9 hS9 => ?yields4x5⟩) (by assumption) ?later4x5
          case yields4x5 =>
            dsimp only at hS9
            go_simp
            try with_reducible rfl
          try simp only [Act.put, List.getElem_toArray, List.getElem_cons_succ, List.getElem_cons_zero, List.setIfInBounds_toArray, List.set_cons_zero, List.set_cons_succ]
          refine wpAnyH_take (i := 6) (v := ?val6x6) rfl (by kernel_rfl) (by kernel_rfl) (by kernel_rfl) (fun _ _ _ h => h) (Or.inl ⟨by rfl, fun w9 hS9 => ?yields6x6⟩) (by assumption) ?later6x6
          case yields6x6 =>
            dsimp only at hS9
            go_simp
            try with_reducible rfl
          try simp only [Act.put, List.getElem_toArray, List.getElem_cons_succ, List.getElem_cons_zero, List.setIfInBounds_toArray, List.set_cons_zero, List.set_cons_succ]
          refine wpAnyH_ready (rs := [5]) (by kernel_rfl) (by simp) ?_
          refine AllReadyH.cons rfl (fun K hK => ?_) AllReadyH.nil
          go_simp
          go_split_ands
          refine (rReaches_any N _ z _ (KN.out _ (Hid.out (by assumption))) HE.out hzl).mono ?_
          rintro e' w5 ⟨A5, k5, rfl, h5, hb1⟩
          replace h5 := Lib.hid h5
          go_wp2_with fail
          refine hK.out _ _ ?_ (fun hHeld => ?_)
          · (try dsimp only)
            (go_split_ands; exact MK.out _ (Below.trans (Hid.out (by assumption)) (hb1.mono (Hid.out (by assumption) : Below wi.heap.size wi _).size)))
          clear hK K
          try simp only [Act.put, List.getElem_toArray, List.getElem_cons_succ, List.getElem_cons_zero, List.setIfInBounds_toArray, List.set_cons_zero, List.set_cons_succ]
          refine wpAnyH_ready (rs := [7]) (by kernel_rfl) (by simp) ?_
          refine AllReadyH.cons rfl (fun K hK => ?_) AllReadyH.nil
          go_simp
          go_split_ands
          refine (has_any (reachL N z) A5 k5 k _ h5.out).mono ?_
          rintro e' w6 ⟨rfl, hb1⟩
          go_wp2_with fail
          refine hK.out _ _ ?_ (fun hHeld => ?_)
          · (try dsimp only)
            (go_split_ands; exact MK.out _ (Below.trans (Hid.out (by assumption)) (hb1.mono (Hid.out (by assumption) : Below wi.heap.size wi _).size)))
          clear hK K
          try simp only [Act.put, List.getElem_toArray, List.getElem_cons_succ, List.getElem_cons_zero, List.setIfInBounds_toArray, List.set_cons_zero, List.set_cons_succ]
          refine wpAnyH_done (by kernel_rfl) ?_ _
          have hbb := hHeld.2.2.2.out
          clear hHeld n0 n1 MK KN HBd h5
          have q1 := Keep.below hbb _ _ q0
          have HI2 := Lib.hid (own_below HI.out hbb)
          have HB4 := Lib.hid (HB3.out.trans (hbb.mono HB3.out.size))
          have hws : w2.heap.size ≤ w6.heap.size := HB4.out.size
          clear hbb q0
          rw [mem_reachL hlt]
          have hpz : ownP N k (z : Int) = (listI (heights N z) k != -1) := rfl
          have FT := Lib.hid (take_filter (l := reachL N k) (p := ownP N k) hlj)
          cases hc : (listI (heights N z) k != -1) with
          | false =>
            have F := Lib.hid (show ((reachL N k).take (j + 1)).filter (ownP N k) = ((reachL N k).take j).filter (ownP N k) by rw [FT.out, HZ.out, hpz, hc]; simp)
            clear hc hpz FT
            go_wp2_with fail
            go_roundw
            case rel => exact ⟨j + 1, by omega, by go_num, by rw [F.out]; exact HI2, HB4⟩
            case measure => simp [intOf]; omega
          | true =>
            have F := Lib.hid (show ((reachL N k).take (j + 1)).filter (ownP N k) = ((reachL N k).take j).filter (ownP N k) ++ [(z : Int)] by rw [FT.out, HZ.out, hpz, hc]; simp)
            clear hc hpz FT
            go_wp2_with (at_builtin; refine wpList_append_own _ rfl (.tmp 32) (.tmp 37) 29 rfl w2.heap.size 3 i0 (.int .i64 0) 1 8 Try.underlying29 hi hz0 hz1 hz2 rfl (by decide) _ _ _ rfl (HI2.out.alloc _) ⟨w6.heap.size, 0, none⟩ 1 1 [.int .i64 (z : Int)] rfl rfl ?c1 ?c2 ?c3 ?c4 ?c5 ?_)
            case c1 => exact news0 _ _ _
            case c2 => exact oneInt _
            case c3 => unfold maxLen; omega
            case c4 => omega
            case c5 => simp; omega
            intro v3 w3 hown3 hg3 _
            have HB5 := Lib.hid ((HB4.out.alloc hws _).grown hg3 (by simp; omega) (fun j hj => (HI2.out.lt j hj).1))
            have HI3 : Hid (w3.ownsRow w2.heap.size 3 1 v3 (((reachL N k).take (j + 1)).filter (ownP N k)).length (intVals (((reachL N k).take (j + 1)).filter (ownP N k)))) := by
              rw [F.out, intVals_snoc, List.length_append]
              exact Lib.hid hown3
            clear hown3 hg3 F HI HI2
            go_wp2_with fail
            go_roundw
            case rel => exact ⟨j + 1, by omega, by go_num, HI3, HB5⟩
            case measure => simp [intOf]; omega
        · obtain rfl : j = (reachL N k).length := by omega
          clear hlj hj2
          rw [List.take_length] at HI
          have HI : Hid (wr.ownsRow w2.heap.size 3 1 _ (ownL N k).length (intVals (ownL N k))) := HI
          obtain ⟨A, c, hv, harr⟩ := own_arr HI.out
          subst hv
          have hab := own_above HI.out
          have hpos := own_self HE.out hlt
          have hol : (ownL N k).length ≤ N.places.length := ownTo_len N k _
          obtain ⟨b, o, hAe, q0⟩ := harr.at_ (k := 0) hpos
          subst hAe
          rw [Nat.add_zero] at q0
          have HN := Lib.hid (Aw.new (S := fun b => uv.ownBlock = some b) harr hab (fun b hb e => by have := (HO.out.lt b e).2; omega))
          have HAi := Lib.hid fun i hi => (HA.out i hi).keep (Keep.below HBw.out)
          have HOi := Lib.hid (own_below HO.out HBw.out)
          have hws : wB.heap.size ≤ wr.heap.size := HBB.out.size
          have hpn : (0 : Int) < (((ownL N k).length : Nat) : Int) := by omega
          clear harr hab HI
          obtain ⟨nk, hnk2⟩ : ∃ nk, (ownL N k).length = nk := ⟨_, rfl⟩
          have HNK := Lib.hid hnk2
          rw [hnk2] at hpn hol hpos ⊢
          clear hnk2
          by_cases e : listI (ownL N k) 0 = k
          · have F := Lib.hid (show islTo N (k + 1) = islTo N k ++ [ownL N k] by rw [islTo, if_pos e])
            have e1 : (listI (ownL N k) 0 == (k : Int)) = true := by simpa using e
            clear e
            have hk63 : (islTo N k).length + 1 ≤ maxLen := by unfold maxLen; omega
            have hk64 : ((islTo N k).length + 1) * 24 ≤ 140737488355328 := by omega
            have HBS := Lib.hid (show wB.heap.size ≤ (wr.alloc (.cells #[.slice (some ⟨b, o, none⟩) nk c] 29)).heap.size by simp; omega)
            have HOW := Lib.hid (HOi.out.alloc (.cells #[.slice (some ⟨b, o, none⟩) nk c] 29))
            have HNW := Lib.hid (news0 wr (.slice (some ⟨b, o, none⟩) nk c) 29)
            go_wp2_with (at_builtin
                         refine wpList_append_own_at _ rfl (.tmp 44) (.tmp 46) 34 rfl wB.heap.size 29 j0 _ 1 24 Try.underlying34 hj jz0 jz1 jz2 rfl (by decide) uv (islTo N k).length (lvals (islTo N k) a) rfl HOW.out ⟨wr.heap.size, 0, none⟩ 1 1 [.slice (some ⟨b, o, none⟩) nk c] rfl rfl HNW.out (oneSlice _ _ _) hk63 hk64 HBS.out ?_)
            intro v5 w5 hown5 hg5 hnil hblk
            have hblk' : v5.ownBlock = uv.ownBlock ∨ v5.ownBlock = some (wr.alloc (.cells #[.slice (some ⟨b, o, none⟩) nk c] 29)).heap.size := by rw [World.size_alloc]; exact hblk
            have G1 : Hid (w5.ownsRow wB.heap.size 29 1 v5 (islTo N (k + 1)).length (lvals (islTo N (k + 1)) (a.put (islTo N k).length (some ⟨b, o, none⟩) c))) := by
              rw [F.out, lvals_snoc, List.length_append, HNK.out]
              exact Lib.hid hown5
            have G2 := Lib.hid (show ∀ i, i < (islTo N (k + 1)).length → AwI (fun b => v5.ownBlock = some b) w5 ((a.put (islTo N k).length (some ⟨b, o, none⟩) c).p i) (listL (islTo N (k + 1)) i) ((a.put (islTo N k).length (some ⟨b, o, none⟩) c).pc i) from fun i hi => by
              rw [F.out] at hi ⊢
              rw [List.length_append] at hi
              have hi : i < (islTo N k).length + 1 := hi
              by_cases e : i = (islTo N k).length
              · subst e
                rw [listL_last]
                simp only [DA.put, if_pos]
                exact (HN.out.keep (Keep.alloc _ _)).grown (by decide) hg5 hblk'
              · rw [listL_snoc (by omega)]
                simp only [DA.put, if_neg e]
                exact ((HAi.out i (by omega)).keep (Keep.alloc _ _)).grown (by decide) hg5 hblk')
            have G3 := Lib.hid ((HBB.out.alloc hws _).grown hg5 (by simp; omega) (fun x hx => (HOi.out.lt x hx).1))
            clear hown5 hg5 hnil hblk hblk' q0
            go_wp2_with fail
            go_roundw
            case rel => exact ⟨k + 1, _, _, by omega, by go_num, rfl, G1, G2, G3⟩
            case measure => simp [intOf]; omega
          · have F := Lib.hid (show islTo N (k + 1) = islTo N k by rw [islTo, if_neg e, List.append_nil])
            have e1 : (listI (ownL N k) 0 == (k : Int)) = false := by simpa using e
            clear e
            go_wp2_with fail
            go_roundw
            case rel => exact ⟨k + 1, a, _, by omega, by go_num, rfl, by rw [F.out]; exact HOi, by rw [F.out]; exact HAi, HBB⟩
            case measure => simp [intOf]; omega
    · obtain rfl : k = N.places.length := by omega
      clear hlt hk
      obtain ⟨A, c, hv, harr⟩ := own_row (show wr.ownsRow wB.heap.size 29 1 _ _ (flat _ 1 _) from HO.out)
      subst hv
      have HAR := Lib.hid (show ArrL wr A (islTo N N.places.length) c a from ⟨harr, fun i hi => (HA.out i hi).arr⟩)
      clear harr HO HA
      go_wp2_with fail
      go_ret
      exact ⟨A, c, a, rfl, HAR.out, HX.out⟩

set_option linter.unusedSimpArgs false in
set_option maxHeartbeats 6400000 in
set_option maxRecDepth 100000 in
theorem rNeeded_any (N : Net) (v : Value) (X Y : Nat) (w : World) (hN : RdNet w v N) (hE : netErr N = 0) (hXl : X < N.places.length) (hYl : Y < N.places.length) (hL : ∀ i, i < N.roads.length → (listD N.roads i).pts.length ≤ 1000000) :
    Calls Try.prog 19 #[v, pairV X Y] w fun e w' => ∃ A c, e = .returned (.slice A (needed N X Y).length c) ∧ ArrI w' A (needed N X Y) c ∧ Below w.heap.size w w' := by
  have hN0 := Lib.hid hN
  obtain ⟨P, R, pc, rc, ar, rfl, m⟩ := hN
  have rb1 := m.roads.le.1
  have rb2 := m.roads.le.2
  clear m
  have BN := Lib.hid ((BoxN.new w N P R pc rc 25).keep (Keep.alloc _ (.cells #[.int .i64 X, .int .i64 Y] 26)))
  have BT := Lib.hid (PairAt.new1 w (.cells #[.slice P N.places.length pc, .slice R N.roads.length rc] 25) X Y 26)
  have h20 := (net_sound hE).2.1
  have h60 := (net_sound hE).2.2.1
  have HE := Lib.hid hE
  have HLP := Lib.hid hL
  obtain ⟨i0, hi, hz0, hz1, hz2⟩ := info_parts Try.infoInt
  clear hE hL
  go_enter Try.func19, Try.ntmps19
  go_upto_region 1 with fail
  generalize hwb : (w.alloc _).alloc _ = wb at *
  have HW : Hid (Below w.heap.size w wb) := by rw [← hwb]; exact Lib.hid (((Below.refl _ _).alloc (Nat.le_refl _) _).alloc (by simp) _)
  clear hwb
  go_wp2_with fail
  go_loopw [5, 6] (fun u i wr => ∃ k : Nat, k ≤ N.roads.length ∧ i = .int .i64 k ∧ Hid (wr.ownsRow wb.heap.size 3 1 u (neededTo N X Y k).length (intVals (neededTo N X Y k))) ∧ Hid (Below wb.heap.size wb wr)) (fun _ i _ => N.roads.length - (intOf i).toNat)
  case atStart => exact ⟨0, Nat.zero_le _, rfl, Lib.hid (World.ownsRow_nil _ _ _ _), Lib.hid (Below.refl _ _)⟩
  case round =>
    obtain ⟨k, hk, rfl, HO, HB⟩ := hrel
    have HX := Lib.hid (HW.out.trans (HB.out.mono HW.out.size))
    obtain ⟨n0, n1⟩ := BN.out.keep (Keep.below HB.out)
    obtain ⟨c0, c1⟩ := BT.out.keep (Keep.below HB.out)
    by_cases hlt : k < N.roads.length
    · have hkn : (k : Int) < (N.roads.length : Int) := by omega
      have hlen := neededTo_len N X Y k
      have HBd : Hid (Below wr.heap.size wr wr.drew) := Lib.hid (Below.refl _ _).drew
      have HEk := Lib.hid (wo_right HE.out hlt)
      have MK : Hid (∀ w', Below wr.heap.size wr w' → w'.cell? ⟨w.heap.size, 0, none⟩ = some (.slice P N.places.length pc) ∧ w'.cell? ⟨w.heap.size, 1, none⟩ = some (.slice R N.roads.length rc) ∧ w'.cell? ⟨w.heap.size + 1, 0, none⟩ = some (.int .i64 X) ∧ w'.cell? ⟨w.heap.size + 1, 1, none⟩ = some (.int .i64 Y) ∧ Hid (Below wr.heap.size wr w')) :=
        Lib.hid fun w' hw => ⟨Keep.below hw _ _ n0, Keep.below hw _ _ n1, Keep.below hw _ _ c0, Keep.below hw _ _ c1, Lib.hid hw⟩
      have KN : Hid (∀ w', Below wr.heap.size wr w' → RdNet w' (netV N P R pc rc) N) := Lib.hid fun w' hw => (hN0.out.keep (Keep.below (HX.out.trans (hw.mono HX.out.size))))
      obtain ⟨wq, hwq⟩ : ∃ wq : World, wq = wr := ⟨_, rfl⟩
      subst hwq
      go_wp2_with fail
      refine wp_region_held_drew (S := fun w' => w'.cell? ⟨w.heap.size, 0, none⟩ = some (.slice P N.places.length pc) ∧ w'.cell? ⟨w.heap.size, 1, none⟩ = some (.slice R N.roads.length rc) ∧ w'.cell? ⟨w.heap.size + 1, 0, none⟩ = some (.int .i64 X) ∧ w'.cell? ⟨w.heap.size + 1, 1, none⟩ = some (.int .i64 Y) ∧ Hid (Below wq.heap.size wq w')) (by kernel_rfl) (MK.out _ HBd.out) (fun hHeld => ?_)
      refine wpAnyH_take (i := 0) (v := ?val0x7) rfl (by kernel_rfl) (by kernel_rfl) (by kernel_rfl) (fun _ _ _ h => h) (Or.inl ⟨by rfl, fun w9 hS9 => ?yields0x7⟩) (by assumption) ?later0x7
      case yields0x7 =>
        dsimp only at hS9
        go_simp
        try with_reducible rfl
      try simp only [Act.put, List.getElem_toArray, List.getElem_cons_succ, List.getElem_cons_zero, List.setIfInBounds_toArray, List.set_cons_zero, List.set_cons_succ]
      refine wpAnyH_take (i := 1) (v := ?val1x8) rfl (by kernel_rfl) (by kernel_rfl) (by kernel_rfl) (fun _ _ _ h => h) (Or.inl ⟨by rfl, fun w9 hS9 => ?yields1x8⟩) (by assumption) ?later1x8
      case yields1x8 =>
        dsimp only at hS9
        go_simp
        try with_reducible rfl
      try simp only [Act.put, List.getElem_toArray, List.getElem_cons_succ, List.getElem_cons_zero, List.setIfInBounds_toArray, List.set_cons_zero, List.set_cons_succ]
      refine wpAnyH_take (i := 3) (v := ?val3x9) rfl (by kernel_rfl) (by kernel_rfl) (by kernel_rfl) (fun _ _ _ h => h) (Or.inl ⟨by rfl, fun w9 hS9 => ?yields3x9⟩) (by assumption) ?later3x9
      case yields3x9 =>
        dsimp only at hS9
        go_simp
        try with_reducible rfl
      try simp only [Act.put, List.getElem_toArray, List.getElem_cons_succ, List.getElem_cons_zero, List.setIfInBounds_toArray, List.set_cons_zero, List.set_cons_succ]
      refine wpAnyH_take (i := 4) (v := ?val4x10) rfl (by kernel_rfl) (by kernel_rfl) (by kernel_rfl) (fun _ _ _ h => h) (Or.inl ⟨by rfl, fun w9 hS9 => ?yields4x10⟩) (by assumption) ?later4x10
      case yields4x10 =>
        dsimp only at hS9
        go_simp
        try with_reducible rfl
      try simp only [Act.put, List.getElem_toArray, List.getElem_cons_succ, List.getElem_cons_zero, List.setIfInBounds_toArray, List.set_cons_zero, List.set_cons_succ]
      refine wpAnyH_take (i := 6) (v := ?val6x11) rfl (by kernel_rfl) (by kernel_rfl) (by kernel_rfl) (fun _ _ _ h => h) (Or.inl ⟨by rfl, fun w9 hS9 => ?yields6x11⟩) (by assumption) ?later6x11
      case yields6x11 =>
        dsimp only at hS9
        go_simp
        try with_reducible rfl
      try simp only [Act.put, List.getElem_toArray, List.getElem_cons_succ, List.getElem_cons_zero, List.setIfInBounds_toArray, List.set_cons_zero, List.set_cons_succ]
      refine wpAnyH_take (i := 7) (v := ?val7x12) rfl (by kernel_rfl) (by kernel_rfl) (by kernel_rfl) (fun _ _ _ h => h) (Or.inl ⟨by rfl, fun w9 hS9 => ?yields7x12⟩) (by assumption) ?later7x12
      case yields7x12 =>
        dsimp only at hS9
        go_simp
        try with_reducible rfl
      try simp only [Act.put, List.getElem_toArray, List.getElem_cons_succ, List.getElem_cons_zero, List.setIfInBounds_toArray, List.set_cons_zero, List.set_cons_succ]
      refine wpAnyH_ready (rs := [2]) (by kernel_rfl) (by simp) ?_
      refine AllReadyH.cons rfl (fun K hK => ?_) AllReadyH.nil
      go_simp
      go_split_ands
      refine (rWithout_any N _ k _ (KN.out _ (Hid.out (by assumption))) hlt (by omega) (by omega) HLP.out).mono ?_
      rintro e' w5 ⟨v5, rfl, h5, hb1⟩
      replace h5 := Lib.hid h5
      go_wp2_with fail
      refine hK.out _ _ ?_ (fun hHeld => ?_)
      · (try dsimp only)
        (go_split_ands; exact MK.out _ (Below.trans (Hid.out (by assumption)) (hb1.mono (Hid.out (by assumption) : Below wq.heap.size wq _).size)))
      clear hK K
      try simp only [Act.put, List.getElem_toArray, List.getElem_cons_succ, List.getElem_cons_zero, List.setIfInBounds_toArray, List.set_cons_zero, List.set_cons_succ]
      refine wpAnyH_ready (rs := [5]) (by kernel_rfl) (by simp) ?_
      refine AllReadyH.cons rfl (fun K hK => ?_) AllReadyH.nil
      go_simp
      go_split_ands
      refine (rReaches_any (withoutN N k) _ X _ h5.out HEk.out hXl).mono ?_
      rintro e' w6 ⟨A6, k6, rfl, h6, hb1⟩
      replace h6 := Lib.hid h6
      go_wp2_with fail
      refine hK.out _ _ ?_ (fun hHeld => ?_)
      · (try dsimp only)
        (go_split_ands; exact MK.out _ (Below.trans (Hid.out (by assumption)) (hb1.mono (Hid.out (by assumption) : Below wq.heap.size wq _).size)))
      clear hK K
      try simp only [Act.put, List.getElem_toArray, List.getElem_cons_succ, List.getElem_cons_zero, List.setIfInBounds_toArray, List.set_cons_zero, List.set_cons_succ]
      refine wpAnyH_ready (rs := [8]) (by kernel_rfl) (by simp) ?_
      refine AllReadyH.cons rfl (fun K hK => ?_) AllReadyH.nil
      go_simp
      go_split_ands
      refine (has_any (reachL (withoutN N k) X) A6 k6 Y _ h6.out).mono ?_
      rintro e' w7 ⟨rfl, hb1⟩
      go_wp2_with fail
      refine hK.out _ _ ?_ (fun hHeld => ?_)
      · (try dsimp only)
        (go_split_ands; exact MK.out _ (Below.trans (Hid.out (by assumption)) (hb1.mono (Hid.out (by assumption) : Below wq.heap.size wq _).size)))
      clear hK K
      try simp only [Act.put, List.getElem_toArray, List.getElem_cons_succ, List.getElem_cons_zero, List.setIfInBounds_toArray, List.set_cons_zero, List.set_cons_succ]
      refine wpAnyH_take (i := 9) (v := ?val9x13) rfl (by kernel_rfl) (by kernel_rfl) (by kernel_rfl) (fun _ _ _ h => h) (Or.inl ⟨by rfl, fun w9 hS9 => ?yields9x13⟩) (by assumption) ?later9x13
      case yields9x13 =>
        dsimp only at hS9
        go_simp
        try with_reducible rfl
      try simp only [Act.put, List.getElem_toArray, List.getElem_cons_succ, List.getElem_cons_zero, List.setIfInBounds_toArray, List.set_cons_zero, List.set_cons_succ]
      refine wpAnyH_done (by kernel_rfl) ?_ _
      have hbb := hHeld.2.2.2.2.out
      clear hHeld n0 n1 c0 c1 MK KN HBd h5 h6
      have HO2 := Lib.hid (own_below HO.out hbb)
      have HB2 := Lib.hid (HB.out.trans (hbb.mono HB.out.size))
      have hws : wb.heap.size ≤ w7.heap.size := HB2.out.size
      clear hbb
      rw [mem_reachL (N := withoutN N k) (show Y < (withoutN N k).places.length from hYl)]
      by_cases hz : listI (heights (withoutN N k) X) Y = -1
      · have F := Lib.hid (show neededTo N X Y (k + 1) = neededTo N X Y k ++ [(k : Int)] by rw [neededTo, if_pos hz])
        rw [hz]
        clear hz
        go_wp2_with (at_builtin; refine wpList_append_own _ rfl (.tmp 24) (.tmp 26) 29 rfl wb.heap.size 3 i0 (.int .i64 0) 1 8 Try.underlying29 hi hz0 hz1 hz2 rfl (by decide) _ _ _ rfl (HO2.out.alloc _) ⟨w7.heap.size, 0, none⟩ 1 1 [.int .i64 (k : Int)] rfl rfl ?c1 ?c2 ?c3 ?c4 ?c5 ?_)
        case c1 => exact news0 _ _ _
        case c2 => exact oneInt _
        case c3 => unfold maxLen; omega
        case c4 => omega
        case c5 => simp; omega
        intro v3 w3 hown3 hg3 _
        have HB3 := Lib.hid ((HB2.out.alloc hws _).grown hg3 (by simp; omega) (fun j hj => (HO2.out.lt j hj).1))
        have HO3 : Hid (w3.ownsRow wb.heap.size 3 1 v3 (neededTo N X Y (k + 1)).length (intVals (neededTo N X Y (k + 1)))) := by
          rw [F.out, intVals_snoc, List.length_append]
          exact Lib.hid hown3
        clear hown3 hg3 F HO HO2
        go_wp2_with fail
        go_roundw
        case rel => exact ⟨k + 1, by omega, by go_num, HO3, HB3⟩
        case measure => simp [intOf]; omega
      · have F := Lib.hid (show neededTo N X Y (k + 1) = neededTo N X Y k by rw [neededTo, if_neg hz, List.append_nil])
        rw [show (listI (heights (withoutN N k) X) Y != -1) = true by simpa using hz]
        clear hz
        go_wp2_with fail
        go_roundw
        case rel => exact ⟨k + 1, by omega, by go_num, by rw [F.out]; exact HO2, HB2⟩
        case measure => simp [intOf]; omega
    · obtain rfl : k = N.roads.length := by omega
      clear hlt hk
      obtain ⟨A, c, hv, harr⟩ := own_arr HO.out
      subst hv
      have HA := Lib.hid harr
      clear harr HO
      go_wp2_with fail
      go_ret
      exact ⟨A, c, rfl, HA.out, HX.out⟩
end Go.Proofs.Ytnjaadmmbdlfoaa
