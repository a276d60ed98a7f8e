/- Lists of items and of claims: the reference's ItemsErr, ClaimsErr, BothErr. No condition. -/
import Derived.Test.YtfjdnbnalihjiaaGreatDoorGM
namespace Go.Proofs.YtfjdnbnalihjiaaGreatDoor
open Go.RowKit Fs

def nmVals (l : List ByteArray) : List Value := l.map Value.string
theorem nmVals_snoc (l : List ByteArray) (x : ByteArray) : nmVals (l ++ [x]) = nmVals l ++ [.string x] := by simp [nmVals]
theorem oneStrG (n : ByteArray) : ∀ u ∈ [Value.string n], u.oneCell' = true := by
  intro u hu
  have : u = .string n := by simpa using hu
  subst this
  rfl
theorem gown_strs {w : World} {B : Nat} {e : TypeId} {v : Value} {l : List ByteArray} (h : w.ownsRow B e 1 v l.length (nmVals l)) : ∃ A c, v = .slice A l.length c ∧ ArrS w A l c := by
  have e1 : nmVals l = flat l.length 1 fun i _ => .string (listS l i) := by
    apply List.ext_getElem?
    intro t
    by_cases h0 : t < l.length
    · rw [flat_get t (by omega), Nat.div_one]
      show (l.map Value.string)[t]? = _
      rw [List.getElem?_map, List.getElem?_eq_getElem h0]
      unfold listS
      simp [List.getD_eq_getElem?_getD, List.getElem?_eq_getElem h0]
    · rw [List.getElem?_eq_none (by unfold nmVals; rw [List.length_map]; omega), List.getElem?_eq_none (by simp [flat]; omega)]
  rw [e1] at h
  exact own_row h
theorem Tryz.infoTextG : (Tryz.prog.info? 9).map (fun i => (i.zero, i.size, i.bytes)) = some (some (.string ⟨#[]⟩), 1, 16) := by kernel_rfl
/-- The names of the first k things. -/
def Fs.nmTo (l : List Thg) : Nat → List ByteArray
  | 0 => []
  | k + 1 => nmTo l k ++ [(lThg l k).name]
theorem Fs.nm_len (l : List Thg) (k : Nat) : (nmTo l k).length = k := by
  induction k with
  | zero => rfl
  | succ k ih => rw [nmTo, List.length_append, ih]; rfl
theorem Fs.nm_at (l : List Thg) (k j : Nat) (h : j < k) : listS (nmTo l k) j = (lThg l j).name := by
  induction k with
  | zero => omega
  | succ k ih =>
    rw [nmTo]
    unfold listS
    rw [List.getD_eq_getElem?_getD]
    by_cases e : j = k
    · subst e
      rw [List.getElem?_append_right (by rw [nm_len]; exact Nat.le_refl _), nm_len, Nat.sub_self]
      rfl
    · rw [List.getElem?_append_left (by rw [nm_len]; omega), ← List.getD_eq_getElem?_getD]
      exact ih (by omega)
theorem gown_nm {w : World} {B : Nat} {e : TypeId} {v : Value} {l : List Thg} {k : Nat} (h : w.ownsRow B e 1 v k (nmVals (nmTo l k))) : ∃ A c, v = .slice A k c ∧ ArrS w A (nmTo l k) c := by
  have h2 : w.ownsRow B e 1 v (nmTo l k).length (nmVals (nmTo l k)) := by rw [nm_len]; exact h
  obtain ⟨A, c, e, m⟩ := gown_strs h2
  rw [nm_len] at e
  exact ⟨A, c, e, m⟩
theorem Fs.nm_has (l : List Thg) (x : ByteArray) (k : Nat) : hasText (listS (nmTo l k)) k x = hasText (fun j => (lThg l j).name) k x := by
  unfold hasText
  rw [Bool.eq_iff_iff, List.any_eq_true, List.any_eq_true]
  constructor
  · rintro ⟨j, hj, h⟩
    rw [List.mem_range] at hj
    rw [nm_at l k j hj] at h
    exact ⟨j, List.mem_range.2 hj, h⟩
  · rintro ⟨j, hj, h⟩
    rw [List.mem_range] at hj
    exact ⟨j, List.mem_range.2 hj, by rw [nm_at l k j hj]; exact h⟩
theorem Fs.thgs_hit {l : List Thg} {k : Nat} {x : Int} (h : ¬ 12 < l.length) (hk : k < l.length) (h1 : ∀ j, j < k → thgAt l j = 0) (h2 : thgAt l k = x) (h3 : x ≠ 0) : thgsErr l = x := by
  unfold thgsErr
  rw [if_neg h, (fst_hit hk h1 (by rw [h2]; exact h3)).1, h2]
set_option maxHeartbeats 6400000 in
set_option maxRecDepth 100000 in
theorem rItemsErr_any (l : List Thg) (A : Option Addr) (c : Nat) (a : GA) (w : World) (h : ArrTh w A l c a) :
    Calls Tryz.prog 36 #[.slice A l.length c] w fun e w' => e = .returned (.int .i64 (thgsErr l)) ∧ Below w.heap.size w w' := by
  obtain ⟨i0, hi, hz0, hz1, hz2⟩ := info_parts Tryz.infoTextG
  have b1 := h.le.1
  have b2 := h.le.2
  have HA := Lib.hid h
  clear h
  go_enter Tryz.func36, Tryz.ntmps36
  by_cases h40 : 12 < l.length
  · have G1 := Lib.hid (show thgsErr l = 8 from if_pos h40)
    have d1 : decide ((l.length : Int) > 12) = true := decide_eq_true (by omega)
    have d2 : decide ((12 : Int) < (l.length : Int)) = true := decide_eq_true (by omega)
    clear h40
    go_wp2_with fail
    go_ret
    exact ⟨ret_int G1.out.symm, Below.refl _ _⟩
  · have H40 := Lib.hid h40
    have d1 : decide ((l.length : Int) > 12) = false := decide_eq_false (by omega)
    have d2 : decide ((12 : Int) < (l.length : Int)) = false := decide_eq_false (by omega)
    go_wp2_with fail
    go_loopw [3, 4] (fun v i wr => ∃ k : Nat, k ≤ l.length ∧ i = .int .i64 k ∧ Hid (wr.ownsRow w.heap.size 9 1 v k (nmVals (nmTo l k))) ∧ Hid (∀ j, j < k → thgAt l j = 0) ∧ Hid (Below w.heap.size w wr)) (fun _ i _ => l.length - (intOf i).toNat)
    case atStart => exact ⟨0, Nat.zero_le _, rfl, Lib.hid (World.ownsRow_nil _ _ _ _), Lib.hid fun j hj => absurd hj (Nat.not_lt_zero _), Lib.hid (Below.refl _ _)⟩
    case round =>
      obtain ⟨k, hk, rfl, HO, Hn, HB⟩ := hrel
      obtain ⟨A2, c2, rfl, hs2⟩ := gown_nm HO.out
      have HS := Lib.hid hs2
      clear hs2
      by_cases hlt : k < l.length
      · have hkn : (k : Int) < (l.length : Int) := by omega
        obtain ⟨b, o, rfl, q, qm⟩ := (HA.out.keep (Keep.below HB.out)).at_ hlt
        obtain ⟨q0, q1, q2, q3⟩ := q
        have QM := Lib.hid qm
        clear qm
        go_wp2_with fail
        refine (rCheckItem_any (lThg l k) _ _ ⟨_, _, rfl, QM.out⟩).mono ?_
        rintro e' w1 ⟨rfl, hb1⟩
        have HB1 := Lib.hid (HB.out.trans (hb1.mono HB.out.size))
        replace HO := Lib.hid (below_of_own HO.out hb1)
        replace HS := Lib.hid (Arr.keep (Keep.below hb1) HS.out)
        have p0 := Keep.below hb1 _ _ q0
        clear hb1 q0 q1 q2 q3 QM HB
        by_cases he : thgErr (lThg l k) = 0
        · rw [he]
          cases ht : hasText (fun j => (lThg l j).name) k (lThg l k).name with
          | true =>
            have F := Lib.hid (thgs_hit (x := 5) H40.out hlt Hn.out (by unfold thgAt; rw [if_neg (fun hh => hh he), if_pos ht]) (by decide))
            have T := Lib.hid ((nm_has l (lThg l k).name k).trans ht)
            clear he ht
            go_wp2_with fail
            refine (hasText_any (nmTo l k) A2 c2 k (lThg l k).name _ HS.out (Nat.le_of_eq (nm_len l k).symm)).mono ?_
            rintro e' w2 ⟨rfl, rfl⟩
            rw [T.out]
            go_wp2_with fail
            go_ret
            exact ⟨ret_int F.out.symm, HB1.out⟩
          | false =>
            have G : Hid (∀ j, j < k + 1 → thgAt l j = 0) := Lib.hid fun j hj => by
              by_cases e : j = k
              · subst e; unfold thgAt; rw [if_neg (fun hh => hh he), if_neg (by rw [ht]; decide)]
              · exact Hn.out j (by omega)
            have T := Lib.hid ((nm_has l (lThg l k).name k).trans ht)
            clear he ht
            go_wp2_with fail
            refine (hasText_any (nmTo l k) A2 c2 k (lThg l k).name _ HS.out (Nat.le_of_eq (nm_len l k).symm)).mono ?_
            rintro e' w2 ⟨rfl, rfl⟩
            rw [T.out]
            go_wp2_with (at_builtin
                         refine wpList_append_own _ rfl (.tmp 30) (.tmp 36) 133 rfl w.heap.size 9 i0 _ 1 16 Tryz.underlying133 hi hz0 hz1 hz2 rfl (by decide) _ _ _ rfl (HO.out.alloc _) ⟨_, 0, none⟩ 1 1 [.string (lThg l k).name] rfl rfl ?c1 ?c2 ?c3 ?c4 ?c5 ?_)
            case c1 => exact news0 _ _ _
            case c2 => exact oneStrG _
            case c3 => unfold maxLen; omega
            case c4 => omega
            case c5 => have := HB1.out.size; simp; omega
            intro v9 w9 ho9 hg9 _
            have HG := Lib.hid (show nmTo l (k + 1) = nmTo l k ++ [(lThg l k).name] from rfl)
            have HD := Lib.hid HO.out
            go_wp2_with fail
            go_roundw
            case rel =>
              refine ⟨k + 1, by omega, by go_num, Lib.hid ?_, G, Lib.hid ?_⟩
              · rw [HG.out, nmVals_snoc]
                exact ho9
              · exact (HB1.out.alloc HB1.out.size _).grown hg9 (by have := HB1.out.size; simp; omega) (fun j hj => (HD.out.lt j hj).1)
            case measure => simp [intOf]; omega
        · have e3 : (thgErr (lThg l k) == 0) = false := by simpa using he
          have e4 : (thgErr (lThg l k) != 0) = true := by simpa using he
          have F := Lib.hid (thgs_hit (x := thgErr (lThg l k)) H40.out hlt Hn.out (if_pos he) he)
          clear he
          go_wp2_with fail
          go_ret
          exact ⟨ret_int F.out.symm, HB1.out⟩
      · have F := Lib.hid (show thgsErr l = 0 from (if_neg H40.out).trans (fst_none fun j hj => Hn.out j (by omega)))
        go_wp2_with fail
        go_ret
        exact ⟨ret_int F.out.symm, HB.out⟩
set_option maxHeartbeats 6400000 in
set_option maxRecDepth 100000 in
theorem rClaimsErr_any (l : List Thg) (A : Option Addr) (c : Nat) (a : GA) (w : World) (h : ArrTh w A l c a) :
    Calls Tryz.prog 94 #[.slice A l.length c] w fun e w' => e = .returned (.int .i64 (thgsErr l)) ∧ Below w.heap.size w w' := by
  obtain ⟨i0, hi, hz0, hz1, hz2⟩ := info_parts Tryz.infoTextG
  have b1 := h.le.1
  have b2 := h.le.2
  have HA := Lib.hid h
  clear h
  go_enter Tryz.func94, Tryz.ntmps94
  by_cases h40 : 12 < l.length
  · have G1 := Lib.hid (show thgsErr l = 8 from if_pos h40)
    have d1 : decide ((l.length : Int) > 12) = true := decide_eq_true (by omega)
    have d2 : decide ((12 : Int) < (l.length : Int)) = true := decide_eq_true (by omega)
    clear h40
    go_wp2_with fail
    go_ret
    exact ⟨ret_int G1.out.symm, Below.refl _ _⟩
  · have H40 := Lib.hid h40
    have d1 : decide ((l.length : Int) > 12) = false := decide_eq_false (by omega)
    have d2 : decide ((12 : Int) < (l.length : Int)) = false := decide_eq_false (by omega)
    go_wp2_with fail
    go_loopw [3, 4] (fun v i wr => ∃ k : Nat, k ≤ l.length ∧ i = .int .i64 k ∧ Hid (wr.ownsRow w.heap.size 9 1 v k (nmVals (nmTo l k))) ∧ Hid (∀ j, j < k → thgAt l j = 0) ∧ Hid (Below w.heap.size w wr)) (fun _ i _ => l.length - (intOf i).toNat)
    case atStart => exact ⟨0, Nat.zero_le _, rfl, Lib.hid (World.ownsRow_nil _ _ _ _), Lib.hid fun j hj => absurd hj (Nat.not_lt_zero _), Lib.hid (Below.refl _ _)⟩
    case round =>
      obtain ⟨k, hk, rfl, HO, Hn, HB⟩ := hrel
      obtain ⟨A2, c2, rfl, hs2⟩ := gown_nm HO.out
      have HS := Lib.hid hs2
      clear hs2
      by_cases hlt : k < l.length
      · have hkn : (k : Int) < (l.length : Int) := by omega
        obtain ⟨b, o, rfl, q, qm⟩ := (HA.out.keep (Keep.below HB.out)).at_ hlt
        obtain ⟨q0, q1, q2, q3⟩ := q
        have QM := Lib.hid qm
        clear qm
        go_wp2_with fail
        refine (rCheckClaim_any (lThg l k) _ _ ⟨_, _, rfl, QM.out⟩).mono ?_
        rintro e' w1 ⟨rfl, hb1⟩
        have HB1 := Lib.hid (HB.out.trans (hb1.mono HB.out.size))
        replace HO := Lib.hid (below_of_own HO.out hb1)
        replace HS := Lib.hid (Arr.keep (Keep.below hb1) HS.out)
        have p0 := Keep.below hb1 _ _ q0
        clear hb1 q0 q1 q2 q3 QM HB
        by_cases he : thgErr (lThg l k) = 0
        · rw [he]
          cases ht : hasText (fun j => (lThg l j).name) k (lThg l k).name with
          | true =>
            have F := Lib.hid (thgs_hit (x := 5) H40.out hlt Hn.out (by unfold thgAt; rw [if_neg (fun hh => hh he), if_pos ht]) (by decide))
            have T := Lib.hid ((nm_has l (lThg l k).name k).trans ht)
            clear he ht
            go_wp2_with fail
            refine (hasText_any (nmTo l k) A2 c2 k (lThg l k).name _ HS.out (Nat.le_of_eq (nm_len l k).symm)).mono ?_
            rintro e' w2 ⟨rfl, rfl⟩
            rw [T.out]
            go_wp2_with fail
            go_ret
            exact ⟨ret_int F.out.symm, HB1.out⟩
          | false =>
            have G : Hid (∀ j, j < k + 1 → thgAt l j = 0) := Lib.hid fun j hj => by
              by_cases e : j = k
              · subst e; unfold thgAt; rw [if_neg (fun hh => hh he), if_neg (by rw [ht]; decide)]
              · exact Hn.out j (by omega)
            have T := Lib.hid ((nm_has l (lThg l k).name k).trans ht)
            clear he ht
            go_wp2_with fail
            refine (hasText_any (nmTo l k) A2 c2 k (lThg l k).name _ HS.out (Nat.le_of_eq (nm_len l k).symm)).mono ?_
            rintro e' w2 ⟨rfl, rfl⟩
            rw [T.out]
            go_wp2_with (at_builtin
                         refine wpList_append_own _ rfl (.tmp 30) (.tmp 36) 133 rfl w.heap.size 9 i0 _ 1 16 Tryz.underlying133 hi hz0 hz1 hz2 rfl (by decide) _ _ _ rfl (HO.out.alloc _) ⟨_, 0, none⟩ 1 1 [.string (lThg l k).name] rfl rfl ?c1 ?c2 ?c3 ?c4 ?c5 ?_)
            case c1 => exact news0 _ _ _
            case c2 => exact oneStrG _
            case c3 => unfold maxLen; omega
            case c4 => omega
            case c5 => have := HB1.out.size; simp; omega
            intro v9 w9 ho9 hg9 _
            have HG := Lib.hid (show nmTo l (k + 1) = nmTo l k ++ [(lThg l k).name] from rfl)
            have HD := Lib.hid HO.out
            go_wp2_with fail
            go_roundw
            case rel =>
              refine ⟨k + 1, by omega, by go_num, Lib.hid ?_, G, Lib.hid ?_⟩
              · rw [HG.out, nmVals_snoc]
                exact ho9
              · exact (HB1.out.alloc HB1.out.size _).grown hg9 (by have := HB1.out.size; simp; omega) (fun j hj => (HD.out.lt j hj).1)
            case measure => simp [intOf]; omega
        · have e3 : (thgErr (lThg l k) == 0) = false := by simpa using he
          have e4 : (thgErr (lThg l k) != 0) = true := by simpa using he
          have F := Lib.hid (thgs_hit (x := thgErr (lThg l k)) H40.out hlt Hn.out (if_pos he) he)
          clear he
          go_wp2_with fail
          go_ret
          exact ⟨ret_int F.out.symm, HB1.out⟩
      · have F := Lib.hid (show thgsErr l = 0 from (if_neg H40.out).trans (fst_none fun j hj => Hn.out j (by omega)))
        go_wp2_with fail
        go_ret
        exact ⟨ret_int F.out.symm, HB.out⟩
set_option maxHeartbeats 800000 in
theorem rBothErr_any (l d : List Thg) (A B : Option Addr) (c k : Nat) (a b : GA) (w : World) (h : ArrTh w A l c a) (h2 : ArrTh w B d k b) :
    Calls Tryz.prog 42 #[.slice A l.length c, .slice B d.length k] w fun e w' => e = .returned (.int .i64 (pairErr l d)) ∧ Below w.heap.size w w' := by
  go_enter Tryz.func42, Tryz.ntmps42
  go_wp2_with fail
  refine (rItemsErr_any l A c a _ h).mono ?_
  rintro e' w1 ⟨rfl, hb⟩
  by_cases he : thgsErr l = 0
  · have F := Lib.hid (show pairErr l d = thgsErr d by unfold pairErr; rw [if_neg (fun hh => hh he)])
    rw [he]
    clear he
    go_wp2_with fail
    refine (rClaimsErr_any d B k b _ (h2.keep (Keep.below hb))).mono ?_
    rintro e' w2 ⟨rfl, hb2⟩
    have HB := Lib.hid (hb.trans (hb2.mono hb.size))
    clear hb hb2
    go_wp2_with fail
    go_ret
    exact ⟨ret_int F.out.symm, HB.out⟩
  · have F := Lib.hid (show pairErr l d = thgsErr l by unfold pairErr; rw [if_pos he])
    have e3 : (thgsErr l == 0) = false := by simpa using he
    have e4 : (thgsErr l != 0) = true := by simpa using he
    have HB := Lib.hid hb
    clear he hb
    go_wp2_with fail
    go_ret
    exact ⟨ret_int F.out.symm, HB.out⟩
end Go.Proofs.YtfjdnbnalihjiaaGreatDoor
/- How marks agrees: the reference's Agreement, CanBe. Condition: there are at most a thousand marks. -/
namespace Go.Proofs.YtfjdnbnalihjiaaGreatDoor
open Go.RowKit Fs

structure PairAt (w : World) (g : Nat) (u v : Int) : Prop where
  c0 : w.cell? ⟨g, 0, none⟩ = some (.int .i64 u)
  c1 : w.cell? ⟨g, 1, none⟩ = some (.int .i64 v)
  f0 : w.frozen? ⟨g, 0, none⟩ = false
  f1 : w.frozen? ⟨g, 1, none⟩ = false
theorem PairAt.lt {w : World} {g : Nat} {u v : Int} (m : PairAt w g u v) : g < w.heap.size := World.block_lt_of_cell? w _ m.c0
theorem PairAt.below {B : Nat} {w w' : World} {g : Nat} {u v : Int} (m : PairAt w g u v) (h : Below B w w') (hg : g < B) : PairAt w' g u v :=
  ⟨(h.cell (p := ⟨g, 0, none⟩) hg).trans m.c0, (h.cell (p := ⟨g, 1, none⟩) hg).trans m.c1, (h.frozen (p := ⟨g, 0, none⟩) hg).trans m.f0, (h.frozen (p := ⟨g, 1, none⟩) hg).trans m.f1⟩
theorem PairAt.keep {w w' : World} {g : Nat} {u v : Int} (m : PairAt w g u v) (h : Below w.heap.size w w') : PairAt w' g u v := m.below h m.lt
theorem PairAt.new (w : World) (u v : Int) (t : TypeId) : PairAt (w.alloc (.cells #[.int .i64 u, .int .i64 v] t)) w.heap.size u v := ⟨cellNew _ _ _ 0, cellNew _ _ _ 1, frozenNew _ _ _ 0, frozenNew _ _ _ 1⟩
theorem PairAt.new1 (w : World) (A : Obj) (u v : Int) (t : TypeId) : PairAt ((w.alloc A).alloc (.cells #[.int .i64 u, .int .i64 v] t)) (w.heap.size + 1) u v := ⟨cellNew1 _ _ _ _ 0, cellNew1 _ _ _ _ 1, frozenNew1 _ _ _ _ 0, frozenNew1 _ _ _ _ 1⟩
theorem PairAt.put0 {w : World} {g : Nat} {u v : Int} (m : PairAt w g u v) (x : Int) : PairAt (w.setCell ⟨g, 0, none⟩ (.int .i64 x)) g x v :=
  ⟨World.cell?_setCell_same _ _ _ m.c0, (World.cell?_setCell_other _ _ _ _ (by simp)).trans m.c1, (World.frozen?_setCell _ _ _ _).trans m.f0, (World.frozen?_setCell _ _ _ _).trans m.f1⟩
theorem PairAt.put1 {w : World} {g : Nat} {u v : Int} (m : PairAt w g u v) (x : Int) : PairAt (w.setCell ⟨g, 1, none⟩ (.int .i64 x)) g u x :=
  ⟨(World.cell?_setCell_other _ _ _ _ (by simp)).trans m.c0, World.cell?_setCell_same _ _ _ m.c1, (World.frozen?_setCell _ _ _ _).trans m.f0, (World.frozen?_setCell _ _ _ _).trans m.f1⟩
theorem Fs.agreeIn_bd (x : Mrk) (b : List Mrk) (k : Nat) : 0 ≤ agreeIn x b k ∧ agreeIn x b k ≤ k := by
  unfold agreeIn
  induction k with
  | zero => exact ⟨Int.le_refl _, Int.le_refl _⟩
  | succ k ih => rw [sumTo]; split <;> omega
theorem Fs.differIn_bd (x : Mrk) (b : List Mrk) (k : Nat) : 0 ≤ differIn x b k ∧ differIn x b k ≤ k := by
  unfold differIn
  induction k with
  | zero => exact ⟨Int.le_refl _, Int.le_refl _⟩
  | succ k ih => rw [sumTo]; split <;> omega
theorem Fs.agreeTo_bd (a b : List Mrk) (hb : b.length ≤ 1000) (k : Nat) : 0 ≤ agreeTo a b k ∧ agreeTo a b k ≤ k * 1000 := by
  unfold agreeTo
  induction k with
  | zero => exact ⟨Int.le_refl _, Int.le_refl _⟩
  | succ k ih => rw [sumTo]; have := agreeIn_bd (lMrk a k) b b.length; omega
theorem Fs.differTo_bd (a b : List Mrk) (hb : b.length ≤ 1000) (k : Nat) : 0 ≤ differTo a b k ∧ differTo a b k ≤ k * 1000 := by
  unfold differTo
  induction k with
  | zero => exact ⟨Int.le_refl _, Int.le_refl _⟩
  | succ k ih => rw [sumTo]; have := differIn_bd (lMrk a k) b b.length; omega

set_option maxHeartbeats 3200000 in
set_option maxRecDepth 100000 in
theorem rAgreement_any (a b : List Mrk) (A B : Option Addr) (c d : Nat) (w : World) (h : ArrMk w A a c) (h2 : ArrMk w B b d) (ha : a.length ≤ 1000) (hb : b.length ≤ 1000) :
    Calls Tryz.prog 29 #[.slice A a.length c, .slice B b.length d] w fun e w' => e = .returned (.agg #[.int .i64 (agrees a b), .int .i64 (differs a b)]) ∧ Below w.heap.size w w' := by
  have b1 := h.le.1
  have b2 := h.le.2
  have b3 := h2.le.1
  have b4 := h2.le.2
  have HA := Lib.hid h
  have HA2 := Lib.hid h2
  have RT := Lib.hid ((PairAt.new w 0 0 42).keep ((Below.refl _ _).alloc (Nat.le_refl _) (.cells #[.int .i64 0, .int .i64 0] 42)))
  have PT := Lib.hid (PairAt.new1 w (.cells #[.int .i64 0, .int .i64 0] 42) 0 0 42)
  clear h h2
  go_enter Tryz.func29, Tryz.ntmps29
  go_upto_region 2 with fail
  generalize hwb : (w.alloc _).alloc _ = wb at *
  have HW : Hid (Below w.heap.size w wb) := by rw [← hwb]; exact Lib.hid (((Below.refl _ _).alloc (Nat.le_refl _) _).alloc (by simp) _)
  have HS : Hid (w.heap.size + 2 = wb.heap.size) := by rw [← hwb]; exact Lib.hid (by simp)
  clear hwb
  go_wp2_with fail
  go_loopw [6] (fun i wr => ∃ k : Nat, k ≤ a.length ∧ i = .int .i64 k ∧ Hid (PairAt wr (w.heap.size + 1) (agreeTo a b k) (differTo a b k)) ∧ Hid (PairAt wr w.heap.size 0 0) ∧ Hid (Below w.heap.size w wr)) (fun i _ => a.length - (intOf i).toNat)
  case atStart => exact ⟨0, Nat.zero_le _, rfl, PT, RT, HW⟩
  case round =>
    obtain ⟨k, hk, rfl, HP, HR, HB⟩ := hrel
    clear PT RT HW
    by_cases hlt : k < a.length
    · have hkn : (k : Int) < (a.length : Int) := by omega
      have bd1 := Lib.hid (agreeTo_bd a b hb k)
      have bd2 := Lib.hid (differTo_bd a b hb k)
      go_wp2_with fail
      go_loopw [7] (fun i wr => ∃ j : Nat, j ≤ b.length ∧ i = .int .i64 j ∧ Hid (PairAt wr (w.heap.size + 1) (agreeTo a b k + agreeIn (lMrk a k) b j) (differTo a b k + differIn (lMrk a k) b j)) ∧ Hid (PairAt wr w.heap.size 0 0) ∧ Hid (Below w.heap.size w wr)) (fun i _ => b.length - (intOf i).toNat)
      case atStart => exact ⟨0, Nat.zero_le _, rfl, Lib.hid (by have := HP.out; rwa [show agreeTo a b k + agreeIn (lMrk a k) b 0 = agreeTo a b k from Int.add_zero _, show differTo a b k + differIn (lMrk a k) b 0 = differTo a b k from Int.add_zero _]), HR, HB⟩
      case round =>
        obtain ⟨j, hj, rfl, HP2, HR2, HB2⟩ := hrel
        by_cases hjl : j < b.length
        · have hjn : (j : Int) < (b.length : Int) := by omega
          obtain ⟨g, o, rfl, q0, q1⟩ := (HA.out.keep (Keep.below HB2.out)).at_ hlt
          obtain ⟨g', o', rfl, r0, r1⟩ := (HA2.out.keep (Keep.below HB2.out)).at_ hjl
          have bd3 := agreeIn_bd (lMrk a k) b j
          have bd4 := differIn_bd (lMrk a k) b j
          have bd5 := bd1.out
          have bd6 := bd2.out
          by_cases he : (lMrk a k).key = (lMrk b j).key
          · have e1 := str_eq he
            have e2 : ((lMrk a k).key.toList != (lMrk b j).key.toList) = false := by rw [bne, e1]; rfl
            by_cases hv : (lMrk a k).val = (lMrk b j).val
            · have e3 := str_eq hv
              have F1 := Lib.hid (show agreeIn (lMrk a k) b (j + 1) = agreeIn (lMrk a k) b j + 1 by unfold agreeIn; rw [sumTo, if_pos ⟨he, hv⟩])
              have F2 := Lib.hid (show differIn (lMrk a k) b (j + 1) = differIn (lMrk a k) b j by unfold differIn; rw [sumTo, if_neg (fun hh => hh.2 hv), Int.add_zero])
              clear he hv
              generalize hx1 : agreeTo a b k + agreeIn (lMrk a k) b j = x1 at *
              generalize hx2 : differTo a b k + differIn (lMrk a k) b j = x2 at *
              have hw1 : IntKind.i64.wrap (x1 + 1) = x1 + 1 := by rw [IntKind.wrap_i64]; omega
              have HX1 := Lib.hid hx1
              have HX2 := Lib.hid hx2
              clear hx1 hx2
              obtain ⟨p0, p1, pf0, pf1⟩ := HP2.out
              go_wp2_with fail
              go_quiet (fail)
              go_wp2_with fail
              go_quiet (fail)
              go_wp2_with fail
              go_roundw
              case rel => exact ⟨j + 1, by omega, by go_num, Lib.hid (by rw [F1.out, F2.out, ← Int.add_assoc, HX1.out, HX2.out]; exact (HP2.out.keep (bdrewN (Below.refl _ _) _)).put0 _), Lib.hid (PairAt.below (HR2.out.keep (bdrewN (Below.refl _ _) _)) ((Below.refl (w.heap.size + 1) _).setCell (by simp) _) (by omega)), Lib.hid ((bdrewN HB2.out _).setCell (by simp) _)⟩
              case measure => simp [intOf]; omega
            · have e3 := str_ne hv
              have F1 := Lib.hid (show agreeIn (lMrk a k) b (j + 1) = agreeIn (lMrk a k) b j by unfold agreeIn; rw [sumTo, if_neg (fun hh => hv hh.2), Int.add_zero])
              have F2 := Lib.hid (show differIn (lMrk a k) b (j + 1) = differIn (lMrk a k) b j + 1 by unfold differIn; rw [sumTo, if_pos ⟨he, hv⟩])
              clear he hv
              generalize hx1 : agreeTo a b k + agreeIn (lMrk a k) b j = x1 at *
              generalize hx2 : differTo a b k + differIn (lMrk a k) b j = x2 at *
              have hw1 : IntKind.i64.wrap (x2 + 1) = x2 + 1 := by rw [IntKind.wrap_i64]; omega
              have HX1 := Lib.hid hx1
              have HX2 := Lib.hid hx2
              clear hx1 hx2
              obtain ⟨p0, p1, pf0, pf1⟩ := HP2.out
              go_wp2_with fail
              go_quiet (fail)
              go_wp2_with fail
              go_quiet (fail)
              go_wp2_with fail
              go_roundw
              case rel => exact ⟨j + 1, by omega, by go_num, Lib.hid (by rw [F1.out, F2.out, ← Int.add_assoc, HX1.out, HX2.out]; exact (HP2.out.keep (bdrewN (Below.refl _ _) _)).put1 _), Lib.hid (PairAt.below (HR2.out.keep (bdrewN (Below.refl _ _) _)) ((Below.refl (w.heap.size + 1) _).setCell (by simp) _) (by omega)), Lib.hid ((bdrewN HB2.out _).setCell (by simp) _)⟩
              case measure => simp [intOf]; omega
          · have e1 := str_ne he
            have e2 : ((lMrk a k).key.toList != (lMrk b j).key.toList) = true := by rw [bne, e1]; rfl
            have F1 := Lib.hid (show agreeIn (lMrk a k) b (j + 1) = agreeIn (lMrk a k) b j by unfold agreeIn; rw [sumTo, if_neg (fun hh => he hh.1), Int.add_zero])
            have F2 := Lib.hid (show differIn (lMrk a k) b (j + 1) = differIn (lMrk a k) b j by unfold differIn; rw [sumTo, if_neg (fun hh => he hh.1), Int.add_zero])
            clear he
            go_wp2_with fail
            go_quiet (fail)
            go_wp2_with fail
            go_roundw
            case rel => exact ⟨j + 1, by omega, by go_num, Lib.hid (by rw [F1.out, F2.out]; exact HP2.out.keep (bdrewN (Below.refl _ _) _)), Lib.hid (HR2.out.keep (bdrewN (Below.refl _ _) _)), Lib.hid (bdrewN HB2.out _)⟩
            case measure => simp [intOf]; omega
        · obtain rfl : j = b.length := by omega
          go_wp2_with fail
          go_roundw
          case rel => exact ⟨k + 1, by omega, by go_num, HP2, HR2, HB2⟩
          case measure => simp [intOf]; omega
    · obtain rfl : k = a.length := by omega
      obtain ⟨p0, p1, pf0, pf1⟩ := HP.out
      obtain ⟨m0, m1, mf0, mf1⟩ := HR.out
      go_wp2_with fail
      refine bodyPost_ret (v := .agg #[.int .i64 (agrees a b), .int .i64 (differs a b)]) (by simp [results, Tryz.results29, go_sem, m0, m1, agrees, differs]) rfl ⟨rfl, ?_⟩
      exact (HB.out.setCell (p := ⟨w.heap.size, 0, none⟩) (by simp) _).setCell (p := ⟨w.heap.size, 1, none⟩) (by simp) _
end Go.Proofs.YtfjdnbnalihjiaaGreatDoor
