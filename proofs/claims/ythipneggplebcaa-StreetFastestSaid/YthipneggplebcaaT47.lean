/- Lists joined: slices.Grow and slices.Concat of numbers. Condition: at most ten lists of a hundred thousand numbers each. -/
import Derived.Shelf.Spec.SlicesGrow
import Derived.Test.YthipneggplebcaaT43
import Derived.Test.YthipneggplebcaaT10
namespace Go.Proofs.Ythipneggplebcaa
open Go.RowKit Fs Go.Shelf

def growLays_ren : Go.Shelf.Ren := ⟨fun | 4 => 142 | n => n, fun | 22 => 47 | 25 => 3 | 20 => 20 | 9 => 9 | 4 => 4 | 3 => 3 | 0 => 0 | n => n, fun | n => n⟩
theorem growLays : Go.Proofs.Lays8.n4 Try.prog growLays_ren := {
  mixed := by kernel_rfl
  f4 := ⟨Try.f142.name, by kernel_rfl, Try.func142.trans (congrArg some (by kernel_rfl))⟩
  t0 := Try.underlying0
  a0 := Try.isAgg0
  z0 := Try.sizeOf0
  v0 := Try.zeroValue0
  t3 := Try.underlying3
  a3 := Try.isAgg3
  z3 := Try.sizeOf3
  v3 := Try.zeroValue3
  t4 := Try.underlying4
  a4 := Try.isAgg4
  z4 := Try.sizeOf4
  v4 := Try.zeroValue4
  t9 := Try.underlying9
  a9 := Try.isAgg9
  z9 := Try.sizeOf9
  v9 := Try.zeroValue9
  t20 := Try.underlying20
  a20 := Try.isAgg20
  z20 := Try.sizeOf20
  v20 := Try.zeroValue20
  t22 := Try.underlying47
  a22 := Try.isAgg47
  z22 := Try.sizeOf47
  v22 := Try.zeroValue47 }
theorem growI_any (n : Nat) (w : World) (hn : n ≤ 1000000000) :
    Calls Try.prog 142 #[.slice none 0 0, .int .i64 n] w fun e w' => ∃ v, e = .returned v ∧ w'.ownsRow w.heap.size 3 1 v 0 (intVals []) ∧ Below w.heap.size w w' := by
  obtain ⟨i0, hi, hz0, hz1, hz2⟩ := info_parts Try.infoInt
  by_cases h0 : n = 0
  · subst h0
    refine (Any8.slices_Grow_room growLays none 0 0 0 w (Nat.le_refl _) (by decide) (by decide) (Nat.le_refl _)).mono ?_
    rintro e w' ⟨rfl, rfl⟩
    exact ⟨_, rfl, World.ownsRow_nil _ _ _ _, Below.refl _ _⟩
  · refine (Any8.slices_Grow_grow growLays i0 (.int .i64 0) hi hz0 (by rw [hz1]; decide) none 0 0 n [] w (Nat.le_refl _) (by omega) (by rw [hz2]; omega) (by omega) (by simp) (fun _ => rfl) (fun a ha => by cases ha)).mono ?_
    rintro e w' ⟨rfl, rfl⟩
    refine ⟨_, rfl, ⟨rfl, .inr ⟨w.heap.size, grownCap w (0 + n) 0 3, (([] : List Value).toArray ++ Builtin.zeroCells (Value.int .i64 0).cells (0 + n - 0) ++ Builtin.zeroCells (Value.int .i64 0).cells (grownCap w (0 + n) 0 3 - (0 + n))), rfl, Nat.le_refl _, ?_, Nat.zero_le _, grownCap_le_maxLen w (0 + n) 0 _ (by unfold maxLen; omega), ?_, by simp [intVals]⟩⟩, ((Below.refl _ _).drew).alloc (Nat.le_refl _) _⟩
    · exact heap_alloc_new w.drew _
    · have := grownCap_ge w (0 + n) 0 3
      rw [Nat.zero_add] at this
      simp [Builtin.zeroCells, Value.cells]
      omega

/-! ### appended from an array -/
theorem appendNoneA {P : Program} {w : World} (t ty e : TypeId) (i : TypeInfo) (ht : P.underlying t = some (.slice e)) (hi : P.info? e = some i) (c : Nat) :
    (Builtin.append_ #[t, t] ty #[.slice none 0 0, .slice none 0 c]).run P w = .ok (.slice none 0 0) w := by
  simp [Builtin.append_, run_underlying ht, sizeOf, typeInfo, hi, Builtin.lenOf, Builtin.firstCells]
theorem appendNoneB {P : Program} {w : World} (t ty e : TypeId) (i : TypeInfo) (ht : P.underlying t = some (.slice e)) (hi : P.info? e = some i) (g n cap c : Nat) (h : n ≤ cap) :
    (Builtin.append_ #[t, t] ty #[.slice (some ⟨g, 0, none⟩) n cap, .slice none 0 c]).run P w = .ok (.slice (some ⟨g, 0, none⟩) n cap) w := by
  simp [Builtin.append_, run_underlying ht, sizeOf, typeInfo, hi, Builtin.lenOf, Builtin.firstCells, storeCells, h]
theorem wpList_join {P : Program} {w : World} {ops : Array Oper} {rest : List Oper} {o : Oper} {a : Act} {Q : Exit → Act → World → Prop} (hgd : o.guard = none) (s x : Operand) (t : TypeId)
    (ho : o.op = .call { callee := .builtin .append, args := #[s, x], argTypes := #[t, t] })
    (e : TypeId) (i : TypeInfo) (z : Value) (size bytes : Nat) (ht : P.underlying t = some (.slice e)) (hi : P.info? e = some i) (hz : i.zero = some z)
    (hsize : i.size = size) (hby : i.bytes = bytes) (hzs : z.cells.size = size) (hsz : 0 < size)
    (base : Nat) (v : Value) (n : Nat) (xs : List Value) (hs : a.eval s = v) (hown : w.ownsRow base e size v n xs) (hbase : base ≤ w.heap.size)
    (A : Option Addr) (m c : Nat) (C : Nat → Nat → Value) (hx : a.eval x = .slice A m c) (hA : Arr w A m c size C) (h1 : ∀ i j, (C i j).oneCell' = true)
    (h63 : n + m ≤ maxLen) (hbytes : (n + m) * bytes ≤ 140737488355328)
    (h : ∀ v' w', w'.ownsRow base e size v' (n + m) (xs ++ flat m size C) → Below base w w' → wpList P ops Q rest (a.put o.dst v') w') : wpList P ops Q (o :: rest) a w := by
  cases A with
  | none =>
    have hm : m = 0 := by
      rcases Nat.eq_zero_or_pos m with h | h
      · exact h
      · obtain ⟨_, _, he, -⟩ := hA.2.2 h
        cases he
    subst hm
    have hr : (Builtin.append_ #[t, t] o.type #[v, .slice none 0 c]).run P w = .ok v w := by
      rcases hown.2 with ⟨hv, -⟩ | ⟨g, cap, cur, hv, -, -, hc, -⟩
      · rw [hv]; exact appendNoneA t o.type e i ht hi c
      · rw [hv]; exact appendNoneB t o.type e i ht hi g n cap c hc
    refine wpList_plain hgd fun K hK => ?_
    unfold Oper.wp execOp
    simp only [ho, resolve, invoke, builtin, Sem.run_bind, Sem.run_pure, Result.andThen_ok, List.map_toArray, List.map_cons, List.map_nil, hs, hx, hr]
    exact hK _ _ (h _ w (by simpa [flat] using hown) (Below.refl _ _))
  | some ad =>
    refine wpList_append_own_at w hgd s x t ho base e i z size bytes ht hi hz hsize hby hzs hsz _ n xs hs hown ad m c (flat m size C) hx (by simp [flat]) ?_ ?_ h63 hbytes hbase ?_
    · intro j u hu
      have hj : j < m * size := by
        rcases Nat.lt_or_ge j (m * size) with h | h
        · exact h
        · rw [List.getElem?_eq_none (by simpa [flat] using h)] at hu; cases hu
      rw [flat_get _ hj] at hu
      injection hu with hu
      have hm : 0 < m := Nat.pos_of_ne_zero fun h => by rw [h, Nat.zero_mul] at hj; omega
      obtain ⟨b, o', he, hc⟩ := hA.2.2 hm
      injection he with he
      subst he
      have hq := hc (j / size) (j % size) (Nat.div_lt_of_lt_mul (by rw [Nat.mul_comm]; exact hj)) (Nat.mod_lt _ hsz)
      have e1 : o' + j / size * size + j % size = o' + j := by
        have := Nat.div_add_mod j size
        rw [Nat.mul_comm] at this
        omega
      rw [e1, hu] at hq
      unfold Addr.add
      by_cases h0 : j = 0
      · subst h0; simpa using hq
      · rw [if_neg h0]; exact hq
    · intro u hu
      unfold flat at hu
      simp only [List.mem_map] at hu
      obtain ⟨t, -, rfl⟩ := hu
      exact h1 _ _
    · intro v' w' h2 h3 _ _
      exact h v' w' h2 ((Below.refl _ _).grown h3 hbase (fun k hk => (hown.lt k hk).1))
theorem flat_ints (l : List Int) : flat l.length 1 (fun i _ => .int .i64 (listI l i)) = intVals l := by
  refine List.ext_getElem? fun k => ?_
  by_cases hk : k < l.length
  · rw [flat_get _ (by omega), Nat.div_one]
    have := intVals_get hk []
    rw [List.append_nil] at this
    rw [this]
  · rw [List.getElem?_eq_none (by simp [flat]; omega), List.getElem?_eq_none (by simp [intVals]; omega)]

/-! ### lists of lists -/
def Fs.listL (ls : List (List Int)) (i : Nat) : List Int := ls.getD i []
def Fs.flatTo (ls : List (List Int)) : Nat → List Int
  | 0 => []
  | k + 1 => flatTo ls k ++ listL ls k
/-- The row A reads as lists that lie at a. -/
def ArrL (w : World) (A : Option Addr) (ls : List (List Int)) (c : Nat) (a : DA) : Prop :=
  Arr w A ls.length c 1 (fun i _ => .slice (a.p i) (listL ls i).length (a.pc i)) ∧ ∀ i, i < ls.length → ArrI w (a.p i) (listL ls i) (a.pc i)
theorem ArrL.keep {w w' : World} (k : Keep w w') {A : Option Addr} {ls : List (List Int)} {c : Nat} {a : DA} (h : ArrL w A ls c a) : ArrL w' A ls c a := ⟨Arr.keep k h.1, fun i hi => (h.2 i hi).keep k⟩
theorem ArrL.at_ {w : World} {A : Option Addr} {ls : List (List Int)} {c : Nat} {a : DA} (h : ArrL w A ls c a) {k : Nat} (hk : k < ls.length) : ∃ b o, A = some ⟨b, o, none⟩ ∧ w.cell? ⟨b, o + k, none⟩ = some (.slice (a.p k) (listL ls k).length (a.pc k)) := by
  obtain ⟨b, o, e, hc⟩ := h.1.at_ hk
  have := hc 0 (by omega)
  exact ⟨b, o, e, by simpa using this⟩
theorem Fs.flatTo_len {ls : List (List Int)} {B : Nat} (h : ∀ i, i < ls.length → (listL ls i).length ≤ B) : ∀ k, k ≤ ls.length → (flatTo ls k).length ≤ B * k
  | 0, _ => Nat.zero_le _
  | k + 1, hk => by
    have h1 := flatTo_len h k (by omega)
    have h2 := h k (by omega)
    rw [flatTo, List.length_append, Nat.mul_succ]
    omega

set_option maxHeartbeats 3200000 in
set_option maxRecDepth 100000 in
theorem concatI_any (ls : List (List Int)) (A : Option Addr) (c : Nat) (a : DA) (w : World) (h : ArrL w A ls c a) (hn : ls.length ≤ 10) (hl : ∀ i, i < ls.length → (listL ls i).length ≤ 100000) :
    Calls Try.prog 131 #[.slice A ls.length c] w fun e w' => ∃ A' c', e = .returned (.slice A' (flatTo ls ls.length).length c') ∧ ArrI w' A' (flatTo ls ls.length) c' ∧ Below w.heap.size w w' := by
  obtain ⟨i0, hi, hz0, hz1, hz2⟩ := info_parts Try.infoInt
  have HH := Lib.hid h
  have b1 := h.1.1
  have b2 := h.1.2.1
  have HL := Lib.hid hl
  have HF := Lib.hid (flatTo_len hl)
  clear h hl
  go_enter Try.func131, Try.ntmps131
  go_wp2_with fail
  go_loop [3, 11] (fun u i => ∃ k : Nat, k ≤ ls.length ∧ i = .int .i64 k ∧ u = .int .i64 ((flatTo ls k).length : Nat)) (fun _ i => ls.length - (intOf i).toNat)
  case atStart => exact ⟨0, Nat.zero_le _, rfl, rfl⟩
  case round =>
    obtain ⟨k, hk, rfl, rfl⟩ := hrel
    by_cases hlt : k < ls.length
    · obtain ⟨b, o, hAe, hc⟩ := HH.out.at_ hlt
      subst hAe
      have f1 := HF.out k hk
      have f2 := HL.out k hlt
      have F := Lib.hid (show ((flatTo ls (k + 1)).length : Int) = ((flatTo ls k).length : Int) + ((listL ls k).length : Int) by rw [flatTo, List.length_append]; omega)
      have hkn : (k : Int) < (ls.length : Int) := by omega
      have dd : decide (((flatTo ls k).length : Int) + ((listL ls k).length : Int) < 0) = false := decide_eq_false (by omega)
      go_wp2_with fail
      go_round
      case rel => exact ⟨k + 1, by omega, by go_num, by rw [F.out]⟩
      case measure => simp [intOf]; omega
    · obtain rfl : k = ls.length := by omega
      have f1 := HF.out ls.length (Nat.le_refl _)
      clear hlt hk
      go_wp2_with fail
      refine (growI_any (flatTo ls ls.length).length _ (by omega)).mono ?_
      rintro e' w1 ⟨v1, rfl, ho, hb1⟩
      have HO := Lib.hid ho
      have HB := Lib.hid hb1
      clear ho hb1
      go_wp2_with fail
      go_loopw [6, 27] (fun u i wr => ∃ k : Nat, k ≤ ls.length ∧ i = .int .i64 k ∧ Hid (wr.ownsRow w.heap.size 3 1 u (flatTo ls k).length (intVals (flatTo ls k))) ∧ Hid (Below w.heap.size w wr)) (fun _ i _ => ls.length - (intOf i).toNat)
      case atStart => exact ⟨0, Nat.zero_le _, rfl, HO, HB⟩
      case round =>
        obtain ⟨k, hk, rfl, HOk, HBk⟩ := hrel
        by_cases hlt : k < ls.length
        · obtain ⟨b, o, hAe, hc⟩ := (HH.out.keep (Keep.below HBk.out)).at_ hlt
          have HA := Lib.hid ((HH.out.keep (Keep.below HBk.out)).2 k hlt)
          subst hAe
          have f1 := HF.out k hk
          have f2 := HL.out k hlt
          have hkn : (k : Int) < (ls.length : Int) := by omega
          have hws : w.heap.size ≤ wr.heap.size := HBk.out.size
          go_wp2_with (at_builtin; refine wpList_join rfl (.tmp 31) (.tmp 32) 47 rfl 3 i0 (.int .i64 0) 1 8 Try.underlying47 hi hz0 hz1 hz2 rfl (by decide) w.heap.size _ _ _ rfl HOk.out hws (a.p k) (listL ls k).length (a.pc k) _ rfl HA.out (fun _ _ => rfl) ?c1 ?c2 ?_)
          case c1 => unfold maxLen; omega
          case c2 => omega
          intro v2 w2 hown2 hb2
          have HO2 : Hid (w2.ownsRow w.heap.size 3 1 v2 (flatTo ls (k + 1)).length (intVals (flatTo ls (k + 1)))) := by
            rw [flatTo, List.length_append, show intVals (flatTo ls k ++ listL ls k) = intVals (flatTo ls k) ++ intVals (listL ls k) from List.map_append, ← flat_ints (listL ls k)]
            exact Lib.hid hown2
          have HB2 := Lib.hid (HBk.out.trans hb2)
          clear hown2 hb2
          go_wp2_with fail
          go_roundw
          case rel => exact ⟨k + 1, by omega, by go_num, HO2, HB2⟩
          case measure => simp [intOf]; omega
        · obtain rfl : k = ls.length := by omega
          obtain ⟨A', c', hv, ha⟩ := own_arr HOk.out
          subst hv
          have HR := Lib.hid ha
          clear hlt hk ha
          go_wp2_with fail
          go_ret
          exact ⟨A', c', rfl, HR.out, HBk.out⟩
end Go.Proofs.Ythipneggplebcaa
/- Lists of labels: what is wrong with them, and whether they prove. Conditions: the net can be read, or is right; at most ten lists. -/
namespace Go.Proofs.Ythipneggplebcaa
open Go.RowKit Fs

def Fs.LabFit (N : Net) (ls : List (List Int)) : Prop := ∀ i, i < ls.length → (listL ls i).length = N.places.length
def Fs.LabIn (l : List Int) : Prop := ∀ j, j < l.length → within (listI l j) (-1) 1000000000000000 = true
instance (N : Net) (ls : List (List Int)) : Decidable (LabFit N ls) := inferInstanceAs (Decidable (∀ i, i < ls.length → _))
instance (l : List Int) : Decidable (LabIn l) := inferInstanceAs (Decidable (∀ i, i < l.length → _))
def Fs.labErr (N : Net) (ls : List (List Int)) : Int := if LabFit N ls then (if LabIn (flatTo ls ls.length) then 0 else 2) else 10

set_option maxHeartbeats 1600000 in
set_option maxRecDepth 100000 in
theorem labErr_any (N : Net) (v : Value) (ls : List (List Int)) (A : Option Addr) (c : Nat) (a : DA) (w : World) (hN : RdNet w v N) (h : ArrL w A ls c a) (hn : ls.length ≤ 10) (hl : ∀ i, i < ls.length → (listL ls i).length ≤ 100000) :
    Calls Try.prog 99 #[v, .slice A ls.length c] w fun e w' => e = .returned (.int .i64 (labErr N ls)) ∧ Below w.heap.size w w' := by
  obtain ⟨P, R, pc, rc, ar, rfl, m⟩ := hN
  have pb1 := m.places.le.1
  have pb2 := m.places.le.2
  clear m
  have b1 := h.1.1
  have b2 := h.1.2.1
  have HH := Lib.hid h
  have HL := Lib.hid hl
  clear h hl
  have BN := Lib.hid (BoxN.new w N P R pc rc 25)
  go_enter Try.func99, Try.ntmps99
  go_upto_region 1 with fail
  generalize hwb : w.alloc _ = wb at *
  have HW : Hid (Below w.heap.size w wb) := by rw [← hwb]; exact Lib.hid ((Below.refl _ _).alloc (Nat.le_refl _) _)
  clear hwb
  obtain ⟨n0, n1⟩ := BN.out
  have HB := Lib.hid (HH.out.keep (Keep.below HW.out))
  go_wp2_with fail
  go_loop [11] (fun i => ∃ k : Nat, k ≤ ls.length ∧ i = .int .i64 k ∧ Hid (∀ j, j < k → (listL ls j).length = N.places.length)) (fun i => ls.length - (intOf i).toNat)
  case atStart => exact ⟨0, Nat.zero_le _, rfl, Lib.hid (fun j hj => absurd hj (Nat.not_lt_zero _))⟩
  case round =>
    obtain ⟨k, hk, rfl, Hn⟩ := hrel
    by_cases hlt : k < ls.length
    · obtain ⟨b, o, hAe, hc⟩ := HB.out.at_ hlt
      have h1 := (HB.out.2 k hlt).le
      have h2 := h1.1
      have h3 := h1.2
      subst hAe
      clear h1
      have hkn : (k : Int) < (ls.length : Int) := by omega
      by_cases he : (listL ls k).length = N.places.length
      · have F : Hid (∀ j, j < k + 1 → (listL ls j).length = N.places.length) := Lib.hid fun j hj => by
          by_cases e : j = k
          · subst e; exact he
          · exact Hn.out j (by omega)
        have e1 : (((listL ls k).length : Int) == (N.places.length : Int)) = true := by rw [he]; simp
        have e2 : (((listL ls k).length : Int) != (N.places.length : Int)) = false := by rw [he]; simp
        clear he
        go_wp2_with fail
        go_round
        case rel => exact ⟨k + 1, by omega, by go_num, F⟩
        case measure => simp [intOf]; omega
      · have F := Lib.hid (show labErr N ls = 10 from if_neg (fun h => he (h k hlt)))
        have he' : ¬ ((listL ls k).length : Int) = (N.places.length : Int) := by omega
        have e1 : (((listL ls k).length : Int) == (N.places.length : Int)) = false := by simpa using he'
        have e2 : (((listL ls k).length : Int) != (N.places.length : Int)) = true := by simpa using he'
        clear he'
        clear he
        go_wp2_with fail
        go_ret
        exact ⟨ret_int F.out.symm, HW.out⟩
    · obtain rfl : k = ls.length := by omega
      have F1 := Lib.hid (show labErr N ls = if LabIn (flatTo ls ls.length) then 0 else 2 from if_pos (fun j hj => Hn.out j (by omega)))
      clear hlt hk Hn
      go_wp2_with fail
      refine (concatI_any ls A c a _ HB.out hn HL.out).mono ?_
      rintro e' w1 ⟨A1, c1, rfl, ha, hb1⟩
      have q1 := ha.le.1
      have q2 := ha.le.2
      have HA := Lib.hid ha
      have HX := Lib.hid (HW.out.trans (hb1.mono HW.out.size))
      clear ha hb1 n0 n1
      go_wp2_with fail
      generalize flatTo ls ls.length = l at *
      go_loop [25] (fun i => ∃ k : Nat, k ≤ l.length ∧ i = .int .i64 k ∧ Hid (∀ j, j < k → within (listI l j) (-1) 1000000000000000 = true)) (fun i => l.length - (intOf i).toNat)
      case atStart => exact ⟨0, Nat.zero_le _, rfl, Lib.hid (fun j hj => absurd hj (Nat.not_lt_zero _))⟩
      case round =>
        obtain ⟨k, hk, rfl, Hn⟩ := hrel
        by_cases hlt : k < l.length
        · obtain ⟨b, o, rfl, hc⟩ := HA.out.at_ hlt
          have hkn : (k : Int) < (l.length : Int) := by omega
          cases hp : within (listI l k) (-1) 1000000000000000 with
          | true =>
            have F : Hid (∀ j, j < k + 1 → within (listI l j) (-1) 1000000000000000 = true) := Lib.hid fun j hj => by
              by_cases e : j = k
              · subst e; exact hp
              · exact Hn.out j (by omega)
            have Z := Lib.hid hp
            clear hp
            go_wp2_with (go_at_call 100; refine (within_any _ _ _ _).mono ?_; rintro e w' ⟨rfl, rfl⟩; rw [Z.out])
            go_round
            case rel => exact ⟨k + 1, by omega, by go_num, F⟩
            case measure => simp [intOf]; omega
          | false =>
            have F := Lib.hid (F1.out.trans (if_neg (fun h => by have := h k hlt; rw [hp] at this; cases this)))
            have Z := Lib.hid hp
            clear hp
            go_wp2_with (go_at_call 100; refine (within_any _ _ _ _).mono ?_; rintro e w' ⟨rfl, rfl⟩; rw [Z.out])
            go_ret
            exact ⟨ret_int F.out.symm, HX.out⟩
        · obtain rfl : k = l.length := by omega
          have F := Lib.hid (F1.out.trans (if_pos (fun j hj => Hn.out j (by omega))))
          clear hlt hk Hn
          go_wp2_with fail
          go_ret
          exact ⟨ret_int F.out.symm, HX.out⟩

/-- Labels prove that no way leads to less. -/
def Fs.Proof (N : Net) (nx : Nat → Int → Int) (l : List Int) (k : Nat) : Prop :=
  ∀ i, i < k → listI l (listD N.roads i).src.toNat = -1 ∨ (listI l (listD N.roads i).dst.toNat ≠ -1 ∧ listI l (listD N.roads i).dst.toNat ≤ nx i (listI l (listD N.roads i).src.toNat))
instance (N : Net) (nx : Nat → Int → Int) (l : List Int) (k : Nat) : Decidable (Proof N nx l k) := inferInstanceAs (Decidable (∀ i, i < k → _))

set_option maxHeartbeats 3200000 in
set_option maxRecDepth 100000 in
theorem prove_any (N : Net) (nx : Nat → Int → Int) (v f : Value) (l : List Int) (A : Option Addr) (c : Nat) (w : World) (hN : RdNet w v N) (hE : netErr N = 0) (hf : StepV N nx f w) (h : ArrI w A l c) (hl : l.length = N.places.length) (hi : LabIn l) :
    Calls Try.prog 101 #[v, .slice A l.length c, f] w fun e w' => e = .returned (.bool (decide (Proof N nx l N.roads.length))) ∧ Below w.heap.size w w' := by
  obtain ⟨K, gf, rfl, hcall0, hstep0⟩ := hf
  have HCALL := Lib.hid hcall0
  have HSTEP := Lib.hid hstep0
  clear hcall0 hstep0
  obtain ⟨P, R, pc, rc, ar, rfl, m⟩ := hN
  have M := Lib.hid m
  have rb1 := m.roads.le.1
  have rb2 := m.roads.le.2
  clear m
  have b1 := h.le.1
  have b2 := h.le.2
  have HA := Lib.hid h
  have HJ := Lib.hid (net_joined hE)
  have HI := Lib.hid hi
  have HL := Lib.hid hl
  clear h hi hl
  have BN := Lib.hid (BoxN.new w N P R pc rc 25)
  go_enter Try.func101, Try.ntmps101
  go_upto_region 1 with fail
  generalize hwb : w.alloc _ = wb at *
  have HW : Hid (Below w.heap.size w wb) := by rw [← hwb]; exact Lib.hid ((Below.refl _ _).alloc (Nat.le_refl _) _)
  clear hwb
  obtain ⟨n0, n1⟩ := BN.out
  go_wp2_with fail
  clear n0 n1
  go_loopw [12] (fun i wr => ∃ k : Nat, k ≤ N.roads.length ∧ i = .int .i64 k ∧ Hid (Proof N nx l k) ∧ Hid (Below wb.heap.size wb wr)) (fun i _ => N.roads.length - (intOf i).toNat)
  case atStart => exact ⟨0, Nat.zero_le _, rfl, Lib.hid (fun j hj => absurd hj (Nat.not_lt_zero _)), Lib.hid (Below.refl _ _)⟩
  case round =>
    obtain ⟨k, hk, rfl, HG, HBk⟩ := hrel
    by_cases hlt : k < N.roads.length
    · have hkn : (k : Int) < (N.roads.length : Int) := by omega
      have HX := Lib.hid (HW.out.trans (HBk.out.mono HW.out.size))
      have hrr := M.out.roads.keep (Keep.below HX.out)
      obtain ⟨rb, ro, hRa, qq⟩ := hrr.at_ hlt
      subst hRa
      obtain ⟨x0, x1, x2, x3, x4⟩ := qq
      have BX := Lib.hid (BoxD.new wr (listD N.roads k) (ar.p k) (ar.pc k) 45)
      obtain ⟨⟨j0, s1⟩, j1, d1⟩ := HJ.out k hlt
      obtain ⟨s, hs1⟩ : ∃ s : Nat, (listD N.roads k).src = s := ⟨_, (Int.toNat_of_nonneg j0).symm⟩
      obtain ⟨d, hd1⟩ : ∃ d : Nat, (listD N.roads k).dst = d := ⟨_, (Int.toNat_of_nonneg j1).symm⟩
      have HSD := Lib.hid (And.intro hs1 hd1)
      have sl : s < l.length := by have := HL.out; omega
      have dl : d < l.length := by have := HL.out; omega
      have HSN := Lib.hid (show (listD N.roads k).src.toNat = s ∧ (listD N.roads k).dst.toNat = d by omega)
      have hR1 := HI.out s sl
      have hR1 := Fs.within_iff.1 hR1
      have hR2 := HI.out d dl
      have hR2 := Fs.within_iff.1 hR2
      clear hrr hs1 hd1 j0 j1 s1 d1
      go_upto_region 4 with fail
      generalize hw6 : wr.alloc _ = w6 at *
      have hB6 : Below wr.heap.size wr w6 := by rw [← hw6]; exact (Below.refl _ _).alloc (Nat.le_refl _) _
      clear hw6 x0 x1 x2 x3 x4
      have HB6 := Lib.hid (HBk.out.trans (hB6.mono HBk.out.size))
      have HX6 := Lib.hid (HX.out.trans (hB6.mono HX.out.size))
      clear hB6
      obtain ⟨x0, x1, x2, x3, x4⟩ := BX.out
      rw [HSD.out.1] at x1
      rw [HSD.out.2] at x2
      have sn : (s : Int) < (l.length : Int) := by omega
      have dn : (d : Int) < (l.length : Int) := by omega
      obtain ⟨lb, lo, hAe, ls⟩ := (HA.out.keep (Keep.below HX6.out)).at_ sl
      have HAe := Lib.hid hAe
      have ld := (HA.out.keep (Keep.below HX6.out))
      rw [hAe] at ld
      have ld := ld.cells dl
      subst hAe
      by_cases hz : listI l s = -1
      · have F : Hid (Proof N nx l (k + 1)) := Lib.hid fun i hi => by
          by_cases e : i = k
          · subst e; left; rw [HSN.out.1]; exact hz
          · exact HG.out i (by omega)
        have e1 : (listI l s == -1) = true := by simpa using hz
        clear hz
        go_wp2_with fail
        go_roundw
        case rel => exact ⟨k + 1, by omega, by go_num, F, HB6⟩
        case measure => simp [intOf]; omega
      · have e1 : (listI l s == -1) = false := by simpa using hz
        have HZ := Lib.hid hz
        by_cases hy : listI l d = -1
        · have F := Lib.hid (show decide (Proof N nx l N.roads.length) = false from decide_eq_false (fun h => by
            rcases h k hlt with h1 | h1
            · rw [HSN.out.1] at h1; exact hz h1
            · rw [HSN.out.2] at h1; exact h1.1 hy))
          have e2 : (listI l d == -1) = true := by simpa using hy
          clear hy hz
          go_wp2_with fail
          go_quiet (fail)
          go_wp2_with fail
          go_ret
          exact ⟨ret_bool F.out.symm, bdrewN HX6.out _⟩
        · have e2 : (listI l d == -1) = false := by simpa using hy
          have HSQ := Lib.hid (fun (w' : World) (hb : Below w6.heap.size w6 w') => HSTEP.out w' (HX6.out.trans (hb.mono HX6.out.size)) k (listI l s) hlt (by omega) (by omega))
          have hcall := HCALL.out
          have HY := Lib.hid hy
          clear hy hz
          go_wp2_with fail
          obtain ⟨C, Ci, Co⟩ := classOf w6
          refine quietC (C := C) (by kernel_rfl) (by kernel_rfl) (Co.out _ (Below.refl _ _).drew) ?_
          repeat (first
            | go_big_quiet_skip
            | (go_big_quiet_want; go_big_quiet_op; go_big_quiet_on)
            | (refine quiet_yes (by rfl) ?_
               apply Exists.intro
               refine ⟨fun w' hC => ?_, ?_⟩
               · have hbb := Ci.out _ hC
                 have y0 := Keep.below hbb _ _ x0
                 have y1 := Keep.below hbb _ _ x1
                 have y2 := Keep.below hbb _ _ x2
                 have y3 := Keep.below hbb _ _ x3
                 have y4 := Keep.below hbb _ _ x4
                 have y5 := Keep.below hbb _ _ ls
                 have y6 := Keep.below hbb _ _ ld
                 go_simp
                 first
                   | done
                   | rfl
                   | (refine (HSQ.out w' hbb).mono ?_
                      rintro e' w1 ⟨rfl, hb1⟩
                      exact ⟨rfl, Co.out _ (hbb.trans (hb1.mono hbb.size))⟩)
               simp only [Act.put, List.setIfInBounds_toArray, List.set_cons_zero, List.set_cons_succ]))
          refine wpQuiet_nil ?_
          intro w7 hC7
          have hb7 := Ci.out _ hC7
          replace HB6 := Lib.hid (HB6.out.trans (hb7.mono HB6.out.size))
          replace HX6 := Lib.hid (HX6.out.trans (hb7.mono HX6.out.size))
          clear hb7 hC7 Ci Co C ls ld x0 x1 x2 x3 x4
          by_cases hg : listI l d ≤ nx k (listI l s)
          · have F : Hid (Proof N nx l (k + 1)) := Lib.hid fun i hi => by
              by_cases e : i = k
              · subst e; right; rw [HSN.out.1, HSN.out.2]; exact ⟨HY.out, hg⟩
              · exact HG.out i (by omega)
            have e3 : decide (listI l d > nx k (listI l s)) = false := decide_eq_false (by omega)
            have e4 : decide (nx k (listI l s) < listI l d) = false := decide_eq_false (by omega)
            go_wp2_with fail
            go_roundw
            case rel => exact ⟨k + 1, by omega, by go_num, F, HB6⟩
            case measure => simp [intOf]; omega
          · have F := Lib.hid (show decide (Proof N nx l N.roads.length) = false from decide_eq_false (fun h => by
              rcases h k hlt with h1 | h1
              · rw [HSN.out.1] at h1; exact HZ.out h1
              · rw [HSN.out.1, HSN.out.2] at h1; exact hg h1.2))
            have e3 : decide (listI l d > nx k (listI l s)) = true := decide_eq_true (by omega)
            have e4 : decide (nx k (listI l s) < listI l d) = true := decide_eq_true (by omega)
            go_wp2_with fail
            go_ret
            exact ⟨ret_bool F.out.symm, HX6.out⟩
    · obtain rfl : k = N.roads.length := by omega
      have F := Lib.hid (show decide (Proof N nx l N.roads.length) = true from decide_eq_true HG.out)
      clear hlt hk
      go_wp2_with fail
      go_ret
      exact ⟨ret_bool F.out.symm, HW.out.trans (HBk.out.mono HW.out.size)⟩
end Go.Proofs.Ythipneggplebcaa
