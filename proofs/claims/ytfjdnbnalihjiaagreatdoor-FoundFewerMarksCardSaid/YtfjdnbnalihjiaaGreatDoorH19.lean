/- The law of fewer marks: marks with themselves, and one mark less. No condition. -/
import Derived.Test.YtfjdnbnalihjiaaGreatDoorG19
import Derived.Test.YtfjdnbnalihjiaaGreatDoorH2
import Derived.Maps.AppendAt
import Derived.Deep.RegionHeld3
import Derived.Deep.CutBlock
import Derived.Deep.CutRange
namespace Go.Proofs.YtfjdnbnalihjiaaGreatDoor
open Go.RowKit Fs

theorem gflat_join {n m size : Nat} {C D E : Nat → Nat → Value} (h0 : 0 < size) (h1 : ∀ i j, i < n → j < size → E i j = C i j) (h2 : ∀ i j, i < m → j < size → E (n + i) j = D i j) : flat n size C ++ flat m size D = flat (n + m) size E := by
  apply List.ext_getElem?
  intro t
  have l1 : (flat n size C).length = n * size := by simp [flat]
  have l2 : (flat m size D).length = m * size := by simp [flat]
  have l3 : (flat (n + m) size E).length = (n + m) * size := by simp [flat]
  have l4 : (n + m) * size = n * size + m * size := Nat.add_mul _ _ _
  by_cases a : t < n * size
  · rw [List.getElem?_append_left (by rw [l1]; exact a), flat_get t a, flat_get t (by omega), h1 _ _ (Nat.div_lt_of_lt_mul (by rw [Nat.mul_comm]; exact a)) (Nat.mod_lt _ h0)]
  · obtain ⟨s, rfl⟩ : ∃ s, t = n * size + s := ⟨t - n * size, by omega⟩
    rw [List.getElem?_append_right (by rw [l1]; omega), l1, Nat.add_sub_cancel_left]
    by_cases b : s < m * size
    · rw [flat_get s b, flat_get _ (by omega), Nat.mul_comm n size, Nat.mul_add_div h0, Nat.mul_add_mod, h2 _ _ (Nat.div_lt_of_lt_mul (by rw [Nat.mul_comm]; exact b)) (Nat.mod_lt _ h0)]
    · rw [List.getElem?_eq_none (by omega), List.getElem?_eq_none (by omega)]
theorem gown_low {w : World} {B B' : Nat} {e : TypeId} {size n : Nat} {v : Value} {xs : List Value} (h : w.ownsRow B e size v n xs) (hB : B' ≤ B) : w.ownsRow B' e size v n xs := by
  rcases h with ⟨hl, ⟨hv, hn⟩ | ⟨g, cap, cur, hv, hb, hr⟩⟩
  · exact ⟨hl, .inl ⟨hv, hn⟩⟩
  · exact ⟨hl, .inr ⟨g, cap, cur, hv, Nat.le_trans hB hb, hr⟩⟩
/-- An array of values is appended to an own row, at a step of a region that draws; there may be none. -/
theorem gstep_join {P : Program} {w : World} {ops : Array Oper} {o : Oper} {a : Act} {K : Act → World → Prop} {Q : Exit → Act → World → Prop} {E : Prop} (hgd : o.guard = none) (s x : Operand) (t : TypeId)
    (ho : o.op = .call { callee := .builtin .append, args := #[s, x], argTypes := #[t, t] })
    (base : Nat) (e : TypeId) (i : TypeInfo) (z : Value) (size bytes : Nat) (ht : P.underlying t = some (.slice e)) (hi : P.info? e = some i) (hz : i.zero = some z)
    (hsize : i.size = size) (hby : i.bytes = bytes) (hzs : z.cells.size = size) (hsz : 0 < size)
    (v : Value) (n : Nat) (xs : List Value) (hs : a.eval s = v) (hown : w.ownsRow base e size v n xs) (hbase : base ≤ w.heap.size)
    (b o' m c : Nat) (C : Nat → Nat → Value) (hx : a.eval x = .slice (some ⟨b, o', none⟩) m c) (hA : Arr w (some ⟨b, o', none⟩) m c size C) (h1 : ∀ i j, (C i j).oneCell' = true)
    (h63 : n + m ≤ maxLen) (hbytes : (n + m) * bytes ≤ 140737488355328)
    (h : ∀ v' w', w'.ownsRow base e size v' (n + m) (xs ++ flat m size C) → Below base w w' → K (a.put o.dst v') w') :
    if Region.wanted o (yielded ops a.tmps) = true then Oper.wp P o a w K Q else E := by
  have hw : Region.wanted o (yielded ops a.tmps) = true := by simp [Region.wanted, hgd]
  rw [if_pos hw]
  obtain ⟨v', w', hr, h2, h3, -, -⟩ := run_append_own_at (P := P) w base t o.type e i z size bytes ht hi hz hsize hby hzs hsz v n xs hown ⟨b, o', none⟩ m c (flat m size C) (by simp [flat]) (by
    intro j u hu
    have hj : j < m * size := by
      rcases Nat.lt_or_ge j (m * size) with h | h
      · exact h
      · rw [List.getElem?_eq_none (by simpa [flat] using h)] at hu; cases hu
    rw [flat_get _ hj] at hu
    injection hu with hu
    have hm : 0 < m := Nat.pos_of_ne_zero fun h => by rw [h, Nat.zero_mul] at hj; omega
    obtain ⟨b2, o2, he, hc⟩ := hA.2.2 hm
    injection he with he
    injection he with he1 he2
    subst he1
    subst he2
    have hq := hc (j / size) (j % size) (Nat.div_lt_of_lt_mul (by rw [Nat.mul_comm]; exact hj)) (Nat.mod_lt _ hsz)
    have e1 : o' + j / size * size + j % size = o' + j := by
      have := Nat.div_add_mod j size
      rw [Nat.mul_comm] at this
      omega
    rw [e1, hu] at hq
    unfold Addr.add
    by_cases h0 : j = 0
    · subst h0; simpa using hq
    · rw [if_neg h0]; exact hq) (by
    intro u hu
    unfold flat at hu
    simp only [List.mem_map] at hu
    obtain ⟨t, -, rfl⟩ := hu
    exact h1 _ _) h63 hbytes hbase
  unfold Oper.wp execOp
  simp only [ho, resolve, invoke, builtin, Sem.run_bind, Sem.run_pure, Result.andThen_ok, List.map_toArray, List.map_cons, List.map_nil, hs, hx, hr]
  exact h v' w' h2 ((Below.refl _ _).grown h3 hbase (fun k hk => (hown.lt k hk).1))
theorem gown_arr {w : World} {base m size : Nat} {e : TypeId} {v : Value} {C : Nat → Nat → Value} (h : w.ownsRow base e size v m (flat m size C)) : ∃ A c, v = .slice A m c ∧ Arr w A m c size C ∧ ∀ p, A = some p → base ≤ p.block := by
  obtain ⟨A, c, he, ha⟩ := own_row h
  refine ⟨A, c, he, ha, fun p hp => ?_⟩
  rcases h.2 with ⟨hv, -⟩ | ⟨g, cap, cur, hv, hb, -⟩
  · rw [hv] at he; injection he with e1; rw [← e1] at hp; cases hp
  · rw [hv] at he; injection he with e1; rw [← e1] at hp; injection hp with hp; rw [← hp]; exact hb
theorem garr_far {w : World} {A : Option Addr} {m c size g i : Nat} {C : Nat → Nat → Value} (h : Arr w A m c size C) (hg : ∀ p, A = some p → g < p.block) (v : Value) : Arr (w.setCell ⟨g, i, none⟩ v) A m c size C := by
  refine ⟨h.1, h.2.1, fun hp => ?_⟩
  obtain ⟨b, o, e, hc⟩ := h.2.2 hp
  have := hg _ e
  exact ⟨b, o, e, fun i j hi hj => (World.cell?_setCell_far _ _ _ _ (by show g ≠ b; dsimp only at this; omega)).trans (hc i j hi hj)⟩
theorem rCopyTake_any (l : List Mrk) (A : Option Addr) (c k : Nat) (w : World) (h : ArrMk w A l c) (hn : l.length ≤ 1000000) (hk : k ≤ l.length) :
    Calls Tryz.prog 19 #[.slice A k c] w fun e w' => ∃ v, e = .returned v ∧ w'.ownsRow w.heap.size 119 2 v k (flat k 2 fun i j => mrkCells (lMrk l i) j) ∧ Below w.heap.size w w' := by
  have hlen : (l.take k).length = k := by rw [List.length_take]; omega
  have := rCopyMarksO_any (l.take k) A c w (h.take k) (by omega)
  rw [hlen] at this
  have e : (flat k 2 fun i j => mrkCells (lMrk (l.take k) i) j) = flat k 2 fun i j => mrkCells (lMrk l i) j := by
    unfold flat
    refine List.map_congr_left fun t ht => ?_
    have ht' : t < k * 2 := List.mem_range.1 ht
    have : lMrk (l.take k) (t / 2) = lMrk l (t / 2) := by
      unfold lMrk
      rw [List.getD_eq_getElem?_getD, List.getD_eq_getElem?_getD, List.getElem?_take_of_lt (by omega)]
    show mrkCells (lMrk (l.take k) (t / 2)) (t % 2) = mrkCells (lMrk l (t / 2)) (t % 2)
    rw [this]
  rw [e] at this
  exact this
theorem ArrMk.behind {w : World} {b oo o2 c k : Nat} {l : List Mrk} (h : ArrMk w (some ⟨b, oo, none⟩) l c) (hk : k < l.length) (ho : c = k + 1 ∨ o2 = oo + (k + 1) * 2) : Arr w (some ⟨b, o2, none⟩) (l.length - (k + 1)) (c - (k + 1)) 2 fun i j => mrkCells (lMrk l (k + 1 + i)) j := by
  have h1 := h.1
  have h2 := h.2.1
  refine ⟨by omega, by omega, fun hp => ⟨b, o2, rfl, fun i j hi hj => ?_⟩⟩
  have ho : o2 = oo + (k + 1) * 2 := by
    rcases ho with ho | ho
    · omega
    · exact ho
  subst ho
  obtain ⟨b', o', e, hc⟩ := h.2.2 (by omega)
  injection e with e
  injection e with e1 e2
  subst e1
  subst e2
  have := hc (k + 1 + i) j (by omega) hj
  show w.cell? ⟨b, oo + (k + 1) * 2 + i * 2 + j, none⟩ = _
  rw [show oo + (k + 1) * 2 + i * 2 = oo + (k + 1 + i) * 2 by omega]
  exact this
theorem without_flat {l : List Mrk} {k : Nat} (hk : k < l.length) : flat k 2 (fun i j => mrkCells (lMrk l i) j) ++ flat (l.length - (k + 1)) 2 (fun i j => mrkCells (lMrk l (k + 1 + i)) j) = flat (k + (l.length - (k + 1))) 2 fun i j => mrkCells (lMrk (Fs.without l k) i) j := by
  refine gflat_join (by decide) (fun i j hi hj => ?_) (fun i j hi hj => ?_)
  · rw [without_at hk, if_pos hi]
  · rw [without_at hk, if_neg (by omega), show k + i + 1 = k + 1 + i by omega]
theorem Fs.agree_bd {a b : List Mrk} (ha : a.length ≤ 1000) (hb : b.length ≤ 1000) : 0 ≤ agrees a b ∧ agrees a b ≤ 1000000 ∧ 0 ≤ differs a b ∧ differs a b ≤ 1000000 := by
  have h1 := agreeTo_bd a b hb a.length
  have h2 := differTo_bd a b hb a.length
  have e1 : agrees a b = agreeTo a b a.length := rfl
  have e2 : differs a b = differTo a b a.length := rfl
  rw [e1, e2]
  omega
/-- A box whose last field may be written. -/
structure LastAt (w : World) (g : Nat) (v : Value) : Prop where
  c : w.cell? ⟨g, 3, none⟩ = some v
  f : w.frozen? ⟨g, 3, none⟩ = false
theorem LastAt.lt {w : World} {g : Nat} {v : Value} (m : LastAt w g v) : g < w.heap.size := World.block_lt_of_cell? w _ m.c
theorem LastAt.below {B : Nat} {w w' : World} {g : Nat} {v : Value} (m : LastAt w g v) (h : Below B w w') (hg : g < B) : LastAt w' g v := ⟨(h.cell (p := ⟨g, 3, none⟩) hg).trans m.c, (h.frozen (p := ⟨g, 3, none⟩) hg).trans m.f⟩
theorem LastAt.keep {w w' : World} {g : Nat} {v : Value} (m : LastAt w g v) (h : Below w.heap.size w w') : LastAt w' g v := m.below h m.lt
theorem LastAt.set {w : World} {g : Nat} {v : Value} (m : LastAt w g v) (v' : Value) : LastAt (w.setCell ⟨g, 3, none⟩ v') g v' := ⟨World.cell?_setCell_same _ _ _ m.c, (World.frozen?_setCell _ _ _ _).trans m.f⟩
set_option linter.unusedSimpArgs false in
set_option maxHeartbeats 12800000 in
set_option maxRecDepth 100000 in
theorem lawFewer_any (x d : Thg) (u v : Value) (n : Int) (w : World) (hu : RdThg w u x) (hv : RdThg w v d) (tbs : TabSt w) :
    Calls Tryz.prog 9 #[u, v, .int .i64 n] w fun e w' => e = .returned (.bool true) ∧ Below w.heap.size w w' := by
  obtain ⟨p, pc, rfl, m⟩ := hu
  obtain ⟨p', pc', rfl, m'⟩ := hv
  have M := Lib.hid m
  have M' := Lib.hid m'
  have TBS := Lib.hid tbs
  have BX := Lib.hid ((ThgAt.new w x p pc 24).keep (Keep.alloc _ (.cells #[.string d.name, .int .i64 d.day, .string d.who, .slice p' d.marks.length pc'] 26)))
  have BC := Lib.hid (show ThgAt ((w.alloc (.cells #[.string x.name, .int .i64 x.day, .string x.who, .slice p x.marks.length pc] 24)).alloc (.cells #[.string d.name, .int .i64 d.day, .string d.who, .slice p' d.marks.length pc'] 26)) (w.heap.size + 1) 0 d p' pc' from ⟨cellNew1 _ _ _ _ 0, cellNew1 _ _ _ _ 1, cellNew1 _ _ _ _ 2, cellNew1 _ _ _ _ 3⟩)
  clear m m' tbs
  go_enter Tryz.func9, Tryz.ntmps9
  go_upto_region 1 with fail
  generalize hwb : (w.alloc _).alloc _ = wb at *
  have HW : Hid (Below w.heap.size w wb) := by rw [← hwb]; exact Lib.hid (((Below.refl _ _).alloc (Nat.le_refl _) _).alloc (by simp) _)
  clear hwb
  obtain ⟨q0, q1, q2, q3⟩ := BX.out
  obtain ⟨r0, r1, r2, r3⟩ := BC.out
  go_wp2_with fail
  refine (lawAwake_any _ (TBS.out.keep (Keep.below HW.out))).mono ?_
  rintro e' w1 ⟨rfl, hb1⟩
  replace HW := Lib.hid (HW.out.trans (hb1.mono HW.out.size))
  replace BX := Lib.hid (BX.out.keep (Keep.below hb1))
  replace BC := Lib.hid (BC.out.keep (Keep.below hb1))
  clear q0 q1 q2 q3 r0 r1 r2 r3
  clear hb1
  obtain ⟨q0, q1, q2, q3⟩ := BX.out
  obtain ⟨r0, r1, r2, r3⟩ := BC.out
  go_wp2_with fail
  refine (lawItem_any x _ _ ⟨_, _, rfl, (M.out.keep (Keep.below HW.out))⟩).mono ?_
  rintro e' w2 ⟨⟨bb, rfl, hbb⟩, hb1⟩
  replace HW := Lib.hid (HW.out.trans (hb1.mono HW.out.size))
  replace BX := Lib.hid (BX.out.keep (Keep.below hb1))
  replace BC := Lib.hid (BC.out.keep (Keep.below hb1))
  clear q0 q1 q2 q3 r0 r1 r2 r3
  clear hb1
  cases bb with
  | false =>
    clear hbb
    go_wp2_with fail
    go_ret
    exact ⟨rfl, HW.out⟩
  | true =>
    have hlx := hbb rfl
    clear hbb
    obtain ⟨q0, q1, q2, q3⟩ := BX.out
    obtain ⟨r0, r1, r2, r3⟩ := BC.out
    go_wp2_with fail
    refine (lawClaim_any d _ _ ⟨_, _, rfl, (M'.out.keep (Keep.below HW.out))⟩).mono ?_
    rintro e' w3 ⟨⟨bb, rfl, hbb⟩, hb1⟩
    replace HW := Lib.hid (HW.out.trans (hb1.mono HW.out.size))
    replace BX := Lib.hid (BX.out.keep (Keep.below hb1))
    replace BC := Lib.hid (BC.out.keep (Keep.below hb1))
    clear q0 q1 q2 q3 r0 r1 r2 r3
    clear hb1
    cases bb with
    | false =>
      clear hbb
      go_wp2_with fail
      go_ret
      exact ⟨rfl, HW.out⟩
    | true =>
      have hld := hbb rfl
      clear hbb
      obtain ⟨q0, q1, q2, q3⟩ := BX.out
      obtain ⟨r0, r1, r2, r3⟩ := BC.out
      go_wp2_with fail
      refine (rCheckItem_any x _ _ ⟨_, _, rfl, (M.out.keep (Keep.below HW.out))⟩).mono ?_
      rintro e' w4 ⟨rfl, hb1⟩
      replace HW := Lib.hid (HW.out.trans (hb1.mono HW.out.size))
      replace BX := Lib.hid (BX.out.keep (Keep.below hb1))
      replace BC := Lib.hid (BC.out.keep (Keep.below hb1))
      clear q0 q1 q2 q3 r0 r1 r2 r3
      clear hb1
      by_cases he : thgErr x = 0
      · have HX0 := Lib.hid he
        rw [he]
        clear he
        obtain ⟨q0, q1, q2, q3⟩ := BX.out
        obtain ⟨r0, r1, r2, r3⟩ := BC.out
        go_wp2_with fail
        refine (rCheckClaim_any d _ _ ⟨_, _, rfl, (M'.out.keep (Keep.below HW.out))⟩).mono ?_
        rintro e' w5 ⟨rfl, hb1⟩
        replace HW := Lib.hid (HW.out.trans (hb1.mono HW.out.size))
        replace BX := Lib.hid (BX.out.keep (Keep.below hb1))
        replace BC := Lib.hid (BC.out.keep (Keep.below hb1))
        clear q0 q1 q2 q3 r0 r1 r2 r3
        clear hb1
        by_cases he : thgErr d = 0
        · have HD0 := Lib.hid he
          rw [he]
          clear he
          have hw0 : IntKind.i64.wrap ((x.marks.length : Int) - 1) = (x.marks.length : Int) - 1 := by rw [IntKind.wrap_i64]; omega
          obtain ⟨q0, q1, q2, q3⟩ := BX.out
          obtain ⟨r0, r1, r2, r3⟩ := BC.out
          go_wp2_with fail
          refine (bwithin_any _ _ _ _).mono ?_
          rintro e' wy ⟨rfl, rfl⟩
          clear q0 q1 q2 q3 r0 r1 r2 r3
          cases hwi : within n 0 ((x.marks.length : Int) - 1) with
          | false =>
            go_wp2_with fail
            go_ret
            exact ⟨rfl, HW.out⟩
          | true =>
            have hn := Fs.within_iff.1 hwi
            clear hwi hw0
            obtain ⟨k, rfl⟩ : ∃ k : Nat, n = k := ⟨n.toNat, by omega⟩
            have hk : k < x.marks.length := by omega
            clear hn
            have HK := Lib.hid hk
            have heq := geqTwo
            obtain ⟨i0, hi, hz0, hz1, hz2⟩ := info_parts Tryz.infoPair
            obtain ⟨j0, hj, jz0, jz1, jz2⟩ := info_parts Tryz.infoMrk
            have MX := Lib.hid (marks_ok (thg_ok HX0.out).2.1)
            have MD := Lib.hid (marks_ok (thg_ok HD0.out).2.1)
            have HS := Lib.hid (agrees_self MX.out)
            have hf := agrees_fewer (a := x.marks) MD.out hk
            have hbd := agree_bd (a := x.marks) (b := d.marks) (by omega) (by omega)
            have E1 := Lib.hid (show agErr x.marks x.marks = 0 by unfold agErr; rw [if_neg (fun hh => hh (thg_ok HX0.out).2.1)]; exact (thg_ok HX0.out).2.1)
            have E2 := Lib.hid (show agErr x.marks d.marks = 0 by unfold agErr; rw [if_neg (fun hh => hh (thg_ok HX0.out).2.1)]; exact (thg_ok HD0.out).2.1)
            have HWL := Lib.hid (without_len hk)
            have E3 := Lib.hid (show agErr (without x.marks k) d.marks = 0 by unfold agErr; rw [if_neg (fun hh => hh (marks_zero (without_ok MX.out hk)))]; exact (thg_ok HD0.out).2.1)
            obtain ⟨y, hy⟩ : ∃ y, y = without x.marks k := ⟨_, rfl⟩
            rw [← hy] at hf HWL E3
            have HY := Lib.hid hy
            have hyl : y.length ≤ 1000000 := by have := HWL.out; omega
            have HFF := Lib.hid hf
            have HBD := Lib.hid hbd
            clear hy hk hf hbd
            obtain ⟨wA, hwA⟩ : ∃ wz, wz = w5 := ⟨_, rfl⟩
            subst hwA
            obtain ⟨q0, q1, q2, q3⟩ := BX.out
            obtain ⟨r0, r1, r2, r3⟩ := BC.out
            go_wp2_with fail
            go_cut [7, 8] from 44 to 52 (fun s1 s2 wx => ∃ g : Nat, s1 = .pointer (some ⟨g, 0, none⟩) ∧ s2 = .int .i64 (agErr x.marks x.marks) ∧ wA.heap.size ≤ g ∧ Hid (TwoAt wx g (.int .i64 (agOut x.marks x.marks).1) (.int .i64 (agOut x.marks x.marks).2)) ∧ Hid (Below wA.heap.size wA wx))
            case first =>
              have HBd : Hid (Below wA.heap.size wA wA.drew) := Lib.hid (Below.refl _ _).drew
              have MK : Hid (∀ w', Below wA.heap.size wA w' → w'.cell? ⟨w.heap.size, 0, none⟩ = some (.string x.name) ∧ w'.cell? ⟨w.heap.size, 0 + 1, none⟩ = some (.int .i64 x.day) ∧ w'.cell? ⟨w.heap.size, 0 + 2, none⟩ = some (.string x.who) ∧ w'.cell? ⟨w.heap.size, 0 + 3, none⟩ = some (.slice p x.marks.length pc) ∧ w'.cell? ⟨w.heap.size + 1, 0, none⟩ = some (.string d.name) ∧ w'.cell? ⟨w.heap.size + 1, 0 + 1, none⟩ = some (.int .i64 d.day) ∧ w'.cell? ⟨w.heap.size + 1, 0 + 2, none⟩ = some (.string d.who) ∧ w'.cell? ⟨w.heap.size + 1, 0 + 3, none⟩ = some (.slice p' d.marks.length pc') ∧ Hid (Below wA.heap.size wA w')) :=
                Lib.hid fun w' hw => ⟨Keep.below hw _ _ q0, Keep.below hw _ _ q1, Keep.below hw _ _ q2, Keep.below hw _ _ q3, Keep.below hw _ _ r0, Keep.below hw _ _ r1, Keep.below hw _ _ r2, Keep.below hw _ _ r3, Lib.hid hw⟩
              have KM : Hid (∀ w', Below wA.heap.size wA w' → ArrMk w' p x.marks pc) := Lib.hid fun w' hw => (M.out.keep (Keep.below (HW.out.trans (hw.mono HW.out.size))))
              have KC : Hid (∀ w', Below wA.heap.size wA w' → ArrMk w' p' d.marks pc') := Lib.hid fun w' hw => (M'.out.keep (Keep.below (HW.out.trans (hw.mono HW.out.size))))
              go_region_held3 (fun w' => w'.cell? ⟨w.heap.size, 0, none⟩ = some (.string x.name) ∧ w'.cell? ⟨w.heap.size, 0 + 1, none⟩ = some (.int .i64 x.day) ∧ w'.cell? ⟨w.heap.size, 0 + 2, none⟩ = some (.string x.who) ∧ w'.cell? ⟨w.heap.size, 0 + 3, none⟩ = some (.slice p x.marks.length pc) ∧ w'.cell? ⟨w.heap.size + 1, 0, none⟩ = some (.string d.name) ∧ w'.cell? ⟨w.heap.size + 1, 0 + 1, none⟩ = some (.int .i64 d.day) ∧ w'.cell? ⟨w.heap.size + 1, 0 + 2, none⟩ = some (.string d.who) ∧ w'.cell? ⟨w.heap.size + 1, 0 + 3, none⟩ = some (.slice p' d.marks.length pc') ∧ Hid (Below wA.heap.size wA w'))
                (first
                  | exact MK.out _ HBd.out
                  | (go_split_ands; exact ⟨by assumption, by assumption, by assumption, by assumption, by assumption, by assumption, by assumption, by assumption, by assumption⟩)
                  | (go_split_ands; exact MK.out _ (Below.trans (Hid.out (by assumption)) (hb1.mono (Hid.out (by assumption) : Below wA.heap.size wA _).size)))
                  | (go_split_ands; exact MK.out _ (Below.alloc (Hid.out (by assumption)) (Hid.out (by assumption) : Below wA.heap.size wA _).size _))
                  | (go_split_ands; exact MK.out _ (gbelow_realloc (Hid.out (by assumption)) hle _))
                  | (go_split_ands; exact MK.out _ (Below.setCell (Below.setCell (Hid.out (by assumption)) (by show wA.heap.size ≤ _; first | exact Nat.le_refl _ | assumption | omega | (simp; done) | (simp; omega)) _) (by show wA.heap.size ≤ _; first | exact Nat.le_refl _ | assumption | omega | (simp; done) | (simp; omega)) _)))
                ((first
                  | (go_at_call 19
                     go_split_ands
                     with_reducible refine (rCopyMarks_any x.marks p pc _ (KM.out _ (Hid.out (by assumption))) (by omega)).mono ?_
                     rintro e' wz5 ⟨A5, c5, rfl, h5, -, hb1⟩
                     try (have H6 := Lib.hid (by first | exact H5.out.keep (Keep.below hb1) | exact (H5.out.keep (Keep.alloc _ _)).keep (Keep.below hb1) : ArrMk wz5 _ x.marks _))
                     have hle := Nat.le_trans (Hid.out (by assumption) : Below wA.heap.size wA _).size hb1.size
                     have H5 := Lib.hid h5
                     clear h5
                     try (first
                       | (have HT0 := (HT.out.keep hb1 : TwoAt _ _ (.int .i64 0) (.int .i64 0)); (try simp only [gsize_drew] at HT0); (try simp only [World.size_alloc] at HT0); (try simp only [gsize_drew] at HT0); have HT := Lib.hid HT0; clear HT0; obtain ⟨q0, q1, qf0, qf1⟩ := HT.out)
                       | (have HT0 := ((TwoAt.new _ _ _ 42).keep hb1 : TwoAt _ _ (.int .i64 0) (.int .i64 0)); (try simp only [gsize_drew] at HT0); (try simp only [World.size_alloc] at HT0); (try simp only [gsize_drew] at HT0); have HT := Lib.hid HT0; clear HT0; obtain ⟨q0, q1, qf0, qf1⟩ := HT.out)
                       | (have HT0 := ((TwoAt.new _ _ _ 42).keepD hb1 : TwoAt _ _ (.int .i64 0) (.int .i64 0)); (try simp only [gsize_drew] at HT0); (try simp only [World.size_alloc] at HT0); (try simp only [gsize_drew] at HT0); have HT := Lib.hid HT0; clear HT0; obtain ⟨q0, q1, qf0, qf1⟩ := HT.out)))
                  | (go_at_call 27
                     go_split_ands
                     refine (xAgreement_any x.marks x.marks _ _ _ _ _ (by first | exact H5.out | exact H6.out | exact H5.out.keep (Keep.alloc _ _) | exact H6.out.keep (Keep.alloc _ _)) (by first | exact H5.out | exact H6.out | exact H5.out.keep (Keep.alloc _ _) | exact H6.out.keep (Keep.alloc _ _))).mono ?_
                     rintro e' wz7 ⟨rfl, hb1⟩
                     have hle := Nat.le_trans (Hid.out (by assumption) : Below wA.heap.size wA _).size hb1.size
                     try (first
                       | (have HT0 := (HT.out.keep hb1 : TwoAt _ _ (.int .i64 0) (.int .i64 0)); (try simp only [gsize_drew] at HT0); (try simp only [World.size_alloc] at HT0); (try simp only [gsize_drew] at HT0); have HT := Lib.hid HT0; clear HT0; obtain ⟨q0, q1, qf0, qf1⟩ := HT.out)
                       | (have HT0 := ((TwoAt.new _ _ _ 42).keep hb1 : TwoAt _ _ (.int .i64 0) (.int .i64 0)); (try simp only [gsize_drew] at HT0); (try simp only [World.size_alloc] at HT0); (try simp only [gsize_drew] at HT0); have HT := Lib.hid HT0; clear HT0; obtain ⟨q0, q1, qf0, qf1⟩ := HT.out)
                       | (have HT0 := ((TwoAt.new _ _ _ 42).keepD hb1 : TwoAt _ _ (.int .i64 0) (.int .i64 0)); (try simp only [gsize_drew] at HT0); (try simp only [World.size_alloc] at HT0); (try simp only [gsize_drew] at HT0); have HT := Lib.hid HT0; clear HT0; obtain ⟨q0, q1, qf0, qf1⟩ := HT.out)))))
              all_goals
                rename_i hS
                obtain ⟨-, -, -, -, -, -, -, -, hbb⟩ := hS
                go_wp2_with fail
                go_meet
                first
                  | exact ⟨_, rfl, rfl, by omega, Lib.hid (TwoAt.new _ _ _ _), hbb⟩
                  | exact ⟨_, rfl, rfl, by omega, Lib.hid (HT.out.set _ _), hbb⟩
            case rest =>
              obtain ⟨gHO, rfl, rfl, hgHO, HO, HB⟩ := hcut
              obtain ⟨wC, hwC⟩ : ∃ wz, wz = wc := ⟨_, rfl⟩
              subst hwC
              replace HW := Lib.hid (HW.out.trans (HB.out.mono HW.out.size))
              replace BX := Lib.hid (BX.out.keep (Keep.below HB.out))
              replace BC := Lib.hid (BC.out.keep (Keep.below HB.out))
              clear HB
              clear q0 q1 q2 q3 r0 r1 r2 r3
              obtain ⟨q0, q1, q2, q3⟩ := BX.out
              obtain ⟨r0, r1, r2, r3⟩ := BC.out
              obtain ⟨o0, o1, -, -⟩ := HO.out
              go_wp2_with fail
              go_cut [9, 10] from 54 to 62 (fun s1 s2 wx => ∃ g : Nat, s1 = .pointer (some ⟨g, 0, none⟩) ∧ s2 = .int .i64 (agErr x.marks d.marks) ∧ wC.heap.size ≤ g ∧ Hid (TwoAt wx g (.int .i64 (agOut x.marks d.marks).1) (.int .i64 (agOut x.marks d.marks).2)) ∧ Hid (Below wC.heap.size wC wx))
              case first =>
                have HBd : Hid (Below wC.heap.size wC wC.drew) := Lib.hid (Below.refl _ _).drew
                have MK : Hid (∀ w', Below wC.heap.size wC w' → w'.cell? ⟨w.heap.size, 0, none⟩ = some (.string x.name) ∧ w'.cell? ⟨w.heap.size, 0 + 1, none⟩ = some (.int .i64 x.day) ∧ w'.cell? ⟨w.heap.size, 0 + 2, none⟩ = some (.string x.who) ∧ w'.cell? ⟨w.heap.size, 0 + 3, none⟩ = some (.slice p x.marks.length pc) ∧ w'.cell? ⟨w.heap.size + 1, 0, none⟩ = some (.string d.name) ∧ w'.cell? ⟨w.heap.size + 1, 0 + 1, none⟩ = some (.int .i64 d.day) ∧ w'.cell? ⟨w.heap.size + 1, 0 + 2, none⟩ = some (.string d.who) ∧ w'.cell? ⟨w.heap.size + 1, 0 + 3, none⟩ = some (.slice p' d.marks.length pc') ∧ Hid (Below wC.heap.size wC w')) :=
                  Lib.hid fun w' hw => ⟨Keep.below hw _ _ q0, Keep.below hw _ _ q1, Keep.below hw _ _ q2, Keep.below hw _ _ q3, Keep.below hw _ _ r0, Keep.below hw _ _ r1, Keep.below hw _ _ r2, Keep.below hw _ _ r3, Lib.hid hw⟩
                have KM : Hid (∀ w', Below wC.heap.size wC w' → ArrMk w' p x.marks pc) := Lib.hid fun w' hw => (M.out.keep (Keep.below (HW.out.trans (hw.mono HW.out.size))))
                have KC : Hid (∀ w', Below wC.heap.size wC w' → ArrMk w' p' d.marks pc') := Lib.hid fun w' hw => (M'.out.keep (Keep.below (HW.out.trans (hw.mono HW.out.size))))
                go_region_held3 (fun w' => w'.cell? ⟨w.heap.size, 0, none⟩ = some (.string x.name) ∧ w'.cell? ⟨w.heap.size, 0 + 1, none⟩ = some (.int .i64 x.day) ∧ w'.cell? ⟨w.heap.size, 0 + 2, none⟩ = some (.string x.who) ∧ w'.cell? ⟨w.heap.size, 0 + 3, none⟩ = some (.slice p x.marks.length pc) ∧ w'.cell? ⟨w.heap.size + 1, 0, none⟩ = some (.string d.name) ∧ w'.cell? ⟨w.heap.size + 1, 0 + 1, none⟩ = some (.int .i64 d.day) ∧ w'.cell? ⟨w.heap.size + 1, 0 + 2, none⟩ = some (.string d.who) ∧ w'.cell? ⟨w.heap.size + 1, 0 + 3, none⟩ = some (.slice p' d.marks.length pc') ∧ Hid (Below wC.heap.size wC w'))
                  (first
                    | exact MK.out _ HBd.out
                    | (go_split_ands; exact ⟨by assumption, by assumption, by assumption, by assumption, by assumption, by assumption, by assumption, by assumption, by assumption⟩)
                    | (go_split_ands; exact MK.out _ (Below.trans (Hid.out (by assumption)) (hb1.mono (Hid.out (by assumption) : Below wC.heap.size wC _).size)))
                    | (go_split_ands; exact MK.out _ (Below.alloc (Hid.out (by assumption)) (Hid.out (by assumption) : Below wC.heap.size wC _).size _))
                    | (go_split_ands; exact MK.out _ (gbelow_realloc (Hid.out (by assumption)) hle _))
                    | (go_split_ands; exact MK.out _ (Below.setCell (Below.setCell (Hid.out (by assumption)) (by show wC.heap.size ≤ _; first | exact Nat.le_refl _ | assumption | omega | (simp; done) | (simp; omega)) _) (by show wC.heap.size ≤ _; first | exact Nat.le_refl _ | assumption | omega | (simp; done) | (simp; omega)) _)))
                  ((first
                    | (go_at_call 19
                       go_split_ands
                       with_reducible refine (rCopyMarks_any x.marks p pc _ (KM.out _ (Hid.out (by assumption))) (by omega)).mono ?_
                       rintro e' wz5 ⟨A5, c5, rfl, h5, -, hb1⟩
                       have hle := Nat.le_trans (Hid.out (by assumption) : Below wC.heap.size wC _).size hb1.size
                       have H5 := Lib.hid h5
                       clear h5
                       try (have H6 := Lib.hid (by first | exact H6.out.keep (Keep.below hb1) | exact (H6.out.keep (Keep.alloc _ _)).keep (Keep.below hb1) : ArrMk wz5 A6 d.marks c6))
                       try (first
                         | (have HT0 := (HT.out.keep hb1 : TwoAt _ _ (.int .i64 0) (.int .i64 0)); (try simp only [gsize_drew] at HT0); (try simp only [World.size_alloc] at HT0); (try simp only [gsize_drew] at HT0); have HT := Lib.hid HT0; clear HT0; obtain ⟨q0, q1, qf0, qf1⟩ := HT.out)
                         | (have HT0 := ((TwoAt.new _ _ _ 42).keep hb1 : TwoAt _ _ (.int .i64 0) (.int .i64 0)); (try simp only [gsize_drew] at HT0); (try simp only [World.size_alloc] at HT0); (try simp only [gsize_drew] at HT0); have HT := Lib.hid HT0; clear HT0; obtain ⟨q0, q1, qf0, qf1⟩ := HT.out)
                         | (have HT0 := ((TwoAt.new _ _ _ 42).keepD hb1 : TwoAt _ _ (.int .i64 0) (.int .i64 0)); (try simp only [gsize_drew] at HT0); (try simp only [World.size_alloc] at HT0); (try simp only [gsize_drew] at HT0); have HT := Lib.hid HT0; clear HT0; obtain ⟨q0, q1, qf0, qf1⟩ := HT.out)))
                    | (go_at_call 19
                       go_split_ands
                       with_reducible refine (rCopyMarks_any d.marks p' pc' _ (KC.out _ (Hid.out (by assumption))) (by omega)).mono ?_
                       rintro e' wz6 ⟨A6, c6, rfl, h6, -, hb1⟩
                       have hle := Nat.le_trans (Hid.out (by assumption) : Below wC.heap.size wC _).size hb1.size
                       have H6 := Lib.hid h6
                       clear h6
                       try (have H5 := Lib.hid (by first | exact H5.out.keep (Keep.below hb1) | exact (H5.out.keep (Keep.alloc _ _)).keep (Keep.below hb1) : ArrMk wz6 A5 x.marks c5))
                       try (first
                         | (have HT0 := (HT.out.keep hb1 : TwoAt _ _ (.int .i64 0) (.int .i64 0)); (try simp only [gsize_drew] at HT0); (try simp only [World.size_alloc] at HT0); (try simp only [gsize_drew] at HT0); have HT := Lib.hid HT0; clear HT0; obtain ⟨q0, q1, qf0, qf1⟩ := HT.out)
                         | (have HT0 := ((TwoAt.new _ _ _ 42).keep hb1 : TwoAt _ _ (.int .i64 0) (.int .i64 0)); (try simp only [gsize_drew] at HT0); (try simp only [World.size_alloc] at HT0); (try simp only [gsize_drew] at HT0); have HT := Lib.hid HT0; clear HT0; obtain ⟨q0, q1, qf0, qf1⟩ := HT.out)
                         | (have HT0 := ((TwoAt.new _ _ _ 42).keepD hb1 : TwoAt _ _ (.int .i64 0) (.int .i64 0)); (try simp only [gsize_drew] at HT0); (try simp only [World.size_alloc] at HT0); (try simp only [gsize_drew] at HT0); have HT := Lib.hid HT0; clear HT0; obtain ⟨q0, q1, qf0, qf1⟩ := HT.out)))
                    | (go_at_call 27
                       go_split_ands
                       refine (xAgreement_any x.marks d.marks _ _ _ _ _ (by first | exact H5.out | exact H5.out.keep (Keep.alloc _ _)) (by first | exact H6.out | exact H6.out.keep (Keep.alloc _ _))).mono ?_
                       rintro e' wz7 ⟨rfl, hb1⟩
                       have hle := Nat.le_trans (Hid.out (by assumption) : Below wC.heap.size wC _).size hb1.size
                       try (first
                         | (have HT0 := (HT.out.keep hb1 : TwoAt _ _ (.int .i64 0) (.int .i64 0)); (try simp only [gsize_drew] at HT0); (try simp only [World.size_alloc] at HT0); (try simp only [gsize_drew] at HT0); have HT := Lib.hid HT0; clear HT0; obtain ⟨q0, q1, qf0, qf1⟩ := HT.out)
                         | (have HT0 := ((TwoAt.new _ _ _ 42).keep hb1 : TwoAt _ _ (.int .i64 0) (.int .i64 0)); (try simp only [gsize_drew] at HT0); (try simp only [World.size_alloc] at HT0); (try simp only [gsize_drew] at HT0); have HT := Lib.hid HT0; clear HT0; obtain ⟨q0, q1, qf0, qf1⟩ := HT.out)
                         | (have HT0 := ((TwoAt.new _ _ _ 42).keepD hb1 : TwoAt _ _ (.int .i64 0) (.int .i64 0)); (try simp only [gsize_drew] at HT0); (try simp only [World.size_alloc] at HT0); (try simp only [gsize_drew] at HT0); have HT := Lib.hid HT0; clear HT0; obtain ⟨q0, q1, qf0, qf1⟩ := HT.out)))))
                all_goals
                  rename_i hS
                  obtain ⟨-, -, -, -, -, -, -, -, hbb⟩ := hS
                  go_wp2_with fail
                  go_meet
                  first
                    | exact ⟨_, rfl, rfl, by omega, Lib.hid (TwoAt.new _ _ _ _), hbb⟩
                    | exact ⟨_, rfl, rfl, by omega, Lib.hid (HT.out.set _ _), hbb⟩
              case rest =>
                obtain ⟨gHP, rfl, rfl, hgHP, HP, HB⟩ := hcut
                obtain ⟨wD, hwD⟩ : ∃ wz, wz = wc := ⟨_, rfl⟩
                subst hwD
                replace HW := Lib.hid (HW.out.trans (HB.out.mono HW.out.size))
                replace BX := Lib.hid (BX.out.keep (Keep.below HB.out))
                replace BC := Lib.hid (BC.out.keep (Keep.below HB.out))
                replace HO := Lib.hid (HO.out.keep HB.out)
                clear HB
                clear q0 q1 q2 q3 r0 r1 r2 r3 o0 o1
                obtain ⟨q0, q1, q2, q3⟩ := BX.out
                obtain ⟨r0, r1, r2, r3⟩ := BC.out
                obtain ⟨o0, o1, -, -⟩ := HO.out
                obtain ⟨s0, s1, -, -⟩ := HP.out
                go_wp2_with fail
                refine (rCopyItem_any x _ _ ⟨_, _, rfl, (M.out.keep (Keep.below HW.out))⟩ (by omega)).mono ?_
                rintro e' wG ⟨A8, c8, rfl, h8, -, hb1⟩
                replace HW := Lib.hid (HW.out.trans (hb1.mono HW.out.size))
                replace BX := Lib.hid (BX.out.keep (Keep.below hb1))
                replace BC := Lib.hid (BC.out.keep (Keep.below hb1))
                replace HO := Lib.hid (HO.out.keep hb1)
                replace HP := Lib.hid (HP.out.keep hb1)
                clear h8
                clear q0 q1 q2 q3 r0 r1 r2 r3 o0 o1 s0 s1
                clear hb1
                obtain ⟨q0, q1, q2, q3⟩ := BX.out
                obtain ⟨r0, r1, r2, r3⟩ := BC.out
                obtain ⟨o0, o1, -, -⟩ := HO.out
                obtain ⟨s0, s1, -, -⟩ := HP.out
                go_wp2_with fail
                have LB0 : LastAt (wG.alloc (.cells #[.string x.name, .int .i64 x.day, .string x.who, .slice A8 x.marks.length c8] 24)) wG.heap.size (.slice A8 x.marks.length c8) := ⟨cellNew _ _ _ 3, frozenNew _ _ _ 3⟩
                have HBG : Below wG.heap.size wG (wG.alloc (.cells #[.string x.name, .int .i64 x.day, .string x.who, .slice A8 x.marks.length c8] 24)) := (Below.refl _ _).alloc (Nat.le_refl _) _
                obtain ⟨gF, hgF⟩ : ∃ g, g = wG.heap.size := ⟨_, rfl⟩
                have HLT : gF < (wG.alloc (.cells #[.string x.name, .int .i64 x.day, .string x.who, .slice A8 x.marks.length c8] 24)).heap.size := by rw [hgF]; simp
                rw [← hgF] at LB0
                try rw [← hgF]
                obtain ⟨wH, hwH⟩ : ∃ wz, wz = wG.alloc (.cells #[.string x.name, .int .i64 x.day, .string x.who, .slice A8 x.marks.length c8] 24) := ⟨_, rfl⟩
                rw [← hwH] at LB0 HBG HLT
                rw [← hwH]
                clear hwH
                have LB0 := Lib.hid LB0
                have HBG := Lib.hid HBG
                have HGF := Lib.hid hgF
                have HLT := Lib.hid HLT
                clear hgF
                have hk := HK.out
                obtain ⟨b, oo, rfl, -⟩ := Arr.at_ M.out hk
                have hkc : (k : Int) ≤ (pc : Int) := by have := M.out.1; omega
                have hpc : x.marks.length ≤ pc := M.out.1
                have hpm : pc ≤ 9223372036854775807 := M.out.2.1
                have hw1 : IntKind.i64.wrap ((k : Int) + 1) = (k : Int) + 1 := by rw [IntKind.wrap_i64]; omega
                have hk1 : (k : Int) + 1 ≤ (x.marks.length : Int) := by omega
                have hlc : (x.marks.length : Int) ≤ (pc : Int) := by omega
                have hk0 : (0 : Int) ≤ (k : Int) + 1 := by omega
                obtain ⟨o2, hif, ho2⟩ : ∃ o2, (if pc = k + 1 then some (⟨b, oo, none⟩ : Addr) else some ⟨b, oo + (k + 1) * 2, none⟩) = some ⟨b, o2, none⟩ ∧ (pc = k + 1 ∨ o2 = oo + (k + 1) * 2) := by
                  by_cases e : pc = k + 1
                  · exact ⟨oo, by rw [if_pos e], .inl e⟩
                  · exact ⟨oo + (k + 1) * 2, by rw [if_neg e], .inr rfl⟩
                have HO2 := Lib.hid ho2
                clear ho2
                have y3 := Keep.below HBG.out _ _ q3
                clear q0 q1 q2 q3 r0 r1 r2 r3 o0 o1 s0 s1
                go_wp2_with fail
                have HBd : Hid (Below wH.heap.size wH wH.drew) := Lib.hid (Below.refl _ _).drew
                have MK : Hid (∀ w', Below wH.heap.size wH w' → w'.cell? ⟨w.heap.size, 0 + 3, none⟩ = some (.slice (some ⟨b, oo, none⟩) x.marks.length pc) ∧ Hid (Below wH.heap.size wH w')) :=
                  Lib.hid fun w' hw => ⟨Keep.below hw _ _ y3, Lib.hid hw⟩
                have KM : Hid (∀ w', Below wH.heap.size wH w' → ArrMk w' (some ⟨b, oo, none⟩) x.marks pc) := Lib.hid fun w' hw => (M.out.keep (Keep.below (HW.out.trans (HBG.out.trans (hw.mono HBG.out.size) |>.mono HW.out.size))))
                refine heldPeel (S := fun w' => w'.cell? ⟨w.heap.size, 0 + 3, none⟩ = some (.slice (some ⟨b, oo, none⟩) x.marks.length pc) ∧ Hid (Below wH.heap.size wH w')) (l := [_, _, _, _, _, _, _, _, _, _, _, _]) (by kernel_rfl) (by kernel_rfl) (MK.out _ HBd.out) (fun hHeld => ?_)
                refine wpAnyH_take (i := 0) (v := ?val0x1) rfl (by kernel_rfl) (by kernel_rfl) (by kernel_rfl) (fun _ _ _ h => h) (Or.inl ⟨by rfl, fun w9 hS9 => ?yields0x1⟩) (by assumption) ?later0x1
                case yields0x1 =>
                  dsimp only at hS9
                  go_simp
                  try with_reducible rfl
                try simp only [Act.put, List.getElem_toArray, List.getElem_cons_succ, List.getElem_cons_zero, List.setIfInBounds_toArray, List.set_cons_zero, List.set_cons_succ]
                refine wpAnyH_take (i := 1) (v := ?val1x2) rfl (by kernel_rfl) (by kernel_rfl) (by kernel_rfl) (fun _ _ _ h => h) (Or.inl ⟨by rfl, fun w9 hS9 => ?yields1x2⟩) (by assumption) ?later1x2
                case yields1x2 =>
                  dsimp only at hS9
                  go_simp
                  try with_reducible rfl
                try simp only [Act.put, List.getElem_toArray, List.getElem_cons_succ, List.getElem_cons_zero, List.setIfInBounds_toArray, List.set_cons_zero, List.set_cons_succ]
                refine wpAnyH_take (i := 2) (v := ?val2x3) rfl (by kernel_rfl) (by kernel_rfl) (by kernel_rfl) (fun _ _ _ h => h) (Or.inl ⟨by rfl, fun w9 hS9 => ?yields2x3⟩) (by assumption) ?later2x3
                case yields2x3 =>
                  dsimp only at hS9
                  go_simp
                  try with_reducible rfl
                try simp only [Act.put, List.getElem_toArray, List.getElem_cons_succ, List.getElem_cons_zero, List.setIfInBounds_toArray, List.set_cons_zero, List.set_cons_succ]
                refine wpAnyH_take (i := 3) (v := ?val3x4) rfl (by kernel_rfl) (by kernel_rfl) (by kernel_rfl) (fun _ _ _ h => h) (Or.inl ⟨by rfl, fun w9 hS9 => ?yields3x4⟩) (by assumption) ?later3x4
                case yields3x4 =>
                  dsimp only at hS9
                  go_simp
                  try with_reducible rfl
                try simp only [Act.put, List.getElem_toArray, List.getElem_cons_succ, List.getElem_cons_zero, List.setIfInBounds_toArray, List.set_cons_zero, List.set_cons_succ]
                refine wpAnyH_take (i := 5) (v := ?val5x5) rfl (by kernel_rfl) (by kernel_rfl) (by kernel_rfl) (fun _ _ _ h => h) (Or.inl ⟨by rfl, fun w9 hS9 => ?yields5x5⟩) (by assumption) ?later5x5
                case yields5x5 =>
                  dsimp only at hS9
                  go_simp
                  try with_reducible rfl
                try simp only [Act.put, List.getElem_toArray, List.getElem_cons_succ, List.getElem_cons_zero, List.setIfInBounds_toArray, List.set_cons_zero, List.set_cons_succ]
                refine wpAnyH_take (i := 6) (v := ?val6x6) rfl (by kernel_rfl) (by kernel_rfl) (by kernel_rfl) (fun _ _ _ h => h) (Or.inl ⟨by rfl, fun w9 hS9 => ?yields6x6⟩) (by assumption) ?later6x6
                case yields6x6 =>
                  dsimp only at hS9
                  go_simp
                  try with_reducible rfl
                try simp only [Act.put, List.getElem_toArray, List.getElem_cons_succ, List.getElem_cons_zero, List.setIfInBounds_toArray, List.set_cons_zero, List.set_cons_succ]
                refine wpAnyH_take (i := 7) (v := ?val7x7) rfl (by kernel_rfl) (by kernel_rfl) (by kernel_rfl) (fun _ _ _ h => h) (Or.inl ⟨by rfl, fun w9 hS9 => ?yields7x7⟩) (by assumption) ?later7x7
                case yields7x7 =>
                  dsimp only at hS9
                  go_simp
                  try with_reducible rfl
                try simp only [Act.put, List.getElem_toArray, List.getElem_cons_succ, List.getElem_cons_zero, List.setIfInBounds_toArray, List.set_cons_zero, List.set_cons_succ]
                refine wpAnyH_take (i := 8) (v := ?val8x8) rfl (by kernel_rfl) (by kernel_rfl) (by kernel_rfl) (fun _ _ _ h => h) (Or.inl ⟨by rfl, fun w9 hS9 => ?yields8x8⟩) (by assumption) ?later8x8
                case yields8x8 =>
                  dsimp only at hS9
                  go_simp
                  try with_reducible rfl
                try simp only [Act.put, List.getElem_toArray, List.getElem_cons_succ, List.getElem_cons_zero, List.setIfInBounds_toArray, List.set_cons_zero, List.set_cons_succ]
                refine wpAnyH_take (i := 9) (v := ?val9x9) rfl (by kernel_rfl) (by kernel_rfl) (by kernel_rfl) (fun _ _ _ h => h) (Or.inl ⟨by rfl, fun w9 hS9 => ?yields9x9⟩) (by assumption) ?later9x9
                case yields9x9 =>
                  dsimp only at hS9
                  go_simp
                  try with_reducible rfl
                try simp only [Act.put, List.getElem_toArray, List.getElem_cons_succ, List.getElem_cons_zero, List.setIfInBounds_toArray, List.set_cons_zero, List.set_cons_succ]
                refine wpAnyH_ready (rs := [4]) (by kernel_rfl) (by simp) ?_
                refine AllReadyH.cons rfl (fun K hK => ?_) AllReadyH.nil
                go_simp
                go_at_call 19
                go_split_ands
                refine (rCopyTake_any x.marks (some ⟨b, oo, none⟩) pc k _ (KM.out _ (Hid.out (by assumption))) (by omega) (by omega)).mono ?_
                rintro e' wI ⟨vI, rfl, hoI, hb1⟩
                have HOI := Lib.hid (gown_low hoI (Hid.out (by assumption) : Below wH.heap.size wH _).size)
                clear hoI
                go_wp2_with fail
                refine hK.out _ _ ?_ (fun hHeld => ?_)
                · (try dsimp only)
                  (go_split_ands; exact MK.out _ (Below.trans (Hid.out (by assumption)) (hb1.mono (Hid.out (by assumption) : Below wH.heap.size wH _).size)))
                clear hK K
                try simp only [Act.put, List.getElem_toArray, List.getElem_cons_succ, List.getElem_cons_zero, List.setIfInBounds_toArray, List.set_cons_zero, List.set_cons_succ]
                refine wpAnyH_ready (rs := [10]) (by kernel_rfl) (by simp) ?_
                refine AllReadyH.cons rfl (fun K hK => ?_) AllReadyH.nil
                obtain ⟨-, HBX⟩ := hHeld
                refine gstep_join rfl (.tmp 69) (.tmp 74) 22 rfl wH.heap.size 119 j0 _ 2 32 Tryz.underlying22 hj jz0 jz1 jz2 rfl (by decide) _ k _ rfl HOI.out HBX.out.size b o2 (x.marks.length - (k + 1)) (pc - (k + 1)) (fun i j => mrkCells (lMrk x.marks (k + 1 + i)) j) rfl (ArrMk.behind (KM.out _ HBX.out) HK.out HO2.out) (by intro i j; unfold mrkCells; split <;> rfl) (by unfold maxLen; omega) (by omega) ?_
                intro v9 w9 ho9 hb9
                have hyl2 : k + (x.marks.length - (k + 1)) = y.length := by have := HWL.out; omega
                rw [without_flat HK.out, ← HY.out, hyl2] at ho9
                obtain ⟨A9, c9, rfl, hA9, hlo9⟩ := gown_arr ho9
                refine hK.out _ _ (MK.out _ (HBX.out.trans hb9)) (fun hHeld => ?_)
                try simp only [Act.put, List.getElem_toArray, List.getElem_cons_succ, List.getElem_cons_zero, List.setIfInBounds_toArray, List.set_cons_zero, List.set_cons_succ]
                clear ho9 hb9 HBX hK K hyl2
                refine wpAnyH_take (i := 11) (v := ?val11x10) rfl (by kernel_rfl) (by kernel_rfl) (by kernel_rfl) (fun _ _ _ h => h) (Or.inl ⟨by rfl, fun w9 hS9 => ?yields11x10⟩) (by assumption) ?later11x10
                case yields11x10 =>
                  dsimp only at hS9
                  go_simp
                  try with_reducible rfl
                try simp only [Act.put, List.getElem_toArray, List.getElem_cons_succ, List.getElem_cons_zero, List.setIfInBounds_toArray, List.set_cons_zero, List.set_cons_succ]
                refine wpAnyH_done (by kernel_rfl) ?_ _
                unfold Peeled
                dsimp only
                obtain ⟨-, HBX⟩ := hHeld
                have LB9 := LB0.out.below HBX.out HLT.out
                have HLB := Lib.hid (LB9.set (.slice A9 y.length c9))
                have HM9 := Lib.hid (show ArrMk (w9.setCell ⟨gF, 3, none⟩ (.slice A9 y.length c9)) A9 y c9 from garr_far hA9 (fun p hp => Nat.lt_of_lt_of_le HLT.out (hlo9 p hp)) _)
                have HBJ := Lib.hid (Below.setCell (HBG.out.trans (HBX.out.mono HBG.out.size)) (p := ⟨gF, 3, none⟩) (by show wG.heap.size ≤ gF; rw [HGF.out]; exact Nat.le_refl _) (.slice A9 y.length c9))
                obtain ⟨cc, ff⟩ := LB9
                clear hA9 hlo9 KM MK HBd HBX hif hk0 hkc hpc hpm hw1 hk1 hlc y3
                go_wp2_with fail
                clear cc ff
                obtain ⟨wJ, hwJ⟩ : ∃ wz, wz = w9.setCell ⟨gF, 3, none⟩ (.slice A9 y.length c9) := ⟨_, rfl⟩
                rw [← hwJ] at HLB HM9 HBJ
                rw [← hwJ]
                clear hwJ
                replace HW := Lib.hid (HW.out.trans (HBJ.out.mono HW.out.size))
                replace BX := Lib.hid (BX.out.keep (Keep.below HBJ.out))
                replace BC := Lib.hid (BC.out.keep (Keep.below HBJ.out))
                replace HO := Lib.hid (HO.out.keep HBJ.out)
                replace HP := Lib.hid (HP.out.keep HBJ.out)
                clear HBJ HBG LB0 HLT HGF HO2 HOI
                obtain ⟨q0, q1, q2, q3⟩ := BX.out
                obtain ⟨r0, r1, r2, r3⟩ := BC.out
                obtain ⟨o0, o1, -, -⟩ := HO.out
                obtain ⟨s0, s1, -, -⟩ := HP.out
                obtain ⟨fz, -⟩ := HLB.out
                go_wp2_with fail
                go_cut [12, 13] from 78 to 86 (fun s1 s2 wx => ∃ g : Nat, s1 = .pointer (some ⟨g, 0, none⟩) ∧ s2 = .int .i64 (agErr y d.marks) ∧ wJ.heap.size ≤ g ∧ Hid (TwoAt wx g (.int .i64 (agOut y d.marks).1) (.int .i64 (agOut y d.marks).2)) ∧ Hid (Below wJ.heap.size wJ wx))
                case first =>
                  have HBd : Hid (Below wJ.heap.size wJ wJ.drew) := Lib.hid (Below.refl _ _).drew
                  have MK : Hid (∀ w', Below wJ.heap.size wJ w' → w'.cell? ⟨w.heap.size, 0, none⟩ = some (.string x.name) ∧ w'.cell? ⟨w.heap.size, 0 + 1, none⟩ = some (.int .i64 x.day) ∧ w'.cell? ⟨w.heap.size, 0 + 2, none⟩ = some (.string x.who) ∧ w'.cell? ⟨w.heap.size, 0 + 3, none⟩ = some (.slice (some ⟨b, oo, none⟩) x.marks.length pc) ∧ w'.cell? ⟨w.heap.size + 1, 0, none⟩ = some (.string d.name) ∧ w'.cell? ⟨w.heap.size + 1, 0 + 1, none⟩ = some (.int .i64 d.day) ∧ w'.cell? ⟨w.heap.size + 1, 0 + 2, none⟩ = some (.string d.who) ∧ w'.cell? ⟨w.heap.size + 1, 0 + 3, none⟩ = some (.slice p' d.marks.length pc') ∧ w'.cell? ⟨gF, 3, none⟩ = some (.slice A9 y.length c9) ∧ Hid (Below wJ.heap.size wJ w')) :=
                    Lib.hid fun w' hw => ⟨Keep.below hw _ _ q0, Keep.below hw _ _ q1, Keep.below hw _ _ q2, Keep.below hw _ _ q3, Keep.below hw _ _ r0, Keep.below hw _ _ r1, Keep.below hw _ _ r2, Keep.below hw _ _ r3, Keep.below hw _ _ fz, Lib.hid hw⟩
                  have KM : Hid (∀ w', Below wJ.heap.size wJ w' → ArrMk w' (some ⟨b, oo, none⟩) x.marks pc) := Lib.hid fun w' hw => (M.out.keep (Keep.below (HW.out.trans (hw.mono HW.out.size))))
                  have KC : Hid (∀ w', Below wJ.heap.size wJ w' → ArrMk w' p' d.marks pc') := Lib.hid fun w' hw => (M'.out.keep (Keep.below (HW.out.trans (hw.mono HW.out.size))))
                  have KF : Hid (∀ w', Below wJ.heap.size wJ w' → ArrMk w' A9 y c9) := Lib.hid fun w' hw => (HM9.out.keep (Keep.below hw))
                  go_region_held3 (fun w' => w'.cell? ⟨w.heap.size, 0, none⟩ = some (.string x.name) ∧ w'.cell? ⟨w.heap.size, 0 + 1, none⟩ = some (.int .i64 x.day) ∧ w'.cell? ⟨w.heap.size, 0 + 2, none⟩ = some (.string x.who) ∧ w'.cell? ⟨w.heap.size, 0 + 3, none⟩ = some (.slice (some ⟨b, oo, none⟩) x.marks.length pc) ∧ w'.cell? ⟨w.heap.size + 1, 0, none⟩ = some (.string d.name) ∧ w'.cell? ⟨w.heap.size + 1, 0 + 1, none⟩ = some (.int .i64 d.day) ∧ w'.cell? ⟨w.heap.size + 1, 0 + 2, none⟩ = some (.string d.who) ∧ w'.cell? ⟨w.heap.size + 1, 0 + 3, none⟩ = some (.slice p' d.marks.length pc') ∧ w'.cell? ⟨gF, 3, none⟩ = some (.slice A9 y.length c9) ∧ Hid (Below wJ.heap.size wJ w'))
                    (first
                      | exact MK.out _ HBd.out
                      | (go_split_ands; exact ⟨by assumption, by assumption, by assumption, by assumption, by assumption, by assumption, by assumption, by assumption, by assumption, by assumption⟩)
                      | (go_split_ands; exact MK.out _ (Below.trans (Hid.out (by assumption)) (hb1.mono (Hid.out (by assumption) : Below wJ.heap.size wJ _).size)))
                      | (go_split_ands; exact MK.out _ (Below.alloc (Hid.out (by assumption)) (Hid.out (by assumption) : Below wJ.heap.size wJ _).size _))
                      | (go_split_ands; exact MK.out _ (gbelow_realloc (Hid.out (by assumption)) hle _))
                      | (go_split_ands; exact MK.out _ (Below.setCell (Below.setCell (Hid.out (by assumption)) (by show wJ.heap.size ≤ _; first | exact Nat.le_refl _ | assumption | omega | (simp; done) | (simp; omega)) _) (by show wJ.heap.size ≤ _; first | exact Nat.le_refl _ | assumption | omega | (simp; done) | (simp; omega)) _)))
                    ((first
                      | (go_at_call 19
                         go_split_ands
                         with_reducible refine (rCopyMarks_any y A9 c9 _ (KF.out _ (Hid.out (by assumption))) (by omega)).mono ?_
                         rintro e' wz5 ⟨A5, c5, rfl, h5, -, hb1⟩
                         have hle := Nat.le_trans (Hid.out (by assumption) : Below wJ.heap.size wJ _).size hb1.size
                         have H5 := Lib.hid h5
                         clear h5
                         try (have H6 := Lib.hid (by first | exact H6.out.keep (Keep.below hb1) | exact (H6.out.keep (Keep.alloc _ _)).keep (Keep.below hb1) : ArrMk wz5 A6 d.marks c6))
                         try (first
                           | (have HT0 := (HT.out.keep hb1 : TwoAt _ _ (.int .i64 0) (.int .i64 0)); (try simp only [gsize_drew] at HT0); (try simp only [World.size_alloc] at HT0); (try simp only [gsize_drew] at HT0); have HT := Lib.hid HT0; clear HT0; obtain ⟨q0, q1, qf0, qf1⟩ := HT.out)
                           | (have HT0 := ((TwoAt.new _ _ _ 42).keep hb1 : TwoAt _ _ (.int .i64 0) (.int .i64 0)); (try simp only [gsize_drew] at HT0); (try simp only [World.size_alloc] at HT0); (try simp only [gsize_drew] at HT0); have HT := Lib.hid HT0; clear HT0; obtain ⟨q0, q1, qf0, qf1⟩ := HT.out)
                           | (have HT0 := ((TwoAt.new _ _ _ 42).keepD hb1 : TwoAt _ _ (.int .i64 0) (.int .i64 0)); (try simp only [gsize_drew] at HT0); (try simp only [World.size_alloc] at HT0); (try simp only [gsize_drew] at HT0); have HT := Lib.hid HT0; clear HT0; obtain ⟨q0, q1, qf0, qf1⟩ := HT.out)))
                      | (go_at_call 19
                         go_split_ands
                         with_reducible refine (rCopyMarks_any d.marks p' pc' _ (KC.out _ (Hid.out (by assumption))) (by omega)).mono ?_
                         rintro e' wz6 ⟨A6, c6, rfl, h6, -, hb1⟩
                         have hle := Nat.le_trans (Hid.out (by assumption) : Below wJ.heap.size wJ _).size hb1.size
                         have H6 := Lib.hid h6
                         clear h6
                         try (have H5 := Lib.hid (by first | exact H5.out.keep (Keep.below hb1) | exact (H5.out.keep (Keep.alloc _ _)).keep (Keep.below hb1) : ArrMk wz6 A5 y c5))
                         try (first
                           | (have HT0 := (HT.out.keep hb1 : TwoAt _ _ (.int .i64 0) (.int .i64 0)); (try simp only [gsize_drew] at HT0); (try simp only [World.size_alloc] at HT0); (try simp only [gsize_drew] at HT0); have HT := Lib.hid HT0; clear HT0; obtain ⟨q0, q1, qf0, qf1⟩ := HT.out)
                           | (have HT0 := ((TwoAt.new _ _ _ 42).keep hb1 : TwoAt _ _ (.int .i64 0) (.int .i64 0)); (try simp only [gsize_drew] at HT0); (try simp only [World.size_alloc] at HT0); (try simp only [gsize_drew] at HT0); have HT := Lib.hid HT0; clear HT0; obtain ⟨q0, q1, qf0, qf1⟩ := HT.out)
                           | (have HT0 := ((TwoAt.new _ _ _ 42).keepD hb1 : TwoAt _ _ (.int .i64 0) (.int .i64 0)); (try simp only [gsize_drew] at HT0); (try simp only [World.size_alloc] at HT0); (try simp only [gsize_drew] at HT0); have HT := Lib.hid HT0; clear HT0; obtain ⟨q0, q1, qf0, qf1⟩ := HT.out)))
                      | (go_at_call 27
                         go_split_ands
                         refine (xAgreement_any y d.marks _ _ _ _ _ (by first | exact H5.out | exact H5.out.keep (Keep.alloc _ _)) (by first | exact H6.out | exact H6.out.keep (Keep.alloc _ _))).mono ?_
                         rintro e' wz7 ⟨rfl, hb1⟩
                         have hle := Nat.le_trans (Hid.out (by assumption) : Below wJ.heap.size wJ _).size hb1.size
                         try (first
                           | (have HT0 := (HT.out.keep hb1 : TwoAt _ _ (.int .i64 0) (.int .i64 0)); (try simp only [gsize_drew] at HT0); (try simp only [World.size_alloc] at HT0); (try simp only [gsize_drew] at HT0); have HT := Lib.hid HT0; clear HT0; obtain ⟨q0, q1, qf0, qf1⟩ := HT.out)
                           | (have HT0 := ((TwoAt.new _ _ _ 42).keep hb1 : TwoAt _ _ (.int .i64 0) (.int .i64 0)); (try simp only [gsize_drew] at HT0); (try simp only [World.size_alloc] at HT0); (try simp only [gsize_drew] at HT0); have HT := Lib.hid HT0; clear HT0; obtain ⟨q0, q1, qf0, qf1⟩ := HT.out)
                           | (have HT0 := ((TwoAt.new _ _ _ 42).keepD hb1 : TwoAt _ _ (.int .i64 0) (.int .i64 0)); (try simp only [gsize_drew] at HT0); (try simp only [World.size_alloc] at HT0); (try simp only [gsize_drew] at HT0); have HT := Lib.hid HT0; clear HT0; obtain ⟨q0, q1, qf0, qf1⟩ := HT.out)))))
                  all_goals
                    rename_i hS
                    obtain ⟨-, -, -, -, -, -, -, -, -, hbb⟩ := hS
                    go_wp2_with fail
                    go_meet
                    first
                      | exact ⟨_, rfl, rfl, by omega, Lib.hid (TwoAt.new _ _ _ _), hbb⟩
                      | exact ⟨_, rfl, rfl, by omega, Lib.hid (HT.out.set _ _), hbb⟩
                case rest =>
                  obtain ⟨gHQ, rfl, rfl, hgHQ, HQ, HB⟩ := hcut
                  obtain ⟨wK, hwK⟩ : ∃ wz, wz = wc := ⟨_, rfl⟩
                  subst hwK
                  replace HW := Lib.hid (HW.out.trans (HB.out.mono HW.out.size))
                  replace BX := Lib.hid (BX.out.keep (Keep.below HB.out))
                  replace BC := Lib.hid (BC.out.keep (Keep.below HB.out))
                  replace HO := Lib.hid (HO.out.keep HB.out)
                  replace HP := Lib.hid (HP.out.keep HB.out)
                  replace HLB := Lib.hid (HLB.out.keep HB.out)
                  replace HM9 := Lib.hid (HM9.out.keep (Keep.below HB.out))
                  clear HB
                  clear q0 q1 q2 q3 r0 r1 r2 r3 o0 o1 s0 s1 fz
                  have O1 := Lib.hid (show agOut x.marks x.marks = ((x.marks.length : Int), 0) from (if_pos E1.out).trans (by rw [HS.out.1, HS.out.2]))
                  have O2 := Lib.hid (show agOut x.marks d.marks = (agrees x.marks d.marks, differs x.marks d.marks) from if_pos E2.out)
                  have O3 := Lib.hid (show agOut y d.marks = (agrees y d.marks, differs y d.marks) from if_pos E3.out)
                  rw [O1.out] at HO
                  rw [O2.out] at HP
                  rw [O3.out] at HQ
                  rw [E1.out, E2.out, E3.out]
                  have hf := HFF.out
                  have hbd := HBD.out
                  clear HFF HBD
                  obtain ⟨u0, hu0⟩ : ∃ u, u = agrees x.marks d.marks := ⟨_, rfl⟩
                  obtain ⟨u1, hu1⟩ : ∃ u, u = differs x.marks d.marks := ⟨_, rfl⟩
                  obtain ⟨v0, hv0⟩ : ∃ u, u = agrees y d.marks := ⟨_, rfl⟩
                  obtain ⟨v1, hv1⟩ : ∃ u, u = differs y d.marks := ⟨_, rfl⟩
                  rw [← hu0, ← hu1] at hf hbd HP
                  rw [← hv0, ← hv1] at hf HQ
                  clear hu0 hu1 hv0 hv1
                  have g1 : IntKind.i64.wrap (u0 - v0) = u0 - v0 := by rw [IntKind.wrap_i64]; omega
                  have g2 : IntKind.i64.wrap (u1 - v1) = u1 - v1 := by rw [IntKind.wrap_i64]; omega
                  have g3 : IntKind.i64.wrap (u0 - v0 + u1) = u0 - v0 + u1 := by rw [IntKind.wrap_i64]; omega
                  have g4 : IntKind.i64.wrap (u0 - v0 + u1 - v1) = u0 - v0 + u1 - v1 := by rw [IntKind.wrap_i64]; omega
                  have T1 := Lib.hid (Fs.within_iff.2 (show 0 ≤ u0 - v0 ∧ u0 - v0 ≤ 1 by omega))
                  have T2 := Lib.hid (Fs.within_iff.2 (show 0 ≤ u1 - v1 ∧ u1 - v1 ≤ 1 by omega))
                  have d4 : decide (u0 - v0 + u1 - v1 ≤ 1) = true := decide_eq_true (by omega)
                  clear hf hbd
                  have ee5 : (((x.marks.length : Int)) == ((x.marks.length : Int))) = true := by simp
                  have ee5b : (((x.marks.length : Int)) != ((x.marks.length : Int))) = false := by simp
                  obtain ⟨q0, q1, q2, q3⟩ := BX.out
                  obtain ⟨r0, r1, r2, r3⟩ := BC.out
                  obtain ⟨o0, o1, -, -⟩ := HO.out
                  obtain ⟨s0, s1, -, -⟩ := HP.out
                  obtain ⟨fz, -⟩ := HLB.out
                  obtain ⟨z0, z1, -, -⟩ := HQ.out
                  go_wp2_with fail
                  refine (bwithin_any _ _ _ _).mono ?_
                  rintro e' wy ⟨rfl, rfl⟩
                  rw [T1.out]
                  go_wp2_with fail
                  refine (bwithin_any _ _ _ _).mono ?_
                  rintro e' wy ⟨rfl, rfl⟩
                  rw [T2.out]
                  go_wp2_with fail
                  go_ret
                  exact ⟨rfl, HW.out⟩
        · have e1 : (thgErr d == 0) = false := by simpa using he
          have e2 : (thgErr d != 0) = true := by simpa using he
          clear he
          go_wp2_with fail
          go_ret
          exact ⟨rfl, HW.out⟩
      · have e1 : (thgErr x == 0) = false := by simpa using he
        have e2 : (thgErr x != 0) = true := by simpa using he
        clear he
        go_wp2_with fail
        go_ret
        exact ⟨rfl, HW.out⟩
end Go.Proofs.YtfjdnbnalihjiaaGreatDoor
