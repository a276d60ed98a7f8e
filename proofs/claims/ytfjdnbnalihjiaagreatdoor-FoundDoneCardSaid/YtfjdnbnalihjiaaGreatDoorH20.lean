/- The law of what is done. No condition. -/
import Derived.Test.YtfjdnbnalihjiaaGreatDoorH2
import Derived.Test.YtfjdnbnalihjiaaGreatDoorG20
import Derived.Maps.AppendAt
import Derived.Deep.RegionHeld3
import Derived.Deep.CutBlock
import Derived.Deep.CutRange
namespace Go.Proofs.YtfjdnbnalihjiaaGreatDoor
open Go.RowKit Fs

theorem dflat_join {n m size : Nat} {C D E : Nat → Nat → Value} (h0 : 0 < size) (h1 : ∀ i j, i < n → j < size → E i j = C i j) (h2 : ∀ i j, i < m → j < size → E (n + i) j = D i j) : flat n size C ++ flat m size D = flat (n + m) size E := by
  apply List.ext_getElem?
  intro t
  have l1 : (flat n size C).length = n * size := by simp [flat]
  have l2 : (flat m size D).length = m * size := by simp [flat]
  have l3 : (flat (n + m) size E).length = (n + m) * size := by simp [flat]
  have l4 : (n + m) * size = n * size + m * size := Nat.add_mul _ _ _
  by_cases a : t < n * size
  · rw [List.getElem?_append_left (by rw [l1]; exact a), flat_get t a, flat_get t (by omega), h1 _ _ (Nat.div_lt_of_lt_mul (by rw [Nat.mul_comm]; exact a)) (Nat.mod_lt _ h0)]
  · obtain ⟨s, rfl⟩ : ∃ s, t = n * size + s := ⟨t - n * size, by omega⟩
    rw [List.getElem?_append_right (by rw [l1]; omega), l1, Nat.add_sub_cancel_left]
    by_cases b : s < m * size
    · rw [flat_get s b, flat_get _ (by omega), Nat.mul_comm n size, Nat.mul_add_div h0, Nat.mul_add_mod, h2 _ _ (Nat.div_lt_of_lt_mul (by rw [Nat.mul_comm]; exact b)) (Nat.mod_lt _ h0)]
    · rw [List.getElem?_eq_none (by omega), List.getElem?_eq_none (by omega)]
theorem down_low {w : World} {B B' : Nat} {e : TypeId} {size n : Nat} {v : Value} {xs : List Value} (h : w.ownsRow B e size v n xs) (hB : B' ≤ B) : w.ownsRow B' e size v n xs := by
  rcases h with ⟨hl, ⟨hv, hn⟩ | ⟨g, cap, cur, hv, hb, hr⟩⟩
  · exact ⟨hl, .inl ⟨hv, hn⟩⟩
  · exact ⟨hl, .inr ⟨g, cap, cur, hv, Nat.le_trans hB hb, hr⟩⟩
/-- An array of values is appended to an own row, at a step of a region that draws; there may be none. -/
theorem dstep_join {P : Program} {w : World} {ops : Array Oper} {o : Oper} {a : Act} {K : Act → World → Prop} {Q : Exit → Act → World → Prop} {E : Prop} (hgd : o.guard = none) (s x : Operand) (t : TypeId)
    (ho : o.op = .call { callee := .builtin .append, args := #[s, x], argTypes := #[t, t] })
    (base : Nat) (e : TypeId) (i : TypeInfo) (z : Value) (size bytes : Nat) (ht : P.underlying t = some (.slice e)) (hi : P.info? e = some i) (hz : i.zero = some z)
    (hsize : i.size = size) (hby : i.bytes = bytes) (hzs : z.cells.size = size) (hsz : 0 < size)
    (v : Value) (n : Nat) (xs : List Value) (hs : a.eval s = v) (hown : w.ownsRow base e size v n xs) (hbase : base ≤ w.heap.size)
    (b o' m c : Nat) (C : Nat → Nat → Value) (hx : a.eval x = .slice (some ⟨b, o', none⟩) m c) (hA : Arr w (some ⟨b, o', none⟩) m c size C) (h1 : ∀ i j, (C i j).oneCell' = true)
    (h63 : n + m ≤ maxLen) (hbytes : (n + m) * bytes ≤ 140737488355328)
    (h : ∀ v' w', w'.ownsRow base e size v' (n + m) (xs ++ flat m size C) → Below base w w' → K (a.put o.dst v') w') :
    if Region.wanted o (yielded ops a.tmps) = true then Oper.wp P o a w K Q else E := by
  have hw : Region.wanted o (yielded ops a.tmps) = true := by simp [Region.wanted, hgd]
  rw [if_pos hw]
  obtain ⟨v', w', hr, h2, h3, -, -⟩ := run_append_own_at (P := P) w base t o.type e i z size bytes ht hi hz hsize hby hzs hsz v n xs hown ⟨b, o', none⟩ m c (flat m size C) (by simp [flat]) (by
    intro j u hu
    have hj : j < m * size := by
      rcases Nat.lt_or_ge j (m * size) with h | h
      · exact h
      · rw [List.getElem?_eq_none (by simpa [flat] using h)] at hu; cases hu
    rw [flat_get _ hj] at hu
    injection hu with hu
    have hm : 0 < m := Nat.pos_of_ne_zero fun h => by rw [h, Nat.zero_mul] at hj; omega
    obtain ⟨b2, o2, he, hc⟩ := hA.2.2 hm
    injection he with he
    injection he with he1 he2
    subst he1
    subst he2
    have hq := hc (j / size) (j % size) (Nat.div_lt_of_lt_mul (by rw [Nat.mul_comm]; exact hj)) (Nat.mod_lt _ hsz)
    have e1 : o' + j / size * size + j % size = o' + j := by
      have := Nat.div_add_mod j size
      rw [Nat.mul_comm] at this
      omega
    rw [e1, hu] at hq
    unfold Addr.add
    by_cases h0 : j = 0
    · subst h0; simpa using hq
    · rw [if_neg h0]; exact hq) (by
    intro u hu
    unfold flat at hu
    simp only [List.mem_map] at hu
    obtain ⟨t, -, rfl⟩ := hu
    exact h1 _ _) h63 hbytes hbase
  unfold Oper.wp execOp
  simp only [ho, resolve, invoke, builtin, Sem.run_bind, Sem.run_pure, Result.andThen_ok, List.map_toArray, List.map_cons, List.map_nil, hs, hx, hr]
  exact h v' w' h2 ((Below.refl _ _).grown h3 hbase (fun k hk => (hown.lt k hk).1))
theorem down_arr {w : World} {base m size : Nat} {e : TypeId} {v : Value} {C : Nat → Nat → Value} (h : w.ownsRow base e size v m (flat m size C)) : ∃ A c, v = .slice A m c ∧ Arr w A m c size C ∧ ∀ p, A = some p → base ≤ p.block := by
  obtain ⟨A, c, he, ha⟩ := own_row h
  refine ⟨A, c, he, ha, fun p hp => ?_⟩
  rcases h.2 with ⟨hv, -⟩ | ⟨g, cap, cur, hv, hb, -⟩
  · rw [hv] at he; injection he with e1; rw [← e1] at hp; cases hp
  · rw [hv] at he; injection he with e1; rw [← e1] at hp; injection hp with hp; rw [← hp]; exact hb
theorem evt_flat {l : List Evt} {e : Evt} : flat l.length 5 (fun i j => evtCells (lEvt l i) j) ++ flat 1 5 (fun _ j => evtCells e j) = flat (l.length + 1) 5 fun i j => evtCells (lEvt (l ++ [e]) i) j := by
  refine dflat_join (by decide) (fun i j hi hj => ?_) (fun i j hi hj => ?_)
  · rw [evt_snoc_left hi]
  · obtain rfl : i = 0 := by omega
    rw [Nat.add_zero, evt_snoc_last]
theorem evt_one (w : World) (e : Evt) (ty : TypeId) : Arr (w.alloc (.cells #[.string e.item, .int .i64 e.day, .int .i64 e.kind, .string e.src, .string e.dst] ty)) (some ⟨w.heap.size, 0, none⟩) 1 1 5 fun _ j => evtCells e j := by
  refine ⟨Nat.le_refl _, by decide, fun _ => ⟨_, _, rfl, fun i j hi hj => ?_⟩⟩
  obtain rfl : i = 0 := by omega
  match j, hj with
  | 0, _ => exact cellNew _ _ _ 0
  | 1, _ => exact cellNew _ _ _ 1
  | 2, _ => exact cellNew _ _ _ 2
  | 3, _ => exact cellNew _ _ _ 3
  | 4, _ => exact cellNew _ _ _ 4
set_option linter.unusedSimpArgs false in
set_option maxHeartbeats 12800000 in
set_option maxRecDepth 100000 in
theorem lawDone_any (x : Thg) (v : Value) (l : List Evt) (A : Option Addr) (c : Nat) (n : Int) (w : World) (hv : RdThg w v x) (h : ArrEv w A l c) (tbs : TabSt w) :
    Calls Tryz.prog 13 #[v, .slice A l.length c, .int .i64 n] w fun e w' => e = .returned (.bool true) ∧ Below w.heap.size w w' := by
  obtain ⟨p, pc, rfl, m⟩ := hv
  have b1 := h.le.1
  have b2 := h.le.2
  have M := Lib.hid m
  have HA := Lib.hid h
  have TBS := Lib.hid tbs
  have BX := Lib.hid (ThgAt.new w x p pc 24)
  clear m h tbs
  go_enter Tryz.func13, Tryz.ntmps13
  go_upto_region 1 with fail
  generalize hwb : w.alloc _ = wb at *
  have HW : Hid (Below w.heap.size w wb) := by rw [← hwb]; exact Lib.hid ((Below.refl _ _).alloc (Nat.le_refl _) _)
  clear hwb
  obtain ⟨q0, q1, q2, q3⟩ := BX.out
  go_wp2_with fail
  refine (lawAwake_any _ (TBS.out.keep (Keep.below HW.out))).mono ?_
  rintro e' w1 ⟨rfl, hb1⟩
  replace HW := Lib.hid (HW.out.trans (hb1.mono HW.out.size))
  replace BX := Lib.hid (BX.out.keep (Keep.below hb1))
  clear q0 q1 q2 q3
  clear hb1
  obtain ⟨q0, q1, q2, q3⟩ := BX.out
  go_wp2_with fail
  refine (lawChain10_any x _ l A c _ ⟨_, _, rfl, (M.out.keep (Keep.below HW.out))⟩ (HA.out.keep (Keep.below HW.out))).mono ?_
  rintro e' w2 ⟨⟨bb, rfl, hbb⟩, hb1⟩
  replace HW := Lib.hid (HW.out.trans (hb1.mono HW.out.size))
  replace BX := Lib.hid (BX.out.keep (Keep.below hb1))
  clear q0 q1 q2 q3
  clear hb1
  cases bb with
  | false =>
    clear hbb
    go_wp2_with fail
    go_ret
    exact ⟨rfl, HW.out⟩
  | true =>
    have HLM := Lib.hid (hbb rfl).1
    have hl32 := (hbb rfl).2.1
    have HL10 := Lib.hid (hbb rfl).2.2
    have HM := Lib.hid (show x.marks.length ≤ 1000000 by have := HLM.out; omega)
    clear hbb
    by_cases hz : l.length = 0
    · have e0 : ((l.length : Int) == 0) = true := by rw [hz]; rfl
      clear hz
      obtain ⟨q0, q1, q2, q3⟩ := BX.out
      go_wp2_with fail
      go_ret
      exact ⟨rfl, HW.out⟩
    · have e0 : ((l.length : Int) == 0) = false := by
        have : ¬ (l.length : Int) = 0 := by omega
        simpa using this
      obtain ⟨j, hj⟩ : ∃ j, l.length = j + 1 := ⟨l.length - 1, by omega⟩
      have hj1 : l.length - 1 = j := by omega
      have HJ := Lib.hid hj
      have HJ1 := Lib.hid hj1
      have hjm : (l.length : Int) - 1 = (j : Int) := by omega
      have hjw : IntKind.i64.wrap (j : Int) = (j : Int) := by rw [IntKind.wrap_i64]; omega
      have hjn : (j : Int) < (l.length : Int) := by omega
      obtain ⟨b, o, rfl, ⟨z0, z1, z2, z3, z4⟩⟩ := (HA.out.keep (Keep.below HW.out)).at_ (k := j) (by omega)
      clear hz hj hj1
      by_cases hk2 : (lEvt l j).kind < 2
      · have e1 : decide ((lEvt l j).kind < 2) = true := decide_eq_true hk2
        clear hk2
        obtain ⟨q0, q1, q2, q3⟩ := BX.out
        go_wp2_with fail
        go_ret
        exact ⟨rfl, HW.out⟩
      · have e1 : decide ((lEvt l j).kind < 2) = false := decide_eq_false hk2
        have HK2 := Lib.hid (show 2 ≤ (lEvt l j).kind by omega)
        clear hk2
        obtain ⟨q0, q1, q2, q3⟩ := BX.out
        go_wp2_with fail
        refine (bwithin_any _ _ _ _).mono ?_
        rintro e' wy ⟨rfl, rfl⟩
        clear e0 e1 z0 z1 z2 z3 z4
        clear q0 q1 q2 q3
        cases hwi : within n 0 1000 with
        | false =>
          go_wp2_with fail
          go_ret
          exact ⟨rfl, HW.out⟩
        | true =>
          have HN := Lib.hid (Fs.within_iff.1 hwi)
          clear hwi
          obtain ⟨q0, q1, q2, q3⟩ := BX.out
          go_wp2_with fail
          refine (rCopyItem_any x _ _ ⟨_, _, rfl, (M.out.keep (Keep.below HW.out))⟩ HM.out).mono ?_
          rintro e' wz11 ⟨A11, c11, rfl, h11, -, hb1⟩
          replace HW := Lib.hid (HW.out.trans (hb1.mono HW.out.size))
          replace BX := Lib.hid (BX.out.keep (Keep.below hb1))
          have H11 := Lib.hid h11
          clear h11
          clear q0 q1 q2 q3
          clear hb1
          obtain ⟨q0, q1, q2, q3⟩ := BX.out
          go_wp2_with fail
          refine (rCopyEvents_any l (some ⟨b, o, none⟩) c _ (HA.out.keep (Keep.below HW.out)) (by omega)).mono ?_
          rintro e' wz12 ⟨A12, c12, rfl, h12, -, hb1⟩
          replace HW := Lib.hid (HW.out.trans (hb1.mono HW.out.size))
          replace BX := Lib.hid (BX.out.keep (Keep.below hb1))
          replace H11 := Lib.hid (H11.out.keep (Keep.below hb1))
          have H12 := Lib.hid h12
          clear h12
          clear q0 q1 q2 q3
          clear hb1
          obtain ⟨q0, q1, q2, q3⟩ := BX.out
          go_wp2_with fail
          refine (xCheckChain_any x _ l _ _ _ ⟨_, _, rfl, H11.out⟩ H12.out (TBS.out.keep (Keep.below HW.out))).mono ?_
          rintro e' w3 ⟨rfl, hb1⟩
          replace HW := Lib.hid (HW.out.trans (hb1.mono HW.out.size))
          replace BX := Lib.hid (BX.out.keep (Keep.below hb1))
          replace H11 := Lib.hid (H11.out.keep (Keep.below hb1))
          replace H12 := Lib.hid (H12.out.keep (Keep.below hb1))
          clear q0 q1 q2 q3
          clear hb1
          clear H11 H12
          by_cases he : chainErr x l = 0
          · have HC := Lib.hid he
            obtain ⟨-, h30, hev⟩ := chain_ok he
            have hed := evt_day (hev j (by have := HJ.out; omega))
            have HED := Lib.hid hed
            have HNN := HN.out
            have hwn : IntKind.i64.wrap ((lEvt l j).day + n) = (lEvt l j).day + n := by rw [IntKind.wrap_i64]; omega
            have H10 := Lib.hid (show l.length ≤ 10 by have := HL10.out; omega)
            rw [he]
            clear he hev hed HNN h30
            obtain ⟨b2, o2, e2, ⟨z0, z1, z2, z3, z4⟩⟩ := (HA.out.keep (Keep.below HW.out)).at_ (k := j) (by have := HJ.out; omega)
            obtain ⟨rfl, rfl⟩ : b = b2 ∧ o = o2 := by injection e2 with e2; injection e2 with h1 h2; exact ⟨h1, h2⟩
            clear e2
            have BL := Lib.hid (EvtAt.new w3 (lEvt l j) 107)
            have hbL := (Below.refl w3.heap.size w3).alloc (Nat.le_refl _) (.cells #[.string (lEvt l j).item, .int .i64 (lEvt l j).day, .int .i64 (lEvt l j).kind, .string (lEvt l j).src, .string (lEvt l j).dst] 107)
            replace HW := Lib.hid (HW.out.trans (hbL.mono HW.out.size))
            replace BX := Lib.hid (BX.out.keep (Keep.below hbL))
            clear hbL
            obtain ⟨l0, l1, l2, l3, l4⟩ := BL.out
            go_wp2_with fail
            refine (bwithin_any _ _ _ _).mono ?_
            rintro e' wy ⟨rfl, rfl⟩
            clear z0 z1 z2 z3 z4 l0 l1 l2 l3 l4
            obtain ⟨gL, hgL⟩ : ∃ g, g = w3.heap.size := ⟨_, rfl⟩
            rw [← hgL] at BL
            rw [← hgL]
            obtain ⟨wL, hwL⟩ : ∃ wz, wz = w3.alloc (.cells #[.string (lEvt l j).item, .int .i64 (lEvt l j).day, .int .i64 (lEvt l j).kind, .string (lEvt l j).src, .string (lEvt l j).dst] 107) := ⟨_, rfl⟩
            rw [← hwL] at BL HW BX
            rw [← hwL]
            clear hgL hwL
            obtain ⟨day, hday⟩ : ∃ d, d = (lEvt l j).day + n := ⟨_, rfl⟩
            rw [← hday] at hwn ⊢
            have HDAY := Lib.hid hday
            clear hday
            cases hwd : within day 0 100000 with
            | false =>
              go_wp2_with fail
              go_ret
              exact ⟨rfl, HW.out⟩
            | true =>
              have hd := Fs.within_iff.1 hwd
              have HDB := Lib.hid hd
              have hdd : (lEvt l (l.length - 1)).day ≤ day := by rw [HJ1.out, HDAY.out]; have := HN.out; omega
              have hkk : 2 ≤ (lEvt l (l.length - 1)).kind := by rw [HJ1.out]; exact HK2.out
              have hnn : 0 < l.length := by have := HJ.out; omega
              have DN := Lib.hid (done_of HC.out hnn hkk hdd hd.2)
              have DM := Lib.hid (done_more HC.out hnn (by have := H10.out; omega) hkk hdd hd.1 hd.2)
              have DO := Lib.hid (done_office HC.out DN.out hd.1 hd.2)
              rw [HJ1.out] at DM
              clear hwd hd hdd hkk hnn hwn
              obtain ⟨q0, q1, q2, q3⟩ := BX.out
              obtain ⟨l0, l1, l2, l3, l4⟩ := BL.out
              go_wp2_with fail
              refine (rCopyItem_any x _ _ ⟨_, _, rfl, (M.out.keep (Keep.below HW.out))⟩ HM.out).mono ?_
              rintro e' wz13 ⟨A13, c13, rfl, h13, -, hb1⟩
              replace HW := Lib.hid (HW.out.trans (hb1.mono HW.out.size))
              replace BX := Lib.hid (BX.out.keep (Keep.below hb1))
              replace BL := Lib.hid (BL.out.keep (Keep.below hb1))
              have H13 := Lib.hid h13
              clear h13
              clear q0 q1 q2 q3 l0 l1 l2 l3 l4
              clear hb1
              obtain ⟨q0, q1, q2, q3⟩ := BX.out
              obtain ⟨l0, l1, l2, l3, l4⟩ := BL.out
              go_wp2_with fail
              refine (rCopyEvents_any l (some ⟨b, o, none⟩) c _ (HA.out.keep (Keep.below HW.out)) (by omega)).mono ?_
              rintro e' wz14 ⟨A14, c14, rfl, h14, -, hb1⟩
              replace HW := Lib.hid (HW.out.trans (hb1.mono HW.out.size))
              replace BX := Lib.hid (BX.out.keep (Keep.below hb1))
              replace BL := Lib.hid (BL.out.keep (Keep.below hb1))
              replace H13 := Lib.hid (H13.out.keep (Keep.below hb1))
              have H14 := Lib.hid h14
              clear h14
              clear q0 q1 q2 q3 l0 l1 l2 l3 l4
              clear hb1
              obtain ⟨q0, q1, q2, q3⟩ := BX.out
              obtain ⟨l0, l1, l2, l3, l4⟩ := BL.out
              go_wp2_with fail
              refine (xHolderAt_any x _ l _ _ day _ ⟨_, _, rfl, H13.out⟩ H14.out (TBS.out.keep (Keep.below HW.out))).mono ?_
              rintro e' wy51 ⟨rfl, hb1⟩
              replace HW := Lib.hid (HW.out.trans (hb1.mono HW.out.size))
              replace BX := Lib.hid (BX.out.keep (Keep.below hb1))
              replace BL := Lib.hid (BL.out.keep (Keep.below hb1))
              replace H13 := Lib.hid (H13.out.keep (Keep.below hb1))
              replace H14 := Lib.hid (H14.out.keep (Keep.below hb1))
              clear q0 q1 q2 q3 l0 l1 l2 l3 l4
              clear hb1
              clear H13 H14
              rw [show hoOut x l day = (lEvt l j).dst from (if_pos DN.out.on).trans (by rw [DN.out.unt, DN.out.hold, HJ1.out]), DN.out.on]
              obtain ⟨q0, q1, q2, q3⟩ := BX.out
              obtain ⟨l0, l1, l2, l3, l4⟩ := BL.out
              go_wp2_with fail
              refine (rCopyItem_any x _ _ ⟨_, _, rfl, (M.out.keep (Keep.below HW.out))⟩ HM.out).mono ?_
              rintro e' wz15 ⟨A15, c15, rfl, h15, -, hb1⟩
              replace HW := Lib.hid (HW.out.trans (hb1.mono HW.out.size))
              replace BX := Lib.hid (BX.out.keep (Keep.below hb1))
              replace BL := Lib.hid (BL.out.keep (Keep.below hb1))
              have H15 := Lib.hid h15
              clear h15
              clear q0 q1 q2 q3 l0 l1 l2 l3 l4
              clear hb1
              obtain ⟨q0, q1, q2, q3⟩ := BX.out
              obtain ⟨l0, l1, l2, l3, l4⟩ := BL.out
              go_wp2_with fail
              refine (rCopyEvents_any l (some ⟨b, o, none⟩) c _ (HA.out.keep (Keep.below HW.out)) (by omega)).mono ?_
              rintro e' wz16 ⟨A16, c16, rfl, h16, -, hb1⟩
              replace HW := Lib.hid (HW.out.trans (hb1.mono HW.out.size))
              replace BX := Lib.hid (BX.out.keep (Keep.below hb1))
              replace BL := Lib.hid (BL.out.keep (Keep.below hb1))
              replace H15 := Lib.hid (H15.out.keep (Keep.below hb1))
              have H16 := Lib.hid h16
              clear h16
              clear q0 q1 q2 q3 l0 l1 l2 l3 l4
              clear hb1
              obtain ⟨q0, q1, q2, q3⟩ := BX.out
              obtain ⟨l0, l1, l2, l3, l4⟩ := BL.out
              go_wp2_with fail
              refine (xStateAt_any x _ l _ _ day _ ⟨_, _, rfl, H15.out⟩ H16.out (TBS.out.keep (Keep.below HW.out))).mono ?_
              rintro e' wy52 ⟨rfl, hb1⟩
              replace HW := Lib.hid (HW.out.trans (hb1.mono HW.out.size))
              replace BX := Lib.hid (BX.out.keep (Keep.below hb1))
              replace BL := Lib.hid (BL.out.keep (Keep.below hb1))
              replace H15 := Lib.hid (H15.out.keep (Keep.below hb1))
              replace H16 := Lib.hid (H16.out.keep (Keep.below hb1))
              clear q0 q1 q2 q3 l0 l1 l2 l3 l4
              clear hb1
              clear H15 H16
              rw [show stOut x l day = (lEvt l j).kind from (if_pos DN.out.on).trans (by rw [DN.out.unt, DN.out.state, HJ1.out]), DN.out.on]
              obtain ⟨q0, q1, q2, q3⟩ := BX.out
              obtain ⟨l0, l1, l2, l3, l4⟩ := BL.out
              go_wp2_with fail
              refine (rCopyItem_any x _ _ ⟨_, _, rfl, (M.out.keep (Keep.below HW.out))⟩ HM.out).mono ?_
              rintro e' wz17 ⟨A17, c17, rfl, h17, -, hb1⟩
              replace HW := Lib.hid (HW.out.trans (hb1.mono HW.out.size))
              replace BX := Lib.hid (BX.out.keep (Keep.below hb1))
              replace BL := Lib.hid (BL.out.keep (Keep.below hb1))
              have H17 := Lib.hid h17
              clear h17
              clear q0 q1 q2 q3 l0 l1 l2 l3 l4
              clear hb1
              obtain ⟨q0, q1, q2, q3⟩ := BX.out
              obtain ⟨l0, l1, l2, l3, l4⟩ := BL.out
              go_wp2_with fail
              refine (rCopyEvents_any l (some ⟨b, o, none⟩) c _ (HA.out.keep (Keep.below HW.out)) (by omega)).mono ?_
              rintro e' wz18 ⟨A18, c18, rfl, h18, -, hb1⟩
              replace HW := Lib.hid (HW.out.trans (hb1.mono HW.out.size))
              replace BX := Lib.hid (BX.out.keep (Keep.below hb1))
              replace BL := Lib.hid (BL.out.keep (Keep.below hb1))
              replace H17 := Lib.hid (H17.out.keep (Keep.below hb1))
              have H18 := Lib.hid h18
              clear h18
              clear q0 q1 q2 q3 l0 l1 l2 l3 l4
              clear hb1
              obtain ⟨q0, q1, q2, q3⟩ := BX.out
              obtain ⟨l0, l1, l2, l3, l4⟩ := BL.out
              go_wp2_with fail
              refine (xRightAt_any x _ l _ _ day _ ⟨_, _, rfl, H17.out⟩ H18.out (TBS.out.keep (Keep.below HW.out))).mono ?_
              rintro e' wy53 ⟨rfl, hb1⟩
              replace HW := Lib.hid (HW.out.trans (hb1.mono HW.out.size))
              replace BX := Lib.hid (BX.out.keep (Keep.below hb1))
              replace BL := Lib.hid (BL.out.keep (Keep.below hb1))
              replace H17 := Lib.hid (H17.out.keep (Keep.below hb1))
              replace H18 := Lib.hid (H18.out.keep (Keep.below hb1))
              clear q0 q1 q2 q3 l0 l1 l2 l3 l4
              clear hb1
              clear H17 H18
              rw [show riOut x l day = 0 from (if_pos DN.out.on).trans (by rw [DN.out.unt, DN.out.right]), DN.out.on]
              obtain ⟨q0, q1, q2, q3⟩ := BX.out
              obtain ⟨l0, l1, l2, l3, l4⟩ := BL.out
              go_wp2_with fail
              refine (rCopyItem_any x _ _ ⟨_, _, rfl, (M.out.keep (Keep.below HW.out))⟩ HM.out).mono ?_
              rintro e' wz19 ⟨A19, c19, rfl, h19, -, hb1⟩
              replace HW := Lib.hid (HW.out.trans (hb1.mono HW.out.size))
              replace BX := Lib.hid (BX.out.keep (Keep.below hb1))
              replace BL := Lib.hid (BL.out.keep (Keep.below hb1))
              have H19 := Lib.hid h19
              clear h19
              clear q0 q1 q2 q3 l0 l1 l2 l3 l4
              clear hb1
              obtain ⟨q0, q1, q2, q3⟩ := BX.out
              obtain ⟨l0, l1, l2, l3, l4⟩ := BL.out
              go_wp2_with fail
              refine (rCopyEvents_any l (some ⟨b, o, none⟩) c _ (HA.out.keep (Keep.below HW.out)) (by omega)).mono ?_
              rintro e' wz20 ⟨A20, c20, rfl, h20, -, hb1⟩
              replace HW := Lib.hid (HW.out.trans (hb1.mono HW.out.size))
              replace BX := Lib.hid (BX.out.keep (Keep.below hb1))
              replace BL := Lib.hid (BL.out.keep (Keep.below hb1))
              replace H19 := Lib.hid (H19.out.keep (Keep.below hb1))
              have H20 := Lib.hid h20
              clear h20
              clear q0 q1 q2 q3 l0 l1 l2 l3 l4
              clear hb1
              have HKP := Lib.hid (ArrKp.one wz20 ⟨x, l⟩ A19 A20 c19 c20 100 H19.out H20.out)
              have hbK := (Below.refl wz20.heap.size wz20).alloc (Nat.le_refl _) (.cells #[.string x.name, .int .i64 x.day, .string x.who, .slice A19 x.marks.length c19, .slice A20 l.length c20] 100)
              clear H19 H20
              replace HW := Lib.hid (HW.out.trans (hbK.mono HW.out.size))
              replace BX := Lib.hid (BX.out.keep (Keep.below hbK))
              replace BL := Lib.hid (BL.out.keep (Keep.below hbK))
              clear hbK
              obtain ⟨q0, q1, q2, q3⟩ := BX.out
              obtain ⟨l0, l1, l2, l3, l4⟩ := BL.out
              go_wp2_with fail
              refine (xOverdue_any [⟨x, l⟩] _ 1 _ day _ HKP.out (TBS.out.keep (Keep.below HW.out))).mono ?_
              rintro e' wM ⟨⟨A9, c9, rfl, -⟩, hb1⟩
              replace HW := Lib.hid (HW.out.trans (hb1.mono HW.out.size))
              replace BX := Lib.hid (BX.out.keep (Keep.below hb1))
              replace BL := Lib.hid (BL.out.keep (Keep.below hb1))
              clear HKP
              clear q0 q1 q2 q3 l0 l1 l2 l3 l4
              clear hb1
              rw [DO.out.1, DO.out.2, List.length_nil]
              obtain ⟨i0, hi, hz0, hz1, hz2⟩ := info_parts Tryz.infoEvt
              obtain ⟨q0, q1, q2, q3⟩ := BX.out
              obtain ⟨l0, l1, l2, l3, l4⟩ := BL.out
              go_wp2_with fail
              go_cut [19, 20] from 109 to 123 (fun s1 s2 wx => s1 = .int .i64 (l.length : Nat) ∧ s2 = .int .i64 22 ∧ Hid (Below wM.heap.size wM wx))
              case first =>
                have HBd : Hid (Below wM.heap.size wM wM.drew) := Lib.hid (Below.refl _ _).drew
                have MK : Hid (∀ w', Below wM.heap.size wM w' → w'.cell? ⟨w.heap.size, 0, none⟩ = some (.string x.name) ∧ w'.cell? ⟨w.heap.size, 0 + 1, none⟩ = some (.int .i64 x.day) ∧ w'.cell? ⟨w.heap.size, 0 + 2, none⟩ = some (.string x.who) ∧ w'.cell? ⟨w.heap.size, 0 + 3, none⟩ = some (.slice p x.marks.length pc) ∧ w'.cell? ⟨gL, 0 + 4, none⟩ = some (.string (lEvt l j).dst) ∧ Hid (Below wM.heap.size wM w')) :=
                  Lib.hid fun w' hw => ⟨Keep.below hw _ _ q0, Keep.below hw _ _ q1, Keep.below hw _ _ q2, Keep.below hw _ _ q3, Keep.below hw _ _ l4, Lib.hid hw⟩
                have KM : Hid (∀ w', Below wM.heap.size wM w' → ArrMk w' p x.marks pc) := Lib.hid fun w' hw => (M.out.keep (Keep.below (HW.out.trans (hw.mono HW.out.size))))
                have KE : Hid (∀ w', Below wM.heap.size wM w' → ArrEv w' (some ⟨b, o, none⟩) l c) := Lib.hid fun w' hw => (HA.out.keep (Keep.below (HW.out.trans (hw.mono HW.out.size))))
                have KT : Hid (∀ w', Below wM.heap.size wM w' → TabSt w') := Lib.hid fun w' hw => (TBS.out.keep (Keep.below (HW.out.trans (hw.mono HW.out.size))))
                refine wp_region_held_drew (S := fun w' => w'.cell? ⟨w.heap.size, 0, none⟩ = some (.string x.name) ∧ w'.cell? ⟨w.heap.size, 0 + 1, none⟩ = some (.int .i64 x.day) ∧ w'.cell? ⟨w.heap.size, 0 + 2, none⟩ = some (.string x.who) ∧ w'.cell? ⟨w.heap.size, 0 + 3, none⟩ = some (.slice p x.marks.length pc) ∧ w'.cell? ⟨gL, 0 + 4, none⟩ = some (.string (lEvt l j).dst) ∧ Hid (Below wM.heap.size wM w')) (by kernel_rfl) (MK.out _ HBd.out) (fun hHeld => ?_)
                refine wpAnyH_take (i := 0) (v := ?val0x1) rfl (by kernel_rfl) (by kernel_rfl) (by kernel_rfl) (fun _ _ _ h => h) (Or.inl ⟨by rfl, fun w9 hS9 => ?yields0x1⟩) (by assumption) ?later0x1
                case yields0x1 =>
                  dsimp only at hS9
                  go_simp
                  try with_reducible rfl
                try simp only [Act.put, List.getElem_toArray, List.getElem_cons_succ, List.getElem_cons_zero, List.setIfInBounds_toArray, List.set_cons_zero, List.set_cons_succ]
                refine wpAnyH_take (i := 2) (v := ?val2x2) rfl (by kernel_rfl) (by kernel_rfl) (by kernel_rfl) (fun _ _ _ h => h) (Or.inl ⟨by rfl, fun w9 hS9 => ?yields2x2⟩) (by assumption) ?later2x2
                case yields2x2 =>
                  dsimp only at hS9
                  go_simp
                  try with_reducible rfl
                try simp only [Act.put, List.getElem_toArray, List.getElem_cons_succ, List.getElem_cons_zero, List.setIfInBounds_toArray, List.set_cons_zero, List.set_cons_succ]
                refine wpAnyH_take (i := 4) (v := ?val4x3) rfl (by kernel_rfl) (by kernel_rfl) (by kernel_rfl) (fun _ _ _ h => h) (Or.inl ⟨by rfl, fun w9 hS9 => ?yields4x3⟩) (by assumption) ?later4x3
                case yields4x3 =>
                  dsimp only at hS9
                  go_simp
                  try with_reducible rfl
                try simp only [Act.put, List.getElem_toArray, List.getElem_cons_succ, List.getElem_cons_zero, List.setIfInBounds_toArray, List.set_cons_zero, List.set_cons_succ]
                refine wpAnyH_take (i := 5) (v := ?val5x4) rfl (by kernel_rfl) (by kernel_rfl) (by kernel_rfl) (fun _ _ _ h => h) (Or.inl ⟨by rfl, fun w9 hS9 => ?yields5x4⟩) (by assumption) ?later5x4
                case yields5x4 =>
                  dsimp only at hS9
                  go_simp
                  try with_reducible rfl
                try simp only [Act.put, List.getElem_toArray, List.getElem_cons_succ, List.getElem_cons_zero, List.setIfInBounds_toArray, List.set_cons_zero, List.set_cons_succ]
                refine wpAnyH_take (i := 6) (v := ?val6x5) rfl (by kernel_rfl) (by kernel_rfl) (by kernel_rfl) (fun _ _ _ h => h) (Or.inl ⟨by rfl, fun w9 hS9 => ?yields6x5⟩) (by assumption) ?later6x5
                case yields6x5 =>
                  dsimp only at hS9
                  go_simp
                  try with_reducible rfl
                try simp only [Act.put, List.getElem_toArray, List.getElem_cons_succ, List.getElem_cons_zero, List.setIfInBounds_toArray, List.set_cons_zero, List.set_cons_succ]
                refine wpAnyH_take (i := 7) (v := ?val7x6) rfl (by kernel_rfl) (by kernel_rfl) (by kernel_rfl) (fun _ _ _ h => h) (Or.inl ⟨by rfl, fun w9 hS9 => ?yields7x6⟩) (by assumption) ?later7x6
                case yields7x6 =>
                  dsimp only at hS9
                  go_simp
                  try with_reducible rfl
                try simp only [Act.put, List.getElem_toArray, List.getElem_cons_succ, List.getElem_cons_zero, List.setIfInBounds_toArray, List.set_cons_zero, List.set_cons_succ]
                refine wpAnyH_take (i := 8) (v := ?val8x7) rfl (by kernel_rfl) (by kernel_rfl) (by kernel_rfl) (fun _ _ _ h => h) (Or.inl ⟨by rfl, fun w9 hS9 => ?yields8x7⟩) (by assumption) ?later8x7
                case yields8x7 =>
                  dsimp only at hS9
                  go_simp
                  try with_reducible rfl
                try simp only [Act.put, List.getElem_toArray, List.getElem_cons_succ, List.getElem_cons_zero, List.setIfInBounds_toArray, List.set_cons_zero, List.set_cons_succ]
                refine wpAnyH_take (i := 9) (v := ?val9x8) rfl (by kernel_rfl) (by kernel_rfl) (by kernel_rfl) (fun _ _ _ h => h) (Or.inl ⟨by rfl, fun w9 hS9 => ?yields9x8⟩) (by assumption) ?later9x8
                case yields9x8 =>
                  dsimp only at hS9
                  go_simp
                  try with_reducible rfl
                try simp only [Act.put, List.getElem_toArray, List.getElem_cons_succ, List.getElem_cons_zero, List.setIfInBounds_toArray, List.set_cons_zero, List.set_cons_succ]
                generalize hyy : World.drew wM = y1 at *
                clear hyy
                refine wpAnyH_ready (rs := [1, 10]) (by kernel_rfl) (by simp) ?_
                refine AllReadyH.cons rfl (fun K hK => ?_) (AllReadyH.cons rfl (fun K hK => ?_) (AllReadyH.nil))
                · go_simp
                  obtain ⟨-, -, -, -, -, HBX⟩ := hHeld
                  go_at_call 22
                  refine (rCopyItem_any x _ _ ⟨_, _, rfl, KM.out _ HBX.out⟩ HM.out).mono ?_
                  rintro e' y2 ⟨A5, c5, rfl, h5, ha5, hb1⟩
                  have H5 := Lib.hid h5
                  clear h5 ha5
                  go_wp2_with fail
                  refine hK.out _ _ (MK.out _ (HBX.out.trans (hb1.mono HBX.out.size))) (fun hHeld => ?_)
                  try simp only [Act.put, List.getElem_toArray, List.getElem_cons_succ, List.getElem_cons_zero, List.setIfInBounds_toArray, List.set_cons_zero, List.set_cons_succ]
                  clear hb1 HBX hK K
                  refine wpAnyH_ready (rs := [3, 10]) (by kernel_rfl) (by simp) ?_
                  refine AllReadyH.cons rfl (fun K hK => ?_) (AllReadyH.cons rfl (fun K hK => ?_) (AllReadyH.nil))
                  · go_simp
                    obtain ⟨-, -, -, -, -, HBX⟩ := hHeld
                    go_at_call 56
                    refine (rCopyEventsO_any l (some ⟨b, o, none⟩) c _ (KE.out _ HBX.out) (by omega)).mono ?_
                    rintro e' y3 ⟨vc, rfl, ho, hb1⟩
                    have HO := Lib.hid ho
                    have HB2 := Lib.hid hb1
                    have HSZ := Lib.hid HBX.out.size
                    clear ho
                    go_wp2_with fail
                    refine hK.out _ _ (MK.out _ (HBX.out.trans (hb1.mono HBX.out.size))) (fun hHeld => ?_)
                    try simp only [Act.put, List.getElem_toArray, List.getElem_cons_succ, List.getElem_cons_zero, List.setIfInBounds_toArray, List.set_cons_zero, List.set_cons_succ]
                    clear hb1 HBX hK K
                    refine wpAnyH_ready (rs := [10]) (by kernel_rfl) (by simp) ?_
                    refine AllReadyH.cons rfl (fun K hK => ?_) (AllReadyH.nil)
                    · go_simp
                      obtain ⟨-, -, -, -, -, HBX⟩ := hHeld
                      have HL := Lib.hid (show Arr (World.alloc y3 (.cells #[.string x.name, .int .i64 day, .int .i64 1, .string (lEvt l j).dst, .string ⟨#[101, 108, 115, 101]⟩] 107)) (some ⟨y3.heap.size, 0, none⟩) 1 1 5 (fun _ q => evtCells ⟨x.name, day, 1, (lEvt l j).dst, elseB⟩ q) from evt_one y3 ⟨x.name, day, 1, (lEvt l j).dst, elseB⟩ 107)
                      have HO := Lib.hid (below_of_own HO.out ((Below.refl _ _).alloc (Nat.le_refl _) (.cells #[.string x.name, .int .i64 day, .int .i64 1, .string (lEvt l j).dst, .string ⟨#[101, 108, 115, 101]⟩] 107)))
                      have HB2 := Lib.hid (HB2.out.alloc HB2.out.size (.cells #[.string x.name, .int .i64 day, .int .i64 1, .string (lEvt l j).dst, .string ⟨#[101, 108, 115, 101]⟩] 107))
                      refine hK.out _ _ (MK.out _ (HBX.out.alloc HBX.out.size _)) (fun hHeld => ?_)
                      try simp only [Act.put, List.getElem_toArray, List.getElem_cons_succ, List.getElem_cons_zero, List.setIfInBounds_toArray, List.set_cons_zero, List.set_cons_succ]
                      clear HBX hK K
                      generalize hyy : World.alloc y3 _ = y4 at *
                      clear hyy
                      refine wpAnyH_ready (rs := [11]) (by kernel_rfl) (by simp) ?_
                      refine AllReadyH.cons rfl (fun K hK => ?_) AllReadyH.nil
                      obtain ⟨-, -, -, -, -, HBX⟩ := hHeld
                      refine dstep_join rfl (.tmp 112) (.tmp 119) 86 rfl y2.heap.size 107 i0 _ 5 64 Tryz.underlying86 hi hz0 hz1 hz2 rfl (by decide) _ l.length _ rfl HO.out HB2.out.size _ _ 1 1 (fun _ q => evtCells ⟨x.name, day, 1, (lEvt l j).dst, elseB⟩ q) rfl HL.out (by intro i j; unfold evtCells; split <;> rfl) (by unfold maxLen; omega) (by omega) ?_
                      intro v9 w9 ho9 hb9
                      have hbb9 := HBX.out.trans (hb9.mono HSZ.out)
                      rw [evt_flat (l := l) (e := ⟨x.name, day, 1, (lEvt l j).dst, elseB⟩)] at ho9
                      obtain ⟨A8, c8, rfl, hA8, -⟩ := down_arr ho9
                      have H8 := Lib.hid (show ArrEv w9 A8 (l ++ [⟨x.name, day, 1, (lEvt l j).dst, elseB⟩]) c8 by unfold ArrEv; rw [List.length_append]; exact hA8)
                      have H5' := Lib.hid (H5.out.keep (Keep.below (HB2.out.trans hb9)))
                      refine hK.out _ _ (MK.out _ hbb9) (fun hHeld => ?_)
                      try simp only [Act.put, List.getElem_toArray, List.getElem_cons_succ, List.getElem_cons_zero, List.setIfInBounds_toArray, List.set_cons_zero, List.set_cons_succ]
                      clear ho9 hb9 hbb9 HBX hK K hA8
                      refine wpAnyH_ready (rs := [12]) (by kernel_rfl) (by simp) ?_
                      refine AllReadyH.cons rfl (fun K hK => ?_) AllReadyH.nil
                      obtain ⟨-, -, -, -, -, HBX⟩ := hHeld
                      have HCC := xCheckChain_any x (thgV x A5 c5) (l ++ [⟨x.name, day, 1, (lEvt l j).dst, elseB⟩]) A8 c8 w9 ⟨_, _, rfl, H5'.out⟩ H8.out (KT.out _ HBX.out)
                      rw [show (l ++ [(⟨x.name, day, 1, (lEvt l j).dst, elseB⟩ : Evt)]).length = l.length + 1 from by rw [List.length_append]; rfl, DM.out.1, DM.out.2] at HCC
                      have HCC := Lib.hid HCC
                      go_simp
                      go_at_call 55
                      refine HCC.out.mono ?_
                      rintro e' y9 ⟨rfl, hb1⟩
                      go_wp2_with fail
                      refine hK.out _ _ (MK.out _ (HBX.out.trans (hb1.mono HBX.out.size))) (fun hHeld => ?_)
                      try simp only [Act.put, List.getElem_toArray, List.getElem_cons_succ, List.getElem_cons_zero, List.setIfInBounds_toArray, List.set_cons_zero, List.set_cons_succ]
                      clear hb1 HBX hK K HCC
                      refine wpAnyH_take (i := 13) (v := ?val13x9) rfl (by kernel_rfl) (by kernel_rfl) (by kernel_rfl) (fun _ _ _ h => h) (Or.inl ⟨by rfl, fun w9 hS9 => ?yields13x9⟩) (by assumption) ?later13x9
                      case yields13x9 =>
                        dsimp only at hS9
                        go_simp
                        try with_reducible rfl
                      try simp only [Act.put, List.getElem_toArray, List.getElem_cons_succ, List.getElem_cons_zero, List.setIfInBounds_toArray, List.set_cons_zero, List.set_cons_succ]
                      refine wpAnyH_take (i := 14) (v := ?val14x10) rfl (by kernel_rfl) (by kernel_rfl) (by kernel_rfl) (fun _ _ _ h => h) (Or.inl ⟨by rfl, fun w9 hS9 => ?yields14x10⟩) (by assumption) ?later14x10
                      case yields14x10 =>
                        dsimp only at hS9
                        go_simp
                        try with_reducible rfl
                      try simp only [Act.put, List.getElem_toArray, List.getElem_cons_succ, List.getElem_cons_zero, List.setIfInBounds_toArray, List.set_cons_zero, List.set_cons_succ]
                      refine wpAnyH_take (i := 15) (v := ?val15x11) rfl (by kernel_rfl) (by kernel_rfl) (by kernel_rfl) (fun _ _ _ h => h) (Or.inl ⟨by rfl, fun w9 hS9 => ?yields15x11⟩) (by assumption) ?later15x11
                      case yields15x11 =>
                        dsimp only at hS9
                        go_simp
                        try with_reducible rfl
                      try simp only [Act.put, List.getElem_toArray, List.getElem_cons_succ, List.getElem_cons_zero, List.setIfInBounds_toArray, List.set_cons_zero, List.set_cons_succ]
                      refine wpAnyH_take (i := 16) (v := ?val16x12) rfl (by kernel_rfl) (by kernel_rfl) (by kernel_rfl) (fun _ _ _ h => h) (Or.inl ⟨by rfl, fun w9 hS9 => ?yields16x12⟩) (by assumption) ?later16x12
                      case yields16x12 =>
                        dsimp only at hS9
                        go_simp
                        try with_reducible rfl
                      try simp only [Act.put, List.getElem_toArray, List.getElem_cons_succ, List.getElem_cons_zero, List.setIfInBounds_toArray, List.set_cons_zero, List.set_cons_succ]
                      refine wpAnyH_take (i := 17) (v := ?val17x13) rfl (by kernel_rfl) (by kernel_rfl) (by kernel_rfl) (fun _ _ _ h => h) (Or.inl ⟨by rfl, fun w9 hS9 => ?yields17x13⟩) (by assumption) ?later17x13
                      case yields17x13 =>
                        dsimp only at hS9
                        go_simp
                        try with_reducible rfl
                      try simp only [Act.put, List.getElem_toArray, List.getElem_cons_succ, List.getElem_cons_zero, List.setIfInBounds_toArray, List.set_cons_zero, List.set_cons_succ]
                      refine wpAnyH_done (by kernel_rfl) ?_ _
                      obtain ⟨-, -, -, -, -, hbb⟩ := hHeld
                      go_wp2_with fail
                      go_meet
                      exact ⟨rfl, rfl, hbb⟩
                  · go_simp
                    obtain ⟨-, -, -, -, -, HBX⟩ := hHeld
                    have HL := Lib.hid (show Arr (World.alloc y2 (.cells #[.string x.name, .int .i64 day, .int .i64 1, .string (lEvt l j).dst, .string ⟨#[101, 108, 115, 101]⟩] 107)) (some ⟨y2.heap.size, 0, none⟩) 1 1 5 (fun _ q => evtCells ⟨x.name, day, 1, (lEvt l j).dst, elseB⟩ q) from evt_one y2 ⟨x.name, day, 1, (lEvt l j).dst, elseB⟩ 107)
                    have H5 := Lib.hid (H5.out.keep (Keep.alloc _ (.cells #[.string x.name, .int .i64 day, .int .i64 1, .string (lEvt l j).dst, .string ⟨#[101, 108, 115, 101]⟩] 107)))
                    refine hK.out _ _ (MK.out _ (HBX.out.alloc HBX.out.size _)) (fun hHeld => ?_)
                    try simp only [Act.put, List.getElem_toArray, List.getElem_cons_succ, List.getElem_cons_zero, List.setIfInBounds_toArray, List.set_cons_zero, List.set_cons_succ]
                    clear HBX hK K
                    generalize hyy : World.alloc y2 _ = y5 at *
                    clear hyy
                    refine wpAnyH_ready (rs := [3]) (by kernel_rfl) (by simp) ?_
                    refine AllReadyH.cons rfl (fun K hK => ?_) (AllReadyH.nil)
                    · go_simp
                      obtain ⟨-, -, -, -, -, HBX⟩ := hHeld
                      go_at_call 56
                      refine (rCopyEventsO_any l (some ⟨b, o, none⟩) c _ (KE.out _ HBX.out) (by omega)).mono ?_
                      rintro e' y6 ⟨vc, rfl, ho, hb1⟩
                      have HO := Lib.hid ho
                      have HB2 := Lib.hid hb1
                      have HSZ := Lib.hid HBX.out.size
                      have HL := Lib.hid (Arr.keep (Keep.below hb1) HL.out)
                      clear ho
                      go_wp2_with fail
                      refine hK.out _ _ (MK.out _ (HBX.out.trans (hb1.mono HBX.out.size))) (fun hHeld => ?_)
                      try simp only [Act.put, List.getElem_toArray, List.getElem_cons_succ, List.getElem_cons_zero, List.setIfInBounds_toArray, List.set_cons_zero, List.set_cons_succ]
                      clear hb1 HBX hK K
                      refine wpAnyH_ready (rs := [11]) (by kernel_rfl) (by simp) ?_
                      refine AllReadyH.cons rfl (fun K hK => ?_) AllReadyH.nil
                      obtain ⟨-, -, -, -, -, HBX⟩ := hHeld
                      refine dstep_join rfl (.tmp 112) (.tmp 119) 86 rfl y5.heap.size 107 i0 _ 5 64 Tryz.underlying86 hi hz0 hz1 hz2 rfl (by decide) _ l.length _ rfl HO.out HB2.out.size _ _ 1 1 (fun _ q => evtCells ⟨x.name, day, 1, (lEvt l j).dst, elseB⟩ q) rfl HL.out (by intro i j; unfold evtCells; split <;> rfl) (by unfold maxLen; omega) (by omega) ?_
                      intro v9 w9 ho9 hb9
                      have hbb9 := HBX.out.trans (hb9.mono HSZ.out)
                      rw [evt_flat (l := l) (e := ⟨x.name, day, 1, (lEvt l j).dst, elseB⟩)] at ho9
                      obtain ⟨A8, c8, rfl, hA8, -⟩ := down_arr ho9
                      have H8 := Lib.hid (show ArrEv w9 A8 (l ++ [⟨x.name, day, 1, (lEvt l j).dst, elseB⟩]) c8 by unfold ArrEv; rw [List.length_append]; exact hA8)
                      have H5' := Lib.hid (H5.out.keep (Keep.below (HB2.out.trans hb9)))
                      refine hK.out _ _ (MK.out _ hbb9) (fun hHeld => ?_)
                      try simp only [Act.put, List.getElem_toArray, List.getElem_cons_succ, List.getElem_cons_zero, List.setIfInBounds_toArray, List.set_cons_zero, List.set_cons_succ]
                      clear ho9 hb9 hbb9 HBX hK K hA8
                      refine wpAnyH_ready (rs := [12]) (by kernel_rfl) (by simp) ?_
                      refine AllReadyH.cons rfl (fun K hK => ?_) AllReadyH.nil
                      obtain ⟨-, -, -, -, -, HBX⟩ := hHeld
                      have HCC := xCheckChain_any x (thgV x A5 c5) (l ++ [⟨x.name, day, 1, (lEvt l j).dst, elseB⟩]) A8 c8 w9 ⟨_, _, rfl, H5'.out⟩ H8.out (KT.out _ HBX.out)
                      rw [show (l ++ [(⟨x.name, day, 1, (lEvt l j).dst, elseB⟩ : Evt)]).length = l.length + 1 from by rw [List.length_append]; rfl, DM.out.1, DM.out.2] at HCC
                      have HCC := Lib.hid HCC
                      go_simp
                      go_at_call 55
                      refine HCC.out.mono ?_
                      rintro e' y9 ⟨rfl, hb1⟩
                      go_wp2_with fail
                      refine hK.out _ _ (MK.out _ (HBX.out.trans (hb1.mono HBX.out.size))) (fun hHeld => ?_)
                      try simp only [Act.put, List.getElem_toArray, List.getElem_cons_succ, List.getElem_cons_zero, List.setIfInBounds_toArray, List.set_cons_zero, List.set_cons_succ]
                      clear hb1 HBX hK K HCC
                      refine wpAnyH_take (i := 13) (v := ?val13x14) rfl (by kernel_rfl) (by kernel_rfl) (by kernel_rfl) (fun _ _ _ h => h) (Or.inl ⟨by rfl, fun w9 hS9 => ?yields13x14⟩) (by assumption) ?later13x14
                      case yields13x14 =>
                        dsimp only at hS9
                        go_simp
                        try with_reducible rfl
                      try simp only [Act.put, List.getElem_toArray, List.getElem_cons_succ, List.getElem_cons_zero, List.setIfInBounds_toArray, List.set_cons_zero, List.set_cons_succ]
                      refine wpAnyH_take (i := 14) (v := ?val14x15) rfl (by kernel_rfl) (by kernel_rfl) (by kernel_rfl) (fun _ _ _ h => h) (Or.inl ⟨by rfl, fun w9 hS9 => ?yields14x15⟩) (by assumption) ?later14x15
                      case yields14x15 =>
                        dsimp only at hS9
                        go_simp
                        try with_reducible rfl
                      try simp only [Act.put, List.getElem_toArray, List.getElem_cons_succ, List.getElem_cons_zero, List.setIfInBounds_toArray, List.set_cons_zero, List.set_cons_succ]
                      refine wpAnyH_take (i := 15) (v := ?val15x16) rfl (by kernel_rfl) (by kernel_rfl) (by kernel_rfl) (fun _ _ _ h => h) (Or.inl ⟨by rfl, fun w9 hS9 => ?yields15x16⟩) (by assumption) ?later15x16
                      case yields15x16 =>
                        dsimp only at hS9
                        go_simp
                        try with_reducible rfl
                      try simp only [Act.put, List.getElem_toArray, List.getElem_cons_succ, List.getElem_cons_zero, List.setIfInBounds_toArray, List.set_cons_zero, List.set_cons_succ]
                      refine wpAnyH_take (i := 16) (v := ?val16x17) rfl (by kernel_rfl) (by kernel_rfl) (by kernel_rfl) (fun _ _ _ h => h) (Or.inl ⟨by rfl, fun w9 hS9 => ?yields16x17⟩) (by assumption) ?later16x17
                      case yields16x17 =>
                        dsimp only at hS9
                        go_simp
                        try with_reducible rfl
                      try simp only [Act.put, List.getElem_toArray, List.getElem_cons_succ, List.getElem_cons_zero, List.setIfInBounds_toArray, List.set_cons_zero, List.set_cons_succ]
                      refine wpAnyH_take (i := 17) (v := ?val17x18) rfl (by kernel_rfl) (by kernel_rfl) (by kernel_rfl) (fun _ _ _ h => h) (Or.inl ⟨by rfl, fun w9 hS9 => ?yields17x18⟩) (by assumption) ?later17x18
                      case yields17x18 =>
                        dsimp only at hS9
                        go_simp
                        try with_reducible rfl
                      try simp only [Act.put, List.getElem_toArray, List.getElem_cons_succ, List.getElem_cons_zero, List.setIfInBounds_toArray, List.set_cons_zero, List.set_cons_succ]
                      refine wpAnyH_done (by kernel_rfl) ?_ _
                      obtain ⟨-, -, -, -, -, hbb⟩ := hHeld
                      go_wp2_with fail
                      go_meet
                      exact ⟨rfl, rfl, hbb⟩
                · go_simp
                  obtain ⟨-, -, -, -, -, HBX⟩ := hHeld
                  have HL := Lib.hid (show Arr (World.alloc y1 (.cells #[.string x.name, .int .i64 day, .int .i64 1, .string (lEvt l j).dst, .string ⟨#[101, 108, 115, 101]⟩] 107)) (some ⟨y1.heap.size, 0, none⟩) 1 1 5 (fun _ q => evtCells ⟨x.name, day, 1, (lEvt l j).dst, elseB⟩ q) from evt_one y1 ⟨x.name, day, 1, (lEvt l j).dst, elseB⟩ 107)
                  refine hK.out _ _ (MK.out _ (HBX.out.alloc HBX.out.size _)) (fun hHeld => ?_)
                  try simp only [Act.put, List.getElem_toArray, List.getElem_cons_succ, List.getElem_cons_zero, List.setIfInBounds_toArray, List.set_cons_zero, List.set_cons_succ]
                  clear HBX hK K
                  generalize hyy : World.alloc y1 _ = y7 at *
                  clear hyy
                  refine wpAnyH_ready (rs := [1]) (by kernel_rfl) (by simp) ?_
                  refine AllReadyH.cons rfl (fun K hK => ?_) (AllReadyH.nil)
                  · go_simp
                    obtain ⟨-, -, -, -, -, HBX⟩ := hHeld
                    go_at_call 22
                    refine (rCopyItem_any x _ _ ⟨_, _, rfl, KM.out _ HBX.out⟩ HM.out).mono ?_
                    rintro e' y8 ⟨A5, c5, rfl, h5, ha5, hb1⟩
                    have H5 := Lib.hid h5
                    have HL := Lib.hid (Arr.keep (Keep.below hb1) HL.out)
                    clear h5 ha5
                    go_wp2_with fail
                    refine hK.out _ _ (MK.out _ (HBX.out.trans (hb1.mono HBX.out.size))) (fun hHeld => ?_)
                    try simp only [Act.put, List.getElem_toArray, List.getElem_cons_succ, List.getElem_cons_zero, List.setIfInBounds_toArray, List.set_cons_zero, List.set_cons_succ]
                    clear hb1 HBX hK K
                    refine wpAnyH_ready (rs := [3]) (by kernel_rfl) (by simp) ?_
                    refine AllReadyH.cons rfl (fun K hK => ?_) (AllReadyH.nil)
                    · go_simp
                      obtain ⟨-, -, -, -, -, HBX⟩ := hHeld
                      go_at_call 56
                      refine (rCopyEventsO_any l (some ⟨b, o, none⟩) c _ (KE.out _ HBX.out) (by omega)).mono ?_
                      rintro e' y9 ⟨vc, rfl, ho, hb1⟩
                      have HO := Lib.hid ho
                      have HB2 := Lib.hid hb1
                      have HSZ := Lib.hid HBX.out.size
                      have HL := Lib.hid (Arr.keep (Keep.below hb1) HL.out)
                      clear ho
                      go_wp2_with fail
                      refine hK.out _ _ (MK.out _ (HBX.out.trans (hb1.mono HBX.out.size))) (fun hHeld => ?_)
                      try simp only [Act.put, List.getElem_toArray, List.getElem_cons_succ, List.getElem_cons_zero, List.setIfInBounds_toArray, List.set_cons_zero, List.set_cons_succ]
                      clear hb1 HBX hK K
                      refine wpAnyH_ready (rs := [11]) (by kernel_rfl) (by simp) ?_
                      refine AllReadyH.cons rfl (fun K hK => ?_) AllReadyH.nil
                      obtain ⟨-, -, -, -, -, HBX⟩ := hHeld
                      refine dstep_join rfl (.tmp 112) (.tmp 119) 86 rfl y8.heap.size 107 i0 _ 5 64 Tryz.underlying86 hi hz0 hz1 hz2 rfl (by decide) _ l.length _ rfl HO.out HB2.out.size _ _ 1 1 (fun _ q => evtCells ⟨x.name, day, 1, (lEvt l j).dst, elseB⟩ q) rfl HL.out (by intro i j; unfold evtCells; split <;> rfl) (by unfold maxLen; omega) (by omega) ?_
                      intro v9 w9 ho9 hb9
                      have hbb9 := HBX.out.trans (hb9.mono HSZ.out)
                      rw [evt_flat (l := l) (e := ⟨x.name, day, 1, (lEvt l j).dst, elseB⟩)] at ho9
                      obtain ⟨A8, c8, rfl, hA8, -⟩ := down_arr ho9
                      have H8 := Lib.hid (show ArrEv w9 A8 (l ++ [⟨x.name, day, 1, (lEvt l j).dst, elseB⟩]) c8 by unfold ArrEv; rw [List.length_append]; exact hA8)
                      have H5' := Lib.hid (H5.out.keep (Keep.below (HB2.out.trans hb9)))
                      refine hK.out _ _ (MK.out _ hbb9) (fun hHeld => ?_)
                      try simp only [Act.put, List.getElem_toArray, List.getElem_cons_succ, List.getElem_cons_zero, List.setIfInBounds_toArray, List.set_cons_zero, List.set_cons_succ]
                      clear ho9 hb9 hbb9 HBX hK K hA8
                      refine wpAnyH_ready (rs := [12]) (by kernel_rfl) (by simp) ?_
                      refine AllReadyH.cons rfl (fun K hK => ?_) AllReadyH.nil
                      obtain ⟨-, -, -, -, -, HBX⟩ := hHeld
                      have HCC := xCheckChain_any x (thgV x A5 c5) (l ++ [⟨x.name, day, 1, (lEvt l j).dst, elseB⟩]) A8 c8 w9 ⟨_, _, rfl, H5'.out⟩ H8.out (KT.out _ HBX.out)
                      rw [show (l ++ [(⟨x.name, day, 1, (lEvt l j).dst, elseB⟩ : Evt)]).length = l.length + 1 from by rw [List.length_append]; rfl, DM.out.1, DM.out.2] at HCC
                      have HCC := Lib.hid HCC
                      go_simp
                      go_at_call 55
                      refine HCC.out.mono ?_
                      rintro e' y9 ⟨rfl, hb1⟩
                      go_wp2_with fail
                      refine hK.out _ _ (MK.out _ (HBX.out.trans (hb1.mono HBX.out.size))) (fun hHeld => ?_)
                      try simp only [Act.put, List.getElem_toArray, List.getElem_cons_succ, List.getElem_cons_zero, List.setIfInBounds_toArray, List.set_cons_zero, List.set_cons_succ]
                      clear hb1 HBX hK K HCC
                      refine wpAnyH_take (i := 13) (v := ?val13x19) rfl (by kernel_rfl) (by kernel_rfl) (by kernel_rfl) (fun _ _ _ h => h) (Or.inl ⟨by rfl, fun w9 hS9 => ?yields13x19⟩) (by assumption) ?later13x19
                      case yields13x19 =>
                        dsimp only at hS9
                        go_simp
                        try with_reducible rfl
                      try simp only [Act.put, List.getElem_toArray, List.getElem_cons_succ, List.getElem_cons_zero, List.setIfInBounds_toArray, List.set_cons_zero, List.set_cons_succ]
                      refine wpAnyH_take (i := 14) (v := ?val14x20) rfl (by kernel_rfl) (by kernel_rfl) (by kernel_rfl) (fun _ _ _ h => h) (Or.inl ⟨by rfl, fun w9 hS9 => ?yields14x20⟩) (by assumption) ?later14x20
                      case yields14x20 =>
                        dsimp only at hS9
                        go_simp
                        try with_reducible rfl
                      try simp only [Act.put, List.getElem_toArray, List.getElem_cons_succ, List.getElem_cons_zero, List.setIfInBounds_toArray, List.set_cons_zero, List.set_cons_succ]
                      refine wpAnyH_take (i := 15) (v := ?val15x21) rfl (by kernel_rfl) (by kernel_rfl) (by kernel_rfl) (fun _ _ _ h => h) (Or.inl ⟨by rfl, fun w9 hS9 => ?yields15x21⟩) (by assumption) ?later15x21
                      case yields15x21 =>
                        dsimp only at hS9
                        go_simp
                        try with_reducible rfl
                      try simp only [Act.put, List.getElem_toArray, List.getElem_cons_succ, List.getElem_cons_zero, List.setIfInBounds_toArray, List.set_cons_zero, List.set_cons_succ]
                      refine wpAnyH_take (i := 16) (v := ?val16x22) rfl (by kernel_rfl) (by kernel_rfl) (by kernel_rfl) (fun _ _ _ h => h) (Or.inl ⟨by rfl, fun w9 hS9 => ?yields16x22⟩) (by assumption) ?later16x22
                      case yields16x22 =>
                        dsimp only at hS9
                        go_simp
                        try with_reducible rfl
                      try simp only [Act.put, List.getElem_toArray, List.getElem_cons_succ, List.getElem_cons_zero, List.setIfInBounds_toArray, List.set_cons_zero, List.set_cons_succ]
                      refine wpAnyH_take (i := 17) (v := ?val17x23) rfl (by kernel_rfl) (by kernel_rfl) (by kernel_rfl) (fun _ _ _ h => h) (Or.inl ⟨by rfl, fun w9 hS9 => ?yields17x23⟩) (by assumption) ?later17x23
                      case yields17x23 =>
                        dsimp only at hS9
                        go_simp
                        try with_reducible rfl
                      try simp only [Act.put, List.getElem_toArray, List.getElem_cons_succ, List.getElem_cons_zero, List.setIfInBounds_toArray, List.set_cons_zero, List.set_cons_succ]
                      refine wpAnyH_done (by kernel_rfl) ?_ _
                      obtain ⟨-, -, -, -, -, hbb⟩ := hHeld
                      go_wp2_with fail
                      go_meet
                      exact ⟨rfl, rfl, hbb⟩
              case rest =>
                obtain ⟨rfl, rfl, HB⟩ := hcut
                replace HW := Lib.hid (HW.out.trans (HB.out.mono HW.out.size))
                replace BX := Lib.hid (BX.out.keep (Keep.below HB.out))
                replace BL := Lib.hid (BL.out.keep (Keep.below HB.out))
                clear q0 q1 q2 q3 l0 l1 l2 l3 l4
                clear HB
                have ee1 : ((lEvt l j).dst.toList == (lEvt l j).dst.toList) = true := by simp
                have ee2 : (((lEvt l j).kind) == ((lEvt l j).kind)) = true := by simp
                have ee2b : (((lEvt l j).kind) != ((lEvt l j).kind)) = false := by simp
                have ee3 : (((l.length : Int)) == ((l.length : Int))) = true := by simp
                have ee3b : (((l.length : Int)) != ((l.length : Int))) = false := by simp
                obtain ⟨q0, q1, q2, q3⟩ := BX.out
                obtain ⟨l0, l1, l2, l3, l4⟩ := BL.out
                go_wp2_with fail
                go_ret
                exact ⟨rfl, HW.out⟩
          · have e2 : (chainErr x l != 0) = true := by simpa using he
            have e3 : (chainErr x l == 0) = false := by simpa using he
            clear he
            go_wp2_with fail
            go_ret
            exact ⟨rfl, HW.out⟩
end Go.Proofs.YtfjdnbnalihjiaaGreatDoor
