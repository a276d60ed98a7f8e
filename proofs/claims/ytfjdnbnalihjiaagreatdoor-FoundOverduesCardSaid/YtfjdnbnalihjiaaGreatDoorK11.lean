/- Chains, who has an item, its state and the right to it, rewards: what the program answers. Condition: the table of states is as its initialiser lays it. -/
import Derived.Test.YtfjdnbnalihjiaaGreatDoorK10
namespace Go.Proofs.YtfjdnbnalihjiaaGreatDoor
open Go.RowKit Fs

theorem Fs.chain_is {x : Thg} {l : List Evt} (h : thgErr x = 0) : chainErr x l = gmanyErr l.length 30 (chF x l) ∧ chainAt x l = gmanyAt l.length 30 (chF x l) := by
  have := fst_alike (f := chF x l) (g := evtAt x l) (n := l.length) fun i _ h => chF_is h
  constructor
  · unfold chainErr gmanyErr
    rw [if_neg (fun hh => hh h), this.1]
  · unfold chainAt gmanyAt
    rw [if_neg (fun hh => hh h), this.2]
theorem Fs.chain_evts {x : Thg} {l : List Evt} (h : chainErr x l = 0) : ∀ j, j < l.length → EvtOk x l j := by
  unfold chainErr at h
  by_cases h1 : thgErr x ≠ 0
  · rw [if_pos h1] at h; exact absurd h h1
  rw [if_neg h1] at h
  by_cases h2 : 30 < l.length
  · rw [if_pos h2] at h; exact absurd h (by decide)
  rw [if_neg h2] at h
  exact fun j hj => evtAt_ok (fst_zero h j hj)
set_option linter.unusedSimpArgs false in
set_option maxHeartbeats 12800000 in
set_option maxRecDepth 100000 in
theorem xCheckChain_any (x : Thg) (v : Value) (l : List Evt) (A : Option Addr) (c : Nat) (w : World) (hv : RdThg w v x) (h : ArrEv w A l c) (ht : TabSt w) :
    Calls Tryz.prog 55 #[v, .slice A l.length c] w fun e w' => e = .returned (.tuple #[.int .i64 (chainAt x l : Nat), .int .i64 (chainErr x l)]) ∧ Below w.heap.size w w' := by
  obtain ⟨p, pc, rfl, m⟩ := hv
  have b1 := h.le.1
  have b2 := h.le.2
  have KK := Lib.hid ((Keep.alloc w (.cells #[.string x.name, .int .i64 x.day, .string x.who, .slice p x.marks.length pc] 24)).trans (Keep.alloc _ (.cells #[.slice A l.length c] 86)))
  have M1 := Lib.hid (m.keep KK.out)
  have HA := Lib.hid (h.keep KK.out)
  have HT := Lib.hid (ht.keep KK.out)
  have BX := Lib.hid ((ThgAt.new w x p pc 24).keep (Keep.alloc _ (.cells #[.slice A l.length c] 86)))
  have c1 := cellNew1 w (.cells #[.string x.name, .int .i64 x.day, .string x.who, .slice p x.marks.length pc] 24) #[.slice A l.length c] 86 0
  have HS := Lib.hid c1
  have HW := Lib.hid (((Below.refl w.heap.size w).alloc (Nat.le_refl _) (.cells #[.string x.name, .int .i64 x.day, .string x.who, .slice p x.marks.length pc] 24)).alloc (by simp) (.cells #[.slice A l.length c] 86))
  clear m h ht KK
  go_enter Tryz.func55, Tryz.ntmps55
  go_upto_region 1 with fail
  generalize (w.alloc _).alloc _ = wb at *
  obtain ⟨q0, q1, q2, q3⟩ := BX.out
  go_wp2_with fail
  refine (xCheckItem_any x _ _ ⟨_, _, rfl, M1.out⟩).mono ?_
  rintro e w1 ⟨rfl, hb1⟩
  replace M1 := Lib.hid (M1.out.keep (Keep.below hb1))
  replace HA := Lib.hid (HA.out.keep (Keep.below hb1))
  replace HT := Lib.hid (HT.out.keep (Keep.below hb1))
  replace BX := Lib.hid (BX.out.keep (Keep.below hb1))
  replace HS := Lib.hid (Keep.below hb1 _ _ HS.out)
  replace HW := Lib.hid (HW.out.trans (hb1.mono HW.out.size))
  clear hb1 q0 q1 q2 q3 c1
  obtain ⟨q0, q1, q2, q3⟩ := BX.out
  by_cases he : thgErr x = 0
  · have F := Lib.hid (chain_is (l := l) he)
    rw [he]
    clear he
    go_wp2_with fail
    refine (xBegun_any x _ _ ⟨_, _, rfl, M1.out⟩).mono ?_
    rintro e w2 ⟨rfl, hb1⟩
    replace M1 := Lib.hid (M1.out.keep (Keep.below hb1))
    replace HA := Lib.hid (HA.out.keep (Keep.below hb1))
    replace HT := Lib.hid (HT.out.keep (Keep.below hb1))
    replace BX := Lib.hid (BX.out.keep (Keep.below hb1))
    replace HS := Lib.hid (Keep.below hb1 _ _ HS.out)
    replace HW := Lib.hid (HW.out.trans (hb1.mono HW.out.size))
    have HD := Lib.hid (StdAt.new w2 (begunS x) 152)
    have HU := Lib.hid ((Below.refl w2.heap.size w2).alloc (Nat.le_refl _) (.cells #[.string (begunS x).holder, .int .i64 (begunS x).state, .int .i64 (begunS x).day, .int .i64 (begunS x).stored] 152))
    have c9 := Keep.alloc w2 (.cells #[.string (begunS x).holder, .int .i64 (begunS x).state, .int .i64 (begunS x).day, .int .i64 (begunS x).stored] 152) _ _ HS.out
    clear hb1 q0 q1 q2 q3
    have HLS := Lib.hid (xListS_any 107 (.pointer (some ⟨w.heap.size, 0, none⟩)) (.pointer (some ⟨w.heap.size + 1, 0, none⟩)) (.pointer (some ⟨w2.heap.size, 0, none⟩)) l.length 30 (chF x l) (fun i wx => StdAt wx w2.heap.size (standTo x l i)) w2.heap.size (w2.alloc (.cells #[.string (begunS x).holder, .int .i64 (begunS x).state, .int .i64 (begunS x).day, .int .i64 (begunS x).stored] 152)) HD.out (by omega) (by omega) (fun args w => by kernel_rfl)
      (fun w' hb i hi _ hI => xChain1_any x l A c p pc i _ _ _ w2.heap.size (standTo x l i) w' (HA.out.keep (Keep.below (HU.out.trans hb))) hi (BX.out.keep (Keep.below (HU.out.trans hb))) (M1.out.keep (Keep.below (HU.out.trans hb))) (Keep.below (HU.out.trans hb) _ _ HS.out) hI (Nat.le_refl _) (HT.out.keep (Keep.below (HU.out.trans hb)))))
    go_wp2_with fail
    refine HLS.out.mono ?_
    rintro e w3 ⟨rfl, hb1⟩
    go_wp2_with fail
    go_ret2
    exact ⟨by rw [F.out.1, F.out.2]; rfl, HW.out.trans ((HU.out.trans hb1).mono HW.out.size)⟩
  · have F := Lib.hid (show chainErr x l = thgErr x from if_pos he)
    have F2 := Lib.hid (show chainAt x l = 0 from if_pos he)
    have e2 : (thgErr x != 0) = true := by simpa using he
    have e3 : (thgErr x == 0) = false := by simpa using he
    clear he
    go_wp2_with fail
    go_ret2
    exact ⟨by rw [F.out, F2.out]; rfl, HW.out⟩
set_option linter.unusedSimpArgs false in
set_option maxHeartbeats 12800000 in
set_option maxRecDepth 100000 in
theorem xChainErr_any (x : Thg) (v : Value) (l : List Evt) (A : Option Addr) (c : Nat) (w : World) (hv : RdThg w v x) (h : ArrEv w A l c) (ht : TabSt w) :
    Calls Tryz.prog 120 #[v, .slice A l.length c] w fun e w' => e = .returned (.int .i64 (chainErr x l)) ∧ Below w.heap.size w w' := by
  obtain ⟨p, pc, rfl, m⟩ := hv
  have M1 := Lib.hid (m.keep (Keep.alloc w (.cells #[.string x.name, .int .i64 x.day, .string x.who, .slice p x.marks.length pc] 24)))
  have HA := Lib.hid (h.keep (Keep.alloc w (.cells #[.string x.name, .int .i64 x.day, .string x.who, .slice p x.marks.length pc] 24)))
  have HT := Lib.hid (ht.keep (Keep.alloc w (.cells #[.string x.name, .int .i64 x.day, .string x.who, .slice p x.marks.length pc] 24)))
  have BX := Lib.hid (ThgAt.new w x p pc 24)
  have HW := Lib.hid ((Below.refl w.heap.size w).alloc (Nat.le_refl _) (.cells #[.string x.name, .int .i64 x.day, .string x.who, .slice p x.marks.length pc] 24))
  clear m h ht
  go_enter Tryz.func120, Tryz.ntmps120
  go_upto_region 1 with fail
  generalize w.alloc _ = wb at *
  obtain ⟨q0, q1, q2, q3⟩ := BX.out
  go_wp2_with fail
  refine (xCheckChain_any x _ l A c _ ⟨_, _, rfl, M1.out⟩ HA.out HT.out).mono ?_
  rintro e w1 ⟨rfl, hb1⟩
  replace HW := Lib.hid (HW.out.trans (hb1.mono HW.out.size))
  go_wp2_with fail
  go_ret
  exact ⟨rfl, HW.out⟩
set_option linter.unusedSimpArgs false in
set_option maxHeartbeats 12800000 in
set_option maxRecDepth 100000 in
theorem xOnErr_any (x : Thg) (v : Value) (l : List Evt) (A : Option Addr) (c : Nat) (day : Int) (w : World) (hv : RdThg w v x) (h : ArrEv w A l c) (ht : TabSt w) :
    Calls Tryz.prog 112 #[v, .slice A l.length c, .int .i64 day] w fun e w' => e = .returned (.int .i64 (onErr x l day)) ∧ Below w.heap.size w w' := by
  have F := Lib.hid (show onErr x l day = fst (listI [chainErr x l, dayErr day x.day]) 2 by rw [gfst_two]; rfl)
  obtain ⟨p, pc, rfl, m⟩ := hv
  have M1 := Lib.hid (m.keep (Keep.alloc w (.cells #[.string x.name, .int .i64 x.day, .string x.who, .slice p x.marks.length pc] 24)))
  have HA := Lib.hid (h.keep (Keep.alloc w (.cells #[.string x.name, .int .i64 x.day, .string x.who, .slice p x.marks.length pc] 24)))
  have HT := Lib.hid (ht.keep (Keep.alloc w (.cells #[.string x.name, .int .i64 x.day, .string x.who, .slice p x.marks.length pc] 24)))
  have BX := Lib.hid (ThgAt.new w x p pc 24)
  have HW := Lib.hid ((Below.refl w.heap.size w).alloc (Nat.le_refl _) (.cells #[.string x.name, .int .i64 x.day, .string x.who, .slice p x.marks.length pc] 24))
  clear m h ht
  go_enter Tryz.func112, Tryz.ntmps112
  go_upto_region 1 with fail
  generalize w.alloc _ = wb at *
  obtain ⟨q0, q1, q2, q3⟩ := BX.out
  go_wp2_with fail
  have HBd : Hid (Below wb.heap.size wb wb.drew) := Lib.hid (Below.refl _ _).drew
  have MK : Hid (∀ w', Below wb.heap.size wb w' → w'.cell? ⟨w.heap.size, 0, none⟩ = some (.string x.name) ∧ w'.cell? ⟨w.heap.size, 1, none⟩ = some (.int .i64 x.day) ∧ w'.cell? ⟨w.heap.size, 2, none⟩ = some (.string x.who) ∧ w'.cell? ⟨w.heap.size, 3, none⟩ = some (.slice p x.marks.length pc) ∧ Hid (Below wb.heap.size wb w')) :=
    Lib.hid fun w' hw => ⟨Keep.below hw _ _ q0, Keep.below hw _ _ q1, Keep.below hw _ _ q2, Keep.below hw _ _ q3, Lib.hid hw⟩
  have KX : Hid (∀ w', Below wb.heap.size wb w' → ArrMk w' p x.marks pc) := Lib.hid fun w' hw => (M1.out.keep (Keep.below hw))
  have KA : Hid (∀ w', Below wb.heap.size wb w' → ArrEv w' A l c) := Lib.hid fun w' hw => (HA.out.keep (Keep.below hw))
  have KT : Hid (∀ w', Below wb.heap.size wb w' → TabSt w') := Lib.hid fun w' hw => (HT.out.keep (Keep.below hw))
  refine wp_region_held_drew (S := fun w' => w'.cell? ⟨w.heap.size, 0, none⟩ = some (.string x.name) ∧ w'.cell? ⟨w.heap.size, 1, none⟩ = some (.int .i64 x.day) ∧ w'.cell? ⟨w.heap.size, 2, none⟩ = some (.string x.who) ∧ w'.cell? ⟨w.heap.size, 3, none⟩ = some (.slice p x.marks.length pc) ∧ Hid (Below wb.heap.size wb w')) (by kernel_rfl) (MK.out _ HBd.out) (fun hHeld => ?_)
  refine wpAnyH_take (i := 0) (v := ?val0x7) rfl (by kernel_rfl) (by kernel_rfl) (by kernel_rfl) (fun _ _ _ h => h) (Or.inl ⟨by rfl, fun w9 hS9 => ?yields0x7⟩) (by assumption) ?later0x7
  case yields0x7 =>
    dsimp only at hS9
    go_simp
    try with_reducible rfl
  try simp only [Act.put, List.getElem_toArray, List.getElem_cons_succ, List.getElem_cons_zero, List.setIfInBounds_toArray, List.set_cons_zero, List.set_cons_succ]
  refine wpAnyH_take (i := 1) (v := ?val1x8) rfl (by kernel_rfl) (by kernel_rfl) (by kernel_rfl) (fun _ _ _ h => h) (Or.inl ⟨by rfl, fun w9 hS9 => ?yields1x8⟩) (by assumption) ?later1x8
  case yields1x8 =>
    dsimp only at hS9
    go_simp
    try with_reducible rfl
  try simp only [Act.put, List.getElem_toArray, List.getElem_cons_succ, List.getElem_cons_zero, List.setIfInBounds_toArray, List.set_cons_zero, List.set_cons_succ]
  refine wpAnyH_take (i := 3) (v := ?val3x9) rfl (by kernel_rfl) (by kernel_rfl) (by kernel_rfl) (fun _ _ _ h => h) (Or.inl ⟨by rfl, fun w9 hS9 => ?yields3x9⟩) (by assumption) ?later3x9
  case yields3x9 =>
    dsimp only at hS9
    go_simp
    try with_reducible rfl
  try simp only [Act.put, List.getElem_toArray, List.getElem_cons_succ, List.getElem_cons_zero, List.setIfInBounds_toArray, List.set_cons_zero, List.set_cons_succ]
  refine wpAnyH_take (i := 4) (v := ?val4x10) rfl (by kernel_rfl) (by kernel_rfl) (by kernel_rfl) (fun _ _ _ h => h) (Or.inl ⟨by rfl, fun w9 hS9 => ?yields4x10⟩) (by assumption) ?later4x10
  case yields4x10 =>
    dsimp only at hS9
    go_simp
    try with_reducible rfl
  try simp only [Act.put, List.getElem_toArray, List.getElem_cons_succ, List.getElem_cons_zero, List.setIfInBounds_toArray, List.set_cons_zero, List.set_cons_succ]
  refine wpAnyH_take (i := 5) (v := ?val5x11) rfl (by kernel_rfl) (by kernel_rfl) (by kernel_rfl) (fun _ _ _ h => h) (Or.inl ⟨by rfl, fun w9 hS9 => ?yields5x11⟩) (by assumption) ?later5x11
  case yields5x11 =>
    dsimp only at hS9
    go_simp
    try with_reducible rfl
  try simp only [Act.put, List.getElem_toArray, List.getElem_cons_succ, List.getElem_cons_zero, List.setIfInBounds_toArray, List.set_cons_zero, List.set_cons_succ]
  refine wpAnyH_ready (rs := [2]) (by kernel_rfl) (by simp) ?_
  refine AllReadyH.cons rfl (fun K hK => ?_) AllReadyH.nil
  go_simp
  go_at_call 120
  go_split_ands
  refine (xChainErr_any x _ l A c _ ⟨_, _, rfl, KX.out _ (Hid.out (by assumption))⟩ (KA.out _ (Hid.out (by assumption))) (KT.out _ (Hid.out (by assumption)))).mono ?_
  rintro e' w5 ⟨rfl, hb1⟩
  go_wp2_with fail
  refine hK.out _ _ ?_ (fun hHeld => ?_)
  · (try dsimp only)
    (go_split_ands; exact MK.out _ (Below.trans (Hid.out (by assumption)) (hb1.mono (Hid.out (by assumption) : Below wb.heap.size wb _).size)))
  clear hK K
  try simp only [Act.put, List.getElem_toArray, List.getElem_cons_succ, List.getElem_cons_zero, List.setIfInBounds_toArray, List.set_cons_zero, List.set_cons_succ]
  refine wpAnyH_ready (rs := [6]) (by kernel_rfl) (by simp) ?_
  refine AllReadyH.cons rfl (fun K hK => ?_) AllReadyH.nil
  go_simp
  go_at_call 121
  go_split_ands
  refine (xDayErr_any _ _ _).mono ?_
  rintro e' wx6 ⟨rfl, rfl⟩
  go_wp2_with fail
  refine hK.out _ _ ?_ (fun hHeld => ?_)
  · (try dsimp only)
    (go_split_ands; exact MK.out _ (Hid.out (by assumption)))
  clear hK K
  try simp only [Act.put, List.getElem_toArray, List.getElem_cons_succ, List.getElem_cons_zero, List.setIfInBounds_toArray, List.set_cons_zero, List.set_cons_succ]
  refine wpAnyH_ready (rs := [7]) (by kernel_rfl) (by simp) ?_
  refine AllReadyH.cons rfl (fun K hK => ?_) AllReadyH.nil
  go_simp
  refine hK.out _ _ ?_ (fun hHeld => ?_)
  · (try dsimp only)
    (go_split_ands; exact MK.out _ (Below.alloc (Hid.out (by assumption)) (Hid.out (by assumption) : Below wb.heap.size wb _).size _))
  clear hK K
  try simp only [Act.put, List.getElem_toArray, List.getElem_cons_succ, List.getElem_cons_zero, List.setIfInBounds_toArray, List.set_cons_zero, List.set_cons_succ]
  refine wpAnyH_ready (rs := [8]) (by kernel_rfl) (by simp) ?_
  refine AllReadyH.cons rfl (fun K hK => ?_) AllReadyH.nil
  go_simp
  go_at_call 82
  go_split_ands
  refine (xFirst_any [chainErr x l, dayErr day x.day] _ _ _ (by first | exact gints2New _ _ _ _ | exact (gints2New _ _ _ _).keep (Keep.drew _))).mono ?_
  rintro e' wx9 ⟨rfl, rfl⟩
  go_wp2_with fail
  refine hK.out _ _ ?_ (fun hHeld => ?_)
  · (try dsimp only)
    (go_split_ands; exact MK.out _ (Hid.out (by assumption)))
  clear hK K
  try simp only [Act.put, List.getElem_toArray, List.getElem_cons_succ, List.getElem_cons_zero, List.setIfInBounds_toArray, List.set_cons_zero, List.set_cons_succ]
  refine wpAnyH_take (i := 9) (v := ?val9x12) rfl (by kernel_rfl) (by kernel_rfl) (by kernel_rfl) (fun _ _ _ h => h) (Or.inl ⟨by rfl, fun w9 hS9 => ?yields9x12⟩) (by assumption) ?later9x12
  case yields9x12 =>
    dsimp only at hS9
    go_simp
    try with_reducible rfl
  try simp only [Act.put, List.getElem_toArray, List.getElem_cons_succ, List.getElem_cons_zero, List.setIfInBounds_toArray, List.set_cons_zero, List.set_cons_succ]
  refine wpAnyH_done (by kernel_rfl) ?_ _
  obtain ⟨-, -, -, -, HB⟩ := hHeld
  clear HBd MK
  go_wp2_with fail
  go_ret
  exact ⟨ret_int F.out.symm, HW.out.trans (HB.out.mono HW.out.size)⟩
theorem Fs.until_is {l : List Evt} {d : Int} {k : Nat} (hk : k ≤ l.length) (h1 : ∀ j, j < k → (lEvt l j).day ≤ d) (h2 : k < l.length → d < (lEvt l k).day) : untilN l d = k := by
  obtain ⟨a, b, c⟩ := until_spec l d
  rcases Nat.lt_trichotomy (untilN l d) k with h | h | h
  · have := h1 _ h
    have := c (by omega)
    omega
  · exact h
  · have := b _ h
    have := h2 (by omega)
    omega
set_option linter.unusedSimpArgs false in
set_option maxHeartbeats 12800000 in
set_option maxRecDepth 100000 in
theorem xStandingAt_any (x : Thg) (v : Value) (l : List Evt) (A : Option Addr) (c : Nat) (day : Int) (w : World) (hv : RdThg w v x) (h : ArrEv w A l c) (ht : TabSt w) (hk : ∀ j, j < l.length → 0 ≤ (lEvt l j).kind ∧ (lEvt l j).kind ≤ 4) :
    Calls Tryz.prog 113 #[v, .slice A l.length c, .int .i64 day] w fun e w' => e = .returned (stdV (standTo x l (untilN l day))) ∧ Below w.heap.size w w' := by
  obtain ⟨p, pc, rfl, m⟩ := hv
  have b1 := h.le.1
  have b2 := h.le.2
  have M1 := Lib.hid (m.keep ((Keep.alloc w (.cells #[.string x.name, .int .i64 x.day, .string x.who, .slice p x.marks.length pc] 24)).trans (Keep.alloc _ (.cells #[.string ⟨#[]⟩, .int .i64 0, .int .i64 0, .int .i64 0] 152))))
  have HA := Lib.hid h
  have HT := Lib.hid ht
  have HK := Lib.hid hk
  have BX := Lib.hid ((ThgAt.new w x p pc 24).keep (Keep.alloc _ (.cells #[.string ⟨#[]⟩, .int .i64 0, .int .i64 0, .int .i64 0] 152)))
  have HR0 := Lib.hid (show StdAt ((w.alloc (.cells #[.string x.name, .int .i64 x.day, .string x.who, .slice p x.marks.length pc] 24)).alloc (.cells #[.string ⟨#[]⟩, .int .i64 0, .int .i64 0, .int .i64 0] 152)) (w.heap.size + 1) ⟨⟨#[]⟩, 0, 0, 0⟩ from ⟨cellNew1 _ _ _ _ 0, cellNew1 _ _ _ _ 1, cellNew1 _ _ _ _ 2, cellNew1 _ _ _ _ 3, frozenNew1 _ _ _ _ 0, frozenNew1 _ _ _ _ 1, frozenNew1 _ _ _ _ 2, frozenNew1 _ _ _ _ 3⟩)
  have HW := Lib.hid (((Below.refl w.heap.size w).alloc (Nat.le_refl _) (.cells #[.string x.name, .int .i64 x.day, .string x.who, .slice p x.marks.length pc] 24)).alloc (by simp) (.cells #[.string ⟨#[]⟩, .int .i64 0, .int .i64 0, .int .i64 0] 152))
  clear m h ht hk
  obtain ⟨n, hn⟩ : ∃ n, n = l.length := ⟨_, rfl⟩
  rw [← hn] at b1 ⊢
  have HN := Lib.hid hn
  clear hn
  go_enter Tryz.func113, Tryz.ntmps113
  go_upto_region 1 with fail
  generalize (w.alloc _).alloc _ = wb at *
  obtain ⟨q0, q1, q2, q3⟩ := BX.out
  go_wp2_with fail
  refine (xBegun_any x _ _ ⟨_, _, rfl, M1.out⟩).mono ?_
  rintro e w1 ⟨rfl, hb1⟩
  have HG := Lib.hid (show w.heap.size + 1 < w1.heap.size from Nat.lt_of_lt_of_le HR0.out.lt hb1.size)
  have HR1 := Lib.hid ((HR0.out.keep hb1).keep ((Below.refl _ _).alloc (Nat.le_refl _) (.cells #[.string (begunS x).holder, .int .i64 (begunS x).state, .int .i64 (begunS x).day, .int .i64 (begunS x).stored] 152)))
  replace HW := Lib.hid (HW.out.trans (hb1.mono HW.out.size))
  replace HW := Lib.hid (HW.out.alloc HW.out.size (.cells #[.string (begunS x).holder, .int .i64 (begunS x).state, .int .i64 (begunS x).day, .int .i64 (begunS x).stored] 152))
  have HD := Lib.hid (StdAt.new w1 (begunS x) 152)
  clear hb1 q0 q1 q2 q3 M1 BX HR0
  obtain ⟨g7, hg7⟩ : ∃ g, g = w1.heap.size := ⟨_, rfl⟩
  rw [← hg7] at HG HD
  go_wp2_with fail
  rw [← hg7]
  clear hg7
  go_loopw [14] (fun i wr => ∃ k : Nat, k ≤ n ∧ i = .int .i64 k ∧ Hid (∀ j, j < k → (lEvt l j).day ≤ day) ∧ Hid (StdAt wr g7 (standTo x l k)) ∧ Hid (StdAt wr (w.heap.size + 1) ⟨⟨#[]⟩, 0, 0, 0⟩) ∧ Hid (Below w.heap.size w wr)) (fun i _ => n - (intOf i).toNat)
  case atStart => exact ⟨0, Nat.zero_le _, rfl, Lib.hid (fun j hj => absurd hj (Nat.not_lt_zero _)), HD, HR1, HW⟩
  case round =>
    obtain ⟨k, hk, rfl, Hn, HS, HR, HB⟩ := hrel
    by_cases hlt : k < n
    · have hkn : (k : Int) < (n : Int) := by omega
      have hkl : k < l.length := by rw [← HN.out]; exact hlt
      have HKL := Lib.hid hkl
      obtain ⟨b, o, rfl, ⟨r0, r1, r2, r3, r4⟩⟩ := (HA.out.keep (Keep.below HB.out)).at_ hkl
      have BE := Lib.hid (EvtAt.new wr (lEvt l k) 107)
      replace HS := Lib.hid (HS.out.keep ((Below.refl _ _).alloc (Nat.le_refl _) (.cells #[.string (lEvt l k).item, .int .i64 (lEvt l k).day, .int .i64 (lEvt l k).kind, .string (lEvt l k).src, .string (lEvt l k).dst] 107)))
      replace HR := Lib.hid (HR.out.keep ((Below.refl _ _).alloc (Nat.le_refl _) (.cells #[.string (lEvt l k).item, .int .i64 (lEvt l k).day, .int .i64 (lEvt l k).kind, .string (lEvt l k).src, .string (lEvt l k).dst] 107)))
      replace HB := Lib.hid (HB.out.alloc HB.out.size (.cells #[.string (lEvt l k).item, .int .i64 (lEvt l k).day, .int .i64 (lEvt l k).kind, .string (lEvt l k).src, .string (lEvt l k).dst] 107))
      clear hkl
      go_upto_region 5 with fail
      generalize wr.alloc _ = wc at *
      clear r0 r1 r2 r3 r4
      obtain ⟨r0, r1, r2, r3, r4⟩ := BE.out
      obtain ⟨s0, s1, s2, s3, f0, f1, f2, f3⟩ := HS.out
      by_cases hd : day < (lEvt l k).day
      · have UN := Lib.hid (until_is (d := day) (by rw [← HN.out]; omega) Hn.out (fun _ => hd))
        have d1 : decide ((lEvt l k).day > day) = true := decide_eq_true hd
        have d2 : decide (day < (lEvt l k).day) = true := decide_eq_true hd
        obtain ⟨z0, z1, z2, z3, y0, y1, y2, y3⟩ := HR.out
        clear hd
        go_wp2_with fail
        obtain ⟨u0, u1, u2, u3, _, _, _, _⟩ := HR.out.set (standTo x l k)
        refine bodyPost_ret (v := stdV (standTo x l k)) (by simp [results, Tryz.results113, go_sem, u0, u1, u2, u3]) rfl ⟨by rw [UN.out], ?_⟩
        exact below_std HB.out (by omega) _ _ _ _
      · have d1 : decide ((lEvt l k).day > day) = false := decide_eq_false hd
        have d2 : decide (day < (lEvt l k).day) = false := decide_eq_false hd
        have HN2 : Hid (∀ j, j < k + 1 → (lEvt l j).day ≤ day) := Lib.hid fun j hj => by
          by_cases e : j = k
          · subst e; omega
          · exact Hn.out j (by omega)
        clear hd
        go_wp2_with fail
        refine (xBehind_any (standTo x l k) (lEvt l k) _ (HT.out.keep (Keep.below HB.out)) (HK.out k HKL.out).1 (HK.out k HKL.out).2).mono ?_
        rintro e w2 ⟨rfl, hb1⟩
        have HS2 := Lib.hid (HS.out.keep hb1)
        have HR2 := Lib.hid (HR.out.keep hb1)
        have HB2 := Lib.hid (HB.out.trans (hb1.mono HB.out.size))
        have HGE := Lib.hid (show w.heap.size ≤ g7 by have := HG.out; omega)
        clear hb1 s0 s1 s2 s3 f0 f1 f2 f3 r0 r1 r2 r3 r4
        obtain ⟨s0, s1, s2, s3, f0, f1, f2, f3⟩ := HS2.out
        go_wp2_with fail
        go_roundw
        case rel => exact ⟨k + 1, by omega, by go_num, HN2, Lib.hid (HS2.out.set (nextS (standTo x l k) (lEvt l k))), Lib.hid (HR2.out.below (below_std (Below.refl g7 _) (Nat.le_refl _) _ _ _ _) HG.out), Lib.hid (below_std HB2.out HGE.out _ _ _ _)⟩
        case measure => simp [intOf]; omega
    · obtain rfl : k = n := by omega
      have UN := Lib.hid (until_is (d := day) (k := k) (by rw [← HN.out]; exact Nat.le_refl _) Hn.out (fun h => absurd h (by rw [← HN.out]; exact Nat.lt_irrefl _)))
      obtain ⟨s0, s1, s2, s3, f0, f1, f2, f3⟩ := HS.out
      obtain ⟨z0, z1, z2, z3, y0, y1, y2, y3⟩ := HR.out
      go_wp2_with fail
      obtain ⟨u0, u1, u2, u3, _, _, _, _⟩ := HR.out.set (standTo x l k)
      refine bodyPost_ret (v := stdV (standTo x l k)) (by simp [results, Tryz.results113, go_sem, u0, u1, u2, u3]) rfl ⟨by rw [UN.out], ?_⟩
      exact below_std HB.out (by omega) _ _ _ _
set_option linter.unusedSimpArgs false in
set_option maxHeartbeats 12800000 in
set_option maxRecDepth 100000 in
theorem xHolderAt_any (x : Thg) (v : Value) (l : List Evt) (A : Option Addr) (c : Nat) (day : Int) (w : World) (hv : RdThg w v x) (h : ArrEv w A l c) (ht : TabSt w) :
    Calls Tryz.prog 58 #[v, .slice A l.length c, .int .i64 day] w fun e w' => e = .returned (.tuple #[.string (hoOut x l day), .int .i64 (onErr x l day)]) ∧ Below w.heap.size w w' := by
  have ix : ∀ (s : Std) (w : World), (Instr.field 152 (stdV s) 0).run Tryz.prog w = .ok (.string s.holder) w := fun _ _ => by kernel_rfl
  obtain ⟨p, pc, rfl, m⟩ := hv
  have M1 := Lib.hid (m.keep (Keep.alloc w (.cells #[.string x.name, .int .i64 x.day, .string x.who, .slice p x.marks.length pc] 24)))
  have HA := Lib.hid (h.keep (Keep.alloc w (.cells #[.string x.name, .int .i64 x.day, .string x.who, .slice p x.marks.length pc] 24)))
  have HT := Lib.hid (ht.keep (Keep.alloc w (.cells #[.string x.name, .int .i64 x.day, .string x.who, .slice p x.marks.length pc] 24)))
  have BX := Lib.hid (ThgAt.new w x p pc 24)
  have HW := Lib.hid ((Below.refl w.heap.size w).alloc (Nat.le_refl _) (.cells #[.string x.name, .int .i64 x.day, .string x.who, .slice p x.marks.length pc] 24))
  clear m h ht
  go_enter Tryz.func58, Tryz.ntmps58
  go_upto_region 1 with fail
  generalize w.alloc _ = wb at *
  obtain ⟨q0, q1, q2, q3⟩ := BX.out
  go_wp2_with fail
  refine (xOnErr_any x _ l A c day _ ⟨_, _, rfl, M1.out⟩ HA.out HT.out).mono ?_
  rintro e w1 ⟨rfl, hb1⟩
  replace M1 := Lib.hid (M1.out.keep (Keep.below hb1))
  replace HA := Lib.hid (HA.out.keep (Keep.below hb1))
  replace HT := Lib.hid (HT.out.keep (Keep.below hb1))
  replace BX := Lib.hid (BX.out.keep (Keep.below hb1))
  replace HW := Lib.hid (HW.out.trans (hb1.mono HW.out.size))
  clear hb1 q0 q1 q2 q3
  obtain ⟨q0, q1, q2, q3⟩ := BX.out
  by_cases he : onErr x l day = 0
  · have hc : chainErr x l = 0 := by
      unfold onErr at he
      by_cases h1 : chainErr x l = 0
      · exact h1
      · rw [if_pos h1] at he; exact he
    have hd : within day x.day 100000 = true := by
      unfold onErr at he
      rw [if_neg (fun hh => hh hc)] at he
      cases h1 : within day x.day 100000 with
      | true => rfl
      | false => rw [h1] at he; exact absurd he (by decide)
    have HO := Lib.hid (chain_evts hc)
    have HST := Lib.hid (st_ok (k := untilN l day) fun j hj => HO.out j (by have := (until_spec l day).1; omega))
    have HOK := Lib.hid (fun j (hj : j < untilN l day) => HO.out j (by have := (until_spec l day).1; omega))
    have F := Lib.hid (show hoOut x l day = (standTo x l (untilN l day)).holder from (if_pos he).trans HST.out.holder.symm)
    have HE := Lib.hid he
    rw [he]
    clear he hc hd
    go_wp2_with fail
    refine (xStandingAt_any x _ l A c day _ ⟨_, _, rfl, M1.out⟩ HA.out HT.out (fun j hj => (HO.out j hj).kind)).mono ?_
    rintro e w2 ⟨rfl, hb1⟩
    replace HW := Lib.hid (HW.out.trans (hb1.mono HW.out.size))
    clear hb1
    go_wp2_with fail
    go_ret2
    exact ⟨by rw [F.out, HE.out]; rfl, HW.out⟩
  · have F := Lib.hid (show hoOut x l day = ⟨#[]⟩ from if_neg he)
    have e2 : (onErr x l day != 0) = true := by simpa using he
    have e3 : (onErr x l day == 0) = false := by simpa using he
    clear he
    go_wp2_with fail
    go_ret2
    exact ⟨by rw [F.out]; rfl, HW.out⟩
set_option linter.unusedSimpArgs false in
set_option maxHeartbeats 12800000 in
set_option maxRecDepth 100000 in
theorem xStateAt_any (x : Thg) (v : Value) (l : List Evt) (A : Option Addr) (c : Nat) (day : Int) (w : World) (hv : RdThg w v x) (h : ArrEv w A l c) (ht : TabSt w) :
    Calls Tryz.prog 59 #[v, .slice A l.length c, .int .i64 day] w fun e w' => e = .returned (.tuple #[.int .i64 (stOut x l day), .int .i64 (onErr x l day)]) ∧ Below w.heap.size w w' := by
  have ix : ∀ (s : Std) (w : World), (Instr.field 152 (stdV s) 1).run Tryz.prog w = .ok (.int .i64 s.state) w := fun _ _ => by kernel_rfl
  obtain ⟨p, pc, rfl, m⟩ := hv
  have M1 := Lib.hid (m.keep (Keep.alloc w (.cells #[.string x.name, .int .i64 x.day, .string x.who, .slice p x.marks.length pc] 24)))
  have HA := Lib.hid (h.keep (Keep.alloc w (.cells #[.string x.name, .int .i64 x.day, .string x.who, .slice p x.marks.length pc] 24)))
  have HT := Lib.hid (ht.keep (Keep.alloc w (.cells #[.string x.name, .int .i64 x.day, .string x.who, .slice p x.marks.length pc] 24)))
  have BX := Lib.hid (ThgAt.new w x p pc 24)
  have HW := Lib.hid ((Below.refl w.heap.size w).alloc (Nat.le_refl _) (.cells #[.string x.name, .int .i64 x.day, .string x.who, .slice p x.marks.length pc] 24))
  clear m h ht
  go_enter Tryz.func59, Tryz.ntmps59
  go_upto_region 1 with fail
  generalize w.alloc _ = wb at *
  obtain ⟨q0, q1, q2, q3⟩ := BX.out
  go_wp2_with fail
  refine (xOnErr_any x _ l A c day _ ⟨_, _, rfl, M1.out⟩ HA.out HT.out).mono ?_
  rintro e w1 ⟨rfl, hb1⟩
  replace M1 := Lib.hid (M1.out.keep (Keep.below hb1))
  replace HA := Lib.hid (HA.out.keep (Keep.below hb1))
  replace HT := Lib.hid (HT.out.keep (Keep.below hb1))
  replace BX := Lib.hid (BX.out.keep (Keep.below hb1))
  replace HW := Lib.hid (HW.out.trans (hb1.mono HW.out.size))
  clear hb1 q0 q1 q2 q3
  obtain ⟨q0, q1, q2, q3⟩ := BX.out
  by_cases he : onErr x l day = 0
  · have hc : chainErr x l = 0 := by
      unfold onErr at he
      by_cases h1 : chainErr x l = 0
      · exact h1
      · rw [if_pos h1] at he; exact he
    have hd : within day x.day 100000 = true := by
      unfold onErr at he
      rw [if_neg (fun hh => hh hc)] at he
      cases h1 : within day x.day 100000 with
      | true => rfl
      | false => rw [h1] at he; exact absurd he (by decide)
    have HO := Lib.hid (chain_evts hc)
    have HST := Lib.hid (st_ok (k := untilN l day) fun j hj => HO.out j (by have := (until_spec l day).1; omega))
    have HOK := Lib.hid (fun j (hj : j < untilN l day) => HO.out j (by have := (until_spec l day).1; omega))
    have F := Lib.hid (show stOut x l day = (standTo x l (untilN l day)).state from (if_pos he).trans (HST.out.state HOK.out).symm)
    have HE := Lib.hid he
    rw [he]
    clear he hc hd
    go_wp2_with fail
    refine (xStandingAt_any x _ l A c day _ ⟨_, _, rfl, M1.out⟩ HA.out HT.out (fun j hj => (HO.out j hj).kind)).mono ?_
    rintro e w2 ⟨rfl, hb1⟩
    replace HW := Lib.hid (HW.out.trans (hb1.mono HW.out.size))
    clear hb1
    go_wp2_with fail
    go_ret2
    exact ⟨by rw [F.out, HE.out]; rfl, HW.out⟩
  · have F := Lib.hid (show stOut x l day = 0 from if_neg he)
    have e2 : (onErr x l day != 0) = true := by simpa using he
    have e3 : (onErr x l day == 0) = false := by simpa using he
    clear he
    go_wp2_with fail
    go_ret2
    exact ⟨by rw [F.out]; rfl, HW.out⟩
set_option linter.unusedSimpArgs false in
set_option maxHeartbeats 12800000 in
set_option maxRecDepth 100000 in
theorem xRightAt_any (x : Thg) (v : Value) (l : List Evt) (A : Option Addr) (c : Nat) (day : Int) (w : World) (hv : RdThg w v x) (h : ArrEv w A l c) (ht : TabSt w) :
    Calls Tryz.prog 60 #[v, .slice A l.length c, .int .i64 day] w fun e w' => e = .returned (.tuple #[.int .i64 (riOut x l day), .int .i64 (onErr x l day)]) ∧ Below w.heap.size w w' := by
  obtain ⟨p, pc, rfl, m⟩ := hv
  have M1 := Lib.hid (m.keep (Keep.alloc w (.cells #[.string x.name, .int .i64 x.day, .string x.who, .slice p x.marks.length pc] 24)))
  have HA := Lib.hid (h.keep (Keep.alloc w (.cells #[.string x.name, .int .i64 x.day, .string x.who, .slice p x.marks.length pc] 24)))
  have HT := Lib.hid (ht.keep (Keep.alloc w (.cells #[.string x.name, .int .i64 x.day, .string x.who, .slice p x.marks.length pc] 24)))
  have BX := Lib.hid (ThgAt.new w x p pc 24)
  have HW := Lib.hid ((Below.refl w.heap.size w).alloc (Nat.le_refl _) (.cells #[.string x.name, .int .i64 x.day, .string x.who, .slice p x.marks.length pc] 24))
  clear m h ht
  go_enter Tryz.func60, Tryz.ntmps60
  go_upto_region 1 with fail
  generalize w.alloc _ = wb at *
  obtain ⟨q0, q1, q2, q3⟩ := BX.out
  go_wp2_with fail
  refine (xOnErr_any x _ l A c day _ ⟨_, _, rfl, M1.out⟩ HA.out HT.out).mono ?_
  rintro e w1 ⟨rfl, hb1⟩
  replace M1 := Lib.hid (M1.out.keep (Keep.below hb1))
  replace HA := Lib.hid (HA.out.keep (Keep.below hb1))
  replace HT := Lib.hid (HT.out.keep (Keep.below hb1))
  replace BX := Lib.hid (BX.out.keep (Keep.below hb1))
  replace HW := Lib.hid (HW.out.trans (hb1.mono HW.out.size))
  clear hb1 q0 q1 q2 q3
  obtain ⟨q0, q1, q2, q3⟩ := BX.out
  by_cases he : onErr x l day = 0
  · have hc : chainErr x l = 0 := by
      unfold onErr at he
      by_cases h1 : chainErr x l = 0
      · exact h1
      · rw [if_pos h1] at he; exact he
    have hd : within day x.day 100000 = true := by
      unfold onErr at he
      rw [if_neg (fun hh => hh hc)] at he
      cases h1 : within day x.day 100000 with
      | true => rfl
      | false => rw [h1] at he; exact absurd he (by decide)
    have HO := Lib.hid (chain_evts hc)
    have HST := Lib.hid (st_ok (k := untilN l day) fun j hj => HO.out j (by have := (until_spec l day).1; omega))
    have HOK := Lib.hid (fun j (hj : j < untilN l day) => HO.out j (by have := (until_spec l day).1; omega))
    have hdd : 0 ≤ day ∧ day ≤ 100000 := by
      have h1 := Fs.within_iff.1 hd
      have h2 : thgErr x = 0 := by
        unfold chainErr at hc
        by_cases h3 : thgErr x = 0
        · exact h3
        · rw [if_pos h3] at hc; exact hc
      have h4 := (thg_ok h2).1.day0
      omega
    have F := Lib.hid (show riOut x l day = rightD (standTo x l (untilN l day)) (IntKind.i64.wrap (day - (standTo x l (untilN l day)).stored)) from (if_pos he).trans (HST.out.right HOK.out hdd).symm)
    have HE := Lib.hid he
    rw [he]
    clear he hc hd
    go_wp2_with fail
    refine (xStandingAt_any x _ l A c day _ ⟨_, _, rfl, M1.out⟩ HA.out HT.out (fun j hj => (HO.out j hj).kind)).mono ?_
    rintro e w2 ⟨rfl, hb1⟩
    replace HW := Lib.hid (HW.out.trans (hb1.mono HW.out.size))
    clear hb1
    go_wp2_with fail
    refine (xRightD_any (standTo x l (untilN l day)) day _).mono ?_
    rintro e w3 ⟨rfl, hb1⟩
    replace HW := Lib.hid (HW.out.trans (hb1.mono HW.out.size))
    clear hb1
    go_wp2_with fail
    go_ret2
    exact ⟨by rw [F.out, HE.out]; rfl, HW.out⟩
  · have F := Lib.hid (show riOut x l day = 0 from if_neg he)
    have e2 : (onErr x l day != 0) = true := by simpa using he
    have e3 : (onErr x l day == 0) = false := by simpa using he
    clear he
    go_wp2_with fail
    go_ret2
    exact ⟨by rw [F.out]; rfl, HW.out⟩
theorem ret_pair {a b c : Int} (h : a = b) : Ending.returned (.tuple #[.int .i64 a, .int .i64 c]) = .returned (.tuple #[.int .i64 b, .int .i64 c]) := by rw [h]
set_option maxHeartbeats 1600000 in
theorem xRewardOf_any (n : Int) (w : World) :
    Calls Tryz.prog 73 #[.int .i64 n] w fun e w' => e = .returned (.tuple #[.int .i64 (reward n), .int .i64 (rewErr n)]) ∧ Below w.heap.size w w' := by
  cases h1 : within n 0 1000000000 with
  | false =>
    have F1 := Lib.hid (show reward n = 0 by unfold reward isMoney; rw [h1]; rfl)
    have F2 := Lib.hid (show rewErr n = 2 by unfold rewErr isMoney; rw [h1]; rfl)
    go_enter Tryz.func73, Tryz.ntmps73
    go_wp2_with fail
    refine (within_any _ _ _ _).mono ?_
    rintro e w' ⟨rfl, rfl⟩
    rw [h1]
    go_wp2_with fail
    go_ret2
    exact ⟨by rw [F1.out, F2.out]; rfl, Below.refl _ _⟩
  | true =>
    have hb := Fs.within_iff.1 h1
    obtain ⟨hb0, hb1⟩ := hb
    have F1 := Lib.hid (show reward n = (5 * min n 50000 + 3 * (n - min n 50000)) / 100 by
      unfold reward isMoney; rw [h1, if_pos rfl, Int.tdiv_eq_ediv_of_nonneg (by omega)]
      congr 1
      omega)
    have F2 := Lib.hid (show rewErr n = 0 by unfold rewErr isMoney; rw [h1]; rfl)
    go_enter Tryz.func73, Tryz.ntmps73
    go_wp2_with fail
    refine (within_any _ _ _ _).mono ?_
    rintro e w' ⟨rfl, rfl⟩
    rw [h1]
    go_wp2_with fail
    all_goals
      go_ret2
      refine ⟨?_, Below.refl _ _⟩
      rw [F2.out]
      exact ret_pair (by rw [F1.out]; omega)
end Go.Proofs.YtfjdnbnalihjiaaGreatDoor
