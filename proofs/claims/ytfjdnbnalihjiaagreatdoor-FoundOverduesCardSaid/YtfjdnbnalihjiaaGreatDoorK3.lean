/- Lists of items and of claims: their errors. No condition. -/
import Derived.Test.YtfjdnbnalihjiaaGreatDoorK2
namespace Go.Proofs.YtfjdnbnalihjiaaGreatDoor
open Go.RowKit Fs

/-- One cell of one's own. -/
structure OneAt (w : World) (g : Nat) (v : Value) : Prop where
  c0 : w.cell? ⟨g, 0, none⟩ = some v
  f0 : w.frozen? ⟨g, 0, none⟩ = false
theorem OneAt.lt {w : World} {g : Nat} {v : Value} (m : OneAt w g v) : g < w.heap.size := World.block_lt_of_cell? w _ m.c0
theorem OneAt.keep {w w' : World} {g : Nat} {v : Value} (m : OneAt w g v) (h : Below w.heap.size w w') : OneAt w' g v := ⟨(h.cell (p := ⟨g, 0, none⟩) m.lt).trans m.c0, (h.frozen (p := ⟨g, 0, none⟩) m.lt).trans m.f0⟩
theorem OneAt.drew {w : World} {g : Nat} {v : Value} (m : OneAt w g v) : OneAt w.drew g v := ⟨m.c0, m.f0⟩
theorem OneAt.set {w : World} {g : Nat} {v : Value} (m : OneAt w g v) (u : Value) : OneAt (w.setCell ⟨g, 0, none⟩ u) g u := ⟨World.cell?_setCell_same _ _ _ m.c0, (World.frozen?_setCell _ _ _ _).trans m.f0⟩
theorem OneAt.new (w : World) (v : Value) (t : TypeId) : OneAt (w.alloc (.cells #[v] t)) w.heap.size v := ⟨cellNew _ _ _ 0, frozenNew _ _ _ 0⟩
theorem kbelow_realloc {B : Nat} {a w : World} {o : Obj} (h : Below B a (w.alloc o)) (hB : B ≤ w.heap.size) (o' : Obj) : Below B a (w.alloc o') :=
  ⟨h.os, h.tape, h.output, by simpa using h.size, fun k hk => by
    have := h.block k hk
    rw [Below.heap_alloc _ _ _ (by omega)] at this ⊢
    exact this⟩
theorem mNameItem (n : Nat) (x : Thg) (p : Option Addr) (pc : Nat) (w : World) : (method (n + 1) 123 (thgV x p pc) "fiacre/found.name").run Tryz.prog w = .ok (234, thgV x p pc) w := by kernel_rfl
theorem mNameClaim (n : Nat) (x : Thg) (p : Option Addr) (pc : Nat) (w : World) : (method (n + 1) 125 (thgV x p pc) "fiacre/found.name").run Tryz.prog w = .ok (238, thgV x p pc) w := by kernel_rfl
theorem Fs.any_text (l : List Thg) (n : Nat) (s : ByteArray) : anyTo (fun i => (lThg l i).name.toList == s.toList) n = hasText (fun j => (lThg l j).name) n s := by
  cases h : hasText (fun j => (lThg l j).name) n s with
  | false =>
    refine anyTo_false fun k hk => ?_
    have hne : (lThg l k).name ≠ s := fun e => by rw [hasText_yes (f := fun j => (lThg l j).name) hk e] at h; cases h
    exact str_ne hne
  | true =>
    apply anyTo_iff.2
    apply Classical.byContradiction
    intro hn
    rw [hasText_no fun j hj e => hn ⟨j, hj, str_eq e⟩] at h
    cases h
theorem ArrTh.take {w : World} {A : Option Addr} {l : List Thg} {c : Nat} {a : GA} (h : ArrTh w A l c a) {k : Nat} (hk : k ≤ l.length) : ArrTh w A (l.take k) c a := by
  have hlen : (l.take k).length = k := by rw [List.length_take]; omega
  have hle : ∀ i, i < k → lThg (l.take k) i = lThg l i := fun i hi => by unfold lThg; rw [List.getD_eq_getElem?_getD, List.getElem?_take, if_pos hi, ← List.getD_eq_getElem?_getD]
  obtain ⟨⟨h1, h2, h3⟩, hm⟩ := h
  refine ⟨⟨by omega, h2, fun hp => ?_⟩, fun i hi => ?_⟩
  · obtain ⟨b, o, e, hc⟩ := h3 (by omega)
    exact ⟨b, o, e, fun i j hi hj => by
      show _ = some (thgCells (lThg (l.take k) i) (a.p i) (a.pc i) j)
      rw [hle i (by omega)]; exact hc i j (by omega) hj⟩
  · rw [hle i (by omega)]; exact hm i (by omega)
set_option linter.unusedSimpArgs false in
set_option maxHeartbeats 12800000 in
set_option maxRecDepth 100000 in
theorem xThingOfItem_any (x : Thg) (p : Option Addr) (pc : Nat) (w : World) : Calls Tryz.prog 130 #[thgV x p pc] w fun e w' => e = .returned (.iface 123 (thgV x p pc)) ∧ Below w.heap.size w w' := by
  obtain ⟨q0, q1, q2, q3⟩ := ThgAt.new w x p pc 24
  go_enter Tryz.func130, Tryz.ntmps130
  go_wp2_with fail
  go_ret
  exact ⟨rfl, (Below.refl _ _).alloc (Nat.le_refl _) _⟩
set_option linter.unusedSimpArgs false in
set_option maxHeartbeats 12800000 in
set_option maxRecDepth 100000 in
theorem xSameItem_any (x y : Thg) (p q : Option Addr) (pc qc g5 g7 : Nat) (w : World) (h5 : w.cell? ⟨g5, 0, none⟩ = some (.func (.func 130) #[] #[])) (h7 : w.cell? ⟨g7, 0, none⟩ = some (.iface 123 (thgV x q qc))) :
    Calls Tryz.prog 171 #[thgV y p pc, .pointer (some ⟨g5, 0, none⟩), .pointer (some ⟨g7, 0, none⟩)] w fun e w' => e = .returned (.bool (y.name.toList == x.name.toList)) ∧ Below w.heap.size w w' := by
  have z5 := Keep.alloc w (.cells #[.string y.name, .int .i64 y.day, .string y.who, .slice p y.marks.length pc] 24) _ _ h5
  have z7 := Keep.alloc w (.cells #[.string y.name, .int .i64 y.day, .string y.who, .slice p y.marks.length pc] 24) _ _ h7
  obtain ⟨q0, q1, q2, q3⟩ := ThgAt.new w y p pc 24
  have HW0 := Lib.hid ((Below.refl w.heap.size w).alloc (Nat.le_refl _) (.cells #[.string y.name, .int .i64 y.day, .string y.who, .slice p y.marks.length pc] 24))
  clear h5 h7
  go_enter Tryz.func171, Tryz.ntmps171
  go_upto_region 1 with fail
  generalize w.alloc _ = wb at *
  go_wp2_with fail
  have HBd : Hid (Below wb.heap.size wb wb.drew) := Lib.hid (Below.refl _ _).drew
  have MK : Hid (∀ w', Below wb.heap.size wb w' → w'.cell? ⟨g5, 0, none⟩ = some (.func (.func 130) #[] #[]) ∧ w'.cell? ⟨g7, 0, none⟩ = some (.iface 123 (thgV x q qc)) ∧ w'.cell? ⟨w.heap.size, 0, none⟩ = some (.string y.name) ∧ w'.cell? ⟨w.heap.size, 1, none⟩ = some (.int .i64 y.day) ∧ w'.cell? ⟨w.heap.size, 2, none⟩ = some (.string y.who) ∧ w'.cell? ⟨w.heap.size, 3, none⟩ = some (.slice p y.marks.length pc) ∧ Hid (Below wb.heap.size wb w')) :=
    Lib.hid fun w' hw => ⟨Keep.below hw _ _ z5, Keep.below hw _ _ z7, Keep.below hw _ _ q0, Keep.below hw _ _ q1, Keep.below hw _ _ q2, Keep.below hw _ _ q3, Lib.hid hw⟩
  refine wp_region_held_drew (S := fun w' => w'.cell? ⟨g5, 0, none⟩ = some (.func (.func 130) #[] #[]) ∧ w'.cell? ⟨g7, 0, none⟩ = some (.iface 123 (thgV x q qc)) ∧ w'.cell? ⟨w.heap.size, 0, none⟩ = some (.string y.name) ∧ w'.cell? ⟨w.heap.size, 1, none⟩ = some (.int .i64 y.day) ∧ w'.cell? ⟨w.heap.size, 2, none⟩ = some (.string y.who) ∧ w'.cell? ⟨w.heap.size, 3, none⟩ = some (.slice p y.marks.length pc) ∧ Hid (Below wb.heap.size wb w')) (by kernel_rfl) (MK.out _ HBd.out) (fun hHeld => ?_)
  refine wpAnyH_take (i := 0) (v := ?val0x1) rfl (by kernel_rfl) (by kernel_rfl) (by kernel_rfl) (fun _ _ _ h => h) (Or.inl ⟨by rfl, fun w9 hS9 => ?yields0x1⟩) (by assumption) ?later0x1
  case yields0x1 =>
    dsimp only at hS9
    go_simp
    try with_reducible rfl
  try simp only [Act.put, List.getElem_toArray, List.getElem_cons_succ, List.getElem_cons_zero, List.setIfInBounds_toArray, List.set_cons_zero, List.set_cons_succ]
  refine wpAnyH_take (i := 1) (v := ?val1x2) rfl (by kernel_rfl) (by kernel_rfl) (by kernel_rfl) (fun _ _ _ h => h) (Or.inl ⟨by rfl, fun w9 hS9 => ?yields1x2⟩) (by assumption) ?later1x2
  case yields1x2 =>
    dsimp only at hS9
    go_simp
    try with_reducible rfl
  try simp only [Act.put, List.getElem_toArray, List.getElem_cons_succ, List.getElem_cons_zero, List.setIfInBounds_toArray, List.set_cons_zero, List.set_cons_succ]
  refine wpAnyH_take (i := 4) (v := ?val4x3) rfl (by kernel_rfl) (by kernel_rfl) (by kernel_rfl) (fun _ _ _ h => h) (Or.inl ⟨by rfl, fun w9 hS9 => ?yields4x3⟩) (by assumption) ?later4x3
  case yields4x3 =>
    dsimp only at hS9
    go_simp
    try with_reducible rfl
  try simp only [Act.put, List.getElem_toArray, List.getElem_cons_succ, List.getElem_cons_zero, List.setIfInBounds_toArray, List.set_cons_zero, List.set_cons_succ]
  refine wpAnyH_ready (rs := [2]) (by kernel_rfl) (by simp) ?_
  refine AllReadyH.cons rfl (fun K hK => ?_) AllReadyH.nil
  go_simp
  go_at_call 130
  go_split_ands
  refine (xThingOfItem_any y p pc _).mono ?_
  rintro e' w5 ⟨rfl, hb1⟩
  go_wp2_with fail
  refine hK.out _ _ ?_ (fun hHeld => ?_)
  · (try dsimp only)
    (go_split_ands; exact MK.out _ (Below.trans (Hid.out (by assumption)) (hb1.mono (Hid.out (by assumption) : Below wb.heap.size wb _).size)))
  clear hK K
  try simp only [Act.put, List.getElem_toArray, List.getElem_cons_succ, List.getElem_cons_zero, List.setIfInBounds_toArray, List.set_cons_zero, List.set_cons_succ]
  refine wpAnyH_ready (rs := [3]) (by kernel_rfl) (by simp) ?_
  refine AllReadyH.cons rfl (fun K hK => ?_) AllReadyH.nil
  go_simp
  rw [mNameItem]
  try dsimp only [Result.andThen]
  try go_simp
  go_at_call 234
  go_split_ands
  refine (xItemname_any y p pc _).mono ?_
  rintro e' w6 ⟨rfl, hb1⟩
  go_wp2_with fail
  refine hK.out _ _ ?_ (fun hHeld => ?_)
  · (try dsimp only)
    (go_split_ands; exact MK.out _ (Below.trans (Hid.out (by assumption)) (hb1.mono (Hid.out (by assumption) : Below wb.heap.size wb _).size)))
  clear hK K
  try simp only [Act.put, List.getElem_toArray, List.getElem_cons_succ, List.getElem_cons_zero, List.setIfInBounds_toArray, List.set_cons_zero, List.set_cons_succ]
  refine wpAnyH_ready (rs := [5]) (by kernel_rfl) (by simp) ?_
  refine AllReadyH.cons rfl (fun K hK => ?_) AllReadyH.nil
  go_simp
  rw [mNameItem]
  try dsimp only [Result.andThen]
  try go_simp
  go_at_call 234
  go_split_ands
  refine (xItemname_any x q qc _).mono ?_
  rintro e' w7 ⟨rfl, hb1⟩
  go_wp2_with fail
  refine hK.out _ _ ?_ (fun hHeld => ?_)
  · (try dsimp only)
    (go_split_ands; exact MK.out _ (Below.trans (Hid.out (by assumption)) (hb1.mono (Hid.out (by assumption) : Below wb.heap.size wb _).size)))
  clear hK K
  try simp only [Act.put, List.getElem_toArray, List.getElem_cons_succ, List.getElem_cons_zero, List.setIfInBounds_toArray, List.set_cons_zero, List.set_cons_succ]
  refine wpAnyH_take (i := 6) (v := ?val6x4) rfl (by kernel_rfl) (by kernel_rfl) (by kernel_rfl) (fun _ _ _ h => h) (Or.inl ⟨by rfl, fun w9 hS9 => ?yields6x4⟩) (by assumption) ?later6x4
  case yields6x4 =>
    dsimp only at hS9
    go_simp
    try with_reducible rfl
  try simp only [Act.put, List.getElem_toArray, List.getElem_cons_succ, List.getElem_cons_zero, List.setIfInBounds_toArray, List.set_cons_zero, List.set_cons_succ]
  refine wpAnyH_take (i := 7) (v := ?val7x5) rfl (by kernel_rfl) (by kernel_rfl) (by kernel_rfl) (fun _ _ _ h => h) (Or.inl ⟨by rfl, fun w9 hS9 => ?yields7x5⟩) (by assumption) ?later7x5
  case yields7x5 =>
    dsimp only at hS9
    go_simp
    try with_reducible rfl
  try simp only [Act.put, List.getElem_toArray, List.getElem_cons_succ, List.getElem_cons_zero, List.setIfInBounds_toArray, List.set_cons_zero, List.set_cons_succ]
  refine wpAnyH_done (by kernel_rfl) ?_ _
  obtain ⟨-, -, -, -, -, -, HB⟩ := hHeld
  clear HBd MK
  go_wp2_with fail
  go_ret
  exact ⟨rfl, HW0.out.trans (HB.out.mono HW0.out.size)⟩
set_option linter.unusedSimpArgs false in
set_option maxHeartbeats 12800000 in
set_option maxRecDepth 100000 in
theorem xInItem_any (l : List Thg) (A : Option Addr) (c : Nat) (a : GA) (k : Nat) (w : World) (h : ArrTh w A l c a) (hlt : k < l.length) :
    Calls Tryz.prog 156 #[.slice A l.length c, .int .i64 k, .func (.func 130) #[] #[]] w fun e w' => e = .returned (.int .i64 (thgAt l k)) ∧ Below w.heap.size w w' := by
  have b1 := h.le.1
  have b2 := h.le.2
  have HA := Lib.hid h
  have hkn : (k : Int) < (l.length : Int) := by omega
  obtain ⟨b, o, rfl, qq, mm⟩ := (h.keep (Keep.alloc w (.cells #[.func (.func 130) #[] #[]] 177))).at_ hlt
  obtain ⟨q0, q1, q2, q3⟩ := qq
  have z5 := cellNew w #[.func (.func 130) #[] #[]] 177 0
  have HW := Lib.hid ((Below.refl w.heap.size w).alloc (Nat.le_refl _) (.cells #[.func (.func 130) #[] #[]] 177))
  have MM := Lib.hid mm
  clear mm h
  go_enter Tryz.func156, Tryz.ntmps156
  go_upto_region 1 with fail
  generalize w.alloc _ = wb at *
  have HZ5 := Lib.hid z5
  go_cut [7] from 9 to 14 (fun s wx => ∃ g, s = .pointer (some ⟨g, 0, none⟩) ∧ Hid (OneAt wx g (.iface 123 (thgV (lThg l k) (a.p k) (a.pc k)))) ∧ Hid (Below wb.heap.size wb wx))
  case first =>
    have HBd : Hid (Below wb.heap.size wb wb.drew) := Lib.hid (Below.refl _ _).drew
    have MK : Hid (∀ w', Below wb.heap.size wb w' → w'.cell? ⟨w.heap.size, 0, none⟩ = some (.func (.func 130) #[] #[]) ∧ w'.cell? ⟨b, o + k * 4, none⟩ = some (.string (lThg l k).name) ∧ w'.cell? ⟨b, o + k * 4 + 1, none⟩ = some (.int .i64 (lThg l k).day) ∧ w'.cell? ⟨b, o + k * 4 + 2, none⟩ = some (.string (lThg l k).who) ∧ w'.cell? ⟨b, o + k * 4 + 3, none⟩ = some (.slice (a.p k) (lThg l k).marks.length (a.pc k)) ∧ Hid (Below wb.heap.size wb w')) :=
      Lib.hid fun w' hw => ⟨Keep.below hw _ _ z5, Keep.below hw _ _ q0, Keep.below hw _ _ q1, Keep.below hw _ _ q2, Keep.below hw _ _ q3, Lib.hid hw⟩
    refine wp_region_held_drew (S := fun w' => w'.cell? ⟨w.heap.size, 0, none⟩ = some (.func (.func 130) #[] #[]) ∧ w'.cell? ⟨b, o + k * 4, none⟩ = some (.string (lThg l k).name) ∧ w'.cell? ⟨b, o + k * 4 + 1, none⟩ = some (.int .i64 (lThg l k).day) ∧ w'.cell? ⟨b, o + k * 4 + 2, none⟩ = some (.string (lThg l k).who) ∧ w'.cell? ⟨b, o + k * 4 + 3, none⟩ = some (.slice (a.p k) (lThg l k).marks.length (a.pc k)) ∧ Hid (Below wb.heap.size wb w')) (by kernel_rfl) (MK.out _ HBd.out) (fun hHeld => ?_)
    refine wpAnyH_take (i := 0) (v := ?val0x6) rfl (by kernel_rfl) (by kernel_rfl) (by kernel_rfl) (fun _ _ _ h => h) (Or.inl ⟨by rfl, fun w9 hS9 => ?yields0x6⟩) (by assumption) ?later0x6
    case yields0x6 =>
      dsimp only at hS9
      go_simp
      try with_reducible rfl
    try simp only [Act.put, List.getElem_toArray, List.getElem_cons_succ, List.getElem_cons_zero, List.setIfInBounds_toArray, List.set_cons_zero, List.set_cons_succ]
    refine wpAnyH_take (i := 1) (v := ?val1x7) rfl (by kernel_rfl) (by kernel_rfl) (by kernel_rfl) (fun _ _ _ h => h) (Or.inl ⟨by rfl, fun w9 hS9 => ?yields1x7⟩) (by assumption) ?later1x7
    case yields1x7 =>
      dsimp only at hS9
      go_simp
      try with_reducible rfl
    try simp only [Act.put, List.getElem_toArray, List.getElem_cons_succ, List.getElem_cons_zero, List.setIfInBounds_toArray, List.set_cons_zero, List.set_cons_succ]
    refine wpAnyH_take (i := 2) (v := ?val2x8) rfl (by kernel_rfl) (by kernel_rfl) (by kernel_rfl) (fun _ _ _ h => h) (Or.inl ⟨by rfl, fun w9 hS9 => ?yields2x8⟩) (by assumption) ?later2x8
    case yields2x8 =>
      dsimp only at hS9
      go_simp
      try with_reducible rfl
    try simp only [Act.put, List.getElem_toArray, List.getElem_cons_succ, List.getElem_cons_zero, List.setIfInBounds_toArray, List.set_cons_zero, List.set_cons_succ]
    refine wpAnyH_take (i := 3) (v := ?val3x9) rfl (by kernel_rfl) (by kernel_rfl) (by kernel_rfl) (fun _ _ _ h => h) (Or.inl ⟨by rfl, fun w9 hS9 => ?yields3x9⟩) (by assumption) ?later3x9
    case yields3x9 =>
      dsimp only at hS9
      go_simp
      try with_reducible rfl
    try simp only [Act.put, List.getElem_toArray, List.getElem_cons_succ, List.getElem_cons_zero, List.setIfInBounds_toArray, List.set_cons_zero, List.set_cons_succ]
    refine wpAnyH_take (i := 4) (v := ?val4x10) rfl (by kernel_rfl) (by kernel_rfl) (by kernel_rfl) (fun _ _ _ h => h) (Or.inl ⟨by rfl, fun w9 hS9 => ?yields4x10⟩) (by assumption) ?later4x10
    case yields4x10 =>
      dsimp only at hS9
      go_simp
      try with_reducible rfl
    try simp only [Act.put, List.getElem_toArray, List.getElem_cons_succ, List.getElem_cons_zero, List.setIfInBounds_toArray, List.set_cons_zero, List.set_cons_succ]
    refine wpAnyH_ready (rs := [5, 6]) (by kernel_rfl) (by simp) ?_
    refine AllReadyH.cons rfl (fun K hK => ?_) (AllReadyH.cons rfl (fun K hK => ?_) AllReadyH.nil)
    · go_simp
      go_at_call 130
      go_split_ands
      refine (xThingOfItem_any _ _ _ _).mono ?_
      rintro e' w5 ⟨rfl, hb1⟩
      have hsz := hb1.size
      go_wp2_with fail
      refine hK.out _ _ ?_ (fun hHeld => ?_)
      · (try dsimp only)
        (go_split_ands; exact MK.out _ (Below.trans (Hid.out (by assumption)) (hb1.mono (Hid.out (by assumption) : Below wb.heap.size wb _).size)))
      clear hK K
      try simp only [Act.put, List.getElem_toArray, List.getElem_cons_succ, List.getElem_cons_zero, List.setIfInBounds_toArray, List.set_cons_zero, List.set_cons_succ]
      have O9 := Lib.hid (OneAt.new w5 .nilIface 169)
      refine wpAnyH_ready (rs := [6]) (by kernel_rfl) (by simp) ?_
      refine AllReadyH.cons rfl (fun K hK => ?_) AllReadyH.nil
      go_simp
      refine hK.out _ _ ?_ (fun hHeld => ?_)
      · (try dsimp only)
        (go_split_ands; exact MK.out _ (Below.alloc (Hid.out (by assumption)) (Hid.out (by assumption) : Below wb.heap.size wb _).size _))
      clear hK K
      try simp only [Act.put, List.getElem_toArray, List.getElem_cons_succ, List.getElem_cons_zero, List.setIfInBounds_toArray, List.set_cons_zero, List.set_cons_succ]
      have c9 := O9.out.c0
      have f9 := O9.out.f0
      refine wpAnyH_ready (rs := [7]) (by kernel_rfl) (by simp) ?_
      refine AllReadyH.cons rfl (fun K hK => ?_) AllReadyH.nil
      go_simp
      refine hK.out _ _ ?_ (fun hHeld => ?_)
      · (try dsimp only)
        first
          | (go_split_ands; exact MK.out _ (Below.setCell (Hid.out (by assumption)) (by show wb.heap.size ≤ _; first | exact Nat.le_refl _ | exact hsz | omega) _))
          | (go_split_ands; exact MK.out _ (kbelow_realloc (Hid.out (by assumption)) hsz _))
      clear hK K
      try simp only [Act.put, List.getElem_toArray, List.getElem_cons_succ, List.getElem_cons_zero, List.setIfInBounds_toArray, List.set_cons_zero, List.set_cons_succ]
      refine wpAnyH_done (by kernel_rfl) ?_ _
      obtain ⟨-, -, -, -, -, HB⟩ := hHeld
      go_wp2_with fail
      go_meet
      first
        | exact ⟨_, rfl, Lib.hid (O9.out.set _), HB⟩
        | exact ⟨_, rfl, Lib.hid (O9.out.set _).drew, HB⟩
        | exact ⟨_, rfl, Lib.hid (O9.out.drew.set _), HB⟩
        | exact ⟨_, rfl, Lib.hid (OneAt.new _ _ _), HB⟩
        | exact ⟨_, rfl, Lib.hid (OneAt.new _ _ _).drew, HB⟩
    · go_simp
      refine hK.out _ _ ?_ (fun hHeld => ?_)
      · (try dsimp only)
        (go_split_ands; exact MK.out _ (Below.alloc (Hid.out (by assumption)) (Hid.out (by assumption) : Below wb.heap.size wb _).size _))
      clear hK K
      try simp only [Act.put, List.getElem_toArray, List.getElem_cons_succ, List.getElem_cons_zero, List.setIfInBounds_toArray, List.set_cons_zero, List.set_cons_succ]
      have O8 := Lib.hid (OneAt.new wb.drew .nilIface 169)
      refine wpAnyH_ready (rs := [5]) (by kernel_rfl) (by simp) ?_
      refine AllReadyH.cons rfl (fun K hK => ?_) AllReadyH.nil
      go_simp
      go_at_call 130
      go_split_ands
      refine (xThingOfItem_any _ _ _ _).mono ?_
      rintro e' w5 ⟨rfl, hb1⟩
      have hsz := hb1.size
      go_wp2_with fail
      refine hK.out _ _ ?_ (fun hHeld => ?_)
      · (try dsimp only)
        (go_split_ands; exact MK.out _ (Below.trans (Hid.out (by assumption)) (hb1.mono (Hid.out (by assumption) : Below wb.heap.size wb _).size)))
      clear hK K
      try simp only [Act.put, List.getElem_toArray, List.getElem_cons_succ, List.getElem_cons_zero, List.setIfInBounds_toArray, List.set_cons_zero, List.set_cons_succ]
      have O9 := Lib.hid (O8.out.keep hb1)
      have c9 : w5.cell? ⟨wb.heap.size, 0, none⟩ = some .nilIface := O9.out.c0
      have f9 : w5.frozen? ⟨wb.heap.size, 0, none⟩ = false := O9.out.f0
      refine wpAnyH_ready (rs := [7]) (by kernel_rfl) (by simp) ?_
      refine AllReadyH.cons rfl (fun K hK => ?_) AllReadyH.nil
      go_simp
      refine hK.out _ _ ?_ (fun hHeld => ?_)
      · (try dsimp only)
        (go_split_ands; exact MK.out _ (Below.setCell (Hid.out (by assumption)) (by show wb.heap.size ≤ _; first | exact Nat.le_refl _ | exact hsz | omega) _))
      clear hK K
      try simp only [Act.put, List.getElem_toArray, List.getElem_cons_succ, List.getElem_cons_zero, List.setIfInBounds_toArray, List.set_cons_zero, List.set_cons_succ]
      refine wpAnyH_done (by kernel_rfl) ?_ _
      obtain ⟨-, -, -, -, -, HB⟩ := hHeld
      go_wp2_with fail
      go_meet
      first
        | exact ⟨_, rfl, Lib.hid (O9.out.set _), HB⟩
        | exact ⟨_, rfl, Lib.hid (O9.out.set _).drew, HB⟩
        | exact ⟨_, rfl, Lib.hid (O9.out.drew.set _), HB⟩
        | exact ⟨_, rfl, Lib.hid (OneAt.new _ _ _), HB⟩
        | exact ⟨_, rfl, Lib.hid (OneAt.new _ _ _).drew, HB⟩
  case rest =>
    obtain ⟨g7, rfl, O7, HC⟩ := hcut
    have HZ := Lib.hid (Keep.below HC.out _ _ HZ5.out)
    replace HW := Lib.hid (HW.out.trans (HC.out.mono HW.out.size))
    replace MM := Lib.hid (MM.out.keep (Keep.below HC.out))
    have z7 := O7.out.c0
    clear z5 q0 q1 q2 q3
    go_wp2_with fail
    refine (xThingItem_any (lThg l k) _ _ ⟨_, _, rfl, MM.out⟩).mono ?_
    rintro e w1 ⟨rfl, hb1⟩
    replace HW := Lib.hid (HW.out.trans (hb1.mono HW.out.size))
    replace HZ := Lib.hid (Keep.below hb1 _ _ HZ.out)
    replace O7 := Lib.hid (O7.out.keep hb1)
    clear hb1 z7 MM
    by_cases he : thgErr (lThg l k) = 0
    · have HE := Lib.hid he
      rw [he]
      clear he
      have hk1 : decide ((k : Int) < 0) = false := decide_eq_false (by omega)
      have hkl : (k : Int) ≤ (l.length : Int) := by omega
      have hkc : (k : Int) ≤ (c : Int) := by omega
      have hF : Hid (∀ w', Below w1.heap.size w1 w' → ∀ i : Nat, i < (l.take k).length → Calls Tryz.prog 171 #[thgV (lThg (l.take k) i) (a.p i) (a.pc i), .pointer (some ⟨w.heap.size, 0, none⟩), .pointer (some ⟨g7, 0, none⟩)] w' fun e w'' => e = .returned (.bool ((lThg l i).name.toList == (lThg l k).name.toList)) ∧ Below w'.heap.size w' w'') := Lib.hid fun w' hb i hi => by
        have hik : i < k := by rw [List.length_take] at hi; omega
        have hle : lThg (l.take k) i = lThg l i := by unfold lThg; rw [List.getD_eq_getElem?_getD, List.getElem?_take, if_pos hik, ← List.getD_eq_getElem?_getD]
        rw [hle]
        exact xSameItem_any (lThg l k) (lThg l i) _ _ _ _ _ _ w' (Keep.below hb _ _ HZ.out) (Keep.below hb _ _ O7.out.c0)
      have hlen : (l.take k).length = k := by rw [List.length_take]; omega
      have HT := Lib.hid (show ArrTh w1 (some ⟨b, o, none⟩) (l.take k) c a from (HA.out.keep (Keep.below HW.out)).take (by omega))
      have HHAS := Lib.hid (xHasItem_any 171 (.pointer (some ⟨w.heap.size, 0, none⟩)) (.pointer (some ⟨g7, 0, none⟩)) (fun i => (lThg l i).name.toList == (lThg l k).name.toList) (l.take k) (some ⟨b, o, none⟩) c a w1 HT.out (fun args w => by kernel_rfl) hF.out)
      rw [hlen] at HHAS
      clear hF HT
      go_wp2_with fail
      refine HHAS.out.mono ?_
      rintro e w2 ⟨rfl, hb1⟩
      replace HW := Lib.hid (HW.out.trans (hb1.mono HW.out.size))
      clear hb1 HHAS
      rw [any_text]
      cases hx : hasText (fun j => (lThg l j).name) k (lThg l k).name with
      | false =>
        have F := Lib.hid (show thgAt l k = 0 by unfold thgAt; rw [if_neg (fun hh => hh HE.out), if_neg (by rw [hx]; decide)])
        clear hx
        go_wp2_with fail
        go_ret
        exact ⟨ret_int F.out.symm, HW.out⟩
      | true =>
        have F := Lib.hid (show thgAt l k = 5 by unfold thgAt; rw [if_neg (fun hh => hh HE.out), if_pos hx])
        clear hx
        go_wp2_with fail
        go_ret
        exact ⟨ret_int F.out.symm, HW.out⟩
    · have F := Lib.hid (show thgAt l k = thgErr (lThg l k) from if_pos he)
      have e2 : (thgErr (lThg l k) != 0) = true := by simpa using he
      have e3 : (thgErr (lThg l k) == 0) = false := by simpa using he
      clear he
      go_wp2_with fail
      go_ret
      exact ⟨ret_int F.out.symm, HW.out⟩
set_option linter.unusedSimpArgs false in
set_option maxHeartbeats 12800000 in
set_option maxRecDepth 100000 in
theorem xMatched1Item_any (l : List Thg) (A : Option Addr) (c : Nat) (a : GA) (k g2 g3 : Nat) (w : World) (h : ArrTh w A l c a) (hlt : k < l.length) (h2 : w.cell? ⟨g2, 0, none⟩ = some (.slice A l.length c)) (h3 : w.cell? ⟨g3, 0, none⟩ = some (.func (.func 130) #[] #[])) :
    Calls Tryz.prog 155 #[.int .i64 k, .pointer (some ⟨g2, 0, none⟩), .pointer (some ⟨g3, 0, none⟩)] w fun e w' => e = .returned (.int .i64 (thgAt l k)) ∧ Below w.heap.size w w' := by
  go_enter Tryz.func155, Tryz.ntmps155
  go_wp2_with fail
  refine (xInItem_any l A c a k _ h hlt).mono ?_
  rintro e w1 ⟨rfl, hb1⟩
  go_wp2_with fail
  go_ret
  exact ⟨rfl, hb1⟩
set_option linter.unusedSimpArgs false in
set_option maxHeartbeats 12800000 in
set_option maxRecDepth 100000 in
theorem xMatchedItem_any (l : List Thg) (A : Option Addr) (c : Nat) (a : GA) (w : World) (h : ArrTh w A l c a) :
    Calls Tryz.prog 129 #[.slice A l.length c, .func (.func 130) #[] #[]] w fun e w' => e = .returned (.int .i64 (thgsErr l)) ∧ Below w.heap.size w w' := by
  have b1 := h.le.1
  have b2 := h.le.2
  have HA := Lib.hid (h.keep ((Keep.alloc w (.cells #[.slice A l.length c] 48)).trans (Keep.alloc _ (.cells #[.func (.func 130) #[] #[]] 177))))
  clear h
  have c0 := Keep.alloc (w.alloc (.cells #[.slice A l.length c] 48)) (.cells #[.func (.func 130) #[] #[]] 177) _ _ (cellNew w #[.slice A l.length c] 48 0)
  have c1 := cellNew1 w (.cells #[.slice A l.length c] 48) #[.func (.func 130) #[] #[]] 177 0
  have H0 := Lib.hid c0
  have H1 := Lib.hid c1
  have HW := Lib.hid (((Below.refl w.heap.size w).alloc (Nat.le_refl _) (.cells #[.slice A l.length c] 48)).alloc (by simp) (.cells #[.func (.func 130) #[] #[]] 177))
  go_enter Tryz.func129, Tryz.ntmps129
  go_wp2_with fail
  refine (xListGG_any 155 (.pointer (some ⟨w.heap.size, 0, none⟩)) (.pointer (some ⟨w.heap.size + 1, 0, none⟩)) l.length 12 (thgAt l) _ (by omega) (by omega) (fun args w => by kernel_rfl) (fun w' hb i hi => xMatched1Item_any l A c a i _ _ w' (HA.out.keep (Keep.below hb)) hi (Keep.below hb _ _ H0.out) (Keep.below hb _ _ H1.out))).mono ?_
  rintro e w1 ⟨rfl, hb1⟩
  go_wp2_with fail
  go_ret
  exact ⟨rfl, HW.out.trans (hb1.mono HW.out.size)⟩
set_option linter.unusedSimpArgs false in
set_option maxHeartbeats 12800000 in
set_option maxRecDepth 100000 in
theorem xThingOfClaim_any (x : Thg) (p : Option Addr) (pc : Nat) (w : World) : Calls Tryz.prog 135 #[thgV x p pc] w fun e w' => e = .returned (.iface 125 (thgV x p pc)) ∧ Below w.heap.size w w' := by
  obtain ⟨q0, q1, q2, q3⟩ := ThgAt.new w x p pc 26
  go_enter Tryz.func135, Tryz.ntmps135
  go_wp2_with fail
  go_ret
  exact ⟨rfl, (Below.refl _ _).alloc (Nat.le_refl _) _⟩
set_option linter.unusedSimpArgs false in
set_option maxHeartbeats 12800000 in
set_option maxRecDepth 100000 in
theorem xSameClaim_any (x y : Thg) (p q : Option Addr) (pc qc g5 g7 : Nat) (w : World) (h5 : w.cell? ⟨g5, 0, none⟩ = some (.func (.func 135) #[] #[])) (h7 : w.cell? ⟨g7, 0, none⟩ = some (.iface 125 (thgV x q qc))) :
    Calls Tryz.prog 173 #[thgV y p pc, .pointer (some ⟨g5, 0, none⟩), .pointer (some ⟨g7, 0, none⟩)] w fun e w' => e = .returned (.bool (y.name.toList == x.name.toList)) ∧ Below w.heap.size w w' := by
  have z5 := Keep.alloc w (.cells #[.string y.name, .int .i64 y.day, .string y.who, .slice p y.marks.length pc] 26) _ _ h5
  have z7 := Keep.alloc w (.cells #[.string y.name, .int .i64 y.day, .string y.who, .slice p y.marks.length pc] 26) _ _ h7
  obtain ⟨q0, q1, q2, q3⟩ := ThgAt.new w y p pc 26
  have HW0 := Lib.hid ((Below.refl w.heap.size w).alloc (Nat.le_refl _) (.cells #[.string y.name, .int .i64 y.day, .string y.who, .slice p y.marks.length pc] 26))
  clear h5 h7
  go_enter Tryz.func173, Tryz.ntmps173
  go_upto_region 1 with fail
  generalize w.alloc _ = wb at *
  go_wp2_with fail
  have HBd : Hid (Below wb.heap.size wb wb.drew) := Lib.hid (Below.refl _ _).drew
  have MK : Hid (∀ w', Below wb.heap.size wb w' → w'.cell? ⟨g5, 0, none⟩ = some (.func (.func 135) #[] #[]) ∧ w'.cell? ⟨g7, 0, none⟩ = some (.iface 125 (thgV x q qc)) ∧ w'.cell? ⟨w.heap.size, 0, none⟩ = some (.string y.name) ∧ w'.cell? ⟨w.heap.size, 1, none⟩ = some (.int .i64 y.day) ∧ w'.cell? ⟨w.heap.size, 2, none⟩ = some (.string y.who) ∧ w'.cell? ⟨w.heap.size, 3, none⟩ = some (.slice p y.marks.length pc) ∧ Hid (Below wb.heap.size wb w')) :=
    Lib.hid fun w' hw => ⟨Keep.below hw _ _ z5, Keep.below hw _ _ z7, Keep.below hw _ _ q0, Keep.below hw _ _ q1, Keep.below hw _ _ q2, Keep.below hw _ _ q3, Lib.hid hw⟩
  refine wp_region_held_drew (S := fun w' => w'.cell? ⟨g5, 0, none⟩ = some (.func (.func 135) #[] #[]) ∧ w'.cell? ⟨g7, 0, none⟩ = some (.iface 125 (thgV x q qc)) ∧ w'.cell? ⟨w.heap.size, 0, none⟩ = some (.string y.name) ∧ w'.cell? ⟨w.heap.size, 1, none⟩ = some (.int .i64 y.day) ∧ w'.cell? ⟨w.heap.size, 2, none⟩ = some (.string y.who) ∧ w'.cell? ⟨w.heap.size, 3, none⟩ = some (.slice p y.marks.length pc) ∧ Hid (Below wb.heap.size wb w')) (by kernel_rfl) (MK.out _ HBd.out) (fun hHeld => ?_)
  refine wpAnyH_take (i := 0) (v := ?val0x11) rfl (by kernel_rfl) (by kernel_rfl) (by kernel_rfl) (fun _ _ _ h => h) (Or.inl ⟨by rfl, fun w9 hS9 => ?yields0x11⟩) (by assumption) ?later0x11
  case yields0x11 =>
    dsimp only at hS9
    go_simp
    try with_reducible rfl
  try simp only [Act.put, List.getElem_toArray, List.getElem_cons_succ, List.getElem_cons_zero, List.setIfInBounds_toArray, List.set_cons_zero, List.set_cons_succ]
  refine wpAnyH_take (i := 1) (v := ?val1x12) rfl (by kernel_rfl) (by kernel_rfl) (by kernel_rfl) (fun _ _ _ h => h) (Or.inl ⟨by rfl, fun w9 hS9 => ?yields1x12⟩) (by assumption) ?later1x12
  case yields1x12 =>
    dsimp only at hS9
    go_simp
    try with_reducible rfl
  try simp only [Act.put, List.getElem_toArray, List.getElem_cons_succ, List.getElem_cons_zero, List.setIfInBounds_toArray, List.set_cons_zero, List.set_cons_succ]
  refine wpAnyH_take (i := 4) (v := ?val4x13) rfl (by kernel_rfl) (by kernel_rfl) (by kernel_rfl) (fun _ _ _ h => h) (Or.inl ⟨by rfl, fun w9 hS9 => ?yields4x13⟩) (by assumption) ?later4x13
  case yields4x13 =>
    dsimp only at hS9
    go_simp
    try with_reducible rfl
  try simp only [Act.put, List.getElem_toArray, List.getElem_cons_succ, List.getElem_cons_zero, List.setIfInBounds_toArray, List.set_cons_zero, List.set_cons_succ]
  refine wpAnyH_ready (rs := [2]) (by kernel_rfl) (by simp) ?_
  refine AllReadyH.cons rfl (fun K hK => ?_) AllReadyH.nil
  go_simp
  go_at_call 135
  go_split_ands
  refine (xThingOfClaim_any y p pc _).mono ?_
  rintro e' w5 ⟨rfl, hb1⟩
  go_wp2_with fail
  refine hK.out _ _ ?_ (fun hHeld => ?_)
  · (try dsimp only)
    (go_split_ands; exact MK.out _ (Below.trans (Hid.out (by assumption)) (hb1.mono (Hid.out (by assumption) : Below wb.heap.size wb _).size)))
  clear hK K
  try simp only [Act.put, List.getElem_toArray, List.getElem_cons_succ, List.getElem_cons_zero, List.setIfInBounds_toArray, List.set_cons_zero, List.set_cons_succ]
  refine wpAnyH_ready (rs := [3]) (by kernel_rfl) (by simp) ?_
  refine AllReadyH.cons rfl (fun K hK => ?_) AllReadyH.nil
  go_simp
  rw [mNameClaim]
  try dsimp only [Result.andThen]
  try go_simp
  go_at_call 238
  go_split_ands
  refine (xClaimname_any y p pc _).mono ?_
  rintro e' w6 ⟨rfl, hb1⟩
  go_wp2_with fail
  refine hK.out _ _ ?_ (fun hHeld => ?_)
  · (try dsimp only)
    (go_split_ands; exact MK.out _ (Below.trans (Hid.out (by assumption)) (hb1.mono (Hid.out (by assumption) : Below wb.heap.size wb _).size)))
  clear hK K
  try simp only [Act.put, List.getElem_toArray, List.getElem_cons_succ, List.getElem_cons_zero, List.setIfInBounds_toArray, List.set_cons_zero, List.set_cons_succ]
  refine wpAnyH_ready (rs := [5]) (by kernel_rfl) (by simp) ?_
  refine AllReadyH.cons rfl (fun K hK => ?_) AllReadyH.nil
  go_simp
  rw [mNameClaim]
  try dsimp only [Result.andThen]
  try go_simp
  go_at_call 238
  go_split_ands
  refine (xClaimname_any x q qc _).mono ?_
  rintro e' w7 ⟨rfl, hb1⟩
  go_wp2_with fail
  refine hK.out _ _ ?_ (fun hHeld => ?_)
  · (try dsimp only)
    (go_split_ands; exact MK.out _ (Below.trans (Hid.out (by assumption)) (hb1.mono (Hid.out (by assumption) : Below wb.heap.size wb _).size)))
  clear hK K
  try simp only [Act.put, List.getElem_toArray, List.getElem_cons_succ, List.getElem_cons_zero, List.setIfInBounds_toArray, List.set_cons_zero, List.set_cons_succ]
  refine wpAnyH_take (i := 6) (v := ?val6x14) rfl (by kernel_rfl) (by kernel_rfl) (by kernel_rfl) (fun _ _ _ h => h) (Or.inl ⟨by rfl, fun w9 hS9 => ?yields6x14⟩) (by assumption) ?later6x14
  case yields6x14 =>
    dsimp only at hS9
    go_simp
    try with_reducible rfl
  try simp only [Act.put, List.getElem_toArray, List.getElem_cons_succ, List.getElem_cons_zero, List.setIfInBounds_toArray, List.set_cons_zero, List.set_cons_succ]
  refine wpAnyH_take (i := 7) (v := ?val7x15) rfl (by kernel_rfl) (by kernel_rfl) (by kernel_rfl) (fun _ _ _ h => h) (Or.inl ⟨by rfl, fun w9 hS9 => ?yields7x15⟩) (by assumption) ?later7x15
  case yields7x15 =>
    dsimp only at hS9
    go_simp
    try with_reducible rfl
  try simp only [Act.put, List.getElem_toArray, List.getElem_cons_succ, List.getElem_cons_zero, List.setIfInBounds_toArray, List.set_cons_zero, List.set_cons_succ]
  refine wpAnyH_done (by kernel_rfl) ?_ _
  obtain ⟨-, -, -, -, -, -, HB⟩ := hHeld
  clear HBd MK
  go_wp2_with fail
  go_ret
  exact ⟨rfl, HW0.out.trans (HB.out.mono HW0.out.size)⟩
set_option linter.unusedSimpArgs false in
set_option maxHeartbeats 12800000 in
set_option maxRecDepth 100000 in
theorem xInClaim_any (l : List Thg) (A : Option Addr) (c : Nat) (a : GA) (k : Nat) (w : World) (h : ArrTh w A l c a) (hlt : k < l.length) :
    Calls Tryz.prog 159 #[.slice A l.length c, .int .i64 k, .func (.func 135) #[] #[]] w fun e w' => e = .returned (.int .i64 (thgAt l k)) ∧ Below w.heap.size w w' := by
  have b1 := h.le.1
  have b2 := h.le.2
  have HA := Lib.hid h
  have hkn : (k : Int) < (l.length : Int) := by omega
  obtain ⟨b, o, rfl, qq, mm⟩ := (h.keep (Keep.alloc w (.cells #[.func (.func 135) #[] #[]] 180))).at_ hlt
  obtain ⟨q0, q1, q2, q3⟩ := qq
  have z5 := cellNew w #[.func (.func 135) #[] #[]] 180 0
  have HW := Lib.hid ((Below.refl w.heap.size w).alloc (Nat.le_refl _) (.cells #[.func (.func 135) #[] #[]] 180))
  have MM := Lib.hid mm
  clear mm h
  go_enter Tryz.func159, Tryz.ntmps159
  go_upto_region 1 with fail
  generalize w.alloc _ = wb at *
  have HZ5 := Lib.hid z5
  go_cut [7] from 9 to 14 (fun s wx => ∃ g, s = .pointer (some ⟨g, 0, none⟩) ∧ Hid (OneAt wx g (.iface 125 (thgV (lThg l k) (a.p k) (a.pc k)))) ∧ Hid (Below wb.heap.size wb wx))
  case first =>
    have HBd : Hid (Below wb.heap.size wb wb.drew) := Lib.hid (Below.refl _ _).drew
    have MK : Hid (∀ w', Below wb.heap.size wb w' → w'.cell? ⟨w.heap.size, 0, none⟩ = some (.func (.func 135) #[] #[]) ∧ w'.cell? ⟨b, o + k * 4, none⟩ = some (.string (lThg l k).name) ∧ w'.cell? ⟨b, o + k * 4 + 1, none⟩ = some (.int .i64 (lThg l k).day) ∧ w'.cell? ⟨b, o + k * 4 + 2, none⟩ = some (.string (lThg l k).who) ∧ w'.cell? ⟨b, o + k * 4 + 3, none⟩ = some (.slice (a.p k) (lThg l k).marks.length (a.pc k)) ∧ Hid (Below wb.heap.size wb w')) :=
      Lib.hid fun w' hw => ⟨Keep.below hw _ _ z5, Keep.below hw _ _ q0, Keep.below hw _ _ q1, Keep.below hw _ _ q2, Keep.below hw _ _ q3, Lib.hid hw⟩
    refine wp_region_held_drew (S := fun w' => w'.cell? ⟨w.heap.size, 0, none⟩ = some (.func (.func 135) #[] #[]) ∧ w'.cell? ⟨b, o + k * 4, none⟩ = some (.string (lThg l k).name) ∧ w'.cell? ⟨b, o + k * 4 + 1, none⟩ = some (.int .i64 (lThg l k).day) ∧ w'.cell? ⟨b, o + k * 4 + 2, none⟩ = some (.string (lThg l k).who) ∧ w'.cell? ⟨b, o + k * 4 + 3, none⟩ = some (.slice (a.p k) (lThg l k).marks.length (a.pc k)) ∧ Hid (Below wb.heap.size wb w')) (by kernel_rfl) (MK.out _ HBd.out) (fun hHeld => ?_)
    refine wpAnyH_take (i := 0) (v := ?val0x16) rfl (by kernel_rfl) (by kernel_rfl) (by kernel_rfl) (fun _ _ _ h => h) (Or.inl ⟨by rfl, fun w9 hS9 => ?yields0x16⟩) (by assumption) ?later0x16
    case yields0x16 =>
      dsimp only at hS9
      go_simp
      try with_reducible rfl
    try simp only [Act.put, List.getElem_toArray, List.getElem_cons_succ, List.getElem_cons_zero, List.setIfInBounds_toArray, List.set_cons_zero, List.set_cons_succ]
    refine wpAnyH_take (i := 1) (v := ?val1x17) rfl (by kernel_rfl) (by kernel_rfl) (by kernel_rfl) (fun _ _ _ h => h) (Or.inl ⟨by rfl, fun w9 hS9 => ?yields1x17⟩) (by assumption) ?later1x17
    case yields1x17 =>
      dsimp only at hS9
      go_simp
      try with_reducible rfl
    try simp only [Act.put, List.getElem_toArray, List.getElem_cons_succ, List.getElem_cons_zero, List.setIfInBounds_toArray, List.set_cons_zero, List.set_cons_succ]
    refine wpAnyH_take (i := 2) (v := ?val2x18) rfl (by kernel_rfl) (by kernel_rfl) (by kernel_rfl) (fun _ _ _ h => h) (Or.inl ⟨by rfl, fun w9 hS9 => ?yields2x18⟩) (by assumption) ?later2x18
    case yields2x18 =>
      dsimp only at hS9
      go_simp
      try with_reducible rfl
    try simp only [Act.put, List.getElem_toArray, List.getElem_cons_succ, List.getElem_cons_zero, List.setIfInBounds_toArray, List.set_cons_zero, List.set_cons_succ]
    refine wpAnyH_take (i := 3) (v := ?val3x19) rfl (by kernel_rfl) (by kernel_rfl) (by kernel_rfl) (fun _ _ _ h => h) (Or.inl ⟨by rfl, fun w9 hS9 => ?yields3x19⟩) (by assumption) ?later3x19
    case yields3x19 =>
      dsimp only at hS9
      go_simp
      try with_reducible rfl
    try simp only [Act.put, List.getElem_toArray, List.getElem_cons_succ, List.getElem_cons_zero, List.setIfInBounds_toArray, List.set_cons_zero, List.set_cons_succ]
    refine wpAnyH_take (i := 4) (v := ?val4x20) rfl (by kernel_rfl) (by kernel_rfl) (by kernel_rfl) (fun _ _ _ h => h) (Or.inl ⟨by rfl, fun w9 hS9 => ?yields4x20⟩) (by assumption) ?later4x20
    case yields4x20 =>
      dsimp only at hS9
      go_simp
      try with_reducible rfl
    try simp only [Act.put, List.getElem_toArray, List.getElem_cons_succ, List.getElem_cons_zero, List.setIfInBounds_toArray, List.set_cons_zero, List.set_cons_succ]
    refine wpAnyH_ready (rs := [5, 6]) (by kernel_rfl) (by simp) ?_
    refine AllReadyH.cons rfl (fun K hK => ?_) (AllReadyH.cons rfl (fun K hK => ?_) AllReadyH.nil)
    · go_simp
      go_at_call 135
      go_split_ands
      refine (xThingOfClaim_any _ _ _ _).mono ?_
      rintro e' w5 ⟨rfl, hb1⟩
      have hsz := hb1.size
      go_wp2_with fail
      refine hK.out _ _ ?_ (fun hHeld => ?_)
      · (try dsimp only)
        (go_split_ands; exact MK.out _ (Below.trans (Hid.out (by assumption)) (hb1.mono (Hid.out (by assumption) : Below wb.heap.size wb _).size)))
      clear hK K
      try simp only [Act.put, List.getElem_toArray, List.getElem_cons_succ, List.getElem_cons_zero, List.setIfInBounds_toArray, List.set_cons_zero, List.set_cons_succ]
      have O9 := Lib.hid (OneAt.new w5 .nilIface 169)
      refine wpAnyH_ready (rs := [6]) (by kernel_rfl) (by simp) ?_
      refine AllReadyH.cons rfl (fun K hK => ?_) AllReadyH.nil
      go_simp
      refine hK.out _ _ ?_ (fun hHeld => ?_)
      · (try dsimp only)
        (go_split_ands; exact MK.out _ (Below.alloc (Hid.out (by assumption)) (Hid.out (by assumption) : Below wb.heap.size wb _).size _))
      clear hK K
      try simp only [Act.put, List.getElem_toArray, List.getElem_cons_succ, List.getElem_cons_zero, List.setIfInBounds_toArray, List.set_cons_zero, List.set_cons_succ]
      have c9 := O9.out.c0
      have f9 := O9.out.f0
      refine wpAnyH_ready (rs := [7]) (by kernel_rfl) (by simp) ?_
      refine AllReadyH.cons rfl (fun K hK => ?_) AllReadyH.nil
      go_simp
      refine hK.out _ _ ?_ (fun hHeld => ?_)
      · (try dsimp only)
        first
          | (go_split_ands; exact MK.out _ (Below.setCell (Hid.out (by assumption)) (by show wb.heap.size ≤ _; first | exact Nat.le_refl _ | exact hsz | omega) _))
          | (go_split_ands; exact MK.out _ (kbelow_realloc (Hid.out (by assumption)) hsz _))
      clear hK K
      try simp only [Act.put, List.getElem_toArray, List.getElem_cons_succ, List.getElem_cons_zero, List.setIfInBounds_toArray, List.set_cons_zero, List.set_cons_succ]
      refine wpAnyH_done (by kernel_rfl) ?_ _
      obtain ⟨-, -, -, -, -, HB⟩ := hHeld
      go_wp2_with fail
      go_meet
      first
        | exact ⟨_, rfl, Lib.hid (O9.out.set _), HB⟩
        | exact ⟨_, rfl, Lib.hid (O9.out.set _).drew, HB⟩
        | exact ⟨_, rfl, Lib.hid (O9.out.drew.set _), HB⟩
        | exact ⟨_, rfl, Lib.hid (OneAt.new _ _ _), HB⟩
        | exact ⟨_, rfl, Lib.hid (OneAt.new _ _ _).drew, HB⟩
    · go_simp
      refine hK.out _ _ ?_ (fun hHeld => ?_)
      · (try dsimp only)
        (go_split_ands; exact MK.out _ (Below.alloc (Hid.out (by assumption)) (Hid.out (by assumption) : Below wb.heap.size wb _).size _))
      clear hK K
      try simp only [Act.put, List.getElem_toArray, List.getElem_cons_succ, List.getElem_cons_zero, List.setIfInBounds_toArray, List.set_cons_zero, List.set_cons_succ]
      have O8 := Lib.hid (OneAt.new wb.drew .nilIface 169)
      refine wpAnyH_ready (rs := [5]) (by kernel_rfl) (by simp) ?_
      refine AllReadyH.cons rfl (fun K hK => ?_) AllReadyH.nil
      go_simp
      go_at_call 135
      go_split_ands
      refine (xThingOfClaim_any _ _ _ _).mono ?_
      rintro e' w5 ⟨rfl, hb1⟩
      have hsz := hb1.size
      go_wp2_with fail
      refine hK.out _ _ ?_ (fun hHeld => ?_)
      · (try dsimp only)
        (go_split_ands; exact MK.out _ (Below.trans (Hid.out (by assumption)) (hb1.mono (Hid.out (by assumption) : Below wb.heap.size wb _).size)))
      clear hK K
      try simp only [Act.put, List.getElem_toArray, List.getElem_cons_succ, List.getElem_cons_zero, List.setIfInBounds_toArray, List.set_cons_zero, List.set_cons_succ]
      have O9 := Lib.hid (O8.out.keep hb1)
      have c9 : w5.cell? ⟨wb.heap.size, 0, none⟩ = some .nilIface := O9.out.c0
      have f9 : w5.frozen? ⟨wb.heap.size, 0, none⟩ = false := O9.out.f0
      refine wpAnyH_ready (rs := [7]) (by kernel_rfl) (by simp) ?_
      refine AllReadyH.cons rfl (fun K hK => ?_) AllReadyH.nil
      go_simp
      refine hK.out _ _ ?_ (fun hHeld => ?_)
      · (try dsimp only)
        (go_split_ands; exact MK.out _ (Below.setCell (Hid.out (by assumption)) (by show wb.heap.size ≤ _; first | exact Nat.le_refl _ | exact hsz | omega) _))
      clear hK K
      try simp only [Act.put, List.getElem_toArray, List.getElem_cons_succ, List.getElem_cons_zero, List.setIfInBounds_toArray, List.set_cons_zero, List.set_cons_succ]
      refine wpAnyH_done (by kernel_rfl) ?_ _
      obtain ⟨-, -, -, -, -, HB⟩ := hHeld
      go_wp2_with fail
      go_meet
      first
        | exact ⟨_, rfl, Lib.hid (O9.out.set _), HB⟩
        | exact ⟨_, rfl, Lib.hid (O9.out.set _).drew, HB⟩
        | exact ⟨_, rfl, Lib.hid (O9.out.drew.set _), HB⟩
        | exact ⟨_, rfl, Lib.hid (OneAt.new _ _ _), HB⟩
        | exact ⟨_, rfl, Lib.hid (OneAt.new _ _ _).drew, HB⟩
  case rest =>
    obtain ⟨g7, rfl, O7, HC⟩ := hcut
    have HZ := Lib.hid (Keep.below HC.out _ _ HZ5.out)
    replace HW := Lib.hid (HW.out.trans (HC.out.mono HW.out.size))
    replace MM := Lib.hid (MM.out.keep (Keep.below HC.out))
    have z7 := O7.out.c0
    clear z5 q0 q1 q2 q3
    go_wp2_with fail
    refine (xThingClaim_any (lThg l k) _ _ ⟨_, _, rfl, MM.out⟩).mono ?_
    rintro e w1 ⟨rfl, hb1⟩
    replace HW := Lib.hid (HW.out.trans (hb1.mono HW.out.size))
    replace HZ := Lib.hid (Keep.below hb1 _ _ HZ.out)
    replace O7 := Lib.hid (O7.out.keep hb1)
    clear hb1 z7 MM
    by_cases he : thgErr (lThg l k) = 0
    · have HE := Lib.hid he
      rw [he]
      clear he
      have hk1 : decide ((k : Int) < 0) = false := decide_eq_false (by omega)
      have hkl : (k : Int) ≤ (l.length : Int) := by omega
      have hkc : (k : Int) ≤ (c : Int) := by omega
      have hF : Hid (∀ w', Below w1.heap.size w1 w' → ∀ i : Nat, i < (l.take k).length → Calls Tryz.prog 173 #[thgV (lThg (l.take k) i) (a.p i) (a.pc i), .pointer (some ⟨w.heap.size, 0, none⟩), .pointer (some ⟨g7, 0, none⟩)] w' fun e w'' => e = .returned (.bool ((lThg l i).name.toList == (lThg l k).name.toList)) ∧ Below w'.heap.size w' w'') := Lib.hid fun w' hb i hi => by
        have hik : i < k := by rw [List.length_take] at hi; omega
        have hle : lThg (l.take k) i = lThg l i := by unfold lThg; rw [List.getD_eq_getElem?_getD, List.getElem?_take, if_pos hik, ← List.getD_eq_getElem?_getD]
        rw [hle]
        exact xSameClaim_any (lThg l k) (lThg l i) _ _ _ _ _ _ w' (Keep.below hb _ _ HZ.out) (Keep.below hb _ _ O7.out.c0)
      have hlen : (l.take k).length = k := by rw [List.length_take]; omega
      have HT := Lib.hid (show ArrTh w1 (some ⟨b, o, none⟩) (l.take k) c a from (HA.out.keep (Keep.below HW.out)).take (by omega))
      have HHAS := Lib.hid (xHasClaim_any 173 (.pointer (some ⟨w.heap.size, 0, none⟩)) (.pointer (some ⟨g7, 0, none⟩)) (fun i => (lThg l i).name.toList == (lThg l k).name.toList) (l.take k) (some ⟨b, o, none⟩) c a w1 HT.out (fun args w => by kernel_rfl) hF.out)
      rw [hlen] at HHAS
      clear hF HT
      go_wp2_with fail
      refine HHAS.out.mono ?_
      rintro e w2 ⟨rfl, hb1⟩
      replace HW := Lib.hid (HW.out.trans (hb1.mono HW.out.size))
      clear hb1 HHAS
      rw [any_text]
      cases hx : hasText (fun j => (lThg l j).name) k (lThg l k).name with
      | false =>
        have F := Lib.hid (show thgAt l k = 0 by unfold thgAt; rw [if_neg (fun hh => hh HE.out), if_neg (by rw [hx]; decide)])
        clear hx
        go_wp2_with fail
        go_ret
        exact ⟨ret_int F.out.symm, HW.out⟩
      | true =>
        have F := Lib.hid (show thgAt l k = 5 by unfold thgAt; rw [if_neg (fun hh => hh HE.out), if_pos hx])
        clear hx
        go_wp2_with fail
        go_ret
        exact ⟨ret_int F.out.symm, HW.out⟩
    · have F := Lib.hid (show thgAt l k = thgErr (lThg l k) from if_pos he)
      have e2 : (thgErr (lThg l k) != 0) = true := by simpa using he
      have e3 : (thgErr (lThg l k) == 0) = false := by simpa using he
      clear he
      go_wp2_with fail
      go_ret
      exact ⟨ret_int F.out.symm, HW.out⟩
set_option linter.unusedSimpArgs false in
set_option maxHeartbeats 12800000 in
set_option maxRecDepth 100000 in
theorem xMatched1Claim_any (l : List Thg) (A : Option Addr) (c : Nat) (a : GA) (k g2 g3 : Nat) (w : World) (h : ArrTh w A l c a) (hlt : k < l.length) (h2 : w.cell? ⟨g2, 0, none⟩ = some (.slice A l.length c)) (h3 : w.cell? ⟨g3, 0, none⟩ = some (.func (.func 135) #[] #[])) :
    Calls Tryz.prog 158 #[.int .i64 k, .pointer (some ⟨g2, 0, none⟩), .pointer (some ⟨g3, 0, none⟩)] w fun e w' => e = .returned (.int .i64 (thgAt l k)) ∧ Below w.heap.size w w' := by
  go_enter Tryz.func158, Tryz.ntmps158
  go_wp2_with fail
  refine (xInClaim_any l A c a k _ h hlt).mono ?_
  rintro e w1 ⟨rfl, hb1⟩
  go_wp2_with fail
  go_ret
  exact ⟨rfl, hb1⟩
set_option linter.unusedSimpArgs false in
set_option maxHeartbeats 12800000 in
set_option maxRecDepth 100000 in
theorem xMatchedClaim_any (l : List Thg) (A : Option Addr) (c : Nat) (a : GA) (w : World) (h : ArrTh w A l c a) :
    Calls Tryz.prog 134 #[.slice A l.length c, .func (.func 135) #[] #[]] w fun e w' => e = .returned (.int .i64 (thgsErr l)) ∧ Below w.heap.size w w' := by
  have b1 := h.le.1
  have b2 := h.le.2
  have HA := Lib.hid (h.keep ((Keep.alloc w (.cells #[.slice A l.length c] 50)).trans (Keep.alloc _ (.cells #[.func (.func 135) #[] #[]] 180))))
  clear h
  have c0 := Keep.alloc (w.alloc (.cells #[.slice A l.length c] 50)) (.cells #[.func (.func 135) #[] #[]] 180) _ _ (cellNew w #[.slice A l.length c] 50 0)
  have c1 := cellNew1 w (.cells #[.slice A l.length c] 50) #[.func (.func 135) #[] #[]] 180 0
  have H0 := Lib.hid c0
  have H1 := Lib.hid c1
  have HW := Lib.hid (((Below.refl w.heap.size w).alloc (Nat.le_refl _) (.cells #[.slice A l.length c] 50)).alloc (by simp) (.cells #[.func (.func 135) #[] #[]] 180))
  go_enter Tryz.func134, Tryz.ntmps134
  go_wp2_with fail
  refine (xListGG_any 158 (.pointer (some ⟨w.heap.size, 0, none⟩)) (.pointer (some ⟨w.heap.size + 1, 0, none⟩)) l.length 12 (thgAt l) _ (by omega) (by omega) (fun args w => by kernel_rfl) (fun w' hb i hi => xMatched1Claim_any l A c a i _ _ w' (HA.out.keep (Keep.below hb)) hi (Keep.below hb _ _ H0.out) (Keep.below hb _ _ H1.out))).mono ?_
  rintro e w1 ⟨rfl, hb1⟩
  go_wp2_with fail
  go_ret
  exact ⟨rfl, HW.out.trans (hb1.mono HW.out.size)⟩
set_option linter.unusedSimpArgs false in
set_option maxHeartbeats 12800000 in
set_option maxRecDepth 100000 in
theorem xItemsErr_any (l : List Thg) (A : Option Addr) (c : Nat) (a : GA) (w : World) (h : ArrTh w A l c a) :
    Calls Tryz.prog 85 #[.slice A l.length c] w fun e w' => e = .returned (.int .i64 (thgsErr l)) ∧ Below w.heap.size w w' := by
  go_enter Tryz.func85, Tryz.ntmps85
  go_wp2_with fail
  refine (xMatchedItem_any l A c a _ h).mono ?_
  rintro e w1 ⟨rfl, hb1⟩
  go_wp2_with fail
  go_ret
  exact ⟨rfl, hb1⟩
set_option linter.unusedSimpArgs false in
set_option maxHeartbeats 12800000 in
set_option maxRecDepth 100000 in
theorem xBothErr_any (l d : List Thg) (A B : Option Addr) (c e : Nat) (a b : GA) (w : World) (h : ArrTh w A l c a) (h2 : ArrTh w B d e b) :
    Calls Tryz.prog 93 #[.slice A l.length c, .slice B d.length e] w fun x w' => x = .returned (.int .i64 (pairErr l d)) ∧ Below w.heap.size w w' := by
  have H2 := Lib.hid h2
  clear h2
  go_enter Tryz.func93, Tryz.ntmps93
  go_wp2_with fail
  refine (xItemsErr_any l A c a _ h).mono ?_
  rintro e1 w1 ⟨rfl, hb1⟩
  have HW := Lib.hid hb1
  clear hb1
  go_wp2_with fail
  refine (xMatchedClaim_any d B e b _ (H2.out.keep (Keep.below HW.out))).mono ?_
  rintro e2 w2 ⟨rfl, hb1⟩
  replace HW := Lib.hid (HW.out.trans (hb1.mono HW.out.size))
  clear hb1
  have HN := Lib.hid (gints2New w2 (thgsErr l) (thgsErr d) 30)
  have F := Lib.hid (show pairErr l d = fst (listI [thgsErr l, thgsErr d]) 2 by rw [gfst_two]; rfl)
  replace HW := Lib.hid (HW.out.alloc HW.out.size (.cells #[.int .i64 (thgsErr l), .int .i64 (thgsErr d)] 30))
  go_wp2_with fail
  refine (xFirst_any [thgsErr l, thgsErr d] _ _ _ HN.out).mono ?_
  rintro e wx ⟨rfl, rfl⟩
  go_wp2_with fail
  go_ret
  exact ⟨ret_int F.out.symm, HW.out⟩
end Go.Proofs.YtfjdnbnalihjiaaGreatDoor
