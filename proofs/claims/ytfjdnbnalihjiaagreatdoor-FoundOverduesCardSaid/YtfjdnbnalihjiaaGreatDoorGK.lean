/- What it means that a value in memory reads as items with their events. No condition. -/
import Derived.Test.YtfjdnbnalihjiaaGreatDoorGM
import Derived.Test.YtfjdnbnalihjiaaGreatDoorK11
import Derived.Test.YtfjdnbnalihjiaaGreatDoorK3
namespace Go.Proofs.YtfjdnbnalihjiaaGreatDoor
open Go.RowKit Fs

structure Kpt where
  it : Thg
  evs : List Evt
def Fs.kpt0 : Kpt := ⟨thg0, []⟩
def Fs.lKpt (l : List Kpt) (i : Nat) : Kpt := l.getD i kpt0
/-- The cells of an item (its marks at p) and its events (at q). -/
def kptCells (x : Kpt) (p : Option Addr) (pc : Nat) (q : Option Addr) (qc : Nat) : Nat → Value
  | 0 => .string x.it.name
  | 1 => .int .i64 x.it.day
  | 2 => .string x.it.who
  | 3 => .slice p x.it.marks.length pc
  | _ => .slice q x.evs.length qc
/-- Where the marks and the events of all items lie, and their capacities. -/
structure KA where
  p : Nat → Option Addr
  pc : Nat → Nat
  q : Nat → Option Addr
  qc : Nat → Nat
def ArrKp (w : World) (A : Option Addr) (l : List Kpt) (c : Nat) (a : KA) : Prop :=
  Arr w A l.length c 5 (fun i j => kptCells (lKpt l i) (a.p i) (a.pc i) (a.q i) (a.qc i) j) ∧ ∀ i, i < l.length → ArrMk w (a.p i) (lKpt l i).it.marks (a.pc i) ∧ ArrEv w (a.q i) (lKpt l i).evs (a.qc i)
theorem ArrKp.keep {w w' : World} (k : Keep w w') {A : Option Addr} {l : List Kpt} {c : Nat} {a : KA} (h : ArrKp w A l c a) : ArrKp w' A l c a :=
  ⟨Arr.keep k h.1, fun i hi => ⟨(h.2 i hi).1.keep k, (h.2 i hi).2.keep k⟩⟩
theorem ArrKp.le {w : World} {A : Option Addr} {l : List Kpt} {c : Nat} {a : KA} (h : ArrKp w A l c a) : l.length ≤ c ∧ c ≤ 9223372036854775807 := ⟨h.1.1, h.1.2.1⟩
/-- The five cells of an item with its events. -/
structure KptAt (w : World) (b o : Nat) (x : Kpt) (p : Option Addr) (pc : Nat) (q : Option Addr) (qc : Nat) : Prop where
  c0 : w.cell? ⟨b, o, none⟩ = some (.string x.it.name)
  c1 : w.cell? ⟨b, o + 1, none⟩ = some (.int .i64 x.it.day)
  c2 : w.cell? ⟨b, o + 2, none⟩ = some (.string x.it.who)
  c3 : w.cell? ⟨b, o + 3, none⟩ = some (.slice p x.it.marks.length pc)
  c4 : w.cell? ⟨b, o + 4, none⟩ = some (.slice q x.evs.length qc)
theorem KptAt.keep {w w' : World} (k : Keep w w') {b o : Nat} {x : Kpt} {p q : Option Addr} {pc qc : Nat} (m : KptAt w b o x p pc q qc) : KptAt w' b o x p pc q qc := ⟨k _ _ m.c0, k _ _ m.c1, k _ _ m.c2, k _ _ m.c3, k _ _ m.c4⟩
theorem ArrKp.at_ {w : World} {A : Option Addr} {l : List Kpt} {c : Nat} {a : KA} (h : ArrKp w A l c a) {k : Nat} (hk : k < l.length) :
    ∃ b o, A = some ⟨b, o, none⟩ ∧ KptAt w b (o + k * 5) (lKpt l k) (a.p k) (a.pc k) (a.q k) (a.qc k) ∧ ArrMk w (a.p k) (lKpt l k).it.marks (a.pc k) ∧ ArrEv w (a.q k) (lKpt l k).evs (a.qc k) := by
  obtain ⟨b, o, e, hc⟩ := h.1.at_ hk
  exact ⟨b, o, e, ⟨hc 0 (by omega), hc 1 (by omega), hc 2 (by omega), hc 3 (by omega), hc 4 (by omega)⟩, h.2 k hk⟩
/-- One item with its events, in a row of its own. -/
theorem ArrKp.one (w : World) (x : Kpt) (p q : Option Addr) (pc qc : Nat) (t : TypeId) (m : ArrMk w p x.it.marks pc) (n : ArrEv w q x.evs qc) :
    ArrKp (w.alloc (.cells #[.string x.it.name, .int .i64 x.it.day, .string x.it.who, .slice p x.it.marks.length pc, .slice q x.evs.length qc] t)) (some ⟨w.heap.size, 0, none⟩) [x] 1 ⟨fun _ => p, fun _ => pc, fun _ => q, fun _ => qc⟩ := by
  refine ⟨⟨Nat.le_refl _, by show (1 : Nat) ≤ _; omega, fun _ => ⟨w.heap.size, 0, rfl, fun i j hi hj => ?_⟩⟩, fun i hi => ?_⟩
  · obtain rfl : i = 0 := by simpa using hi
    match j, hj with
    | 0, _ => exact cellNew _ _ _ 0
    | 1, _ => exact cellNew _ _ _ 1
    | 2, _ => exact cellNew _ _ _ 2
    | 3, _ => exact cellNew _ _ _ 3
    | 4, _ => exact cellNew _ _ _ 4
  · obtain rfl : i = 0 := by simpa using hi
    exact ⟨m.keep (Keep.alloc _ _), n.keep (Keep.alloc _ _)⟩
end Go.Proofs.YtfjdnbnalihjiaaGreatDoor
/- A list of items with their events: the error of an item's name in it. No condition. -/
namespace Go.Proofs.YtfjdnbnalihjiaaGreatDoor
open Go.RowKit Fs

abbrev keptV (x : Kpt) (p : Option Addr) (pc : Nat) (q : Option Addr) (qc : Nat) : Value := .agg #[.string x.it.name, .int .i64 x.it.day, .string x.it.who, .slice p x.it.marks.length pc, .slice q x.evs.length qc]
theorem ArrKp.take {w : World} {A : Option Addr} {l : List Kpt} {c : Nat} {a : KA} (h : ArrKp w A l c a) {k : Nat} (hk : k ≤ l.length) : ArrKp w A (l.take k) c a := by
  have hlen : (l.take k).length = k := by rw [List.length_take]; omega
  have hle : ∀ i, i < k → lKpt (l.take k) i = lKpt l i := fun i hi => by unfold lKpt; rw [List.getD_eq_getElem?_getD, List.getElem?_take, if_pos hi, ← List.getD_eq_getElem?_getD]
  obtain ⟨⟨h1, h2, h3⟩, hm⟩ := h
  refine ⟨⟨by omega, h2, fun hp => ?_⟩, fun i hi => ?_⟩
  · obtain ⟨b, o, e, hc⟩ := h3 (by omega)
    exact ⟨b, o, e, fun i j hi hj => by
      show _ = some (kptCells (lKpt (l.take k) i) (a.p i) (a.pc i) (a.q i) (a.qc i) j)
      rw [hle i (by omega)]; exact hc i j (by omega) hj⟩
  · rw [hle i (by omega)]; exact hm i (by omega)
theorem Fs.any_ktext (l : List Kpt) (n : Nat) (s : ByteArray) : anyTo (fun i => (lKpt l i).it.name.toList == s.toList) n = hasText (fun j => (lKpt l j).it.name) n s := by
  cases h : hasText (fun j => (lKpt l j).it.name) n s with
  | false =>
    refine anyTo_false fun k hk => ?_
    have hne : (lKpt l k).it.name ≠ s := fun e => by rw [hasText_yes (f := fun j => (lKpt l j).it.name) hk e] at h; cases h
    exact str_ne hne
  | true =>
    apply anyTo_iff.2
    apply Classical.byContradiction
    intro hn
    rw [hasText_no fun j hj e => hn ⟨j, hj, str_eq e⟩] at h
    cases h
/-- The error of an item by itself and by its name. -/
def Fs.kptAt (l : List Kpt) (i : Nat) : Int := if thgErr (lKpt l i).it ≠ 0 then thgErr (lKpt l i).it else if hasText (fun j => (lKpt l j).it.name) i (lKpt l i).it.name = true then 5 else 0
set_option linter.unusedSimpArgs false in
set_option maxHeartbeats 12800000 in
set_option maxRecDepth 100000 in
theorem xIndexKept_any (K : Nat) (p5 : Value) (p7 : Value) (g : Nat → Bool) (l : List Kpt) (A : Option Addr) (c : Nat) (a : KA) (w : World) (h : ArrKp w A l c a) (hcall : ∀ (args : Array Value) (w : World), (callFunc K args).run Tryz.prog w = .ok (.enter K args) w)
    (hf : ∀ w', Below w.heap.size w w' → ∀ i : Nat, i < l.length → Calls Tryz.prog K #[keptV (lKpt l i) (a.p i) (a.pc i) (a.q i) (a.qc i), p5, p7] w' fun e w'' => e = .returned (.bool (g i)) ∧ Below w'.heap.size w' w'') :
    Calls Tryz.prog 166 #[.slice A l.length c, .func (.func K) #[] #[p5, p7]] w fun e w' => e = .returned (.int .i64 (posTo g l.length)) ∧ Below w.heap.size w w' := by
  have b1 := h.le.1
  have b2 := h.le.2
  have HA := Lib.hid h
  have HCALL := Lib.hid hcall
  have HF := Lib.hid hf
  clear hcall hf h
  obtain ⟨n, hn⟩ : ∃ n, n = l.length := ⟨_, rfl⟩
  rw [← hn] at b1 ⊢
  have HN := Lib.hid hn
  clear hn
  go_enter Tryz.func166, Tryz.ntmps166
  go_wp2_with fail
  go_loopw [8] (fun i wr => ∃ k : Nat, k ≤ n ∧ i = .int .i64 k ∧ Hid (∀ j, j < k → g j = false) ∧ Hid (Below w.heap.size w wr)) (fun i _ => n - (intOf i).toNat)
  case atStart => exact ⟨0, Nat.zero_le _, rfl, Lib.hid fun j hj => absurd hj (Nat.not_lt_zero _), Lib.hid (Below.refl _ _)⟩
  case round =>
    obtain ⟨k, hk, rfl, Hn, HB⟩ := hrel
    by_cases hlt : k < n
    · have hkn : (k : Int) < (n : Int) := by omega
      have hkl : k < l.length := by rw [← HN.out]; exact hlt
      have HC := Lib.hid (HF.out wr HB.out k hkl)
      have hcall := HCALL.out
      obtain ⟨b, o, rfl, ⟨q0, q1, q2, q3, q4⟩, -, -⟩ := (HA.out.keep (Keep.below HB.out)).at_ hkl
      clear hkl
      cases he : g k with
      | false =>
        have HE := Lib.hid he
        have HN2 : Hid (∀ j, j < k + 1 → g j = false) := Lib.hid fun j hj => by
          by_cases e : j = k
          · subst e; exact HE.out
          · exact Hn.out j (by omega)
        clear he
        go_wp2_with fail
        refine HC.out.mono ?_
        rintro e w2 ⟨rfl, hb2⟩
        rw [HE.out]
        go_wp2_with fail
        go_roundw
        case rel => exact ⟨k + 1, by omega, by go_num, HN2, Lib.hid (HB.out.trans (hb2.mono HB.out.size))⟩
        case measure => simp [intOf]; omega
      | true =>
        have HE := Lib.hid he
        have F1 := Lib.hid (posTo_hit hlt Hn.out he)
        clear he
        go_wp2_with fail
        refine HC.out.mono ?_
        rintro e w2 ⟨rfl, hb2⟩
        rw [HE.out]
        go_wp2_with fail
        go_ret
        exact ⟨ret_int F1.out.symm, HB.out.trans (hb2.mono HB.out.size)⟩
    · have F1 := Lib.hid (posTo_none (n := n) fun j hj => Hn.out j (by omega))
      go_wp2_with fail
      go_ret
      exact ⟨ret_int F1.out.symm, HB.out⟩
set_option linter.unusedSimpArgs false in
set_option maxHeartbeats 12800000 in
set_option maxRecDepth 100000 in
theorem xHasKept_any (K : Nat) (p5 : Value) (p7 : Value) (g : Nat → Bool) (l : List Kpt) (A : Option Addr) (c : Nat) (a : KA) (w : World) (h : ArrKp w A l c a) (hcall : ∀ (args : Array Value) (w : World), (callFunc K args).run Tryz.prog w = .ok (.enter K args) w)
    (hf : ∀ w', Below w.heap.size w w' → ∀ i : Nat, i < l.length → Calls Tryz.prog K #[keptV (lKpt l i) (a.p i) (a.pc i) (a.q i) (a.qc i), p5, p7] w' fun e w'' => e = .returned (.bool (g i)) ∧ Below w'.heap.size w' w'') :
    Calls Tryz.prog 146 #[.slice A l.length c, .func (.func K) #[] #[p5, p7]] w fun e w' => e = .returned (.bool (anyTo g l.length)) ∧ Below w.heap.size w w' := by
  go_enter Tryz.func146, Tryz.ntmps146
  go_wp2_with fail
  refine (xIndexKept_any K p5 p7 g l A c a _ h hcall hf).mono ?_
  rintro e w1 ⟨rfl, hb1⟩
  go_wp2_with fail
  go_ret
  exact ⟨rfl, hb1⟩
set_option linter.unusedSimpArgs false in
set_option maxHeartbeats 12800000 in
set_option maxRecDepth 100000 in
theorem xThingOfKept_any (x : Kpt) (p q : Option Addr) (pc qc : Nat) (w : World) : Calls Tryz.prog 119 #[keptV x p pc q qc] w fun e w' => e = .returned (.iface 123 (thgV x.it p pc)) ∧ Below w.heap.size w w' := by
  have q0 := cellNew w #[.string x.it.name, .int .i64 x.it.day, .string x.it.who, .slice p x.it.marks.length pc, .slice q x.evs.length qc] 100 0
  have q1 := cellNew w #[.string x.it.name, .int .i64 x.it.day, .string x.it.who, .slice p x.it.marks.length pc, .slice q x.evs.length qc] 100 1
  have q2 := cellNew w #[.string x.it.name, .int .i64 x.it.day, .string x.it.who, .slice p x.it.marks.length pc, .slice q x.evs.length qc] 100 2
  have q3 := cellNew w #[.string x.it.name, .int .i64 x.it.day, .string x.it.who, .slice p x.it.marks.length pc, .slice q x.evs.length qc] 100 3
  go_enter Tryz.func119, Tryz.ntmps119
  go_wp2_with fail
  go_ret
  exact ⟨rfl, (Below.refl _ _).alloc (Nat.le_refl _) _⟩
set_option linter.unusedSimpArgs false in
set_option maxHeartbeats 12800000 in
set_option maxRecDepth 100000 in
theorem xSameKept_any (x : Thg) (y : Kpt) (p q e : Option Addr) (pc qc ec g5 g7 : Nat) (w : World) (h5 : w.cell? ⟨g5, 0, none⟩ = some (.func (.func 119) #[] #[])) (h7 : w.cell? ⟨g7, 0, none⟩ = some (.iface 123 (thgV x q qc))) :
    Calls Tryz.prog 147 #[keptV y p pc e ec, .pointer (some ⟨g5, 0, none⟩), .pointer (some ⟨g7, 0, none⟩)] w fun r w' => r = .returned (.bool (y.it.name.toList == x.name.toList)) ∧ Below w.heap.size w w' := by
  have z5 := Keep.alloc w (.cells #[.string y.it.name, .int .i64 y.it.day, .string y.it.who, .slice p y.it.marks.length pc, .slice e y.evs.length ec] 100) _ _ h5
  have z7 := Keep.alloc w (.cells #[.string y.it.name, .int .i64 y.it.day, .string y.it.who, .slice p y.it.marks.length pc, .slice e y.evs.length ec] 100) _ _ h7
  have q0 := cellNew w #[.string y.it.name, .int .i64 y.it.day, .string y.it.who, .slice p y.it.marks.length pc, .slice e y.evs.length ec] 100 0
  have q1 := cellNew w #[.string y.it.name, .int .i64 y.it.day, .string y.it.who, .slice p y.it.marks.length pc, .slice e y.evs.length ec] 100 1
  have q2 := cellNew w #[.string y.it.name, .int .i64 y.it.day, .string y.it.who, .slice p y.it.marks.length pc, .slice e y.evs.length ec] 100 2
  have q3 := cellNew w #[.string y.it.name, .int .i64 y.it.day, .string y.it.who, .slice p y.it.marks.length pc, .slice e y.evs.length ec] 100 3
  have q4 := cellNew w #[.string y.it.name, .int .i64 y.it.day, .string y.it.who, .slice p y.it.marks.length pc, .slice e y.evs.length ec] 100 4
  have HW0 := Lib.hid ((Below.refl w.heap.size w).alloc (Nat.le_refl _) (.cells #[.string y.it.name, .int .i64 y.it.day, .string y.it.who, .slice p y.it.marks.length pc, .slice e y.evs.length ec] 100))
  clear h5 h7
  go_enter Tryz.func147, Tryz.ntmps147
  go_upto_region 1 with fail
  generalize w.alloc _ = wb at *
  go_wp2_with fail
  have HBd : Hid (Below wb.heap.size wb wb.drew) := Lib.hid (Below.refl _ _).drew
  have MK : Hid (∀ w', Below wb.heap.size wb w' → w'.cell? ⟨g5, 0, none⟩ = some (.func (.func 119) #[] #[]) ∧ w'.cell? ⟨g7, 0, none⟩ = some (.iface 123 (thgV x q qc)) ∧ w'.cell? ⟨w.heap.size, 0, none⟩ = some (.string y.it.name) ∧ w'.cell? ⟨w.heap.size, 1, none⟩ = some (.int .i64 y.it.day) ∧ w'.cell? ⟨w.heap.size, 2, none⟩ = some (.string y.it.who) ∧ w'.cell? ⟨w.heap.size, 3, none⟩ = some (.slice p y.it.marks.length pc) ∧ w'.cell? ⟨w.heap.size, 4, none⟩ = some (.slice e y.evs.length ec) ∧ Hid (Below wb.heap.size wb w')) :=
    Lib.hid fun w' hw => ⟨Keep.below hw _ _ z5, Keep.below hw _ _ z7, Keep.below hw _ _ q0, Keep.below hw _ _ q1, Keep.below hw _ _ q2, Keep.below hw _ _ q3, Keep.below hw _ _ q4, Lib.hid hw⟩
  refine wp_region_held_drew (S := fun w' => w'.cell? ⟨g5, 0, none⟩ = some (.func (.func 119) #[] #[]) ∧ w'.cell? ⟨g7, 0, none⟩ = some (.iface 123 (thgV x q qc)) ∧ w'.cell? ⟨w.heap.size, 0, none⟩ = some (.string y.it.name) ∧ w'.cell? ⟨w.heap.size, 1, none⟩ = some (.int .i64 y.it.day) ∧ w'.cell? ⟨w.heap.size, 2, none⟩ = some (.string y.it.who) ∧ w'.cell? ⟨w.heap.size, 3, none⟩ = some (.slice p y.it.marks.length pc) ∧ w'.cell? ⟨w.heap.size, 4, none⟩ = some (.slice e y.evs.length ec) ∧ Hid (Below wb.heap.size wb w')) (by kernel_rfl) (MK.out _ HBd.out) (fun hHeld => ?_)
  refine wpAnyH_take (i := 0) (v := ?val0x1) rfl (by kernel_rfl) (by kernel_rfl) (by kernel_rfl) (fun _ _ _ h => h) (Or.inl ⟨by rfl, fun w9 hS9 => ?yields0x1⟩) (by assumption) ?later0x1
  case yields0x1 =>
    dsimp only at hS9
    go_simp
    try with_reducible rfl
  try simp only [Act.put, List.getElem_toArray, List.getElem_cons_succ, List.getElem_cons_zero, List.setIfInBounds_toArray, List.set_cons_zero, List.set_cons_succ]
  refine wpAnyH_take (i := 1) (v := ?val1x2) rfl (by kernel_rfl) (by kernel_rfl) (by kernel_rfl) (fun _ _ _ h => h) (Or.inl ⟨by rfl, fun w9 hS9 => ?yields1x2⟩) (by assumption) ?later1x2
  case yields1x2 =>
    dsimp only at hS9
    go_simp
    try with_reducible rfl
  try simp only [Act.put, List.getElem_toArray, List.getElem_cons_succ, List.getElem_cons_zero, List.setIfInBounds_toArray, List.set_cons_zero, List.set_cons_succ]
  refine wpAnyH_take (i := 4) (v := ?val4x3) rfl (by kernel_rfl) (by kernel_rfl) (by kernel_rfl) (fun _ _ _ h => h) (Or.inl ⟨by rfl, fun w9 hS9 => ?yields4x3⟩) (by assumption) ?later4x3
  case yields4x3 =>
    dsimp only at hS9
    go_simp
    try with_reducible rfl
  try simp only [Act.put, List.getElem_toArray, List.getElem_cons_succ, List.getElem_cons_zero, List.setIfInBounds_toArray, List.set_cons_zero, List.set_cons_succ]
  refine wpAnyH_ready (rs := [2]) (by kernel_rfl) (by simp) ?_
  refine AllReadyH.cons rfl (fun K hK => ?_) AllReadyH.nil
  go_simp
  go_at_call 119
  go_split_ands
  refine (xThingOfKept_any y p e pc ec _).mono ?_
  rintro e' w5 ⟨rfl, hb1⟩
  go_wp2_with fail
  refine hK.out _ _ ?_ (fun hHeld => ?_)
  · (try dsimp only)
    (go_split_ands; exact MK.out _ (Below.trans (Hid.out (by assumption)) (hb1.mono (Hid.out (by assumption) : Below wb.heap.size wb _).size)))
  clear hK K
  try simp only [Act.put, List.getElem_toArray, List.getElem_cons_succ, List.getElem_cons_zero, List.setIfInBounds_toArray, List.set_cons_zero, List.set_cons_succ]
  refine wpAnyH_ready (rs := [3]) (by kernel_rfl) (by simp) ?_
  refine AllReadyH.cons rfl (fun K hK => ?_) AllReadyH.nil
  go_simp
  rw [mNameItem]
  try dsimp only [Result.andThen]
  try go_simp
  go_at_call 234
  go_split_ands
  refine (xItemname_any y.it p pc _).mono ?_
  rintro e' w6 ⟨rfl, hb1⟩
  go_wp2_with fail
  refine hK.out _ _ ?_ (fun hHeld => ?_)
  · (try dsimp only)
    (go_split_ands; exact MK.out _ (Below.trans (Hid.out (by assumption)) (hb1.mono (Hid.out (by assumption) : Below wb.heap.size wb _).size)))
  clear hK K
  try simp only [Act.put, List.getElem_toArray, List.getElem_cons_succ, List.getElem_cons_zero, List.setIfInBounds_toArray, List.set_cons_zero, List.set_cons_succ]
  refine wpAnyH_ready (rs := [5]) (by kernel_rfl) (by simp) ?_
  refine AllReadyH.cons rfl (fun K hK => ?_) AllReadyH.nil
  go_simp
  rw [mNameItem]
  try dsimp only [Result.andThen]
  try go_simp
  go_at_call 234
  go_split_ands
  refine (xItemname_any x q qc _).mono ?_
  rintro e' w7 ⟨rfl, hb1⟩
  go_wp2_with fail
  refine hK.out _ _ ?_ (fun hHeld => ?_)
  · (try dsimp only)
    (go_split_ands; exact MK.out _ (Below.trans (Hid.out (by assumption)) (hb1.mono (Hid.out (by assumption) : Below wb.heap.size wb _).size)))
  clear hK K
  try simp only [Act.put, List.getElem_toArray, List.getElem_cons_succ, List.getElem_cons_zero, List.setIfInBounds_toArray, List.set_cons_zero, List.set_cons_succ]
  refine wpAnyH_take (i := 6) (v := ?val6x4) rfl (by kernel_rfl) (by kernel_rfl) (by kernel_rfl) (fun _ _ _ h => h) (Or.inl ⟨by rfl, fun w9 hS9 => ?yields6x4⟩) (by assumption) ?later6x4
  case yields6x4 =>
    dsimp only at hS9
    go_simp
    try with_reducible rfl
  try simp only [Act.put, List.getElem_toArray, List.getElem_cons_succ, List.getElem_cons_zero, List.setIfInBounds_toArray, List.set_cons_zero, List.set_cons_succ]
  refine wpAnyH_take (i := 7) (v := ?val7x5) rfl (by kernel_rfl) (by kernel_rfl) (by kernel_rfl) (fun _ _ _ h => h) (Or.inl ⟨by rfl, fun w9 hS9 => ?yields7x5⟩) (by assumption) ?later7x5
  case yields7x5 =>
    dsimp only at hS9
    go_simp
    try with_reducible rfl
  try simp only [Act.put, List.getElem_toArray, List.getElem_cons_succ, List.getElem_cons_zero, List.setIfInBounds_toArray, List.set_cons_zero, List.set_cons_succ]
  refine wpAnyH_done (by kernel_rfl) ?_ _
  obtain ⟨-, -, -, -, -, -, -, HB⟩ := hHeld
  clear HBd MK
  go_wp2_with fail
  go_ret
  exact ⟨rfl, HW0.out.trans (HB.out.mono HW0.out.size)⟩
set_option linter.unusedSimpArgs false in
set_option maxHeartbeats 12800000 in
set_option maxRecDepth 100000 in
theorem xInKept_any (l : List Kpt) (A : Option Addr) (c : Nat) (a : KA) (k : Nat) (w : World) (h : ArrKp w A l c a) (hlt : k < l.length) :
    Calls Tryz.prog 118 #[.slice A l.length c, .int .i64 k, .func (.func 119) #[] #[]] w fun e w' => e = .returned (.int .i64 (kptAt l k)) ∧ Below w.heap.size w w' := by
  have b1 := h.le.1
  have b2 := h.le.2
  have HA := Lib.hid h
  have hkn : (k : Int) < (l.length : Int) := by omega
  obtain ⟨b, o, rfl, qq, mm, -⟩ := (h.keep (Keep.alloc w (.cells #[.func (.func 119) #[] #[]] 161))).at_ hlt
  obtain ⟨q0, q1, q2, q3, q4⟩ := qq
  have z5 := cellNew w #[.func (.func 119) #[] #[]] 161 0
  have HW := Lib.hid ((Below.refl w.heap.size w).alloc (Nat.le_refl _) (.cells #[.func (.func 119) #[] #[]] 161))
  have MM := Lib.hid mm
  clear mm h
  go_enter Tryz.func118, Tryz.ntmps118
  go_upto_region 1 with fail
  generalize w.alloc _ = wb at *
  have HZ5 := Lib.hid z5
  go_cut [7] from 9 to 14 (fun s wx => ∃ g, s = .pointer (some ⟨g, 0, none⟩) ∧ Hid (OneAt wx g (.iface 123 (thgV (lKpt l k).it (a.p k) (a.pc k)))) ∧ Hid (Below wb.heap.size wb wx))
  case first =>
    have HBd : Hid (Below wb.heap.size wb wb.drew) := Lib.hid (Below.refl _ _).drew
    have MK : Hid (∀ w', Below wb.heap.size wb w' → w'.cell? ⟨w.heap.size, 0, none⟩ = some (.func (.func 119) #[] #[]) ∧ w'.cell? ⟨b, o + k * 5, none⟩ = some (.string (lKpt l k).it.name) ∧ w'.cell? ⟨b, o + k * 5 + 1, none⟩ = some (.int .i64 (lKpt l k).it.day) ∧ w'.cell? ⟨b, o + k * 5 + 2, none⟩ = some (.string (lKpt l k).it.who) ∧ w'.cell? ⟨b, o + k * 5 + 3, none⟩ = some (.slice (a.p k) (lKpt l k).it.marks.length (a.pc k)) ∧ w'.cell? ⟨b, o + k * 5 + 4, none⟩ = some (.slice (a.q k) (lKpt l k).evs.length (a.qc k)) ∧ Hid (Below wb.heap.size wb w')) :=
      Lib.hid fun w' hw => ⟨Keep.below hw _ _ z5, Keep.below hw _ _ q0, Keep.below hw _ _ q1, Keep.below hw _ _ q2, Keep.below hw _ _ q3, Keep.below hw _ _ q4, Lib.hid hw⟩
    refine wp_region_held_drew (S := fun w' => w'.cell? ⟨w.heap.size, 0, none⟩ = some (.func (.func 119) #[] #[]) ∧ w'.cell? ⟨b, o + k * 5, none⟩ = some (.string (lKpt l k).it.name) ∧ w'.cell? ⟨b, o + k * 5 + 1, none⟩ = some (.int .i64 (lKpt l k).it.day) ∧ w'.cell? ⟨b, o + k * 5 + 2, none⟩ = some (.string (lKpt l k).it.who) ∧ w'.cell? ⟨b, o + k * 5 + 3, none⟩ = some (.slice (a.p k) (lKpt l k).it.marks.length (a.pc k)) ∧ w'.cell? ⟨b, o + k * 5 + 4, none⟩ = some (.slice (a.q k) (lKpt l k).evs.length (a.qc k)) ∧ Hid (Below wb.heap.size wb w')) (by kernel_rfl) (MK.out _ HBd.out) (fun hHeld => ?_)
    refine wpAnyH_take (i := 0) (v := ?val0x6) rfl (by kernel_rfl) (by kernel_rfl) (by kernel_rfl) (fun _ _ _ h => h) (Or.inl ⟨by rfl, fun w9 hS9 => ?yields0x6⟩) (by assumption) ?later0x6
    case yields0x6 =>
      dsimp only at hS9
      go_simp
      try with_reducible rfl
    try simp only [Act.put, List.getElem_toArray, List.getElem_cons_succ, List.getElem_cons_zero, List.setIfInBounds_toArray, List.set_cons_zero, List.set_cons_succ]
    refine wpAnyH_take (i := 1) (v := ?val1x7) rfl (by kernel_rfl) (by kernel_rfl) (by kernel_rfl) (fun _ _ _ h => h) (Or.inl ⟨by rfl, fun w9 hS9 => ?yields1x7⟩) (by assumption) ?later1x7
    case yields1x7 =>
      dsimp only at hS9
      go_simp
      try with_reducible rfl
    try simp only [Act.put, List.getElem_toArray, List.getElem_cons_succ, List.getElem_cons_zero, List.setIfInBounds_toArray, List.set_cons_zero, List.set_cons_succ]
    refine wpAnyH_take (i := 2) (v := ?val2x8) rfl (by kernel_rfl) (by kernel_rfl) (by kernel_rfl) (fun _ _ _ h => h) (Or.inl ⟨by rfl, fun w9 hS9 => ?yields2x8⟩) (by assumption) ?later2x8
    case yields2x8 =>
      dsimp only at hS9
      go_simp
      try with_reducible rfl
    try simp only [Act.put, List.getElem_toArray, List.getElem_cons_succ, List.getElem_cons_zero, List.setIfInBounds_toArray, List.set_cons_zero, List.set_cons_succ]
    refine wpAnyH_take (i := 3) (v := ?val3x9) rfl (by kernel_rfl) (by kernel_rfl) (by kernel_rfl) (fun _ _ _ h => h) (Or.inl ⟨by rfl, fun w9 hS9 => ?yields3x9⟩) (by assumption) ?later3x9
    case yields3x9 =>
      dsimp only at hS9
      go_simp
      try with_reducible rfl
    try simp only [Act.put, List.getElem_toArray, List.getElem_cons_succ, List.getElem_cons_zero, List.setIfInBounds_toArray, List.set_cons_zero, List.set_cons_succ]
    refine wpAnyH_take (i := 4) (v := ?val4x10) rfl (by kernel_rfl) (by kernel_rfl) (by kernel_rfl) (fun _ _ _ h => h) (Or.inl ⟨by rfl, fun w9 hS9 => ?yields4x10⟩) (by assumption) ?later4x10
    case yields4x10 =>
      dsimp only at hS9
      go_simp
      try with_reducible rfl
    try simp only [Act.put, List.getElem_toArray, List.getElem_cons_succ, List.getElem_cons_zero, List.setIfInBounds_toArray, List.set_cons_zero, List.set_cons_succ]
    refine wpAnyH_ready (rs := [5, 6]) (by kernel_rfl) (by simp) ?_
    refine AllReadyH.cons rfl (fun K hK => ?_) (AllReadyH.cons rfl (fun K hK => ?_) AllReadyH.nil)
    · go_simp
      go_at_call 119
      go_split_ands
      refine (xThingOfKept_any _ _ _ _ _ _).mono ?_
      rintro e' w5 ⟨rfl, hb1⟩
      have hsz := hb1.size
      go_wp2_with fail
      refine hK.out _ _ ?_ (fun hHeld => ?_)
      · (try dsimp only)
        (go_split_ands; exact MK.out _ (Below.trans (Hid.out (by assumption)) (hb1.mono (Hid.out (by assumption) : Below wb.heap.size wb _).size)))
      clear hK K
      try simp only [Act.put, List.getElem_toArray, List.getElem_cons_succ, List.getElem_cons_zero, List.setIfInBounds_toArray, List.set_cons_zero, List.set_cons_succ]
      have O9 := Lib.hid (OneAt.new w5 .nilIface 169)
      refine wpAnyH_ready (rs := [6]) (by kernel_rfl) (by simp) ?_
      refine AllReadyH.cons rfl (fun K hK => ?_) AllReadyH.nil
      go_simp
      refine hK.out _ _ ?_ (fun hHeld => ?_)
      · (try dsimp only)
        (go_split_ands; exact MK.out _ (Below.alloc (Hid.out (by assumption)) (Hid.out (by assumption) : Below wb.heap.size wb _).size _))
      clear hK K
      try simp only [Act.put, List.getElem_toArray, List.getElem_cons_succ, List.getElem_cons_zero, List.setIfInBounds_toArray, List.set_cons_zero, List.set_cons_succ]
      have c9 := O9.out.c0
      have f9 := O9.out.f0
      refine wpAnyH_ready (rs := [7]) (by kernel_rfl) (by simp) ?_
      refine AllReadyH.cons rfl (fun K hK => ?_) AllReadyH.nil
      go_simp
      refine hK.out _ _ ?_ (fun hHeld => ?_)
      · (try dsimp only)
        first
          | (go_split_ands; exact MK.out _ (Below.setCell (Hid.out (by assumption)) (by show wb.heap.size ≤ _; first | exact Nat.le_refl _ | exact hsz | omega) _))
          | (go_split_ands; exact MK.out _ (kbelow_realloc (Hid.out (by assumption)) hsz _))
      clear hK K
      try simp only [Act.put, List.getElem_toArray, List.getElem_cons_succ, List.getElem_cons_zero, List.setIfInBounds_toArray, List.set_cons_zero, List.set_cons_succ]
      refine wpAnyH_done (by kernel_rfl) ?_ _
      obtain ⟨-, -, -, -, -, -, HB⟩ := hHeld
      go_wp2_with fail
      go_meet
      first
        | exact ⟨_, rfl, Lib.hid (O9.out.set _), HB⟩
        | exact ⟨_, rfl, Lib.hid (O9.out.set _).drew, HB⟩
        | exact ⟨_, rfl, Lib.hid (O9.out.drew.set _), HB⟩
        | exact ⟨_, rfl, Lib.hid (OneAt.new _ _ _), HB⟩
        | exact ⟨_, rfl, Lib.hid (OneAt.new _ _ _).drew, HB⟩
    · go_simp
      refine hK.out _ _ ?_ (fun hHeld => ?_)
      · (try dsimp only)
        (go_split_ands; exact MK.out _ (Below.alloc (Hid.out (by assumption)) (Hid.out (by assumption) : Below wb.heap.size wb _).size _))
      clear hK K
      try simp only [Act.put, List.getElem_toArray, List.getElem_cons_succ, List.getElem_cons_zero, List.setIfInBounds_toArray, List.set_cons_zero, List.set_cons_succ]
      have O8 := Lib.hid (OneAt.new wb.drew .nilIface 169)
      refine wpAnyH_ready (rs := [5]) (by kernel_rfl) (by simp) ?_
      refine AllReadyH.cons rfl (fun K hK => ?_) AllReadyH.nil
      go_simp
      go_at_call 119
      go_split_ands
      refine (xThingOfKept_any _ _ _ _ _ _).mono ?_
      rintro e' w5 ⟨rfl, hb1⟩
      have hsz := hb1.size
      go_wp2_with fail
      refine hK.out _ _ ?_ (fun hHeld => ?_)
      · (try dsimp only)
        (go_split_ands; exact MK.out _ (Below.trans (Hid.out (by assumption)) (hb1.mono (Hid.out (by assumption) : Below wb.heap.size wb _).size)))
      clear hK K
      try simp only [Act.put, List.getElem_toArray, List.getElem_cons_succ, List.getElem_cons_zero, List.setIfInBounds_toArray, List.set_cons_zero, List.set_cons_succ]
      have O9 := Lib.hid (O8.out.keep hb1)
      have c9 : w5.cell? ⟨wb.heap.size, 0, none⟩ = some .nilIface := O9.out.c0
      have f9 : w5.frozen? ⟨wb.heap.size, 0, none⟩ = false := O9.out.f0
      refine wpAnyH_ready (rs := [7]) (by kernel_rfl) (by simp) ?_
      refine AllReadyH.cons rfl (fun K hK => ?_) AllReadyH.nil
      go_simp
      refine hK.out _ _ ?_ (fun hHeld => ?_)
      · (try dsimp only)
        (go_split_ands; exact MK.out _ (Below.setCell (Hid.out (by assumption)) (by show wb.heap.size ≤ _; first | exact Nat.le_refl _ | exact hsz | omega) _))
      clear hK K
      try simp only [Act.put, List.getElem_toArray, List.getElem_cons_succ, List.getElem_cons_zero, List.setIfInBounds_toArray, List.set_cons_zero, List.set_cons_succ]
      refine wpAnyH_done (by kernel_rfl) ?_ _
      obtain ⟨-, -, -, -, -, -, HB⟩ := hHeld
      go_wp2_with fail
      go_meet
      first
        | exact ⟨_, rfl, Lib.hid (O9.out.set _), HB⟩
        | exact ⟨_, rfl, Lib.hid (O9.out.set _).drew, HB⟩
        | exact ⟨_, rfl, Lib.hid (O9.out.drew.set _), HB⟩
        | exact ⟨_, rfl, Lib.hid (OneAt.new _ _ _), HB⟩
        | exact ⟨_, rfl, Lib.hid (OneAt.new _ _ _).drew, HB⟩
  case rest =>
    obtain ⟨g7, rfl, O7, HC⟩ := hcut
    have HZ := Lib.hid (Keep.below HC.out _ _ HZ5.out)
    replace HW := Lib.hid (HW.out.trans (HC.out.mono HW.out.size))
    replace MM := Lib.hid (MM.out.keep (Keep.below HC.out))
    have z7 := O7.out.c0
    clear z5 q0 q1 q2 q3 q4
    go_wp2_with fail
    refine (xThingItem_any (lKpt l k).it _ _ ⟨_, _, rfl, MM.out⟩).mono ?_
    rintro e w1 ⟨rfl, hb1⟩
    replace HW := Lib.hid (HW.out.trans (hb1.mono HW.out.size))
    replace HZ := Lib.hid (Keep.below hb1 _ _ HZ.out)
    replace O7 := Lib.hid (O7.out.keep hb1)
    clear hb1 z7 MM
    by_cases he : thgErr (lKpt l k).it = 0
    · have HE := Lib.hid he
      rw [he]
      clear he
      have hk1 : decide ((k : Int) < 0) = false := decide_eq_false (by omega)
      have hkl : (k : Int) ≤ (l.length : Int) := by omega
      have hkc : (k : Int) ≤ (c : Int) := by omega
      have hF : Hid (∀ w', Below w1.heap.size w1 w' → ∀ i : Nat, i < (l.take k).length → Calls Tryz.prog 147 #[keptV (lKpt (l.take k) i) (a.p i) (a.pc i) (a.q i) (a.qc i), .pointer (some ⟨w.heap.size, 0, none⟩), .pointer (some ⟨g7, 0, none⟩)] w' fun e w'' => e = .returned (.bool ((lKpt l i).it.name.toList == (lKpt l k).it.name.toList)) ∧ Below w'.heap.size w' w'') := Lib.hid fun w' hb i hi => by
        have hik : i < k := by rw [List.length_take] at hi; omega
        have hle : lKpt (l.take k) i = lKpt l i := by unfold lKpt; rw [List.getD_eq_getElem?_getD, List.getElem?_take, if_pos hik, ← List.getD_eq_getElem?_getD]
        rw [hle]
        exact xSameKept_any (lKpt l k).it (lKpt l i) _ _ _ _ _ _ _ _ w' (Keep.below hb _ _ HZ.out) (Keep.below hb _ _ O7.out.c0)
      have hlen : (l.take k).length = k := by rw [List.length_take]; omega
      have HT := Lib.hid (show ArrKp w1 (some ⟨b, o, none⟩) (l.take k) c a from (HA.out.keep (Keep.below HW.out)).take (by omega))
      have HHAS := Lib.hid (xHasKept_any 147 (.pointer (some ⟨w.heap.size, 0, none⟩)) (.pointer (some ⟨g7, 0, none⟩)) (fun i => (lKpt l i).it.name.toList == (lKpt l k).it.name.toList) (l.take k) (some ⟨b, o, none⟩) c a w1 HT.out (fun args w => by kernel_rfl) hF.out)
      rw [hlen] at HHAS
      clear hF HT
      go_wp2_with fail
      refine HHAS.out.mono ?_
      rintro e w2 ⟨rfl, hb1⟩
      replace HW := Lib.hid (HW.out.trans (hb1.mono HW.out.size))
      clear hb1 HHAS
      rw [any_ktext]
      cases hx : hasText (fun j => (lKpt l j).it.name) k (lKpt l k).it.name with
      | false =>
        have F := Lib.hid (show kptAt l k = 0 by unfold kptAt; rw [if_neg (fun hh => hh HE.out), if_neg (by rw [hx]; decide)])
        clear hx
        go_wp2_with fail
        go_ret
        exact ⟨ret_int F.out.symm, HW.out⟩
      | true =>
        have F := Lib.hid (show kptAt l k = 5 by unfold kptAt; rw [if_neg (fun hh => hh HE.out), if_pos hx])
        clear hx
        go_wp2_with fail
        go_ret
        exact ⟨ret_int F.out.symm, HW.out⟩
    · have F := Lib.hid (show kptAt l k = thgErr (lKpt l k).it from if_pos he)
      have e2 : (thgErr (lKpt l k).it != 0) = true := by simpa using he
      have e3 : (thgErr (lKpt l k).it == 0) = false := by simpa using he
      clear he
      go_wp2_with fail
      go_ret
      exact ⟨ret_int F.out.symm, HW.out⟩
end Go.Proofs.YtfjdnbnalihjiaaGreatDoor
/- The items to which the office has the right on a day: what the program answers. Condition: the table of states is as its initialiser lays it. -/
namespace Go.Proofs.YtfjdnbnalihjiaaGreatDoor
open Go.RowKit Fs

/-- The error of an item with its events among those ahead of it. -/
def Fs.kchF (l : List Kpt) (i : Nat) : Int := fst (listI [kptAt l i, chainErr (lKpt l i).it (lKpt l i).evs]) 2
def Fs.ovErr (l : List Kpt) (day : Int) : Int := fst (listI [gmanyErr l.length 40 (kchF l), dayErr day 0]) 2
def Fs.isOff (l : List Kpt) (day : Int) (i : Nat) : Bool := decide (rightOf (lKpt l i).evs (untilN (lKpt l i).evs day) day = 3)
def Fs.offTo (l : List Kpt) (day : Int) : Nat → List Int
  | 0 => []
  | k + 1 => if isOff l day k = true then offTo l day k ++ [(k : Int)] else offTo l day k
theorem Fs.offTo_len (l : List Kpt) (day : Int) (k : Nat) : (offTo l day k).length ≤ k := by
  induction k with
  | zero => exact Nat.le_refl _
  | succ k ih =>
    rw [offTo]
    split
    · rw [List.length_append]; simpa using ih
    · omega
def Fs.ovOut (l : List Kpt) (day : Int) : List Int := if ovErr l day = 0 then offTo l day l.length else []
/-- What no error means. -/
theorem Fs.ov_ok {l : List Kpt} {day : Int} (h : ovErr l day = 0) : l.length ≤ 40 ∧ (0 ≤ day ∧ day ≤ 100000) ∧ ∀ i, i < l.length → chainErr (lKpt l i).it (lKpt l i).evs = 0 := by
  unfold ovErr at h
  rw [gfst_two] at h
  by_cases h1 : gmanyErr l.length 40 (kchF l) = 0
  · rw [if_neg (fun hh => hh h1)] at h
    have hd : 0 ≤ day ∧ day ≤ 100000 := by
      unfold dayErr at h
      by_cases h2 : within day 0 100000 = true
      · exact Fs.within_iff.1 h2
      · rw [if_neg h2] at h; exact absurd h (by decide)
    unfold gmanyErr at h1
    by_cases h3 : 40 < l.length
    · rw [if_pos h3] at h1; exact absurd h1 (by decide)
    rw [if_neg h3] at h1
    refine ⟨by omega, hd, fun i hi => ?_⟩
    have h4 := fst_zero h1 i hi
    unfold kchF at h4
    rw [gfst_two] at h4
    by_cases h5 : kptAt l i = 0
    · rw [if_neg (fun hh => hh h5)] at h4; exact h4
    · rw [if_pos h5] at h4; exact absurd h4 h5
  · rw [if_pos h1] at h; exact absurd h h1
set_option linter.unusedSimpArgs false in
set_option maxHeartbeats 12800000 in
set_option maxRecDepth 100000 in
theorem xOverdue1_any (l : List Kpt) (A : Option Addr) (c : Nat) (a : KA) (k g2 : Nat) (w : World) (h : ArrKp w A l c a) (ht : TabSt w) (hlt : k < l.length) (h2 : w.cell? ⟨g2, 0, none⟩ = some (.slice A l.length c)) :
    Calls Tryz.prog 117 #[.int .i64 k, .pointer (some ⟨g2, 0, none⟩)] w fun e w' => e = .returned (.int .i64 (kchF l k)) ∧ Below w.heap.size w w' := by
  have b1 := h.le.1
  have b2 := h.le.2
  have HA := Lib.hid h
  have HT := Lib.hid ht
  have HLT := Lib.hid hlt
  have hkn : (k : Int) < (l.length : Int) := by omega
  obtain ⟨b, o, rfl, ⟨q0, q1, q2, q3, q4⟩, -, -⟩ := h.at_ hlt
  clear h ht hlt
  go_enter Tryz.func117, Tryz.ntmps117
  go_wp2_with fail
  have HBd : Hid (Below w.heap.size w w.drew) := Lib.hid (Below.refl _ _).drew
  have MK : Hid (∀ w', Below w.heap.size w w' → w'.cell? ⟨g2, 0, none⟩ = some (.slice (some ⟨b, o, none⟩) l.length c) ∧ w'.cell? ⟨b, o + k * 5, none⟩ = some (.string (lKpt l k).it.name) ∧ w'.cell? ⟨b, o + k * 5 + 1, none⟩ = some (.int .i64 (lKpt l k).it.day) ∧ w'.cell? ⟨b, o + k * 5 + 2, none⟩ = some (.string (lKpt l k).it.who) ∧ w'.cell? ⟨b, o + k * 5 + 3, none⟩ = some (.slice (a.p k) (lKpt l k).it.marks.length (a.pc k)) ∧ w'.cell? ⟨b, o + k * 5 + 4, none⟩ = some (.slice (a.q k) (lKpt l k).evs.length (a.qc k)) ∧ Hid (Below w.heap.size w w')) :=
    Lib.hid fun w' hw => ⟨Keep.below hw _ _ h2, Keep.below hw _ _ q0, Keep.below hw _ _ q1, Keep.below hw _ _ q2, Keep.below hw _ _ q3, Keep.below hw _ _ q4, Lib.hid hw⟩
  have KX : Hid (∀ w', Below w.heap.size w w' → ArrKp w' (some ⟨b, o, none⟩) l c a ∧ TabSt w') := Lib.hid fun w' hw => ⟨HA.out.keep (Keep.below hw), HT.out.keep (Keep.below hw)⟩
  refine wp_region_held_drew (S := fun w' => w'.cell? ⟨g2, 0, none⟩ = some (.slice (some ⟨b, o, none⟩) l.length c) ∧ w'.cell? ⟨b, o + k * 5, none⟩ = some (.string (lKpt l k).it.name) ∧ w'.cell? ⟨b, o + k * 5 + 1, none⟩ = some (.int .i64 (lKpt l k).it.day) ∧ w'.cell? ⟨b, o + k * 5 + 2, none⟩ = some (.string (lKpt l k).it.who) ∧ w'.cell? ⟨b, o + k * 5 + 3, none⟩ = some (.slice (a.p k) (lKpt l k).it.marks.length (a.pc k)) ∧ w'.cell? ⟨b, o + k * 5 + 4, none⟩ = some (.slice (a.q k) (lKpt l k).evs.length (a.qc k)) ∧ Hid (Below w.heap.size w w')) (by kernel_rfl) (MK.out _ HBd.out) (fun hHeld => ?_)
  refine wpAnyH_take (i := 0) (v := ?val0x1) rfl (by kernel_rfl) (by kernel_rfl) (by kernel_rfl) (fun _ _ _ h => h) (Or.inl ⟨by rfl, fun w9 hS9 => ?yields0x1⟩) (by assumption) ?later0x1
  case yields0x1 =>
    dsimp only at hS9
    go_simp
    try with_reducible rfl
  try simp only [Act.put, List.getElem_toArray, List.getElem_cons_succ, List.getElem_cons_zero, List.setIfInBounds_toArray, List.set_cons_zero, List.set_cons_succ]
  refine wpAnyH_take (i := 1) (v := ?val1x2) rfl (by kernel_rfl) (by kernel_rfl) (by kernel_rfl) (fun _ _ _ h => h) (Or.inl ⟨by rfl, fun w9 hS9 => ?yields1x2⟩) (by assumption) ?later1x2
  case yields1x2 =>
    dsimp only at hS9
    go_simp
    try with_reducible rfl
  try simp only [Act.put, List.getElem_toArray, List.getElem_cons_succ, List.getElem_cons_zero, List.setIfInBounds_toArray, List.set_cons_zero, List.set_cons_succ]
  refine wpAnyH_take (i := 3) (v := ?val3x3) rfl (by kernel_rfl) (by kernel_rfl) (by kernel_rfl) (fun _ _ _ h => h) (Or.inl ⟨by rfl, fun w9 hS9 => ?yields3x3⟩) (by assumption) ?later3x3
  case yields3x3 =>
    dsimp only at hS9
    go_simp
    try with_reducible rfl
  try simp only [Act.put, List.getElem_toArray, List.getElem_cons_succ, List.getElem_cons_zero, List.setIfInBounds_toArray, List.set_cons_zero, List.set_cons_succ]
  refine wpAnyH_take (i := 4) (v := ?val4x4) rfl (by kernel_rfl) (by kernel_rfl) (by kernel_rfl) (fun _ _ _ h => h) (Or.inl ⟨by rfl, fun w9 hS9 => ?yields4x4⟩) (by assumption) ?later4x4
  case yields4x4 =>
    dsimp only at hS9
    go_simp
    try with_reducible rfl
  try simp only [Act.put, List.getElem_toArray, List.getElem_cons_succ, List.getElem_cons_zero, List.setIfInBounds_toArray, List.set_cons_zero, List.set_cons_succ]
  refine wpAnyH_take (i := 5) (v := ?val5x5) rfl (by kernel_rfl) (by kernel_rfl) (by kernel_rfl) (fun _ _ _ h => h) (Or.inl ⟨by rfl, fun w9 hS9 => ?yields5x5⟩) (by assumption) ?later5x5
  case yields5x5 =>
    dsimp only at hS9
    go_simp
    try with_reducible rfl
  try simp only [Act.put, List.getElem_toArray, List.getElem_cons_succ, List.getElem_cons_zero, List.setIfInBounds_toArray, List.set_cons_zero, List.set_cons_succ]
  refine wpAnyH_take (i := 6) (v := ?val6x6) rfl (by kernel_rfl) (by kernel_rfl) (by kernel_rfl) (fun _ _ _ h => h) (Or.inl ⟨by rfl, fun w9 hS9 => ?yields6x6⟩) (by assumption) ?later6x6
  case yields6x6 =>
    dsimp only at hS9
    go_simp
    try with_reducible rfl
  try simp only [Act.put, List.getElem_toArray, List.getElem_cons_succ, List.getElem_cons_zero, List.setIfInBounds_toArray, List.set_cons_zero, List.set_cons_succ]
  refine wpAnyH_take (i := 7) (v := ?val7x7) rfl (by kernel_rfl) (by kernel_rfl) (by kernel_rfl) (fun _ _ _ h => h) (Or.inl ⟨by rfl, fun w9 hS9 => ?yields7x7⟩) (by assumption) ?later7x7
  case yields7x7 =>
    dsimp only at hS9
    go_simp
    try with_reducible rfl
  try simp only [Act.put, List.getElem_toArray, List.getElem_cons_succ, List.getElem_cons_zero, List.setIfInBounds_toArray, List.set_cons_zero, List.set_cons_succ]
  refine wpAnyH_take (i := 8) (v := ?val8x8) rfl (by kernel_rfl) (by kernel_rfl) (by kernel_rfl) (fun _ _ _ h => h) (Or.inl ⟨by rfl, fun w9 hS9 => ?yields8x8⟩) (by assumption) ?later8x8
  case yields8x8 =>
    dsimp only at hS9
    go_simp
    try with_reducible rfl
  try simp only [Act.put, List.getElem_toArray, List.getElem_cons_succ, List.getElem_cons_zero, List.setIfInBounds_toArray, List.set_cons_zero, List.set_cons_succ]
  refine wpAnyH_take (i := 9) (v := ?val9x9) rfl (by kernel_rfl) (by kernel_rfl) (by kernel_rfl) (fun _ _ _ h => h) (Or.inl ⟨by rfl, fun w9 hS9 => ?yields9x9⟩) (by assumption) ?later9x9
  case yields9x9 =>
    dsimp only at hS9
    go_simp
    try with_reducible rfl
  try simp only [Act.put, List.getElem_toArray, List.getElem_cons_succ, List.getElem_cons_zero, List.setIfInBounds_toArray, List.set_cons_zero, List.set_cons_succ]
  refine wpAnyH_take (i := 10) (v := ?val10x10) rfl (by kernel_rfl) (by kernel_rfl) (by kernel_rfl) (fun _ _ _ h => h) (Or.inl ⟨by rfl, fun w9 hS9 => ?yields10x10⟩) (by assumption) ?later10x10
  case yields10x10 =>
    dsimp only at hS9
    go_simp
    try with_reducible rfl
  try simp only [Act.put, List.getElem_toArray, List.getElem_cons_succ, List.getElem_cons_zero, List.setIfInBounds_toArray, List.set_cons_zero, List.set_cons_succ]
  refine wpAnyH_take (i := 11) (v := ?val11x11) rfl (by kernel_rfl) (by kernel_rfl) (by kernel_rfl) (fun _ _ _ h => h) (Or.inl ⟨by rfl, fun w9 hS9 => ?yields11x11⟩) (by assumption) ?later11x11
  case yields11x11 =>
    dsimp only at hS9
    go_simp
    try with_reducible rfl
  try simp only [Act.put, List.getElem_toArray, List.getElem_cons_succ, List.getElem_cons_zero, List.setIfInBounds_toArray, List.set_cons_zero, List.set_cons_succ]
  refine wpAnyH_take (i := 12) (v := ?val12x12) rfl (by kernel_rfl) (by kernel_rfl) (by kernel_rfl) (fun _ _ _ h => h) (Or.inl ⟨by rfl, fun w9 hS9 => ?yields12x12⟩) (by assumption) ?later12x12
  case yields12x12 =>
    dsimp only at hS9
    go_simp
    try with_reducible rfl
  try simp only [Act.put, List.getElem_toArray, List.getElem_cons_succ, List.getElem_cons_zero, List.setIfInBounds_toArray, List.set_cons_zero, List.set_cons_succ]
  refine wpAnyH_ready (rs := [2]) (by kernel_rfl) (by simp) ?_
  refine AllReadyH.cons rfl (fun K hK => ?_) AllReadyH.nil
  go_simp
  go_at_call 118
  go_split_ands
  refine (xInKept_any l _ c a k _ (KX.out _ (Hid.out (by assumption))).1 HLT.out).mono ?_
  rintro e' w5 ⟨rfl, hb1⟩
  go_wp2_with fail
  refine hK.out _ _ ?_ (fun hHeld => ?_)
  · (try dsimp only)
    (go_split_ands; exact MK.out _ (Below.trans (Hid.out (by assumption)) (hb1.mono (Hid.out (by assumption) : Below w.heap.size w _).size)))
  clear hK K
  try simp only [Act.put, List.getElem_toArray, List.getElem_cons_succ, List.getElem_cons_zero, List.setIfInBounds_toArray, List.set_cons_zero, List.set_cons_succ]
  refine wpAnyH_ready (rs := [13]) (by kernel_rfl) (by simp) ?_
  refine AllReadyH.cons rfl (fun K hK => ?_) AllReadyH.nil
  go_simp
  go_at_call 120
  go_split_ands
  refine (xChainErr_any (lKpt l k).it _ (lKpt l k).evs (a.q k) (a.qc k) _ ⟨_, _, rfl, ((KX.out _ (Hid.out (by assumption))).1.2 k HLT.out).1⟩ ((KX.out _ (Hid.out (by assumption))).1.2 k HLT.out).2 (KX.out _ (Hid.out (by assumption))).2).mono ?_
  rintro e' w6 ⟨rfl, hb1⟩
  go_wp2_with fail
  refine hK.out _ _ ?_ (fun hHeld => ?_)
  · (try dsimp only)
    (go_split_ands; exact MK.out _ (Below.trans (Hid.out (by assumption)) (hb1.mono (Hid.out (by assumption) : Below w.heap.size w _).size)))
  clear hK K
  try simp only [Act.put, List.getElem_toArray, List.getElem_cons_succ, List.getElem_cons_zero, List.setIfInBounds_toArray, List.set_cons_zero, List.set_cons_succ]
  refine wpAnyH_ready (rs := [14]) (by kernel_rfl) (by simp) ?_
  refine AllReadyH.cons rfl (fun K hK => ?_) AllReadyH.nil
  go_simp
  refine hK.out _ _ ?_ (fun hHeld => ?_)
  · (try dsimp only)
    (go_split_ands; exact MK.out _ (Below.alloc (Hid.out (by assumption)) (Hid.out (by assumption) : Below w.heap.size w _).size _))
  clear hK K
  try simp only [Act.put, List.getElem_toArray, List.getElem_cons_succ, List.getElem_cons_zero, List.setIfInBounds_toArray, List.set_cons_zero, List.set_cons_succ]
  refine wpAnyH_ready (rs := [15]) (by kernel_rfl) (by simp) ?_
  refine AllReadyH.cons rfl (fun K hK => ?_) AllReadyH.nil
  go_simp
  go_at_call 82
  go_split_ands
  refine (xFirst_any [kptAt l k, chainErr (lKpt l k).it (lKpt l k).evs] _ _ _ (by first | exact gints2New _ _ _ _ | exact (gints2New _ _ _ _).keep (Keep.drew _))).mono ?_
  rintro e' wx9 ⟨rfl, rfl⟩
  go_wp2_with fail
  refine hK.out _ _ ?_ (fun hHeld => ?_)
  · (try dsimp only)
    (go_split_ands; exact MK.out _ (Hid.out (by assumption)))
  clear hK K
  try simp only [Act.put, List.getElem_toArray, List.getElem_cons_succ, List.getElem_cons_zero, List.setIfInBounds_toArray, List.set_cons_zero, List.set_cons_succ]
  refine wpAnyH_take (i := 16) (v := ?val16x13) rfl (by kernel_rfl) (by kernel_rfl) (by kernel_rfl) (fun _ _ _ h => h) (Or.inl ⟨by rfl, fun w9 hS9 => ?yields16x13⟩) (by assumption) ?later16x13
  case yields16x13 =>
    dsimp only at hS9
    go_simp
    try with_reducible rfl
  try simp only [Act.put, List.getElem_toArray, List.getElem_cons_succ, List.getElem_cons_zero, List.setIfInBounds_toArray, List.set_cons_zero, List.set_cons_succ]
  refine wpAnyH_done (by kernel_rfl) ?_ _
  obtain ⟨-, -, -, -, -, -, HB⟩ := hHeld
  clear HBd MK
  go_wp2_with fail
  go_ret
  exact ⟨rfl, HB.out⟩
set_option linter.unusedSimpArgs false in
set_option maxHeartbeats 12800000 in
set_option maxRecDepth 100000 in
theorem xOverdue_any (l : List Kpt) (A : Option Addr) (c : Nat) (a : KA) (day : Int) (w : World) (h : ArrKp w A l c a) (ht : TabSt w) :
    Calls Tryz.prog 65 #[.slice A l.length c, .int .i64 day] w fun x w' => (∃ A' c', x = .returned (.tuple #[.slice A' (ovOut l day).length c', .int .i64 (ovErr l day)]) ∧ ArrI w' A' (ovOut l day) c') ∧ Below w.heap.size w w' := by
  obtain ⟨i0, hi, hz0, hz1, hz2⟩ := info_parts Tryz.infoIntG
  have b1 := h.le.1
  have b2 := h.le.2
  have HW := Lib.hid ((Below.refl w.heap.size w).alloc (Nat.le_refl _) (.cells #[.slice A l.length c] 98))
  have HA := Lib.hid (h.keep (Keep.below HW.out))
  have HT := Lib.hid (ht.keep (Keep.below HW.out))
  have HS := Lib.hid (cellNew w #[.slice A l.length c] 98 0)
  obtain ⟨E, hE⟩ : ∃ E, E = gmanyErr l.length 40 (kchF l) := ⟨_, rfl⟩
  obtain ⟨O, hO⟩ : ∃ O, O = ovErr l day := ⟨_, rfl⟩
  have F := Lib.hid (show fst (listI [E, dayErr day 0]) 2 = O by rw [hE, hO]; rfl)
  have HO := Lib.hid hO
  clear h ht hO
  go_enter Tryz.func65, Tryz.ntmps65
  go_upto_region 1 with fail
  obtain ⟨g2, hg2⟩ : ∃ g, g = w.heap.size := ⟨_, rfl⟩
  obtain ⟨wb, hwb⟩ : ∃ wb, wb = w.alloc (.cells #[.slice A l.length c] 98) := ⟨_, rfl⟩
  rw [← hwb] at HW HA HT
  rw [← hwb, ← hg2] at HS
  rw [← hwb]
  try rw [← hg2]
  clear hwb hg2
  have HLS := Lib.hid (xListG_any 117 (.pointer (some ⟨g2, 0, none⟩)) l.length 40 (kchF l) wb (by omega) (by omega) (fun args w => by kernel_rfl)
    (fun w' hb i hi => xOverdue1_any l A c a i g2 w' (HA.out.keep (Keep.below hb)) (HT.out.keep (Keep.below hb)) hi (Keep.below hb _ _ HS.out)))
  rw [← hE] at HLS
  clear hE
  have s0 := HS.out
  go_wp2_with fail
  refine HLS.out.mono ?_
  rintro e' w1 ⟨rfl, hb1⟩
  replace HA := Lib.hid (HA.out.keep (Keep.below hb1))
  replace HT := Lib.hid (HT.out.keep (Keep.below hb1))
  replace HS := Lib.hid (Keep.below hb1 _ _ HS.out)
  replace HW := Lib.hid (HW.out.trans (hb1.mono HW.out.size))
  clear hb1 s0 HLS
  go_wp2_with fail
  refine (xDayErr_any _ _ _).mono ?_
  rintro e' wx ⟨rfl, rfl⟩
  have HN := Lib.hid (gints2New w1 E (dayErr day 0) 30)
  replace HA := Lib.hid (HA.out.keep (Keep.alloc _ (.cells #[.int .i64 E, .int .i64 (dayErr day 0)] 30)))
  replace HT := Lib.hid (HT.out.keep (Keep.alloc _ (.cells #[.int .i64 E, .int .i64 (dayErr day 0)] 30)))
  replace HS := Lib.hid (Keep.alloc _ (.cells #[.int .i64 E, .int .i64 (dayErr day 0)] 30) _ _ HS.out)
  replace HW := Lib.hid (HW.out.alloc HW.out.size (.cells #[.int .i64 E, .int .i64 (dayErr day 0)] 30))
  go_wp2_with fail
  refine (xFirst_any [E, dayErr day 0] _ _ _ HN.out).mono ?_
  rintro e' wx ⟨rfl, rfl⟩
  rw [show [E, dayErr day 0].length = 2 from rfl, F.out]
  obtain ⟨wc, hwc⟩ : ∃ wz, wz = w1.alloc (.cells #[.int .i64 E, .int .i64 (dayErr day 0)] 30) := ⟨_, rfl⟩
  rw [← hwc] at HA HT HW
  rw [← hwc] at HS
  rw [← hwc]
  clear hwc HN
  by_cases he : O = 0
  · have HZ := Lib.hid (HO.out.symm.trans he)
    obtain ⟨h40, hday, hch⟩ := ov_ok HZ.out
    have HD := Lib.hid hday
    have HCH := Lib.hid (fun i (hi : i < l.length) => chain_evts (hch i hi))
    have G := Lib.hid (show ovOut l day = offTo l day l.length from if_pos HZ.out)
    have s0 := HS.out
    rw [he]
    clear he hday hch
    go_wp2_with fail
    go_loopw [8, 28] (fun v i wr => ∃ k : Nat, k ≤ l.length ∧ i = .int .i64 k ∧ Hid (wr.ownsRow wc.heap.size 3 1 v (offTo l day k).length (intVals (offTo l day k))) ∧ Hid (Below wc.heap.size wc wr)) (fun _ i _ => l.length - (intOf i).toNat)
    case atStart => exact ⟨0, Nat.zero_le _, rfl, Lib.hid (World.ownsRow_nil _ _ _ _), Lib.hid (Below.refl _ _)⟩
    case round =>
      obtain ⟨k, hk, rfl, HOW, HB⟩ := hrel
      have hgl := offTo_len l day k
      by_cases hlt : k < l.length
      · have hkn : (k : Int) < (l.length : Int) := by omega
        obtain ⟨b, o, rfl, ⟨q0, q1, q2, q3, q4⟩, qm, qe⟩ := (HA.out.keep (Keep.below HB.out)).at_ hlt
        have t0 := cellNew wr #[.string (lKpt l k).it.name, .int .i64 (lKpt l k).it.day, .string (lKpt l k).it.who, .slice (a.p k) (lKpt l k).it.marks.length (a.pc k), .slice (a.q k) (lKpt l k).evs.length (a.qc k)] 100 0
        have t1 := cellNew wr #[.string (lKpt l k).it.name, .int .i64 (lKpt l k).it.day, .string (lKpt l k).it.who, .slice (a.p k) (lKpt l k).it.marks.length (a.pc k), .slice (a.q k) (lKpt l k).evs.length (a.qc k)] 100 1
        have t2 := cellNew wr #[.string (lKpt l k).it.name, .int .i64 (lKpt l k).it.day, .string (lKpt l k).it.who, .slice (a.p k) (lKpt l k).it.marks.length (a.pc k), .slice (a.q k) (lKpt l k).evs.length (a.qc k)] 100 2
        have t3 := cellNew wr #[.string (lKpt l k).it.name, .int .i64 (lKpt l k).it.day, .string (lKpt l k).it.who, .slice (a.p k) (lKpt l k).it.marks.length (a.pc k), .slice (a.q k) (lKpt l k).evs.length (a.qc k)] 100 3
        have t4 := cellNew wr #[.string (lKpt l k).it.name, .int .i64 (lKpt l k).it.day, .string (lKpt l k).it.who, .slice (a.p k) (lKpt l k).it.marks.length (a.pc k), .slice (a.q k) (lKpt l k).evs.length (a.qc k)] 100 4
        have QM := Lib.hid (qm.keep (Keep.alloc wr (.cells #[.string (lKpt l k).it.name, .int .i64 (lKpt l k).it.day, .string (lKpt l k).it.who, .slice (a.p k) (lKpt l k).it.marks.length (a.pc k), .slice (a.q k) (lKpt l k).evs.length (a.qc k)] 100)))
        have QE := Lib.hid (qe.keep (Keep.alloc wr (.cells #[.string (lKpt l k).it.name, .int .i64 (lKpt l k).it.day, .string (lKpt l k).it.who, .slice (a.p k) (lKpt l k).it.marks.length (a.pc k), .slice (a.q k) (lKpt l k).evs.length (a.qc k)] 100)))
        replace HOW := Lib.hid (below_of_own HOW.out ((Below.refl _ _).alloc (Nat.le_refl _) (.cells #[.string (lKpt l k).it.name, .int .i64 (lKpt l k).it.day, .string (lKpt l k).it.who, .slice (a.p k) (lKpt l k).it.marks.length (a.pc k), .slice (a.q k) (lKpt l k).evs.length (a.qc k)] 100)))
        replace HB := Lib.hid (HB.out.alloc HB.out.size (.cells #[.string (lKpt l k).it.name, .int .i64 (lKpt l k).it.day, .string (lKpt l k).it.who, .slice (a.p k) (lKpt l k).it.marks.length (a.pc k), .slice (a.q k) (lKpt l k).evs.length (a.qc k)] 100))
        have HTW := Lib.hid (HT.out.keep (Keep.below HB.out))
        have HEV := Lib.hid (HCH.out k hlt)
        clear qm qe s0
        go_upto_region 9 with fail
        obtain ⟨gk, hgk⟩ : ∃ g, g = wr.heap.size := ⟨_, rfl⟩
        rw [← hgk] at t0 t1 t2 t3 t4
        rw [← hgk]
        generalize wr.alloc _ = wd at *
        clear q0 q1 q2 q3 q4 hgk
        go_wp2_with fail
        refine (xStandingAt_any (lKpt l k).it _ (lKpt l k).evs (a.q k) (a.qc k) day _ ⟨_, _, rfl, QM.out⟩ QE.out HTW.out (fun j hj => (HEV.out j hj).kind)).mono ?_
        rintro e' w5 ⟨rfl, hb1⟩
        replace HB := Lib.hid (HB.out.trans (hb1.mono HB.out.size))
        replace HOW := Lib.hid (below_of_own HOW.out hb1)
        clear hb1 t0 t1 t2 t3 t4 QM QE
        go_wp2_with fail
        refine (xRightD_any _ day _).mono ?_
        rintro e' w6 ⟨rfl, hb1⟩
        replace HB := Lib.hid (HB.out.trans (hb1.mono HB.out.size))
        replace HOW := Lib.hid (below_of_own HOW.out hb1)
        clear hb1
        have HOK := Lib.hid (fun j (hj : j < untilN (lKpt l k).evs day) => HEV.out j (by have := (until_spec (lKpt l k).evs day).1; omega))
        rw [(st_ok HOK.out).right HOK.out HD.out]
        cases hcb : isOff l day k with
        | true =>
          have HG := Lib.hid (show offTo l day (k + 1) = offTo l day k ++ [(k : Int)] by rw [offTo, if_pos hcb])
          have e3 : rightOf (lKpt l k).evs (untilN (lKpt l k).evs day) day = 3 := of_decide_eq_true hcb
          rw [e3]
          clear hcb e3
          go_wp2_with (at_builtin
                       refine wpList_append_own _ rfl (.tmp 42) (.tmp 44) 51 rfl wc.heap.size 3 i0 _ 1 8 Tryz.underlying51 hi hz0 hz1 hz2 rfl (by decide) _ _ _ rfl (HOW.out.alloc _) ⟨_, 0, none⟩ 1 1 [.int .i64 k] rfl rfl ?c1 ?c2 ?c3 ?c4 ?c5 ?_)
          case c1 => exact news0 _ _ _
          case c2 => exact oneInt _
          case c3 => unfold maxLen; omega
          case c4 => omega
          case c5 => have := HB.out.size; simp; omega
          intro v9 w9 ho9 hg9 _
          go_wp2_with fail
          go_roundw
          case rel =>
            refine ⟨k + 1, by omega, by go_num, Lib.hid ?_, Lib.hid ?_⟩
            · rw [HG.out, intVals_snoc, List.length_append]
              exact ho9
            · exact (HB.out.alloc HB.out.size _).grown hg9 (by have := HB.out.size; simp; omega) (fun j hj => (HOW.out.lt j hj).1)
          case measure => simp [intOf]; omega
        | false =>
          have HG := Lib.hid (show offTo l day (k + 1) = offTo l day k by rw [offTo, if_neg (by rw [hcb]; decide)])
          obtain ⟨R, hR⟩ : ∃ R, R = rightOf (lKpt l k).evs (untilN (lKpt l k).evs day) day := ⟨_, rfl⟩
          have e3 : (R == 3) = false := by
            have : ¬ R = 3 := fun e => by rw [hR] at e; unfold isOff at hcb; rw [e] at hcb; exact absurd hcb (by decide)
            simpa using this
          rw [← hR]
          clear hcb hR
          go_wp2_with fail
          go_roundw
          case rel => exact ⟨k + 1, by omega, by go_num, by rw [HG.out]; exact HOW, HB⟩
          case measure => simp [intOf]; omega
      · obtain rfl : k = l.length := by omega
        obtain ⟨A2, c2, rfl, h2⟩ := own_arr HOW.out
        have H2 := Lib.hid h2
        clear h2 s0
        go_wp2_with fail
        go_ret2
        exact ⟨⟨A2, c2, by rw [HZ.out, G.out]; rfl, by rw [G.out]; exact H2.out⟩, HW.out.trans (HB.out.mono HW.out.size)⟩
  · have G := Lib.hid (show ovOut l day = [] from if_neg (by rw [← HO.out]; exact he))
    have e2 : (O != 0) = true := by simpa using he
    have e3 : (O == 0) = false := by simpa using he
    clear he
    go_wp2_with fail
    go_ret2
    exact ⟨⟨none, 0, by rw [← HO.out, G.out]; rfl, by rw [G.out]; exact ⟨Nat.le_refl _, by decide, fun hh => absurd hh (by simp)⟩⟩, HW.out⟩
end Go.Proofs.YtfjdnbnalihjiaaGreatDoor
