/- Texts: cut at a byte, joined, and looked for in a list: what the library's functions and the reference's return. Conditions: texts are shorter than 2^32 bytes; what is joined is below 2^47 bytes. -/
import Derived.Test.YtfjdnbnalihjiaaGreatDoorXS
import Derived.Test.YtfjdnbnalihjiaaGreatDoorT8
import Derived.Test.YtfjdnbnalihjiaaGreatDoorT12
import Derived.Test.YtfjdnbnalihjiaaGreatDoorK3
import Derived.Test.YtfjdnbnalihjiaaGreatDoorK8
namespace Go.Proofs.YtfjdnbnalihjiaaGreatDoor
open Go.RowKit Fs
open Go.Shelf in
set_option maxHeartbeats 1000000 in
/-- The library's cutting at one byte: nothing is asked of its own variables. -/
theorem Any.split_one {P : Program} {ρ : Ren} (L : Go.Proofs.Lays.n146 P ρ) (hi9 : (P.info? (ρ.t 9)).map (fun i => (i.zero, i.size, i.bytes)) = some (some (.string ByteArray.empty), 1, 16)) (s : ByteArray) (b : UInt8) (w : World) (hs : s.size < 4294967281) :
    Calls P (ρ.f 146) #[.string s, .string ⟨#[b]⟩] w fun e w' =>
      e = .returned (.slice (some ⟨w.heap.size, 0, none⟩) (Lib.countB s ⟨#[b]⟩ + 1) (Lib.countB s ⟨#[b]⟩ + 1)) ∧ w' = w.alloc (.cells ((Lib.splitB ⟨#[b]⟩ 0 (Lib.countB s ⟨#[b]⟩) s).map Value.string).toArray (ρ.t 9)) := by
  have h1 : 1 ≤ (⟨#[b]⟩ : ByteArray).size := Nat.le_refl 1
  have hle := Lib.countB_le ⟨#[b]⟩ h1 s.size s (Nat.le_refl _)
  have hlen := Lib.splitB_all ⟨#[b]⟩ h1 0 _ s rfl
  have c := Go.Proofs.Any.strings_genSplit_core { L with } hi9 s ⟨#[b]⟩ 0 (-1) (Lib.countB s ⟨#[b]⟩ + 1) w hs h1 (Nat.zero_le _)
    (fun x c hx => (Go.Proofs.Any.strings_Index_one { L with } x b _).mono fun e w' ⟨he, hw⟩ => ⟨by rw [he]; show _ = Ending.returned (Value.int .i64 (Lib.index x.data.toList [b])); rw [Lib.index_one], hw⟩)
    ((Go.Proofs.Any.strings_Count_one { L with } s b w).mono fun e w' ⟨he, hw⟩ => ⟨by
      rw [he]
      show _ = Ending.returned (Value.int .i64 ((Lib.count s.data.toList [b] : Nat) : Int))
      rw [Lib.count_one]
      rfl, hw⟩) (by decide) (by decide) (by rw [if_pos (by decide)]; omega)
  rw [Nat.add_sub_cancel, hlen] at c
  have e2 : Lib.cellsOf (Lib.splitB ⟨#[b]⟩ 0 (Lib.countB s ⟨#[b]⟩) s) (Lib.countB s ⟨#[b]⟩ + 1) = ((Lib.splitB ⟨#[b]⟩ 0 (Lib.countB s ⟨#[b]⟩) s).map Value.string).toArray := by rw [← hlen]; exact Lib.cellsOf_full _
  rw [e2] at c
  have t3 := L.t3; have t9 := L.t9; have t31 := L.t31
  have a3 := L.a3; have a9 := L.a9; have a31 := L.a31
  have z3 := L.z3; have v3 := L.v3; have z9 := L.z9; have v9 := L.v9; have z31 := L.z31; have v31 := L.v31
  have e221 : ∀ args w, (callFunc (ρ.f 221) args).run P w = .ok (.enter (ρ.f 221) args) w := enters_of L.f221 (by kernel_rfl) rfl
  go_enter L.f146, Body.n146_ntmps ρ
  go_wp2_with (go_at_fn (ρ.f 221); refine c.mono ?_; rintro e w' ⟨rfl, hw⟩; rw [hw])
  go_ret
  exact ⟨rfl, rfl⟩
def strVals (l : List ByteArray) : List Value := l.map Value.string
theorem listS_get {l : List ByteArray} {i : Nat} (h : i < l.length) : l[i]? = some (listS l i) := by
  unfold listS
  rw [List.getD_eq_getElem?_getD, List.getElem?_eq_getElem h]
  rfl
theorem strVals_get {l : List ByteArray} {i : Nat} (h : i < l.length) : (strVals l)[i]? = some (.string (listS l i)) := by
  unfold strVals
  rw [List.getElem?_map, listS_get h]
  rfl
theorem RowV.arrS {w : World} {g c : Nat} {t : TypeId} {l : List ByteArray} (h : RowV w g t (strVals l)) (h1 : l.length ≤ c) (h2 : c ≤ maxLen) : ArrS w (some ⟨g, 0, none⟩) l c := by
  refine ⟨h1, h2, fun _ => ⟨g, 0, rfl, fun i j hi hj => ?_⟩⟩
  have hj0 : j = 0 := by omega
  subst hj0
  rw [show 0 + i * 1 + 0 = i by omega, h.cell]
  exact strVals_get hi
theorem RowV.mk (w : World) (l : List Value) (t : TypeId) : RowV (w.alloc (.cells l.toArray t)) w.heap.size t l := heap_alloc_new w _
theorem intVals_at {l : List Int} {i : Nat} (h : i < l.length) : (intVals l)[i]? = some (.int .i64 (listI l i)) := by
  unfold intVals listI
  rw [List.getElem?_map, List.getD_eq_getElem?_getD, List.getElem?_eq_getElem h]
  rfl
theorem RowV.arrI {w : World} {g c : Nat} {t : TypeId} {l : List Int} (h : RowV w g t (intVals l)) (h1 : l.length ≤ c) (h2 : c ≤ maxLen) : ArrI w (some ⟨g, 0, none⟩) l c := by
  refine ⟨h1, h2, fun _ => ⟨g, 0, rfl, fun i j hi hj => ?_⟩⟩
  have hj0 : j = 0 := by omega
  subst hj0
  rw [show 0 + i * 1 + 0 = i by omega, h.cell]
  exact intVals_at hi
theorem own_arrS {w : World} {base : Nat} {e : TypeId} {v : Value} {l : List ByteArray} (h : w.ownsRow base e 1 v l.length (strVals l)) :
    ∃ A c, v = .slice A l.length c ∧ ArrS w A l c := by
  rcases h.2 with ⟨hv, hn⟩ | ⟨g, cap, cur, hv, hb, hh, h1, h2, h3, h4⟩
  · have : l = [] := List.eq_nil_of_length_eq_zero hn
    subst this
    exact ⟨none, 0, hv, Nat.le_refl _, by omega, fun hh => absurd hh (by simp)⟩
  · refine ⟨_, cap, hv, h1, h2, fun _ => ⟨g, 0, rfl, fun i j hi hj => ?_⟩⟩
    have hj0 : j = 0 := by omega
    subst hj0
    have hc := h.cells (g := g) (by rw [hv]; rfl) i (.string (listS l i)) (strVals_get hi)
    have e1 : (⟨g, 0 + i * 1 + 0, none⟩ : Addr) = Addr.add ⟨g, 0, none⟩ i := by
      unfold Addr.add
      by_cases h0 : i = 0
      · subst h0; rfl
      · rw [if_neg h0]; simp
    rw [e1]
    exact hc
theorem strVals_snoc (l : List ByteArray) (x : ByteArray) : strVals (l ++ [x]) = strVals l ++ [.string x] := by simp [strVals]
theorem oneStr (x : ByteArray) : ∀ u ∈ [Value.string x], u.oneCell' = true := by
  intro u hu
  have : u = .string x := by simpa using hu
  subst this
  rfl
theorem join_any (l : List ByteArray) (A : Option Addr) (c : Nat) (b : UInt8) (w : World) (h : ArrS w A l c) (hn : l.length ≤ 140737488355328) (hl : (joinB b l).size ≤ 140737488355328) :
    Calls Tryz.prog 125 #[.slice A l.length c, .string ⟨#[b]⟩] w fun e w' => e = .returned (.string (joinB b l)) ∧ Below w.heap.size w w' := by
  by_cases h0 : l = []
  · subst h0
    exact (Tryz.strings_Join_none A c ⟨#[b]⟩ w).mono fun e w' ⟨he, hw⟩ => ⟨he, hw ▸ Below.refl _ _⟩
  · have hp : 0 < l.length := List.length_pos_iff.2 h0
    obtain ⟨g, o, rfl, hc⟩ := h.2.2 hp
    have hbk : g < w.heap.size := World.block_lt_of_cell? w _ (hc 0 0 hp (by decide))
    refine Tryz.strings_Join g o c l ⟨#[b]⟩ w (fun j x hx => ?_) hbk hn h.1 ?_
    · have hj : j < l.length := (List.getElem?_eq_some_iff.1 hx).1
      have := hc j 0 hj (by decide)
      rw [listS_get hj] at hx
      injection hx with hx
      rw [show o + j * 1 + 0 = o + j by omega] at this
      rw [this, ← hx]
    · have e : (joinB b l).size = (Lib.join (l.map (·.data.toList)) [b]).length := by unfold joinB; simp [ByteArray.size]
      rw [e] at hl
      exact hl
theorem joinN_any (l : List ByteArray) (n : Nat) (A : Option Addr) (c : Nat) (b : UInt8) (w : World) (hl0 : l.length = n) (h : ArrS w A l c) (hn : n ≤ 140737488355328) (hl : (joinB b l).size ≤ 140737488355328) :
    Calls Tryz.prog 125 #[.slice A n c, .string ⟨#[b]⟩] w fun e w' => e = .returned (.string (joinB b l)) ∧ Below w.heap.size w w' := by
  subst hl0
  exact join_any l A c b w h hn hl
theorem containsI_any (l : List Int) (A : Option Addr) (c : Nat) (x : Int) (w : World) (h : ArrI w A l c) :
    Calls Tryz.prog 99 #[.slice A l.length c, .int .i64 x] w fun e w' => e = .returned (.bool (l.contains x)) ∧ w = w' := by
  by_cases h0 : l = []
  · subst h0
    exact (Tryz.slices_Contains_int_empty A c x w).mono fun e w' ⟨he, hw⟩ => ⟨he, hw.symm⟩
  · have hp : 0 < l.length := List.length_pos_iff.2 h0
    obtain ⟨g, o, rfl, hc⟩ := h.2.2 hp
    refine (Tryz.slices_Contains_int g o l.length c l x w (Nat.le_refl _) (Nat.le_trans h.1 h.2.1) (fun j hj => ?_)).mono fun e w' ⟨he, hw⟩ => ⟨by rw [he, List.take_length], hw.symm⟩
    have := hc j 0 hj (by decide)
    rw [show o + j * 1 + 0 = o + j by omega] at this
    exact this
theorem Fs.listS_mem {l : List ByteArray} {i : Nat} (h : i < l.length) : listS l i ∈ l := List.mem_of_getElem? (listS_get h)
theorem Fs.mem_listS {l : List ByteArray} {x : ByteArray} (h : x ∈ l) : ∃ k, k < l.length ∧ listS l k = x := by
  obtain ⟨k, hk, e⟩ := List.getElem_of_mem h
  refine ⟨k, hk, ?_⟩
  have := listS_get hk
  rw [List.getElem?_eq_getElem hk] at this
  injection this with this
  rw [← this, e]
def Fs.mkB (l : List UInt8) : ByteArray := ⟨l.toArray⟩
theorem Fs.take_more {S : List UInt8} {f k : Nat} (hf : f ≤ k) (hk : k < S.length) : (S.drop f).take (k + 1 - f) = (S.drop f).take (k - f) ++ [S[k]] := by
  rw [show k + 1 - f = (k - f) + 1 by omega, List.take_add_one, List.getElem?_drop, show f + (k - f) = k by omega, List.getElem?_eq_getElem hk]
  rfl
theorem Fs.cut_part {b : UInt8} {S : List UInt8} {f k : Nat} (hf : f ≤ k) (hk : k < S.length) (hb : S[k] = b) (hn : b ∉ (S.drop f).take (k - f)) :
    cut b (S.drop f) = (S.drop f).take (k - f) :: cut b (S.drop (k + 1)) := by
  have e : S.drop f = (S.drop f).take (k - f) ++ b :: S.drop (k + 1) := by
    conv => lhs; rw [← List.take_append_drop (k - f) (S.drop f)]
    rw [List.drop_drop, show f + (k - f) = k by omega, List.drop_eq_getElem_cons hk, hb]
  conv => lhs; rw [e]
  exact cut_hit _ hn
end Go.Proofs.YtfjdnbnalihjiaaGreatDoor
/- The text of an item. Conditions: what Itoa answers of its day; short words, few marks. -/
namespace Go.Proofs.YtfjdnbnalihjiaaGreatDoor
open Go.RowKit Fs

theorem glens_le {m : Nat} {P : List ByteArray} (h : ∀ p ∈ P, p.size ≤ m) : Lib.lens (P.map (·.data.toList)) ≤ m * P.length := by
  induction P with
  | nil => exact Nat.zero_le _
  | cons x r ih =>
    have h1 := ih fun p hp => h p (List.mem_cons_of_mem _ hp)
    have h2 := h x (by simp)
    rw [Lib.size_eq] at h2
    unfold Lib.lens at h1 ⊢
    simp only [List.map_cons, List.sum_cons, List.length_cons] at h1 ⊢
    rw [Nat.mul_add]
    omega
theorem gjoinB_size {b : UInt8} {m : Nat} {P : List ByteArray} (h : ∀ p ∈ P, p.size ≤ m) : (joinB b P).size ≤ (m + 1) * P.length := by
  have e : (joinB b P).size = (Lib.join (P.map (·.data.toList)) [b]).length := by unfold joinB; simp [ByteArray.size]
  rw [e]
  cases P with
  | nil => simp [Lib.join_nil]
  | cons x r =>
    rw [List.map_cons, Lib.join_length, ← List.map_cons (f := fun p : ByteArray => p.data.toList)]
    have := glens_le h
    rw [Nat.add_mul]
    simp only [List.length_map, List.length_cons, List.length_nil] at this ⊢
    omega
def Fs.markText (m : Mrk) : ByteArray := m.key ++ ⟨#[61]⟩ ++ m.val
def Fs.textTo2 (x : Thg) (t : ByteArray) : Nat → List ByteArray
  | 0 => [x.name, t, x.who]
  | k + 1 => textTo2 x t k ++ [markText (lMrk x.marks k)]
theorem Fs.textTo2_len (x : Thg) (t : ByteArray) : ∀ k, (textTo2 x t k).length = k + 3
  | 0 => rfl
  | k + 1 => by rw [textTo2, List.length_append, textTo2_len x t k]; rfl
theorem Fs.markText_size (m : Mrk) : (markText m).size = m.key.size + 1 + m.val.size := by
  unfold markText; rw [ByteArray.size_append, ByteArray.size_append]; rfl
structure Fs.FewTexts (x : Thg) (t : ByteArray) : Prop where
  name : x.name.size ≤ 20
  who : x.who.size ≤ 20
  day : t.size ≤ 20
  many : x.marks.length ≤ 10
  marks : ∀ i, i < x.marks.length → (lMrk x.marks i).key.size ≤ 20 ∧ (lMrk x.marks i).val.size ≤ 20
theorem Fs.textTo2_size {x : Thg} {t : ByteArray} (h : FewTexts x t) : ∀ {k}, k ≤ x.marks.length → ∀ p ∈ textTo2 x t k, p.size ≤ 41
  | 0, _, p, hp => by
    have : p = x.name ∨ p = t ∨ p = x.who := by simpa [textTo2] using hp
    have h1 := h.name
    have h2 := h.who
    have h3 := h.day
    rcases this with e | e | e <;> rw [e] <;> omega
  | k + 1, hk, p, hp => by
    rw [textTo2, List.mem_append] at hp
    rcases hp with hp | hp
    · exact textTo2_size h (by omega) p hp
    · have e : p = markText (lMrk x.marks k) := by simpa using hp
      have := h.marks k (by omega)
      rw [e, markText_size]; omega
theorem Tryz.infoStrG : (Tryz.prog.info? 9).map (fun i => (i.zero, i.size, i.bytes)) = some (some (.string ⟨#[]⟩), 1, 16) := by kernel_rfl
set_option linter.unusedSimpArgs false in
set_option maxHeartbeats 12800000 in
set_option maxRecDepth 100000 in
theorem xFormat_any (x : Thg) (v : Value) (t : ByteArray) (w : World) (hv : RdThg w v x) (hI : ∀ w, Calls Tryz.prog 124 #[.int .i64 x.day] w fun e w' => e = .returned (.string t) ∧ Below w.heap.size w w') (hF : FewTexts x t) :
    Calls Tryz.prog 74 #[v] w fun e w' => e = .returned (.string (joinB 32 (textTo2 x t x.marks.length))) ∧ Below w.heap.size w w' := by
  obtain ⟨i0, hi, hz0, hz1, hz2⟩ := info_parts Tryz.infoStrG
  obtain ⟨p, pc, rfl, m⟩ := hv
  have M1 := Lib.hid (m.keep (Keep.alloc w (.cells #[.string x.name, .int .i64 x.day, .string x.who, .slice p x.marks.length pc] 24)))
  have b1 := m.le.1
  have b2 := m.le.2
  have BX := Lib.hid (ThgAt.new w x p pc 24)
  have HW := Lib.hid ((Below.refl w.heap.size w).alloc (Nat.le_refl _) (.cells #[.string x.name, .int .i64 x.day, .string x.who, .slice p x.marks.length pc] 24))
  have HI := Lib.hid hI
  have HF := Lib.hid hF
  have hmany := hF.many
  clear m hI hF
  go_enter Tryz.func74, Tryz.ntmps74
  go_upto_region 1 with fail
  generalize w.alloc _ = wb at *
  obtain ⟨q0, q1, q2, q3⟩ := BX.out
  go_wp2_with fail
  have HBd : Hid (Below wb.heap.size wb wb.drew) := Lib.hid (Below.refl _ _).drew
  have MK : Hid (∀ w', Below wb.heap.size wb w' → w'.cell? ⟨w.heap.size, 0, none⟩ = some (.string x.name) ∧ w'.cell? ⟨w.heap.size, 1, none⟩ = some (.int .i64 x.day) ∧ w'.cell? ⟨w.heap.size, 2, none⟩ = some (.string x.who) ∧ w'.cell? ⟨w.heap.size, 3, none⟩ = some (.slice p x.marks.length pc) ∧ Hid (Below wb.heap.size wb w')) :=
    Lib.hid fun w' hw => ⟨Keep.below hw _ _ q0, Keep.below hw _ _ q1, Keep.below hw _ _ q2, Keep.below hw _ _ q3, Lib.hid hw⟩
  refine wp_region_held_drew (S := fun w' => w'.cell? ⟨w.heap.size, 0, none⟩ = some (.string x.name) ∧ w'.cell? ⟨w.heap.size, 1, none⟩ = some (.int .i64 x.day) ∧ w'.cell? ⟨w.heap.size, 2, none⟩ = some (.string x.who) ∧ w'.cell? ⟨w.heap.size, 3, none⟩ = some (.slice p x.marks.length pc) ∧ Hid (Below wb.heap.size wb w')) (by kernel_rfl) (MK.out _ HBd.out) (fun hHeld => ?_)
  refine wpAnyH_take (i := 0) (v := ?val0x7) rfl (by kernel_rfl) (by kernel_rfl) (by kernel_rfl) (fun _ _ _ h => h) (Or.inl ⟨by rfl, fun w9 hS9 => ?yields0x7⟩) (by assumption) ?later0x7
  case yields0x7 =>
    dsimp only at hS9
    go_simp
    try with_reducible rfl
  try simp only [Act.put, List.getElem_toArray, List.getElem_cons_succ, List.getElem_cons_zero, List.setIfInBounds_toArray, List.set_cons_zero, List.set_cons_succ]
  refine wpAnyH_take (i := 1) (v := ?val1x8) rfl (by kernel_rfl) (by kernel_rfl) (by kernel_rfl) (fun _ _ _ h => h) (Or.inl ⟨by rfl, fun w9 hS9 => ?yields1x8⟩) (by assumption) ?later1x8
  case yields1x8 =>
    dsimp only at hS9
    go_simp
    try with_reducible rfl
  try simp only [Act.put, List.getElem_toArray, List.getElem_cons_succ, List.getElem_cons_zero, List.setIfInBounds_toArray, List.set_cons_zero, List.set_cons_succ]
  refine wpAnyH_take (i := 2) (v := ?val2x9) rfl (by kernel_rfl) (by kernel_rfl) (by kernel_rfl) (fun _ _ _ h => h) (Or.inl ⟨by rfl, fun w9 hS9 => ?yields2x9⟩) (by assumption) ?later2x9
  case yields2x9 =>
    dsimp only at hS9
    go_simp
    try with_reducible rfl
  try simp only [Act.put, List.getElem_toArray, List.getElem_cons_succ, List.getElem_cons_zero, List.setIfInBounds_toArray, List.set_cons_zero, List.set_cons_succ]
  refine wpAnyH_take (i := 3) (v := ?val3x10) rfl (by kernel_rfl) (by kernel_rfl) (by kernel_rfl) (fun _ _ _ h => h) (Or.inl ⟨by rfl, fun w9 hS9 => ?yields3x10⟩) (by assumption) ?later3x10
  case yields3x10 =>
    dsimp only at hS9
    go_simp
    try with_reducible rfl
  try simp only [Act.put, List.getElem_toArray, List.getElem_cons_succ, List.getElem_cons_zero, List.setIfInBounds_toArray, List.set_cons_zero, List.set_cons_succ]
  refine wpAnyH_take (i := 5) (v := ?val5x11) rfl (by kernel_rfl) (by kernel_rfl) (by kernel_rfl) (fun _ _ _ h => h) (Or.inl ⟨by rfl, fun w9 hS9 => ?yields5x11⟩) (by assumption) ?later5x11
  case yields5x11 =>
    dsimp only at hS9
    go_simp
    try with_reducible rfl
  try simp only [Act.put, List.getElem_toArray, List.getElem_cons_succ, List.getElem_cons_zero, List.setIfInBounds_toArray, List.set_cons_zero, List.set_cons_succ]
  refine wpAnyH_take (i := 6) (v := ?val6x12) rfl (by kernel_rfl) (by kernel_rfl) (by kernel_rfl) (fun _ _ _ h => h) (Or.inl ⟨by rfl, fun w9 hS9 => ?yields6x12⟩) (by assumption) ?later6x12
  case yields6x12 =>
    dsimp only at hS9
    go_simp
    try with_reducible rfl
  try simp only [Act.put, List.getElem_toArray, List.getElem_cons_succ, List.getElem_cons_zero, List.setIfInBounds_toArray, List.set_cons_zero, List.set_cons_succ]
  refine wpAnyH_ready (rs := [4]) (by kernel_rfl) (by simp) ?_
  refine AllReadyH.cons rfl (fun K hK => ?_) AllReadyH.nil
  go_simp
  go_at_call 124
  go_split_ands
  refine (HI.out _).mono ?_
  rintro e' w5 ⟨rfl, hb1⟩
  have HO5 := Lib.hid (World.ownsRow_lit (base := wb.heap.size) (e := 9) (size := 1) w5 #[.string x.name, .string t, .string x.who] 3 (by have := hb1.size; simpa using this) (by decide) rfl)
  go_wp2_with fail
  refine hK.out _ _ ?_ (fun hHeld => ?_)
  · (try dsimp only)
    (go_split_ands; exact MK.out _ (Below.trans (Hid.out (by assumption)) (hb1.mono (Hid.out (by assumption) : Below wb.heap.size wb _).size)))
  clear hK K
  try simp only [Act.put, List.getElem_toArray, List.getElem_cons_succ, List.getElem_cons_zero, List.setIfInBounds_toArray, List.set_cons_zero, List.set_cons_succ]
  refine wpAnyH_ready (rs := [7]) (by kernel_rfl) (by simp) ?_
  refine AllReadyH.cons rfl (fun K hK => ?_) AllReadyH.nil
  go_simp
  refine hK.out _ _ ?_ (fun hHeld => ?_)
  · (try dsimp only)
    (go_split_ands; exact MK.out _ (Below.alloc (Hid.out (by assumption)) (Hid.out (by assumption) : Below wb.heap.size wb _).size _))
  clear hK K
  try simp only [Act.put, List.getElem_toArray, List.getElem_cons_succ, List.getElem_cons_zero, List.setIfInBounds_toArray, List.set_cons_zero, List.set_cons_succ]
  refine wpAnyH_take (i := 8) (v := ?val8x13) rfl (by kernel_rfl) (by kernel_rfl) (by kernel_rfl) (fun _ _ _ h => h) (Or.inl ⟨by rfl, fun w9 hS9 => ?yields8x13⟩) (by assumption) ?later8x13
  case yields8x13 =>
    dsimp only at hS9
    go_simp
    try with_reducible rfl
  try simp only [Act.put, List.getElem_toArray, List.getElem_cons_succ, List.getElem_cons_zero, List.setIfInBounds_toArray, List.set_cons_zero, List.set_cons_succ]
  refine wpAnyH_done (by kernel_rfl) ?_ _
  obtain ⟨-, -, -, -, HB⟩ := hHeld
  clear HBd MK
  replace HO5 : Hid ((w5.alloc (.cells #[.string x.name, .string t, .string x.who] 9)).ownsRow wb.heap.size 9 1 (.slice (some ⟨w5.heap.size, 0, none⟩) 3 3) (textTo2 x t 0).length (strVals (textTo2 x t 0))) := HO5
  generalize w5.alloc _ = wc at *
  have HR := Lib.hid (BX.out.keep (Keep.below HB.out))
  clear q0 q1 q2 q3
  obtain ⟨q0, q1, q2, q3⟩ := HR.out
  go_wp2_with fail
  go_loopw [3, 17] (fun u i wr => ∃ k : Nat, k ≤ x.marks.length ∧ i = .int .i64 k ∧ Hid (wr.ownsRow wb.heap.size 9 1 u (textTo2 x t k).length (strVals (textTo2 x t k))) ∧ Hid (Below wb.heap.size wb wr)) (fun _ i _ => x.marks.length - (intOf i).toNat)
  case atStart => exact ⟨0, Nat.zero_le _, rfl, HO5, HB⟩
  case round =>
    clear q0 q1 q2 q3 HB
    obtain ⟨k, hk, rfl, HO, HB⟩ := hrel
    have hgl : (textTo2 x t k).length ≤ k + 3 := Nat.le_of_eq (textTo2_len x t k)
    by_cases hlt : k < x.marks.length
    · have hkn : (k : Int) < (x.marks.length : Int) := by omega
      obtain ⟨b, o, rfl, ⟨q0, q1⟩⟩ := (M1.out.keep (Keep.below HB.out)).at_ hlt
      obtain ⟨z1, z2⟩ := HF.out.marks k hlt
      have HG := Lib.hid (show textTo2 x t (k + 1) = textTo2 x t k ++ [markText (lMrk x.marks k)] from rfl)
      have e0 := cellNew wr #[.string (lMrk x.marks k).key, .string (lMrk x.marks k).val] 119 0
      have e1 := cellNew wr #[.string (lMrk x.marks k).key, .string (lMrk x.marks k).val] 119 1
      replace HO := Lib.hid (below_of_own HO.out ((Below.refl _ _).alloc (Nat.le_refl _) (.cells #[.string (lMrk x.marks k).key, .string (lMrk x.marks k).val] 119)))
      replace HB := Lib.hid (HB.out.alloc HB.out.size (.cells #[.string (lMrk x.marks k).key, .string (lMrk x.marks k).val] 119))
      obtain ⟨m, hm⟩ : ∃ m, m = lMrk x.marks k := ⟨_, rfl⟩
      rw [← hm] at q0 q1 z1 z2 HG e0 e1 HO HB
      clear hm
      have s0 : (⟨#[61]⟩ : ByteArray).size = 1 := rfl
      have s1 : (m.key ++ ⟨#[61]⟩).size = m.key.size + 1 := by rw [ByteArray.size_append]; rfl
      have s2 : ¬ 9223372036854775807 < m.key.size + (⟨#[61]⟩ : ByteArray).size := by omega
      have s3 : ¬ 9223372036854775807 < (m.key ++ ⟨#[61]⟩).size + m.val.size := by omega
      have s4 : ¬ 9223372036854775807 < m.key.size + 1 := by omega
      have s5 : ¬ 9223372036854775807 < m.key.size + 1 + m.val.size := by omega
      have hmt : markText m = m.key ++ ⟨#[61]⟩ ++ m.val := rfl
      have HMT := Lib.hid hmt
      clear hmt
      rw [HMT.out] at HG
      go_wp2_with (at_builtin
                   refine wpList_append_own _ rfl (.tmp 21) (.tmp 28) 133 rfl wb.heap.size 9 i0 _ 1 16 Tryz.underlying133 hi hz0 hz1 hz2 rfl (by decide) _ _ _ rfl (HO.out.alloc _) ⟨_, 0, none⟩ 1 1 [.string (m.key ++ ⟨#[61]⟩ ++ m.val)] rfl rfl ?c1 ?c2 ?c3 ?c4 ?c5 ?_)
      case c1 => exact news1 _ _ _ _
      case c2 => exact oneStr _
      case c3 => unfold maxLen; omega
      case c4 => omega
      case c5 => have := HB.out.size; simp at this ⊢; omega
      intro v9 w9 ho9 hg9 _
      go_wp2_with fail
      go_roundw
      case rel =>
        refine ⟨k + 1, by omega, by go_num, Lib.hid ?_, Lib.hid ?_⟩
        · rw [HG.out, strVals_snoc, List.length_append]
          exact ho9
        · exact (HB.out.alloc HB.out.size _).grown hg9 (by have := HB.out.size; simp at this ⊢; omega) (fun j hj => (HO.out.lt j hj).1)
      case measure => simp [intOf]; omega
    · obtain rfl : k = x.marks.length := by omega
      obtain ⟨A2, c2, rfl, h2⟩ := own_arrS HO.out
      have HJ := Lib.hid (joinN_any (textTo2 x t x.marks.length) (textTo2 x t x.marks.length).length A2 c2 32 wr rfl h2 (by omega) (Nat.le_trans (gjoinB_size (textTo2_size HF.out (Nat.le_refl _))) (by omega)))
      clear h2
      go_wp2_with fail
      refine HJ.out.mono ?_
      rintro e w9 ⟨rfl, hb1⟩
      go_wp2_with fail
      go_ret
      exact ⟨rfl, HW.out.trans ((HB.out.trans (hb1.mono HB.out.size)).mono HW.out.size)⟩
end Go.Proofs.YtfjdnbnalihjiaaGreatDoor
