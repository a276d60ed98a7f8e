/- Plain facts: ascending marks, and what one mark less changes. No condition. -/
import Derived.Test.YtfjdnbnalihjiaaGreatDoorG12
import Derived.Maps.OwnSet
import Derived.StringKeys
import Derived.Maps.StringElems
import Derived.Test.YtfjdnbnalihjiaaGreatDoorK3
namespace Go.Proofs.YtfjdnbnalihjiaaGreatDoor
open Go.RowKit Fs

theorem Fs.less_irrefl (a : List UInt8) : Go.Op.bytesLess a a = false := by
  induction a with
  | nil => rfl
  | cons x a ih => simp [Go.Op.bytesLess, ih]
theorem Fs.less_trans : ∀ (a b c : List UInt8), Go.Op.bytesLess a b = true → Go.Op.bytesLess b c = true → Go.Op.bytesLess a c = true
  | a, b, [], _, h => by cases b <;> simp [Go.Op.bytesLess] at h
  | a, [], _ :: _, h, _ => by cases a <;> simp [Go.Op.bytesLess] at h
  | [], _ :: _, _ :: _, _, _ => by simp [Go.Op.bytesLess]
  | x :: a, y :: b, z :: c, h1, h2 => by
    simp only [Go.Op.bytesLess, Bool.or_eq_true, Bool.and_eq_true, decide_eq_true_eq, beq_iff_eq] at h1 h2 ⊢
    rcases h1 with h1 | ⟨rfl, h1⟩
    · rcases h2 with h2 | ⟨rfl, h2⟩
      · exact Or.inl (UInt8.lt_trans h1 h2)
      · exact Or.inl h1
    · rcases h2 with h2 | ⟨rfl, h2⟩
      · exact Or.inl h2
      · exact Or.inr ⟨rfl, less_trans a b c h1 h2⟩
theorem Fs.less_total : ∀ (a b : List UInt8), Go.Op.bytesLess a b = false → a ≠ b → Go.Op.bytesLess b a = true
  | [], [], _, h => absurd rfl h
  | [], _ :: _, h, _ => by simp [Go.Op.bytesLess] at h
  | _ :: _, [], _, _ => by simp [Go.Op.bytesLess]
  | x :: a, y :: b, h, hn => by
    simp only [Go.Op.bytesLess, Bool.or_eq_false_iff, Bool.and_eq_false_iff, decide_eq_false_iff_not, beq_eq_false_iff_ne] at h
    simp only [Go.Op.bytesLess, Bool.or_eq_true, Bool.and_eq_true, decide_eq_true_eq, beq_iff_eq]
    by_cases e : x = y
    · subst e
      refine Or.inr ⟨rfl, less_total a b ?_ (fun hh => hn (by rw [hh]))⟩
      rcases h.2 with h2 | h2
      · exact absurd rfl h2
      · exact h2
    · refine Or.inl ?_
      have h1 := h.1
      rcases UInt8.lt_or_lt_of_ne e with h2 | h2
      · exact absurd h2 h1
      · exact h2
/-- The key of mark i is less than that of mark j. -/
def Fs.KeyLt (x y : Mrk) : Prop := Go.Op.bytesLess x.key.toList y.key.toList = true
theorem Fs.keyLt_of_leB {x y : Mrk} (h : leB y.key x.key = false) : KeyLt x y := by
  unfold leB at h
  rw [Bool.or_eq_false_iff] at h
  exact less_total _ _ h.1 (by simpa using h.2)
theorem Fs.leB_of_keyLt {x y : Mrk} (h : KeyLt x y) : leB y.key x.key = false := by
  unfold leB
  rw [Bool.or_eq_false_iff]
  unfold KeyLt at h
  constructor
  · cases e : Go.Op.bytesLess y.key.toList x.key.toList with
    | false => rfl
    | true => have := less_trans _ _ _ h e; rw [less_irrefl] at this; cases this
  · cases e : y.key.toList == x.key.toList with
    | false => rfl
    | true =>
      have e2 : y.key.toList = x.key.toList := by simpa using e
      rw [e2, less_irrefl] at h; cases h
structure Fs.MarksOk (a : List Mrk) : Prop where
  len : a.length ≤ 8
  names : ∀ i, i < a.length → isName (lMrk a i).key = true ∧ isName (lMrk a i).val = true
  asc : ∀ i j, i < j → j < a.length → KeyLt (lMrk a i) (lMrk a j)
theorem Fs.marks_ok {a : List Mrk} (h : marksErr a = 0) : MarksOk a := by
  unfold marksErr at h
  by_cases h1 : 8 < a.length
  · rw [if_pos h1] at h; exact absurd h (by decide)
  · rw [if_neg h1] at h
    have h2 := fst_zero h
    have h3 : ∀ i, i < a.length → (isName (lMrk a i).key = true ∧ isName (lMrk a i).val = true) ∧ (0 < i → KeyLt (lMrk a (i - 1)) (lMrk a i)) := fun i hi => by
      have := h2 i hi
      unfold mrkErr at this
      by_cases h4 : isName (lMrk a i).key = false ∨ isName (lMrk a i).val = false
      · rw [if_pos h4] at this; exact absurd this (by decide)
      · rw [if_neg h4] at this
        refine ⟨⟨by simpa using fun e => h4 (Or.inl e), by simpa using fun e => h4 (Or.inr e)⟩, fun h0 => keyLt_of_leB ?_⟩
        cases h5 : leB (lMrk a i).key (lMrk a (i - 1)).key with
        | false => rfl
        | true => rw [if_pos ⟨h0, h5⟩] at this; exact absurd this (by decide)
    refine ⟨by omega, fun i hi => (h3 i hi).1, fun i j => ?_⟩
    induction j with
    | zero => intro h; omega
    | succ j ih =>
      intro h hj
      have h6 := (h3 (j + 1) hj).2 (by omega)
      rw [Nat.add_sub_cancel] at h6
      by_cases e : i = j
      · subst e; exact h6
      · exact less_trans _ _ _ (ih (by omega) (by omega)) h6
theorem Fs.marks_zero {a : List Mrk} (h : MarksOk a) : marksErr a = 0 := by
  unfold marksErr
  rw [if_neg (by have := h.len; omega)]
  refine fst_none fun i hi => ?_
  unfold mrkErr
  rw [if_neg (fun hh => by
    rcases hh with e | e
    · rw [(h.names i hi).1] at e; cases e
    · rw [(h.names i hi).2] at e; cases e), if_neg (fun hh => by rw [leB_of_keyLt (h.asc (i - 1) i (by omega) hi)] at hh; exact absurd hh.2 (by decide))]
theorem Fs.keys_apart {a : List Mrk} (h : MarksOk a) {i j : Nat} (hi : i < a.length) (hj : j < a.length) (e : (lMrk a i).key = (lMrk a j).key) : i = j := by
  rcases Nat.lt_trichotomy i j with h1 | h1 | h1
  · have := h.asc i j h1 hj
    unfold KeyLt at this
    rw [e, less_irrefl] at this; cases this
  · exact h1
  · have := h.asc j i h1 hi
    unfold KeyLt at this
    rw [e, less_irrefl] at this; cases this
/-- The list without its element at. -/
def Fs.without {α : Type} (a : List α) (at_ : Nat) : List α := a.take at_ ++ a.drop (at_ + 1)
theorem Fs.without_len {α : Type} {a : List α} {k : Nat} (hk : k < a.length) : (without a k).length = a.length - 1 := by
  unfold without
  rw [List.length_append, List.length_take, List.length_drop]; omega
theorem Fs.without_at {a : List Mrk} {k : Nat} (hk : k < a.length) (i : Nat) : lMrk (without a k) i = lMrk a (if i < k then i else i + 1) := by
  unfold lMrk without
  rw [List.getD_eq_getElem?_getD, List.getD_eq_getElem?_getD]
  congr 1
  by_cases h : i < k
  · rw [if_pos h, List.getElem?_append_left (by rw [List.length_take]; omega), List.getElem?_take_of_lt h]
  · rw [if_neg h, List.getElem?_append_right (by rw [List.length_take]; omega), List.length_take, List.getElem?_drop, Nat.min_eq_left (by omega)]
    congr 1; omega
theorem Fs.without_ok {a : List Mrk} (h : MarksOk a) {k : Nat} (hk : k < a.length) : MarksOk (without a k) := by
  have hl := without_len hk
  refine ⟨by have := h.len; omega, fun i hi => ?_, fun i j hij hj => ?_⟩
  · rw [without_at hk]
    exact h.names _ (by split <;> omega)
  · rw [without_at hk, without_at hk]
    exact h.asc _ _ (by split <;> split <;> omega) (by split <;> omega)
theorem Fs.sum_same {f g : Nat → Int} {n : Nat} (h : ∀ i, i < n → f i = g i) : sumTo f n = sumTo g n := by
  induction n with
  | zero => rfl
  | succ n ih => rw [sumTo, sumTo, ih (fun i hi => h i (by omega)), h n (by omega)]
theorem Fs.sum_skip (g : Nat → Int) (k : Nat) : ∀ n, k ≤ n → sumTo g (n + 1) = sumTo (fun i => g (if i < k then i else i + 1)) n + g k
  | 0, h => by
    obtain rfl : k = 0 := by omega
    rfl
  | n + 1, h => by
    by_cases e : k = n + 1
    · subst e
      rw [sumTo]
      congr 1
      exact sum_same fun i hi => by rw [if_pos hi]
    · have := sum_skip g k n (by omega)
      rw [sumTo, this, sumTo]
      rw [if_neg (by omega : ¬ n < k)]
      omega
theorem Fs.sum_few (p : Nat → Prop) [DecidablePred p] (n : Nat) (h : ∀ i j, i < n → j < n → p i → p j → i = j) : sumTo (fun i => if p i then 1 else 0) n ≤ 1 ∧ (∀ k, k < n → p k → sumTo (fun i => if p i then 1 else 0) n = 1) ∧ ((∀ k, k < n → ¬ p k) → sumTo (fun i => if p i then 1 else 0) n = 0) := by
  induction n with
  | zero => exact ⟨by show (0 : Int) ≤ 1; decide, fun k hk => absurd hk (Nat.not_lt_zero _), fun _ => rfl⟩
  | succ n ih =>
    obtain ⟨h1, h2, h3⟩ := ih fun i j hi hj => h i j (by omega) (by omega)
    by_cases hp : p n
    · have hz := h3 fun k hk hpk => by have := h k n (by omega) (by omega) hpk hp; omega
      have hs : sumTo (fun i => if p i then 1 else 0) (n + 1) = 1 := by rw [sumTo, hz, if_pos hp]; rfl
      exact ⟨by omega, fun _ _ _ => hs, fun hh => absurd hp (hh n (by omega))⟩
    · have hs : sumTo (fun i => if p i then 1 else 0) (n + 1) = sumTo (fun i => if p i then 1 else 0) n := by rw [sumTo, if_neg hp]; omega
      rw [hs]
      refine ⟨h1, fun k hk hpk => h2 k ?_ hpk, fun hh => h3 fun k hk => hh k (by omega)⟩
      by_cases e : k = n
      · subst e; exact absurd hpk hp
      · omega
theorem Fs.one_key (x : Mrk) {b : List Mrk} (h : MarksOk b) : agreeIn x b b.length + differIn x b b.length ≤ 1 := by
  unfold agreeIn differIn
  rw [← sum_add, sum_same (g := fun j => if x.key = (lMrk b j).key then 1 else 0) (fun j _ => by
    by_cases e : x.key = (lMrk b j).key
    · by_cases e2 : x.val = (lMrk b j).val
      · rw [if_pos ⟨e, e2⟩, if_neg (fun hh => hh.2 e2), if_pos e]; rfl
      · rw [if_neg (fun hh => e2 hh.2), if_pos ⟨e, e2⟩, if_pos e]; rfl
    · rw [if_neg (fun hh => e hh.1), if_neg (fun hh => e hh.1), if_neg e]; rfl)]
  exact (sum_few (fun j => x.key = (lMrk b j).key) b.length fun i j hi hj h1 h2 => keys_apart h hi hj (h1.symm.trans h2)).1
theorem Fs.self_in {a : List Mrk} (h : MarksOk a) {i : Nat} (hi : i < a.length) : agreeIn (lMrk a i) a a.length = 1 ∧ differIn (lMrk a i) a a.length = 0 := by
  have h1 := (sum_few (fun j => (lMrk a i).key = (lMrk a j).key ∧ (lMrk a i).val = (lMrk a j).val) a.length fun _ _ hk hj h1 h2 => keys_apart h hk hj (h1.1.symm.trans h2.1)).2.1 i hi ⟨rfl, rfl⟩
  have h2 := one_key (lMrk a i) h
  have h3 := differIn_bd (lMrk a i) a a.length
  have h4 : agreeIn (lMrk a i) a a.length = 1 := h1
  exact ⟨h4, by omega⟩
theorem Fs.sum_const (c : Int) (n : Nat) : sumTo (fun _ => c) n = n * c := by
  induction n with
  | zero => simp [sumTo]
  | succ n ih => rw [sumTo, ih]; push_cast; rw [Int.add_mul]; omega
/-- Marks agree with themselves in all keys. -/
theorem Fs.agrees_self {a : List Mrk} (h : MarksOk a) : agrees a a = a.length ∧ differs a a = 0 := by
  unfold agrees differs agreeTo differTo
  rw [sum_same (g := fun _ => 1) fun i hi => (self_in h hi).1, sum_same (g := fun _ => 0) fun i hi => (self_in h hi).2, sum_const, sum_zero]
  exact ⟨by omega, rfl⟩
/-- One mark less. -/
theorem Fs.agrees_fewer {a b : List Mrk} (hb : MarksOk b) {k : Nat} (hk : k < a.length) :
    0 ≤ agrees a b - agrees (without a k) b ∧ 0 ≤ differs a b - differs (without a k) b ∧ agrees a b - agrees (without a k) b + (differs a b - differs (without a k) b) ≤ 1 := by
  have hl := without_len hk
  have e1 : agrees a b = agrees (without a k) b + agreeIn (lMrk a k) b b.length := by
    unfold agrees agreeTo
    rw [hl, show a.length = a.length - 1 + 1 by omega, sum_skip _ k _ (by omega), Nat.add_sub_cancel]
    congr 1
    exact sum_same fun i _ => by rw [without_at hk]
  have e2 : differs a b = differs (without a k) b + differIn (lMrk a k) b b.length := by
    unfold differs differTo
    rw [hl, show a.length = a.length - 1 + 1 by omega, sum_skip _ k _ (by omega), Nat.add_sub_cancel]
    congr 1
    exact sum_same fun i _ => by rw [without_at hk]
  have h1 := one_key (lMrk a k) hb
  have h2 := agreeIn_bd (lMrk a k) b b.length
  have h3 := differIn_bd (lMrk a k) b b.length
  omega
end Go.Proofs.YtfjdnbnalihjiaaGreatDoor
/- In how many keys two lists of right marks agree and differ, by a map. Condition: both lists are right. -/
namespace Go.Proofs.YtfjdnbnalihjiaaGreatDoor
open Go.RowKit Go.Maps Go.ChangeMaps Fs
open Go.WideElems (Fit rd rg pl rd_val elemAt)

def Fs.keyL (s : ByteArray) : Lit := .string s.data.toList
theorem Fs.data_inj {a b : ByteArray} (h : a.data.toList = b.data.toList) : a = b := by
  cases a; cases b
  congr 1
  exact Array.toList_inj.1 h
theorem Fs.keyL_ne {a b : ByteArray} (h : a ≠ b) : keyL a ≠ keyL b := fun e => h (data_inj (by injection e))
theorem Fs.keyL_lit (s : ByteArray) : WideAt.IsKeyLit (keyL s) := by unfold keyL WideAt.IsKeyLit; trivial
/-- The datum reads as the keys and values of the first k marks. -/
structure Fs.MapOf (D : DataW Unit) (a : List Mrk) (k : Nat) : Prop where
  im : IsMap D
  no : ∀ s, (∀ i, i < k → (lMrk a i).key ≠ s) → Maps.has D (keyL s) = false
  yes : ∀ i, i < k → Maps.has D (keyL (lMrk a i).key) = true
  at_ : ∀ i, i < k → ∀ z, D.atKey (keyL (lMrk a i).key) z = .lit (.string (lMrk a i).val.data.toList)
theorem Fs.mapOf_none (a : List Mrk) : MapOf (.map []) a 0 := ⟨isMap_empty, fun _ _ => rfl, fun _ hi => absurd hi (Nat.not_lt_zero _), fun _ hi => absurd hi (Nat.not_lt_zero _)⟩
theorem Fs.MapOf.put {D : DataW Unit} {a : List Mrk} {k : Nat} (h : MapOf D a k) (hu : ∀ i, i < k → (lMrk a i).key ≠ (lMrk a k).key) :
    MapOf (D.put (keyL (lMrk a k).key) (.lit (.string (lMrk a k).val.data.toList))) a (k + 1) := by
  refine ⟨h.im.put _ _, fun s hs => ?_, fun i hi => ?_, fun i hi z => ?_⟩
  · rw [has_put_other (keyL_ne (fun e => hs k (by omega) e.symm))]
    exact h.no s fun i hi => hs i (by omega)
  · by_cases e : i = k
    · subst e; exact has_put_same h.im (keyL_lit _) _
    · rw [has_put_other (keyL_ne (hu i (by omega)))]; exact h.yes i (by omega)
  · by_cases e : i = k
    · subst e; exact atKey_put_same h.im (keyL_lit _) _ _
    · rw [atKey_put_other (keyL_ne (hu i (by omega)))]; exact h.at_ i (by omega) z
theorem Fs.isName_size {s : ByteArray} (h : isName s = true) : s.size ≤ maxLen := by
  unfold isName at h
  simp only [Bool.and_eq_true, decide_eq_true_eq] at h
  have := h.1.1.2
  unfold maxLen
  omega
theorem wpList_look_str {P : Program} (w : World) {ops : Array Oper} {rest : List Oper} {o : Oper} {a : Act} {Q : Exit → Act → World → Prop}
    (hg : o.guard = none) (m x : Operand) (t : TypeId) (hop : o.op = Op.lookup t m x true)
    (k e : TypeId) (K : Keyed P k) (ht : P.underlying t = some (.map k e)) (he : P.underlying e = some .string) (hz : (zeroValue e).run P w = .ok (.string ⟨#[]⟩) w) (b n : Nat) (D : DataW Unit)
    (hm : a.eval m = .map (some b)) (hown : w.ownsMap P k (plainElem P e) b n D) (key : Value) (kl : Lit) (hx : a.eval x = key) (hkey : keyOf P k key = some kl)
    (s0 : ByteArray) (h0 : Bool) (hat : D.atKey kl (.lit (.string [])) = .lit (.string s0.data.toList)) (hhas : Maps.has D kl = h0)
    (hK : wpList P ops Q rest (a.put o.dst (.tuple #[.string s0, .bool h0])) w) :
    wpList P ops Q (o :: rest) a w :=
  wpList_lookup_own_ok w hg m x t hop k e K ht (plainElem P e) hz (.lit (.string [])) [] (plainElem_string he (s := ⟨#[]⟩) (Nat.zero_le _)) b n D hm hown key kl hx hkey (fun v ps hv => by
    obtain ⟨s, rfl, hc, -⟩ := plainElem_string_inv he hv
    have h1 : D.atKey kl (.lit (.string [])) = .lit (.string s.data.toList) := congrArg Prod.fst hc
    rw [hat] at h1
    have h2 : s0 = s := data_inj (by injection h1 with h1; injection h1)
    subst h2
    rw [hhas]
    exact hK)
theorem Tryz.zeroStr (w : World) : (zeroValue 9).run Tryz.prog w = .ok (.string ⟨#[]⟩) w := by kernel_rfl

/-- Sums of one mark of the other list. -/
theorem Fs.one_hit {a : List Mrk} (h : MarksOk a) (x : Mrk) {i : Nat} (hi : i < a.length) (e : (lMrk a i).key = x.key) :
    agreeIn x a a.length = (if (lMrk a i).val = x.val then 1 else 0) ∧ differIn x a a.length = (if (lMrk a i).val = x.val then 0 else 1) := by
  by_cases hv : (lMrk a i).val = x.val
  · have h1 : agreeIn x a a.length = 1 := (sum_few (fun j => x.key = (lMrk a j).key ∧ x.val = (lMrk a j).val) a.length fun _ _ hk hj h1 h2 => keys_apart h hk hj (h1.1.symm.trans h2.1)).2.1 i hi ⟨e.symm, hv.symm⟩
    have h2 := one_key x h
    have h3 := differIn_bd x a a.length
    rw [if_pos hv, if_pos hv]
    exact ⟨h1, by omega⟩
  · have h1 : differIn x a a.length = 1 := (sum_few (fun j => x.key = (lMrk a j).key ∧ x.val ≠ (lMrk a j).val) a.length fun _ _ hk hj h1 h2 => keys_apart h hk hj (h1.1.symm.trans h2.1)).2.1 i hi ⟨e.symm, fun e2 => hv e2.symm⟩
    have h2 := one_key x h
    have h3 := agreeIn_bd x a a.length
    rw [if_neg hv, if_neg hv]
    exact ⟨by omega, h1⟩
theorem Fs.no_hit {a : List Mrk} (x : Mrk) (h : ∀ i, i < a.length → (lMrk a i).key ≠ x.key) : agreeIn x a a.length = 0 ∧ differIn x a a.length = 0 := by
  constructor
  · exact (sum_same (g := fun _ => 0) fun j hj => if_neg (fun hh => h j hj hh.1.symm)).trans (sum_zero _)
  · exact (sum_same (g := fun _ => 0) fun j hj => if_neg (fun hh => h j hj hh.1.symm)).trans (sum_zero _)
set_option linter.unusedSimpArgs false in
set_option maxHeartbeats 12800000 in
set_option maxRecDepth 100000 in
theorem xCompared_any (a b : List Mrk) (A B : Option Addr) (c d : Nat) (w : World) (h : ArrMk w A a c) (h2 : ArrMk w B b d) (ha : MarksOk a) (hb : MarksOk b) :
    Calls Tryz.prog 84 #[.slice A a.length c, .slice B b.length d] w fun e w' => e = .returned (.tuple #[.int .i64 (agrees a b), .int .i64 (differs a b)]) ∧ Below w.heap.size w w' := by
  have b1 := h.le.1
  have b2 := h.le.2
  have b3 := h2.le.1
  have b4 := h2.le.2
  have HA := Lib.hid h
  have HB2 := Lib.hid h2
  have MA := Lib.hid ha
  have MB := Lib.hid hb
  have la := ha.len
  have lb := hb.len
  clear h h2 ha hb
  obtain ⟨n, hn⟩ : ∃ n, n = a.length := ⟨_, rfl⟩
  rw [← hn] at b1 la ⊢
  have HN := Lib.hid hn
  clear hn
  obtain ⟨m, hm⟩ : ∃ m, m = b.length := ⟨_, rfl⟩
  rw [← hm] at b3 lb ⊢
  have HM := Lib.hid hm
  clear hm
  have hmm := @run_makeMap Tryz.prog
  go_enter Tryz.func84, Tryz.ntmps84
  go_wp2_with fail
  go_loopw [16] (fun i wr => ∃ k : Nat, k ≤ n ∧ i = .int .i64 k ∧ (∃ D : DataW Unit, Hid (MapOf D a k) ∧ Hid (wr.ownsMap Tryz.prog 9 (plainElem Tryz.prog 9) w.heap.size k D)) ∧ Hid (Below w.heap.size w wr)) (fun i _ => n - (intOf i).toNat)
  case atStart => exact ⟨0, Nat.zero_le _, rfl, ⟨_, Lib.hid (mapOf_none a), Lib.hid (World.ownsMap_made _ _ _ _)⟩, Lib.hid ((Below.refl _ _).alloc (Nat.le_refl _) _)⟩
  case round =>
    obtain ⟨k, hk, rfl, ⟨D, HD, HO⟩, HB⟩ := hrel
    by_cases hlt : k < n
    · have hkn : (k : Int) < (n : Int) := by omega
      have hkl : k < a.length := by rw [← HN.out]; exact hlt
      obtain ⟨bb, o, rfl, ⟨q0, q1⟩⟩ := (HA.out.keep (Keep.below HB.out)).at_ hkl
      have nk := MA.out.names k hkl
      have HU := Lib.hid (fun (i : Nat) (hi : i < k) => (fun e => by have := keys_apart MA.out (by omega) hkl e; omega : (lMrk a i).key ≠ (lMrk a k).key))
      obtain ⟨key, hkey0⟩ : ∃ s, s = (lMrk a k).key := ⟨_, rfl⟩
      obtain ⟨val, hval0⟩ : ∃ s, s = (lMrk a k).val := ⟨_, rfl⟩
      rw [← hkey0] at q0 nk
      rw [← hval0] at q1 nk
      have hkey : keyOf Tryz.prog 9 (.string key) = some (keyL key) := Go.WideMaps.keyOf_string_mk Tryz.underlying9 (isName_size nk.1)
      have hval := Lib.hid (isName_size nk.2)
      have HK0 := Lib.hid hkey0
      have HV0 := Lib.hid hval0
      clear hkey0 hval0 nk hkl
      have hown := HO.out.alloc (.cells #[.string key, .string val] 119)
      go_wp2_with (first
        | (at_mapUpdate; refine wpList_mapUpdate_own _ rfl _ _ _ 174 rfl 9 9 (string_keyed Tryz.underlying9) Tryz.underlying174 _ w.heap.size k _ rfl hown (by unfold maxLen; omega) _ _ _ rfl rfl hkey _ [] (plainElem_string Tryz.underlying9 hval.out) ?_)
        | go_in)
      intro w1 hown1 hgrow1
      have R2 := Lib.hid (((HB.out.alloc HB.out.size (.cells #[.string key, .string val] 119))).grown hgrow1 (by have := HB.out.size; simp; omega) (fun j hj => by cases hj; exact Nat.le_refl _))
      have R1 := Lib.hid hown1
      have R3 := Lib.hid (HD.out.put HU.out)
      rw [← HK0.out, ← HV0.out] at R3
      clear hown1 hgrow1 hown hkey q0 q1
      go_wp2_with fail
      go_roundw
      case rel => exact ⟨k + 1, by omega, by go_num, ⟨_, R3, R1⟩, R2⟩
      case measure => simp [intOf]; omega
    · obtain rfl : k = n := by omega
      have HT0 := Lib.hid (show agreeTo b a 0 = 0 from rfl)
      go_wp2_with fail
      go_loopw [4, 5, 28] (fun u v i wr => ∃ j : Nat, j ≤ m ∧ u = .int .i64 (agreeTo b a j) ∧ v = .int .i64 (differTo b a j) ∧ i = .int .i64 j ∧ Hid (wr.ownsMap Tryz.prog 9 (plainElem Tryz.prog 9) w.heap.size k D) ∧ Hid (Below w.heap.size w wr)) (fun _ _ i _ => m - (intOf i).toNat)
      case atStart => exact ⟨0, Nat.zero_le _, rfl, rfl, rfl, HO, HB⟩
      case round =>
        obtain ⟨j, hj, rfl, rfl, rfl, HO2, HB3⟩ := hrel
        by_cases hlt2 : j < m
        · have hjm : (j : Int) < (m : Int) := by omega
          have hjl : j < b.length := by rw [← HM.out]; exact hlt2
          obtain ⟨bb, o, rfl, ⟨q0, q1⟩⟩ := (HB2.out.keep (Keep.below HB3.out)).at_ hjl
          have nk := MB.out.names j hjl
          have S1 := Lib.hid (show agreeTo b a (j + 1) = agreeTo b a j + agreeIn (lMrk b j) a a.length from rfl)
          have S2 := Lib.hid (show differTo b a (j + 1) = differTo b a j + differIn (lMrk b j) a a.length from rfl)
          obtain ⟨y1, y2⟩ := agreeTo_bd b a (by rw [← HN.out]; omega) j
          obtain ⟨y3, y4⟩ := differTo_bd b a (by rw [← HN.out]; omega) j
          have y5 : agreeTo b a j ≤ 10000 := by omega
          have y6 : differTo b a j ≤ 10000 := by omega
          clear y2 y4
          obtain ⟨x, hx⟩ : ∃ x, x = lMrk b j := ⟨_, rfl⟩
          rw [← hx] at q0 q1 nk S1 S2
          clear hx hjl
          have hkey : keyOf Tryz.prog 9 (.string x.key) = some (keyL x.key) := Go.WideMaps.keyOf_string_mk Tryz.underlying9 (isName_size nk.1)
          clear nk
          obtain ⟨key, hkq⟩ : ∃ s, s = x.key := ⟨_, rfl⟩
          obtain ⟨val, hvq⟩ : ∃ s, s = x.val := ⟨_, rfl⟩
          rw [← hkq] at q0 hkey
          rw [← hvq] at q1
          have HKQ := Lib.hid hkq
          have HVQ := Lib.hid hvq
          clear hkq hvq
          have hown := HO2.out.alloc (.cells #[.string key, .string val] 119)
          have HOA := Lib.hid hown
          have HBA := Lib.hid (HB3.out.alloc HB3.out.size (.cells #[.string key, .string val] 119))
          have e0 := cellNew wr #[.string key, .string val] 119 0
          have e1 := cellNew wr #[.string key, .string val] 119 1
          by_cases hex : ∃ i, i < a.length ∧ (lMrk a i).key = x.key
          · obtain ⟨i, hi, hie⟩ := hex
            have OH := Lib.hid (one_hit MA.out x hi hie)
            have hat : D.atKey (keyL key) (.lit (.string [])) = .lit (.string (lMrk a i).val.data.toList) := by rw [HKQ.out, ← hie]; exact HD.out.at_ i (by rw [HN.out]; exact hi) _
            have hhas : Maps.has D (keyL key) = true := by rw [HKQ.out, ← hie]; exact HD.out.yes i (by rw [HN.out]; exact hi)
            obtain ⟨s0, hs0⟩ : ∃ s, s = (lMrk a i).val := ⟨_, rfl⟩
            rw [← hs0] at hat OH
            clear hs0 hie hi
            by_cases hv : s0 = val
            · have O1 := OH.out
              rw [← HVQ.out, if_pos hv, if_pos hv] at O1
              have T1 := Lib.hid (S1.out.trans (by rw [O1.1]))
              have T2 := Lib.hid (S2.out.trans (by rw [O1.2, Int.add_zero]))
              have d1 := str_eq hv
              clear O1 hv
              go_wp2_with (first
                | (at_lookup; refine wpList_look_str _ rfl _ _ 174 rfl 9 9 (string_keyed Tryz.underlying9) Tryz.underlying174 Tryz.underlying9 (Tryz.zeroStr _) w.heap.size k D rfl hown _ _ rfl hkey s0 true hat hhas ?_)
                | go_in)
              rw [← T1.out]
              go_roundw
              case rel => exact ⟨j + 1, by omega, by first | rfl | rw [T1.out], by first | rfl | rw [T2.out], by go_num, HOA, HBA⟩
              case measure => simp [intOf]; omega
            · have O1 := OH.out
              rw [← HVQ.out, if_neg hv, if_neg hv] at O1
              have T1 := Lib.hid (S1.out.trans (by rw [O1.1, Int.add_zero]))
              have T2 := Lib.hid (S2.out.trans (by rw [O1.2]))
              have d1 := str_ne hv
              clear O1 hv
              go_wp2_with (first
                | (at_lookup; refine wpList_look_str _ rfl _ _ 174 rfl 9 9 (string_keyed Tryz.underlying9) Tryz.underlying174 Tryz.underlying9 (Tryz.zeroStr _) w.heap.size k D rfl hown _ _ rfl hkey s0 true hat hhas ?_)
                | go_in)
              rw [← T2.out]
              go_roundw
              case rel => exact ⟨j + 1, by omega, by first | rfl | rw [T1.out], by first | rfl | rw [T2.out], by go_num, HOA, HBA⟩
              case measure => simp [intOf]; omega
          · have hno : ∀ i, i < a.length → (lMrk a i).key ≠ x.key := fun i hi e => hex ⟨i, hi, e⟩
            have O1 := no_hit x hno
            have hhas : Maps.has D (keyL key) = false := by rw [HKQ.out]; exact HD.out.no _ fun i hi => hno i (by rw [HN.out] at hi; exact hi)
            have hat : D.atKey (keyL key) (.lit (.string [])) = .lit (.string (⟨#[]⟩ : ByteArray).data.toList) := atKey_of_not_has hhas _
            have T1 := Lib.hid (S1.out.trans (by rw [O1.1, Int.add_zero]))
            have T2 := Lib.hid (S2.out.trans (by rw [O1.2, Int.add_zero]))
            clear O1 hno hex
            go_wp2_with (first
              | (at_lookup; refine wpList_look_str _ rfl _ _ 174 rfl 9 9 (string_keyed Tryz.underlying9) Tryz.underlying174 Tryz.underlying9 (Tryz.zeroStr _) w.heap.size k D rfl hown _ _ rfl hkey ⟨#[]⟩ false hat hhas ?_)
              | go_in)
            go_roundw
            case rel => exact ⟨j + 1, by omega, by first | rfl | rw [T1.out], by first | rfl | rw [T2.out], by go_num, HOA, HBA⟩
            case measure => simp [intOf]; omega
        · obtain rfl : j = m := by omega
          have G1 := Lib.hid (show agreeTo b a j = agrees a b by rw [agrees_comm]; unfold agrees; rw [HM.out])
          have G2 := Lib.hid (show differTo b a j = differs a b by rw [differs_comm]; unfold differs; rw [HM.out])
          go_wp2_with fail
          go_ret2
          exact ⟨by rw [G1.out, G2.out]; rfl, HB3.out⟩
end Go.Proofs.YtfjdnbnalihjiaaGreatDoor
