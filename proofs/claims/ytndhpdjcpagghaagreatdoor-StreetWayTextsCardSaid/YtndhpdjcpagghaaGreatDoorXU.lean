/- Texts: cut at a byte, joined, and looked for in a list: what the library's functions and the reference's return. Conditions: texts are shorter than 2^32 bytes; what is joined is below 2^47 bytes. -/
import Derived.Test.YtndhpdjcpagghaaGreatDoorXS
import Derived.Test.YtndhpdjcpagghaaGreatDoorT9
import Derived.Test.YtndhpdjcpagghaaGreatDoorT13
namespace Go.Proofs.YtndhpdjcpagghaaGreatDoor
open Go.RowKit Fs
open Go.Shelf in
set_option maxHeartbeats 1000000 in
/-- The library's cutting at one byte: nothing is asked of its own variables. -/
theorem Any.split_one {P : Program} {ρ : Ren} (L : Go.Proofs.Lays.n146 P ρ) (hi9 : (P.info? (ρ.t 9)).map (fun i => (i.zero, i.size, i.bytes)) = some (some (.string ByteArray.empty), 1, 16)) (s : ByteArray) (b : UInt8) (w : World) (hs : s.size < 4294967281) :
    Calls P (ρ.f 146) #[.string s, .string ⟨#[b]⟩] w fun e w' =>
      e = .returned (.slice (some ⟨w.heap.size, 0, none⟩) (Lib.countB s ⟨#[b]⟩ + 1) (Lib.countB s ⟨#[b]⟩ + 1)) ∧ w' = w.alloc (.cells ((Lib.splitB ⟨#[b]⟩ 0 (Lib.countB s ⟨#[b]⟩) s).map Value.string).toArray (ρ.t 9)) := by
  have h1 : 1 ≤ (⟨#[b]⟩ : ByteArray).size := Nat.le_refl 1
  have hle := Lib.countB_le ⟨#[b]⟩ h1 s.size s (Nat.le_refl _)
  have hlen := Lib.splitB_all ⟨#[b]⟩ h1 0 _ s rfl
  have c := Go.Proofs.Any.strings_genSplit_core { L with } hi9 s ⟨#[b]⟩ 0 (-1) (Lib.countB s ⟨#[b]⟩ + 1) w hs h1 (Nat.zero_le _)
    (fun x c hx => (Go.Proofs.Any.strings_Index_one { L with } x b _).mono fun e w' ⟨he, hw⟩ => ⟨by rw [he]; show _ = Ending.returned (Value.int .i64 (Lib.index x.data.toList [b])); rw [Lib.index_one], hw⟩)
    ((Go.Proofs.Any.strings_Count_one { L with } s b w).mono fun e w' ⟨he, hw⟩ => ⟨by
      rw [he]
      show _ = Ending.returned (Value.int .i64 ((Lib.count s.data.toList [b] : Nat) : Int))
      rw [Lib.count_one]
      rfl, hw⟩) (by decide) (by decide) (by rw [if_pos (by decide)]; omega)
  rw [Nat.add_sub_cancel, hlen] at c
  have e2 : Lib.cellsOf (Lib.splitB ⟨#[b]⟩ 0 (Lib.countB s ⟨#[b]⟩) s) (Lib.countB s ⟨#[b]⟩ + 1) = ((Lib.splitB ⟨#[b]⟩ 0 (Lib.countB s ⟨#[b]⟩) s).map Value.string).toArray := by rw [← hlen]; exact Lib.cellsOf_full _
  rw [e2] at c
  have t3 := L.t3; have t9 := L.t9; have t31 := L.t31
  have a3 := L.a3; have a9 := L.a9; have a31 := L.a31
  have z3 := L.z3; have v3 := L.v3; have z9 := L.z9; have v9 := L.v9; have z31 := L.z31; have v31 := L.v31
  have e221 : ∀ args w, (callFunc (ρ.f 221) args).run P w = .ok (.enter (ρ.f 221) args) w := enters_of L.f221 (by kernel_rfl) rfl
  go_enter L.f146, Body.n146_ntmps ρ
  go_wp2_with (go_at_fn (ρ.f 221); refine c.mono ?_; rintro e w' ⟨rfl, hw⟩; rw [hw])
  go_ret
  exact ⟨rfl, rfl⟩
theorem split_any (s : ByteArray) (b : UInt8) (w : World) (hs : s.size < 4294967281) :
    Calls Tryz.prog 31 #[.string s, .string ⟨#[b]⟩] w fun e w' => e = .returned (.slice (some ⟨w.heap.size, 0, none⟩) (cutB b s).length (cutB b s).length) ∧ w' = w.alloc (.cells ((cutB b s).map Value.string).toArray 9) := by
  rw [cutB_length, ← split_cutB]
  exact Any.split_one Tryz.lays146 (by kernel_rfl) s b w hs
def strVals (l : List ByteArray) : List Value := l.map Value.string
theorem listS_get {l : List ByteArray} {i : Nat} (h : i < l.length) : l[i]? = some (listS l i) := by
  unfold listS
  rw [List.getD_eq_getElem?_getD, List.getElem?_eq_getElem h]
  rfl
theorem strVals_get {l : List ByteArray} {i : Nat} (h : i < l.length) : (strVals l)[i]? = some (.string (listS l i)) := by
  unfold strVals
  rw [List.getElem?_map, listS_get h]
  rfl
theorem RowV.arrS {w : World} {g c : Nat} {t : TypeId} {l : List ByteArray} (h : RowV w g t (strVals l)) (h1 : l.length ≤ c) (h2 : c ≤ maxLen) : ArrS w (some ⟨g, 0, none⟩) l c := by
  refine ⟨h1, h2, fun _ => ⟨g, 0, rfl, fun i j hi hj => ?_⟩⟩
  have hj0 : j = 0 := by omega
  subst hj0
  rw [show 0 + i * 1 + 0 = i by omega, h.cell]
  exact strVals_get hi
theorem RowV.mk (w : World) (l : List Value) (t : TypeId) : RowV (w.alloc (.cells l.toArray t)) w.heap.size t l := heap_alloc_new w _
theorem intVals_at {l : List Int} {i : Nat} (h : i < l.length) : (intVals l)[i]? = some (.int .i64 (listI l i)) := by
  unfold intVals listI
  rw [List.getElem?_map, List.getD_eq_getElem?_getD, List.getElem?_eq_getElem h]
  rfl
theorem RowV.arrI {w : World} {g c : Nat} {t : TypeId} {l : List Int} (h : RowV w g t (intVals l)) (h1 : l.length ≤ c) (h2 : c ≤ maxLen) : ArrI w (some ⟨g, 0, none⟩) l c := by
  refine ⟨h1, h2, fun _ => ⟨g, 0, rfl, fun i j hi hj => ?_⟩⟩
  have hj0 : j = 0 := by omega
  subst hj0
  rw [show 0 + i * 1 + 0 = i by omega, h.cell]
  exact intVals_at hi
theorem own_arrS {w : World} {base : Nat} {e : TypeId} {v : Value} {l : List ByteArray} (h : w.ownsRow base e 1 v l.length (strVals l)) :
    ∃ A c, v = .slice A l.length c ∧ ArrS w A l c := by
  rcases h.2 with ⟨hv, hn⟩ | ⟨g, cap, cur, hv, hb, hh, h1, h2, h3, h4⟩
  · have : l = [] := List.eq_nil_of_length_eq_zero hn
    subst this
    exact ⟨none, 0, hv, Nat.le_refl _, by omega, fun hh => absurd hh (by simp)⟩
  · refine ⟨_, cap, hv, h1, h2, fun _ => ⟨g, 0, rfl, fun i j hi hj => ?_⟩⟩
    have hj0 : j = 0 := by omega
    subst hj0
    have hc := h.cells (g := g) (by rw [hv]; rfl) i (.string (listS l i)) (strVals_get hi)
    have e1 : (⟨g, 0 + i * 1 + 0, none⟩ : Addr) = Addr.add ⟨g, 0, none⟩ i := by
      unfold Addr.add
      by_cases h0 : i = 0
      · subst h0; rfl
      · rw [if_neg h0]; simp
    rw [e1]
    exact hc
theorem strVals_snoc (l : List ByteArray) (x : ByteArray) : strVals (l ++ [x]) = strVals l ++ [.string x] := by simp [strVals]
theorem oneStr (x : ByteArray) : ∀ u ∈ [Value.string x], u.oneCell' = true := by
  intro u hu
  have : u = .string x := by simpa using hu
  subst this
  rfl
theorem join_any (l : List ByteArray) (A : Option Addr) (c : Nat) (b : UInt8) (w : World) (h : ArrS w A l c) (hn : l.length ≤ 140737488355328) (hl : (joinB b l).size ≤ 140737488355328) :
    Calls Tryz.prog 28 #[.slice A l.length c, .string ⟨#[b]⟩] w fun e w' => e = .returned (.string (joinB b l)) ∧ Below w.heap.size w w' := by
  by_cases h0 : l = []
  · subst h0
    exact (Tryz.strings_Join_none A c ⟨#[b]⟩ w).mono fun e w' ⟨he, hw⟩ => ⟨he, hw ▸ Below.refl _ _⟩
  · have hp : 0 < l.length := List.length_pos_iff.2 h0
    obtain ⟨g, o, rfl, hc⟩ := h.2.2 hp
    have hbk : g < w.heap.size := World.block_lt_of_cell? w _ (hc 0 0 hp (by decide))
    refine Tryz.strings_Join g o c l ⟨#[b]⟩ w (fun j x hx => ?_) hbk hn h.1 ?_
    · have hj : j < l.length := (List.getElem?_eq_some_iff.1 hx).1
      have := hc j 0 hj (by decide)
      rw [listS_get hj] at hx
      injection hx with hx
      rw [show o + j * 1 + 0 = o + j by omega] at this
      rw [this, ← hx]
    · have e : (joinB b l).size = (Lib.join (l.map (·.data.toList)) [b]).length := by unfold joinB; simp [ByteArray.size]
      rw [e] at hl
      exact hl
theorem joinN_any (l : List ByteArray) (n : Nat) (A : Option Addr) (c : Nat) (b : UInt8) (w : World) (hl0 : l.length = n) (h : ArrS w A l c) (hn : n ≤ 140737488355328) (hl : (joinB b l).size ≤ 140737488355328) :
    Calls Tryz.prog 28 #[.slice A n c, .string ⟨#[b]⟩] w fun e w' => e = .returned (.string (joinB b l)) ∧ Below w.heap.size w w' := by
  subst hl0
  exact join_any l A c b w h hn hl
theorem containsS_any (l : List ByteArray) (A : Option Addr) (c : Nat) (x : ByteArray) (w : World) (h : ArrS w A l c) :
    Calls Tryz.prog 32 #[.slice A l.length c, .string x] w fun e w' => e = .returned (.bool (Lib.containsS l x)) ∧ w = w' := by
  by_cases h0 : l = []
  · subst h0
    exact (Tryz.slices_Contains_string_empty A c x w).mono fun e w' ⟨he, hw⟩ => ⟨he, hw.symm⟩
  · have hp : 0 < l.length := List.length_pos_iff.2 h0
    obtain ⟨g, o, rfl, hc⟩ := h.2.2 hp
    refine (Tryz.slices_Contains_string g o l.length c l x w (Nat.le_refl _) (Nat.le_trans h.1 h.2.1) (fun j hj => ?_)).mono fun e w' ⟨he, hw⟩ => ⟨by rw [he, List.take_length], hw.symm⟩
    have := hc j 0 hj (by decide)
    rw [show o + j * 1 + 0 = o + j by omega] at this
    exact this
theorem containsI_any (l : List Int) (A : Option Addr) (c : Nat) (x : Int) (w : World) (h : ArrI w A l c) :
    Calls Tryz.prog 35 #[.slice A l.length c, .int .i64 x] w fun e w' => e = .returned (.bool (l.contains x)) ∧ w = w' := by
  by_cases h0 : l = []
  · subst h0
    exact (Tryz.slices_Contains_int_empty A c x w).mono fun e w' ⟨he, hw⟩ => ⟨he, hw.symm⟩
  · have hp : 0 < l.length := List.length_pos_iff.2 h0
    obtain ⟨g, o, rfl, hc⟩ := h.2.2 hp
    refine (Tryz.slices_Contains_int g o l.length c l x w (Nat.le_refl _) (Nat.le_trans h.1 h.2.1) (fun j hj => ?_)).mono fun e w' ⟨he, hw⟩ => ⟨by rw [he, List.take_length], hw.symm⟩
    have := hc j 0 hj (by decide)
    rw [show o + j * 1 + 0 = o + j by omega] at this
    exact this
theorem Fs.listS_mem {l : List ByteArray} {i : Nat} (h : i < l.length) : listS l i ∈ l := List.mem_of_getElem? (listS_get h)
theorem Fs.mem_listS {l : List ByteArray} {x : ByteArray} (h : x ∈ l) : ∃ k, k < l.length ∧ listS l k = x := by
  obtain ⟨k, hk, e⟩ := List.getElem_of_mem h
  refine ⟨k, hk, ?_⟩
  have := listS_get hk
  rw [List.getElem?_eq_getElem hk] at this
  injection this with this
  rw [← this, e]
def Fs.mkB (l : List UInt8) : ByteArray := ⟨l.toArray⟩
theorem Fs.take_more {S : List UInt8} {f k : Nat} (hf : f ≤ k) (hk : k < S.length) : (S.drop f).take (k + 1 - f) = (S.drop f).take (k - f) ++ [S[k]] := by
  rw [show k + 1 - f = (k - f) + 1 by omega, List.take_add_one, List.getElem?_drop, show f + (k - f) = k by omega, List.getElem?_eq_getElem hk]
  rfl
theorem Fs.cut_part {b : UInt8} {S : List UInt8} {f k : Nat} (hf : f ≤ k) (hk : k < S.length) (hb : S[k] = b) (hn : b ∉ (S.drop f).take (k - f)) :
    cut b (S.drop f) = (S.drop f).take (k - f) :: cut b (S.drop (k + 1)) := by
  have e : S.drop f = (S.drop f).take (k - f) ++ b :: S.drop (k + 1) := by
    conv => lhs; rw [← List.take_append_drop (k - f) (S.drop f)]
    rw [List.drop_drop, show f + (k - f) = k by omega, List.drop_eq_getElem_cons hk, hb]
  conv => lhs; rw [e]
  exact cut_hit _ hn
set_option maxHeartbeats 3200000 in
set_option maxRecDepth 100000 in
theorem bcut_any (s : ByteArray) (b : UInt8) (w : World) (hs : s.size < 4294967281) :
    Calls Tryz.prog 37 #[.string s, .int .u8 b.toNat] w fun e w' => ∃ A c, e = .returned (.slice A (cutB b s).length c) ∧ ArrS w' A (cutB b s) c ∧ Below w.heap.size w w' := by
  obtain ⟨i0, hi, hz0, hz1, hz2⟩ := info_parts Tryz.infoText
  have HSZ := Lib.hid (Lib.size_eq s)
  go_enter Tryz.func37, Tryz.ntmps37
  go_wp2_with fail
  go_loopw [5, 6, 7] (fun u fr i wr => ∃ (d : List ByteArray) (f k : Nat), f ≤ k ∧ k ≤ s.size ∧ d.length ≤ f ∧ fr = .int .i64 f ∧ i = .int .i64 k ∧ Hid (wr.ownsRow w.heap.size 9 1 u d.length (strVals d)) ∧ Hid (cutB b s = d ++ (cut b (s.data.toList.drop f)).map mkB) ∧ Hid (b ∉ (s.data.toList.drop f).take (k - f)) ∧ Hid (Below w.heap.size w wr)) (fun _ _ i _ => s.size - (intOf i).toNat)
  case atStart => exact ⟨[], 0, 0, Nat.le_refl _, Nat.zero_le _, Nat.le_refl _, rfl, rfl, Lib.hid (World.ownsRow_nil _ _ _ _), Lib.hid rfl, Lib.hid (by simp), Lib.hid (Below.refl _ _)⟩
  case round =>
    obtain ⟨d, f, k, hfk, hk, hdf, rfl, rfl, HO, HC, HN, HB⟩ := hrel
    have hws : w.heap.size ≤ wr.heap.size := HB.out.size
    by_cases hlt : k < s.size
    · have hkn : (k : Int) < (s.size : Int) := by omega
      have HK := Lib.hid (show k < s.data.toList.length by rw [← HSZ.out]; exact hlt)
      have HE := Lib.hid (show s[k] = s.data.toList[k]'HK.out by rfl)
      by_cases e : s[k] = b
      · have e1 : ((s[k].toNat : Int) == (b.toNat : Int)) = true := by rw [e]; simp
        have F : Hid (cutB b s = (d ++ [s.extract f k]) ++ (cut b (s.data.toList.drop (k + 1))).map mkB) := Lib.hid (by
          rw [HC.out, cut_part hfk HK.out (HE.out ▸ e) HN.out, Lib.extract_eq, List.map_cons, List.append_assoc]
          rfl)
        clear e HN
        go_wp2_with (at_builtin; refine wpList_append_own _ rfl (.tmp 19) (.tmp 24) 22 rfl w.heap.size 9 i0 (.string ⟨#[]⟩) 1 16 Tryz.underlying22 hi hz0 hz1 hz2 rfl (by decide) _ _ _ rfl (HO.out.alloc _) ⟨wr.heap.size, 0, none⟩ 1 1 [.string (s.extract f k)] rfl rfl ?c1 ?c2 ?c3 ?c4 ?c5 ?_)
        case c1 => exact news0 _ _ _
        case c2 => exact oneStr _
        case c3 => unfold maxLen; omega
        case c4 => omega
        case c5 => simp; omega
        intro v3 w3 hown3 hg3 _
        have HB3 := Lib.hid ((HB.out.alloc hws _).grown hg3 (by simp; omega) (fun j hj => (HO.out.lt j hj).1))
        have HO3 : Hid (w3.ownsRow w.heap.size 9 1 v3 (d ++ [s.extract f k]).length (strVals (d ++ [s.extract f k]))) := by
          rw [strVals_snoc, List.length_append]
          exact Lib.hid hown3
        clear hown3 hg3 HO
        go_wp2_with fail
        go_roundw
        case rel => exact ⟨d ++ [s.extract f k], k + 1, k + 1, Nat.le_refl _, by omega, by simp; omega, by go_num, by go_num, HO3, F, Lib.hid (by simp), HB3⟩
        case measure => simp [intOf]; omega
      · have e1 : ((s[k].toNat : Int) == (b.toNat : Int)) = false := by
          rw [beq_eq_false_iff_ne]
          intro h
          exact e (UInt8.toNat_inj.1 (by omega))
        have G : Hid (b ∉ (s.data.toList.drop f).take (k + 1 - f)) := Lib.hid (by
          rw [take_more hfk HK.out, List.mem_append]
          rintro (h | h)
          · exact HN.out h
          · rw [List.mem_singleton] at h
            exact e (HE.out.trans h.symm))
        clear e
        go_wp2_with fail
        go_roundw
        case rel => exact ⟨d, f, k + 1, by omega, by omega, hdf, rfl, by go_num, HO, HC, G, HB⟩
        case measure => simp [intOf]; omega
    · obtain rfl : k = s.size := by omega
      have F : Hid (cutB b s = d ++ [s.extract f s.size]) := Lib.hid (by
        have h1 : (s.data.toList.drop f).take (s.size - f) = s.data.toList.drop f := List.take_of_length_le (by rw [List.length_drop, ← HSZ.out]; omega)
        have h2 := HN.out
        rw [h1] at h2
        rw [HC.out, cut_none h2, Lib.extract_eq, h1]
        rfl)
      clear HN HC
      go_wp2_with (at_builtin; refine wpList_append_own _ rfl (.tmp 28) (.tmp 32) 22 rfl w.heap.size 9 i0 (.string ⟨#[]⟩) 1 16 Tryz.underlying22 hi hz0 hz1 hz2 rfl (by decide) _ _ _ rfl (HO.out.alloc _) ⟨wr.heap.size, 0, none⟩ 1 1 [.string (s.extract f s.size)] rfl rfl ?c1 ?c2 ?c3 ?c4 ?c5 ?_)
      case c1 => exact news0 _ _ _
      case c2 => exact oneStr _
      case c3 => unfold maxLen; omega
      case c4 => omega
      case c5 => simp; omega
      intro v3 w3 hown3 hg3 _
      have HB3 := Lib.hid ((HB.out.alloc hws _).grown hg3 (by simp; omega) (fun j hj => (HO.out.lt j hj).1))
      have HO3 : Hid (w3.ownsRow w.heap.size 9 1 v3 (cutB b s).length (strVals (cutB b s))) := by
        rw [F.out, strVals_snoc, List.length_append]
        exact Lib.hid hown3
      clear hown3 hg3 HO
      obtain ⟨A, c, hv, harr⟩ := own_arrS HO3.out
      subst hv
      have HA := Lib.hid harr
      clear harr HO3
      go_wp2_with fail
      go_ret
      exact ⟨A, c, rfl, HA.out, HB3.out⟩
end Go.Proofs.YtndhpdjcpagghaaGreatDoor
