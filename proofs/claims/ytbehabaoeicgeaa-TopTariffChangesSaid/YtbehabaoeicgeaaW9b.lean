/- The points of a trip's segments. Conditions: each segment has a rule of the tariff, and no product is above 10^18. -/
import Derived.Test.YtbehabaoeicgeaaFs3
namespace Go.Proofs.Ytbehabaoeicgeaa
open Go.RowKit Fs

/-- The two reckonings: the greater one (0), the sum. -/
def reckFn : Nat → Nat
  | 0 => 22
  | _ => 38
def Fs.reck : Nat → Int → Int → Int
  | 0, a, b => max a b
  | _, a, b => a + b
theorem callReck (q : Nat) (args : Array Value) (w : World) : (callFunc (reckFn q) args).run Try.prog w = .ok (.enter (reckFn q) args) w := by
  unfold reckFn
  split
  · kernel_rfl
  · kernel_rfl
theorem reck_any (q : Nat) (a b : Int) (w : World) (h0 : 0 ≤ a) (h1 : a ≤ 1000000000000000000) (h2 : 0 ≤ b) (h3 : b ≤ 1000000000000000000) : Calls Try.prog (reckFn q) #[.int .i64 a, .int .i64 b] w fun e w' => e = .returned (.int .i64 (reck q a b)) ∧ w = w' := by
  match q with
  | 0 => exact lawful_any a b w
  | q + 1 => exact utmost_any a b w h0 h1 h2 h3
/-- The points by metres, by seconds and both, of segment k. -/
def Fs.ptM (T : Tar) (rl : List Int) (l : List Seg) (k : Nat) : Int := (listR T.rules (listI rl k).toNat).metre * (listG l k).metres
def Fs.ptS (T : Tar) (rl : List Int) (l : List Seg) (k : Nat) : Int := (listR T.rules (listI rl k).toNat).second * (listG l k).seconds
def Fs.pt (q : Nat) (T : Tar) (rl : List Int) (l : List Seg) (k : Nat) : Int := reck q (ptM T rl l k) (ptS T rl l k)
def Fs.ptL (q : Nat) (T : Tar) (rl : List Int) (l : List Seg) : List Int := (List.range l.length).map (pt q T rl l)
theorem ptL_length (q : Nat) (T : Tar) (rl : List Int) (l : List Seg) : (ptL q T rl l).length = l.length := by simp [ptL]
theorem ptL_at {q : Nat} {T : Tar} {rl : List Int} {l : List Seg} {k : Nat} (h : k < l.length) : listI (ptL q T rl l) k = pt q T rl l k := by
  unfold listI ptL
  simp [List.getD_eq_getElem?_getD, h]

set_option maxHeartbeats 1600000 in
set_option maxRecDepth 100000 in
theorem pointsOf_any (q : Nat) (T : Tar) (v : Value) (rl : List Int) (A : Option Addr) (c : Nat) (l : List Seg) (B : Option Addr) (d : Nat) (w : World) (hT : RdTar w v T) (hA : ArrI w A rl c) (hB : ArrG w B l d)
    (hlen : rl.length = l.length) (h60 : l.length ≤ 60)
    (hc : Hid (∀ k, k < l.length → (0 ≤ listI rl k ∧ listI rl k < T.rules.length) ∧ (0 ≤ ptM T rl l k ∧ ptM T rl l k ≤ 1000000000000000000) ∧ (0 ≤ ptS T rl l k ∧ ptS T rl l k ≤ 1000000000000000000))) :
    Calls Try.prog 37 #[v, .slice A rl.length c, .slice B l.length d, .func (.func (reckFn q)) #[] #[]] w fun e w' => ∃ A' c', e = .returned (.slice A' (ptL q T rl l).length c') ∧ ArrI w' A' (ptL q T rl l) c' ∧ Below w.heap.size w w' := by
  have hT0 := hT
  obtain ⟨z, h, r, e, f, zc, hoc, rc, ec, fc, a, rfl, m⟩ := hT
  have hr := m.rules
  have b1 := hr.le.1
  have b2 := hr.le.2
  have b3 := hA.le.1
  have b4 := hA.le.2
  have b5 := hB.le.1
  have b6 := hB.le.2
  clear m
  have HLEN := Lib.hid hlen
  clear hlen
  have BT := Lib.hid (BoxT.new w T z h r e f zc hoc rc ec fc 28)
  have hmk := run_make_row' (P := Try.prog) 23 3 (.int .i64 0) 8 Try.underlying23 Try.infoInt rfl .i64 .i64 l.length (by omega) (by omega)
  go_enter Try.func37, Try.ntmps37
  go_wp2_with fail
  go_loopw [18] (fun u wr => ∃ k : Nat, k ≤ l.length ∧ u = .int .i64 k ∧ Hid (wr.rowIs (w.heap.size + 1) 3 l.length (fun j => .int .i64 (if j < k then pt q T rl l j else 0))) ∧ Hid (Below (w.heap.size + 1) (w.alloc (.cells #[.string T.name, .int .i64 T.unit, .int .i64 T.step, .slice z T.zones.length zc, .slice h T.hols.length hoc, .slice r T.rules.length rc, .slice e T.extras.length ec, .slice f T.fixed.length fc] 28)) wr)) (fun u _ => l.length - (intOf u).toNat)
  case atStart =>
    refine ⟨0, Nat.zero_le _, rfl, ?_, (Below.refl _ _).alloc (by simp) _⟩
    have := (World.rowIs_made (w.alloc (.cells #[.string T.name, .int .i64 T.unit, .int .i64 T.step, .slice z T.zones.length zc, .slice h T.hols.length hoc, .slice r T.rules.length rc, .slice e T.extras.length ec, .slice f T.fixed.length fc] 28)) (.int .i64 0) l.length 3).congr (g := fun j => .int .i64 (if j < 0 then pt q T rl l j else 0)) (fun i _ => by rw [if_neg (Nat.not_lt_zero _)])
    rw [World.size_alloc] at this
    exact this
  case round =>
    obtain ⟨k, hk, rfl, HR, HB⟩ := hrel
    have HW := Lib.hid (((Below.refl _ _).alloc (Nat.le_refl _) _).trans (HB.out.mono (by simp)) : Below w.heap.size w wr)
    have hgs : w.heap.size + 1 < wr.heap.size := HR.out.lt
    by_cases hlt : k < l.length
    · have hkw : Keep w wr := Keep.below HW.out
      have hlen := HLEN.out
      obtain ⟨n, hnn⟩ : ∃ n : Nat, listI rl k = n := ⟨(listI rl k).toNat, by have := (hc.out k hlt).1.1; omega⟩
      have hn1 : n < T.rules.length := by have := (hc.out k hlt).1.2; omega
      obtain ⟨⟨-, -⟩, ⟨m0, m1⟩, s0, s1'⟩ := hc.out k hlt
      have HP := Lib.hid (show pt q T rl l k = reck q ((listR T.rules n).metre * (listG l k).metres) ((listR T.rules n).second * (listG l k).seconds) by unfold pt ptM ptS; rw [hnn]; rfl)
      unfold ptM at m0 m1
      unfold ptS at s0 s1'
      rw [hnn, Int.toNat_natCast] at m0 m1 s0 s1'
      obtain ⟨bl, ol, rfl, lc⟩ := (hA.keep hkw).at_ (k := k) (by omega)
      rw [hnn] at lc
      obtain ⟨bb, ob, rfl, g0, g1, g2⟩ := (hB.keep hkw).at_ hlt
      obtain ⟨b, o, rfl, qq⟩ := (hr.keep hkw).at_ hn1
      obtain ⟨c0, c1, c2, c3, c4, c5, c6, c7, c8, c9⟩ := qq
      have t5 : wr.cell? ⟨w.heap.size, 5, none⟩ = some (.slice (some ⟨b, o, none⟩) T.rules.length rc) := (HB.out.cell (p := ⟨w.heap.size, 5, none⟩) (by simp)).trans BT.out.c5
      have hkr : decide ((k : Int) < (l.length : Int)) = true := decide_eq_true (by omega)
      have i0 : (0 : Int) ≤ (n : Int) := by omega
      have i1 : (n : Int) < (T.rules.length : Int) := by omega
      have i2 : (0 : Int) ≤ (k : Int) := by omega
      have i3 : (k : Int) < (l.length : Int) := by omega
      have i4 : (k : Int) < (rl.length : Int) := by omega
      have lc' := fun y z => Keep.alloc (wr.alloc y) z _ _ (Keep.alloc wr y _ _ lc)
      have lc := fun y => Keep.alloc wr y _ _ lc
      have t5' := fun y z => Keep.alloc (wr.alloc y) z _ _ (Keep.alloc wr y _ _ t5)
      have t5 := fun y => Keep.alloc wr y _ _ t5
      have c0' := fun y z => Keep.alloc (wr.alloc y) z _ _ (Keep.alloc wr y _ _ c0)
      have c0 := fun y => Keep.alloc wr y _ _ c0
      have c1' := fun y z => Keep.alloc (wr.alloc y) z _ _ (Keep.alloc wr y _ _ c1)
      have c1 := fun y => Keep.alloc wr y _ _ c1
      have c2' := fun y z => Keep.alloc (wr.alloc y) z _ _ (Keep.alloc wr y _ _ c2)
      have c2 := fun y => Keep.alloc wr y _ _ c2
      have c3' := fun y z => Keep.alloc (wr.alloc y) z _ _ (Keep.alloc wr y _ _ c3)
      have c3 := fun y => Keep.alloc wr y _ _ c3
      have c4' := fun y z => Keep.alloc (wr.alloc y) z _ _ (Keep.alloc wr y _ _ c4)
      have c4 := fun y => Keep.alloc wr y _ _ c4
      have c5' := fun y z => Keep.alloc (wr.alloc y) z _ _ (Keep.alloc wr y _ _ c5)
      have c5 := fun y => Keep.alloc wr y _ _ c5
      have c6' := fun y z => Keep.alloc (wr.alloc y) z _ _ (Keep.alloc wr y _ _ c6)
      have c6 := fun y => Keep.alloc wr y _ _ c6
      have c7' := fun y z => Keep.alloc (wr.alloc y) z _ _ (Keep.alloc wr y _ _ c7)
      have c7 := fun y => Keep.alloc wr y _ _ c7
      have c8' := fun y z => Keep.alloc (wr.alloc y) z _ _ (Keep.alloc wr y _ _ c8)
      have c8 := fun y => Keep.alloc wr y _ _ c8
      have c9' := fun y z => Keep.alloc (wr.alloc y) z _ _ (Keep.alloc wr y _ _ c9)
      have c9 := fun y => Keep.alloc wr y _ _ c9
      have hcall := callReck q
      clear hnn hkw hlen
      go_wp2_with fail
      go_region
      clear lc t5 c0 c1 c2 c3 c4 c5 c6 c7 c8 c9 lc' t5' c0' c1' c2' c3' c4' c5' c6' c7' c8' c9'
      generalize hw2 : ((wr.alloc _).alloc _).drew = w2
      have s1 : w2.cell? ⟨wr.heap.size, 1, none⟩ = some (.int .i64 (listG l k).metres) := by rw [← hw2]; exact Keep.alloc (wr.alloc _) _ _ _ (cellNew _ _ _ _)
      have s2 : w2.cell? ⟨wr.heap.size, 2, none⟩ = some (.int .i64 (listG l k).seconds) := by rw [← hw2]; exact Keep.alloc (wr.alloc _) _ _ _ (cellNew _ _ _ _)
      have r8 : w2.cell? ⟨wr.heap.size + 1, 8, none⟩ = some (.int .i64 (listR T.rules n).metre) := by rw [← hw2]; exact cellNew1 wr _ _ _ 8
      have r9 : w2.cell? ⟨wr.heap.size + 1, 9, none⟩ = some (.int .i64 (listR T.rules n).second) := by rw [← hw2]; exact cellNew1 wr _ _ _ 9
      have HR2 : Hid (w2.rowIs (w.heap.size + 1) 3 l.length (fun j => .int .i64 (if j < k then pt q T rl l j else 0))) := by rw [← hw2]; exact Lib.hid (((HR.out.alloc _).alloc _).drew)
      have HB2 : Hid (Below (w.heap.size + 1) (w.alloc (.cells #[.string T.name, .int .i64 T.unit, .int .i64 T.step, .slice z T.zones.length zc, .slice h T.hols.length hoc, .slice (some ⟨b, o, none⟩) T.rules.length rc, .slice e T.extras.length ec, .slice f T.fixed.length fc] 28)) w2) := by rw [← hw2]; exact Lib.hid (((HB.out.alloc (by omega) _).alloc (by simp; omega) _).drew)
      clear hw2
      have u1 := HR2.out.cell hlt
      have u2 := HR2.out.frozen k
      go_wp2_with fail
      refine (reck_any q _ _ _ m0 m1 s0 s1').mono ?_
      rintro e' w3 ⟨rfl, rfl⟩
      go_wp2_with fail
      go_roundw
      case rel =>
        refine ⟨k + 1, by omega, by go_num, Lib.hid ((HR2.out.set k _).congr fun i hi => ?_), Lib.hid (HB2.out.setCell (p := ⟨w.heap.size + 1, k, none⟩) (by simp) _)⟩
        by_cases e : i = k
        · rw [if_pos e, if_pos (by omega), e, HP.out]
        · rw [if_neg e]
          by_cases e2 : i < k
          · rw [if_pos e2, if_pos (by omega)]
          · rw [if_neg e2, if_neg (by omega)]
      case measure => simp [intOf]; omega
    · have e5 : k = l.length := by omega
      have HA := Lib.hid (show ArrI wr (some ⟨w.heap.size + 1, 0, none⟩) (ptL q T rl l) (ptL q T rl l).length from row_arr (ti := 3) (by rw [ptL_length]; exact HR.out) (fun i hi => by rw [ptL_length] at hi; rw [if_pos (by omega), ptL_at hi]) (by rw [ptL_length]; omega))
      clear e5
      go_wp2
      go_ret
      exact ⟨some ⟨w.heap.size + 1, 0, none⟩, (ptL q T rl l).length, (by rw [ptL_length]; rfl), HA.out, HW.out⟩
end Go.Proofs.Ytbehabaoeicgeaa
