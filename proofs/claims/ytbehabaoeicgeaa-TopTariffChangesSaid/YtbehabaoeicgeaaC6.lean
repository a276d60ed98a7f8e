/- The moments of some dates at which the rules may change, handed on one by one. Condition: the tariff is right; there are at most a million rules. -/
import Derived.Test.YtbehabaoeicgeaaC5
namespace Go.Proofs.Ytbehabaoeicgeaa
open Go.RowKit Go.Shelf Fs
attribute [local go_sem] Oper.semAt_some

/-- What is handed on: a moment, and where the rules of its date stand. -/
structure Turn where
  d : Int
  t : Int
  A : Option Addr
  c : Nat
abbrev turnArgs (T : Tar) (x : Turn) : Array Value := #[.agg #[.int .i64 x.d, .int .i64 x.t], .slice x.A (rOn T x.d).length x.c]
abbrev turnMem (T : Tar) (lo : Int) (x : Turn) (W : World) : Prop := lo ≤ x.d ∧ ArrI W x.A (rOn T x.d) x.c
/-- All moments have come from date lo up to the first j of the date D. -/
def Upto (lo : Int) (zs : List Int) (pre : List Turn) (D : Int) (j : Nat) : Prop :=
  ∀ d t, lo ≤ d → t ∈ zs → (d < D ∨ d = D ∧ ∃ i, i < j ∧ listI zs i = t) → ∃ y, y ∈ pre ∧ y.d = d ∧ y.t = t
theorem Upto.start (lo : Int) (zs : List Int) : Upto lo zs [] lo 0 := by
  rintro d t h1 _ (h | ⟨_, i, hi, _⟩) <;> omega
theorem Upto.next {lo : Int} {zs : List Int} {pre : List Turn} {D : Int} {j : Nat} (h : Upto lo zs pre D j) (A : Option Addr) (c : Nat) : Upto lo zs (pre ++ [⟨D, listI zs j, A, c⟩]) D (j + 1) := by
  intro d t h1 h2 h3
  by_cases e : d = D ∧ listI zs j = t
  · exact ⟨⟨D, listI zs j, A, c⟩, by simp, e.1.symm, e.2⟩
  · obtain ⟨y, y1, y2⟩ := h d t h1 h2 (by
      rcases h3 with h3 | ⟨h3, i, hi, h4⟩
      · exact .inl h3
      · refine .inr ⟨h3, i, ?_, h4⟩
        by_cases e2 : i = j
        · subst e2; exact absurd ⟨h3, h4⟩ e
        · omega)
    exact ⟨y, List.mem_append_left _ y1, y2⟩
theorem Upto.row {lo : Int} {zs : List Int} {pre : List Turn} {D : Int} (h : Upto lo zs pre D zs.length) : Upto lo zs pre (D + 1) 0 := by
  rintro d t h1 h2 (h3 | ⟨_, i, hi, _⟩)
  · refine h d t h1 h2 ?_
    by_cases e : d = D
    · obtain ⟨i, hi, rfl⟩ := List.getElem_of_mem h2
      exact .inr ⟨e, i, hi, by unfold listI; simp [hi]⟩
    · exact .inl (by omega)
  · omega
/-- All have come. -/
def AllCame (lo hi : Int) (zs : List Int) (xs : List Turn) : Prop := ∃ D, hi < D ∧ Upto lo zs xs D 0
/-- Some have come, the last of them when all ahead of it had. -/
def SomeCame (lo hi : Int) (zs : List Int) (pre : List Turn) : Prop :=
  ∃ l x j, pre = l ++ [x] ∧ lo ≤ x.d ∧ x.d ≤ hi ∧ j < zs.length ∧ x.t = listI zs j ∧ Upto lo zs l x.d j

theorem rOn_le (T : Tar) (d : Int) : (rOn T d).length ≤ T.rules.length := onTo_le T d _
/-- What the closure has caught. -/
structure Caught (w : World) (T : Tar) (bd bt bz : Nat) (lo hi : Int) (zs : List Int) (z h r e f : Option Addr) (zc hc rc ec fc : Nat) (A : Option Addr) (c : Nat) : Prop where
  box : BoxT w bt T z h r e f zc hc rc ec fc
  tar : RdTar w (tarV T z h r e f zc hc rc ec fc) T
  d0 : w.cell? ⟨bd, 0, none⟩ = some (.int .i64 lo)
  d1 : w.cell? ⟨bd, 1, none⟩ = some (.int .i64 hi)
  t0 : w.cell? ⟨bz, 0, none⟩ = some (.slice A zs.length c)
  ts : ArrI w A zs c
theorem Caught.keep {w w' : World} (k : Keep w w') {T : Tar} {bd bt bz : Nat} {lo hi : Int} {zs : List Int} {z h r e f : Option Addr} {zc hc rc ec fc : Nat} {A : Option Addr} {c : Nat} (m : Caught w T bd bt bz lo hi zs z h r e f zc hc rc ec fc A c) :
    Caught w' T bd bt bz lo hi zs z h r e f zc hc rc ec fc A c := ⟨m.box.keep k, m.tar.keep k, k _ _ m.d0, k _ _ m.d1, k _ _ m.t0, m.ts.keep k⟩

set_option maxHeartbeats 1600000 in
set_option maxRecDepth 100000 in
theorem turns1_yields (n : Nat) (T : Tar) (bd bt bz : Nat) (lo hi : Int) (zs : List Int) (z h r e f : Option Addr) (zc hc rc ec fc : Nat) (A : Option Addr) (c : Nat) (w : World)
    (hC : Caught w T bd bt bz lo hi zs z h r e f zc hc rc ec fc A c) (h0 : 0 ≤ lo) (h1 : hi ≤ 100000) (hn : T.rules.length ≤ 1000000) :
    Yields Fence.wide n Try.prog 43 #[.pointer (some ⟨bd, 0, none⟩), .pointer (some ⟨bt, 0, none⟩), .pointer (some ⟨bz, 0, none⟩)] (turnArgs T) (turnMem T lo) (AllCame lo hi zs) (SomeCame lo hi zs) w := by
  intro l J Jx W hK hJ hY hJ0
  have hC1 := Lib.hid (hC.keep hK)
  have hl1 := hC.ts.le.1
  have hl2 := hC.ts.le.2
  clear hC
  refine callsIn_of_wp Try.func43 rfl trivial ?_ rfl
  simp only [Try.ntmps43, List.size_toArray, List.length_cons, List.length_nil, Nat.reduceAdd, Nat.reduceSub, Array.replicate_succ, Array.replicate_zero, List.push_toArray, List.append_toArray, List.nil_append, List.cons_append]
  have c0 := hC1.out.d0
  gi_wp2
  have hY := Lib.hid hY
  have hJ := Lib.hid hJ
  clear c0
  gi_loopw [5] (fun s wr => ∃ (D : Int) (pre : List Turn), s = .int .i64 D ∧ lo ≤ D ∧ Hid (J pre wr) ∧ Hid (Upto lo zs pre D 0) ∧ Hid (Caught wr T bd bt bz lo hi zs z h r e f zc hc rc ec fc A c)) (fun s _ => (hi + 1 - intOf s).toNat)
  case atStart => exact ⟨lo, [], rfl, Int.le_refl _, hJ0, Upto.start lo zs, hC1⟩
  case round =>
    obtain ⟨D, pre, rfl, hD, HJ, HU, HC⟩ := hrel
    have c1 := HC.out.d1
    by_cases hlt : D ≤ hi
    · have hkr : decide (D ≤ hi) = true := decide_eq_true hlt
      have c2 := HC.out.t0
      obtain ⟨t0, t1, t2, t3, t4, t5, t6, t7⟩ := HC.out.box
      gi_wp2_with (fail)
      refine ⟨trivial, fun hd => by simp [Fence.wide] at hd, ?_⟩
      refine (callsIn_wide.2 (rulesOn_any T _ D wr HC.out.tar (by omega) hn)).mono ?_
      rintro e' w1 ⟨A1, cap1, rfl, ha1, hb1⟩
      have HJ1 := Lib.hid (hJ.out pre wr w1 HJ.out hb1)
      have HC1 := Lib.hid (HC.out.keep (Keep.below hb1))
      have hle := (rOn_le T D)
      have HA1 := Lib.hid ha1
      clear hb1 c1 c2 t0 t1 t2 t3 t4 t5 t6 t7 HJ HC ha1
      have c2 := HC1.out.t0
      gi_wp2
      clear c2
      gi_loopw [22] (fun s w2 => ∃ (j : Nat) (pre : List Turn), s = .int .i64 j ∧ j ≤ zs.length ∧ Hid (J pre w2) ∧ Hid (Upto lo zs pre D j) ∧ Hid (Caught w2 T bd bt bz lo hi zs z h r e f zc hc rc ec fc A c) ∧ Hid (ArrI w2 A1 (rOn T D) cap1)) (fun s _ => zs.length - (intOf s).toNat)
      case atStart => exact ⟨0, pre, rfl, Nat.zero_le _, HJ1, HU, HC1, HA1⟩
      case round =>
        obtain ⟨j, pre, rfl, hj, HJ2, HU2, HC2, HA2⟩ := hrel
        by_cases hjl : j < zs.length
        · have hkj : decide ((j : Int) < (zs.length : Int)) = true := decide_eq_true (by omega)
          obtain ⟨b, o, rfl, hz1⟩ := HC2.out.ts.at_ hjl
          obtain ⟨fn, tmps, assign, body, hy, hR⟩ := hY.out pre ⟨D, listI zs j, A1, cap1⟩ wr HJ2.out ⟨hD, HA2.out⟩
          dsimp only [turnArgs] at hy
          gi_wp2
          refine ⟨fun hd => by simp [Fence.wide] at hd, hR.mono ?_⟩
          rintro e' w3 (⟨rfl, hj3, hk3⟩ | ⟨rfl, hj3⟩)
          · have HJ3 := Lib.hid hj3
            have HC3 := Lib.hid (HC2.out.keep hk3)
            have HA3 := Lib.hid (HA2.out.keep hk3)
            have HU3 := Lib.hid (HU2.out.next A1 cap1)
            clear hj3 hk3
            gi_wp2
            go_roundw
            case rel => exact ⟨j + 1, _, by go_num, by omega, HJ3, HU3, HC3, HA3⟩
            case measure => simp [intOf]; omega
          · gi_wp2
            refine bodyPost_ret (results_none rfl _ _ _) rfl ?_
            exact ⟨⟨_, rfl⟩, .inr ⟨_, ⟨pre, _, j, rfl, hD, hlt, hjl, rfl, HU2.out⟩, hj3⟩⟩
        · have hkj : decide ((j : Int) < (zs.length : Int)) = false := decide_eq_false (by omega)
          obtain rfl : j = zs.length := by omega
          gi_wp2
          go_roundw
          case rel => exact ⟨D + 1, pre, rfl, by omega, HJ2, HU2.out.row, HC2⟩
          case measure => simp [intOf]; omega
    · have hkr : decide (D ≤ hi) = false := decide_eq_false hlt
      gi_wp2
      go_end0
      exact ⟨⟨_, rfl⟩, .inl ⟨pre, ⟨D, by omega, HU.out⟩, HJ.out⟩⟩
end Go.Proofs.Ytbehabaoeicgeaa
