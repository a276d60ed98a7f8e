/- No way arrives earlier than labels that are proved: plain. Condition: the net is right. -/
import Derived.Test.YthipneggplebcaaT63
import Derived.Test.YthipneggplebcaaT52
import Derived.Test.YthipneggplebcaaT41
import Derived.Test.YthipneggplebcaaT57
namespace Go.Proofs.Ythipneggplebcaa
open Go.RowKit Fs

theorem Fs.proof_over {N : Net} {nx : Nat → Int → Int} {s : List Int} (hP : Proof N nx s N.roads.length) (hin : LabIn s) (hlen : s.length = N.places.length) (hN : Joined N) (hg : Good N nx) {X : Nat} {a : Int} (hx : within (listI s X) 0 a = true) {l : List Int} (hw : wayErr N l = 0) (h0 : l.length ≠ 0 → (listD N.roads (listI l 0).toNat).src = (X : Int)) :
    ∀ k, k < l.length → listI s (listD N.roads (listI l k).toNat).dst.toNat ≠ -1 ∧ listI s (listD N.roads (listI l k).toNat).dst.toNat ≤ alongTo nx (k + 1) l a
  | 0, hk => by
    have hr := ((way_ok hw).2 0 hk).1
    have h := h0 (by omega)
    have hx := Fs.within_iff.1 hx
    have st := hP (listI l 0).toNat (by omega)
    rw [h, Int.toNat_natCast] at st
    rcases st with st | st
    · omega
    · refine ⟨st.1, ?_⟩
      have hm := hg.mono (listI l 0).toNat (listI s X) a (by omega) hx.1 hx.2
      show _ ≤ nx (listI l 0).toNat a
      omega
  | k + 1, hk => by
    have ih := proof_over hP hin hlen hN hg hx hw h0 k (by omega)
    have hr := ((way_ok hw).2 (k + 1) hk)
    have hj := hr.2 (by omega)
    rw [Nat.add_sub_cancel] at hj
    have hr := hr.1
    have st := hP (listI l (k + 1)).toNat (by omega)
    rw [← hj] at st
    have hjn := hN (listI l k).toNat (by have := ((way_ok hw).2 k (by omega)).1; omega)
    have hle := Fs.within_iff.1 (hin (listD N.roads (listI l k).toNat).dst.toNat (by omega))
    rcases st with st | st
    · exact absurd st ih.1
    · have hm := hg.mono (listI l (k + 1)).toNat _ _ (by omega) (by have := ih.1; omega) ih.2
      refine ⟨st.1, ?_⟩
      show _ ≤ nx (listI l (k + 1)).toNat (alongTo nx (k + 1) l a)
      omega
theorem Fs.proof_joins {N : Net} {nx : Nat → Int → Int} {s : List Int} (hP : Proof N nx s N.roads.length) (hin : LabIn s) (hlen : s.length = N.places.length) (hN : Joined N) (hg : Good N nx) {X t : Nat} {a : Int} (hx : within (listI s X) 0 a = true) {l : List Int} (hw : wayErr N l = 0) (hj : JoinsIs N l X t) :
    listI s t ≤ alongTo nx l.length l a := by
  by_cases e : l.length = 0
  · unfold JoinsIs at hj
    rw [if_pos e] at hj
    have : X = t := by omega
    subst this
    rw [e]
    exact (Fs.within_iff.1 hx).2
  · have j := joins_some e hj
    have := proof_over hP hin hlen hN hg hx hw (fun _ => j.1) (l.length - 1) (by omega)
    rw [j.2, Int.toNat_natCast, show l.length - 1 + 1 = l.length by omega] at this
    exact this.2
theorem Fs.rcl_bound {N : Net} {X Y : Nat} {a : Int} {l m : List Int} (h : (rcl N X Y a l m).2 = 0) (hE : netErr N = 0) {way : List Int} (hw : wayErr N way = 0) (hj : JoinsIs N way X Y) :
    (rcl N X Y a l m).1.1 ≤ (arrivals N way a).1 ∧ (rcl N X Y a l m).1.2 ≤ (arrivals N way a).2 := by
  unfold rcl at *
  by_cases h1 : labErr N [l, m] = 0
  · obtain ⟨a1, a2, a3, a4⟩ := labErr_two.1 h1
    rw [if_pos h1] at h ⊢
    unfold clRes at *
    by_cases h2 : within (listI l X) 0 a = true ∧ within (listI m X) 0 a = true ∧ Proof N (soonest N) l N.roads.length ∧ Proof N (latest N) m N.roads.length
    · rw [if_pos h2] at h ⊢
      have p1 := proof_joins h2.2.2.1 a3 a1 (net_joined hE) (soonest_good hE) h2.1 hw hj
      have p2 := proof_joins h2.2.2.2 a4 a2 (net_joined hE) (latest_good hE) h2.2.1 hw hj
      unfold bound at *
      by_cases h3 : listI l Y = -1 ∨ listI m Y = -1
      · rw [if_pos h3] at h; exact absurd h (by decide)
      · rw [if_neg h3]; exact ⟨p1, p2⟩
    · rw [if_neg h2] at h; exact absurd h (by decide)
  · rw [if_neg h1] at h; exact absurd h h1
theorem Fs.cl_is {N : Net} {X Y : Nat} {a : Int} {l m : List Int} (hE : netErr N = 0) (hT : tripErr N X Y a = 0) : cl N X Y a l m = rcl N X Y a l m := by
  have e : clErr N X Y a l m = labErr N [l, m] := by
    unfold clErr
    rw [hE, hT]
    by_cases h : labErr N [l, m] = 0
    · rw [h]; rfl
    · exact (fst_hit (f := listI [0, 0, labErr N [l, m]]) (k := 2) (n := 3) (by decide) (fun j hj => by rcases (show j = 0 ∨ j = 1 by omega) with rfl | rfl <;> rfl) h).1
  unfold cl rcl
  rw [e]
  by_cases h : labErr N [l, m] = 0
  · rw [if_pos h, if_pos h, Int.toNat_natCast, Int.toNat_natCast]
  · rw [if_neg h, if_neg h]
theorem Fs.cl_net {N : Net} {f t a : Int} {l m : List Int} (h : netErr N ≠ 0) : cl N f t a l m = ((0, 0), netErr N) := by
  have e : clErr N f t a l m = netErr N := (fst_hit (f := listI [netErr N, tripErr N f t a, labErr N [l, m]]) (k := 0) (n := 3) (by decide) (fun j hj => absurd hj (Nat.not_lt_zero _)) h).1
  unfold cl; rw [e, if_neg h]
theorem Fs.cl_trip {N : Net} {f t a : Int} {l m : List Int} (h : netErr N = 0) (h2 : tripErr N f t a ≠ 0) : cl N f t a l m = ((0, 0), tripErr N f t a) := by
  have e : clErr N f t a l m = tripErr N f t a := (fst_hit (f := listI [netErr N, tripErr N f t a, labErr N [l, m]]) (k := 1) (n := 3) (by decide) (fun j hj => by rcases (show j = 0 by omega) with rfl; exact h) h2).1
  unfold cl; rw [e, if_neg h2]

/-- Three cells of the block g. -/
structure TriAt (w : World) (g : Nat) (u v x : Value) : Prop where
  c0 : w.cell? ⟨g, 0, none⟩ = some u
  c1 : w.cell? ⟨g, 1, none⟩ = some v
  c2 : w.cell? ⟨g, 2, none⟩ = some x
theorem TriAt.keep {w w' : World} (k : Keep w w') {g : Nat} {u v x : Value} (m : TriAt w g u v x) : TriAt w' g u v x := ⟨k _ _ m.c0, k _ _ m.c1, k _ _ m.c2⟩
theorem TriAt.new (w : World) (u v x : Value) (ty : TypeId) : TriAt (w.alloc (.cells #[u, v, x] ty)) w.heap.size u v x := ⟨cellNew _ _ _ 0, cellNew _ _ _ 1, cellNew _ _ _ 2⟩
theorem TriAt.new2 (w : World) (E F : Obj) (u v x : Value) (ty : TypeId) : TriAt (((w.alloc E).alloc F).alloc (.cells #[u, v, x] ty)) (w.heap.size + 1 + 1) u v x := by
  have := TriAt.new ((w.alloc E).alloc F) u v x ty
  simpa using this
/-- Two lists of numbers. -/
def TwoI (w : World) (A : Option Addr) (l : List Int) (c : Nat) (B : Option Addr) (m : List Int) (d : Nat) : Prop := ArrI w A l c ∧ ArrI w B m d
theorem TwoI.keep {w w' : World} (k : Keep w w') {A : Option Addr} {l : List Int} {c : Nat} {B : Option Addr} {m : List Int} {d : Nat} (h : TwoI w A l c B m d) : TwoI w' A l c B m d := ⟨h.1.keep k, h.2.keep k⟩
theorem copyLabelsT_any (l m : List Int) (A B : Option Addr) (c d : Nat) (w : World) (hA : ArrI w A l c) (hB : ArrI w B m d) (hl : l.length ≤ 1000000) (hm : m.length ≤ 1000000) :
    Calls Try.prog 42 #[.agg #[.slice A l.length c, .slice B m.length d]] w fun e w' => ∃ A1 c1 A2 c2, e = .returned (.agg #[.slice A1 l.length c1, .slice A2 m.length c2]) ∧ TwoI w' A1 l c1 A2 m c2 ∧ Below w.heap.size w w' :=
  (copyLabels_any l m A B c d w hA hB hl hm).mono fun _ _ ⟨A1, c1, A2, c2, h, h1, h2, h3⟩ => ⟨A1, c1, A2, c2, h, ⟨h1, h2⟩, h3⟩
end Go.Proofs.Ythipneggplebcaa
