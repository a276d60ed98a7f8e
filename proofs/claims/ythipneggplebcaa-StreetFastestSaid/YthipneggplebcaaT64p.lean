/- No way arrives earlier than labels that are proved: plain. Condition: the net is right. -/
import Derived.Test.YthipneggplebcaaT62
import Derived.Test.YthipneggplebcaaT52
import Derived.Test.YthipneggplebcaaT41
import Derived.Test.YthipneggplebcaaT57
import Derived.Test.YthipneggplebcaaT58p
import Derived.Test.YthipneggplebcaaT46
namespace Go.Proofs.Ythipneggplebcaa
open Go.RowKit Fs

theorem Fs.proof_over {N : Net} {nx : Nat → Int → Int} {s : List Int} (hP : Proof N nx s N.roads.length) (hin : LabIn s) (hlen : s.length = N.places.length) (hN : Joined N) (hg : Good N nx) {X : Nat} {a : Int} (hx : within (listI s X) 0 a = true) {l : List Int} (hw : wayErr N l = 0) (h0 : l.length ≠ 0 → (listD N.roads (listI l 0).toNat).src = (X : Int)) :
    ∀ k, k < l.length → listI s (listD N.roads (listI l k).toNat).dst.toNat ≠ -1 ∧ listI s (listD N.roads (listI l k).toNat).dst.toNat ≤ alongTo nx (k + 1) l a
  | 0, hk => by
    have hr := ((way_ok hw).2 0 hk).1
    have h := h0 (by omega)
    have hx := Fs.within_iff.1 hx
    have st := hP (listI l 0).toNat (by omega)
    rw [h, Int.toNat_natCast] at st
    rcases st with st | st
    · omega
    · refine ⟨st.1, ?_⟩
      have hm := hg.mono (listI l 0).toNat (listI s X) a (by omega) hx.1 hx.2
      show _ ≤ nx (listI l 0).toNat a
      omega
  | k + 1, hk => by
    have ih := proof_over hP hin hlen hN hg hx hw h0 k (by omega)
    have hr := ((way_ok hw).2 (k + 1) hk)
    have hj := hr.2 (by omega)
    rw [Nat.add_sub_cancel] at hj
    have hr := hr.1
    have st := hP (listI l (k + 1)).toNat (by omega)
    rw [← hj] at st
    have hjn := hN (listI l k).toNat (by have := ((way_ok hw).2 k (by omega)).1; omega)
    have hle := Fs.within_iff.1 (hin (listD N.roads (listI l k).toNat).dst.toNat (by omega))
    rcases st with st | st
    · exact absurd st ih.1
    · have hm := hg.mono (listI l (k + 1)).toNat _ _ (by omega) (by have := ih.1; omega) ih.2
      refine ⟨st.1, ?_⟩
      show _ ≤ nx (listI l (k + 1)).toNat (alongTo nx (k + 1) l a)
      omega
theorem Fs.proof_joins {N : Net} {nx : Nat → Int → Int} {s : List Int} (hP : Proof N nx s N.roads.length) (hin : LabIn s) (hlen : s.length = N.places.length) (hN : Joined N) (hg : Good N nx) {X t : Nat} {a : Int} (hx : within (listI s X) 0 a = true) {l : List Int} (hw : wayErr N l = 0) (hj : JoinsIs N l X t) :
    listI s t ≤ alongTo nx l.length l a := by
  by_cases e : l.length = 0
  · unfold JoinsIs at hj
    rw [if_pos e] at hj
    have : X = t := by omega
    subst this
    rw [e]
    exact (Fs.within_iff.1 hx).2
  · have j := joins_some e hj
    have := proof_over hP hin hlen hN hg hx hw (fun _ => j.1) (l.length - 1) (by omega)
    rw [j.2, Int.toNat_natCast, show l.length - 1 + 1 = l.length by omega] at this
    exact this.2
theorem Fs.rcl_bound {N : Net} {X Y : Nat} {a : Int} {l m : List Int} (h : (rcl N X Y a l m).2 = 0) (hE : netErr N = 0) {way : List Int} (hw : wayErr N way = 0) (hj : JoinsIs N way X Y) :
    (rcl N X Y a l m).1.1 ≤ (arrivals N way a).1 ∧ (rcl N X Y a l m).1.2 ≤ (arrivals N way a).2 := by
  unfold rcl at *
  by_cases h1 : labErr N [l, m] = 0
  · obtain ⟨a1, a2, a3, a4⟩ := labErr_two.1 h1
    rw [if_pos h1] at h ⊢
    unfold clRes at *
    by_cases h2 : within (listI l X) 0 a = true ∧ within (listI m X) 0 a = true ∧ Proof N (soonest N) l N.roads.length ∧ Proof N (latest N) m N.roads.length
    · rw [if_pos h2] at h ⊢
      have p1 := proof_joins h2.2.2.1 a3 a1 (net_joined hE) (soonest_good hE) h2.1 hw hj
      have p2 := proof_joins h2.2.2.2 a4 a2 (net_joined hE) (latest_good hE) h2.2.1 hw hj
      unfold bound at *
      by_cases h3 : listI l Y = -1 ∨ listI m Y = -1
      · rw [if_pos h3] at h; exact absurd h (by decide)
      · rw [if_neg h3]; exact ⟨p1, p2⟩
    · rw [if_neg h2] at h; exact absurd h (by decide)
  · rw [if_neg h1] at h; exact absurd h h1
theorem Fs.cl_is {N : Net} {X Y : Nat} {a : Int} {l m : List Int} (hE : netErr N = 0) (hT : tripErr N X Y a = 0) : cl N X Y a l m = rcl N X Y a l m := by
  have e : clErr N X Y a l m = labErr N [l, m] := by
    unfold clErr
    rw [hE, hT]
    by_cases h : labErr N [l, m] = 0
    · rw [h]; rfl
    · exact (fst_hit (f := listI [0, 0, labErr N [l, m]]) (k := 2) (n := 3) (by decide) (fun j hj => by rcases (show j = 0 ∨ j = 1 by omega) with rfl | rfl <;> rfl) h).1
  unfold cl rcl
  rw [e]
  by_cases h : labErr N [l, m] = 0
  · rw [if_pos h, if_pos h, Int.toNat_natCast, Int.toNat_natCast]
  · rw [if_neg h, if_neg h]
theorem Fs.cl_net {N : Net} {f t a : Int} {l m : List Int} (h : netErr N ≠ 0) : cl N f t a l m = ((0, 0), netErr N) := by
  have e : clErr N f t a l m = netErr N := (fst_hit (f := listI [netErr N, tripErr N f t a, labErr N [l, m]]) (k := 0) (n := 3) (by decide) (fun j hj => absurd hj (Nat.not_lt_zero _)) h).1
  unfold cl; rw [e, if_neg h]
theorem Fs.cl_trip {N : Net} {f t a : Int} {l m : List Int} (h : netErr N = 0) (h2 : tripErr N f t a ≠ 0) : cl N f t a l m = ((0, 0), tripErr N f t a) := by
  have e : clErr N f t a l m = tripErr N f t a := (fst_hit (f := listI [netErr N, tripErr N f t a, labErr N [l, m]]) (k := 1) (n := 3) (by decide) (fun j hj => by rcases (show j = 0 by omega) with rfl; exact h) h2).1
  unfold cl; rw [e, if_neg h2]

/-- Three cells of the block g. -/
structure TriAt (w : World) (g : Nat) (u v x : Value) : Prop where
  c0 : w.cell? ⟨g, 0, none⟩ = some u
  c1 : w.cell? ⟨g, 1, none⟩ = some v
  c2 : w.cell? ⟨g, 2, none⟩ = some x
theorem TriAt.keep {w w' : World} (k : Keep w w') {g : Nat} {u v x : Value} (m : TriAt w g u v x) : TriAt w' g u v x := ⟨k _ _ m.c0, k _ _ m.c1, k _ _ m.c2⟩
theorem TriAt.new (w : World) (u v x : Value) (ty : TypeId) : TriAt (w.alloc (.cells #[u, v, x] ty)) w.heap.size u v x := ⟨cellNew _ _ _ 0, cellNew _ _ _ 1, cellNew _ _ _ 2⟩
theorem TriAt.new2 (w : World) (E F : Obj) (u v x : Value) (ty : TypeId) : TriAt (((w.alloc E).alloc F).alloc (.cells #[u, v, x] ty)) (w.heap.size + 1 + 1) u v x := by
  have := TriAt.new ((w.alloc E).alloc F) u v x ty
  simpa using this
/-- Two lists of numbers. -/
def TwoI (w : World) (A : Option Addr) (l : List Int) (c : Nat) (B : Option Addr) (m : List Int) (d : Nat) : Prop := ArrI w A l c ∧ ArrI w B m d
theorem TwoI.keep {w w' : World} (k : Keep w w') {A : Option Addr} {l : List Int} {c : Nat} {B : Option Addr} {m : List Int} {d : Nat} (h : TwoI w A l c B m d) : TwoI w' A l c B m d := ⟨h.1.keep k, h.2.keep k⟩
theorem copyLabelsT_any (l m : List Int) (A B : Option Addr) (c d : Nat) (w : World) (hA : ArrI w A l c) (hB : ArrI w B m d) (hl : l.length ≤ 1000000) (hm : m.length ≤ 1000000) :
    Calls Try.prog 42 #[.agg #[.slice A l.length c, .slice B m.length d]] w fun e w' => ∃ A1 c1 A2 c2, e = .returned (.agg #[.slice A1 l.length c1, .slice A2 m.length c2]) ∧ TwoI w' A1 l c1 A2 m c2 ∧ Below w.heap.size w w' :=
  (copyLabels_any l m A B c d w hA hB hl hm).mono fun _ _ ⟨A1, c1, A2, c2, h, h1, h2, h3⟩ => ⟨A1, c1, A2, c2, h, ⟨h1, h2⟩, h3⟩
end Go.Proofs.Ythipneggplebcaa
/- What holds of the search's labels: plain; and callees, the length under a name. Condition: the net is right. -/
namespace Go.Proofs.Ythipneggplebcaa
open Go.RowKit Fs

structure Fs.LabFacts (N : Net) (X : Nat) (a : Int) (S L : List Int) : Prop where
  s1 : S.length = N.places.length
  l1 : L.length = N.places.length
  s2 : LabIn S
  l2 : LabIn L
  claim : ∀ Y, Y < N.places.length → cl N X Y a S L = bound S L Y
  est : ∀ Y : Nat, Y < N.places.length → estimate N X Y a = bound S L Y
  both : ∀ Y, Y < N.places.length → listI S Y = -1 → listI L Y = -1
  both2 : ∀ Y, Y < N.places.length → listI S Y ≠ -1 → listI L Y ≠ -1
  none : ∀ Y, Y < N.places.length → -1 ≤ listI S Y
  over : ∀ (Y : Nat) (way : List Int), wayErr N way = 0 → JoinsIs N way X Y → listI S Y ≤ (arrivals N way a).1 ∧ listI L Y ≤ (arrivals N way a).2
theorem Fs.lab_in {N : Net} {nx : Nat → Int → Int} {X : Nat} {a : Int} (hE : netErr N = 0) (hg : Good N nx) (hm : Small N nx) (hX : X < N.places.length) (h0 : 0 ≤ a) (h1 : a ≤ 604800) : LabIn (search N X a nx).labels := fun j hj => by
  rw [search_len.1] at hj
  have h20 := (net_sound hE).2.1
  by_cases e : listI (search N X a nx).labels j = -1
  · rw [e]; rfl
  · have := found_bound (net_joined hE) hg hm hX h0 j hj e
    exact Fs.within_iff.2 ⟨by have := this.1; omega, by have := this.2; omega⟩
theorem Fs.lab_facts {N : Net} {X : Nat} {a : Int} (hE : netErr N = 0) (hX : X < N.places.length) (h0 : 0 ≤ a) (h1 : a ≤ 604800) :
    LabFacts N X a (search N X a (soonest N)).labels (search N X a (latest N)).labels := by
  have F1 := search_found (net_joined hE) (soonest_good hE) hX h0
  have F2 := search_found (net_joined hE) (latest_good hE) hX h0
  have I1 := lab_in hE (soonest_good hE) (soonest_small hE) hX h0 h1
  have I2 := lab_in hE (latest_good hE) (latest_small hE) hX h0 h1
  have r1 := fun Y hY => search_reach (net_joined hE) (soonest_good hE) (latest_good hE) hX h0 h0 Y hY
  have r2 := fun Y hY => search_reach (net_joined hE) (latest_good hE) (soonest_good hE) hX h0 h0 Y hY
  have n1 : (search N X a (soonest N)).labels.length = N.places.length := search_len.1
  have n2 : (search N X a (latest N)).labels.length = N.places.length := search_len.1
  refine ⟨n1, n2, I1, I2, fun Y hY => ?_, fun Y hY => ?_, fun Y hY h => ?_, fun Y hY h => r1 Y hY h, fun Y hY => ?_, fun Y way hw hj => ?_⟩
  · rw [cl_is hE (trip_zero hX hY ⟨h0, h1⟩)]
    unfold rcl
    rw [if_pos (labErr_two.2 ⟨n1, n2, I1, I2⟩)]
    unfold clRes
    refine if_pos ⟨?_, ?_, fun i hi => ?_, fun i hi => ?_⟩
    · rw [F1.own]; exact Fs.within_iff.2 ⟨h0, Int.le_refl _⟩
    · rw [F2.own]; exact Fs.within_iff.2 ⟨h0, Int.le_refl _⟩
    · by_cases e : listI (search N X a (soonest N)).labels (listD N.roads i).src.toNat = -1
      · exact .inl e
      · exact .inr (F1.step i hi e)
    · by_cases e : listI (search N X a (latest N)).labels (listD N.roads i).src.toNat = -1
      · exact .inl e
      · exact .inr (F2.step i hi e)
  · have e : estErr N X Y a = 0 := by rw [est_is, if_pos hE]; exact trip_zero hX hY ⟨h0, h1⟩
    unfold estimate
    rw [if_neg (fun h => h e), Int.toNat_natCast]
  · by_cases e : listI (search N X a (latest N)).labels Y = -1
    · exact e
    · exact absurd h (r2 Y hY e)
  · have := Fs.within_iff.1 (I1 Y (by omega)); exact this.1
  · exact ⟨(along_joins F1 (net_joined hE) (soonest_good hE) hX h0 hw hj).2, (along_joins F2 (net_joined hE) (latest_good hE) hX h0 hw hj).2⟩

theorem ints_sameN (n : Nat) (l : List Int) (A B : Option Addr) (c d : Nat) (w : World) (hn : l.length = n) (hA : ArrI w A l c) (hB : ArrI w B l d) :
    Calls Try.prog 40 #[.slice A n c, .slice B n d] w fun e w' => e = .returned (.bool true) ∧ Below w.heap.size w w' := by
  subst hn; exact ints_same l A B c d w hA hB
theorem copyLabelsN_any (n : Nat) (l m : List Int) (A B : Option Addr) (c d : Nat) (w : World) (h1 : l.length = n) (h2 : m.length = n) (hn : n ≤ 1000000) (hA : ArrI w A l c) (hB : ArrI w B m d) :
    Calls Try.prog 42 #[.agg #[.slice A n c, .slice B n d]] w fun e w' => ∃ A1 c1 A2 c2, e = .returned (.agg #[.slice A1 n c1, .slice A2 n c2]) ∧ TwoI w' A1 l c1 A2 m c2 ∧ Below w.heap.size w w' := by
  have H := copyLabelsT_any l m A B c d w hA hB (by omega) (by omega)
  rw [h2] at H
  rw [h1] at H
  exact H
theorem checkLabelsN_any (n : Nat) (N : Net) (v : Value) (f t a : Int) (l m : List Int) (A B : Option Addr) (c d : Nat) (w : World) (h1 : l.length = n) (h2 : m.length = n) (hn : n ≤ 1000) (hN : RdNet w v N) (hA : ArrI w A l c) (hB : ArrI w B m d) :
    Calls Try.prog 41 #[v, stripV f t a, .agg #[.slice A n c, .slice B n d]] w fun e w' => e = .returned (.tuple #[.agg #[.int .i64 (cl N f t a l m).1.1, .int .i64 (cl N f t a l m).1.2], .int .i64 (cl N f t a l m).2]) ∧ Below w.heap.size w w' := by
  have H := checkLabels_any N v f t a l m A B c d w hN hA hB (by omega) (by omega)
  rw [h2] at H
  rw [h1] at H
  exact H
end Go.Proofs.Ythipneggplebcaa
