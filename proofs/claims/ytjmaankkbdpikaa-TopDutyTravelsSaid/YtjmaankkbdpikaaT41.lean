/- The law of overtaking: who sets out later arrives no earlier. No condition. -/
import Derived.Test.YtjmaankkbdpikaaT62
import Derived.Test.YtjmaankkbdpikaaT53
import Derived.Test.YtjmaankkbdpikaaN2
import Derived.Test.YtjmaankkbdpikaaT9
import Derived.Deep.RegionHeld3
import Derived.Deep.CutRange
import Derived.Deep.CutBlock
import Derived.Test.YtjmaankkbdpikaaT57
import Derived.Test.YtjmaankkbdpikaaT50
namespace Go.Proofs.Ytjmaankkbdpikaa
open Go.RowKit Fs

theorem Fs.along_mono {N : Net} {nx : Nat → Int → Int} (hg : Good N nx) {l : List Int} (hl : ∀ j, j < l.length → 0 ≤ listI l j ∧ listI l j < N.roads.length) {x y : Int} (h0 : 0 ≤ x) (hxy : x ≤ y) : ∀ k, k ≤ l.length → x ≤ alongTo nx k l x ∧ alongTo nx k l x ≤ alongTo nx k l y
  | 0, _ => ⟨Int.le_refl _, hxy⟩
  | k + 1, hk => by
    have ih := along_mono hg hl h0 hxy k (by omega)
    have hr := hl k (by omega)
    have h1 := hg.up (listI l k).toNat (alongTo nx k l x) (by omega) (by omega)
    have h2 := hg.mono (listI l k).toNat (alongTo nx k l x) (alongTo nx k l y) (by omega) (by omega) ih.2
    unfold alongTo
    omega
theorem Fs.line_le {x y x' y' left all : Int} (hl : 0 ≤ left ∧ left ≤ all) (ha : 1 ≤ all) (hx : x ≤ x') (hy : y ≤ y') : onLine x y left all ≤ onLine x' y' left all := by
  have h1 : x * left ≤ x' * left := Int.mul_le_mul_of_nonneg_right hx hl.1
  have h2 : y * (all - left) ≤ y' * (all - left) := Int.mul_le_mul_of_nonneg_right hy (by omega)
  unfold onLine
  exact Int.ediv_le_ediv (by omega) (by omega)
theorem Fs.takes_ends {l : List Pt} (h : PtsOk l) (a : Int) : (takesAt l a).1 ≤ (takesAt l a).2 := by
  have hn : 0 < l.length := Nat.pos_of_ne_zero h.1
  have ho : ∀ j, j < l.length → (listP l j).lo ≤ (listP l j).hi := fun j hj => by
    have h1 := h.2.2 j hj
    by_cases e : (listP l j).hi < (listP l j).lo
    · rw [errPoint_order (errPoint_right h1) (.inl e)] at h1; exact absurd h1 (by decide)
    · omega
  obtain ⟨np, pl⟩ := next_prev l (a % 86400) h.1
  have ql : nextOf l (a % 86400) < l.length := by rw [np]; exact Nat.mod_lt _ hn
  have s := secondsTo_is (a % 86400) (listP l (nextOf l (a % 86400))).hour
  have s2 := secondsTo_is (listP l (prevOf l (a % 86400))).hour (listP l (nextOf l (a % 86400))).hour
  obtain ⟨b0, b1, b2⟩ := behind_is l (a % 86400)
  have hle := left_le h (t := a % 86400) (by omega) b0 b1 b2
  rw [takesAt_eq]
  exact line_le ⟨by omega, hle⟩ s2.1 (ho _ pl) (ho _ ql)
theorem Fs.along_ends {N : Net} (hE : netErr N = 0) {l : List Int} (hl : ∀ j, j < l.length → 0 ≤ listI l j ∧ listI l j < N.roads.length) {x : Int} (h0 : 0 ≤ x) : ∀ k, k ≤ l.length → 0 ≤ alongTo (soonest N) k l x ∧ alongTo (soonest N) k l x ≤ alongTo (latest N) k l x
  | 0, _ => ⟨h0, Int.le_refl _⟩
  | k + 1, hk => by
    have ih := along_ends hE hl h0 k (by omega)
    have hr := hl k (by omega)
    have h1 := (soonest_good hE).up (listI l k).toNat (alongTo (soonest N) k l x) (by omega) (by omega)
    have h2 := (latest_good hE).mono (listI l k).toNat (alongTo (soonest N) k l x) (alongTo (latest N) k l x) (by omega) (by omega) ih.2
    have h3 : soonest N (listI l k).toNat (alongTo (soonest N) k l x) ≤ latest N (listI l k).toNat (alongTo (soonest N) k l x) := by
      have h4 := takes_ends (net_roads_ok hE (listI l k).toNat (by omega)).pts (alongTo (soonest N) k l x)
      generalize alongTo (soonest N) k l x = z at *
      show z + _ ≤ z + _
      omega
    refine ⟨?_, ?_⟩
    · show 0 ≤ soonest N (listI l k).toNat (alongTo (soonest N) k l x); omega
    · show soonest N (listI l k).toNat (alongTo (soonest N) k l x) ≤ latest N (listI l k).toNat (alongTo (latest N) k l x); omega
theorem Fs.arrOf_ok {N : Net} {l : List Int} {a : Int} (h1 : netErr N = 0) (h2 : wayErr N l = 0) (h3 : 0 ≤ a ∧ a ≤ 604800) : arrOf N l a = (arrivals N l a, 0) := by
  have e1 : cwErr N l = 0 := by unfold cwErr; rw [if_pos h1, h2]
  have e2 : timeErr a = 0 := if_pos (Fs.within_iff.2 h3)
  refine if_pos ?_
  unfold avErr
  rw [e1, e2]
  rfl
theorem Fs.arrivals_order {N : Net} {l : List Int} {x y : Int} (h1 : netErr N = 0) (h2 : wayErr N l = 0) (h0 : 0 ≤ x) (hxy : x ≤ y) :
    (arrivals N l x).1 ≤ (arrivals N l y).1 ∧ (arrivals N l x).2 ≤ (arrivals N l y).2 ∧ (arrivals N l x).1 ≤ (arrivals N l x).2 ∧ (arrivals N l y).1 ≤ (arrivals N l y).2 ∧ x ≤ (arrivals N l x).1 := by
  have hl : ∀ j, j < l.length → 0 ≤ listI l j ∧ listI l j < N.roads.length := fun j hj => ((way_ok h2).2 j hj).1
  have a1 := along_mono (soonest_good h1) hl h0 hxy l.length (Nat.le_refl _)
  have a2 := along_mono (latest_good h1) hl h0 hxy l.length (Nat.le_refl _)
  have a3 := along_ends h1 hl h0 l.length (Nat.le_refl _)
  have a4 := along_ends h1 hl (show 0 ≤ y by omega) l.length (Nat.le_refl _)
  exact ⟨a1.2, a2.2, a3.2, a4.2, a1.1⟩
/-- Two numbers in a block. -/
structure TwoAt (w : World) (g : Nat) (x y : Int) : Prop where
  c0 : w.cell? ⟨g, 0, none⟩ = some (.int .i64 x)
  c1 : w.cell? ⟨g, 1, none⟩ = some (.int .i64 y)
theorem TwoAt.keep {w w' : World} (k : Keep w w') {g : Nat} {x y : Int} (h : TwoAt w g x y) : TwoAt w' g x y := ⟨k _ _ h.c0, k _ _ h.c1⟩
theorem TwoAt.new1 (w : World) (B : Obj) (x y : Int) (ty : TypeId) : TwoAt ((w.alloc B).alloc (.cells #[.int .i64 x, .int .i64 y] ty)) (w.heap.size + 1) x y := ⟨cellNew1 _ _ _ _ 0, cellNew1 _ _ _ _ 1⟩

end Go.Proofs.Ytjmaankkbdpikaa
/- No way arrives earlier than labels that are proved: plain. Condition: the net is right. -/
namespace Go.Proofs.Ytjmaankkbdpikaa
open Go.RowKit Fs

theorem Fs.proof_over {N : Net} {nx : Nat → Int → Int} {s : List Int} (hP : Proof N nx s N.roads.length) (hin : LabIn s) (hlen : s.length = N.places.length) (hN : Joined N) (hg : Good N nx) {X : Nat} {a : Int} (hx : within (listI s X) 0 a = true) {l : List Int} (hw : wayErr N l = 0) (h0 : l.length ≠ 0 → (listD N.roads (listI l 0).toNat).src = (X : Int)) :
    ∀ k, k < l.length → listI s (listD N.roads (listI l k).toNat).dst.toNat ≠ -1 ∧ listI s (listD N.roads (listI l k).toNat).dst.toNat ≤ alongTo nx (k + 1) l a
  | 0, hk => by
    have hr := ((way_ok hw).2 0 hk).1
    have h := h0 (by omega)
    have hx := Fs.within_iff.1 hx
    have st := hP (listI l 0).toNat (by omega)
    rw [h, Int.toNat_natCast] at st
    rcases st with st | st
    · omega
    · refine ⟨st.1, ?_⟩
      have hm := hg.mono (listI l 0).toNat (listI s X) a (by omega) hx.1 hx.2
      show _ ≤ nx (listI l 0).toNat a
      omega
  | k + 1, hk => by
    have ih := proof_over hP hin hlen hN hg hx hw h0 k (by omega)
    have hr := ((way_ok hw).2 (k + 1) hk)
    have hj := hr.2 (by omega)
    rw [Nat.add_sub_cancel] at hj
    have hr := hr.1
    have st := hP (listI l (k + 1)).toNat (by omega)
    rw [← hj] at st
    have hjn := hN (listI l k).toNat (by have := ((way_ok hw).2 k (by omega)).1; omega)
    have hle := Fs.within_iff.1 (hin (listD N.roads (listI l k).toNat).dst.toNat (by omega))
    rcases st with st | st
    · exact absurd st ih.1
    · have hm := hg.mono (listI l (k + 1)).toNat _ _ (by omega) (by have := ih.1; omega) ih.2
      refine ⟨st.1, ?_⟩
      show _ ≤ nx (listI l (k + 1)).toNat (alongTo nx (k + 1) l a)
      omega
theorem Fs.proof_joins {N : Net} {nx : Nat → Int → Int} {s : List Int} (hP : Proof N nx s N.roads.length) (hin : LabIn s) (hlen : s.length = N.places.length) (hN : Joined N) (hg : Good N nx) {X t : Nat} {a : Int} (hx : within (listI s X) 0 a = true) {l : List Int} (hw : wayErr N l = 0) (hj : JoinsIs N l X t) :
    listI s t ≤ alongTo nx l.length l a := by
  by_cases e : l.length = 0
  · unfold JoinsIs at hj
    rw [if_pos e] at hj
    have : X = t := by omega
    subst this
    rw [e]
    exact (Fs.within_iff.1 hx).2
  · have j := joins_some e hj
    have := proof_over hP hin hlen hN hg hx hw (fun _ => j.1) (l.length - 1) (by omega)
    rw [j.2, Int.toNat_natCast, show l.length - 1 + 1 = l.length by omega] at this
    exact this.2
theorem Fs.rcl_bound {N : Net} {X Y : Nat} {a : Int} {l m : List Int} (h : (rcl N X Y a l m).2 = 0) (hE : netErr N = 0) {way : List Int} (hw : wayErr N way = 0) (hj : JoinsIs N way X Y) :
    (rcl N X Y a l m).1.1 ≤ (arrivals N way a).1 ∧ (rcl N X Y a l m).1.2 ≤ (arrivals N way a).2 := by
  unfold rcl at *
  by_cases h1 : labErr N [l, m] = 0
  · obtain ⟨a1, a2, a3, a4⟩ := labErr_two.1 h1
    rw [if_pos h1] at h ⊢
    unfold clRes at *
    by_cases h2 : within (listI l X) 0 a = true ∧ within (listI m X) 0 a = true ∧ Proof N (soonest N) l N.roads.length ∧ Proof N (latest N) m N.roads.length
    · rw [if_pos h2] at h ⊢
      have p1 := proof_joins h2.2.2.1 a3 a1 (net_joined hE) (soonest_good hE) h2.1 hw hj
      have p2 := proof_joins h2.2.2.2 a4 a2 (net_joined hE) (latest_good hE) h2.2.1 hw hj
      unfold bound at *
      by_cases h3 : listI l Y = -1 ∨ listI m Y = -1
      · rw [if_pos h3] at h; exact absurd h (by decide)
      · rw [if_neg h3]; exact ⟨p1, p2⟩
    · rw [if_neg h2] at h; exact absurd h (by decide)
  · rw [if_neg h1] at h; exact absurd h h1
theorem Fs.cl_is {N : Net} {X Y : Nat} {a : Int} {l m : List Int} (hE : netErr N = 0) (hT : tripErr N X Y a = 0) : cl N X Y a l m = rcl N X Y a l m := by
  have e : clErr N X Y a l m = labErr N [l, m] := by
    unfold clErr
    rw [hE, hT]
    by_cases h : labErr N [l, m] = 0
    · rw [h]; rfl
    · exact (fst_hit (f := listI [0, 0, labErr N [l, m]]) (k := 2) (n := 3) (by decide) (fun j hj => by rcases (show j = 0 ∨ j = 1 by omega) with rfl | rfl <;> rfl) h).1
  unfold cl rcl
  rw [e]
  by_cases h : labErr N [l, m] = 0
  · rw [if_pos h, if_pos h, Int.toNat_natCast, Int.toNat_natCast]
  · rw [if_neg h, if_neg h]
theorem Fs.cl_net {N : Net} {f t a : Int} {l m : List Int} (h : netErr N ≠ 0) : cl N f t a l m = ((0, 0), netErr N) := by
  have e : clErr N f t a l m = netErr N := (fst_hit (f := listI [netErr N, tripErr N f t a, labErr N [l, m]]) (k := 0) (n := 3) (by decide) (fun j hj => absurd hj (Nat.not_lt_zero _)) h).1
  unfold cl; rw [e, if_neg h]
theorem Fs.cl_trip {N : Net} {f t a : Int} {l m : List Int} (h : netErr N = 0) (h2 : tripErr N f t a ≠ 0) : cl N f t a l m = ((0, 0), tripErr N f t a) := by
  have e : clErr N f t a l m = tripErr N f t a := (fst_hit (f := listI [netErr N, tripErr N f t a, labErr N [l, m]]) (k := 1) (n := 3) (by decide) (fun j hj => by rcases (show j = 0 by omega) with rfl; exact h) h2).1
  unfold cl; rw [e, if_neg h2]

/-- Three cells of the block g. -/
structure TriAt (w : World) (g : Nat) (u v x : Value) : Prop where
  c0 : w.cell? ⟨g, 0, none⟩ = some u
  c1 : w.cell? ⟨g, 1, none⟩ = some v
  c2 : w.cell? ⟨g, 2, none⟩ = some x
theorem TriAt.keep {w w' : World} (k : Keep w w') {g : Nat} {u v x : Value} (m : TriAt w g u v x) : TriAt w' g u v x := ⟨k _ _ m.c0, k _ _ m.c1, k _ _ m.c2⟩
theorem TriAt.new (w : World) (u v x : Value) (ty : TypeId) : TriAt (w.alloc (.cells #[u, v, x] ty)) w.heap.size u v x := ⟨cellNew _ _ _ 0, cellNew _ _ _ 1, cellNew _ _ _ 2⟩
theorem TriAt.new2 (w : World) (E F : Obj) (u v x : Value) (ty : TypeId) : TriAt (((w.alloc E).alloc F).alloc (.cells #[u, v, x] ty)) (w.heap.size + 1 + 1) u v x := by
  have := TriAt.new ((w.alloc E).alloc F) u v x ty
  simpa using this
/-- Two lists of numbers. -/
def TwoI (w : World) (A : Option Addr) (l : List Int) (c : Nat) (B : Option Addr) (m : List Int) (d : Nat) : Prop := ArrI w A l c ∧ ArrI w B m d
theorem TwoI.keep {w w' : World} (k : Keep w w') {A : Option Addr} {l : List Int} {c : Nat} {B : Option Addr} {m : List Int} {d : Nat} (h : TwoI w A l c B m d) : TwoI w' A l c B m d := ⟨h.1.keep k, h.2.keep k⟩
end Go.Proofs.Ytjmaankkbdpikaa
/- Fastest: a way that arrives as early as possible, soon or late. Condition: the net can be read. -/
namespace Go.Proofs.Ytjmaankkbdpikaa
open Go.RowKit Fs

def Fs.fastErr (N : Net) (nx : Nat → Int → Int) (f t a : Int) : Int := if estErr N f t a = 0 then (if listI (search N f a nx).labels t.toNat = -1 then 12 else 0) else estErr N f t a

set_option maxHeartbeats 6400000 in
set_option maxRecDepth 100000 in
theorem fastS_any (N : Net) (v : Value) (f t a : Int) (w : World) (hN : RdNet w v N) :
    Calls Try.prog 14 #[v, stripV f t a, .bool false] w fun e w' => ∃ (W : List Int) (A : Option Addr) (c : Nat), e = .returned (.tuple #[.slice A W.length c, .int .i64 (fastErr N (soonest N) f t a)]) ∧ ArrI w' A W c ∧
      (fastErr N (soonest N) f t a = 0 → Chain N (search N f a (soonest N)).last t.toNat W.reverse) ∧ (fastErr N (soonest N) f t a ≠ 0 → W = []) ∧ Below w.heap.size w w' := by
  have hN0 := Lib.hid hN
  obtain ⟨P, R, pc, rc, ar, rfl, m⟩ := hN
  clear m
  have BN := Lib.hid ((BoxN.new w N P R pc rc 25).keep (Keep.alloc _ (.cells #[.int .i64 f, .int .i64 t, .int .i64 a] 27)))
  have BT := Lib.hid (TripAt.new1 w (.cells #[.slice P N.places.length pc, .slice R N.roads.length rc] 25) f t a 27)
  go_enter Try.func14, Try.ntmps14
  go_upto_region 1 with fail
  generalize hwb : (w.alloc _).alloc _ = wb at *
  have HW : Hid (Below w.heap.size w wb) := by rw [← hwb]; exact Lib.hid (((Below.refl _ _).alloc (Nat.le_refl _) _).alloc (by simp) _)
  clear hwb
  obtain ⟨n0, n1⟩ := BN.out
  obtain ⟨c0, c1, c2⟩ := BT.out
  go_cut [8] from 11 to 18 (fun s wx => s = .int .i64 (estErr N f t a) ∧ Hid (Below wb.heap.size wb wx))
  case first =>
    have HBd : Hid (Below wb.heap.size wb wb.drew) := Lib.hid (Below.refl _ _).drew
    have MK : Hid (∀ w', Below wb.heap.size wb w' → w'.cell? ⟨w.heap.size, 0, none⟩ = some (.slice P N.places.length pc) ∧ w'.cell? ⟨w.heap.size, 1, none⟩ = some (.slice R N.roads.length rc) ∧ w'.cell? ⟨w.heap.size + 1, 0, none⟩ = some (.int .i64 f) ∧ w'.cell? ⟨w.heap.size + 1, 1, none⟩ = some (.int .i64 t) ∧ w'.cell? ⟨w.heap.size + 1, 2, none⟩ = some (.int .i64 a) ∧ Hid (Below wb.heap.size wb w')) :=
      Lib.hid fun w' hw => ⟨Keep.below hw _ _ n0, Keep.below hw _ _ n1, Keep.below hw _ _ c0, Keep.below hw _ _ c1, Keep.below hw _ _ c2, Lib.hid hw⟩
    have KN : Hid (∀ w', Below wb.heap.size wb w' → RdNet w' (netV N P R pc rc) N) := Lib.hid fun w' hw => (hN0.out.keep (Keep.below (HW.out.trans (hw.mono HW.out.size))))
    go_region_held3 (fun w' => w'.cell? ⟨w.heap.size, 0, none⟩ = some (.slice P N.places.length pc) ∧ w'.cell? ⟨w.heap.size, 1, none⟩ = some (.slice R N.roads.length rc) ∧ w'.cell? ⟨w.heap.size + 1, 0, none⟩ = some (.int .i64 f) ∧ w'.cell? ⟨w.heap.size + 1, 1, none⟩ = some (.int .i64 t) ∧ w'.cell? ⟨w.heap.size + 1, 2, none⟩ = some (.int .i64 a) ∧ Hid (Below wb.heap.size wb w'))
      (first
        | exact MK.out _ HBd.out
        | (go_split_ands; exact ⟨by assumption, by assumption, by assumption, by assumption, by assumption, by assumption⟩)
        | (go_split_ands; exact MK.out _ (Below.trans (Hid.out (by assumption)) (hb1.mono (Hid.out (by assumption) : Below wb.heap.size wb _).size)))
        | (go_split_ands; exact MK.out _ (Below.alloc (Hid.out (by assumption)) (Hid.out (by assumption) : Below wb.heap.size wb _).size _)))
      ((first
        | (go_at_call 22
           go_split_ands
           refine (errNet_any N _ _ (KN.out _ (Hid.out (by assumption)))).mono ?_
           rintro e' w1 ⟨rfl, hb1⟩)
        | (go_at_call 23
           go_split_ands
           refine (tripErr_any N _ f t a _ (KN.out _ (Hid.out (by assumption)))).mono ?_
           rintro e' w1 ⟨rfl, hb1⟩)
        | (go_at_call 21
           go_split_ands
           refine (firstError_any [netErr N, tripErr N f t a] _ _ _ (by first | exact arr2New _ _ _ _ | exact ArrI.keep (Keep.drew _) (arr2New _ _ _ _))).mono ?_
           rintro e' w1 ⟨rfl, rfl⟩)))
    all_goals
      rename_i hS
      obtain ⟨-, -, -, -, -, hbb⟩ := hS
      go_wp2_with fail
      go_meet
      first
        | exact ⟨rfl, hbb⟩
  case rest =>
    obtain ⟨rfl, HB⟩ := hcut
    obtain ⟨wp, hwp⟩ : ∃ wp, wp = wc := ⟨_, rfl⟩
    subst hwp
    replace HW := Lib.hid (HW.out.trans (HB.out.mono HW.out.size))
    replace BN := Lib.hid (BN.out.keep (Keep.below HB.out))
    replace BT := Lib.hid (BT.out.keep (Keep.below HB.out))
    clear HB n0 n1 c0 c1 c2
    by_cases he : estErr N f t a = 0
    · obtain ⟨hE, hT⟩ := estErr_ok he
      have HE := Lib.hid hE
      obtain ⟨hpf, hpt, hta⟩ := tripErr_ok hT
      have hta := timeErr_ok hta
      obtain ⟨f0, f1⟩ := isPlace_in hpf
      obtain ⟨t0, t1⟩ := isPlace_in hpt
      have HF0 := Lib.hid (show fastErr N (soonest N) f t a = if listI (search N f a (soonest N)).labels t.toNat = -1 then 12 else 0 from if_pos he)
      rw [he]
      clear he hE hT hpf hpt
      obtain ⟨X, hX⟩ : ∃ X : Nat, f = X := ⟨_, (Int.toNat_of_nonneg f0).symm⟩
      obtain ⟨Y, hY⟩ : ∃ Y : Nat, t = Y := ⟨_, (Int.toNat_of_nonneg t0).symm⟩
      subst hX; subst hY
      have hXl : X < N.places.length := by omega
      have hYl : Y < N.places.length := by omega
      clear f0 f1 t0 t1
      rw [Int.toNat_natCast] at HF0
      obtain ⟨n0, n1⟩ := BN.out
      go_wp2_with fail
      refine (soonest_any N _ _ (hN0.out.keep (Keep.below HW.out)) HE.out).mono ?_
      rintro e' w2 ⟨f1, rfl, hf1, hb1⟩
      replace HW := Lib.hid (HW.out.trans (hb1.mono HW.out.size))
      replace BN := Lib.hid (BN.out.keep (Keep.below hb1))
      replace BT := Lib.hid (BT.out.keep (Keep.below hb1))
      have HF1 := Lib.hid hf1
      clear hf1
      clear n0 n1
      clear hb1
      obtain ⟨n0, n1⟩ := BN.out
      obtain ⟨c0, c1, c2⟩ := BT.out
      go_wp2_with fail
      refine (search_any N (soonest N) _ f1 X a _ (hN0.out.keep (Keep.below HW.out)) HE.out HF1.out (soonest_small HE.out) hXl hta.1 (by omega)).mono ?_
      rintro e' w4 ⟨gl, ga, rfl, hrl, hra, -, -, hb1⟩
      replace HW := Lib.hid (HW.out.trans (hb1.mono HW.out.size))
      replace BN := Lib.hid (BN.out.keep (Keep.below hb1))
      replace BT := Lib.hid (BT.out.keep (Keep.below hb1))
      have HRL := Lib.hid hrl
      have HRA := Lib.hid hra
      clear hrl hra
      clear n0 n1 c0 c1 c2
      clear hb1
      have HTR := Lib.hid (TreeAt.new w4 (.slice (some ⟨gl, 0, none⟩) N.places.length N.places.length) (.slice (some ⟨ga, 0, none⟩) N.places.length N.places.length) 84)
      have hb8 : Below w4.heap.size w4 (w4.alloc (.cells #[.slice (some ⟨gl, 0, none⟩) N.places.length N.places.length, .slice (some ⟨ga, 0, none⟩) N.places.length N.places.length] 84)) := (Below.refl _ _).alloc (Nat.le_refl _) _
      replace HRL := Lib.hid (HRL.out.keep hb8)
      replace HRA := Lib.hid (HRA.out.keep hb8)
      replace HW := Lib.hid (HW.out.trans (hb8.mono HW.out.size))
      replace BN := Lib.hid (BN.out.keep (Keep.below hb8))
      replace BT := Lib.hid (BT.out.keep (Keep.below hb8))
      clear hb8
      have HZL : Y < (search N X a (soonest N)).labels.length := by rw [search_len.1]; exact hYl
      have t0 := HRL.out.int (i := Y) HZL
      have hun : (Y : Int) < (N.places.length : Int) := by omega
      obtain ⟨n0, n1⟩ := BN.out
      obtain ⟨c0, c1, c2⟩ := BT.out
      obtain ⟨q0, q1, -, -⟩ := HTR.out
      by_cases hl : listI (search N X a (soonest N)).labels Y = -1
      · have e1 : (listI (search N X a (soonest N)).labels Y == -1) = true := by simpa using hl
        have HF := Lib.hid (HF0.out.trans (if_pos hl))
        clear hl
        go_wp2_with fail
        refine bodyPost_ret (v := .tuple #[.slice none 0 0, .int .i64 12]) (by simp [results, Try.results14, go_sem]) rfl ⟨[], none, 0, by rw [HF.out]; rfl, arrNil _, fun h => absurd (show (12 : Int) = 0 by rw [HF.out] at h; exact h) (by decide), fun _ => rfl, HW.out⟩
      · have e1 : (listI (search N X a (soonest N)).labels Y == -1) = false := by simpa using hl
        have HF := Lib.hid (HF0.out.trans (if_neg hl))
        clear hl
        obtain ⟨rk, hbk⟩ := (search_found (N := N) (nx := soonest N) (src := X) (L := a) (net_joined HE.out) (soonest_good HE.out) hXl hta.1).back'
        have HBK := Lib.hid hbk
        clear hbk
        go_wp2_with fail
        refine (wayTo_any N _ _ rk gl ga Y _ (hN0.out.keep (Keep.below HW.out)) HE.out HRA.out HBK.out hYl).mono ?_
        rintro e' w5 ⟨l, A, c, hch, rfl, hA, hb1⟩
        have HX := Lib.hid (HW.out.trans (hb1.mono HW.out.size))
        have HA := Lib.hid hA
        have HCH := Lib.hid hch
        clear hA hch hb1 n0 n1 c0 c1 c2 q0 q1 t0
        go_wp2_with fail
        refine bodyPost_ret (v := .tuple #[.slice A l.length c, .int .i64 0]) (by simp [results, Try.results14, go_sem]) rfl ⟨l.reverse, A, c, by rw [HF.out, List.length_reverse], HA.out, fun _ => by rw [List.reverse_reverse, Int.toNat_natCast]; exact HCH.out, fun h => absurd HF.out h, HX.out⟩
    · have e1 : (estErr N f t a == 0) = false := by simpa using he
      have e2 : (estErr N f t a != 0) = true := by simpa using he
      have HF := Lib.hid (show fastErr N (soonest N) f t a = estErr N f t a from if_neg he)
      have HNE := Lib.hid he
      clear he
      go_wp2_with fail
      refine bodyPost_ret (v := .tuple #[.slice none 0 0, .int .i64 (estErr N f t a)]) (by simp [results, Try.results14, go_sem]) rfl ⟨[], none, 0, by rw [HF.out]; rfl, arrNil _, fun h => absurd (HF.out.symm.trans h) HNE.out, fun _ => rfl, HW.out⟩
set_option maxHeartbeats 6400000 in
set_option maxRecDepth 100000 in
theorem fastL_any (N : Net) (v : Value) (f t a : Int) (w : World) (hN : RdNet w v N) :
    Calls Try.prog 14 #[v, stripV f t a, .bool true] w fun e w' => ∃ (W : List Int) (A : Option Addr) (c : Nat), e = .returned (.tuple #[.slice A W.length c, .int .i64 (fastErr N (latest N) f t a)]) ∧ ArrI w' A W c ∧
      (fastErr N (latest N) f t a = 0 → Chain N (search N f a (latest N)).last t.toNat W.reverse) ∧ (fastErr N (latest N) f t a ≠ 0 → W = []) ∧ Below w.heap.size w w' := by
  have hN0 := Lib.hid hN
  obtain ⟨P, R, pc, rc, ar, rfl, m⟩ := hN
  clear m
  have BN := Lib.hid ((BoxN.new w N P R pc rc 25).keep (Keep.alloc _ (.cells #[.int .i64 f, .int .i64 t, .int .i64 a] 27)))
  have BT := Lib.hid (TripAt.new1 w (.cells #[.slice P N.places.length pc, .slice R N.roads.length rc] 25) f t a 27)
  go_enter Try.func14, Try.ntmps14
  go_upto_region 1 with fail
  generalize hwb : (w.alloc _).alloc _ = wb at *
  have HW : Hid (Below w.heap.size w wb) := by rw [← hwb]; exact Lib.hid (((Below.refl _ _).alloc (Nat.le_refl _) _).alloc (by simp) _)
  clear hwb
  obtain ⟨n0, n1⟩ := BN.out
  obtain ⟨c0, c1, c2⟩ := BT.out
  go_cut [8] from 11 to 18 (fun s wx => s = .int .i64 (estErr N f t a) ∧ Hid (Below wb.heap.size wb wx))
  case first =>
    have HBd : Hid (Below wb.heap.size wb wb.drew) := Lib.hid (Below.refl _ _).drew
    have MK : Hid (∀ w', Below wb.heap.size wb w' → w'.cell? ⟨w.heap.size, 0, none⟩ = some (.slice P N.places.length pc) ∧ w'.cell? ⟨w.heap.size, 1, none⟩ = some (.slice R N.roads.length rc) ∧ w'.cell? ⟨w.heap.size + 1, 0, none⟩ = some (.int .i64 f) ∧ w'.cell? ⟨w.heap.size + 1, 1, none⟩ = some (.int .i64 t) ∧ w'.cell? ⟨w.heap.size + 1, 2, none⟩ = some (.int .i64 a) ∧ Hid (Below wb.heap.size wb w')) :=
      Lib.hid fun w' hw => ⟨Keep.below hw _ _ n0, Keep.below hw _ _ n1, Keep.below hw _ _ c0, Keep.below hw _ _ c1, Keep.below hw _ _ c2, Lib.hid hw⟩
    have KN : Hid (∀ w', Below wb.heap.size wb w' → RdNet w' (netV N P R pc rc) N) := Lib.hid fun w' hw => (hN0.out.keep (Keep.below (HW.out.trans (hw.mono HW.out.size))))
    go_region_held3 (fun w' => w'.cell? ⟨w.heap.size, 0, none⟩ = some (.slice P N.places.length pc) ∧ w'.cell? ⟨w.heap.size, 1, none⟩ = some (.slice R N.roads.length rc) ∧ w'.cell? ⟨w.heap.size + 1, 0, none⟩ = some (.int .i64 f) ∧ w'.cell? ⟨w.heap.size + 1, 1, none⟩ = some (.int .i64 t) ∧ w'.cell? ⟨w.heap.size + 1, 2, none⟩ = some (.int .i64 a) ∧ Hid (Below wb.heap.size wb w'))
      (first
        | exact MK.out _ HBd.out
        | (go_split_ands; exact ⟨by assumption, by assumption, by assumption, by assumption, by assumption, by assumption⟩)
        | (go_split_ands; exact MK.out _ (Below.trans (Hid.out (by assumption)) (hb1.mono (Hid.out (by assumption) : Below wb.heap.size wb _).size)))
        | (go_split_ands; exact MK.out _ (Below.alloc (Hid.out (by assumption)) (Hid.out (by assumption) : Below wb.heap.size wb _).size _)))
      ((first
        | (go_at_call 22
           go_split_ands
           refine (errNet_any N _ _ (KN.out _ (Hid.out (by assumption)))).mono ?_
           rintro e' w1 ⟨rfl, hb1⟩)
        | (go_at_call 23
           go_split_ands
           refine (tripErr_any N _ f t a _ (KN.out _ (Hid.out (by assumption)))).mono ?_
           rintro e' w1 ⟨rfl, hb1⟩)
        | (go_at_call 21
           go_split_ands
           refine (firstError_any [netErr N, tripErr N f t a] _ _ _ (by first | exact arr2New _ _ _ _ | exact ArrI.keep (Keep.drew _) (arr2New _ _ _ _))).mono ?_
           rintro e' w1 ⟨rfl, rfl⟩)))
    all_goals
      rename_i hS
      obtain ⟨-, -, -, -, -, hbb⟩ := hS
      go_wp2_with fail
      go_meet
      first
        | exact ⟨rfl, hbb⟩
  case rest =>
    obtain ⟨rfl, HB⟩ := hcut
    obtain ⟨wp, hwp⟩ : ∃ wp, wp = wc := ⟨_, rfl⟩
    subst hwp
    replace HW := Lib.hid (HW.out.trans (HB.out.mono HW.out.size))
    replace BN := Lib.hid (BN.out.keep (Keep.below HB.out))
    replace BT := Lib.hid (BT.out.keep (Keep.below HB.out))
    clear HB n0 n1 c0 c1 c2
    by_cases he : estErr N f t a = 0
    · obtain ⟨hE, hT⟩ := estErr_ok he
      have HE := Lib.hid hE
      obtain ⟨hpf, hpt, hta⟩ := tripErr_ok hT
      have hta := timeErr_ok hta
      obtain ⟨f0, f1⟩ := isPlace_in hpf
      obtain ⟨t0, t1⟩ := isPlace_in hpt
      have HF0 := Lib.hid (show fastErr N (latest N) f t a = if listI (search N f a (latest N)).labels t.toNat = -1 then 12 else 0 from if_pos he)
      rw [he]
      clear he hE hT hpf hpt
      obtain ⟨X, hX⟩ : ∃ X : Nat, f = X := ⟨_, (Int.toNat_of_nonneg f0).symm⟩
      obtain ⟨Y, hY⟩ : ∃ Y : Nat, t = Y := ⟨_, (Int.toNat_of_nonneg t0).symm⟩
      subst hX; subst hY
      have hXl : X < N.places.length := by omega
      have hYl : Y < N.places.length := by omega
      clear f0 f1 t0 t1
      rw [Int.toNat_natCast] at HF0
      obtain ⟨n0, n1⟩ := BN.out
      go_wp2_with fail
      refine (soonest_any N _ _ (hN0.out.keep (Keep.below HW.out)) HE.out).mono ?_
      rintro e' w2 ⟨f1, rfl, hf1, hb1⟩
      replace HW := Lib.hid (HW.out.trans (hb1.mono HW.out.size))
      replace BN := Lib.hid (BN.out.keep (Keep.below hb1))
      replace BT := Lib.hid (BT.out.keep (Keep.below hb1))
      have HF1 := Lib.hid hf1
      clear hf1
      clear n0 n1
      clear hb1
      obtain ⟨n0, n1⟩ := BN.out
      go_wp2_with fail
      refine (latest_any N _ _ (hN0.out.keep (Keep.below HW.out)) HE.out).mono ?_
      rintro e' w3 ⟨f2, rfl, hf2, hb1⟩
      replace HW := Lib.hid (HW.out.trans (hb1.mono HW.out.size))
      replace BN := Lib.hid (BN.out.keep (Keep.below hb1))
      replace BT := Lib.hid (BT.out.keep (Keep.below hb1))
      have HF2 := Lib.hid hf2
      clear hf2 HF1
      clear n0 n1
      clear hb1
      obtain ⟨n0, n1⟩ := BN.out
      obtain ⟨c0, c1, c2⟩ := BT.out
      go_wp2_with fail
      refine (search_any N (latest N) _ f2 X a _ (hN0.out.keep (Keep.below HW.out)) HE.out HF2.out (latest_small HE.out) hXl hta.1 (by omega)).mono ?_
      rintro e' w4 ⟨gl, ga, rfl, hrl, hra, -, -, hb1⟩
      replace HW := Lib.hid (HW.out.trans (hb1.mono HW.out.size))
      replace BN := Lib.hid (BN.out.keep (Keep.below hb1))
      replace BT := Lib.hid (BT.out.keep (Keep.below hb1))
      have HRL := Lib.hid hrl
      have HRA := Lib.hid hra
      clear hrl hra
      clear n0 n1 c0 c1 c2
      clear hb1
      have HTR := Lib.hid (TreeAt.new w4 (.slice (some ⟨gl, 0, none⟩) N.places.length N.places.length) (.slice (some ⟨ga, 0, none⟩) N.places.length N.places.length) 84)
      have hb8 : Below w4.heap.size w4 (w4.alloc (.cells #[.slice (some ⟨gl, 0, none⟩) N.places.length N.places.length, .slice (some ⟨ga, 0, none⟩) N.places.length N.places.length] 84)) := (Below.refl _ _).alloc (Nat.le_refl _) _
      replace HRL := Lib.hid (HRL.out.keep hb8)
      replace HRA := Lib.hid (HRA.out.keep hb8)
      replace HW := Lib.hid (HW.out.trans (hb8.mono HW.out.size))
      replace BN := Lib.hid (BN.out.keep (Keep.below hb8))
      replace BT := Lib.hid (BT.out.keep (Keep.below hb8))
      clear hb8
      have HZL : Y < (search N X a (latest N)).labels.length := by rw [search_len.1]; exact hYl
      have t0 := HRL.out.int (i := Y) HZL
      have hun : (Y : Int) < (N.places.length : Int) := by omega
      obtain ⟨n0, n1⟩ := BN.out
      obtain ⟨c0, c1, c2⟩ := BT.out
      obtain ⟨q0, q1, -, -⟩ := HTR.out
      by_cases hl : listI (search N X a (latest N)).labels Y = -1
      · have e1 : (listI (search N X a (latest N)).labels Y == -1) = true := by simpa using hl
        have HF := Lib.hid (HF0.out.trans (if_pos hl))
        clear hl
        go_wp2_with fail
        refine bodyPost_ret (v := .tuple #[.slice none 0 0, .int .i64 12]) (by simp [results, Try.results14, go_sem]) rfl ⟨[], none, 0, by rw [HF.out]; rfl, arrNil _, fun h => absurd (show (12 : Int) = 0 by rw [HF.out] at h; exact h) (by decide), fun _ => rfl, HW.out⟩
      · have e1 : (listI (search N X a (latest N)).labels Y == -1) = false := by simpa using hl
        have HF := Lib.hid (HF0.out.trans (if_neg hl))
        clear hl
        obtain ⟨rk, hbk⟩ := (search_found (N := N) (nx := latest N) (src := X) (L := a) (net_joined HE.out) (latest_good HE.out) hXl hta.1).back'
        have HBK := Lib.hid hbk
        clear hbk
        go_wp2_with fail
        refine (wayTo_any N _ _ rk gl ga Y _ (hN0.out.keep (Keep.below HW.out)) HE.out HRA.out HBK.out hYl).mono ?_
        rintro e' w5 ⟨l, A, c, hch, rfl, hA, hb1⟩
        have HX := Lib.hid (HW.out.trans (hb1.mono HW.out.size))
        have HA := Lib.hid hA
        have HCH := Lib.hid hch
        clear hA hch hb1 n0 n1 c0 c1 c2 q0 q1 t0
        go_wp2_with fail
        refine bodyPost_ret (v := .tuple #[.slice A l.length c, .int .i64 0]) (by simp [results, Try.results14, go_sem]) rfl ⟨l.reverse, A, c, by rw [HF.out, List.length_reverse], HA.out, fun _ => by rw [List.reverse_reverse, Int.toNat_natCast]; exact HCH.out, fun h => absurd HF.out h, HX.out⟩
    · have e1 : (estErr N f t a == 0) = false := by simpa using he
      have e2 : (estErr N f t a != 0) = true := by simpa using he
      have HF := Lib.hid (show fastErr N (latest N) f t a = estErr N f t a from if_neg he)
      have HNE := Lib.hid he
      clear he
      go_wp2_with fail
      refine bodyPost_ret (v := .tuple #[.slice none 0 0, .int .i64 (estErr N f t a)]) (by simp [results, Try.results14, go_sem]) rfl ⟨[], none, 0, by rw [HF.out]; rfl, arrNil _, fun h => absurd (HF.out.symm.trans h) HNE.out, fun _ => rfl, HW.out⟩
end Go.Proofs.Ytjmaankkbdpikaa
