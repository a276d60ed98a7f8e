/- Of two trips that differ in their metres alone, the one with nowhere less of them has no lower fare. Condition: the trips are accepted. -/
import Derived.Test.YtbehabaoeicgeaaW9e
namespace Go.Proofs.Ytbehabaoeicgeaa.Fs
open Go.RowKit

/-- The trip with other segments. -/
def withSegs (X : Trip) (L : List Seg) : Trip := ⟨X.date, X.time, X.fixed, X.extras, L⟩
/-- As many segments, the same zones and seconds, metres that are in their range where those of the trip are. -/
structure Alike (X : Trip) (L : List Seg) : Prop where
  n : L.length = X.segs.length
  z : ∀ i, i < X.segs.length → (listG L i).zone = (listG X.segs i).zone
  s : ∀ i, i < X.segs.length → (listG L i).seconds = (listG X.segs i).seconds
  m : ∀ i, i < X.segs.length → within (listG L i).metres 0 100000 = within (listG X.segs i).metres 0 100000
section
variable {T : Tar} {X : Trip} {L : List Seg}
theorem Alike.check (h : Alike X L) : checkTrip' T (withSegs X L) = checkTrip' T X := by
  have e : errSegs' T L = errSegs' T X.segs := by
    unfold errSegs'
    rw [h.n]
    have hc := fst_congr (f := segBad T L) (g := segBad T X.segs) (n := X.segs.length) fun i hi => by
      unfold segBad errSeg
      rw [h.z i hi, h.s i hi, h.m i hi]
    rw [hc.1, hc.2]
  unfold checkTrip' withSegs
  simp only [e]
theorem Alike.begins (h : Alike X L) : ∀ k, k ≤ X.segs.length → begins (withSegs X L) k = begins X k := by
  intro k
  induction k with
  | zero => intro _; rfl
  | succ k ih =>
    intro hk
    have hs : (listG (withSegs X L).segs k).seconds = (listG X.segs k).seconds := h.s k (by omega)
    unfold Fs.begins
    rw [ih (by omega), hs]
theorem Alike.rule (h : Alike X L) {k : Nat} (hk : k < X.segs.length) : sRule T (withSegs X L) k = sRule T X k := by
  unfold sRule
  rw [h.begins k (by omega)]
  have hz : (listG (withSegs X L).segs k).zone = (listG X.segs k).zone := h.z k hk
  rw [hz]
theorem Alike.err (h : Alike X L) : rulesErr T (withSegs X L) = rulesErr T X := by
  unfold rulesErr
  rw [h.check]
  have e : (withSegs X L).segs.length = X.segs.length := h.n
  rw [e, (fst_congr (f := sErr T (withSegs X L)) (g := sErr T X) (n := X.segs.length) fun i hi => by
    unfold sErr
    rw [h.begins i (by omega), h.rule hi]).1]
theorem Alike.rules (h : Alike X L) : rulesL T (withSegs X L) = rulesL T X := by
  unfold rulesL
  have e : (withSegs X L).segs.length = X.segs.length := h.n
  rw [e]
  apply List.map_congr_left
  intro k hk
  rw [h.rule (by simpa using hk)]
theorem Alike.fixed (h : Alike X L) (hn : 1 ≤ X.segs.length) : fixedC T (withSegs X L) = fixedC T X := by
  unfold fixedC
  have e : (withSegs X L).segs.length = X.segs.length := h.n
  have z0 : (listG (withSegs X L).segs 0).zone = (listG X.segs 0).zone := h.z 0 (by omega)
  have z1 : (listG (withSegs X L).segs (X.segs.length - 1)).zone = (listG X.segs (X.segs.length - 1)).zone := h.z _ (by omega)
  rw [e, z0, z1]
theorem Alike.fareE (h : Alike X L) (hn : 1 ≤ X.segs.length) : fareE T (withSegs X L) = Fs.fareE T X := by
  unfold Fs.fareE
  rw [h.fixed hn]
  rfl
theorem Alike.rulesIn (h : Alike X L) {rl : List Int} (hr : RulesIn T X rl) : RulesIn T (withSegs X L) rl :=
  ⟨hr.1.trans h.n.symm, fun k hk => hr.2 k (by have e : (withSegs X L).segs.length = X.segs.length := h.n; omega)⟩
theorem reck_mono (q : Nat) {a b a' b' : Int} (h : a ≤ a') (k : b ≤ b') : reck q a b ≤ reck q a' b' := by
  match q with
  | 0 => show max a b ≤ max a' b'; omega
  | q + 1 => show a + b ≤ a' + b'; omega
theorem driven_mono {q q' : Nat} {Y Z : Trip} {rl : List Int} (h1 : errTar T = 0) (hn : Y.segs.length = Z.segs.length) (hp : ∀ k, k < Y.segs.length → pt q T rl Y.segs k ≤ pt q' T rl Z.segs k) : drivenC q T Y rl ≤ drivenC q' T Z rl := by
  obtain ⟨⟨-, ⟨u0, -⟩, ⟨s0, -⟩, -⟩, -⟩ := tar_sound h1
  unfold drivenC
  rw [← hn]
  refine Int.mul_le_mul_of_nonneg_right (Int.ediv_le_ediv (by omega) (sumTo_le fun k hk => ?_)) s0
  rw [ptL_at hk, ptL_at (by omega)]
  exact hp k hk
/-- The three fares of one trip with other metres. -/
theorem Alike.mono (h : Alike X L) {q : Nat} {rl : List Int} (hok : (checkTrip' T X).2 = 0) (hr : RulesIn T X rl) (hm : ∀ i, i < X.segs.length → (listG X.segs i).metres ≤ (listG L i).metres) :
    (fareV q T X rl).start = (fareV q T (withSegs X L) rl).start ∧ (fareV q T X rl).extras = (fareV q T (withSegs X L) rl).extras ∧ (fareV q T X rl).total ≤ (fareV q T (withSegs X L) rl).total := by
  obtain ⟨h1, -, -, h4⟩ := trip_ok hok
  obtain ⟨n1, -, hs⟩ := segs_ok h4
  have e : (withSegs X L).segs.length = X.segs.length := h.n
  have ex : extrasC T (withSegs X L) = extrasC T X := rfl
  have ef : (withSegs X L).fixed = X.fixed := rfl
  have hd : drivenC q T X rl ≤ drivenC q T (withSegs X L) rl := driven_mono h1 e.symm fun k hk => by
    obtain ⟨r0, r1⟩ := hr.2 k hk
    obtain ⟨-, ⟨m0, -⟩, s0, -⟩ := (rule_sound h1).2 (listI rl k).toNat (by omega)
    unfold pt ptM ptS
    have hsec : (listG (withSegs X L).segs k).seconds = (listG X.segs k).seconds := h.s k hk
    rw [hsec]
    exact reck_mono q (Int.mul_le_mul_of_nonneg_left (hm k hk) m0) (Int.le_refl _)
  unfold fareV
  rw [ef, ex, h.fixed n1]
  split
  · split
    · exact ⟨rfl, rfl, Int.le_refl _⟩
    · exact ⟨rfl, rfl, Int.le_refl _⟩
  · refine ⟨rfl, rfl, ?_⟩
    show startC T rl + drivenC q T X rl + extrasC T X ≤ startC T rl + drivenC q T (withSegs X L) rl + extrasC T X
    omega
end
end Go.Proofs.Ytbehabaoeicgeaa.Fs
