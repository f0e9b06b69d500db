import PyProof.Rows.All
import Wide.All
import OpenK.AllK
import Wide.FinOn
import HandS.ForMost
import HandS.IsInst
import HandS.TupAny
import HandS.TupMul
import HandS.DictComp
import HandS.DictTup
import HandS.Conv
import HandS.TupSets
import HandS.Style
import PyProof.ReprRoads
import PyProof.CallFns
import HandS.Evl
import KE.KDictPairs
import KE.KDictCopyH
import KE.KDictSum
import HandS.Flow
import HandS.Walk
import HandS.Defaults
import HandS.Gcd
import HandS.Wide
import HandS.WideBits
import HandS.Head0
import HandS.Head1
import HandS.Head2
import HandS.Head3
import HandS.HeadEnd
import HandS.HeadHook1
import HandS.HeadHook2
import HandS.HeadHook3
import HandS.HeadHook4
import PySem.Challenge.RW_allendless_k49_numbers_of_rows
namespace R49
/-! ### rows of digits 0 to 2 as numbers -/
def sumD (l : List Int) : Int := l.foldl (fun t d => 2 * t + d - 1) 0
theorem sumD_snoc (l : List Int) (d : Int) : sumD (l ++ [d]) = 2 * sumD l + d - 1 := by
  unfold sumD
  rw [List.foldl_append]
  rfl
def Dig (l : List Int) : Prop := ∀ d ∈ l, 0 ≤ d ∧ d ≤ 2
def S (e : Nat → Int) : Nat → Int
  | 0 => 0
  | n + 1 => 2 * S e n + e n - 1
theorem S_sum (e : Nat → Int) : ∀ n, S e n = sumD ((List.range n).map e)
  | 0 => rfl
  | n + 1 => by
    rw [List.range_succ, List.map_append, List.map_cons, List.map_nil, sumD_snoc, ← S_sum e n]
    rfl
theorem S_add (e : Nat → Int) (m : Nat) : ∀ n, S e (m + n) = 2 ^ n * S e m + S (fun i => e (m + i)) n
  | 0 => by
    show S e m = 2 ^ 0 * S e m + 0
    rw [Int.pow_zero]
    omega
  | n + 1 => by
    show 2 * S e (m + n) + e (m + n) - 1 = 2 ^ (n + 1) * S e m + (2 * S (fun i => e (m + i)) n + e (m + n) - 1)
    rw [S_add e m n, Int.pow_succ]
    grind
theorem S_congr {e f : Nat → Int} : ∀ {n : Nat}, (∀ i, i < n → e i = f i) → S e n = S f n
  | 0, _ => rfl
  | n + 1, h => by
    show 2 * S e n + e n - 1 = 2 * S f n + f n - 1
    rw [S_congr (n := n) fun i hi => h i (by omega), h n (by omega)]
theorem S_list {e : Nat → Int} {l : List Int} (h : ∀ i, i < l.length → e i = l.getD i 0) : S e l.length = sumD l := by
  rw [S_congr (f := fun i => l.getD i 0) h, S_sum]
  congr 1
  apply List.ext_getElem
  · simp
  · intro i h1 h2
    simp [h2]
theorem pow_pos (n : Nat) : (1 : Int) ≤ 2 ^ n := by
  induction n with
  | zero => decide
  | succ n ih => rw [Int.pow_succ]; omega
theorem sumD_le {e : Nat → Int} (h : ∀ i, 0 ≤ e i ∧ e i ≤ 2) : ∀ n, -(2 ^ n - 1) ≤ S e n ∧ S e n ≤ 2 ^ n - 1
  | 0 => by simp [S]
  | n + 1 => by
    have ih := sumD_le h n
    have hn := h n
    show -(2 ^ (n + 1) - 1) ≤ 2 * S e n + e n - 1 ∧ 2 * S e n + e n - 1 ≤ 2 ^ (n + 1) - 1
    rw [Int.pow_succ]
    omega
/-- an entry of a told row -/
def ent (b r : List Int) (i : Nat) : Int := if i < b.length then b.getD i 0 else r.getD ((i - b.length) % r.length) 0
theorem ent_dig {b r : List Int} (hb : Dig b) (hr : Dig r) (r0 : 0 < r.length) (i : Nat) : 0 ≤ ent b r i ∧ ent b r i ≤ 2 := by
  unfold ent
  split
  · rename_i h
    rw [List.getD_eq_getElem?_getD, List.getElem?_eq_getElem h]
    exact hb _ (List.getElem_mem h)
  · have h : (i - b.length) % r.length < r.length := Nat.mod_lt _ r0
    rw [List.getD_eq_getElem?_getD, List.getElem?_eq_getElem h]
    exact hr _ (List.getElem_mem h)
def num (b r : List Int) : Int := sumD b * (2 ^ r.length - 1) + sumD r
def den (b r : List Int) : Int := 2 ^ b.length * (2 ^ r.length - 1)
theorem den_pos (b : List Int) {r : List Int} (r0 : 0 < r.length) : 0 < den b r := by
  unfold den
  have h1 := pow_pos b.length
  obtain ⟨n, hn⟩ : ∃ n, r.length = n + 1 := ⟨r.length - 1, by omega⟩
  have h2 := pow_pos n
  rw [hn, Int.pow_succ]
  exact Int.mul_pos (by omega) (by omega)
/-- what is left behind n entries, times the number below -/
def T (b r : List Int) (n : Nat) : Int := 2 ^ n * num b r - den b r * S (ent b r) n
theorem T_succ (b r : List Int) (n : Nat) : T b r (n + 1) = 2 * T b r n - den b r * (ent b r n - 1) := by
  unfold T
  show 2 ^ (n + 1) * num b r - den b r * (2 * S (ent b r) n + ent b r n - 1) = _
  rw [Int.pow_succ]
  grind
theorem S_begin (b r : List Int) : S (ent b r) b.length = sumD b := S_list fun i hi => by
  unfold ent
  rw [if_pos hi]
theorem S_round (b r : List Int) (r0 : 0 < r.length) (k : Nat) : S (ent b r) (b.length + (k + 1) * r.length) = 2 ^ r.length * S (ent b r) (b.length + k * r.length) + sumD r := by
  have e : b.length + (k + 1) * r.length = (b.length + k * r.length) + r.length := by rw [Nat.add_mul, Nat.one_mul]; omega
  rw [e, S_add, S_list (l := r) fun i hi => ?_]
  show ent b r (b.length + k * r.length + i) = r.getD i 0
  unfold ent
  rw [if_neg (by omega)]
  congr 1
  have e2 : b.length + k * r.length + i - b.length = i + r.length * k := by rw [Nat.mul_comm k]; omega
  rw [e2, Nat.add_mul_mod_self_left, Nat.mod_eq_of_lt hi]
theorem T_round (b r : List Int) (r0 : 0 < r.length) : ∀ k, T b r (b.length + k * r.length) = 2 ^ b.length * sumD r
  | 0 => by
    rw [Nat.zero_mul, Nat.add_zero]
    unfold T
    rw [S_begin]
    unfold num den
    grind
  | k + 1 => by
    have ih := T_round b r r0 k
    unfold T at ih ⊢
    rw [S_round b r r0 k]
    have e : b.length + (k + 1) * r.length = (b.length + k * r.length) + r.length := by rw [Nat.add_mul, Nat.one_mul]; omega
    rw [e, Int.pow_add]
    generalize (2 : Int) ^ (b.length + k * r.length) = A at ih ⊢
    generalize S (ent b r) (b.length + k * r.length) = B at ih ⊢
    have hd : den b r = 2 ^ b.length * (2 ^ r.length - 1) := rfl
    generalize num b r = N at ih ⊢
    generalize den b r = D at ih hd ⊢
    generalize (2 : Int) ^ r.length = R at ih hd ⊢
    generalize (2 : Int) ^ b.length = C at ih hd ⊢
    generalize sumD r = s at ih ⊢
    have : A * R * N - D * (R * B + s) = R * (A * N - D * B) - D * s := by grind
    rw [this, ih, hd]
    grind
theorem T_back {b r : List Int} (hd : ∀ i, 0 ≤ ent b r i ∧ ent b r i ≤ 2) (d0 : 0 < den b r) {n : Nat} : ∀ k, (-den b r ≤ T b r (n + k) ∧ T b r (n + k) ≤ den b r) → -den b r ≤ T b r n ∧ T b r n ≤ den b r
  | 0, h => h
  | k + 1, h => by
    refine T_back hd d0 k ?_
    have e := T_succ b r (n + k)
    have h' : -den b r ≤ T b r (n + k + 1) ∧ T b r (n + k + 1) ≤ den b r := h
    rw [e] at h'
    have hi := hd (n + k)
    have : den b r * (ent b r (n + k) - 1) ≤ den b r ∧ -den b r ≤ den b r * (ent b r (n + k) - 1) := by
      rcases (by omega : ent b r (n + k) = 0 ∨ ent b r (n + k) = 1 ∨ ent b r (n + k) = 2) with z | z | z <;> rw [z] <;> omega
    omega
theorem T_le {b r : List Int} (hb : Dig b) (hr : Dig r) (r0 : 0 < r.length) (n : Nat) : -den b r ≤ T b r n ∧ T b r n ≤ den b r := by
  have d0 := den_pos b r0
  have hd := ent_dig hb hr r0
  have hk : n ≤ b.length + n * r.length := Nat.le_trans (Nat.le_mul_of_pos_right n r0) (Nat.le_add_left _ _)
  have e : b.length + n * r.length = n + (b.length + n * r.length - n) := by omega
  refine T_back hd d0 (b.length + n * r.length - n) ?_
  rw [← e, T_round b r r0]
  have h2 := sumD_le (e := fun i => r.getD (i % r.length) 0) (fun i => by
    have h : i % r.length < r.length := Nat.mod_lt _ r0
    rw [List.getD_eq_getElem?_getD, List.getElem?_eq_getElem h]
    exact hr _ (List.getElem_mem h)) r.length
  rw [S_list (l := r) fun i hi => by rw [Nat.mod_eq_of_lt hi]] at h2
  have hp := pow_pos b.length
  unfold den
  constructor
  · rw [← Int.mul_neg]
    exact Int.mul_le_mul_of_nonneg_left h2.1 (by omega)
  · exact Int.mul_le_mul_of_nonneg_left h2.2 (by omega)
/-- two rows: the sums of their beginnings, the one less the other -/
theorem apart_eq (b r b2 r2 : List Int) (n : Nat) : den b r * den b2 r2 * (S (ent b r) n - S (ent b2 r2) n) = 2 ^ n * (num b r * den b2 r2 - num b2 r2 * den b r) - den b2 r2 * T b r n + den b r * T b2 r2 n := by
  unfold T
  grind
theorem goes_of_same {b r b2 r2 : List Int} (hb : Dig b) (hr : Dig r) (r0 : 0 < r.length) (hb2 : Dig b2) (hr2 : Dig r2) (r02 : 0 < r2.length) (h : num b r * den b2 r2 = num b2 r2 * den b r) (n : Nat) :
    -2 ≤ S (ent b r) n - S (ent b2 r2) n ∧ S (ent b r) n - S (ent b2 r2) n ≤ 2 := by
  have e := apart_eq b r b2 r2 n
  have h1 := T_le hb hr r0 n
  have h2 := T_le hb2 hr2 r02 n
  have d1 := den_pos b r0
  have d2 := den_pos b2 r02
  rw [h, Int.sub_self, Int.mul_zero] at e
  generalize S (ent b r) n - S (ent b2 r2) n = x at e ⊢
  generalize T b r n = t1 at e h1
  generalize T b2 r2 n = t2 at e h2
  generalize den b r = D1 at *
  generalize den b2 r2 = D2 at *
  have p1 : D2 * t1 ≤ D2 * D1 := Int.mul_le_mul_of_nonneg_left h1.2 (by omega)
  have p2 : D2 * (-D1) ≤ D2 * t1 := Int.mul_le_mul_of_nonneg_left h1.1 (by omega)
  have p3 : D1 * t2 ≤ D1 * D2 := Int.mul_le_mul_of_nonneg_left h2.2 (by omega)
  have p4 : D1 * (-D2) ≤ D1 * t2 := Int.mul_le_mul_of_nonneg_left h2.1 (by omega)
  have q : 0 < D1 * D2 := Int.mul_pos d1 d2
  have c : D2 * D1 = D1 * D2 := Int.mul_comm _ _
  have c2 : D2 * -D1 = -(D1 * D2) := by grind
  have c3 : D1 * -D2 = -(D1 * D2) := by grind
  rw [c] at p1
  rw [c2] at p2
  rw [c3] at p4
  have u : D1 * D2 * x ≤ D1 * D2 * 2 := by omega
  have l : D1 * D2 * (-2) ≤ D1 * D2 * x := by omega
  exact ⟨Int.le_of_mul_le_mul_left l q, Int.le_of_mul_le_mul_left u q⟩
theorem same_of_goes {b r b2 r2 : List Int} (hb : Dig b) (hr : Dig r) (r0 : 0 < r.length) (hb2 : Dig b2) (hr2 : Dig r2) (r02 : 0 < r2.length) {n : Nat} (big : 4 * (den b r * den b2 r2) < 2 ^ n)
    (h : -2 ≤ S (ent b r) n - S (ent b2 r2) n ∧ S (ent b r) n - S (ent b2 r2) n ≤ 2) : num b r * den b2 r2 = num b2 r2 * den b r := by
  have e := apart_eq b r b2 r2 n
  have h1 := T_le hb hr r0 n
  have h2 := T_le hb2 hr2 r02 n
  have d1 := den_pos b r0
  have d2 := den_pos b2 r02
  generalize S (ent b r) n - S (ent b2 r2) n = x at e h
  generalize T b r n = t1 at e h1
  generalize T b2 r2 n = t2 at e h2
  generalize hy : num b r * den b2 r2 - num b2 r2 * den b r = y at e
  suffices y = 0 by omega
  generalize den b r = D1 at *
  generalize den b2 r2 = D2 at *
  have p1 : D2 * t1 ≤ D2 * D1 := Int.mul_le_mul_of_nonneg_left h1.2 (by omega)
  have p2 : D2 * (-D1) ≤ D2 * t1 := Int.mul_le_mul_of_nonneg_left h1.1 (by omega)
  have p3 : D1 * t2 ≤ D1 * D2 := Int.mul_le_mul_of_nonneg_left h2.2 (by omega)
  have p4 : D1 * (-D2) ≤ D1 * t2 := Int.mul_le_mul_of_nonneg_left h2.1 (by omega)
  have q : 0 < D1 * D2 := Int.mul_pos d1 d2
  have u : D1 * D2 * x ≤ D1 * D2 * 2 := Int.mul_le_mul_of_nonneg_left h.2 (by omega)
  have l : D1 * D2 * (-2) ≤ D1 * D2 * x := Int.mul_le_mul_of_nonneg_left h.1 (by omega)
  have c : D2 * D1 = D1 * D2 := Int.mul_comm _ _
  have c2 : D2 * -D1 = -(D1 * D2) := by grind
  have c3 : D1 * -D2 = -(D1 * D2) := by grind
  rw [c] at p1
  rw [c2] at p2
  rw [c3] at p4
  have up : 2 ^ n * y < 2 ^ n := by omega
  have lo : -(2 ^ n) < 2 ^ n * y := by omega
  have pn := pow_pos n
  generalize (2 : Int) ^ n = P at *
  have y1 : y < 1 := Int.lt_of_mul_lt_mul_left (a := P) (by omega) (by omega)
  have y2 : -1 < y := Int.lt_of_mul_lt_mul_left (a := P) (by omega) (by omega)
  omega
end R49
namespace R49
/-! ### fractions in lowest terms -/
def gI (a b : Int) : Int := ((Nat.gcd a.natAbs b.natAbs : Nat) : Int)
def partI (a b : Int) : Int × Int := (a / gI a b, b / gI a b)
theorem gI_pos (a : Int) {b : Int} (h : 0 < b) : 0 < gI a b := by
  unfold gI
  have : 0 < Nat.gcd a.natAbs b.natAbs := Nat.gcd_pos_of_pos_right _ (by omega)
  omega
theorem part_mul (a : Int) {b : Int} (h : 0 < b) : gI a b * (partI a b).1 = a ∧ gI a b * (partI a b).2 = b := by
  have h1 : gI a b ∣ a := Int.ofNat_dvd_left.mpr (Nat.gcd_dvd_left _ _)
  have h2 : gI a b ∣ b := Int.ofNat_dvd_left.mpr (Nat.gcd_dvd_right _ _)
  exact ⟨Int.mul_ediv_cancel' h1, Int.mul_ediv_cancel' h2⟩
theorem part_pos (a : Int) {b : Int} (h : 0 < b) : 0 < (partI a b).2 := by
  have h2 := (part_mul a h).2
  have g := gI_pos a h
  rcases (by omega : 0 < (partI a b).2 ∨ (partI a b).2 ≤ 0) with z | z
  · exact z
  · have : gI a b * (partI a b).2 ≤ gI a b * 0 := Int.mul_le_mul_of_nonneg_left z (by omega)
    omega
theorem part_rat (a : Int) {b : Int} (h : 0 < b) : partI a b = ((mkRat a b.toNat).num, ((mkRat a b.toNat).den : Int)) := by
  have nz : b.toNat ≠ 0 := by omega
  have e : b.natAbs = b.toNat := by omega
  have eb : b = (b.toNat : Int) := by omega
  rw [← Rat.normalize_eq_mkRat nz, Rat.normalize_eq nz]
  unfold partI gI
  rw [e]
  simp only [Int.natCast_ediv]
  rw [← eb]
theorem part_eq {a b c d : Int} (hb : 0 < b) (hd : 0 < d) : partI a b = partI c d ↔ a * d = c * b := by
  have nb : b.toNat ≠ 0 := by omega
  have nd : d.toNat ≠ 0 := by omega
  have eb : ((b.toNat : Nat) : Int) = b := by omega
  have ed : ((d.toNat : Nat) : Int) = d := by omega
  have k := Rat.mkRat_eq_iff (n₁ := a) (n₂ := c) nb nd
  rw [eb, ed] at k
  rw [part_rat a hb, part_rat c hd, ← k]
  constructor
  · intro h
    injection h with h1 h2
    exact Rat.ext h1 (by omega)
  · intro h
    rw [h]
/-! ### the row of a fraction -/
def dg (p q : Int) : Int := if 2 * p ≤ -q then 0 else if q ≤ 2 * p then 2 else 1
def nx (p q : Int) : Int := 2 * p - (dg p q - 1) * q
def at_ (p q : Int) : Nat → Int
  | 0 => p
  | n + 1 => nx (at_ p q n) q
def ed (p q : Int) (i : Nat) : Int := dg (at_ p q i) q
theorem dg_dig (p q : Int) : 0 ≤ dg p q ∧ dg p q ≤ 2 := by
  unfold dg
  split
  · omega
  · split <;> omega
theorem nx_in {p q : Int} (h : 0 < q) (hp : -q ≤ p ∧ p ≤ q) : -q ≤ nx p q ∧ nx p q ≤ q := by
  unfold nx dg
  split
  · omega
  · split <;> omega
theorem at_in {p q : Int} (h : 0 < q) (hp : -q ≤ p ∧ p ≤ q) : ∀ n, -q ≤ at_ p q n ∧ at_ p q n ≤ q
  | 0 => hp
  | n + 1 => nx_in h (at_in h hp n)
theorem at_sum (p q : Int) : ∀ n, 2 ^ n * p = q * S (ed p q) n + at_ p q n
  | 0 => by
    show 2 ^ 0 * p = q * 0 + p
    rw [Int.pow_zero]
    omega
  | n + 1 => by
    have ih := at_sum p q n
    show 2 ^ (n + 1) * p = q * (2 * S (ed p q) n + dg (at_ p q n) q - 1) + (2 * at_ p q n - (dg (at_ p q n) q - 1) * q)
    rw [Int.pow_succ]
    grind
/-- the first place that comes again: at n, as at s -/
structure IsRow (p q : Int) (n s : Nat) : Prop where
  lt : s < n
  eq : at_ p q s = at_ p q n
  ne : ∀ j, j < n → ∀ i, i < j → at_ p q i ≠ at_ p q j
instance (p q : Int) (n s : Nat) : Decidable (IsRow p q n s) :=
  decidable_of_iff (s < n ∧ at_ p q s = at_ p q n ∧ ∀ j, j < n → ∀ i, i < j → at_ p q i ≠ at_ p q j) ⟨fun ⟨a, b, c⟩ => ⟨a, b, c⟩, fun ⟨a, b, c⟩ => ⟨a, b, c⟩⟩
theorem few_of_nodup : ∀ (m : Nat) (l : List Nat), l.Nodup → (∀ x ∈ l, x < m) → l.length ≤ m
  | 0, [], _, _ => Nat.le_refl _
  | 0, x :: l, _, h => absurd (h x List.mem_cons_self) (by omega)
  | m + 1, l, nd, h => by
    have ih := few_of_nodup m (l.erase m) (nd.erase m) fun x hx => by
      have h1 := h x (List.mem_of_mem_erase hx)
      have h2 : x ≠ m := ((List.Nodup.mem_erase_iff nd).mp hx).1
      omega
    rw [List.length_erase] at ih
    split at ih <;> omega
theorem few_of_ne {p q : Int} (h : 0 < q) (hp : -q ≤ p ∧ p ≤ q) {n : Nat} (ne : ∀ j, j < n → ∀ i, i < j → at_ p q i ≠ at_ p q j) : (n : Int) ≤ 2 * q + 1 := by
  have k := few_of_nodup (2 * q + 1).toNat ((List.range n).map fun i => (at_ p q i + q).toNat) ?_ ?_
  · rw [List.length_map, List.length_range] at k
    omega
  · rw [List.nodup_iff_pairwise_ne, List.pairwise_map]
    refine List.Pairwise.imp_of_mem (R := fun a b => a < b) (fun {a b} ha hb hab => ?_) List.pairwise_lt_range
    have := ne b (List.mem_range.mp hb) a hab
    have h1 := at_in h hp a
    have h2 := at_in h hp b
    omega
  · intro x hx
    obtain ⟨i, _, rfl⟩ := List.mem_map.mp hx
    have := at_in h hp i
    omega
theorem row_is {p q : Int} (h : 0 < q) (hp : -q ≤ p ∧ p ≤ q) : ∃ n s, IsRow p q n s := by
  have k : ∀ k : Nat, (∃ n s, IsRow p q n s) ∨ ∀ j, j < k → ∀ i, i < j → at_ p q i ≠ at_ p q j := by
    intro k
    induction k with
    | zero => exact .inr fun j hj => by omega
    | succ k ih =>
      rcases ih with z | z
      · exact .inl z
      · by_cases e : ∃ s, s < k ∧ at_ p q s = at_ p q k
        · obtain ⟨s, hs, e⟩ := e
          exact .inl ⟨k, s, hs, e, z⟩
        · refine .inr fun j hj i hi => ?_
          by_cases ej : j = k
          · subst ej
            exact fun z => e ⟨i, hi, z⟩
          · exact z j (by omega) i hi
  rcases k (2 * q + 2).toNat with z | z
  · exact z
  · have := few_of_ne h hp z
    omega
theorem row_one {p q : Int} {n s m t : Nat} (a : IsRow p q n s) (b : IsRow p q m t) : n = m ∧ s = t := by
  have e : n = m := by
    rcases Nat.lt_trichotomy n m with z | z | z
    · exact absurd a.eq (b.ne n z s a.lt)
    · exact z
    · exact absurd b.eq (a.ne m z t b.lt)
  subst e
  refine ⟨rfl, ?_⟩
  rcases Nat.lt_trichotomy s t with z | z | z
  · exact absurd (a.eq.trans b.eq.symm) (a.ne t b.lt s z)
  · exact z
  · exact absurd (b.eq.trans a.eq.symm) (a.ne s a.lt t z)
theorem IsRow.few {p q : Int} {n s : Nat} (h : 0 < q) (hp : -q ≤ p ∧ p ≤ q) (a : IsRow p q n s) : (n : Int) ≤ 2 * q + 1 := few_of_ne h hp a.ne
/-- all digits up to there -/
def digs (p q : Int) (n : Nat) : List Int := (List.range n).map (ed p q)
theorem digs_succ (p q : Int) (n : Nat) : digs p q (n + 1) = digs p q n ++ [ed p q n] := by
  unfold digs
  rw [List.range_succ, List.map_append]
  rfl
theorem digs_len (p q : Int) (n : Nat) : (digs p q n).length = n := by
  unfold digs
  rw [List.length_map, List.length_range]
theorem digs_dig (p q : Int) (n : Nat) : Dig (digs p q n) := fun d hd => by
  obtain ⟨i, _, rfl⟩ := List.mem_map.mp hd
  exact dg_dig _ _
theorem row_value {p q : Int} {n s : Nat} (a : IsRow p q n s) : num ((digs p q n).take s) ((digs p q n).drop s) * q = p * den ((digs p q n).take s) ((digs p q n).drop s) := by
  have lt := a.lt
  have e1 := at_sum p q s
  have e2 := at_sum p q n
  have hn : n = s + (n - s) := by omega
  have l1 : ((digs p q n).take s).length = s := by rw [List.length_take, digs_len]; omega
  have l2 : ((digs p q n).drop s).length = n - s := by rw [List.length_drop, digs_len]
  have s1 : sumD ((digs p q n).take s) = S (ed p q) s := by
    rw [S_sum]
    congr 1
    unfold digs
    rw [← List.map_take, List.take_range, Nat.min_eq_left (by omega)]
  have s2 : S (ed p q) n = 2 ^ (n - s) * S (ed p q) s + sumD ((digs p q n).drop s) := by
    have k := S_add (ed p q) s (n - s)
    rw [← hn] at k
    rw [k, S_sum fun i => ed p q (s + i)]
    congr 2
    apply List.ext_getElem
    · rw [l2, List.length_map, List.length_range]
    · intro i h1 h2
      simp [digs]
  unfold num den
  rw [l1, l2, s1]
  have e3 : (2 : Int) ^ n = 2 ^ s * 2 ^ (n - s) := by rw [← Int.pow_add, ← hn]
  rw [e3, s2, ← a.eq] at e2
  generalize (2 : Int) ^ s = A at *
  generalize (2 : Int) ^ (n - s) = B at *
  generalize S (ed p q) s = C at *
  generalize sumD ((digs p q n).drop s) = E at *
  generalize at_ p q s = G at *
  grind
/-- the same digits from the fraction in lowest terms -/
theorem dg_part (p : Int) {q : Int} (h : 0 < q) : dg (partI p q).1 (partI p q).2 = dg p q := by
  obtain ⟨h1, h2⟩ := part_mul p h
  have g := gI_pos p h
  generalize (partI p q).1 = a at *
  generalize (partI p q).2 = b at *
  generalize gI p q = c at *
  have k1 : 2 * a ≤ -b ↔ 2 * p ≤ -q := by
    rw [← h1, ← h2]
    have e : 2 * (c * a) ≤ -(c * b) ↔ c * (2 * a) ≤ c * -b := by
      have z1 : c * (2 * a) = 2 * (c * a) := by grind
      have z2 : c * -b = -(c * b) := by grind
      rw [z1, z2]
    rw [e]
    exact ⟨fun z => Int.mul_le_mul_of_nonneg_left z (by omega), fun z => Int.le_of_mul_le_mul_left z g⟩
  have k2 : b ≤ 2 * a ↔ q ≤ 2 * p := by
    rw [← h1, ← h2]
    have e : c * b ≤ 2 * (c * a) ↔ c * b ≤ c * (2 * a) := by
      have z1 : c * (2 * a) = 2 * (c * a) := by grind
      rw [z1]
    rw [e]
    exact ⟨fun z => Int.mul_le_mul_of_nonneg_left z (by omega), fun z => Int.le_of_mul_le_mul_left z g⟩
  unfold dg
  simp only [k1, k2]
theorem nx_part (p : Int) {q : Int} (h : 0 < q) : partI (nx (partI p q).1 (partI p q).2) (partI p q).2 = partI (nx p q) q := by
  rw [part_eq (part_pos p h) h]
  unfold nx
  rw [dg_part p h]
  obtain ⟨h1, h2⟩ := part_mul p h
  generalize (partI p q).1 = a at *
  generalize (partI p q).2 = b at *
  generalize gI p q = c at *
  rw [← h1, ← h2]
  grind
theorem part_inj {a b q : Int} (h : 0 < q) : partI a q = partI b q ↔ a = b := by
  rw [part_eq h h]
  constructor
  · intro z
    exact Int.eq_of_mul_eq_mul_right (by omega) z
  · intro z
    rw [z]
end R49
namespace R49
theorem sumD_bound {l : List Int} (h : Dig l) : -(2 ^ l.length - 1) ≤ sumD l ∧ sumD l ≤ 2 ^ l.length - 1 := by
  by_cases z : l.length = 0
  · rw [List.length_eq_zero_iff.mp z]
    simp [sumD]
  · have k := sumD_le (e := fun i => l.getD (i % l.length) 0) (fun i => by
      have h2 : i % l.length < l.length := Nat.mod_lt _ (by omega)
      rw [List.getD_eq_getElem?_getD, List.getElem?_eq_getElem h2]
      exact h _ (List.getElem_mem h2)) l.length
    rw [S_list (l := l) fun i hi => by rw [Nat.mod_eq_of_lt hi]] at k
    exact k
end R49
set_option linter.all false
namespace K10
/-! ### rows that go round: entries, short parts, turning back -/
def ent (bs rs : List Int) (i : Nat) : Int := if i < bs.length then bs.getD i 0 else rs.getD ((i - bs.length) % rs.length) 0
/-- ends turned back: what both programs do at the end of a beginning -/
inductive Rot : List Int → List Int → List Int → List Int → Prop
  | refl (bs rs : List Int) : Rot bs rs bs rs
  | step {bs rs bs' rs' : List Int} {x : Int} : Rot bs rs (bs' ++ [x]) (rs' ++ [x]) → Rot bs rs bs' (x :: rs')
theorem Rot.len {bs rs bs' rs' : List Int} (h : Rot bs rs bs' rs') : rs'.length = rs.length := by
  induction h with
  | refl => rfl
  | step _ ih => rw [← ih]; simp
/-! ### periods -/
end K10
set_option Elab.async false
set_option linter.all false
set_option maxRecDepth 100000
set_option maxHeartbeats 4000000
namespace K10
open PySem PySem.Spec PyProof.Rows L2
/-! ### defs that may show data: no repr is under way around them -/
/-- a promise of a def, where nothing is being shown around -/
structure Ok1 (P : Program) (w : World) (K : PySem.W.Frag) (mg : Str → Option Value) (base : Heap) (k : Nat) (f : Addr) (fd : FuncData) (ps : List Str) (sp : Sp) : Prop where
  many : ∀ vs H Q E, sp vs H Q E → vs.length = ps.length
  go : ∀ (A : Around) (outer : List Env) (s : Shared) (H : Hp) (us : List Value) (vs : List V) (Q : VK) (E : XK), A.guards = some [] → Room k A → Env0 P w K mg base A outer s H →
    (∀ t : Shared, K.In t.heap → BindsTo t fd ⟨us, []⟩ (ps.zip us)) → Vals vs us → sp vs H Q E →
    codeAny (model P w) A (.call (.ref f) ⟨us, []⟩) (CR CX0 outer P w H s Q E) s
section
variable {P : Program} {w : World} {K : PySem.W.Frag} {mg : Str → Option Value} {base : Heap}
theorem ok1_of {x qual : Str} {st : Stmt} {f : Addr} {fd : FuncData} {N ps : List Str} {k : Nat} {sp : Sp} (F : Fun K x qual st f fd) (S : FnScope N ps (defScope st)) (len : ∀ vs H Q E, sp vs H Q E → vs.length = ps.length)
    (body : ∀ (cdv : Value) (A : Around) (outer : List Env) (s : Shared) (H : Hp) (vs : List V) (Q : VK) (E : XK), A.guards = some [] → Room k (A.deeper (envOfC qual (defScope st) s.heap.objs.size f cdv)) → sp vs H Q E →
      ∃ t, PSs (cxOf CX0 P w K mg base N qual (defScope st) f cdv A outer s H E).nox (defBody st) t ∧ t { nx := fun _ H' => Q .non H', rt := Q } (start N vs) H) : Ok1 P w K mg base (k + 1) f fd ps sp := by
  obtain ⟨oc, od, kV, doc, pm, an, cdv, ct, osl, rfl, lk, code⟩ := F.ex
  constructor
  · exact len
  · intro A outer s H us vs Q E guard room e0 binds rel want
    have there : ∀ b o, base.get? b = some o → s.heap.get? b = some o := fun b o q => (e0.bs b o q).1
    have inK : K.In s.heap := e0.mod.kin.keeps there
    have many := len _ _ _ _ want
    have kinds : ∀ y ∈ ps.zip us, (defScope st).names.lookup y.1 = some .local ∨
        ((defScope st).names.lookup y.1 = some .cell ∧ ((cellsFrom (s.heap.objs.size + 1) (defScope st).names []).lookup y.1).isSome = true) := by
      rintro ⟨n, v⟩ mem
      have h := S.par n (List.of_mem_zip mem).1
      exact h.imp id fun q => ⟨q, PySem.W.cellsFrom_some _ _ _ (.inl q)⟩
    obtain ⟨t, term, reading⟩ := body cdv A outer s H vs Q E guard (room.deeper _) want
    refine codeAny_call_function room.depth (inK _ _ lk) rfl S.co S.gen rfl (PySem.W.codeRec_of inK code) (binds s inK _ _ _ _ ?_)
    refine wpAny_newFunctionEnv_cells S.kind kinds ?_
    rintro env rfl s1 entered
    refine ⟨(e0.mod.nolimit.keeps there).keeps entered.toInCall.keep, codeAny_func ?_⟩
    have inv := inv_start (CX := CX0) (E := E) S room.hd e0 many rel entered
    have back : ∀ {σ' : L2.St} {H' : Hp} {v : V} {u : Value} {s' : Shared}, Inv (cxOf CX0 P w K mg base N qual (defScope st) f cdv A outer s H E) [] σ' H' s' → RelV v u → Q v H' → CE outer P w H s Q u s' := by
      intro σ' H' v u s' J r q
      exact ⟨v, H', J.os, J.bare, J.base, J.hok, r, q⟩
    refine wpAny_mono (term.nox.run [] s1 (start N vs) H _ inv reading) ?_ (fun _ _ z => z)
    intro flow s' ended
    match flow, ended with
    | .ret u, ⟨v, σ', H', J, r, q⟩ => exact back J r q
    | .next, ⟨σ', H', J, q⟩ => exact back (v := V.non) (u := Value.none) J rfl q
    | .brk, ⟨_, _, _, q⟩ => exact q.elim
    | .cont, ⟨_, _, _, q⟩ => exact q.elim
end
section
variable {X : Cx} {k : Nat} {f : Addr} {fd : FuncData} {ps : List Str} {sp : Sp} {x : Str} {p pos : Pos} {e : Expr} {es : List Expr} {t : TA}
/-- f(e, ..), nothing being shown -/
theorem pe_call1 (F : Ok1 X.prog X.w X.K X.mg X.base k f fd ps sp) (guard : X.A.guards = some []) (room : Room k X.A) (hg : Gl X x) (hm : X.mg x = some (.ref f)) (hk : PySem.W.keepIn X.K (.ref f) = true) (hb : Binds X.K fd ps [])
    (ha : PA X (e :: es) t) (hdb : (x == ("__debug__" : Str)) = false := by decide) (he : starEach (e :: es) X.env = (false, eval e X.env) :: starEach es X.env := by rfl) (hpl : (backTo pos (starEach es X.env)).any (·.1) = false := by rfl) :
    PE X (.Call (.Name x p) (e :: es) [] pos) (tCall sp [] E0 t) := by
  constructor
  intro pins s σ H Q I h
  refine wpAny_Call_Name_kw (ld_glob I hg hm ?_ hdb)
  refine PySem.W.callWith_K (h₀ := X.base) I.ok.mod.kin hk (thn (ha.run pos pins s σ H _ I h) ?_) he hpl
  rintro us s1 ⟨vs, H1, I1, r, q⟩
  have q' : sp vs H1 Q E0 := by
    have h0 := q
    rw [List.append_nil] at h0
    exact h0
  refine ⟨I1.kIn, wpAny_call (codeAny_mono (F.go X.A X.stack s1 H1 us vs Q E0 guard room I1.env0 (fun t inK => ?_) r q') ?_)⟩
  · have hl : us.length = ps.length := by
      rw [← r.length]
      exact F.many _ _ _ _ q'
    have b := hb t us inK (by simpa using hl)
    simpa using b
  · intro res s' done
    match res, done with
    | .ok (.ret u), ended => exact I1.after ended
    | .ok .next, z => exact z.elim
    | .ok .brk, z => exact z.elim
    | .ok .cont, z => exact z.elim
    | .error _, z => exact z.elim
end
/-! ### repr of data -/
def rShow (K : PySem.W.Frag) : List V → Hp → VK → Prop := fun xs H Q => ∃ x d, xs = [x] ∧ Dp K H x d ∧ ((∃ b, d = .bool b) ∨ (∃ ds, d = .list ds) ∨ ∃ ds, d = .tuple ds) ∧ d.showable = true ∧ d.hasDict = false ∧ d.depth ≤ 60 ∧ d.shown.length ≤ sizeLine ∧ Q (.str d.shown) H
theorem call_show {X : Cx} (guard : X.A.guards = some []) (hu : X.A.units + 64 < cLine) : CallR X (.builtin "repr") (rShow X.K) := by
  intro pins s σ H xs us Q I r h
  obtain ⟨x, d, rfl, dp, form, sh, nd, deep, fits, q⟩ := h
  obtain ⟨u, rfl, rx⟩ := vals1 r
  obtain ⟨as, reads⟩ := Dp.reads I d x u dp rx
  rcases form with ⟨b, rfl⟩ | ⟨ds, rfl⟩ | ⟨ds, rfl⟩
  · cases dp
    cases (show u = Value.bool b from rx)
    refine PySem.P.repr_of_bool ⟨.str _, H, I.tok _, ⟨_, rfl⟩, ?_⟩
    rw [PyData.shown_bool] at q
    exact q
  · cases dp with
    | lst hs ha =>
      rename_i a xs
      cases (show u = Value.ref a from rx)
      refine repr_of_reads' reads sh (fun z => by rw [nd] at z; cases z) guard (by omega) (fun _ _ z => z) (fun h' u tk keep => ?_) fits
      exact ⟨.str _, H, I.kept keep, ⟨_, rfl⟩, q⟩
  · cases dp with
    | tup hs ha =>
      rename_i a xs
      cases (show u = Value.ref a from rx)
      refine repr_of_reads' reads sh (fun z => by rw [nd] at z; cases z) guard (by omega) (fun _ _ z => z) (fun h' u tk keep => ?_) fits
      exact ⟨.str _, H, I.kept keep, ⟨_, rfl⟩, q⟩
end K10
namespace K10
open PySem PySem.Spec PyProof.Rows L2
/-- the law's own call, from a promise that holds where nothing is being shown -/
theorem law1 {P : Program} {w : World} {K : PySem.W.Frag} {mg mb : Str → Option Value} {k : Nat} {fa a : Addr} {fd : FuncData} {x : Str} {sp : Sp} {s1 : Shared} {vs : List Value} {ns : List Int}
    (inK : K.In s1.heap) (names : s1.heap.Ns mainGlobals mg) (blt : s1.heap.Ns builtinsNs mb) (bltIs : ∀ x : Str, x ≠ "__name__" → mb x = bootBuiltins x) (nolim : s1.heap.NoLimit) (nogens : s1.gens = #[])
    (script : s1.heap.get? a = some { cls := .type "list", data := .seq vs.toArray }) (nums : IntsAre vs ns) (few : ns.length ≤ sizeLine) (room : Room k callerA)
    (F : ∀ base : Heap, K.In base → base.Ns mainGlobals mg → Ok1 P w K mg base k fa fd [x] sp) (bind : ∀ (s : Shared) (u : Value), BindsTo s fd ⟨[u], []⟩ [(x, u)])
    (promise : ∀ H : Hp, Only H → SqL K H a (ns.map V.int) → sp [.ref a] H (fun v _ => v = .bl true) fun _ _ _ => False) :
    codeAny (model P w) callerA (.call (.ref fa) ⟨[.ref a], []⟩) (fun r s' => r = .ok (.ret (.bool true)) ∧ OldK s1.heap s'.heap ∧ s'.os = s1.os ∧ AllBare s'.gens) s1 := by
  have rel : Vals (ns.map V.int) vs := vals_ints nums
  -- nothing but the script is tracked, and that only where it is no object of the written part
  have main : ∀ H : Hp, (∀ b u, H b = some u → b = a ∧ K.lookup a = none ∧ u = .frz { cls := .type "list", data := .seq vs.toArray } (.lst (ns.map V.int))) → SqL K H a (ns.map V.int) →
      codeAny (model P w) callerA (.call (.ref fa) ⟨[.ref a], []⟩) (fun r s' => r = .ok (.ret (.bool true)) ∧ OldK s1.heap s'.heap ∧ s'.os = s1.os ∧ AllBare s'.gens) s1 := by
    intro H only there
    have onlyH : Only H := fun b => by
      cases hb : H b with
      | none => exact .inl rfl
      | some u => exact .inr ⟨_, _, congrArg some (only b u hb).2.2⟩
    have ok : HOk P w H s1.heap := by
      intro b u hb
      obtain ⟨rfl, _, rfl⟩ := only b u hb
      exact ⟨script, by rw [List.length_map]; exact few, vs, _, rel, script⟩
    have hide : ∀ {b : Addr} {o : Obj}, s1.heap.get? b = some o → (H b = none ∨ ∃ es ep, o.data = .dict es ep) → (hidT s1.heap H).get? b = some o := by
      intro b o got why
      refine hidT_get got ?_
      rcases why with z | ⟨es, ep, hd⟩
      · exact z
      · cases hb : H b with
        | none => rfl
        | some u =>
          obtain ⟨rfl, _, _⟩ := only b u hb
          rw [script] at got
          cases got
          cases hd
    have nsT : ∀ {b : Addr} {m : Str → Option Value}, s1.heap.Ns b m → (hidT s1.heap H).Ns b m := by
      rintro b m ⟨o, es, ep, got, hd, rest⟩
      exact ⟨o, es, ep, hide got (.inr ⟨es, ep, hd⟩), hd, rest⟩
    have inT : K.In (hidT s1.heap H) := by
      intro b o kb
      refine hide (inK b o kb) (.inl ?_)
      cases hb : H b with
      | none => rfl
      | some u =>
        obtain ⟨rfl, kn, _⟩ := only b u hb
        rw [kn] at kb
        cases kb
    obtain ⟨mc, lim1, lim2⟩ := nolim
    have env : Env0 P w K mg (hidT s1.heap H) callerA [] s1 H :=
      { frames := rfl, mod := ⟨inT, nsT names, ⟨mb, nsT blt, bltIs⟩, ⟨mc, nsT lim1, lim2⟩⟩, bs := fun b o z => of_hidT z, bsz := Nat.le_of_eq (hidT_size _ _), funs := trivial,
        frf := fun b hb => (by cases (show b ∈ ([] : List Addr) from hb)), hok := ok, bare := .of_eq nogens }
    have run := (F _ inT (nsT names)).go callerA [] s1 H [.ref a] [.ref a] (fun v _ => v = .bl true) (fun _ _ _ => False) rfl room env (fun t _ => bind t (.ref a)) (.cons rfl .nil) (promise H onlyH there)
    refine codeAny_mono run ?_
    intro res s' done
    match res, done with
    | .ok .next, z => exact z.elim
    | .ok .brk, z => exact z.elim
    | .ok .cont, z => exact z.elim
    | .error _, z => exact z.elim
    | .ok (.ret u), ⟨v, H', os, bare, un, ok', r, q⟩ =>
      have q : v = .bl true := q
      subst q
      cases (show u = Value.bool true from r)
      refine ⟨rfl, OldK.of_keep (fun b o got => ?_), os, bare⟩
      cases hb : H b with
      | none => exact un.keep b o got hb (fun z => by cases (show b ∈ ([] : List Addr) from z)) (by simp)
      | some y =>
        have hy := (only b y hb).2.2
        subst hy
        obtain ⟨e1, _⟩ := ok b _ hb
        obtain ⟨e2, _⟩ := ok' b _ (un.frzs b _ _ hb)
        rw [got] at e1
        cases e1
        exact e2
  cases kn : K.lookup a with
  | some o =>
    have same := inK a o kn
    rw [script] at same
    cases same
    exact main (fun _ => none) (fun b u z => by cases z) (.inr ⟨_, vs.toArray, _, kn, rfl, rfl, rfl, by rw [List.size_toArray, nums.length]; exact few, by simpa using rel⟩)
  | none =>
    refine main (fun b => if b = a then some (.frz { cls := .type "list", data := .seq vs.toArray } (.lst (ns.map V.int))) else none) (fun b u z => ?_) (.inl (.inr ⟨_, if_pos rfl⟩))
    by_cases hb : b = a
    · rw [if_pos hb] at z
      cases z
      exact ⟨hb, kn, rfl⟩
    · rw [if_neg hb] at z
      cases z
end K10
set_option Elab.async false
set_option linter.all false
set_option maxRecDepth 100000
set_option maxHeartbeats 4000000
set_option Elab.async false
set_option linter.all false
set_option maxRecDepth 100000
set_option maxHeartbeats 4000000
set_option Elab.async false
set_option linter.all false
set_option maxRecDepth 100000
set_option maxHeartbeats 4000000
set_option Elab.async false
set_option linter.all false
set_option maxRecDepth 100000
set_option maxHeartbeats 4000000
namespace K10
open PySem PySem.Spec PyProof.Rows L2 Evl
/-! ### data made of tuples -/
mutual
inductive Dt (H : Hp) : V → PyData → Prop
  | non : Dt H .non .none
  | bl (b : Bool) : Dt H (.bl b) (.bool b)
  | int (i : Int) : Dt H (.int i) (.int i)
  | str (x : Str) : Dt H (.str x) (.str x)
  | tup {a : Addr} {xs : List V} {ds : List PyData} : H a = some (.tup xs) → DtAll H xs ds → Dt H (.ref a) (.tuple ds)
inductive DtAll (H : Hp) : List V → List PyData → Prop
  | nil : DtAll H [] []
  | cons {v : V} {vs : List V} {d : PyData} {ds : List PyData} : Dt H v d → DtAll H vs ds → DtAll H (v :: vs) (d :: ds)
end
/-- tuples stay -/
def Tk (H H' : Hp) : Prop := ∀ a xs, H a = some (.tup xs) → H' a = some (.tup xs)
/-- all but dicts with plain keys stay -/
def Kin (H H' : Hp) : Prop := ∀ a o, H a = some o → (∀ kvs, o ≠ .dK kvs) → H' a = some o
theorem Tk.refl (H : Hp) : Tk H H := fun _ _ h => h
theorem Tk.trans {H H1 H2 : Hp} (a : Tk H H1) (b : Tk H1 H2) : Tk H H2 := fun x o h => b x o (a x o h)
theorem Kin.refl (H : Hp) : Kin H H := fun _ _ h _ => h
theorem Kin.trans {H H1 H2 : Hp} (a : Kin H H1) (b : Kin H1 H2) : Kin H H2 := fun x o h n => b x o (a x o h n) n
theorem kin_ex {H H' : Hp} (e : Ex H H') : Kin H H' := fun a o h _ => e a o h
theorem tk_kin {H H' : Hp} (e : Kin H H') : Tk H H' := fun a xs h => e a _ h fun _ z => nomatch z
theorem tk_ex {H H' : Hp} (e : Ex H H') : Tk H H' := fun a xs h => e a _ h
theorem tk_upd {H : Hp} {p : Addr} {o : HO} (h : ∀ xs, H p ≠ some (.tup xs)) : Tk H (upd H p o) := fun a xs e => by
  rw [upd_ne (fun z => by subst z; exact h xs e)]
  exact e
theorem tk_new {H : Hp} {p : Addr} {o : HO} (h : H p = none) : Tk H (upd H p o) := tk_upd fun xs z => by rw [h] at z; cases z
mutual
theorem Dt.tk {H H' : Hp} (e : Tk H H') : ∀ {d : PyData} {x : V}, Dt H x d → Dt H' x d
  | _, _, .non => .non
  | _, _, .bl b => .bl b
  | _, _, .int i => .int i
  | _, _, .str x => .str x
  | _, _, .tup h a => .tup (e _ _ h) (DtAll.tk e a)
theorem DtAll.tk {H H' : Hp} (e : Tk H H') : ∀ {ds : List PyData} {xs : List V}, DtAll H xs ds → DtAll H' xs ds
  | _, _, .nil => .nil
  | _, _, .cons h t => .cons (Dt.tk e h) (DtAll.tk e t)
end
mutual
theorem Dt.dp {K : PySem.W.Frag} {H : Hp} : ∀ {d : PyData} {x : V}, Dt H x d → Dp K H x d
  | _, _, .non => .non
  | _, _, .bl b => .bl b
  | _, _, .int i => .int i
  | _, _, .str x => .str x
  | _, _, .tup h a => .tup (SqT.of h) (DtAll.dp a)
theorem DtAll.dp {K : PySem.W.Frag} {H : Hp} : ∀ {ds : List PyData} {xs : List V}, DtAll H xs ds → DpAll K H xs ds
  | _, _, .nil => .nil
  | _, _, .cons h t => .cons (Dt.dp h) (DtAll.dp t)
end
theorem DtAll.len {H : Hp} : ∀ {xs : List V} {ds : List PyData}, DtAll H xs ds → xs.length = ds.length
  | _, _, .nil => rfl
  | _, _, .cons _ t => by rw [List.length_cons, List.length_cons, t.len]
theorem DtAll.get {H : Hp} : ∀ {xs : List V} {ds : List PyData} {i : Nat} {d : PyData}, DtAll H xs ds → ds[i]? = some d → ∃ x, xs[i]? = some x ∧ Dt H x d
  | _, _, _, _, .nil, e => by simp at e
  | _, _, 0, _, .cons h _, e => by
    cases Option.some.inj e
    exact ⟨_, rfl, h⟩
  | _, _, i + 1, _, .cons _ t, e => DtAll.get t (i := i) (by simpa using e)
theorem DtAll.take {H : Hp} : ∀ {xs : List V} {ds : List PyData} (n : Nat), DtAll H xs ds → DtAll H (xs.take n) (ds.take n)
  | _, _, 0, _ => .nil
  | _, _, _ + 1, .nil => .nil
  | _, _, n + 1, .cons h t => .cons h (t.take n)
theorem DtAll.drop {H : Hp} : ∀ {xs : List V} {ds : List PyData} (n : Nat), DtAll H xs ds → DtAll H (xs.drop n) (ds.drop n)
  | _, _, 0, r => r
  | _, _, _ + 1, .nil => .nil
  | _, _, n + 1, .cons _ t => t.drop n
theorem DtAll.append {H : Hp} : ∀ {xs ys : List V} {ds es : List PyData}, DtAll H xs ds → DtAll H ys es → DtAll H (xs ++ ys) (ds ++ es)
  | _, _, _, _, .nil, r => r
  | _, _, _, _, .cons h t, r => .cons h (t.append r)
theorem dt_int {H : Hp} {x : V} {n : Int} (h : Dt H x (.int n)) : x = .int n := by cases h; rfl
theorem dt_bool {H : Hp} {x : V} {n : Bool} (h : Dt H x (.bool n)) : x = .bl n := by cases h; rfl
theorem dt_tup {H : Hp} {x : V} {ds : List PyData} (h : Dt H x (.tuple ds)) : ∃ a xs, x = .ref a ∧ H a = some (.tup xs) ∧ DtAll H xs ds := by
  cases h with
  | tup h a => exact ⟨_, _, rfl, h, a⟩
theorem dts_ints {H : Hp} : ∀ {xs : List V} {ns : List Int}, DtAll H xs (ns.map .int) → xs = ns.map V.int
  | _, [], h => by cases h; rfl
  | _, n :: ns, h => by
    rw [List.map_cons] at h
    cases h with
    | cons h t => rw [List.map_cons, dt_int h, ← dts_ints t]
theorem dts_of_ints {H : Hp} : ∀ ns : List Int, DtAll H (ns.map V.int) (ns.map PyData.int)
  | [] => .nil
  | n :: ns => .cons (.int n) (dts_of_ints ns)
/-! ### what evaluates to such data -/
def EvD (te : TE) (σ : L2.St) (H : Hp) (d : PyData) : Prop := ∀ H1, Ex H H1 → ∀ Q : VK, (∀ x H2, Ex H1 H2 → Dt H2 x d → Q x H2) → te σ H1 Q
def EvDs (ta : TA) (σ : L2.St) (H : Hp) (ds : List PyData) : Prop := ∀ H1, Ex H H1 → ∀ Q : List V → Hp → Prop, (∀ xs H2, Ex H1 H2 → DtAll H2 xs ds → Q xs H2) → ta σ H1 Q
/-- a new list of such data -/
def EvLd (te : TE) (σ : L2.St) (H : Hp) (ds : List PyData) : Prop := ∀ H1, Ex H H1 → ∀ Q : VK, (∀ p xs H2, H1 p = none → Ex H1 H2 → H2 p = some (.lst xs) → DtAll H2 xs ds → Q (.ref p) H2) → te σ H1 Q
section
variable {K : PySem.W.Frag} {σ : L2.St} {H H' : Hp} {ta tb te tx : TE} {t u : TT} {x y z v : V} {d e : PyData} {ds es : List PyData}
theorem EvD.mono (e : Ex H H') (h : EvD te σ H d) : EvD te σ H' d := fun H1 a Q q => h H1 (e.trans a) Q q
theorem ed_var {i : Nat} (h : σ[i]? = some (some x)) (hd : Dt H x d) : EvD (tVar i) σ H d := fun H1 e _ q => ⟨x, h, q x H1 (Ex.refl H1) (hd.tk (tk_ex e))⟩
theorem ed_of (h : Ev te σ H v) (hd : ∀ H', Dt H' v d) : EvD te σ H d := fun H1 e Q q => h H1 e Q fun H2 e2 => q v H2 e2 (hd H2)
theorem ed_int {n : Int} (h : Ev te σ H (.int n)) : EvD te σ H (.int n) := ed_of h fun _ => .int n
theorem ed_bool {n : Bool} (h : Ev te σ H (.bl n)) : EvD te σ H (.bool n) := ed_of h fun _ => .bl n
theorem int_ed {n : Int} (h : EvD te σ H (.int n)) : Ev te σ H (.int n) := fun H1 e Q q => h H1 e Q fun x H2 e2 hd => by rw [dt_int hd]; exact q H2 e2
theorem bool_ed {n : Bool} (h : EvD te σ H (.bool n)) : Ev te σ H (.bl n) := fun H1 e Q q => h H1 e Q fun x H2 e2 hd => by rw [dt_bool hd]; exact q H2 e2
theorem eds_nil : EvDs tNil σ H [] := fun H1 _ _ q => q [] H1 (Ex.refl H1) .nil
theorem eds_cons {tr : TA} (h : EvD te σ H d) (hr : EvDs tr σ H ds) : EvDs (tCons te tr) σ H (d :: ds) := fun H1 e _ q =>
  h H1 e _ fun x H2 e2 hx => hr H2 (e.trans e2) _ fun xs H3 e3 hxs => q (x :: xs) H3 (e2.trans e3) (.cons (hx.tk (tk_ex e3)) hxs)
theorem ed_tup {ta : TA} (h : EvDs ta σ H ds) (few : ds.length ≤ 100000) : EvD (tTup ta) σ H (.tuple ds) := fun H1 e _ q =>
  h H1 e _ fun xs H2 e2 hxs => ⟨sz_of (by rw [hxs.len]; exact few), fun p hp => q (.ref p) _ (e2.trans (Ex.new hp)) (.tup upd_same (hxs.tk (tk_new hp)))⟩
theorem eld_lst {ta : TA} (h : EvDs ta σ H ds) (few : ds.length ≤ 100000) : EvLd (tLst ta) σ H ds := fun H1 e _ q =>
  h H1 e _ fun xs H2 e2 hxs => ⟨sz_of (by rw [hxs.len]; exact few), fun p hp => q p xs _ (fresh_back e2 hp) (e2.trans (Ex.new hp)) upd_same (hxs.tk (tk_new hp))⟩
/-- t[i] -/
theorem ed_ix {i : Int} (ha : EvD ta σ H (.tuple ds)) (hi : Ev tb σ H (.int i)) (hat : atI ds i = some d) : EvD (tOp (rIxT K) ta tb) σ H d := fun H1 e Q q =>
  ha H1 e _ fun x H2 e2 hx => hi H2 (e.trans e2) _ fun H3 e3 => by
    obtain ⟨a, xs, rfl, h, all⟩ := dt_tup hx
    obtain ⟨j, e4⟩ : ∃ j, ixN ds.length i = some j ∧ ds[j]? = some d := by
      unfold atI at hat
      exact Option.bind_eq_some_iff.mp hat
    obtain ⟨y, hy, hd⟩ := all.get e4.2
    refine ⟨a, xs, i, y, rfl, rfl, SqT.of (e3 _ _ h), ?_, q y H3 (e2.trans e3) (hd.tk (tk_ex e3))⟩
    unfold atI
    rw [all.len, e4.1]
    exact hy
/-- t[lo:hi] -/
def cutD {α : Type} (xs : List α) (lo hi : Option Int) : List α := (xs.drop (HT.sIx xs.length 0 lo)).take (HT.sIx xs.length xs.length hi - HT.sIx xs.length 0 lo)
end
end K10
set_option Elab.async false
set_option linter.all false
set_option maxRecDepth 100000
set_option maxHeartbeats 4000000
namespace K10
open PySem PySem.Spec PyProof.Rows L2 Evl
section
variable {K : PySem.W.Frag} {σ : L2.St} {H H' : Hp} {ta tb te tx tl : TE} {t u : TT} {x y z v : V} {d e : PyData} {ds es : List PyData}
theorem ev_eqD (ha : EvD ta σ H d) (hb : EvD tb σ H e) (sd : SeqAt.shaped d = true) (se : SeqAt.shaped e = true) : Ev (tOp (rEqD K) ta tb) σ H (.bl (PyData.eqv d e)) := fun H1 e1 _ q =>
  ha H1 e1 _ fun x H2 e2 hx => hb H2 (e1.trans e2) _ fun y H3 e3 hy => ⟨d, e, (hx.tk (tk_ex e3)).dp, hy.dp, sd, se, q H3 (e2.trans e3)⟩
theorem dp_list {a : Addr} {xs : List V} (h : H a = some (.lst xs)) (all : DtAll H xs ds) : Dp K H (.ref a) (.list ds) := .lst (SqL.of h) all.dp
theorem ev_lenT (ha : EvD ta σ H (.tuple ds)) : Ev (tCB (rLenS K) (tCons ta tNil)) σ H (.int ds.length) := fun H1 e1 _ q =>
  ha H1 e1 _ fun x H2 e2 hx => by
    obtain ⟨a, xs, rfl, h, all⟩ := dt_tup hx
    refine ⟨a, xs, rfl, .inr (SqT.of h), ?_⟩
    rw [all.len]
    exact q H2 e2
/-- tuple(l) of a list -/
def rTupOf (K : PySem.W.Frag) : List V → Hp → VK → Prop := fun xs H Q => ∃ p ys, xs = [.ref p] ∧ ((SqL K H p ys ∧ ∀ l, H l = none → Q (.ref l) (upd H l (.tup ys))) ∨ (SqT K H p ys ∧ Q (.ref p) H))
theorem ed_tupOf (h : EvLd te σ H ds) : EvD (tCB (rTupOf K) (tCons te tNil)) σ H (.tuple ds) := fun H1 e1 _ q =>
  h H1 e1 _ fun a xs H2 _ e2 h2 all => ⟨a, xs, rfl, .inl ⟨SqL.of h2, fun l hl => q _ _ (e2.trans (Ex.new hl)) (.tup upd_same (all.tk (tk_new hl)))⟩⟩
/-- a pure def's promise: from such data to such data, nothing changed -/
def spD (ok : List PyData → PyData → Prop) : Sp := fun vs H Q _ => ∃ ds d, DtAll H vs ds ∧ ok ds d ∧ ∀ x H', Ex H H' → Dt H' x d → Q x H'
theorem ed_call {ok : List PyData → PyData → Prop} {E : XK} {ta : TA} (h : EvDs ta σ H ds) (hk : ok ds d) : EvD (tCall (spD ok) [] E ta) σ H d := fun H1 e1 Q q =>
  h H1 e1 _ fun xs H2 e2 hxs => by
    show spD ok (xs ++ []) H2 Q E
    rw [List.append_nil]
    exact ⟨ds, d, hxs, hk, fun x H3 e3 hx => q x H3 (e2.trans e3) hx⟩
/-! ### statements -/
variable {D : Ends} {tu tw : TS} {g : TG}
theorem sd_asg {i : Nat} (h : EvD te σ H d) (k : ∀ x H1, Ex H H1 → Dt H1 x d → D.nx (σ.set i (some x)) H1) : tAsg te (gName i) D σ H := h H (Ex.refl H) _ fun x H1 e hx => k x H1 e hx
theorem sd_ret (h : EvD te σ H d) (k : ∀ x H1, Ex H H1 → Dt H1 x d → D.rt x H1) : tRet te D σ H := h H (Ex.refl H) _ k
theorem gd_two {R : L2.St → Hp → Prop} {i j : Nat} {d1 d2 : PyData} (hx : Dt H x (.tuple [d1, d2])) (k : ∀ y z, Dt H y d1 → Dt H z d2 → R ((σ.set i (some y)).set j (some z)) H) : gTup K 2 (gCons (gName i) (gCons (gName j) gNil)) x σ H R := by
  obtain ⟨a, xs, rfl, h, all⟩ := dt_tup hx
  cases all with
  | cons h1 t =>
    cases t with
    | cons h2 t =>
      cases t
      exact ⟨a, _, rfl, SqT.of h, rfl, _, _, rfl, _, _, rfl, rfl, k _ _ h1 h2⟩
theorem sd_two {i j : Nat} {d1 d2 : PyData} (h : EvD te σ H (.tuple [d1, d2])) (k : ∀ y z H1, Ex H H1 → Dt H1 y d1 → Dt H1 z d2 → D.nx ((σ.set i (some y)).set j (some z)) H1) : tAsg te (gTup K 2 (gCons (gName i) (gCons (gName j) gNil))) D σ H :=
  h H (Ex.refl H) _ fun x H1 e hx => gd_two hx fun y z hy hz => k y z H1 e hy hz
/-! ### comprehensions -/
end
end K10
set_option Elab.async false
set_option linter.all false
set_option maxRecDepth 100000
set_option maxHeartbeats 4000000
namespace K10
open PySem PySem.Spec PyProof.Rows L2 Evl
theorem dts1 {H : Hp} {vs : List V} {a : PyData} (h : DtAll H vs [a]) : ∃ x, vs = [x] ∧ Dt H x a := by
  cases h with
  | cons h1 t => cases t; exact ⟨_, rfl, h1⟩
theorem dts2 {H : Hp} {vs : List V} {a b : PyData} (h : DtAll H vs [a, b]) : ∃ x y, vs = [x, y] ∧ Dt H x a ∧ Dt H y b := by
  cases h with
  | cons h1 t =>
    obtain ⟨y, rfl, h2⟩ := dts1 t
    exact ⟨_, _, rfl, h1, h2⟩
theorem ev_between {σ : L2.St} {H : Hp} {ta tb tc : TE} {a b c : Int} (ha : Ev ta σ H (.int a)) (hb : Ev tb σ H (.int b)) (hc : Ev tc σ H (.int c)) :
    Ev (tChain (rI0 fun i j => .bl (decide (i ≤ j))) (rI0 fun i j => .bl (decide (i ≤ j))) ta tb tc) σ H (.bl (decide (a ≤ b) && decide (b ≤ c))) := fun H1 e Q q =>
  ha H1 e _ fun H2 e2 => hb H2 (e.trans e2) _ fun H3 e3 => ⟨a, b, rfl, rfl, _, rfl, by
    by_cases h : a ≤ b
    · rw [decide_eq_true h, if_pos rfl]
      refine hc H3 ((e.trans e2).trans e3) _ fun H4 e4 => ⟨b, c, rfl, rfl, ?_⟩
      have z := q H4 ((e2.trans e3).trans e4)
      rw [decide_eq_true h, Bool.true_and] at z
      exact z
    · rw [decide_eq_false h, if_neg (by decide)]
      have z := q H3 (e2.trans e3)
      rw [decide_eq_false h, Bool.false_and] at z
      exact z⟩
end K10
set_option Elab.async false
set_option linter.all false
set_option maxRecDepth 100000
set_option maxHeartbeats 4000000
set_option Elab.async false
set_option linter.all false
set_option maxRecDepth 100000
set_option maxHeartbeats 4000000
namespace K10
open PySem PySem.Spec PyProof.Rows L2 Evl
abbrev intsD (ns : List Int) : PyData := .tuple (ns.map .int)
abbrev rowD (bs rs : List Int) : PyData := .tuple [intsD bs, intsD rs]
theorem eqvAll_ints : ∀ as bs : List Int, PyData.eqvAll (as.map .int) (bs.map .int) = decide (as = bs)
  | [], [] => by simp [PyData.eqvAll]
  | [], _ :: _ => by simp [PyData.eqvAll]
  | _ :: _, [] => by simp [PyData.eqvAll]
  | a :: as, b :: bs => by
    rw [List.map_cons, List.map_cons, PyData.eqvAll, eqvAll_ints as bs]
    by_cases h : a = b
    · subst h
      by_cases h2 : as = bs <;> simp [PyData.eqv, h2]
    · simp [PyData.eqv, h]
theorem eqv_ints (as bs : List Int) : PyData.eqv (intsD as) (intsD bs) = decide (as = bs) := by
  show PyData.eqv (.tuple _) (.tuple _) = _
  rw [PyData.eqv, eqvAll_ints]
theorem canLay_ints : ∀ ns : List Int, PyData.canLayAll0 (ns.map .int) = true
  | [] => by simp [PyData.canLayAll0]
  | n :: ns => by
    rw [List.map_cons, PyData.canLayAll0, canLay_ints ns]
    simp [PyData.canLay0]
theorem depth_ints : ∀ ns : List Int, PyData.depthAll (ns.map .int) = 0
  | [] => by simp [PyData.depthAll]
  | n :: ns => by
    rw [List.map_cons, PyData.depthAll, depth_ints ns]
    simp [PyData.depth]
theorem shaped_ints (ns : List Int) : SeqAt.shaped (intsD ns) = true := by
  unfold SeqAt.shaped
  show (PyData.canLay0 (.tuple _) && decide (PyData.depth (.tuple _) ≤ 64)) = true
  rw [PyData.canLay0, PyData.depth, canLay_ints, depth_ints]
  rfl
theorem dt_ints {H : Hp} {x : V} {ns : List Int} (h : Dt H x (intsD ns)) : ∃ a, x = .ref a ∧ H a = some (.tup (ns.map V.int)) := by
  obtain ⟨a, xs, rfl, h1, h2⟩ := dt_tup h
  rw [dts_ints h2] at h1
  exact ⟨a, rfl, h1⟩
theorem at_ints {ns : List Int} {i : Nat} (h : i < ns.length) : atI (ns.map PyData.int) (i : Int) = some (.int (ns.getD i 0)) := by
  refine atI_nat ?_
  rw [List.getElem?_map, List.getD_eq_getElem?_getD, List.getElem?_eq_getElem h]
  rfl
theorem ev_lenI {K : PySem.W.Frag} {σ : L2.St} {H : Hp} {ta : TE} {ns : List Int} (ha : EvD ta σ H (intsD ns)) : Ev (tCB (rLenS K) (tCons ta tNil)) σ H (.int ns.length) := by
  have z := ev_lenT (K := K) ha
  rw [List.length_map] at z
  exact z
theorem rc_int {σ : L2.St} {H : Hp} {ta : TE} {i : Int} (h : Ev ta σ H (.int i)) : Ev (tCB (fun xs H Q => (∃ i, xs = [.int i] ∧ Q (.int i) H) ∨ ∃ k, xs = [.bl k] ∧ Q (.int (if k then 1 else 0)) H) (tCons ta tNil)) σ H (.int i) := fun H1 e _ q =>
  h H1 e _ fun H2 e2 => .inl ⟨i, rfl, q H2 e2⟩
theorem mod_nat (bs rs : List Int) (i : Nat) (hr : rs ≠ []) (hi : ¬ i < bs.length) : ((i : Int) - (bs.length : Int)) % (rs.length : Int) = (((i - bs.length) % rs.length : Nat) : Int) := by
  have : (i : Int) - (bs.length : Int) = ((i - bs.length : Nat) : Int) := by omega
  rw [this]
  exact (Int.natCast_emod _ _).symm
def okEntry (ds : List PyData) (d : PyData) : Prop := ∃ (bs rs : List Int) (i : Nat), ds = [rowD bs rs, .int i] ∧ rs ≠ [] ∧ d = .int (ent bs rs i)
section
variable {P : Program} {w : World} {K : PySem.W.Frag} {mg : Str → Option Value} {base : Heap} {k : Nat} {f f1 f2 : Addr} {fd fd1 fd2 : FuncData}
theorem ev_entTail {H : Hp} {σ : L2.St} {tr ti : TE} {bs rs : List Int} {i : Nat} (hr : rs ≠ []) (hi : ¬ i < bs.length) (h1 : EvD tr σ H (intsD rs)) (h2 : Ev ti σ H (.int (((i - bs.length) % rs.length : Nat) : Int))) : Ev (tOp (rIxT K) tr ti) σ H (.int (ent bs rs i)) := by
  have hl : 0 < rs.length := List.length_pos_iff.mpr hr
  refine int_ed (ed_ix h1 h2 ?_)
  rw [at_ints (Nat.mod_lt _ hl)]
  unfold ent
  rw [if_neg hi]
theorem ev_entHead {H : Hp} {σ : L2.St} {tr ti : TE} {bs rs : List Int} {i : Nat} (hi : i < bs.length) (h1 : EvD tr σ H (intsD bs)) (h2 : Ev ti σ H (.int (i : Int))) : Ev (tOp (rIxT K) tr ti) σ H (.int (ent bs rs i)) := by
  refine int_ed (ed_ix h1 h2 ?_)
  rw [at_ints hi]
  unfold ent
  rw [if_pos hi]
theorem et_lt {H : Hp} {σ : L2.St} {ta tb : TE} {a b : Nat} (ha : Ev ta σ H (.int (a : Int))) (hb : Ev tb σ H (.int (b : Int))) : EvT (tTest (tOp (rI0 fun i j => .bl (decide (i < j))) ta tb)) σ H (decide (a < b)) := by
  refine et_is (et_test (ev_op ha hb rv_I0)) ?_
  by_cases h : a < b
  · rw [decide_eq_true h, decide_eq_true (by omega)]
  · rw [decide_eq_false h, decide_eq_false (by omega)]
end
end K10
set_option Elab.async false
set_option linter.all false
set_option maxRecDepth 100000
set_option maxHeartbeats 4000000
namespace K10
open PySem PySem.Spec PyProof.Rows L2 Evl
/-! ### least forms exist -/
/-! ### slices -/
theorem cut_take {α : Type} (xs : List α) (n : Nat) : cutD xs none (some (n : Int)) = xs.take n := by
  unfold cutD
  rw [HT.sIx_none, HT.sIx_nat, List.drop_zero, Nat.sub_zero]
  by_cases h : n ≤ xs.length
  · rw [Nat.min_eq_left h]
  · rw [Nat.min_eq_right (by omega), List.take_of_length_le (by omega), List.take_of_length_le (by omega)]
theorem cut_drop {α : Type} (xs : List α) (n : Nat) : cutD xs (some (n : Int)) none = xs.drop n := by
  unfold cutD
  rw [HT.sIx_none, HT.sIx_nat]
  by_cases h : n ≤ xs.length
  · rw [Nat.min_eq_left h, List.take_of_length_le (by rw [List.length_drop]; omega)]
  · rw [Nat.min_eq_right (by omega), List.drop_of_length_le (by omega), List.drop_of_length_le (by omega), List.take_nil]
end K10
set_option Elab.async false
set_option linter.all false
set_option maxRecDepth 100000
set_option maxHeartbeats 4000000
set_option Elab.async false
set_option linter.all false
set_option maxRecDepth 100000
set_option maxHeartbeats 4000000
set_option Elab.async false
set_option linter.all false
set_option maxRecDepth 100000
set_option maxHeartbeats 4000000
namespace K10
open PySem PySem.Spec PyProof.Rows L2 Evl
abbrev top : Int := 999999999999999999
section
variable {K : PySem.W.Frag} {σ : L2.St} {H : Hp} {t1 t2 : TE} {x : PyData}
theorem at0 (a b : PyData) : atI [a, b] 0 = some a := rfl
end
end K10
set_option Elab.async false
set_option linter.all false
set_option maxRecDepth 100000
set_option maxHeartbeats 4000000
namespace K10
open PySem L2
abbrev Pl := Int × Int
def keyK (p : Pl) : List L2.Key := [Sum.inl p.1, Sum.inl p.2]
theorem keyK_inj {p q : Pl} (h : keyK p = keyK q) : p = q := by
  unfold keyK at h
  injection h with h1 h2
  injection h2 with h2 _
  injection h1 with h1
  injection h2 with h2
  exact Prod.ext h1 h2
/-! ### in order -/
abbrev B0 : Int := 1000000000000000000
def cd (p : Pl) : Int := p.1 * B0 + p.2
/-! ### go together -/
/-! ### both -/
end K10
set_option Elab.async false
set_option linter.all false
set_option maxRecDepth 100000
set_option maxHeartbeats 4000000
namespace K10
open PySem PySem.Spec PyProof.Rows L2 Evl
abbrev placeD (p : Pl) : PyData := intsD [p.1, p.2]
theorem dt_place {H : Hp} {x : V} {p : Pl} (h : Dt H x (placeD p)) : ∃ a, x = .ref a ∧ H a = some (.tup ((keyK p).map kV)) := dt_ints h
end K10
set_option Elab.async false
set_option linter.all false
set_option maxRecDepth 100000
set_option maxHeartbeats 4000000
namespace K10
open PySem PySem.Spec PyProof.Rows L2 Evl
theorem getD_at {α : Type} {l : List α} {i : Nat} {x z : α} (h : l[i]? = some x) : l.getD i z = x := by
  rw [List.getD_eq_getElem?_getD, h]
  rfl
theorem map_at {α β : Type} {l : List α} {f : α → β} {i : Nat} {y : β} (h : (l.map f)[i]? = some y) : ∃ x, l[i]? = some x ∧ f x = y := by
  rw [List.getElem?_map] at h
  exact Option.map_eq_some_iff.mp h
section
variable {K : PySem.W.Frag} {σ : L2.St} {H : Hp} {ta te : TE}
theorem tupB {X : Cx} : CallR X (.type "tuple") (rTupOf X.K) := call_tuple_of
end
end K10
set_option Elab.async false
set_option linter.all false
set_option maxRecDepth 100000
set_option maxHeartbeats 4000000
namespace K10
open PySem PySem.Spec PyProof.Rows L2 Evl
/-! ### the draws' own dict -/
def stK (l s : Int) (c : Addr) (p : Int) : List (Key × V) :=
  [(Sum.inr "left", V.int l), (Sum.inr "seed", V.int s), (Sum.inr "cells", V.ref c), (Sum.inr "spot", V.int p)]
theorem st_left {l s : Int} {c : Addr} {p : Int} : valV (stK l s c p) (Sum.inr "left") = some (.int l) := rfl
theorem st_seed {l s : Int} {c : Addr} {p : Int} : valV (stK l s c p) (Sum.inr "seed") = some (.int s) := rfl
theorem st_cells {l s : Int} {c : Addr} {p : Int} : valV (stK l s c p) (Sum.inr "cells") = some (.ref c) := rfl
theorem st_spot {l s : Int} {c : Addr} {p : Int} : valV (stK l s c p) (Sum.inr "spot") = some (.int p) := rfl
theorem put_left {l s l' : Int} {c : Addr} {p : Int} : putK (stK l s c p) (Sum.inr "left") (.int l') = stK l' s c p := rfl
theorem put_spot {l s p' : Int} {c : Addr} {p : Int} : putK (stK l s c p) (Sum.inr "spot") (.int p') = stK l s c p' := rfl
/-- at most n spots are spent -/
def Mok (H : Hp) (m c : Addr) (n : Nat) : Prop := ∃ (l s p : Int) (cs : List Int), H m = some (.dK (stK l s c p)) ∧ H c = some (.lst (cs.map V.int)) ∧ cs ≠ [] ∧ 0 ≤ p ∧ p ≤ n
theorem Mok.ex {H H' : Hp} {m c : Addr} {n : Nat} (e : Ex H H') : Mok H m c n → Mok H' m c n := fun ⟨l, s, p, cs, h1, h2, r⟩ => ⟨l, s, p, cs, e _ _ h1, e _ _ h2, r⟩
theorem Mok.mono {H : Hp} {m c : Addr} {n n' : Nat} (h : n ≤ n') : Mok H m c n → Mok H m c n' := fun ⟨l, s, p, cs, h1, h2, h3, h4, h5⟩ => ⟨l, s, p, cs, h1, h2, h3, h4, by omega⟩
theorem Mok.free {H : Hp} {m c L : Addr} {n : Nat} (h : H L = none) : Mok H m c n → m ≠ L ∧ c ≠ L := fun ⟨l, s, p, cs, h1, h2, _⟩ => ⟨ne_of_none h1 h, ne_of_none h2 h⟩
theorem Mok.upd {H : Hp} {m c L : Addr} {o : HO} {n : Nat} (ne : m ≠ L ∧ c ≠ L) : Mok H m c n → Mok (upd H L o) m c n := fun ⟨l, s, p, cs, h1, h2, r⟩ => ⟨l, s, p, cs, by rw [upd_ne ne.1]; exact h1, by rw [upd_ne ne.2]; exact h2, r⟩
def spDraw : Sp := fun vs H Q _ => ∃ (m c : Addr) (b : Int) (n : Nat), vs = [.ref m, .int b] ∧ Mok H m c n ∧ n < 1000000 ∧ 1 ≤ b ∧ b ≤ 1000000000 ∧
  ∀ (d : Int) (H' : Hp), 0 ≤ d → d < b → Kin H H' → Mok H' m c (n + 1) → Q (.int d) H'
section
variable {K : PySem.W.Frag} {σ : L2.St} {H H' : Hp} {ta tb te td : TE} {v : V} {m : Addr} {n : Nat}
theorem ev_kget {kvs : List (Key × V)} {s : Str} (hd : Ev td σ H (.ref m)) (hm : H m = some (.dK kvs)) (hv : valV kvs (Sum.inr s) = some v) : Ev (tDGet td (tC (.str s))) σ H v := fun H1 e1 Q q =>
  hd H1 e1 _ fun H2 e2 => ⟨m, v, rfl, by
    have z := DGet.k (k := (Sum.inr s : Key)) ((e1.trans e2) _ _ hm)
    rw [hv] at z
    exact z, q H2 e2⟩
theorem kin_dk {kvs kvs' : List (Key × V)} (h : H m = some (.dK kvs)) : Kin H (upd H m (.dK kvs')) := fun a o ha no => by
  by_cases e : a = m
  · subst e
    rw [h] at ha
    cases ha
    exact absurd rfl (no kvs)
  · rw [upd_ne e]
    exact ha
theorem q_kput {kvs : List (Key × V)} {s : Str} {tv : TE} {D : Ends} {tz : TS} (hv : Ev tv σ H v) (hd : Ev td σ H (.ref m)) (hm : H m = some (.dK kvs)) (few : kvs.length ≤ 100)
    (k : ∀ H1, Ex H H1 → tz D σ (upd H1 m (.dK (putK kvs (Sum.inr s) v)))) : tSeq (sDPut td (tC (.str s)) tv) tz D σ H :=
  hv H (Ex.refl H) _ fun H1 e1 => hd H1 e1 _ fun H2 e2 => ⟨m, _, rfl, DPut.k (k := (Sum.inr s : Key)) ((e1.trans e2) _ _ hm) (sz_lt (by omega)), k H2 (e1.trans e2)⟩
theorem q_par {ta : TA} {i j : Nat} {x y : V} {D : Ends} {tz : TS} (h : EvA ta σ H [x, y]) (k : ∀ H1, Ex H H1 → tz D ((σ.set i (some x)).set j (some y)) H1) : tSeq (tPar i j ta) tz D σ H :=
  h H (Ex.refl H) _ fun H1 e1 => ⟨x, y, rfl, k H1 e1⟩
theorem mod_lt {a b : Int} (h : 1 ≤ b) : 0 ≤ a % b ∧ a % b < b := ⟨Int.emod_nonneg _ (by omega), Int.emod_lt_of_pos _ (by omega)⟩
end
end K10
set_option Elab.async false
set_option linter.all false
set_option maxRecDepth 100000
set_option maxHeartbeats 4000000
namespace K10
open PySem PySem.Spec PyProof.Rows L2 Evl
section
variable {K : PySem.W.Frag} {σ : L2.St} {H H' : Hp} {ta tb te td : TE} {v : V} {m : Addr} {n : Nat} {xs ys : List V}
theorem el_cat (ha : EvL ta σ H xs) (hb : EvL tb σ H ys) (few : xs.length + ys.length ≤ 100000) : EvL (tOp rCat ta tb) σ H (xs ++ ys) := fun H1 e1 Q q =>
  ha H1 e1 _ fun a H2 na e2 h2 => hb H2 (e1.trans e2) _ fun b H3 nb e3 h3 => ⟨a, b, xs, ys, rfl, rfl, e3 _ _ h2, h3, sz_of few, fun p hp => q p _ (fresh_back (e2.trans e3) hp) ((e2.trans e3).trans (Ex.new hp)) upd_same⟩
theorem el_cat1 {a : Addr} (ha : Ev ta σ H (.ref a)) (h : H a = some (.lst xs)) (hb : EvL tb σ H ys) (few : xs.length + ys.length ≤ 100000) : EvL (tOp rCat ta tb) σ H (xs ++ ys) := fun H1 e1 Q q =>
  ha H1 e1 _ fun H2 e2 => hb H2 (e1.trans e2) _ fun b H3 nb e3 h3 => ⟨a, b, xs, ys, rfl, rfl, ((e1.trans e2).trans e3) _ _ h, h3, sz_of few, fun p hp => q p _ (fresh_back (e2.trans e3) hp) ((e2.trans e3).trans (Ex.new hp)) upd_same⟩
def Ints (xs : List V) : Prop := ∃ ns : List Int, xs = ns.map V.int
theorem ints_map (ns : List Int) : Ints (ns.map V.int) := ⟨ns, rfl⟩
theorem ints_cut {lo hi : Option Int} : Ints xs → Ints (cutV xs lo hi) := fun ⟨ns, h⟩ => by
  subst h
  exact ⟨_, by unfold cutV; rw [← List.map_drop, ← List.map_take]⟩
theorem ints_cat : Ints xs → Ints ys → Ints (xs ++ ys) := fun ⟨a, h⟩ ⟨b, h2⟩ => ⟨a ++ b, by rw [h, h2, List.map_append]⟩
theorem cut_len (lo hi : Option Int) : (cutV xs lo hi).length ≤ xs.length := by
  unfold cutV
  rw [List.length_take, List.length_drop]
  omega
theorem ints_get (h : Ints xs) {i : Nat} (lt : i < xs.length) : ∃ z, xs[i]? = some (.int z) := by
  obtain ⟨ns, rfl⟩ := h
  rw [List.length_map] at lt
  exact ⟨ns[i], by rw [List.getElem?_map, List.getElem?_eq_getElem lt]; rfl⟩
end
end K10
set_option Elab.async false
set_option linter.all false
set_option maxRecDepth 100000
set_option maxHeartbeats 4000000
namespace K10
open PySem PySem.Spec PyProof.Rows L2 Evl
theorem Kin.mut {H H1 : Hp} {p : Addr} {o : HO} (e : Kin H H1) (h : H p = none) : Kin H (upd H1 p o) := fun a u ha no => by
  rw [upd_ne (ne_of_none ha h)]
  exact e a u ha no
/-! ### what draws, and then stands for such data: its kind told by P -/
def EvM (m c : Addr) (te : TE) (σ : L2.St) (H : Hp) (n n' : Nat) (P : PyData → Prop) : Prop := ∀ H1, Kin H H1 → Mok H1 m c n → ∀ Q : VK, (∀ x d H2, P d → Kin H1 H2 → Mok H2 m c n' → Dt H2 x d → Q x H2) → te σ H1 Q
def EvMs (m c : Addr) (ta : TA) (σ : L2.St) (H : Hp) (n n' : Nat) (P : List PyData → Prop) : Prop := ∀ H1, Kin H H1 → Mok H1 m c n → ∀ Q : List V → Hp → Prop, (∀ xs ds H2, P ds → Kin H1 H2 → Mok H2 m c n' → DtAll H2 xs ds → Q xs H2) → ta σ H1 Q
def EvMl (m c : Addr) (te : TE) (σ : L2.St) (H : Hp) (n n' : Nat) (P : List PyData → Prop) : Prop := ∀ H1, Kin H H1 → Mok H1 m c n → ∀ Q : VK, (∀ p xs ds H2, P ds → Kin H1 H2 → Mok H2 m c n' → H2 p = some (.lst xs) → DtAll H2 xs ds → Q (.ref p) H2) → te σ H1 Q
/-- a def's promise: it draws at most t times -/
def spM (t : Nat) (ok : List PyData → (PyData → Prop) → Prop) : Sp := fun vs H Q _ => ∃ (m c : Addr) (n : Nat) (xs : List V) (ds : List PyData) (P : PyData → Prop), vs = .ref m :: xs ∧ DtAll H xs ds ∧ ok ds P ∧ Mok H m c n ∧ n + t < 1000000 ∧
  ∀ x d H', P d → Kin H H' → Mok H' m c (n + t) → Dt H' x d → Q x H'
section
variable {K : PySem.W.Frag} {σ : L2.St} {H H' : Hp} {ta tb te td tx : TE} {v x : V} {m c : Addr} {n n' n1 n2 : Nat} {P P1 P2 : PyData → Prop} {PP PP' : List PyData → Prop} {d : PyData} {ds es : List PyData} {g : TG}
theorem em_of (h : ∀ H1, Kin H H1 → EvD te σ H1 d) (p : P d) : EvM m c te σ H n n P := fun H1 e1 mk Q q => h H1 e1 H1 (Ex.refl _) Q fun x H2 e2 hx => q x d H2 p (kin_ex e2) (mk.ex e2) hx
theorem EvM.up (h : EvM m c te σ H n n1 P) (le : n1 ≤ n2) : EvM m c te σ H n n2 P := fun H1 e1 mk Q q => h H1 e1 mk Q fun x d H2 p e2 mk2 hx => q x d H2 p e2 (mk2.mono le) hx
theorem EvM.kin (h : EvM m c te σ H n n1 P) (e : Kin H H') : EvM m c te σ H' n n1 P := fun H1 e1 mk Q q => h H1 (e.trans e1) mk Q q
/-- an int below b -/
def Below (b : Int) (d : PyData) : Prop := ∃ z : Int, d = .int z ∧ 0 ≤ z ∧ z < b
theorem em_draw {i : Nat} {b : Int} {E : XK} (hi : σ[i]? = some (some (.ref m))) (h : ∀ H1, Kin H H1 → Ev tb σ H1 (.int b)) (b1 : 1 ≤ b) (b2 : b ≤ 1000000000) (few : n < 1000000) : EvM m c (tCall spDraw [] E (tCons (tVar i) (tCons tb tNil))) σ H n (n + 1) (Below b) := fun H1 e1 mk Q q =>
  ⟨_, hi, h H1 e1 H1 (Ex.refl _) _ fun H2 e2 => ⟨m, c, b, n, rfl, mk.ex e2, few, b1, b2, fun d H' d0 d1 e3 mk3 => q _ _ H' ⟨d, rfl, d0, d1⟩ ((kin_ex e2).trans e3) mk3 (.int d)⟩⟩
theorem em_call {i : Nat} {t : Nat} {ok : List PyData → (PyData → Prop) → Prop} {tr : TA} {E : XK} (hi : σ[i]? = some (some (.ref m))) (h : ∀ H1, Kin H H1 → EvDs tr σ H1 ds) (hk : ok ds P) (few : n + t < 1000000) : EvM m c (tCall (spM t ok) [] E (tCons (tVar i) tr)) σ H n (n + t) P := fun H1 e1 mk Q q =>
  ⟨_, hi, h H1 e1 H1 (Ex.refl _) _ fun xs H2 e2 hxs => ⟨m, c, n, xs, ds, P, by rw [List.append_nil], hxs, hk, mk.ex e2, few, fun x d H' p e3 mk3 hx => q x d H' p ((kin_ex e2).trans e3) mk3 hx⟩⟩
/-- an operator on two such -/
theorem em_op {r : R2} (ha : EvM m c ta σ H n n1 P1) (hb : EvM m c tb σ H n1 n2 P2) (h : ∀ x y d e H1, P1 d → P2 e → Dt H1 x d → Dt H1 y e → ∃ f, P f ∧ EvD (tOp r (tVar 0) (tVar 1)) [some x, some y] H1 f) : EvM m c (tOp r ta tb) σ H n n2 P := fun H1 e1 mk Q q =>
  ha H1 e1 mk _ fun x d H2 p1 e2 mk2 hx => hb H2 (e1.trans e2) mk2 _ fun y e H3 p2 e3 mk3 hy => by
    obtain ⟨f, pf, hf⟩ := h x y d e H3 p1 p2 (hx.tk (tk_kin e3)) hy
    have z := hf H3 (Ex.refl _) Q fun z H4 e4 hz => q z f H4 pf ((e2.trans e3).trans (kin_ex e4)) (mk3.ex e4) hz
    obtain ⟨_, z1, _, z2, z3⟩ := z
    cases z1
    cases z2
    exact z3
theorem ems_nil (p : PP []) : EvMs m c tNil σ H n n PP := fun H1 e1 mk Q q => q [] [] H1 p (Kin.refl _) mk .nil
theorem ems_cons {tr : TA} (h : EvM m c te σ H n n1 P) (hr : EvMs m c tr σ H n1 n2 PP) (hp : ∀ d ds, P d → PP ds → PP' (d :: ds)) : EvMs m c (tCons te tr) σ H n n2 PP' := fun H1 e1 mk Q q =>
  h H1 e1 mk _ fun x d H2 p e2 mk2 hx => hr H2 (e1.trans e2) mk2 _ fun xs ds H3 pp e3 mk3 hxs => q (x :: xs) (d :: ds) H3 (hp d ds p pp) (e2.trans e3) mk3 (.cons (hx.tk (tk_kin e3)) hxs)
theorem em_tup {tr : TA} (h : EvMs m c tr σ H n n1 PP) (hp : ∀ ds, PP ds → ds.length ≤ 1000 ∧ P (.tuple ds)) : EvM m c (tTup tr) σ H n n1 P := fun H1 e1 mk Q q =>
  h H1 e1 mk _ fun xs ds H2 pp e2 mk2 hxs => ⟨sz_of (by rw [hxs.len]; have := (hp ds pp).1; omega), fun p np => q (.ref p) (.tuple ds) _ (hp ds pp).2 (e2.trans (kin_ex (Ex.new np))) (mk2.ex (Ex.new np)) (.tup upd_same (hxs.tk (tk_new np)))⟩
theorem eml_lst {tr : TA} (h : EvMs m c tr σ H n n1 PP) (hp : ∀ ds, PP ds → ds.length ≤ 1000) : EvMl m c (tLst tr) σ H n n1 PP := fun H1 e1 mk Q q =>
  h H1 e1 mk _ fun xs ds H2 pp e2 mk2 hxs => ⟨sz_of (by rw [hxs.len]; have := (hp ds pp); omega), fun p np => q p xs ds _ pp (e2.trans (kin_ex (Ex.new np))) (mk2.ex (Ex.new np)) upd_same (hxs.tk (tk_new np))⟩
theorem em_tupOf (h : EvMl m c te σ H n n1 PP) (hp : ∀ ds, PP ds → P (.tuple ds)) : EvM m c (tCB (rTupOf K) (tCons te tNil)) σ H n n1 P := fun H1 e1 mk Q q =>
  h H1 e1 mk _ fun p xs ds H2 pp e2 mk2 hL hxs => ⟨p, xs, rfl, .inl ⟨SqL.of hL, fun l hl => q (.ref l) (.tuple ds) _ (hp ds pp) (e2.trans (kin_ex (Ex.new hl))) (mk2.ex (Ex.new hl)) (.tup upd_same (hxs.tk (tk_new hl)))⟩⟩
/-- so many things, each of this kind -/
def Each (P : PyData → Prop) (n : Nat) (ds : List PyData) : Prop := ds.length = n ∧ ∀ d ∈ ds, P d
/-- the invariant of such a comprehension -/
def CwM (m c : Addr) (H : Hp) (P : PyData → Prop) (L : Addr) (n t i : Nat) (H' : Hp) : Prop := H L = none ∧ Kin H H' ∧ Mok H' m c (n + t * i) ∧ (m ≠ L ∧ c ≠ L) ∧ ∃ acc ds, H' L = some (.lst acc) ∧ DtAll H' acc ds ∧ Each P i ds
theorem tk_lst {H4 : Hp} {L : Addr} {acc acc' : List V} (h : H4 L = some (.lst acc)) : Tk H4 (upd H4 L (.lst acc')) := tk_upd fun xs z => by
  rw [h] at z
  cases z
theorem cwm_turn {L : Addr} {t i : Nat} {σ2 : L2.St} (p : CwM m c H P L n t i H') (hi : i < 50000) (he : EvM m c te σ2 H (n + t * i) (n + t * i + t) P) : te σ2 H' fun y H4 => ∃ acc, H4 L = some (.lst acc) ∧ acc.length < sizeLine ∧ CwM m c H P L n t (i + 1) (upd H4 L (.lst (acc ++ [y]))) := by
  obtain ⟨p1, p2, p3, p4, acc, ds, p5, p6, p7⟩ := p
  refine he H' p2 p3 _ fun y d H4 pd e4 mk4 hy => ?_
  have hL : H4 L = some (.lst acc) := e4 L _ p5 fun _ z => nomatch z
  have still : Tk H4 (upd H4 L (.lst (acc ++ [y]))) := tk_lst hL
  refine ⟨acc, hL, sz_lt (by rw [p6.len, p7.1]; omega), p1, (p2.trans e4).mut p1, ?_, p4, _, ds ++ [d], upd_same, ?_, ?_⟩
  · have e : n + t * (i + 1) = n + t * i + t := by rw [Nat.mul_add, Nat.mul_one, Nat.add_assoc]
    rw [e]
    exact mk4.upd p4
  · exact ((p6.tk (tk_kin e4)).tk still).append (.cons (hy.tk still) .nil)
  · refine ⟨by rw [List.length_append, p7.1]; rfl, fun d' hd => ?_⟩
    rcases List.mem_append.mp hd with h | h
    · exact p7.2 d' h
    · cases List.mem_singleton.mp h
      exact pd
/-- [te for i in range(tx)], the range's end drawn too -/
theorem eml_lcR {tr : TA} {vs : List Nat} {j t top : Nat} {pk : Nat → Prop} (h : EvMs m c tr σ H n n1 fun ds => ∃ k : Nat, ds = [.int k] ∧ pk k) (low : ∀ k, pk k → k ≤ top) (small : top ≤ 1000) (hw : ∀ x, wipe ((wipe σ vs).set j (some x)) vs = wipe σ vs)
    (each : ∀ i H1, i < top → Kin H H1 → EvM m c te ((wipe σ vs).set j (some (.int (i : Nat)))) H1 (n1 + t * i) (n1 + t * i + t) P) : EvMl m c (tLc (iRng1 tr) (gName j) tYes te vs) σ H n (n1 + t * top) fun ds => ∃ k, pk k ∧ Each P k ds := fun H1 e1 mk Q q =>
  h H1 e1 mk _ fun xs ds H2 pp e2 mk2 hxs => by
    obtain ⟨k, rfl, pk'⟩ := pp
    have hk := low k pk'
    cases hxs with
    | cons h1 tl =>
      cases tl
      cases dt_int h1
      refine ⟨(k : Int), rfl, by omega, by omega, fun L hL => ?_⟩
      have mk3 : Mok (upd H2 L (.lst [])) m c n1 := mk2.ex (Ex.new hL)
      refine lc_range (lo := 0) (n := ((k : Nat) : Int).toNat) (CwM m c H2 P L n1 t) ⟨hL, kin_ex (Ex.new hL), mk3.mono (by omega), mk2.free hL, [], [], upd_same, .nil, rfl, fun d hd => by cases hd⟩ (fun i H' hi p => ?_) (fun H' p => ?_)
      · have z : (0 : Int) + (i : Int) = (i : Int) := Int.zero_add _
        rw [z]
        refine ⟨hw _, ?_⟩
        unfold tYes
        dsimp only
        rw [if_pos rfl]
        exact cwm_turn p (by omega) (each i H2 (by omega) (e1.trans e2))
      · obtain ⟨p1, p2, p3, p4, acc, ds, p5, p6, p7⟩ := p
        rw [Int.toNat_natCast] at p3 p7
        exact q L acc ds H' ⟨k, pk', p7⟩ (e2.trans p2) (p3.mono (Nat.add_le_add_left (Nat.mul_le_mul_left t hk) _)) p5 p6
/-! statements -/
variable {D : Ends} {tz : TS} {i : Nat}
theorem qm_asg (mk : Mok H m c n) (h : EvM m c te σ H n n1 P) (k : ∀ x d H1, P d → Kin H H1 → Mok H1 m c n1 → Dt H1 x d → tz D (σ.set i (some x)) H1) : tSeq (tAsg te (gName i)) tz D σ H := h H (Kin.refl _) mk _ fun x d H1 p e1 mk1 hx => k x d H1 p e1 mk1 hx
theorem sm_ret (mk : Mok H m c n) (h : EvM m c te σ H n n1 P) (k : ∀ x d H1, P d → Kin H H1 → Mok H1 m c n1 → Dt H1 x d → D.rt x H1) : tRet te D σ H := h H (Kin.refl _) mk _ fun x d H1 p e1 mk1 hx => k x d H1 p e1 mk1 hx
/-! digits -/
def Dg (size : Int) (lo hi : Nat) (d : PyData) : Prop := ∃ ns : List Int, d = intsD ns ∧ lo ≤ ns.length ∧ ns.length ≤ hi ∧ ∀ x ∈ ns, 0 ≤ x ∧ x < size
def IsRow (size : Int) (N M : Nat) (d : PyData) : Prop := ∃ bs rs : List Int, d = rowD bs rs ∧ bs.length ≤ N ∧ 1 ≤ rs.length ∧ rs.length ≤ M ∧ (∀ x ∈ bs, 0 ≤ x ∧ x < size) ∧ ∀ x ∈ rs, 0 ≤ x ∧ x < size
theorem each_ints {size : Int} : ∀ {ds : List PyData} {k : Nat}, Each (Below size) k ds → ∃ ns : List Int, ds = ns.map .int ∧ ns.length = k ∧ ∀ x ∈ ns, 0 ≤ x ∧ x < size
  | [], k, h => ⟨[], rfl, h.1, fun x hx => by cases hx⟩
  | d :: ds, k, h => by
    obtain ⟨h1, h2⟩ := h
    obtain ⟨ns, rfl, e2, e3⟩ := each_ints (ds := ds) (k := ds.length) ⟨rfl, fun d hd => h2 d (List.mem_cons_of_mem _ hd)⟩
    obtain ⟨z, rfl, z0, z1⟩ := h2 d List.mem_cons_self
    refine ⟨z :: ns, rfl, by rw [List.length_cons, e2]; exact h1, fun x hx => ?_⟩
    rcases List.mem_cons.mp hx with rfl | hx
    · exact ⟨z0, z1⟩
    · exact e3 x hx
theorem each_dg {size : Int} {ds : List PyData} {k lo hi : Nat} (h : Each (Below size) k ds) (h1 : lo ≤ k) (h2 : k ≤ hi) : Dg size lo hi (.tuple ds) := by
  obtain ⟨ns, rfl, e, r⟩ := each_ints h
  exact ⟨ns, rfl, by omega, by omega, r⟩
end
end K10
set_option Elab.async false
set_option linter.all false
set_option maxRecDepth 100000
set_option maxHeartbeats 4000000
namespace K10
open PySem PySem.Spec PyProof.Rows L2 Evl
theorem sq_kin {K : PySem.W.Frag} {H H' : Hp} {a : Addr} {xs : List V} (e : Kin H H') : SqL K H a xs → SqL K H' a xs
  | .inl (.inl h) => .inl (.inl (e _ _ h fun _ z => nomatch z))
  | .inl (.inr ⟨o, h⟩) => .inl (.inr ⟨o, e _ _ h fun _ z => nomatch z⟩)
  | .inr h => .inr h
theorem Below.nat {b : Nat} {d : PyData} : Below b d → ∃ k : Nat, d = .int k ∧ k < b := fun ⟨z, h, h0, h1⟩ => ⟨z.toNat, by rw [h]; congr 1; omega, by omega⟩
theorem rc_tk {H H' : Hp} {x : V} {d : PyData} (e : Kin H H') (h : Dt H x d) : Dt H' x d := h.tk (tk_kin e)
theorem em_zero {m c : Addr} {te : TE} {σ : L2.St} {H : Hp} {n n1 : Nat} {b z : Int} (h : EvM m c te σ H n n1 (Below b)) : EvM m c (tOp rEq te (tC (.int z))) σ H n n1 fun d => ∃ b, d = .bool b :=
  em_op h (em_of (d := .int z) (P := fun d => d = .int z) (fun H1 _ => ed_int ev_c) rfl) fun x y d e H1 p1 p2 hx hy => by
    obtain ⟨k, rfl, _⟩ := p1
    subst p2
    cases dt_int hx
    cases dt_int hy
    exact ⟨_, ⟨_, rfl⟩, ed_bool (ev_op (ev_var rfl) (ev_var rfl) (rv_eq rfl))⟩
end K10
set_option Elab.async false
set_option linter.all false
set_option maxRecDepth 100000
set_option maxHeartbeats 4000000
set_option Elab.async false
set_option linter.all false
set_option maxRecDepth 100000
set_option maxHeartbeats 4000000
namespace K10
open PySem PySem.Spec PyProof.Rows L2 Evl
/-! ### data that can be shown -/
structure Fine (n t : Nat) (d : PyData) : Prop where
  sh : d.showable = true
  nd : d.hasDict = false
  deep : d.depth ≤ t
  short : PyData.leavesShort 24 d = true
  bulk : d.bulk ≤ n
structure FineAll (n t : Nat) (ds : List PyData) : Prop where
  sh : PyData.showableAll ds = true
  nd : PyData.hasDictAll ds = false
  deep : PyData.depthAll ds ≤ t
  short : PyData.leavesShortAll 24 ds = true
  bulk : PyData.bulkAll ds ≤ n
theorem Fine.up {n t n' t' : Nat} {d : PyData} (h : Fine n t d) (hn : n ≤ n') (ht : t ≤ t') : Fine n' t' d := ⟨h.sh, h.nd, Nat.le_trans h.deep ht, h.short, Nat.le_trans h.bulk hn⟩
theorem FineAll.up {n t n' t' : Nat} {d : List PyData} (h : FineAll n t d) (hn : n ≤ n') (ht : t ≤ t') : FineAll n' t' d := ⟨h.sh, h.nd, Nat.le_trans h.deep ht, h.short, Nat.le_trans h.bulk hn⟩
theorem fa_nil : FineAll 0 0 [] := ⟨rfl, rfl, Nat.le_refl _, rfl, Nat.le_refl _⟩
theorem fa_cons {n t n' t' : Nat} {d : PyData} {ds : List PyData} (h : Fine n t d) (hs : FineAll n' t' ds) : FineAll (n + 1 + n') (max t t') (d :: ds) := by
  refine ⟨?_, ?_, ?_, ?_, ?_⟩
  · rw [PyData.showableAll.eq_2, h.sh, hs.sh]; rfl
  · rw [PyData.hasDictAll.eq_2, h.nd, hs.nd]; rfl
  · rw [PyData.depthAll.eq_2]
    have := h.deep
    have := hs.deep
    omega
  · rw [PyData.leavesShortAll.eq_2, h.short, hs.short]; rfl
  · rw [PyData.bulkAll.eq_2]
    have := h.bulk
    have := hs.bulk
    omega
theorem fa_each {n t : Nat} : ∀ {ds : List PyData}, (∀ d ∈ ds, Fine n t d) → FineAll ((n + 1) * ds.length) t ds
  | [], _ => fa_nil.up (Nat.zero_le _) (Nat.zero_le _)
  | d :: ds, h => (fa_cons (h d List.mem_cons_self) (fa_each fun e he => h e (List.mem_cons_of_mem _ he))).up (by rw [List.length_cons, Nat.mul_add]; omega) (by omega)
theorem f_tuple {n t : Nat} {ds : List PyData} (h : FineAll n t ds) : Fine n (t + 1) (.tuple ds) := ⟨h.sh, h.nd, Nat.succ_le_succ h.deep, h.short, h.bulk⟩
theorem f_list {n t : Nat} {ds : List PyData} (h : FineAll n t ds) : Fine n (t + 1) (.list ds) := ⟨h.sh, h.nd, Nat.succ_le_succ h.deep, h.short, h.bulk⟩
theorem f_int {i : Int} (h1 : -10000000000000000000 < i) (h2 : i < 10000000000000000000) : Fine 0 0 (.int i) := by
  have hn : i.natAbs < 10 ^ 19 := by omega
  refine ⟨?_, rfl, Nat.le_refl _, ?_, Nat.le_refl _⟩
  · rw [PyData.showable.eq_4]
    refine decide_eq_true ?_
    by_cases z : i.natAbs = 0
    · rw [z]
      decide
    · exact (Nat.log2_lt z).mpr (Nat.lt_of_lt_of_le hn (by decide +kernel))
  · rw [PyData.leavesShort.eq_3, PyData.shown_int]
    have e := int_text_length_le10 (k := 19) (by decide) hn
    have e2 := PySem.ofString_length (toString i)
    exact decide_eq_true (by omega)
section
variable {K : PySem.W.Frag} {σ : L2.St} {H H' : Hp} {te : TE} {ds : List PyData} {n t : Nat} {b : Bool}
theorem shown_small {d : PyData} (h : Fine n t d) (hn : n ≤ 100000) : d.shown.length ≤ sizeLine := by
  have := PyData.shown_le_bulk 24 (by decide) d h.short
  have := h.bulk
  have : sizeLine = 16777216 := rfl
  omega
theorem ev_showL (h : EvLd te σ H ds) (f : Fine n t (.list ds)) (hn : n ≤ 100000) (ht : t ≤ 60) : Ev (tCB (rShow K) (tCons te tNil)) σ H (.str (PyData.list ds).shown) := fun H1 e1 Q q =>
  h H1 e1 _ fun p xs H2 np e2 hp hx => ⟨.ref p, .list ds, rfl, dp_list hp hx, .inr (.inl ⟨ds, rfl⟩), f.sh, f.nd, by have := f.deep; omega, shown_small f hn, q H2 e2⟩
theorem ev_showT (h : EvD te σ H (.tuple ds)) (f : Fine n t (.tuple ds)) (hn : n ≤ 100000) (ht : t ≤ 60) : Ev (tCB (rShow K) (tCons te tNil)) σ H (.str (PyData.tuple ds).shown) := fun H1 e1 Q q =>
  h H1 e1 _ fun x H2 e2 hx => ⟨x, .tuple ds, rfl, hx.dp, .inr (.inr ⟨ds, rfl⟩), f.sh, f.nd, by have := f.deep; omega, shown_small f hn, q H2 e2⟩
end
end K10
set_option Elab.async false
set_option linter.all false
set_option maxRecDepth 100000
set_option maxHeartbeats 4000000
namespace K10
open PySem PySem.Spec PyProof.Rows L2 Evl
section
variable {K : PySem.W.Frag} {σ : L2.St} {H H' : Hp} {te tl tb : TE} {t : TT} {g : TG} {xs ys : List V} {ds es : List PyData} {n : Nat} {a : Addr} {D : Ends} {tz : TS}
theorem ev_showV {m t : Nat} (h : Ev te σ H (.ref a)) (hp : H a = some (.lst xs)) (all : DtAll H xs ds) (f : Fine m t (.list ds)) (hn : m ≤ 100000) (ht : t ≤ 60) : Ev (tCB (rShow K) (tCons te tNil)) σ H (.str (PyData.list ds).shown) := fun H1 e1 Q q =>
  h H1 e1 _ fun H2 e2 => ⟨.ref a, .list ds, rfl, dp_list ((e1.trans e2) _ _ hp) (all.tk (tk_ex (e1.trans e2))), .inr (.inl ⟨ds, rfl⟩), f.sh, f.nd, by have := f.deep; omega, shown_small f hn, q H2 e2⟩
theorem q_asgLd {i : Nat} (h : EvLd te σ H ds) (k : ∀ p xs H1, Ex H H1 → H1 p = some (.lst xs) → DtAll H1 xs ds → tz D (σ.set i (some (.ref p))) H1) : tSeq (tAsg te (gName i)) tz D σ H := h H (Ex.refl H) _ fun p xs H1 _ e1 hp all => k p xs H1 e1 hp all
theorem q_asgD {i : Nat} {d : PyData} (h : EvD te σ H d) (k : ∀ x H1, Ex H H1 → Dt H1 x d → tz D (σ.set i (some x)) H1) : tSeq (tAsg te (gName i)) tz D σ H := h H (Ex.refl H) _ fun x H1 e hx => k x H1 e hx
theorem q_unless {tu : TS} {b : Bool} (h : EvT t σ H b) (hb : b = false) (k : ∀ H1, Ex H H1 → tz D σ H1) : tSeq (tIfS t tu tNext) tz D σ H := q_when h (fun z => by rw [hb] at z; cases z) fun _ => k
theorem et_neS {s1 s2 : Str} {ta : TE} (ha : Ev ta σ H (.str s1)) (hb : Ev tb σ H (.str s2)) : EvT (tTest (tOp rNe ta tb)) σ H (!decide (s1 = s2)) := by
  refine et_is (et_test (ev_op ha hb (rv_ne rfl))) ?_
  by_cases h : s1 = s2
  · simp [h]
  · simp [h]
theorem neS {s1 s2 : Str} (h : s1 = s2) : (!decide (s1 = s2)) = false := by simp [h]
end
/-! told rows that are right, and such that are none -/
theorem f_ints {ns : List Int} {N : Nat} (h : ∀ x ∈ ns, 0 ≤ x ∧ x < 9) (hn : ns.length ≤ N) : Fine N 1 (intsD ns) :=
  (f_tuple (fa_each (n := 0) (t := 0) fun d hd => by
    obtain ⟨x, hx, rfl⟩ := List.mem_map.mp hd
    obtain ⟨h1, h2⟩ := h x hx
    exact f_int (by omega) (by omega))).up (by rw [List.length_map]; omega) (Nat.le_refl _)
end K10
set_option Elab.async false
set_option linter.all false
set_option maxRecDepth 100000
set_option maxHeartbeats 4000000
namespace K10
open PySem PySem.Spec PyProof.Rows L2 Evl
/-! ### a comprehension over a dict's keys, and a loop over them: the dict is locked meanwhile -/
/-- all but the one at D stands -/
def Lk (H HF : Hp) (D : Addr) : Prop := ∀ a o, a ≠ D → H a = some o → HF a = some o
theorem Lk.tup {H HF : Hp} {D : Addr} {kvs : List (List L2.Key × V)} (h : Lk H HF D) (hD : H D = some (.dT kvs)) : Tk H HF := fun a xs e => h a _ (fun z => by rw [z, hD] at e; cases e) e
end K10
set_option Elab.async false
set_option linter.all false
set_option maxRecDepth 100000
set_option maxHeartbeats 4000000
namespace K10
open PySem PySem.Spec PyProof.Rows L2 Evl
theorem Ok1.mono {P : Program} {w : World} {K : PySem.W.Frag} {mg : Str → Option Value} {base : Heap} {j k : Nat} {f : Addr} {fd : FuncData} {ps : List Str} {sp : Sp} (F : Ok1 P w K mg base j f fd ps sp) (h : j ≤ k) : Ok1 P w K mg base k f fd ps sp :=
  ⟨F.many, fun A outer s H us vs Q E guard room => F.go A outer s H us vs Q E guard (room.mono h)⟩
theorem fun_of {K : PySem.W.Frag} {x : Str} {st : Stmt} {f : Addr} {fd : FuncData} (F : FunD K x x (defArgs st) (defBody st) (defScope st) [] [] f fd) : Fun K x x st f fd := by
  obtain ⟨oc, od, dV, kV, doc, pm, an, cdv, ct, osl, e, lk, cd, hd, _⟩ := F.ex
  rcases hd with ⟨_, rfl⟩ | ⟨z, _⟩
  · exact ⟨⟨oc, od, kV, doc, pm, an, cdv, ct, osl, e, lk, cd⟩, F.kp⟩
  · exact absurd rfl z
def spLaw (K : PySem.W.Frag) : Sp := fun vs H Q _ => ∃ (a : Addr) (ns : List Int), vs = [.ref a] ∧ SqL K H a (ns.map V.int) ∧ ns.length ≤ 63 ∧ ∀ H', Q (.bl true) H'
theorem walk1E {l : PySem.W.OpenLaw} {n k : Nat} {q : Program} {loose : List Str} {XP : (Str → Option Value) → Heap → Prop} {YP : World → Heap → Prop} {d : DefRec} {x : Str}
    (most : l.most = some n) (few : n ≤ sizeLine) (plain : d.params.defaults = []) (room : Room k callerA)
    (F : ∀ (w : World) (mg : Str → Option Value) (fa : Addr) (h : Heap), YP w h → h.Ns mainGlobals mg → mg d.name = some (.ref fa) →
      ∃ (K : PySem.W.Frag) (fd : FuncData) (sp : Sp), K.In h ∧ (∀ (s : Shared) (u : Value), BindsTo s fd ⟨[u], []⟩ [(x, u)]) ∧
        (∀ (H : Hp) (a : Addr) (ns : List Int), ns.length ≤ n → Only H → SqL K H a (ns.map V.int) → sp [.ref a] H (fun v _ => v = .bl true) fun _ _ _ => False) ∧
        ∀ base : Heap, K.In base → base.Ns mainGlobals mg → Ok1 l.prog w K mg base k fa fd [x] sp) :
    PySem.W.WalkO q loose XP YP l.row.toRowW d [] (fun f vs => PySem.call f vs) := by
  refine Att.attach_call most plain ?_
  intro w s0 s1 mg mb fa o pm cd doc a vs ns G Y _ _ _ name obj nums len nogens
  obtain ⟨K, fd, sp, KX, bind, promise, each⟩ := F w mg fa _ Y G.T.g name
  exact law1 KX G.T.g G.T.b G.T.builtins G.T.nolimit nogens obj nums (Nat.le_trans len few) room each bind fun H only there => promise H a ns len only there
end K10
set_option Elab.async false
set_option linter.all false
set_option maxRecDepth 100000
set_option maxHeartbeats 4000000
namespace K10
open PySem PySem.Spec PyProof.Rows L2 Evl
/-! ### the text, by places -/
def topS (i : Nat) : Stmt := PySem.Challenge.pw_allendless_k49_numbers_of_rows.main.body.getD i (.Pass ⟨0, 0, 0, 0⟩)
abbrev sPower : Stmt := topS 2
abbrev sSumDg : Stmt := topS 4
abbrev sRatio : Stmt := topS 6
abbrev sSumOf : Stmt := topS 8
abbrev sValueOf : Stmt := topS 9
abbrev sRowOf : Stmt := topS 10
abbrev sBegun : Stmt := topS 12
abbrev sDraw : Stmt := topS 13
abbrev sOf : Stmt := topS 14
abbrev sSum : Stmt := topS 15
abbrev sPart : Stmt := topS 16
abbrev sLEntry : Stmt := topS 17
abbrev sLRowOf : Stmt := topS 18
abbrev sNumber : Stmt := topS 19
abbrev sRow : Stmt := topS 20
abbrev sGoes : Stmt := topS 21
abbrev sRight : Stmt := topS 22
abbrev sHand : Stmt := topS 23
abbrev sLaw : Stmt := topS 24
abbrev nPower : List Str := ["base", "exponent", "made"]
theorem scPower : FnScope nPower ["base", "exponent"] (defScope sPower) := ⟨rfl, rfl, rfl, by decide +kernel, rfl, by decide +kernel, by decide +kernel⟩
abbrev nSumDg : List Str := ["entries", "total", "digit"]
theorem scSumDg : FnScope nSumDg ["entries"] (defScope sSumDg) := ⟨rfl, rfl, rfl, by decide +kernel, rfl, by decide +kernel, by decide +kernel⟩
abbrev nRatio : List Str := ["p", "q", "common"]
theorem scRatio : FnScope nRatio ["p", "q"] (defScope sRatio) := ⟨rfl, rfl, rfl, by decide +kernel, rfl, by decide +kernel, by decide +kernel⟩
abbrev nSumOf : List Str := ["entries"]
theorem scSumOf : FnScope nSumOf ["entries"] (defScope sSumOf) := ⟨rfl, rfl, rfl, by decide +kernel, rfl, by decide +kernel, by decide +kernel⟩
abbrev nValueOf : List Str := ["row", "beginning", "around", "turn"]
theorem scValueOf : FnScope nValueOf ["row"] (defScope sValueOf) := ⟨rfl, rfl, rfl, by decide +kernel, rfl, by decide +kernel, by decide +kernel⟩
abbrev nRowOf : List Str := ["p", "q", "entries", "met", "digit"]
theorem scRowOf : FnScope nRowOf ["p", "q"] (defScope sRowOf) := ⟨rfl, rfl, rfl, by decide +kernel, rfl, by decide +kernel, by decide +kernel⟩
abbrev nBegun : List Str := ["script", "k", "cells", "cell", "great", "begun"]
theorem scBegun : FnScope nBegun ["script", "k"] (defScope sBegun) := ⟨rfl, rfl, rfl, by decide +kernel, rfl, by decide +kernel, by decide +kernel⟩
abbrev nDraw : List Str := ["m", "below", "found", "spot", "cells", "added", "cell", "blend"]
theorem scDraw : FnScope nDraw ["m", "below"] (defScope sDraw) := ⟨rfl, rfl, rfl, by decide +kernel, rfl, by decide +kernel, by decide +kernel⟩
abbrev nOf : List Str := ["m", "some"]
theorem scOf : FnScope nOf ["m", "some"] (defScope sOf) := ⟨rfl, rfl, rfl, by decide +kernel, rfl, by decide +kernel, by decide +kernel⟩
abbrev nSum : List Str := ["digits", "found", "d"]
theorem scSum : FnScope nSum ["digits"] (defScope sSum) := ⟨rfl, rfl, rfl, by decide +kernel, rfl, by decide +kernel, by decide +kernel⟩
abbrev nPart : List Str := ["a", "b", "one", "two"]
theorem scPart : FnScope nPart ["a", "b"] (defScope sPart) := ⟨rfl, rfl, rfl, by decide +kernel, rfl, by decide +kernel, by decide +kernel⟩
abbrev nLEntry : List Str := ["row", "i", "begun", "more"]
theorem scLEntry : FnScope nLEntry ["row", "i"] (defScope sLEntry) := ⟨rfl, rfl, rfl, by decide +kernel, rfl, by decide +kernel, by decide +kernel⟩
abbrev nLRowOf : List Str := ["p", "q", "met", "digits", "x", "turn", "digit"]
theorem scLRowOf : FnScope nLRowOf ["p", "q"] (defScope sLRowOf) := ⟨rfl, rfl, rfl, by decide +kernel, rfl, by decide +kernel, by decide +kernel⟩
abbrev nNumber : List Str := ["row", "begun", "more", "low", "high", "d"]
theorem scNumber : FnScope nNumber ["row"] (defScope sNumber) := ⟨rfl, rfl, rfl, by decide +kernel, rfl, by decide +kernel, by decide +kernel⟩
abbrev nRow : List Str := ["m", "begun", "k"]
theorem scRow : FnScope nRow ["m"] (defScope sRow) := ⟨rfl, rfl, rfl, by decide +kernel, rfl, by decide +kernel, by decide +kernel⟩
abbrev nGoes : List Str := ["one", "two", "apart", "i"]
theorem scGoes : FnScope nGoes ["one", "two"] (defScope sGoes) := ⟨rfl, rfl, rfl, by decide +kernel, rfl, by decide +kernel, by decide +kernel⟩
abbrev nRight : List Str := ["m", "one", "two", "q", "p", "row"]
theorem scRight : FnScope nRight ["m"] (defScope sRight) := ⟨rfl, rfl, rfl, by decide +kernel, rfl, by decide +kernel, by decide +kernel⟩
abbrev nHand : List Str := ["told"]
theorem scHand : FnScope nHand [] (defScope sHand) := ⟨rfl, rfl, rfl, by decide +kernel, rfl, by decide +kernel, by decide +kernel⟩
abbrev nLaw : List Str := ["script", "k"]
theorem scLaw : FnScope nLaw ["script"] (defScope sLaw) := ⟨rfl, rfl, rfl, by decide +kernel, rfl, by decide +kernel, by decide +kernel⟩
end K10
set_option Elab.async false
set_option linter.all false
set_option maxRecDepth 100000
set_option maxHeartbeats 4000000
namespace K10
open PySem PySem.Spec PyProof.Rows L2 Evl
def spBegn (K : PySem.W.Frag) : Sp := fun vs H Q _ => ∃ (a : Addr) (ns : List Int) (i : Int), vs = [.ref a, .int i] ∧ SqL K H a (ns.map V.int) ∧ ns.length ≤ 63 ∧ 0 ≤ i ∧ i ≤ 10 ∧
  ∀ (m c : Addr) (H' : Hp), Ex H H' → Mok H' m c 0 → Q (.ref m) H'
/-- one of some things -/
def spPick (K : PySem.W.Frag) : Sp := fun vs H Q _ => ∃ (m c a : Addr) (n : Nat) (xs : List V), vs = [.ref m, .ref a] ∧ SqL K H a xs ∧ xs ≠ [] ∧ xs.length ≤ 1000 ∧ Mok H m c n ∧ n + 1 < 1000000 ∧
  ∀ z H', z ∈ xs → Kin H H' → Mok H' m c (n + 1) → Q z H'
section
variable {P : Program} {w : World} {K : PySem.W.Frag} {mg : Str → Option Value} {base : Heap} {f f1 f2 : Addr} {fd fd1 fd2 : FuncData} {k : Nat}
theorem ok_draw (F : Fun K "_law_draw" "_law_draw" sDraw f fd) (m1 : mg "int" = none) (m2 : mg "len" = none) : FnOk P w K mg base CX0 (k + 1) f fd ["m", "below"] spDraw := by
  refine F.ok scDraw (fun vs H Q E h => ?_) (fun cdv A outer s H vs Q E hr h => ?_)
  · obtain ⟨m, c, b, n, rfl, _⟩ := h
    rfl
  · obtain ⟨m, c, b, n, rfl, ⟨l, sd, p, cs, hm, hc, full, p0, pn⟩, few, b1, b2, q⟩ := h
    refine ⟨_, pss_cons (ps_if (pt_cmpR op_gt (pe_dget (hu_of hr) (pv 0) pe_str (fun _ _ => rfl)) pe_int (nomark _))
        (pss_cons (ps_set (i := 2) scDraw.nd rfl (.inl rfl) (pe_op op_mod (pe_callTy call_int1 (by rfl) m1 (by decide +kernel) (pa_cons (pe_dget (hu_of hr) (pv 0) pe_str (fun _ _ => rfl)) pa_nil)) (pv 1)))
        (pss_cons (ps_dput (hu_of hr) (pv 0) pe_str (pe_op op_fdivN (pe_dget (hu_of hr) (pv 0) pe_str (fun _ _ => rfl)) (pv 1)) rfl)
        (pss_one (ps_ret (pv 2))))) pss_nil)
      (pss_cons (ps_set (i := 3) scDraw.nd rfl (.inl rfl) (pe_dget (hu_of hr) (pv 0) pe_str (fun _ _ => rfl)))
      (pss_cons (ps_dput (hu_of hr) (pv 0) pe_str (pe_op op_add (pv 3) pe_int) rfl)
      (pss_cons (ps_par (i := 4) (j := 5) (by rfl) scDraw.nd rfl rfl (by decide) rfl rfl (pa_cons (pe_dget (hu_of hr) (pv 0) pe_str (fun _ _ => rfl)) (pa_cons (pe_op op_add (pe_dget (hu_of hr) (pv 0) pe_str (fun _ _ => rfl)) (pe_op op_mul (pe_op op_mul pe_int (pv 3)) (pv 3))) pa_nil)) (by rfl))
      (pss_cons (ps_set (i := 6) scDraw.nd rfl (.inl rfl) (pe_ix ix_list (pv 4) (pe_op op_mod (pe_callTy call_int1 (by rfl) m1 (by decide +kernel) (pa_cons (pv 3) pa_nil)) (pe_callB call_len_seq (by rfl) m2 (by decide +kernel) (pa_cons (pv 4) pa_nil))) (fun _ _ => rfl)))
      (pss_cons (ps_set (i := 7) scDraw.nd rfl (.inl rfl) (pe_op op_mod (pe_callTy call_int1 (by rfl) m1 (by decide +kernel) (pa_cons (pe_op op_add (pe_op op_mul (pv 6) (pe_op op_add (pe_op op_mul pe_int (pv 3)) pe_int)) (pv 5)) pa_nil)) pe_int))
      (pss_cons (ps_set (i := 7) scDraw.nd rfl (.inl rfl) (pe_op op_mod (pe_callTy call_int1 (by rfl) m1 (by decide +kernel) (pa_cons (pe_op op_add (pe_op op_add (pe_op op_mul (pv 7) (pv 7)) (pe_op op_mul pe_int (pv 3))) (pe_dget (hu_of hr) (pv 0) pe_str (fun _ _ => rfl))) pa_nil)) pe_int))
      (pss_one (ps_ret (pe_op op_mod (pe_op op_fdiv (pe_op op_mod (pe_callTy call_int1 (by rfl) m1 (by decide +kernel) (pa_cons (pe_op op_add (pe_op op_mul (pv 7) pe_int) (pv 3)) pa_nil)) pe_int) pe_int) (pv 1)))))))))), ?_⟩
    refine q_when (b := decide (0 < l)) (et_is (et_test (ev_op (ev_kget (ev_var rfl) hm st_left) ev_c rv_I0)) ?_) (fun hb H1 e1 => ?_) (fun hb H1 e1 => ?_)
    · by_cases h : 0 < l
      · rw [decide_eq_true h]
      · rw [decide_eq_false h]
    · refine q_asg (ev_op (rc_int (ev_kget (ev_var rfl) (e1 _ _ hm) st_left)) (ev_var rfl) (rv_I (by omega))) fun H2 e2 => ?_
      have e12 := e1.trans e2
      refine q_kput (ev_op (ev_kget (ev_var rfl) (e12 _ _ hm) st_left) (ev_var rfl) (rv_I ⟨by omega, by omega⟩)) (ev_var rfl) (e12 _ _ hm) (by show (4 : Nat) ≤ 100; decide) fun H3 e3 => ?_
      have e13 := e12.trans e3
      refine s_ret (ev_var rfl) fun H4 e4 => ?_
      rw [put_left] at e4
      have cm : c ≠ m := ne_of hc hm fun z => nomatch z
      refine q _ H4 (mod_lt b1).1 (mod_lt b1).2 (((kin_ex e13).trans (kin_dk (e13 _ _ hm))).trans (kin_ex e4)) ⟨_, sd, p, cs, e4 _ _ upd_same, e4 _ _ ?_, full, p0, by omega⟩
      rw [upd_ne cm]
      exact e13 _ _ hc
    · refine q_asg (ev_kget (ev_var rfl) (e1 _ _ hm) st_spot) fun H2 e2 => ?_
      have e12 := e1.trans e2
      refine q_kput (ev_op (ev_var rfl) ev_c rv_I0) (ev_var rfl) (e12 _ _ hm) (by show (4 : Nat) ≤ 100; decide) fun H3 e3 => ?_
      have e13 := e12.trans e3
      rw [put_spot]
      have cm : c ≠ m := ne_of hc hm fun z => nomatch z
      have hm4 : upd H3 m (.dK (stK l sd c (p + 1))) m = some (.dK (stK l sd c (p + 1))) := upd_same
      have hc4 : upd H3 m (.dK (stK l sd c (p + 1))) c = some (.lst (cs.map V.int)) := by rw [upd_ne cm]; exact e13 _ _ hc
      have kin4 : Kin H (upd H3 m (.dK (stK l sd c (p + 1)))) := (kin_ex e13).trans (kin_dk (e13 _ _ hm))
      generalize upd H3 m (.dK (stK l sd c (p + 1))) = H4 at hm4 hc4 kin4 ⊢
      have pb : -2 ^ 64 < p ∧ p < 2 ^ 64 := by omega
      refine q_par (ea_cons (ev_kget (ev_var rfl) hm4 st_cells) (ea_cons (ev_op (ev_kget (ev_var rfl) hm4 st_seed) (ev_op (ev_op ev_c (ev_var rfl) (rv_I (.inr pb))) (ev_var rfl) (rv_I (.inr pb))) rv_I0) ea_nil)) fun H5 e5 => ?_
      have hm5 := e5 _ _ hm4
      have hc5 := e5 _ _ hc4
      have lc : 0 < cs.length := List.length_pos_iff.mpr full
      obtain ⟨j, hj, lt⟩ : ∃ j : Nat, p % ((cs.map V.int).length : Int) = (j : Int) ∧ j < cs.length := by
        rw [List.length_map]
        obtain ⟨h1, h2⟩ := mod_lt (a := p) (b := (cs.length : Int)) (by omega)
        exact ⟨(p % (cs.length : Int)).toNat, by omega, by omega⟩
      refine q_asg (v := .int cs[j]) (ev_op (ev_var rfl) (ev_op (rc_int (ev_var rfl)) (ev_len (ev_var rfl) (SqL.of hc5)) (rv_I (by rw [List.length_map]; show (0 : Int) < _; omega))) (rv_ixL (SqL.of hc5) ?_)) fun H6 e6 => ?_
      · rw [hj]
        exact atI_nat (by rw [List.getElem?_map, List.getElem?_eq_getElem lt]; rfl)
      generalize cs[j] = cell
      refine q_asg (ev_op (rc_int (ev_op (ev_op (ev_var rfl) (ev_op (ev_op ev_c (ev_var rfl) (rv_I (.inr pb))) ev_c rv_I0) (rv_I (.inr (by omega)))) (ev_var rfl) rv_I0)) ev_c (rv_I (by decide))) fun H7 e7 => ?_
      obtain ⟨b0, b3⟩ := mod_lt (a := cell * (2 * p + 3) + (sd + 40503 * p * p)) (b := 2147483647) (by decide)
      refine q_asg (ev_op (rc_int (ev_op (ev_op (ev_op (ev_var rfl) (ev_var rfl) (rv_I (.inr (by omega)))) (ev_op ev_c (ev_var rfl) (rv_I (.inr pb))) rv_I0) (ev_kget (ev_var rfl) (e7 _ _ (e6 _ _ hm5)) st_seed) rv_I0)) ev_c (rv_I (by decide))) fun H8 e8 => ?_
      refine s_ret (ev_op (ev_op (ev_op (rc_int (ev_op (ev_op (ev_var rfl) ev_c (rv_I (.inr (by decide)))) (ev_var rfl) rv_I0)) ev_c (rv_I (by decide))) ev_c (rv_I (by unfold CDiv; omega))) (ev_var rfl) (rv_I (by omega))) fun H9 e9 => ?_
      have e59 := ((((e5.trans e6).trans e7).trans e8).trans e9)
      exact q _ H9 (mod_lt b1).1 (mod_lt b1).2 (kin4.trans (kin_ex e59)) ⟨l, sd, p + 1, cs, e59 _ _ hm4, e59 _ _ hc4, full, by omega, by omega⟩
theorem ok_begun (F : Fun K "_law_begun" "_law_begun" sBegun f fd) (m1 : mg "int" = none) (m2 : mg "len" = none) : FnOk P w K mg base CX0 (k + 1) f fd ["script", "k"] (spBegn K) := by
  refine F.ok scBegun (fun vs H Q E h => ?_) (fun cdv A outer s H vs Q E hr h => ?_)
  · obtain ⟨a, ns, i, rfl, _⟩ := h
    rfl
  · obtain ⟨a, ns, i, rfl, hl, few, i0, i1, q⟩ := h
    refine ⟨_, pss_cons (ps_set (i := 2) scBegun.nd rfl (.inl rfl) (pe_op op_cat (pe_slice sl_list (pv 0) (po_some (pv 1)) po_none) (pe_slice sl_list (pv 0) po_none (po_some (pv 1)))))
      (pss_cons (ps_setLc (i := 4) (own := [("cell", 3)]) (g := gName 3) rfl scBegun.nd rfl rfl (by rfl) (pi_list (pv 0)) (blkOk_by (N := ["script", "k", "cells", "cell", "great", "begun"]) (sc := defScope sBegun) (by decide +kernel))
        (fun _ _ _ _ _ => pg_name (i := 3) scBegun.nd rfl (Or.inl rfl)) (fun _ _ _ _ _ => pts_one (pt_cmpR op_ge (pv 3) (pe_op op_pow pe_int pe_int) (nomark _))) (fun _ _ _ _ _ => pv 3))
      (pss_cons (ps_set (i := 5) scBegun.nd rfl (.inl rfl) (pe_op op_add pe_int (pe_op op_mul pe_int (pv 1))))
      (pss_cons (ps_for PassesOwn.never rfl (pi_list (pv 2)) (pg_name (i := 3) scBegun.nd rfl (Or.inl rfl))
        (pss_one (ps_set (i := 5) scBegun.nd rfl (.inl rfl) (pe_op op_mod (pe_callTy call_int1 (by rfl) m1 (by decide +kernel) (pa_cons (pe_op op_add (pe_op op_mul (pv 5) pe_int) (pv 3)) pa_nil)) pe_int))))
      (pss_one (ps_ret (pe_disp (pps_cons pe_str (pe_ifExp (pt_cmpR op_lt (pv 1) (pe_callB call_len_seq (by rfl) m2 (by decide +kernel) (pa_cons (pv 4) pa_nil)) (nomark _)) (pe_ix ix_list (pv 4) (pv 1) (fun _ _ => rfl)) pe_int) (pps_cons pe_str (pv 5) (pps_cons pe_str (pe_op op_cat (pv 2) (pe_lst (pa_cons (pe_op op_add (pe_op op_mul pe_int (pv 1)) pe_int) pa_nil))) (pps_cons pe_str pe_int pps_nil)))) rfl rfl (by decide) (by decide))))))), ?_⟩
    have ii := ints_map ns
    have fx : (ns.map V.int).length ≤ 63 := by rw [List.length_map]; exact few
    have cl1 := cut_len (xs := ns.map V.int) (some i) none
    have cl2 := cut_len (xs := ns.map V.int) none (some i)
    refine q_asgL (el_cat (el_sl (ev_var rfl) (eo_some (ev_var rfl)) eo_none hl) (el_sl (ev_var rfl) eo_none (eo_some (ev_var rfl)) hl) (by omega)) fun pc H1 nc e1 hc => ?_
    have ic : Ints (cutV (ns.map V.int) (some i) none ++ cutV (ns.map V.int) none (some i)) := ints_cat (ints_cut ii) (ints_cut ii)
    have lc : (cutV (ns.map V.int) (some i) none ++ cutV (ns.map V.int) none (some i)).length ≤ 126 := by rw [List.length_append]; omega
    generalize cutV (ns.map V.int) (some i) none ++ cutV (ns.map V.int) none (some i) = cells at hc ic lc
    refine q_asgL (el_lcL (fun j => decide (10 ^ 18 ≤ ns.getD j 0)) (fun j => .int (ns.getD j 0)) (ev_var rfl) (ex_l e1 hl) (by omega) (fun _ => rfl) (fun j x H2 e2 hx => ?_) (fun j x H2 e2 hx _ => ?_)) fun pg H2 ng e2 hg => ?_
    · obtain ⟨c, hc', rfl⟩ := map_at hx
      rw [getD_at hc']
      refine et_is (et_test (ev_op (ev_var rfl) (ev_op ev_c ev_c (rv_I (by unfold CPow; decide))) rv_I0)) ?_
      rfl
    · obtain ⟨c, hc', rfl⟩ := map_at hx
      rw [getD_at hc']
      exact ev_var rfl
    have ig : Ints (given (ns.map V.int).length (fun j => decide (10 ^ 18 ≤ ns.getD j 0)) (fun j => .int (ns.getD j 0))) := ⟨((List.range (ns.map V.int).length).filter fun j => decide (10 ^ 18 ≤ ns.getD j 0)).map fun j => ns.getD j 0, by unfold given; rw [List.map_map]; rfl⟩
    generalize given (ns.map V.int).length (fun j => decide (10 ^ 18 ≤ ns.getD j 0)) (fun j => .int (ns.getD j 0)) = great at hg ig
    refine q_asg (ev_op ev_c (ev_op ev_c (ev_var rfl) (rv_I (.inl (by decide)))) rv_I0) fun H3 e3 => ?_
    have hc3 := e3 _ _ (e2 _ _ hc)
    refine q_forLn (ev_var rfl) (SqL.of hc3) (fun j σ' H' => Ex H3 H' ∧ ∃ x z, σ' = [some (.ref a), some (.int i), some (.ref pc), x, some (.ref pg), some (.int z)] ∧ -2 ^ 64 < z ∧ z < 2 ^ 64) (fun H4 e4 => ⟨e4, none, 61 + 10 * i, rfl, by omega, by omega⟩) (fun j σ' H' _ p => SqL.of (p.1 _ _ hc3)) (fun j x σ' H' hx p => ?_) (fun σ' H' p => ?_)
    · obtain ⟨e4, y, z, rfl, z1, z2⟩ := p
      obtain ⟨cs, rfl⟩ := ic
      obtain ⟨c, hc', rfl⟩ := map_at hx
      refine s_asg (ev_op (rc_int (ev_op (ev_op (ev_var rfl) ev_c (rv_I (.inl ⟨z1, z2⟩))) (ev_var rfl) rv_I0)) ev_c (rv_I (by decide))) fun H5 e5 => ?_
      obtain ⟨b0, b3⟩ := mod_lt (a := z * 48271 + c) (b := 2147483647) (by decide)
      exact ⟨e4.trans e5, _, _, rfl, by omega, by omega⟩
    · obtain ⟨e4, y, z, rfl, z1, z2⟩ := p
      have hg4 := e4 _ _ (e3 _ _ hg)
      have hc4 := e4 _ _ hc3
      obtain ⟨l, hl⟩ : ∃ l : Int, Ev (tIf (tTest (tOp (rI0 fun i j => V.bl (decide (i < j))) (tVar 1) (tCB (rLenS K) (tCons (tVar 4) tNil)))) (tOp (rIxL K) (tVar 4) (tVar 1)) (tC (.int 0))) [some (.ref a), some (.int i), some (.ref pc), y, some (.ref pg), some (.int z)] H' (.int l) := by
        by_cases h : i < (great.length : Int)
        · obtain ⟨z, hz⟩ := ints_get ig (i := i.toNat) (by omega)
          refine ⟨z, ev_if (b := true) (et_is (et_test (ev_op (ev_var rfl) (ev_len (ev_var rfl) (SqL.of hg4)) rv_I0)) (by rw [decide_eq_true h])) (fun _ => ev_op (ev_var rfl) (ev_var rfl) (rv_ixL (SqL.of hg4) ?_)) fun z => by cases z⟩
          have ei : i = (i.toNat : Int) := by omega
          rw [ei]
          exact atI_nat hz
        · exact ⟨0, ev_if (b := false) (et_is (et_test (ev_op (ev_var rfl) (ev_len (ev_var rfl) (SqL.of hg4)) rv_I0)) (by rw [decide_eq_false h])) (fun z => by cases z) fun _ => ev_c⟩
      intro p hp
      have x5 : Ex H' (upd H' p (.dK [])) := Ex.new hp
      show tC (.str "left") _ _ _
      refine hl _ x5 _ fun H5 e5 => ?_
      show tC (.str "seed") _ _ _
      refine ⟨_, rfl, ?_⟩
      show tC (.str "cells") _ _ _
      refine el_cat1 (ev_var rfl) (e5 _ _ (x5 _ _ hc4)) (el_lst (ea_cons (ev_op (ev_op ev_c (ev_var rfl) (rv_I (.inl (by decide)))) ev_c rv_I0) ea_nil) (by show (1 : Nat) ≤ 100000; decide)) (by show cells.length + 1 ≤ 100000; omega) _ (Ex.refl _) _ fun pl H6 nl e6 hl6 => ?_
      refine ⟨e6 _ _ (e5 _ _ upd_same), [(Sum.inr "left", .int l), (Sum.inr "seed", .int z), (Sum.inr "cells", .ref pl), (Sum.inr "spot", .int 0)], rfl, by show (4 : Nat) ≤ 15; decide, ?_⟩
      have all : Ex H H' := (e1.trans e2).trans (e3.trans e4)
      have npl : pl ≠ p := fun e => by
        rw [e] at nl
        rw [e5 _ _ upd_same] at nl
        cases nl
      obtain ⟨cs, rfl⟩ := ic
      refine q p pl _ (all.trans (Ex.mut (x5.trans (e5.trans e6)) hp)) ⟨l, z, 0, cs ++ [43 * i + 19], upd_same, ?_, by simp, Int.le_refl _, Int.le_refl _⟩
      rw [upd_ne npl, hl6, List.map_append]
      rfl
theorem ok_of (F : Fun K "_law_of" "_law_of" sOf f fd) (m2 : mg "len" = none)
    (G1 : FnOk P w K mg base CX0 k f1 fd1 ["m", "below"] spDraw) (g1 : mg "_law_draw" = some (.ref f1)) (kp1 : PySem.W.keepIn K (.ref f1) = true) (b1 : Binds K fd1 ["m", "below"] []) :
    FnOk P w K mg base CX0 (k + 1) f fd ["m", "some"] (spPick K) := by
  refine F.ok scOf (fun vs H Q E h => ?_) (fun cdv A outer s H vs Q E hr h => ?_)
  · obtain ⟨m, c, a, n, ns, rfl, _⟩ := h
    rfl
  · obtain ⟨m, c, a, n, xs, rfl, hl, full, few, mk, nn, q⟩ := h
    refine ⟨_, pss_one (ps_ret (pe_ix ix_list (pv 1) (pe_call G1 hr (by rfl) g1 kp1 b1 .nil pass0 (pa_cons (pv 0) (pa_cons (pe_callB call_len_seq (by rfl) m2 (by decide +kernel) (pa_cons (pv 1) pa_nil)) pa_nil))) (fun _ _ => rfl))), ?_⟩
    have lf : 0 < xs.length := List.length_pos_iff.mpr full
    refine ⟨_, rfl, ?_⟩
    refine em_draw (b := (xs.length : Int)) rfl (fun H1 e1 => ?_) (by omega) (by omega) (by omega) H (Kin.refl _) mk _ fun x d H2 pd e2 mk2 hx => ?_
    · exact ev_len (ev_var rfl) (sq_kin e1 hl)
    · obtain ⟨z, rfl, z0, z1⟩ := pd
      cases dt_int hx
      obtain ⟨j, rfl⟩ : ∃ j : Nat, z = j := ⟨z.toNat, by omega⟩
      have lt : j < xs.length := by omega
      exact ⟨a, xs, (j : Int), xs[j], rfl, rfl, sq_kin e2 hl, atI_nat (List.getElem?_eq_getElem lt), q _ _ (List.getElem_mem lt) e2 mk2⟩
end
end K10
set_option Elab.async false
set_option linter.all false
set_option maxRecDepth 100000
set_option maxHeartbeats 1000000
namespace K10
open PySem PySem.Spec PyProof.Rows L2 Evl
/-! ### the program: powers, sums, fractions, the number of a row -/
def okPower (ds : List PyData) (d : PyData) : Prop := ∃ e : Nat, ds = [.int 2, .int e] ∧ e ≤ 9000 ∧ d = .int (2 ^ e)
def okSumD (ds : List PyData) (d : PyData) : Prop := ∃ l : List Int, ds = [intsD l] ∧ l.length ≤ 40000 ∧ d = .int (R49.sumD l)
def okRatio (ds : List PyData) (d : PyData) : Prop := ∃ p q : Int, ds = [.int p, .int q] ∧ 0 < q ∧ q.natAbs < 2 ^ 8999 ∧ d = intsD [(R49.partI p q).1, (R49.partI p q).2]
def numD (b r : List Int) : PyData := intsD [(R49.partI (R49.num b r) (R49.den b r)).1, (R49.partI (R49.num b r) (R49.den b r)).2]
def okValue (ds : List PyData) (d : PyData) : Prop := ∃ b r : List Int, ds = [rowD b r] ∧ R49.Dig b ∧ R49.Dig r ∧ 0 < r.length ∧ b.length + r.length ≤ 8900 ∧ d = numD b r
theorem et_truI {K : PySem.W.Frag} {te : TE} {σ : L2.St} {H : Hp} {i : Int} (h : Ev te σ H (.int i)) : EvT (fun σ H Q => te σ H fun x H' => ∃ k, TruV K x H' k ∧ Q k H') σ H (i != 0) := fun H1 e _ q =>
  h H1 e _ fun H2 e2 => ⟨i != 0, rfl, q H2 e2⟩
theorem wide_nat {c e : Nat} (h : c ≤ 2 ^ e) : ((c : Nat) : Int).natAbs < 2 ^ (e + 1) := by
  rw [Int.natAbs_natCast, Nat.pow_succ]
  have : 0 < 2 ^ e := Nat.pow_pos (by decide)
  omega
section
variable {P : Program} {w : World} {K : PySem.W.Frag} {mg : Str → Option Value} {base0 : Heap} {f f1 f2 f3 : Addr} {fd fd1 fd2 fd3 : FuncData} {k : Nat}
theorem ok_power (F : Fun K "power" "power" sPower f fd) : FnOk P w K mg base0 CX0 (k + 1) f fd ["base", "exponent"] (spD okPower) := by
  refine F.ok scPower (fun vs H Q E h => ?_) (fun cdv A outer s H vs Q E hr h => ?_)
  · obtain ⟨ds, d, all, ⟨e, rfl, _⟩, _⟩ := h
    exact all.len
  · obtain ⟨ds, d, all, ⟨e, rfl, e9, rfl⟩, k⟩ := h
    obtain ⟨x, y, rfl, hx, hy⟩ := dts2 all
    cases dt_int hx
    cases dt_int hy
    refine ⟨_, pss_cons (ps_set (i := 2) scPower.nd rfl (.inl rfl) pe_int)
      (pss_cons (ps_while PassesOwn.never (pt_cmpR op_gt (pv 1) pe_int (nomark _))
        (pss_cons (ps_if (pt_truth (pe_op op_odd (pv 1) pe_int) (by intro _; rfl)) (pss_one (ps_set (i := 2) scPower.nd rfl (.inl rfl) (pe_op op_mulW (pv 2) (pv 0)))) pss_nil)
        (pss_cons (ps_set (i := 0) scPower.nd rfl (.inl rfl) (pe_op op_mulW (pv 0) (pv 0)))
        (pss_one (ps_aug (i := 1) scPower.nd rfl (.inl rfl) pe_int iop_halfI)))))
      (pss_one (ps_ret (pv 2)))), ?_⟩
    refine q_asg (D := { nx := _, rt := _ }) ev_c fun H1 e1 => ?_
    refine q_while (fun m σ' H' => ∃ c x md : Nat, σ' = [some (.int c), some (.int x), some (.int md)] ∧ md * c ^ x = 2 ^ e ∧ 1 ≤ c ∧ 1 ≤ md ∧ Ex H H' ∧ m = x) e ⟨2, e, 1, rfl, by rw [Nat.one_mul], by decide, Nat.le_refl _, e1, rfl⟩ fun m σ' H' inv => ?_
    obtain ⟨c, x, md, rfl, eq, c1, md1, e2, hm⟩ := inv
    obtain rfl : x = m := hm.symm
    refine ⟨decide (0 < (x : Int)), et_test (ev_op (ev_var rfl) ev_c rv_I0), fun hb H2 e3 => ?_, fun hb H2 e3 => ?_⟩
    · have x0 : 0 < x := by have := of_decide_eq_true hb; omega
      have cle : c ≤ 2 ^ e := by
        have h1 : c ≤ c ^ x := Nat.le_self_pow (by omega) c
        have h2 : c ^ x ≤ md * c ^ x := Nat.le_mul_of_pos_left _ md1
        omega
      have mle : md ≤ 2 ^ e := by
        have h1 : md ≤ md * c ^ x := Nat.le_mul_of_pos_right _ (Nat.pow_pos c1)
        omega
      have wcc : CMulW (c : Int) (c : Int) := wide_mul (wide_nat cle) (wide_nat cle) (by omega) (by omega) (by omega)
      have wmc : CMulW (md : Int) (c : Int) := wide_mul (wide_nat mle) (wide_nat cle) (by omega) (by omega) (by omega)
      refine ⟨fun σ2 H3 => ∃ md2 : Nat, σ2 = [some (.int ((c * c : Nat) : Int)), some (.int ((x / 2 : Nat) : Int)), some (.int (md2 : Int))] ∧ md2 * (c * c) ^ (x / 2) = 2 ^ e ∧ 1 ≤ md2 ∧ Ex H H3, fun σ2 H3 ⟨md2, h1, h2, h3, h4⟩ => ⟨x / 2, by omega, c * c, x / 2, md2, h1, h2, Nat.mul_pos c1 c1, h3, h4, rfl⟩, ?_⟩
      have rest : ∀ (md2 : Nat) (H3 : Hp), md2 * (c * c) ^ (x / 2) = 2 ^ e → 1 ≤ md2 → Ex H H3 → tSeq (tAsg (tOp (rI CMulW fun i j => .int (i * j)) (tVar 0) (tVar 0)) (gName 0)) (tAug 1 (tC (.int 1)) fun x y H Q => ∃ i : Int, x = .int i ∧ y = .int 1 ∧ Q (.int (i / 2)) H)
          { nx := fun σ2 H3 => ∃ md2 : Nat, σ2 = [some (.int ((c * c : Nat) : Int)), some (.int ((x / 2 : Nat) : Int)), some (.int (md2 : Int))] ∧ md2 * (c * c) ^ (x / 2) = 2 ^ e ∧ 1 ≤ md2 ∧ Ex H H3, rt := fun v H' => Q v H', bk := fun σ' H' => tRet (tVar 2) { nx := fun x H' => Q V.non H', rt := Q } σ' H',
            ct := fun σ2 H3 => ∃ md2 : Nat, σ2 = [some (.int ((c * c : Nat) : Int)), some (.int ((x / 2 : Nat) : Int)), some (.int (md2 : Int))] ∧ md2 * (c * c) ^ (x / 2) = 2 ^ e ∧ 1 ≤ md2 ∧ Ex H H3 } [some (.int (c : Int)), some (.int (x : Int)), some (.int (md2 : Int))] H3 := by
        intro md2 H3 eq2 m1 e4
        refine q_asg (D := { nx := _, rt := _, bk := _, ct := _ }) (v := .int ((c * c : Nat) : Int)) (ev_is (ev_op (ev_var rfl) (ev_var rfl) (rv_I wcc)) (by rw [Int.natCast_mul])) fun H4 e5 => ?_
        refine ⟨_, rfl, (x : Int), rfl, rfl, md2, ?_, eq2, m1, e4.trans e5⟩
        have : (x : Int) / 2 = ((x / 2 : Nat) : Int) := by omega
        rw [this]
        rfl
      have sq : (c * c) ^ (x / 2) = c ^ (2 * (x / 2)) := by rw [Nat.pow_mul, Nat.pow_two]
      refine q_when (D := { nx := _, rt := _, bk := _, ct := _ }) (b := ((x % 2 : Nat) : Int) != 0) (et_truI fun H3 e4 Q' q' => ⟨_, rfl, x, rfl, rfl, q' H3 (Ex.refl _)⟩) (fun hb2 H3 e4 => ?_) (fun hb2 H3 e4 => ?_)
      · have odd : x % 2 = 1 := by
          have : ((x % 2 : Nat) : Int) ≠ 0 := by simpa using hb2
          omega
        refine s_asg (D := { nx := _, rt := _, bk := _, ct := _ }) (v := .int ((md * c : Nat) : Int)) (ev_is (ev_op (ev_var rfl) (ev_var rfl) (rv_I wmc)) (by rw [Int.natCast_mul])) fun H4 e5 => ?_
        refine rest (md * c) H4 ?_ (Nat.mul_pos md1 c1) (((e2.trans e3).trans e4).trans e5)
        rw [sq, ← eq, Nat.mul_assoc, ← Nat.pow_succ', show (2 * (x / 2)).succ = x by omega]
      · have even : x % 2 = 0 := by
          have : ¬ ((x % 2 : Nat) : Int) ≠ 0 := by simpa using hb2
          omega
        refine rest md H3 ?_ md1 ((e2.trans e3).trans e4)
        rw [sq, ← eq, show 2 * (x / 2) = x by omega]
    · have x0 : x = 0 := by have := of_decide_eq_false hb; omega
      subst x0
      rw [Nat.pow_zero, Nat.mul_one] at eq
      refine s_ret (ev_var rfl) fun H3 e4 => k _ H3 ((e2.trans e3).trans e4) ?_
      have ec : (md : Int) = 2 ^ e := by
        rw [eq, Int.natCast_pow]
        rfl
      rw [ec]
      exact .int _
/-- both loops that sum digits -/
theorem sum_loop {K : PySem.W.Frag} {H : Hp} {tv : V} {l : List Int} {Q : VK} (hx : Dt H tv (intsD l)) (k : ∀ x H', Ex H H' → Dt H' x (.int (R49.sumD l)) → Q x H') :
    tSeq (tAsg (tC (.int 0)) (gName 1)) (tSeq (tFor (iTup K (tVar 0)) (gName 2) (tAsg (tOp (rI0 fun i j => .int (i - j)) (tOp (rI0 fun i j => .int (i + j)) (tOp (rI CMul fun i j => .int (i * j)) (tC (.int 2)) (tVar 1)) (tVar 2)) (tC (.int 1))) (gName 1))) (tRet (tVar 1)))
      { nx := fun _ H' => Q .non H', rt := Q } [some tv, none, none] H := by
  obtain ⟨a, xs, rfl, ha, all⟩ := dt_tup hx
  cases dts_ints all
  refine q_asg (D := { nx := _, rt := _ }) ev_c fun H1 e1 => ?_
  refine q_forT (D := { nx := _, rt := _ }) (ev_var rfl) (SqT.of (e1 _ _ ha)) (fun i σ' H' => Ex H H' ∧ ∃ z, σ' = [some (.ref a), some (.int (R49.sumD (l.take i))), z]) (fun H2 e2 => ⟨e1.trans e2, none, rfl⟩) (fun i σ' H' _ p => SqT.of (p.1 _ _ ha)) (fun i x σ' H' hi p => ?_) (fun σ' H' p => ?_)
  · obtain ⟨e2, z, rfl⟩ := p
    obtain ⟨d, hd, rfl⟩ := map_at hi
    have lt : i < l.length := (List.getElem?_eq_some_iff.mp hd).1
    have hs : R49.sumD (l.take (i + 1)) = 2 * R49.sumD (l.take i) + d - 1 := by
      rw [List.take_add_one, hd, Option.toList_some, R49.sumD_snoc]
    refine s_asg (D := { nx := _, rt := _, bk := _, ct := _ }) (v := .int (R49.sumD (l.take (i + 1)))) (ev_is (ev_op (ev_op (ev_op ev_c (ev_var rfl) (rv_I (.inl (by decide)))) (ev_var rfl) rv_I0) ev_c rv_I0) (by rw [hs])) fun H2 e3 => ⟨e2.trans e3, _, rfl⟩
  · obtain ⟨e2, z, rfl⟩ := p
    rw [List.length_map, List.take_length]
    exact s_ret (ev_var rfl) fun H2 e3 => k _ H2 (e2.trans e3) (.int _)
theorem ok_sumDg (F : Fun K "sum_of_digits" "sum_of_digits" sSumDg f fd) : FnOk P w K mg base0 CX0 (k + 1) f fd ["entries"] (spD okSumD) := by
  refine F.ok scSumDg (fun vs H Q E h => ?_) (fun cdv A outer s H vs Q E hr h => ?_)
  · obtain ⟨ds, d, all, ⟨l, rfl, _⟩, _⟩ := h
    exact all.len
  · obtain ⟨ds, d, all, ⟨l, rfl, few, rfl⟩, k⟩ := h
    obtain ⟨x, rfl, hx⟩ := dts1 all
    exact ⟨_, pss_cons (ps_set (i := 1) scSumDg.nd rfl (.inl rfl) pe_int)
      (pss_cons (ps_for PassesOwn.never rfl (pi_tup (pv 0)) (pg_name (i := 2) scSumDg.nd rfl (Or.inl rfl)) (pss_one (ps_set (i := 1) scSumDg.nd rfl (.inl rfl) (pe_op op_sub (pe_op op_add (pe_op op_mul pe_int (pv 1)) (pv 2)) pe_int))))
      (pss_one (ps_ret (pv 1)))), sum_loop hx k⟩
theorem ok_lsum (F : Fun K "_law_sum" "_law_sum" sSum f fd) : FnOk P w K mg base0 CX0 (k + 1) f fd ["digits"] (spD okSumD) := by
  refine F.ok scSum (fun vs H Q E h => ?_) (fun cdv A outer s H vs Q E hr h => ?_)
  · obtain ⟨ds, d, all, ⟨l, rfl, _⟩, _⟩ := h
    exact all.len
  · obtain ⟨ds, d, all, ⟨l, rfl, few, rfl⟩, k⟩ := h
    obtain ⟨x, rfl, hx⟩ := dts1 all
    exact ⟨_, pss_cons (ps_set (i := 1) scSum.nd rfl (.inl rfl) pe_int)
      (pss_cons (ps_for PassesOwn.never rfl (pi_tup (pv 0)) (pg_name (i := 2) scSum.nd rfl (Or.inl rfl)) (pss_one (ps_set (i := 1) scSum.nd rfl (.inl rfl) (pe_op op_sub (pe_op op_add (pe_op op_mul pe_int (pv 1)) (pv 2)) pe_int))))
      (pss_one (ps_ret (pv 1)))), sum_loop hx k⟩
theorem ok_sumOf (F : Fun K "sum_of" "sum_of" sSumOf f fd)
    (G1 : FnOk P w K mg base0 CX0 k f1 fd1 ["entries"] (spD okSumD)) (g1 : mg "sum_of_digits" = some (.ref f1)) (kp1 : PySem.W.keepIn K (.ref f1) = true) (b1 : Binds K fd1 ["entries"] []) :
    FnOk P w K mg base0 CX0 (k + 1) f fd ["entries"] (spD okSumD) := by
  refine F.ok scSumOf (fun vs H Q E h => ?_) (fun cdv A outer s H vs Q E hr h => ?_)
  · obtain ⟨ds, d, all, ⟨l, rfl, _⟩, _⟩ := h
    exact all.len
  · obtain ⟨ds, d, all, ⟨l, rfl, few, rfl⟩, k⟩ := h
    obtain ⟨x, rfl, hx⟩ := dts1 all
    refine ⟨_, pss_one (ps_ret (pe_call G1 hr (by rfl) g1 kp1 b1 .nil pass0 (pa_cons (pv 0) pa_nil))), ?_⟩
    exact sd_ret (ed_call (eds_cons (ed_var rfl hx) eds_nil) ⟨l, rfl, few, rfl⟩) k
theorem ok_ratio (F : Fun K "ratio" "ratio" sRatio f fd) (m1 : mg "gcd" = some (.builtin "math.gcd")) : FnOk P w K mg base0 CX0 (k + 1) f fd ["p", "q"] (spD okRatio) := by
  refine F.ok scRatio (fun vs H Q E h => ?_) (fun cdv A outer s H vs Q E hr h => ?_)
  · obtain ⟨ds, d, all, ⟨p, q, rfl, _⟩, _⟩ := h
    exact all.len
  · obtain ⟨ds, d, all, ⟨p, q, rfl, q0, qb, rfl⟩, k⟩ := h
    obtain ⟨x, y, rfl, hx, hy⟩ := dts2 all
    cases dt_int hx
    cases dt_int hy
    refine ⟨_, pss_cons (ps_set (i := 2) scRatio.nd rfl (.inl rfl) (pe_callBfun cr_gcd (by rfl) m1 (pa_cons (pv 0) (pa_cons (pv 1) pa_nil))))
      (pss_one (ps_ret (pe_tup (pa_cons (pe_op op_fdivW (pv 0) (pv 2)) (pa_cons (pe_op op_fdivW (pv 1) (pv 2)) pa_nil))))), ?_⟩
    have g0 := R49.gI_pos p q0
    have gb : CDivW 0 (R49.gI p q) := by
      refine wide_div g0 (b := 8999) ?_ (by decide) (by decide)
      refine Nat.lt_of_le_of_lt ?_ qb
      unfold R49.gI
      rw [Int.natAbs_natCast]
      exact Nat.gcd_le_right _ (by omega)
    refine q_asg (D := { nx := _, rt := _ }) (v := .int (R49.gI p q)) (ev_cb (ea_cons (ev_var rfl) (ea_cons (ev_var rfl) ea_nil)) fun H1 _ Q' q' => ⟨p, q, rfl, q' H1 (Ex.refl _)⟩) fun H1 e1 => ?_
    exact sd_ret (ed_tup (eds_cons (ed_int (ev_op (ev_var rfl) (ev_var rfl) (rv_I gb))) (eds_cons (ed_int (ev_op (ev_var rfl) (ev_var rfl) (rv_I gb))) eds_nil)) (by show (2 : Nat) ≤ 100000; decide)) fun x H2 e2 hx => k x H2 (e1.trans e2) hx
theorem sum_wide {l : List Int} (h : R49.Dig l) {n : Nat} (hn : l.length ≤ n) : (R49.sumD l).natAbs < 2 ^ n := by
  have b := R49.sumD_bound h
  have : (2 : Nat) ^ l.length ≤ 2 ^ n := Nat.pow_le_pow_right (by decide) hn
  have e : ((2 ^ l.length : Nat) : Int) = (2 : Int) ^ l.length := Int.natCast_pow ..
  omega
theorem pow_wide (n : Nat) : ((2 : Int) ^ n).natAbs < 2 ^ (n + 1) := by
  rw [Int.natAbs_pow, Nat.pow_succ]
  have : 0 < 2 ^ n := Nat.pow_pos (n := n) (by decide : 0 < 2)
  show 2 ^ n < 2 ^ n * 2
  omega
theorem turn_wide (n : Nat) : ((2 : Int) ^ n - 1).natAbs < 2 ^ (n + 1) := by
  have h := pow_wide n
  have := R49.pow_pos n
  omega
theorem ok_valueOf (F : Fun K "value_of" "value_of" sValueOf f fd) (m1 : mg "len" = none)
    (G1 : FnOk P w K mg base0 CX0 k f1 fd1 ["base", "exponent"] (spD okPower)) (g1 : mg "power" = some (.ref f1)) (kp1 : PySem.W.keepIn K (.ref f1) = true) (b1 : Binds K fd1 ["base", "exponent"] [])
    (G2 : FnOk P w K mg base0 CX0 k f2 fd2 ["entries"] (spD okSumD)) (g2 : mg "sum_of" = some (.ref f2)) (kp2 : PySem.W.keepIn K (.ref f2) = true) (b2 : Binds K fd2 ["entries"] [])
    (G3 : FnOk P w K mg base0 CX0 k f3 fd3 ["p", "q"] (spD okRatio)) (g3 : mg "ratio" = some (.ref f3)) (kp3 : PySem.W.keepIn K (.ref f3) = true) (b3 : Binds K fd3 ["p", "q"] []) :
    FnOk P w K mg base0 CX0 (k + 1) f fd ["row"] (spD okValue) := by
  refine F.ok scValueOf (fun vs H Q E h => ?_) (fun cdv A outer s H vs Q E hr h => ?_)
  · obtain ⟨ds, d, all, ⟨b, r, rfl, _⟩, _⟩ := h
    exact all.len
  · obtain ⟨ds, d, all, ⟨b, r, rfl, db, dr, r0, few, rfl⟩, k⟩ := h
    obtain ⟨x, rfl, hx⟩ := dts1 all
    refine ⟨_, pss_cons (ps_asg (pv 0) (pg_tup (by rfl) (pgs_cons (pg_name (i := 1) scValueOf.nd rfl (Or.inl rfl)) (pgs_cons (pg_name (i := 2) scValueOf.nd rfl (Or.inl rfl)) pgs_nil))))
      (pss_cons (ps_set (i := 3) scValueOf.nd rfl (.inl rfl) (pe_op op_sub (pe_call G1 hr (by rfl) g1 kp1 b1 .nil pass0 (pa_cons pe_int (pa_cons (pe_callB call_len_seq (by rfl) m1 (by decide +kernel) (pa_cons (pv 2) pa_nil)) pa_nil))) pe_int))
      (pss_one (ps_ret (pe_call G3 hr (by rfl) g3 kp3 b3 .nil pass0 (pa_cons (pe_op op_add (pe_op op_mulW (pe_call G2 hr (by rfl) g2 kp2 b2 .nil pass0 (pa_cons (pv 1) pa_nil)) (pv 3)) (pe_call G2 hr (by rfl) g2 kp2 b2 .nil pass0 (pa_cons (pv 2) pa_nil)))
        (pa_cons (pe_op op_mulW (pe_call G1 hr (by rfl) g1 kp1 b1 .nil pass0 (pa_cons pe_int (pa_cons (pe_callB call_len_seq (by rfl) m1 (by decide +kernel) (pa_cons (pv 1) pa_nil)) pa_nil))) (pv 3)) pa_nil)))))), ?_⟩
    refine sd_two (D := { nx := _, rt := _ }) (ed_var rfl hx) fun y z H1 e1 hy hz => ?_
    have lb : (b.map PyData.int).length = b.length := List.length_map ..
    have lr : (r.map PyData.int).length = r.length := List.length_map ..
    refine q_asg (D := { nx := _, rt := _ }) (v := .int (2 ^ r.length - 1)) (ev_op (int_ed (ed_call (eds_cons (ed_int ev_c) (eds_cons (ed_int (ev_lenT (ed_var rfl hz))) eds_nil)) ⟨r.length, by rw [lr], by omega, rfl⟩)) ev_c rv_I0) fun H2 e2 => ?_
    have hy2 := hy.tk (tk_ex e2)
    have hz2 := hz.tk (tk_ex e2)
    have dw : (R49.den b r).natAbs < 2 ^ 8999 := by
      have z := wide_lt (pow_wide b.length) (turn_wide r.length)
      unfold R49.den
      exact Nat.lt_of_lt_of_le z (Nat.pow_le_pow_right (by decide) (by omega))
    refine sd_ret (ed_call (eds_cons (ed_int (ev_op (ev_op (int_ed (ed_call (eds_cons (ed_var rfl hy2) eds_nil) ⟨b, rfl, by omega, rfl⟩)) (ev_var rfl) (rv_I (wide_mul (sum_wide db (n := 8999) (by omega)) (turn_wide r.length) (by omega) (by omega) (by omega)))) (int_ed (ed_call (eds_cons (ed_var rfl hz2) eds_nil) ⟨r, rfl, by omega, rfl⟩)) rv_I0))
      (eds_cons (ed_int (ev_op (int_ed (ed_call (eds_cons (ed_int ev_c) (eds_cons (ed_int (ev_lenT (ed_var rfl hy2))) eds_nil)) ⟨b.length, by rw [lb], by omega, rfl⟩)) (ev_var rfl) (rv_I (wide_mul (pow_wide b.length) (turn_wide r.length) (by omega) (by omega) (by omega))))) eds_nil))
      ⟨R49.num b r, R49.den b r, rfl, R49.den_pos b r0, dw, rfl⟩) fun x' H3 e3 hx' => k x' H3 ((e1.trans e2).trans e3) hx'
end
end K10
set_option Elab.async false
set_option linter.all false
set_option maxRecDepth 100000
set_option maxHeartbeats 1000000
namespace K10
open PySem PySem.Spec PyProof.Rows L2 Evl
/-! ### a dict of what was met, each with its place -/
section
variable {κ : Type} [DecidableEq κ]
def asc (f : Nat → κ) (n : Nat) : List (κ × V) := (List.range n).map fun i => (f i, V.int i)
theorem asc_succ (f : Nat → κ) (n : Nat) : asc f (n + 1) = asc f n ++ [(f n, V.int n)] := by
  unfold asc
  rw [List.range_succ, List.map_append]
  rfl
theorem asc_len (f : Nat → κ) (n : Nat) : (asc f n).length = n := by
  unfold asc
  rw [List.length_map, List.length_range]
theorem asc_none {f : Nat → κ} {k : κ} : ∀ {n : Nat}, (∀ i, i < n → f i ≠ k) → valV (asc f n) k = none
  | 0, _ => rfl
  | n + 1, h => by
    rw [asc_succ]
    unfold valV
    rw [List.find?_append]
    have ih := asc_none (n := n) (k := k) (f := f) fun i hi => h i (by omega)
    unfold valV at ih
    rw [Option.map_eq_none_iff] at ih
    rw [ih]
    simp [h n (by omega)]
theorem asc_some {f : Nat → κ} {k : κ} {s : Nat} : ∀ {n : Nat}, s < n → f s = k → (∀ j, j < n → ∀ i, i < j → f i ≠ f j) → valV (asc f n) k = some (.int s)
  | 0, h, _, _ => by omega
  | n + 1, h, e, ne => by
    rw [asc_succ]
    unfold valV
    rw [List.find?_append]
    by_cases z : s = n
    · subst z
      have ih := asc_none (n := s) (k := k) (f := f) fun i hi => by rw [← e]; exact ne s (by omega) i hi
      unfold valV at ih
      rw [Option.map_eq_none_iff] at ih
      rw [ih]
      simp [e]
    · have ih := asc_some (n := n) (k := k) (f := f) (s := s) (by omega) e fun j hj => ne j (by omega)
      unfold valV at ih
      obtain ⟨kv, h1, h2⟩ := Option.map_eq_some_iff.mp ih
      rw [h1]
      simp [h2]
theorem asc_put {f : Nat → κ} {n : Nat} (h : ∀ i, i < n → f i ≠ f n) : putK (asc f n) (f n) (.int n) = asc f (n + 1) := by
  unfold putK
  rw [valV_any, asc_none h, asc_succ]
  rfl
theorem asc_has {f : Nat → κ} {k : κ} {n : Nat} (ne : ∀ j, j < n → ∀ i, i < j → f i ≠ f j) : (valV (asc f n) k).isSome = decide (∃ i, i < n ∧ f i = k) := by
  by_cases h : ∃ i, i < n ∧ f i = k
  · obtain ⟨i, hi, e⟩ := h
    rw [asc_some hi e ne, decide_eq_true ⟨i, hi, e⟩]
    rfl
  · rw [asc_none fun i hi e => h ⟨i, hi, e⟩, decide_eq_false h]
    rfl
end
def okRowOf (ds : List PyData) (d : PyData) : Prop := ∃ (p q : Int) (n s : Nat), ds = [.int p, .int q] ∧ 0 < q ∧ q ≤ 4096 ∧ (-q ≤ p ∧ p ≤ q) ∧ R49.IsRow p q n s ∧ d = rowD ((R49.digs p q n).take s) ((R49.digs p q n).drop s)
def okPart (ds : List PyData) (d : PyData) : Prop := ∃ p q : Int, ds = [.int p, .int q] ∧ 0 < q ∧ q < 1000000 ∧ -1000000 < p ∧ p < 1000000 ∧ d = intsD [(R49.partI p q).1, (R49.partI p q).2]
/-- the two lists that stand while a row is made: digits at l, what was met at D -/
structure Two (H H' : Hp) (l D : Addr) (xs : List V) (o : HO) : Prop where
  ne : l ≠ D
  fl : H l = none
  fD : H D = none
  ex : Ex H H'
  hl : H' l = some (.lst xs)
  hD : H' D = some o
section
variable {H H' H'' : Hp} {l D : Addr} {xs ys : List V} {o o' : HO}
theorem Two.go (t : Two H H' l D xs o) (e : Ex H' H'') : Two H H'' l D xs o := { t with ex := t.ex.trans e, hl := e _ _ t.hl, hD := e _ _ t.hD }
theorem Two.setL (t : Two H H' l D xs o) : Two H (upd H' l (.lst ys)) l D ys o := { t with ex := t.ex.mut t.fl, hl := upd_same, hD := by rw [upd_ne (fun z => t.ne z.symm)]; exact t.hD }
theorem Two.setD (t : Two H H' l D xs o) : Two H (upd H' D o') l D xs o' := { t with ex := t.ex.mut t.fD, hl := by rw [upd_ne t.ne]; exact t.hl, hD := upd_same }
end
theorem q_newK {σ : L2.St} {H : Hp} {E : Ends} {tz : TS} {i : Nat} (k : ∀ p H1, H p = none → Ex H H1 → H1 p = some (.dK []) → tz E (σ.set i (some (.ref p))) H1) : tSeq (tAsg tDNewK (gName i)) tz E σ H :=
  fun p hp => k p _ hp (Ex.new hp) upd_same
theorem q_putI {σ : L2.St} {H : Hp} {D : Ends} {tz : TS} {td ty tv : TE} {m : Addr} {v : V} {kvs : List (L2.Key × V)} {key : L2.Key} (hv : Ev tv σ H v) (hd : Ev td σ H (.ref m)) (hk : Ev ty σ H (kV key)) (hm : H m = some (.dK kvs)) (few : kvs.length < 100000)
    (k : ∀ H1, Ex H H1 → tz D σ (upd H1 m (.dK (putK kvs key v)))) : tSeq (sDPut td ty tv) tz D σ H :=
  hv H (Ex.refl H) _ fun H1 e1 => hd H1 e1 _ fun H2 e2 => hk H2 (e1.trans e2) _ fun H3 e3 => ⟨m, _, rfl, DPut.k (k := key) (((e1.trans e2).trans e3) _ _ hm) (sz_lt few), k H3 ((e1.trans e2).trans e3)⟩
theorem q_putP {σ : L2.St} {H : Hp} {D : Ends} {tz : TS} {td ty tv : TE} {m : Addr} {v : V} {kvs : List (List L2.Key × V)} {p : Pl} (hv : Ev tv σ H v) (hd : Ev td σ H (.ref m)) (hk : EvD ty σ H (placeD p)) (hm : H m = some (.dT kvs)) (few : kvs.length < 100000)
    (k : ∀ H1, Ex H H1 → tz D σ (upd H1 m (.dT (putK kvs (keyK p) v)))) : tSeq (sDPut td ty tv) tz D σ H :=
  hv H (Ex.refl H) _ fun H1 e1 => hd H1 e1 _ fun H2 e2 => hk H2 (e1.trans e2) _ fun x H3 e3 hx => by
    obtain ⟨b, rfl, hb⟩ := dt_place hx
    exact ⟨m, _, rfl, DPut.t (((e1.trans e2).trans e3) _ _ hm) hb (sz_lt few), k H3 ((e1.trans e2).trans e3)⟩
theorem et_notinI {σ : L2.St} {H : Hp} {td ty : TE} {m : Addr} {kvs : List (L2.Key × V)} {key : L2.Key} (hd : Ev td σ H (.ref m)) (hk : Ev ty σ H (kV key)) (hm : H m = some (.dK kvs)) : EvT (tB (tDNotIn ty td)) σ H (!(valV kvs key).isSome) := fun H1 e1 Q q =>
  hk H1 e1 _ fun H2 e2 => hd H2 (e1.trans e2) _ fun H3 e3 => ⟨m, _, rfl, DGet.k (k := key) (((e1.trans e2).trans e3) _ _ hm), _, rfl, q H3 (e2.trans e3)⟩
theorem et_inP {σ : L2.St} {H : Hp} {td ty : TE} {m : Addr} {kvs : List (List L2.Key × V)} {p : Pl} (hd : Ev td σ H (.ref m)) (hk : EvD ty σ H (placeD p)) (hm : H m = some (.dT kvs)) : EvT (tB (tDIn ty td)) σ H ((valV kvs (keyK p)).isSome) := fun H1 e1 Q q =>
  hk H1 e1 _ fun x H2 e2 hx => hd H2 (e1.trans e2) _ fun H3 e3 => by
    obtain ⟨b, rfl, hb⟩ := dt_place hx
    exact ⟨m, _, rfl, DGet.t (((e1.trans e2).trans e3) _ _ hm) (e3 _ _ hb), _, rfl, q H3 (e2.trans e3)⟩
theorem ev_getI {σ : L2.St} {H : Hp} {td ty : TE} {m : Addr} {v : V} {kvs : List (L2.Key × V)} {key : L2.Key} (hd : Ev td σ H (.ref m)) (hk : Ev ty σ H (kV key)) (hm : H m = some (.dK kvs)) (hv : valV kvs key = some v) : Ev (tDGet td ty) σ H v := fun H1 e1 Q q =>
  hd H1 e1 _ fun H2 e2 => hk H2 (e1.trans e2) _ fun H3 e3 => ⟨m, v, rfl, by
    have z := DGet.k (k := key) (((e1.trans e2).trans e3) _ _ hm)
    rw [hv] at z
    exact z, q H3 (e2.trans e3)⟩
theorem ev_getP {σ : L2.St} {H : Hp} {td ty : TE} {m : Addr} {v : V} {kvs : List (List L2.Key × V)} {p : Pl} (hd : Ev td σ H (.ref m)) (hk : EvD ty σ H (placeD p)) (hm : H m = some (.dT kvs)) (hv : valV kvs (keyK p) = some v) : Ev (tDGet td ty) σ H v := fun H1 e1 Q q =>
  hd H1 e1 _ fun H2 e2 => hk H2 (e1.trans e2) _ fun x H3 e3 hx => by
    obtain ⟨b, rfl, hb⟩ := dt_place hx
    refine ⟨m, v, rfl, ?_, q H3 (e2.trans e3)⟩
    have z := DGet.t (k := keyK p) (((e1.trans e2).trans e3) _ _ hm) hb
    rw [hv] at z
    exact z
theorem cut_takeV (l : List Int) {n s : Nat} (hn : l.length = n) (h : s ≤ n) : cutV (l.map V.int) none (some (s : Int)) = (l.take s).map V.int := by
  have e := cut_take (l.map V.int) s
  unfold cutV
  unfold cutD at e
  rw [e, ← List.map_take]
theorem cut_dropV (l : List Int) {n s : Nat} (hn : l.length = n) (h : s ≤ n) : cutV (l.map V.int) (some (s : Int)) none = (l.drop s).map V.int := by
  have e := cut_drop (l.map V.int) s
  unfold cutV
  unfold cutD at e
  rw [e, ← List.map_drop]
theorem eld_of {te : TE} {σ : L2.St} {H : Hp} {ns : List Int} (h : EvL te σ H (ns.map V.int)) : EvLd te σ H (ns.map .int) := fun H1 e1 Q q => h H1 e1 _ fun p H2 np e2 hp => q p _ H2 np e2 hp (dts_of_ints ns)
section
variable {P : Program} {w : World} {K : PySem.W.Frag} {mg : Str → Option Value} {base0 : Heap} {f f1 f2 f3 : Addr} {fd fd1 fd2 fd3 : FuncData} {k : Nat}
theorem ok_rowOf (F : Fun K "row_of" "row_of" sRowOf f fd) (m1 : mg "len" = none) (m2 : mg "tuple" = none) : FnOk P w K mg base0 CX0 (k + 1) f fd ["p", "q"] (spD okRowOf) := by
  refine F.ok scRowOf (fun vs H Q E h => ?_) (fun cdv A outer s H vs Q E hr h => ?_)
  · obtain ⟨ds, d, all, ⟨p, q, n, s, rfl, _⟩, _⟩ := h
    exact all.len
  · obtain ⟨ds, d, all, ⟨p, q, n, s, rfl, q0, q4, pb, row, rfl⟩, k⟩ := h
    obtain ⟨x, y, rfl, hx, hy⟩ := dts2 all
    cases dt_int hx
    cases dt_int hy
    refine ⟨_, pss_cons (ps_set (i := 2) scRowOf.nd rfl (.inl rfl) (pe_lst pa_nil))
      (pss_cons (ps_set (i := 3) scRowOf.nd rfl (.inl rfl) pe_dnewK)
      (pss_cons (ps_while PassesOwn.never (pt_cmp (pc_dnotin (hu_of hr) (pv 0) (pv 3)))
        (pss_cons (ps_dput (hu_of hr) (pv 3) (pv 0) (pe_callB call_len_seq (by rfl) m1 (by decide +kernel) (pa_cons (pv 2) pa_nil)) rfl)
        (pss_cons (ps_set (i := 4) scRowOf.nd rfl (.inl rfl) (pe_ifExp (pt_cmpR op_ge (pe_op op_mul pe_int (pv 0)) (pv 1) (nomark _)) pe_int pe_int))
        (pss_cons (ps_if (pt_cmpR op_le (pe_op op_mul pe_int (pv 0)) (pe_un un_neg (pv 1)) (nomark _)) (pss_one (ps_set (i := 4) scRowOf.nd rfl (.inl rfl) pe_int)) pss_nil)
        (pss_cons (ps_expr (pe_bm PySem.F.plainAttrs_list PySem.F.slot_list_append PySem.F.type_list_append mt_append (pv 2) (pa_cons (pv 4) pa_nil)))
        (pss_one (ps_set (i := 0) scRowOf.nd rfl (.inl rfl) (pe_op op_sub (pe_op op_mul pe_int (pv 0)) (pe_op op_mul (pe_op op_sub (pv 4) pe_int) (pv 1))))))))))
      (pss_one (ps_ret (pe_tup (pa_cons (pe_callTy tupB (by rfl) m2 (by decide +kernel) (pa_cons (pe_slice sl_list (pv 2) po_none (po_some (pe_dget (hu_of hr) (pv 3) (pv 0) (fun _ _ => rfl)))) pa_nil))
        (pa_cons (pe_callTy tupB (by rfl) m2 (by decide +kernel) (pa_cons (pe_slice sl_list (pv 2) (po_some (pe_dget (hu_of hr) (pv 3) (pv 0) (fun _ _ => rfl))) po_none) pa_nil)) pa_nil))))))), ?_⟩
    refine q_asgL (D := { nx := _, rt := _ }) (el_lst ea_nil (by show (0 : Nat) ≤ 100000; decide)) fun l H1 nl e1 hl => ?_
    refine q_newK (E := { nx := _, rt := _ }) fun Dd H2 nD e2 hD => ?_
    have ne : l ≠ Dd := fun z => by rw [← z, hl] at nD; cases nD
    have t0 : Two H H2 l Dd ([] : List V) (.dK []) := ⟨ne, nl, fresh_back e1 nD, e1.trans e2, e2 _ _ hl, hD⟩
    let key : Nat → L2.Key := fun i => Sum.inl (R49.at_ p q i)
    refine q_while (D := { nx := _, rt := _ }) (fun m σ' H' => ∃ (j : Nat) (z : Option V), σ' = [some (.int (R49.at_ p q j)), some (.int q), some (.ref l), some (.ref Dd), z] ∧ Two H H' l Dd ((R49.digs p q j).map V.int) (.dK (asc key j)) ∧ (∀ b, b < j → ∀ a, a < b → R49.at_ p q a ≠ R49.at_ p q b) ∧ m = (2 * q + 2).toNat - j) ((2 * q + 2).toNat - 0)
      ⟨0, none, rfl, t0, fun b hb => by omega, rfl⟩ fun m σ' H' inv => ?_
    obtain ⟨j, z, rfl, tw, dis, rfl⟩ := inv
    have fewj := R49.few_of_ne q0 pb dis
    have keyne : ∀ b, b < j → ∀ a, a < b → key a ≠ key b := fun b hb a ha h => dis b hb a ha (Sum.inl.inj h)
    refine ⟨!decide (∃ i, i < j ∧ key i = Sum.inl (R49.at_ p q j)), et_is (et_notinI (key := Sum.inl (R49.at_ p q j)) (ev_var rfl) (ev_var rfl) tw.hD) (by rw [asc_has keyne]), fun hb H3 e3 => ?_, fun hb H3 e3 => ?_⟩
    · have new : ∀ i, i < j → R49.at_ p q i ≠ R49.at_ p q j := fun i hi h => by
        have : decide (∃ i, i < j ∧ key i = Sum.inl (R49.at_ p q j)) = true := decide_eq_true ⟨i, hi, congrArg Sum.inl h⟩
        rw [this] at hb
        cases hb
      have dis' : ∀ b, b < j + 1 → ∀ a, a < b → R49.at_ p q a ≠ R49.at_ p q b := fun b hb a ha => by
        by_cases z : b = j
        · subst z; exact new a ha
        · exact dis b (by omega) a ha
      have few' := R49.few_of_ne q0 pb dis'
      have tw3 := tw.go e3
      have ab := R49.at_in q0 pb j
      have len : ((R49.digs p q j).map V.int).length = j := by rw [List.length_map, R49.digs_len]
      refine ⟨_, fun _ _ h => h, ?_⟩
      refine q_putI (D := { nx := _, rt := _, bk := _, ct := _ }) (v := .int j) (key := key j) (ev_is (ev_len (ev_var rfl) (SqL.of tw3.hl)) (by rw [len])) (ev_var rfl) (ev_var rfl) tw3.hD (by rw [asc_len]; omega) fun H4 e4 => ?_
      rw [asc_put fun i hi h => new i hi (Sum.inl.inj h)]
      have tw5 := (tw3.go e4).setD (o' := .dK (asc key (j + 1)))
      generalize upd H4 Dd (.dK (asc key (j + 1))) = H5 at tw5 ⊢
      have rest : ∀ H6, Ex H5 H6 → tSeq (tDrop (tBM K "list" rAppend (tVar 2) (tCons (tVar 4) tNil))) (tAsg (tOp (rI0 fun i j => .int (i - j)) (tOp (rI CMul fun i j => .int (i * j)) (tC (.int 2)) (tVar 0)) (tOp (rI CMul fun i j => .int (i * j)) (tOp (rI0 fun i j => .int (i - j)) (tVar 4) (tC (.int 1))) (tVar 1))) (gName 0))
          { nx := fun σ2 H2 => ∃ m', m' < (2 * q + 2).toNat - j ∧ ∃ (j : Nat) (z : Option V), σ2 = [some (.int (R49.at_ p q j)), some (.int q), some (.ref l), some (.ref Dd), z] ∧ Two H H2 l Dd ((R49.digs p q j).map V.int) (.dK (asc key j)) ∧ (∀ b, b < j → ∀ a, a < b → R49.at_ p q a ≠ R49.at_ p q b) ∧ m' = (2 * q + 2).toNat - j, rt := fun v H' => Q v H',
            bk := fun _ _ => False, ct := fun _ _ => False } [some (.int (R49.at_ p q j)), some (.int q), some (.ref l), some (.ref Dd), some (.int (R49.ed p q j))] H6 := by
        intro H6 e6
        have tw6 := tw5.go e6
        refine q_app (D := { nx := _, rt := _, bk := _, ct := _ }) tw6.hl (ev_var rfl) (ev_var rfl) (by rw [len]; omega) fun H7 e7 => ?_
        have tw8 := (tw6.go e7).setL (ys := (R49.digs p q j).map V.int ++ [V.int (R49.ed p q j)])
        have edg := R49.dg_dig (R49.at_ p q j) q
        refine s_asg (D := { nx := _, rt := _, bk := _, ct := _ }) (v := .int (R49.at_ p q (j + 1))) (ev_op (ev_op ev_c (ev_var rfl) (rv_I (.inl (by decide)))) (ev_op (ev_op (ev_var rfl) ev_c rv_I0) (ev_var rfl) (rv_I (.inr (by omega)))) rv_I0) fun H8 e8 => ?_
        refine ⟨(2 * q + 2).toNat - (j + 1), by omega, j + 1, _, rfl, ?_, dis', rfl⟩
        have e9 : (R49.digs p q (j + 1)).map V.int = (R49.digs p q j).map V.int ++ [V.int (R49.ed p q j)] := by rw [R49.digs_succ, List.map_append]; rfl
        rw [e9]
        exact tw8.go e8
      have two : ∀ {σ : L2.St} {H6 : Hp}, σ[0]? = some (some (.int (R49.at_ p q j))) → Ev (tOp (rI CMul fun i j => .int (i * j)) (tC (.int 2)) (tVar 0)) σ H6 (.int (2 * R49.at_ p q j)) := fun h => ev_op ev_c (ev_var h) (rv_I (.inl (by decide)))
      refine q_asg (D := { nx := _, rt := _, bk := _, ct := _ }) (v := .int (if q ≤ 2 * R49.at_ p q j then 2 else 1)) (ev_if (b := decide (q ≤ 2 * R49.at_ p q j)) (et_test (ev_op (two rfl) (ev_var rfl) rv_I0)) (fun h => ?_) (fun h => ?_)) fun H6 e6 => ?_
      · rw [if_pos (of_decide_eq_true h)]
        exact ev_c
      · rw [if_neg (of_decide_eq_false h)]
        exact ev_c
      refine q_when (D := { nx := _, rt := _, bk := _, ct := _ }) (b := decide (2 * R49.at_ p q j ≤ -q)) (et_test (ev_op (two rfl) (ev_un (ev_var rfl) ru_neg) rv_I0)) (fun h H7 e7 => ?_) (fun h H7 e7 => ?_)
      · refine s_asg (D := { nx := _, rt := _, bk := _, ct := _ }) ev_c fun H8 e8 => ?_
        have e : R49.ed p q j = 0 := if_pos (of_decide_eq_true h)
        have z := rest H8 ((e6.trans e7).trans e8)
        rw [e] at z
        exact z
      · have e : R49.ed p q j = if q ≤ 2 * R49.at_ p q j then 2 else 1 := if_neg (of_decide_eq_false h)
        have z := rest H7 (e6.trans e7)
        rw [e] at z
        exact z
    · obtain ⟨i, hi, he⟩ : ∃ i, i < j ∧ key i = Sum.inl (R49.at_ p q j) := by
        have : decide (∃ i, i < j ∧ key i = Sum.inl (R49.at_ p q j)) = true := by
          cases z : decide (∃ i, i < j ∧ key i = Sum.inl (R49.at_ p q j)) with
          | true => rfl
          | false => rw [z] at hb; cases hb
        exact of_decide_eq_true this
      obtain ⟨rfl, rfl⟩ := R49.row_one row ⟨hi, Sum.inl.inj he, dis⟩
      have tw3 := tw.go e3
      have len := R49.digs_len p q n
      have gt : ∀ H4, Ex H3 H4 → Ev (tDGet (tVar 3) (tVar 0)) [some (.int (R49.at_ p q n)), some (.int q), some (.ref l), some (.ref Dd), z] H4 (.int (s : Nat)) := fun H4 e4 => ev_getI (key := Sum.inl (R49.at_ p q n)) (ev_var rfl) (ev_var rfl) (e4 _ _ tw3.hD) (asc_some hi he keyne)
      refine sd_ret (ed_tup (eds_cons (ed_tupOf (eld_of (ns := (R49.digs p q n).take s) ?_)) (eds_cons (ed_tupOf (eld_of (ns := (R49.digs p q n).drop s) ?_)) eds_nil)) (by show (2 : Nat) ≤ 100000; decide)) fun x H4 e4 hx => k x H4 (tw3.ex.trans e4) hx
      · rw [← cut_takeV _ len (by omega)]
        exact el_sl (ev_var rfl) eo_none (eo_some (gt H3 (Ex.refl _))) (SqL.of tw3.hl)
      · rw [← cut_dropV _ len (by omega)]
        exact el_sl (ev_var rfl) (eo_some (gt H3 (Ex.refl _))) eo_none (SqL.of tw3.hl)
end
end K10
set_option Elab.async false
set_option linter.all false
set_option maxRecDepth 100000
set_option maxHeartbeats 1000000
namespace K10
open PySem PySem.Spec PyProof.Rows L2 Evl
/-! ### the law: parts, entries, rows -/
theorem part_in {p q : Int} (h : 0 < q) (hp : -q ≤ p ∧ p ≤ q) : (-(R49.partI p q).2 ≤ (R49.partI p q).1 ∧ (R49.partI p q).1 ≤ (R49.partI p q).2) ∧ (R49.partI p q).2 ≤ q := by
  obtain ⟨h1, h2⟩ := R49.part_mul p h
  have g := R49.gI_pos p h
  have pb := R49.part_pos p h
  generalize (R49.partI p q).1 = a at *
  generalize (R49.partI p q).2 = b at *
  generalize R49.gI p q = c at *
  have l1 : c * a ≤ c * b := by omega
  have l2 : c * -b ≤ c * a := by
    have : c * -b = -(c * b) := Int.mul_neg ..
    omega
  refine ⟨⟨Int.le_of_mul_le_mul_left l2 g, Int.le_of_mul_le_mul_left l1 g⟩, ?_⟩
  have : 1 * b ≤ c * b := Int.mul_le_mul_of_nonneg_right (by omega) (by omega)
  omega
theorem tk_dT {H4 : Hp} {L : Addr} {kvs : List (List L2.Key × V)} {o : HO} (h : H4 L = some (.dT kvs)) : Tk H4 (upd H4 L o) := tk_upd fun xs z => by
  rw [h] at z
  cases z
abbrev partD (p q : Int) : PyData := placeD (R49.partI p q)
theorem q_three {σ : L2.St} {H : Hp} {E : Ends} {tz : TS} {tc : TE} {d : PyData} {i j m : Nat} (hc : EvD tc σ H d) (k : ∀ D l x H', Two H H' l D [] (.dT []) → Dt H' x d → tz E (((σ.set i (some (.ref D))).set j (some (.ref l))).set m (some x)) H') :
    tSeq (tPar3 i j m (tCons tDNewT (tCons (tLst tNil) (tCons tc tNil)))) tz E σ H := fun pD hD =>
  (el_lst (σ := σ) (H := upd H pD (.dT [])) ea_nil (by show (0 : Nat) ≤ 100000; decide)) _ (Ex.refl _) _ fun l H2 nl e2 hl => hc H2 ((Ex.new hD).trans e2) _ fun x H3 e3 hx =>
    ⟨_, _, _, rfl, k pD l x H3 ⟨(fun z => by rw [z, upd_same] at nl; cases nl), fresh_back (Ex.new hD) nl, hD, ((Ex.new hD).trans e2).trans e3, e3 _ _ hl, e3 _ _ (e2 _ _ upd_same)⟩ hx⟩
section
variable {P : Program} {w : World} {K : PySem.W.Frag} {mg : Str → Option Value} {base0 : Heap} {f f1 f2 f3 : Addr} {fd fd1 fd2 fd3 : FuncData} {k : Nat}
theorem ok_part (F : Fun K "_law_part" "_law_part" sPart f fd) (m1 : mg "abs" = none) (m2 : mg "int" = none) : FnOk P w K mg base0 CX0 (k + 1) f fd ["a", "b"] (spD okPart) := by
  refine F.ok scPart (fun vs H Q E h => ?_) (fun cdv A outer s H vs Q E hr h => ?_)
  · obtain ⟨ds, d, all, ⟨p, q, rfl, _⟩, _⟩ := h
    exact all.len
  · obtain ⟨ds, d, all, ⟨p, q, rfl, q0, q1, p0, p1, rfl⟩, k⟩ := h
    obtain ⟨x, y, rfl, hx, hy⟩ := dts2 all
    cases dt_int hx
    cases dt_int hy
    refine ⟨_, pss_cons (ps_par (i := 2) (j := 3) (by rfl) scPart.nd rfl rfl (by decide) rfl rfl (pa_cons (pe_callB call_abs (by rfl) m1 (by decide +kernel) (pa_cons (pv 0) pa_nil)) (pa_cons (pe_callB call_abs (by rfl) m1 (by decide +kernel) (pa_cons (pv 1) pa_nil)) pa_nil)) (by rfl))
      (pss_cons (ps_while PassesOwn.never (pt_cmpR op_ne (pv 3) pe_int (nomark _))
        (pss_one (ps_par (i := 2) (j := 3) (by rfl) scPart.nd rfl rfl (by decide) rfl rfl (pa_cons (pv 3) (pa_cons (pe_op op_mod (pe_callTy call_int1 (by rfl) m2 (by decide +kernel) (pa_cons (pv 2) pa_nil)) (pv 3)) pa_nil)) (by rfl))))
      (pss_cons (ps_set (i := 2) scPart.nd rfl (.inl rfl) (pe_ifExp (pt_cmpR op_gt (pv 1) pe_int (nomark _)) (pv 2) (pe_un un_neg (pv 2))))
      (pss_one (ps_ret (pe_tup (pa_cons (pe_op op_fdivW (pv 0) (pv 2)) (pa_cons (pe_op op_fdivW (pv 1) (pv 2)) pa_nil))))))), ?_⟩
    have ab : ∀ {σ : L2.St} {H : Hp} {i : Nat} {z : Int}, σ[i]? = some (some (.int z)) → Ev (tCB (fun xs H Q => ∃ i, xs = [V.int i] ∧ Q (.int (if i < 0 then -i else i)) H) (tCons (tVar i) tNil)) σ H (.int ((z.natAbs : Nat) : Int)) := fun {σ H i z} h => by
      refine ev_is (ev_cb (ea_cons (ev_var h) ea_nil) fun H1 _ Q' q' => ⟨z, rfl, q' H1 (Ex.refl _)⟩) (congrArg V.int ?_)
      split <;> omega
    refine q_par (D := { nx := _, rt := _ }) (ea_cons (ab rfl) (ea_cons (ab rfl) ea_nil)) fun H1 e1 => ?_
    refine q_while (D := { nx := _, rt := _ }) (fun m σ' H' => ∃ c d : Nat, σ' = [some (.int p), some (.int q), some (.int c), some (.int d)] ∧ Nat.gcd c d = Nat.gcd p.natAbs q.natAbs ∧ Ex H H' ∧ m = d) q.natAbs ⟨p.natAbs, q.natAbs, rfl, rfl, e1, rfl⟩ fun m σ' H' inv => ?_
    obtain ⟨c, d, rfl, hg, e2, hm⟩ := inv
    obtain rfl : d = m := hm.symm
    refine ⟨!decide (d = 0), et_is (et_test (ev_op (ev_var rfl) ev_c (rv_ne rfl))) ?_, fun hb H2 e3 => ?_, fun hb H2 e3 => ?_⟩
    · show (!decide (V.int d = V.int 0)) = !decide (d = 0)
      by_cases z : d = 0
      · subst z; simp
      · have : ¬ (V.int d = V.int 0) := fun h => z (by injection h with h; omega)
        simp [z, this]
    · have d0 : 0 < d := by
        rcases Nat.eq_zero_or_pos d with z | z
        · rw [decide_eq_true z] at hb; cases hb
        · exact z
      refine ⟨_, fun _ _ h => h, ?_⟩
      refine (ea_cons (ev_var rfl) (ea_cons (ev_op (rc_int (ev_var rfl)) (ev_var rfl) (rv_I (by show (0 : Int) < _; omega))) ea_nil)) H2 (Ex.refl _) _ fun H3 e4 => ?_
      refine ⟨_, _, rfl, c % d, Nat.mod_lt c d0, d, c % d, ?_, ?_, (e2.trans e3).trans e4, rfl⟩
      · rw [← Int.natCast_emod]
        rfl
      · rw [← hg, Nat.gcd_comm c d, Nat.gcd_rec d c, Nat.gcd_comm (c % d) d]
    · have z : d = 0 := by
        by_cases z : d = 0
        · exact z
        · rw [decide_eq_false z] at hb; cases hb
      subst z
      have hg2 : ((c : Nat) : Int) = R49.gI p q := by rw [Nat.gcd_zero_right] at hg; rw [hg]; rfl
      have g0 := R49.gI_pos p q0
      have gb : CDivW 0 (R49.gI p q) := by
        refine wide_div g0 (b := 8999) ?_ (by decide) (by decide)
        have h1 : Nat.gcd p.natAbs q.natAbs ≤ q.natAbs := Nat.gcd_le_right _ (by omega)
        have h2 : (1000000 : Nat) < 2 ^ 8999 := Nat.lt_of_lt_of_le (by decide : 1000000 < 2 ^ 20) (Nat.pow_le_pow_right (by decide) (by decide))
        unfold R49.gI
        rw [Int.natAbs_natCast]
        omega
      rw [hg2]
      refine q_asg (D := { nx := _, rt := _ }) (v := .int (R49.gI p q)) (ev_if (b := decide (0 < q)) (et_test (ev_op (ev_var rfl) ev_c rv_I0)) (fun _ => ev_var rfl) fun h => absurd q0 (of_decide_eq_false h)) fun H3 e4 => ?_
      exact sd_ret (ed_tup (eds_cons (ed_int (ev_op (ev_var rfl) (ev_var rfl) (rv_I gb))) (eds_cons (ed_int (ev_op (ev_var rfl) (ev_var rfl) (rv_I gb))) eds_nil)) (by show (2 : Nat) ≤ 100000; decide)) fun x H4 e5 hx => k x H4 (((e2.trans e3).trans e4).trans e5) hx
theorem ok_lentry (F : Fun K "_law_told_entry" "_law_told_entry" sLEntry f fd) (m1 : mg "len" = none) (m2 : mg "int" = none) : FnOk P w K mg base0 CX0 (k + 1) f fd ["row", "i"] (spD okEntry) := by
  refine F.ok scLEntry (fun vs H Q E h => ?_) (fun cdv A outer s H vs Q E hr h => ?_)
  · obtain ⟨ds, d, all, ⟨bs, rs, i, rfl, _⟩, _⟩ := h
    exact all.len
  · obtain ⟨ds, d, all, ⟨bs, rs, i, rfl, hne, rfl⟩, q⟩ := h
    obtain ⟨v, v1, rfl, hv, h1⟩ := dts2 all
    cases dt_int h1
    refine ⟨_, pss_cons (ps_asg (pv 0) (pg_tup (by rfl) (pgs_cons (pg_name (i := 2) scLEntry.nd rfl (Or.inl rfl)) (pgs_cons (pg_name (i := 3) scLEntry.nd rfl (Or.inl rfl)) pgs_nil))))
      (pss_one (ps_ret (pe_ifExp (pt_cmpR op_lt (pv 1) (pe_callB call_len_seq (by rfl) m1 (by decide +kernel) (pa_cons (pv 2) pa_nil)) (nomark _)) (pe_ix ix_tup (pv 2) (pv 1) (fun _ _ => rfl))
        (pe_ix ix_tup (pv 3) (pe_op op_mod (pe_callTy call_int1 (by rfl) m2 (by decide +kernel) (pa_cons (pe_op op_sub (pv 1) (pe_callB call_len_seq (by rfl) m1 (by decide +kernel) (pa_cons (pv 2) pa_nil))) pa_nil)) (pe_callB call_len_seq (by rfl) m1 (by decide +kernel) (pa_cons (pv 3) pa_nil))) (fun _ _ => rfl))))), ?_⟩
    refine sd_two (D := { nx := _, rt := _ }) (ed_var rfl hv) fun y z H1 e1 hy hz => ?_
    refine sd_ret (ed_int (ev_if (b := decide (i < bs.length)) (et_lt (ev_var rfl) (ev_lenI (ed_var rfl hy))) (fun hb => ev_entHead (of_decide_eq_true hb) (ed_var rfl hy) (ev_var rfl)) fun hb => ?_)) fun x H3 e3 hx => q x H3 (e1.trans e3) hx
    have hi := of_decide_eq_false hb
    have hl : 0 < rs.length := List.length_pos_iff.mpr hne
    refine ev_entTail hne hi (ed_var rfl hz) (ev_is (ev_op (rc_int (ev_op (ev_var rfl) (ev_lenI (ed_var rfl hy)) rv_I0)) (ev_lenI (ed_var rfl hz)) (rv_I (by show (0 : Int) < (rs.length : Int); omega))) ?_)
    exact congrArg V.int (mod_nat bs rs i hne hi)
theorem ok_lrowOf (F : Fun K "_law_row_of" "_law_row_of" sLRowOf f fd) (m1 : mg "len" = none) (m2 : mg "tuple" = none) (m3 : mg "range" = none)
    (G1 : FnOk P w K mg base0 CX0 k f1 fd1 ["a", "b"] (spD okPart)) (g1 : mg "_law_part" = some (.ref f1)) (kp1 : PySem.W.keepIn K (.ref f1) = true) (b1 : Binds K fd1 ["a", "b"] []) :
    FnOk P w K mg base0 CX0 (k + 1) f fd ["p", "q"] (spD okRowOf) := by
  refine F.ok scLRowOf (fun vs H Q E h => ?_) (fun cdv A outer s H vs Q E hr h => ?_)
  · obtain ⟨ds, d, all, ⟨p, q, n, s, rfl, _⟩, _⟩ := h
    exact all.len
  · obtain ⟨ds, d, all, ⟨p, q, n, s, rfl, q0, q4, pb, row, rfl⟩, k⟩ := h
    obtain ⟨x, y, rfl, hx, hy⟩ := dts2 all
    cases dt_int hx
    cases dt_int hy
    refine ⟨_, pss_cons (ps_par3 (i := 2) (j := 3) (l := 4) (by rfl) scLRowOf.nd rfl rfl rfl (by decide) (by decide) (by decide) rfl rfl rfl (pa_cons pe_dnewT (pa_cons (pe_lst pa_nil) (pa_cons (pe_call G1 hr (by rfl) g1 kp1 b1 .nil pass0 (pa_cons (pv 0) (pa_cons (pv 1) pa_nil))) pa_nil))) (by rfl))
      (pss_cons (ps_for PassesOwn.never rfl (pi_range1 (by rfl) m3 (pa_cons pe_int pa_nil)) (pg_name (i := 5) scLRowOf.nd rfl (Or.inl rfl))
        (pss_cons (ps_if (pt_cmp (pc_din (hu_of hr) (pv 4) (pv 2))) (pss_one ps_break) pss_nil)
        (pss_cons (ps_dput (hu_of hr) (pv 2) (pv 4) (pe_callB call_len_seq (by rfl) m1 (by decide +kernel) (pa_cons (pv 3) pa_nil)) rfl)
        (pss_cons (ps_set (i := 6) scLRowOf.nd rfl (.inl rfl) (pe_ifExp (pt_cmpR op_ge (pe_op op_mul pe_int (pe_ix ix_tup (pv 4) pe_int (fun _ _ => rfl))) (pe_ix ix_tup (pv 4) pe_int (fun _ _ => rfl)) (nomark _)) pe_int
          (pe_ifExp (pt_cmpR op_le (pe_op op_mul pe_int (pe_ix ix_tup (pv 4) pe_int (fun _ _ => rfl))) (pe_un un_neg (pe_ix ix_tup (pv 4) pe_int (fun _ _ => rfl))) (nomark _)) pe_int pe_int)))
        (pss_cons (ps_expr (pe_bm PySem.F.plainAttrs_list PySem.F.slot_list_append PySem.F.type_list_append mt_append (pv 3) (pa_cons (pv 6) pa_nil)))
        (pss_one (ps_set (i := 4) scLRowOf.nd rfl (.inl rfl) (pe_call G1 hr (by rfl) g1 kp1 b1 .nil pass0 (pa_cons (pe_op op_sub (pe_op op_mul pe_int (pe_ix ix_tup (pv 4) pe_int (fun _ _ => rfl))) (pe_op op_mul (pe_op op_sub (pv 6) pe_int) (pe_ix ix_tup (pv 4) pe_int (fun _ _ => rfl)))) (pa_cons (pe_ix ix_tup (pv 4) pe_int (fun _ _ => rfl)) pa_nil))))))))))
      (pss_one (ps_ret (pe_tup (pa_cons (pe_callTy tupB (by rfl) m2 (by decide +kernel) (pa_cons (pe_slice sl_list (pv 3) po_none (po_some (pe_dget (hu_of hr) (pv 2) (pv 4) (fun _ _ => rfl)))) pa_nil))
        (pa_cons (pe_callTy tupB (by rfl) m2 (by decide +kernel) (pa_cons (pe_slice sl_list (pv 3) (po_some (pe_dget (hu_of hr) (pv 2) (pv 4) (fun _ _ => rfl))) po_none) pa_nil)) pa_nil)))))), ?_⟩
    let key : Nat → List L2.Key := fun i => keyK (R49.partI (R49.at_ p q i) q)
    have key_eq : ∀ a b, key a = key b ↔ R49.at_ p q a = R49.at_ p q b := fun a b => by
      rw [← R49.part_inj q0]
      exact ⟨fun h => keyK_inj h, fun h => congrArg keyK h⟩
    refine q_three (E := { nx := _, rt := _ }) (d := partD p q) (ed_call (eds_cons (ed_int (ev_var rfl)) (eds_cons (ed_int (ev_var rfl)) eds_nil)) ⟨p, q, rfl, q0, by omega, by omega, by omega, rfl⟩) fun Dd l x H1 t0 hx0 => ?_
    refine q_forR1 (D := { nx := _, rt := _ }) (n := 9000) (ea_cons ev_c ea_nil) (by omega) (fun j σ' H' => ∃ (x : V) (y z : Option V), σ' = [some (.int p), some (.int q), some (.ref Dd), some (.ref l), some x, y, z] ∧ Two H H' l Dd ((R49.digs p q j).map V.int) (.dT (asc key j)) ∧ Dt H' x (partD (R49.at_ p q j) q) ∧ (∀ b, b < j → ∀ a, a < b → R49.at_ p q a ≠ R49.at_ p q b))
      (fun H2 e2 => ⟨x, none, none, rfl, t0.go e2, hx0.tk (tk_ex e2), fun b hb => by omega⟩) (fun j σ' H' hj inv => ?_) (fun σ' H' inv => ?_)
    · obtain ⟨x, y, z, rfl, tw, hx, dis⟩ := inv
      have fewj := R49.few_of_ne q0 pb dis
      have keyne : ∀ b, b < j → ∀ a, a < b → key a ≠ key b := fun b hb a ha h => dis b hb a ha ((key_eq a b).mp h)
      have len : ((R49.digs p q j).map V.int).length = j := by rw [List.length_map, R49.digs_len]
      have ab := R49.at_in q0 pb j
      obtain ⟨pin, pq⟩ := part_in q0 ab
      have pp := R49.part_pos (R49.at_ p q j) q0
      refine q_when (D := { nx := _, rt := _, bk := _, ct := _ }) (b := decide (∃ i, i < j ∧ key i = key j)) (et_is (et_inP (p := R49.partI (R49.at_ p q j) q) (ev_var rfl) (ed_var rfl hx) tw.hD) (asc_has keyne)) (fun hb H2 e2 => ?_) (fun hb H2 e2 => ?_)
      · obtain ⟨i, hi, he⟩ := of_decide_eq_true hb
        obtain ⟨rfl, rfl⟩ := R49.row_one row ⟨hi, (key_eq i j).mp he, dis⟩
        have tw3 := tw.go e2
        have len := R49.digs_len p q n
        have gt : Ev (tDGet (tVar 2) (tVar 4)) [some (.int p), some (.int q), some (.ref Dd), some (.ref l), some x, some (.int (n : Nat)), z] H2 (.int (s : Nat)) := ev_getP (p := R49.partI (R49.at_ p q n) q) (ev_var rfl) (ed_var rfl (hx.tk (tk_ex e2))) tw3.hD (asc_some hi he keyne)
        unfold tBreak
        dsimp only
        refine sd_ret (ed_tup (eds_cons (ed_tupOf (eld_of (ns := (R49.digs p q n).take s) ?_)) (eds_cons (ed_tupOf (eld_of (ns := (R49.digs p q n).drop s) ?_)) eds_nil)) (by show (2 : Nat) ≤ 100000; decide)) fun x H4 e4 hx => k x H4 (tw3.ex.trans e4) hx
        · rw [← cut_takeV _ len (by omega)]
          exact el_sl (ev_var rfl) eo_none (eo_some gt) (SqL.of tw3.hl)
        · rw [← cut_dropV _ len (by omega)]
          exact el_sl (ev_var rfl) (eo_some gt) eo_none (SqL.of tw3.hl)
      · have new : ∀ i, i < j → key i ≠ key j := fun i hi h => absurd ⟨i, hi, h⟩ (of_decide_eq_false hb)
        have dis' : ∀ b, b < j + 1 → ∀ a, a < b → R49.at_ p q a ≠ R49.at_ p q b := fun b hb a ha => by
          by_cases z : b = j
          · subst z; exact fun h => new a ha ((key_eq a b).mpr h)
          · exact dis b (by omega) a ha
        have tw3 := tw.go e2
        have hx3 := hx.tk (tk_ex e2)
        refine q_putP (D := { nx := _, rt := _, bk := _, ct := _ }) (v := .int j) (p := R49.partI (R49.at_ p q j) q) (ev_is (ev_len (ev_var rfl) (SqL.of tw3.hl)) (by rw [len])) (ev_var rfl) (ed_var rfl hx3) tw3.hD (by rw [asc_len]; omega) fun H4 e4 => ?_
        have ep : putK (asc key j) (keyK (R49.partI (R49.at_ p q j) q)) (V.int (j : Nat)) = asc key (j + 1) := asc_put new
        rw [ep]
        have tw5 := (tw3.go e4).setD (o' := .dT (asc key (j + 1)))
        have hx5 : Dt (upd H4 Dd (.dT (asc key (j + 1)))) x (partD (R49.at_ p q j) q) := (hx3.tk (tk_ex e4)).tk (tk_dT (tw3.go e4).hD)
        generalize upd H4 Dd (.dT (asc key (j + 1))) = H5 at tw5 hx5 ⊢
        have g0 : ∀ {σ : L2.St} {H : Hp}, σ[4]? = some (some x) → Ex H5 H → Ev (tOp (rIxT K) (tVar 4) (tC (.int 0))) σ H (.int (R49.partI (R49.at_ p q j) q).1) := fun h e => int_ed (ed_ix (ed_var h (hx5.tk (tk_ex e))) ev_c rfl)
        have g1 : ∀ {σ : L2.St} {H : Hp}, σ[4]? = some (some x) → Ex H5 H → Ev (tOp (rIxT K) (tVar 4) (tC (.int 1))) σ H (.int (R49.partI (R49.at_ p q j) q).2) := fun h e => int_ed (ed_ix (ed_var h (hx5.tk (tk_ex e))) ev_c rfl)
        have two : ∀ {σ : L2.St} {H : Hp}, σ[4]? = some (some x) → Ex H5 H → Ev (tOp (rI CMul fun i j => .int (i * j)) (tC (.int 2)) (tOp (rIxT K) (tVar 4) (tC (.int 0)))) σ H (.int (2 * (R49.partI (R49.at_ p q j) q).1)) := fun h e => ev_op ev_c (g0 h e) (rv_I (.inl (by decide)))
        have edq : R49.ed p q j = R49.dg (R49.partI (R49.at_ p q j) q).1 (R49.partI (R49.at_ p q j) q).2 := (R49.dg_part _ q0).symm
        have nxq := R49.nx_part (R49.at_ p q j) q0
        have nin := R49.nx_in pp pin
        have edg := R49.dg_dig (R49.partI (R49.at_ p q j) q).1 (R49.partI (R49.at_ p q j) q).2
        have nxe : R49.nx (R49.partI (R49.at_ p q j) q).1 (R49.partI (R49.at_ p q j) q).2 = 2 * (R49.partI (R49.at_ p q j) q).1 - (R49.ed p q j - 1) * (R49.partI (R49.at_ p q j) q).2 := by rw [edq]; rfl
        rw [← edq] at edg
        refine q_asg (D := { nx := _, rt := _, bk := _, ct := _ }) (v := .int (R49.ed p q j)) (ev_if (b := decide ((R49.partI (R49.at_ p q j) q).2 ≤ 2 * (R49.partI (R49.at_ p q j) q).1)) (et_test (ev_op (two rfl (Ex.refl _)) (g1 rfl (Ex.refl _)) rv_I0)) (fun h => ?_) (fun h => ?_)) fun H6 e6 => ?_
        · rw [edq]
          have h := of_decide_eq_true h
          unfold R49.dg
          rw [if_neg (by omega), if_pos h]
          exact ev_c
        · refine ev_if (b := decide (2 * (R49.partI (R49.at_ p q j) q).1 ≤ -(R49.partI (R49.at_ p q j) q).2)) (et_test (ev_op (two rfl (Ex.refl _)) (ev_un (g1 rfl (Ex.refl _)) ru_neg) rv_I0)) (fun h2 => ?_) (fun h2 => ?_)
          · rw [edq]
            unfold R49.dg
            rw [if_pos (of_decide_eq_true h2)]
            exact ev_c
          · rw [edq]
            unfold R49.dg
            rw [if_neg (of_decide_eq_false h2), if_neg (of_decide_eq_false h)]
            exact ev_c
        have tw6 := tw5.go e6
        refine q_app (D := { nx := _, rt := _, bk := _, ct := _ }) tw6.hl (ev_var rfl) (ev_var rfl) (by rw [len]; omega) fun H7 e7 => ?_
        have hl7 := (tw6.go e7).hl
        have tw8 := (tw6.go e7).setL (ys := (R49.digs p q j).map V.int ++ [V.int (R49.ed p q j)])
        have hx8 : Dt (upd H7 l (.lst ((R49.digs p q j).map V.int ++ [V.int (R49.ed p q j)]))) x (partD (R49.at_ p q j) q) := (hx5.tk (tk_ex (e6.trans e7))).tk (tk_lst hl7)
        generalize upd H7 l (.lst ((R49.digs p q j).map V.int ++ [V.int (R49.ed p q j)])) = H8 at tw8 hx8 ⊢
        have i0 : Ev (tOp (rIxT K) (tVar 4) (tC (.int 0))) [some (.int p), some (.int q), some (.ref Dd), some (.ref l), some x, some (.int (j : Nat)), some (.int (R49.ed p q j))] H8 (.int (R49.partI (R49.at_ p q j) q).1) := int_ed (ed_ix (ed_var rfl hx8) ev_c rfl)
        have i1 : Ev (tOp (rIxT K) (tVar 4) (tC (.int 1))) [some (.int p), some (.int q), some (.ref Dd), some (.ref l), some x, some (.int (j : Nat)), some (.int (R49.ed p q j))] H8 (.int (R49.partI (R49.at_ p q j) q).2) := int_ed (ed_ix (ed_var rfl hx8) ev_c rfl)
        refine sd_asg (D := { nx := _, rt := _, bk := _, ct := _ }) (d := partD (R49.at_ p q (j + 1)) q) (ed_call (eds_cons (ed_int (ev_is (ev_op (ev_op ev_c i0 (rv_I (.inl (by decide)))) (ev_op (ev_op (ev_var rfl) ev_c rv_I0) i1 (rv_I (.inl (by omega)))) rv_I0) (congrArg V.int nxe.symm))) (eds_cons (ed_int i1) eds_nil)) ⟨_, _, rfl, pp, by omega, by omega, by omega, ?_⟩) fun x2 H9 e9 hx9 => ?_
        · show placeD (R49.partI (R49.nx (R49.at_ p q j) q) q) = _
          rw [← nxq]
        · refine ⟨x2, _, _, rfl, ?_, hx9, dis'⟩
          have e10 : (R49.digs p q (j + 1)).map V.int = (R49.digs p q j).map V.int ++ [V.int (R49.ed p q j)] := by rw [R49.digs_succ, List.map_append]; rfl
          rw [e10]
          exact tw8.go e9
    · obtain ⟨x, y, z, rfl, tw, hx, dis⟩ := inv
      have fewj := R49.few_of_ne q0 pb dis
      omega
end
end K10
set_option Elab.async false
set_option linter.all false
set_option maxRecDepth 100000
set_option maxHeartbeats 1000000
namespace K10
open PySem PySem.Spec PyProof.Rows L2 Evl
/-! ### the law: numbers, drawn rows, rows beside each other -/
def okNumber (ds : List PyData) (d : PyData) : Prop := ∃ b r : List Int, ds = [rowD b r] ∧ R49.Dig b ∧ R49.Dig r ∧ 0 < r.length ∧ b.length ≤ 6 ∧ r.length ≤ 6 ∧ d = numD b r
def okLRow (ds : List PyData) (P : PyData → Prop) : Prop := ds = [] ∧ P = IsRow 3 6 6
def near (b r b2 r2 : List Int) (n : Nat) : Prop := ∀ i, i < n → -2 ≤ R49.S (ent b r) (i + 1) - R49.S (ent b2 r2) (i + 1) ∧ R49.S (ent b r) (i + 1) - R49.S (ent b2 r2) (i + 1) ≤ 2
instance (b r b2 r2 : List Int) (n : Nat) : Decidable (near b r b2 r2 n) := by unfold near; infer_instance
def okGoes (ds : List PyData) (d : PyData) : Prop := ∃ b r b2 r2 : List Int, ds = [rowD b r, rowD b2 r2] ∧ r ≠ [] ∧ r2 ≠ [] ∧ d = .bool (decide (near b r b2 r2 90))
theorem pow6 {n : Nat} (h : n ≤ 6) : (1 : Int) ≤ 2 ^ n ∧ (2 : Int) ^ n ≤ 64 := by
  refine ⟨R49.pow_pos n, ?_⟩
  have e : ((2 ^ n : Nat) : Int) = (2 : Int) ^ n := Int.natCast_pow ..
  have : (2 : Nat) ^ n ≤ 2 ^ 6 := Nat.pow_le_pow_right (by decide) h
  have e6 : (2 : Nat) ^ 6 = 64 := by decide
  omega
theorem mul_le {x y : Int} {a b : Nat} (hx : x.natAbs ≤ a) (hy : y.natAbs ≤ b) : (x * y).natAbs ≤ a * b := by
  rw [Int.natAbs_mul]
  exact Nat.mul_le_mul hx hy
section
variable {P : Program} {w : World} {K : PySem.W.Frag} {mg : Str → Option Value} {base0 : Heap} {f f1 f2 f3 : Addr} {fd fd1 fd2 fd3 : FuncData} {k : Nat}
theorem ok_number (F : Fun K "_law_number" "_law_number" sNumber f fd)
    (G1 : FnOk P w K mg base0 CX0 k f1 fd1 ["digits"] (spD okSumD)) (g1 : mg "_law_sum" = some (.ref f1)) (kp1 : PySem.W.keepIn K (.ref f1) = true) (b1 : Binds K fd1 ["digits"] [])
    (G2 : FnOk P w K mg base0 CX0 k f2 fd2 ["a", "b"] (spD okPart)) (g2 : mg "_law_part" = some (.ref f2)) (kp2 : PySem.W.keepIn K (.ref f2) = true) (b2 : Binds K fd2 ["a", "b"] []) :
    FnOk P w K mg base0 CX0 (k + 1) f fd ["row"] (spD okNumber) := by
  refine F.ok scNumber (fun vs H Q E h => ?_) (fun cdv A outer s H vs Q E hr h => ?_)
  · obtain ⟨ds, d, all, ⟨b, r, rfl, _⟩, _⟩ := h
    exact all.len
  · obtain ⟨ds, d, all, ⟨b, r, rfl, db, dr, r0, lb, lr, rfl⟩, k⟩ := h
    obtain ⟨x, rfl, hx⟩ := dts1 all
    refine ⟨_, pss_cons (ps_asg (pv 0) (pg_tup (by rfl) (pgs_cons (pg_name (i := 1) scNumber.nd rfl (Or.inl rfl)) (pgs_cons (pg_name (i := 2) scNumber.nd rfl (Or.inl rfl)) pgs_nil))))
      (pss_cons (ps_asg (pe_tup (pa_cons pe_int (pa_cons pe_int pa_nil))) (pg_tup (by rfl) (pgs_cons (pg_name (i := 3) scNumber.nd rfl (Or.inl rfl)) (pgs_cons (pg_name (i := 4) scNumber.nd rfl (Or.inl rfl)) pgs_nil))))
      (pss_cons (ps_for PassesOwn.never rfl (pi_tup (pv 1)) (pg_name (i := 5) scNumber.nd rfl (Or.inl rfl)) (pss_one (ps_set (i := 3) scNumber.nd rfl (.inl rfl) (pe_op op_mul (pv 3) pe_int))))
      (pss_cons (ps_for PassesOwn.never rfl (pi_tup (pv 2)) (pg_name (i := 5) scNumber.nd rfl (Or.inl rfl)) (pss_one (ps_set (i := 4) scNumber.nd rfl (.inl rfl) (pe_op op_mul (pv 4) pe_int))))
      (pss_one (ps_ret (pe_call G2 hr (by rfl) g2 kp2 b2 .nil pass0 (pa_cons (pe_op op_add (pe_op op_mul (pe_call G1 hr (by rfl) g1 kp1 b1 .nil pass0 (pa_cons (pv 1) pa_nil)) (pe_op op_sub (pv 4) pe_int)) (pe_call G1 hr (by rfl) g1 kp1 b1 .nil pass0 (pa_cons (pv 2) pa_nil)))
        (pa_cons (pe_op op_mul (pv 3) (pe_op op_sub (pv 4) pe_int)) pa_nil)))))))), ?_⟩
    refine sd_two (D := { nx := _, rt := _ }) (ed_var rfl hx) fun y z H1 e1 hy hz => ?_
    obtain ⟨a, rfl, ha⟩ := dt_ints hy
    obtain ⟨c, rfl, hc⟩ := dt_ints hz
    refine sd_two (D := { nx := _, rt := _ }) (d1 := .int 1) (d2 := .int 1) (ed_tup (eds_cons (ed_int ev_c) (eds_cons (ed_int ev_c) eds_nil)) (by show (2 : Nat) ≤ 100000; decide)) fun y1 z1 H2 e2 hy1 hz1 => ?_
    cases dt_int hy1
    cases dt_int hz1
    refine q_forT (D := { nx := _, rt := _ }) (ev_var rfl) (SqT.of (e2 _ _ ha)) (fun i σ' H' => Ex H1 H' ∧ ∃ z, σ' = [some x, some (.ref a), some (.ref c), some (.int (2 ^ i)), some (.int 1), z]) (fun H3 e3 => ⟨e2.trans e3, none, rfl⟩) (fun i σ' H' _ p => SqT.of (p.1 _ _ ha)) (fun i v σ' H' hi p => ?_) (fun σ' H' p => ?_)
    · obtain ⟨e3, z, rfl⟩ := p
      exact s_asg (D := { nx := _, rt := _, bk := _, ct := _ }) (v := .int (2 ^ (i + 1))) (ev_is (ev_op (ev_var rfl) ev_c (rv_I (.inr (by decide)))) (by rw [Int.pow_succ])) fun H4 e4 => ⟨e3.trans e4, _, rfl⟩
    obtain ⟨e3, z, rfl⟩ := p
    rw [List.length_map]
    refine q_forT (D := { nx := _, rt := _ }) (ev_var rfl) (SqT.of (e3 _ _ hc)) (fun i σ' H' => Ex H1 H' ∧ ∃ z, σ' = [some x, some (.ref a), some (.ref c), some (.int (2 ^ b.length)), some (.int (2 ^ i)), z]) (fun H4 e4 => ⟨e3.trans e4, z, rfl⟩) (fun i σ' H' _ p => SqT.of (p.1 _ _ hc)) (fun i v σ' H' hi p => ?_) (fun σ' H' p => ?_)
    · obtain ⟨e4, z, rfl⟩ := p
      exact s_asg (D := { nx := _, rt := _, bk := _, ct := _ }) (v := .int (2 ^ (i + 1))) (ev_is (ev_op (ev_var rfl) ev_c (rv_I (.inr (by decide)))) (by rw [Int.pow_succ])) fun H5 e5 => ⟨e4.trans e5, _, rfl⟩
    obtain ⟨e4, z, rfl⟩ := p
    rw [List.length_map]
    have hb := pow6 lb
    have hr' := pow6 lr
    have sb := R49.sumD_bound db
    have sr := R49.sumD_bound dr
    have k1 : (R49.num b r).natAbs ≤ 4032 := by
      have := mul_le (x := R49.sumD b) (y := 2 ^ r.length - 1) (a := 63) (b := 63) (by omega) (by omega)
      unfold R49.num
      omega
    have k2 : (R49.den b r).natAbs ≤ 64 * 63 := mul_le (by omega) (by omega)
    refine sd_ret (ed_call (eds_cons (ed_int (ev_op (ev_op (int_ed (ed_call (eds_cons (ed_var rfl (hy.tk (tk_ex e4))) eds_nil) ⟨b, rfl, by omega, rfl⟩)) (ev_op (ev_var rfl) ev_c rv_I0) (rv_I (.inr (by omega)))) (int_ed (ed_call (eds_cons (ed_var rfl (hz.tk (tk_ex e4))) eds_nil) ⟨r, rfl, by omega, rfl⟩)) rv_I0))
      (eds_cons (ed_int (ev_op (ev_var rfl) (ev_op (ev_var rfl) ev_c rv_I0) (rv_I (.inr (by omega))))) eds_nil)) ⟨R49.num b r, R49.den b r, rfl, R49.den_pos b r0, by omega, by omega, by omega, rfl⟩) fun x' H5 e5 hx' => k x' H5 (e1.trans (e4.trans e5)) hx'
theorem ok_lrow (F : Fun K "_law_row" "_law_row" sRow f fd) (m2 : mg "range" = none) (m3 : mg "tuple" = none)
    (G1 : FnOk P w K mg base0 CX0 k f1 fd1 ["m", "below"] spDraw) (g1 : mg "_law_draw" = some (.ref f1)) (kp1 : PySem.W.keepIn K (.ref f1) = true) (b1 : Binds K fd1 ["m", "below"] []) :
    FnOk P w K mg base0 CX0 (k + 1) f fd ["m"] (spM 14 okLRow) := by
  refine F.ok scRow (fun vs H Q E h => ?_) (fun cdv A outer s H vs Q E hr h => ?_)
  · obtain ⟨m, c, n, xs, ds, P, rfl, all, ⟨rfl, _⟩, _⟩ := h
    have := all.len
    rw [List.length_cons, this]
    rfl
  · obtain ⟨m, c, n, xs, ds, P, rfl, all, ⟨rfl, rfl⟩, mk, few, q⟩ := h
    cases all
    refine ⟨_, pss_cons (ps_set (i := 1) scRow.nd rfl (.inl rfl) (pe_callTy tupB (by rfl) m3 (by decide +kernel) (pa_cons (pe_lc (own := [("k", 2)]) (g := gName 2) rfl scRow.nd (pi_range1 (by rfl) m2 (pa_cons (pe_call G1 hr (by rfl) g1 kp1 b1 .nil pass0 (pa_cons (pv 0) (pa_cons pe_int pa_nil))) pa_nil)) (blkOk_by (N := nRow) (sc := defScope sRow) (by decide +kernel))
        (fun _ _ _ _ _ => pg_name (i := 2) scRow.nd rfl (Or.inl rfl)) (fun _ _ _ _ _ => pts_nil) (fun _ _ _ _ _ => pe_call G1 hr (by rfl) g1 kp1 b1 .nil pass0 (pa_cons (pv 0) (pa_cons pe_int pa_nil)))) pa_nil)))
      (pss_one (ps_ret (pe_tup (pa_cons (pv 1) (pa_cons (pe_callTy tupB (by rfl) m3 (by decide +kernel) (pa_cons (pe_lc (own := [("k", 2)]) (g := gName 2) rfl scRow.nd (pi_range1 (by rfl) m2 (pa_cons (pe_op op_add pe_int (pe_call G1 hr (by rfl) g1 kp1 b1 .nil pass0 (pa_cons (pv 0) (pa_cons pe_int pa_nil)))) pa_nil)) (blkOk_by (N := nRow) (sc := defScope sRow) (by decide +kernel))
        (fun _ _ _ _ _ => pg_name (i := 2) scRow.nd rfl (Or.inl rfl)) (fun _ _ _ _ _ => pts_nil) (fun _ _ _ _ _ => pe_call G1 hr (by rfl) g1 kp1 b1 .nil pass0 (pa_cons (pv 0) (pa_cons pe_int pa_nil)))) pa_nil)) pa_nil))))), ?_⟩
    refine qm_asg (n1 := n + 7) (P := Dg 3 0 6) (D := { nx := _, rt := _ }) mk (em_tupOf (PP := fun ds => ∃ k, k < 7 ∧ Each (Below 3) k ds) (eml_lcR (n1 := n + 1) (t := 1) (top := 6) (pk := fun k => k < 7) (ems_cons (PP := fun ds => ds = []) (em_draw (b := 7) rfl (fun _ _ => ev_c) (by decide) (by decide) (by omega)) (ems_nil rfl) fun d ds hd he => ?_) (fun k hk => by omega) (by decide) (fun _ => rfl) fun i H1 lt e1 => ?_) fun ds pp => ?_) fun x d H1 p1 e1 mk1 hx1 => ?_
    · obtain ⟨k, rfl, hk⟩ := Below.nat (b := 7) hd
      subst he
      exact ⟨k, rfl, hk⟩
    · exact em_draw rfl (fun _ _ => ev_c) (by decide) (by decide) (by omega)
    · obtain ⟨k, hk, he⟩ := pp
      exact each_dg he (Nat.zero_le _) (by omega)
    refine sm_ret mk1 (n1 := n + 14) (P := IsRow 3 6 6) (em_tup (PP := fun ds => ∃ d d', ds = [d, d'] ∧ Dg 3 0 6 d ∧ Dg 3 1 6 d') (ems_cons (P := Dg 3 0 6) (PP := fun ds => ∃ d, ds = [d] ∧ Dg 3 1 6 d) (em_of (fun H2 e2 => ed_var rfl (rc_tk e2 hx1)) p1)
      (ems_cons (P := Dg 3 1 6) (PP := fun ds => ds = []) (em_tupOf (PP := fun ds => ∃ k, (1 ≤ k ∧ k ≤ 6) ∧ Each (Below 3) k ds) (eml_lcR (n1 := n + 8) (t := 1) (top := 6) (pk := fun k => 1 ≤ k ∧ k ≤ 6) (ems_cons (PP := fun ds => ds = []) (em_op (em_of (d := .int 1) (P := fun d => d = .int 1) (fun _ _ => ed_int ev_c) rfl) (em_draw (b := 6) rfl (fun _ _ => ev_c) (by decide) (by decide) (by omega)) (P := fun d => ∃ k : Nat, d = .int k ∧ 1 ≤ k ∧ k ≤ 6) fun x y d e H2 pd pe hx hy => ?_) (ems_nil rfl) fun d ds hd he => ?_) (fun k hk => hk.2) (by decide) (fun _ => rfl) fun i H2 lt e2 => ?_) fun ds pp => ?_)
        (ems_nil rfl) fun d ds hd he => ?_) fun d ds hd he => ?_) fun ds hd => ?_) fun x d H2 pd e2 mk2 hx => ?_
    · subst pd
      obtain ⟨z, rfl, z0, z1⟩ := pe
      cases dt_int hx
      cases dt_int hy
      exact ⟨.int (1 + z), ⟨(1 + z).toNat, by congr 1; omega, by omega, by omega⟩, ed_int (ev_op (ev_var rfl) (ev_var rfl) rv_I0)⟩
    · subst he
      obtain ⟨k, rfl, hk⟩ := hd
      exact ⟨k, rfl, hk⟩
    · exact em_draw rfl (fun _ _ => ev_c) (by decide) (by decide) (by omega)
    · obtain ⟨k, ⟨h1, h2⟩, he⟩ := pp
      exact each_dg he h1 h2
    · subst he
      exact ⟨d, rfl, hd⟩
    · obtain ⟨d', rfl, hd'⟩ := he
      exact ⟨d, d', rfl, hd, hd'⟩
    · obtain ⟨d, d', rfl, h1, h2⟩ := hd
      refine ⟨by show (2 : Nat) ≤ 1000; decide, ?_⟩
      obtain ⟨a, rfl, _, a2, a3⟩ := h1
      obtain ⟨b, rfl, b1, b2, b3⟩ := h2
      exact ⟨a, b, rfl, a2, b1, b2, a3, b3⟩
    · exact q x d H2 pd (e1.trans e2) (mk2.mono (by omega)) hx
theorem ok_goes (F : Fun K "_law_goes" "_law_goes" sGoes f fd) (m2 : mg "range" = none)
    (G1 : FnOk P w K mg base0 CX0 k f1 fd1 ["row", "i"] (spD okEntry)) (g1 : mg "_law_told_entry" = some (.ref f1)) (kp1 : PySem.W.keepIn K (.ref f1) = true) (b1 : Binds K fd1 ["row", "i"] []) :
    FnOk P w K mg base0 CX0 (k + 1) f fd ["one", "two"] (spD okGoes) := by
  refine F.ok scGoes (fun vs H Q E h => ?_) (fun cdv A outer s H vs Q E hr h => ?_)
  · obtain ⟨ds, d, all, ⟨b, r, b2, r2, rfl, _⟩, _⟩ := h
    exact all.len
  · obtain ⟨ds, d, all, ⟨b, r, b2, r2, rfl, r0, r02, rfl⟩, k⟩ := h
    obtain ⟨x, y, rfl, hx, hy⟩ := dts2 all
    refine ⟨_, pss_cons (ps_set (i := 2) scGoes.nd rfl (.inl rfl) pe_int)
      (pss_cons (ps_for PassesOwn.never rfl (pi_range1 (by rfl) m2 (pa_cons pe_int pa_nil)) (pg_name (i := 3) scGoes.nd rfl (Or.inl rfl))
        (pss_cons (ps_set (i := 2) scGoes.nd rfl (.inl rfl) (pe_op op_sub (pe_op op_add (pe_op op_mul pe_int (pv 2)) (pe_call G1 hr (by rfl) g1 kp1 b1 .nil pass0 (pa_cons (pv 0) (pa_cons (pv 3) pa_nil)))) (pe_call G1 hr (by rfl) g1 kp1 b1 .nil pass0 (pa_cons (pv 1) (pa_cons (pv 3) pa_nil)))))
        (pss_one (ps_if (pt_not (pt_chain op_le op_le (pe_un un_neg pe_int) (pv 2) pe_int)) (pss_one (ps_ret pe_bl)) pss_nil))))
      (pss_one (ps_ret pe_bl))), ?_⟩
    refine q_asg (D := { nx := _, rt := _ }) ev_c fun H1 e1 => ?_
    refine q_forR1 (D := { nx := _, rt := _ }) (n := 90) (ea_cons ev_c ea_nil) (by omega) (fun i σ' H' => Ex H H' ∧ (∃ z, σ' = [some x, some y, some (.int (R49.S (ent b r) i - R49.S (ent b2 r2) i)), z]) ∧ near b r b2 r2 i) (fun H2 e2 => ⟨e1.trans e2, ⟨none, rfl⟩, fun i hi => by omega⟩) (fun i σ' H' hi p => ?_) (fun σ' H' p => ?_)
    · obtain ⟨e2, ⟨z, rfl⟩, nr⟩ := p
      have es : 2 * (R49.S (ent b r) i - R49.S (ent b2 r2) i) + ent b r i - ent b2 r2 i = R49.S (ent b r) (i + 1) - R49.S (ent b2 r2) (i + 1) := by
        show _ = (2 * R49.S (ent b r) i + ent b r i - 1) - (2 * R49.S (ent b2 r2) i + ent b2 r2 i - 1)
        omega
      refine q_asg (D := { nx := _, rt := _, bk := _, ct := _ }) (v := .int (R49.S (ent b r) (i + 1) - R49.S (ent b2 r2) (i + 1))) (ev_is (ev_op (ev_op (ev_op ev_c (ev_var rfl) (rv_I (.inl (by decide)))) (int_ed (ed_call (eds_cons (ed_var rfl (hx.tk (tk_ex e2))) (eds_cons (ed_int (ev_var rfl)) eds_nil)) ⟨b, r, i, rfl, r0, rfl⟩)) rv_I0)
        (int_ed (ed_call (eds_cons (ed_var rfl (hy.tk (tk_ex e2))) (eds_cons (ed_int (ev_var rfl)) eds_nil)) ⟨b2, r2, i, rfl, r02, rfl⟩)) rv_I0) (congrArg V.int es)) fun H2 e3 => ?_
      refine s_when (D := { nx := _, rt := _, bk := _, ct := _ }) (et_not (et_test (ev_between (ev_un ev_c ru_neg) (ev_var rfl) ev_c))) (fun hb H3 e4 => ?_) (fun hb H3 e4 => ?_)
      · have no : ¬ near b r b2 r2 90 := fun h => by
          have := h i (by omega)
          simp at hb
          omega
        refine s_ret (ev_c (v := .bl false)) fun H4 e5 => k _ H4 (((e2.trans e3).trans e4).trans e5) ?_
        rw [decide_eq_false no]
        exact .bl false
      · refine ⟨(e2.trans e3).trans e4, ⟨_, rfl⟩, fun j hj => ?_⟩
        by_cases z : j = i
        · subst z
          simp at hb
          omega
        · exact nr j (by omega)
    · obtain ⟨e2, ⟨z, rfl⟩, nr⟩ := p
      refine s_ret (ev_c (v := .bl true)) fun H3 e4 => k _ H3 (e2.trans e4) ?_
      rw [decide_eq_true (show near b r b2 r2 90 from nr)]
      exact .bl true
end
end K10
set_option Elab.async false
set_option linter.all false
set_option maxRecDepth 100000
set_option maxHeartbeats 1000000
namespace K10
open PySem PySem.Spec PyProof.Rows L2 Evl
/-! ### the law: what is asked of drawn rows -/
theorem showK {X : Cx} (K : PySem.W.Frag) (e : X.K = K) (guard : X.A.guards = some []) (hu : X.A.units + 64 < cLine) : CallR X (.builtin "repr") (rShow K) := by
  subst e
  exact call_show guard hu
theorem ed_ix0 {K : PySem.W.Frag} {σ : L2.St} {H : Hp} {x : V} {i : Nat} {bs rs : List Int} (h : σ[i]? = some (some x)) (hx : Dt H x (rowD bs rs)) : EvD (tOp (rIxT K) (tVar i) (tC (.int 0))) σ H (intsD bs) := ed_ix (d := intsD bs) (ed_var h hx) ev_c (at0 _ _)
theorem entE (b r : List Int) : R49.ent b r = ent b r := rfl
theorem num_in {b r : List Int} (hb : R49.Dig b) (hr : R49.Dig r) (r0 : 0 < r.length) : -R49.den b r ≤ R49.num b r ∧ R49.num b r ≤ R49.den b r := by
  have h := R49.T_le hb hr r0 0
  have e : R49.T b r 0 = R49.num b r := by
    show 2 ^ 0 * R49.num b r - R49.den b r * 0 = _
    rw [Int.pow_zero]
    omega
  rw [e] at h
  exact h
theorem near_same {b r b2 r2 : List Int} (hb : R49.Dig b) (hr : R49.Dig r) (r0 : 0 < r.length) (hb2 : R49.Dig b2) (hr2 : R49.Dig r2) (r02 : 0 < r2.length) (h : R49.num b r * R49.den b2 r2 = R49.num b2 r2 * R49.den b r) : near b r b2 r2 90 := fun i _ => by
  rw [← entE, ← entE]
  exact R49.goes_of_same hb hr r0 hb2 hr2 r02 h (i + 1)
theorem same_near {b r b2 r2 : List Int} (hb : R49.Dig b) (hr : R49.Dig r) (r0 : 0 < r.length) (hb2 : R49.Dig b2) (hr2 : R49.Dig r2) (r02 : 0 < r2.length) (small : 4 * (R49.den b r * R49.den b2 r2) < 2 ^ 90) (h : near b r b2 r2 90) : R49.num b r * R49.den b2 r2 = R49.num b2 r2 * R49.den b r := by
  have k := h 89 (by decide)
  rw [← entE, ← entE] at k
  exact R49.same_of_goes hb hr r0 hb2 hr2 r02 small k
theorem part_le {p q : Int} (h : 0 < q) : -p.natAbs ≤ (R49.partI p q).1 ∧ (R49.partI p q).1 ≤ p.natAbs ∧ (R49.partI p q).2 ≤ q := by
  obtain ⟨h1, h2⟩ := R49.part_mul p h
  have g := R49.gI_pos p h
  have pb := R49.part_pos p h
  generalize (R49.partI p q).1 = a at *
  generalize (R49.partI p q).2 = b at *
  generalize R49.gI p q = c at *
  have k2 : 1 * b ≤ c * b := Int.mul_le_mul_of_nonneg_right (by omega) (by omega)
  have k1 : a.natAbs ≤ p.natAbs := by
    rw [← h1, Int.natAbs_mul]
    exact Nat.le_mul_of_pos_left _ (by omega)
  omega
theorem den6 {b r : List Int} (lb : b.length ≤ 6) (lr : r.length ≤ 6) : R49.den b r ≤ 4032 := by
  have h1 := pow6 lb
  have h2 := pow6 lr
  have k2 : (R49.den b r).natAbs ≤ 64 * 63 := mul_le (by omega) (by omega)
  omega
theorem numD_eq {b r b2 r2 : List Int} (r0 : 0 < r.length) (r02 : 0 < r2.length) : PyData.eqv (numD b r) (numD b2 r2) = decide (R49.num b r * R49.den b2 r2 = R49.num b2 r2 * R49.den b r) := by
  unfold numD
  rw [eqv_ints]
  have k := R49.part_eq (a := R49.num b r) (c := R49.num b2 r2) (R49.den_pos b r0) (R49.den_pos b2 r02)
  by_cases h : R49.num b r * R49.den b2 r2 = R49.num b2 r2 * R49.den b r
  · rw [k.mpr h, decide_eq_true h]
    exact decide_eq_true rfl
  · rw [decide_eq_false h]
    refine decide_eq_false fun z => h (k.mp ?_)
    injection z with z1 z2
    injection z2 with z2 _
    exact Prod.ext z1 z2
theorem f_num {b r : List Int} (lo : -10000000000000000000 < (R49.partI (R49.num b r) (R49.den b r)).1) (hi : (R49.partI (R49.num b r) (R49.den b r)).1 < 10000000000000000000) (lo2 : 0 < (R49.partI (R49.num b r) (R49.den b r)).2) (hi2 : (R49.partI (R49.num b r) (R49.den b r)).2 < 10000000000000000000) : Fine 2 1 (numD b r) :=
  (f_tuple (fa_cons (f_int lo hi) (fa_cons (f_int (by omega) hi2) fa_nil))).up (by decide) (by decide)
theorem qm_par {σ : L2.St} {H : Hp} {D : Ends} {tz : TS} {m c : Addr} {n n1 : Nat} {ta : TA} {i j : Nat} {P1 P2 : PyData → Prop} (mk : Mok H m c n) (h : EvMs m c ta σ H n n1 fun ds => ∃ d d', ds = [d, d'] ∧ P1 d ∧ P2 d')
    (k : ∀ x y d d' H1, P1 d → P2 d' → Kin H H1 → Mok H1 m c n1 → Dt H1 x d → Dt H1 y d' → tz D ((σ.set i (some x)).set j (some y)) H1) : tSeq (tPar i j ta) tz D σ H :=
  h H (Kin.refl _) mk _ fun xs ds H1 pp e1 mk1 hxs => by
    obtain ⟨d, d', rfl, p1, p2⟩ := pp
    obtain ⟨x, y, rfl, hx, hy⟩ := dts2 hxs
    exact ⟨x, y, rfl, k x y d d' H1 p1 p2 e1 mk1 hx hy⟩
theorem sm_when {σ : L2.St} {H : Hp} {D : Ends} {tu : TS} {m c : Addr} {n n1 : Nat} {te : TE} (mk : Mok H m c n) (h : EvM m c te σ H n n1 fun d => ∃ b, d = .bool b) (k1 : ∀ H1, Kin H H1 → Mok H1 m c n1 → tu D σ H1) (k2 : ∀ H1, Kin H H1 → Mok H1 m c n1 → D.nx σ H1) : tIfS (tTest te) tu tNext D σ H :=
  h H (Kin.refl _) mk _ fun x d H1 pd e1 mk1 hx => by
    obtain ⟨b, rfl⟩ := pd
    cases dt_bool hx
    refine ⟨b, rfl, ?_⟩
    cases b with
    | true => exact k1 H1 e1 mk1
    | false => exact k2 H1 e1 mk1
/-- an int from 1 to 4096 -/
def Q4 (d : PyData) : Prop := ∃ z : Int, d = .int z ∧ 1 ≤ z ∧ z ≤ 4096
theorem each_nil {P : PyData → Prop} : Each P 0 [] := ⟨rfl, fun d hd => by cases hd⟩
theorem each_cons {P : PyData → Prop} {n : Nat} {d : PyData} {ds : List PyData} (h : P d) (hs : Each P n ds) : Each P (n + 1) (d :: ds) := ⟨by rw [List.length_cons, hs.1], fun e he => by
  rcases List.mem_cons.mp he with rfl | he
  · exact h
  · exact hs.2 e he⟩
theorem em_q4 {m c : Addr} {σ : L2.St} {H : Hp} {n : Nat} {z : Int} (h1 : 1 ≤ z) (h2 : z ≤ 4096) : EvM m c (tC (.int z)) σ H n n Q4 := em_of (fun _ _ => ed_int ev_c) ⟨z, rfl, h1, h2⟩
theorem em_pickE {K : PySem.W.Frag} {σ : L2.St} {H : Hp} {m c : Addr} {n n1 : Nat} {te : TE} {i : Nat} {E : XK} {P : PyData → Prop} {N : Nat} (hi : σ[i]? = some (some (.ref m))) (h : EvMl m c te σ H n n1 (Each P N)) (full : 0 < N) (small : N ≤ 1000) (few : n1 + 1 < 1000000) :
    EvM m c (tCall (spPick K) [] E (tCons (tVar i) (tCons te tNil))) σ H n (n1 + 1) P := fun H1 e1 mk Q q =>
  ⟨_, hi, h H1 e1 mk _ fun p xs ds H2 pp e2 mk2 hp all => ⟨m, c, p, n1, xs, rfl, SqL.of hp, fun z => by
      have := all.len
      rw [z, pp.1] at this
      simp at this
      omega, by rw [all.len, pp.1]; exact small, mk2, few, fun z H' hz e3 mk3 => by
      obtain ⟨j, hj⟩ := List.getElem?_of_mem hz
      have lt : j < ds.length := by
        rw [← all.len]
        exact (List.getElem?_eq_some_iff.mp hj).1
      obtain ⟨y, hy, hd⟩ := all.get (List.getElem?_eq_getElem lt)
      rw [hj] at hy
      cases hy
      exact q z ds[j] H' (pp.2 _ (List.getElem_mem lt)) (e2.trans e3) mk3 (hd.tk (tk_kin e3))⟩⟩
def spRight : Sp := fun vs H Q _ => ∃ (m c : Addr) (n : Nat), vs = [.ref m] ∧ Mok H m c n ∧ n + 40 < 1000000 ∧ ∀ H', Kin H H' → Mok H' m c (n + 40) → Q (.bl true) H'
section
variable {P : Program} {w : World} {K : PySem.W.Frag} {mg : Str → Option Value} {base : Heap} {f f1 f2 f3 f4 f5 f6 f7 f8 f9 f10 f11 : Addr} {fd fd1 fd2 fd3 fd4 fd5 fd6 fd7 fd8 fd9 fd10 fd11 : FuncData} {k : Nat}
theorem ok_right (F : Fun K "_law_right" "_law_right" sRight f fd) (m4 : mg "repr" = none)
    (G1 : FnOk P w K mg base CX0 k f1 fd1 ["m", "below"] spDraw) (g1 : mg "_law_draw" = some (.ref f1)) (kp1 : PySem.W.keepIn K (.ref f1) = true) (b1 : Binds K fd1 ["m", "below"] [])
    (G2 : FnOk P w K mg base CX0 k f2 fd2 ["m", "some"] (spPick K)) (g2 : mg "_law_of" = some (.ref f2)) (kp2 : PySem.W.keepIn K (.ref f2) = true) (b2 : Binds K fd2 ["m", "some"] [])
    (G3 : FnOk P w K mg base CX0 k f3 fd3 ["m"] (spM 14 okLRow)) (g3 : mg "_law_row" = some (.ref f3)) (kp3 : PySem.W.keepIn K (.ref f3) = true) (b3 : Binds K fd3 ["m"] [])
    (G4 : FnOk P w K mg base CX0 k f4 fd4 ["p", "q"] (spD okRowOf)) (g4 : mg "_law_row_of" = some (.ref f4)) (kp4 : PySem.W.keepIn K (.ref f4) = true) (b4 : Binds K fd4 ["p", "q"] [])
    (G5 : FnOk P w K mg base CX0 k f5 fd5 ["row"] (spD okNumber)) (g5 : mg "_law_number" = some (.ref f5)) (kp5 : PySem.W.keepIn K (.ref f5) = true) (b5 : Binds K fd5 ["row"] [])
    (G6 : FnOk P w K mg base CX0 k f6 fd6 ["row"] (spD okValue)) (g6 : mg "value_of" = some (.ref f6)) (kp6 : PySem.W.keepIn K (.ref f6) = true) (b6 : Binds K fd6 ["row"] [])
    (G7 : FnOk P w K mg base CX0 k f7 fd7 ["entries"] (spD okSumD)) (g7 : mg "sum_of" = some (.ref f7)) (kp7 : PySem.W.keepIn K (.ref f7) = true) (b7 : Binds K fd7 ["entries"] [])
    (G8 : FnOk P w K mg base CX0 k f8 fd8 ["digits"] (spD okSumD)) (g8 : mg "_law_sum" = some (.ref f8)) (kp8 : PySem.W.keepIn K (.ref f8) = true) (b8 : Binds K fd8 ["digits"] [])
    (G9 : FnOk P w K mg base CX0 k f9 fd9 ["one", "two"] (spD okGoes)) (g9 : mg "_law_goes" = some (.ref f9)) (kp9 : PySem.W.keepIn K (.ref f9) = true) (b9 : Binds K fd9 ["one", "two"] [])
    (G10 : FnOk P w K mg base CX0 k f10 fd10 ["p", "q"] (spD okRowOf)) (g10 : mg "row_of" = some (.ref f10)) (kp10 : PySem.W.keepIn K (.ref f10) = true) (b10 : Binds K fd10 ["p", "q"] [])
    (G11 : FnOk P w K mg base CX0 k f11 fd11 ["a", "b"] (spD okPart)) (g11 : mg "_law_part" = some (.ref f11)) (kp11 : PySem.W.keepIn K (.ref f11) = true) (b11 : Binds K fd11 ["a", "b"] []) :
    Ok1 P w K mg base (k + 1) f fd ["m"] spRight := by
  refine ok1_of F scRight (fun vs H Q E h => ?_) (fun cdv A outer s H vs Q E guard hr h => ?_)
  · obtain ⟨m, c, n, rfl, _⟩ := h
    rfl
  · obtain ⟨m, c, n, rfl, mk, few, q⟩ := h
    refine ⟨_, pss_cons (ps_par (i := 1) (j := 2) (by rfl) scRight.nd rfl rfl (by decide) rfl rfl (pa_cons (pe_call G3 hr (by rfl) g3 kp3 b3 .nil pass0 (pa_cons (pv 0) pa_nil)) (pa_cons (pe_call G3 hr (by rfl) g3 kp3 b3 .nil pass0 (pa_cons (pv 0) pa_nil)) pa_nil)) (by rfl))
      (pss_cut (ps_if (pt_cmpR op_eq (pe_call G1 hr (by rfl) g1 kp1 b1 .nil pass0 (pa_cons (pv 0) (pa_cons pe_int pa_nil))) pe_int (nomark _))
        (pss_one (ps_set (i := 2) scRight.nd rfl (.inl rfl) (pe_call G4 hr (by rfl) g4 kp4 b4 .nil pass0 (pa_cons (pe_ix ix_tup (pe_call G5 hr (by rfl) g5 kp5 b5 .nil pass0 (pa_cons (pv 1) pa_nil)) pe_int (fun _ _ => rfl)) (pa_cons (pe_ix ix_tup (pe_call G5 hr (by rfl) g5 kp5 b5 .nil pass0 (pa_cons (pv 1) pa_nil)) pe_int (fun _ _ => rfl)) pa_nil))))) pss_nil)
      (pss_cons (ps_if (pt_cmpR op_ne (pe_callB (showK K rfl guard hr.units) (by rfl) m4 (by decide +kernel) (pa_cons (pe_lst (pa_cons (pe_call G6 hr (by rfl) g6 kp6 b6 .nil pass0 (pa_cons (pv 1) pa_nil)) (pa_cons (pe_call G7 hr (by rfl) g7 kp7 b7 .nil pass0 (pa_cons (pe_ix ix_tup (pv 1) pe_int (fun _ _ => rfl)) pa_nil)) pa_nil))) pa_nil))
          (pe_callB (showK K rfl guard hr.units) (by rfl) m4 (by decide +kernel) (pa_cons (pe_lst (pa_cons (pe_call G5 hr (by rfl) g5 kp5 b5 .nil pass0 (pa_cons (pv 1) pa_nil)) (pa_cons (pe_call G8 hr (by rfl) g8 kp8 b8 .nil pass0 (pa_cons (pe_ix ix_tup (pv 1) pe_int (fun _ _ => rfl)) pa_nil)) pa_nil))) pa_nil)) (nomark _)) (pss_one (ps_ret pe_bl)) pss_nil)
      (pss_cons (ps_if (pt_cmpR op_ne (pe_cmpR (op_eqD hr.units) (pe_call G6 hr (by rfl) g6 kp6 b6 .nil pass0 (pa_cons (pv 1) pa_nil)) (pe_call G6 hr (by rfl) g6 kp6 b6 .nil pass0 (pa_cons (pv 2) pa_nil)) (nomark _)) (pe_call G9 hr (by rfl) g9 kp9 b9 .nil pass0 (pa_cons (pv 1) (pa_cons (pv 2) pa_nil))) (nomark _)) (pss_one (ps_ret pe_bl)) pss_nil)
      (pss_cons (ps_set (i := 3) scRight.nd rfl (.inl rfl) (pe_call G2 hr (by rfl) g2 kp2 b2 .nil pass0 (pa_cons (pv 0) (pa_cons (pe_lst (pa_cons pe_int (pa_cons pe_int (pa_cons pe_int (pa_cons pe_int (pa_cons pe_int (pa_cons pe_int (pa_cons pe_int (pa_cons (pe_op op_add pe_int (pe_call G1 hr (by rfl) g1 kp1 b1 .nil pass0 (pa_cons (pv 0) (pa_cons pe_int pa_nil))))
          (pa_cons (pe_op op_add pe_int (pe_call G1 hr (by rfl) g1 kp1 b1 .nil pass0 (pa_cons (pv 0) (pa_cons pe_int pa_nil)))) pa_nil)))))))))) pa_nil))))
      (pss_cons (ps_set (i := 4) scRight.nd rfl (.inl rfl) (pe_op op_sub (pe_call G1 hr (by rfl) g1 kp1 b1 .nil pass0 (pa_cons (pv 0) (pa_cons (pe_op op_add (pe_op op_mul pe_int (pv 3)) pe_int) pa_nil))) (pv 3)))
      (pss_cons (ps_set (i := 5) scRight.nd rfl (.inl rfl) (pe_call G10 hr (by rfl) g10 kp10 b10 .nil pass0 (pa_cons (pv 4) (pa_cons (pv 3) pa_nil))))
      (pss_one (ps_ret (pe_and (pe_cmpR op_eq (pe_callB (showK K rfl guard hr.units) (by rfl) m4 (by decide +kernel) (pa_cons (pv 5) pa_nil)) (pe_callB (showK K rfl guard hr.units) (by rfl) m4 (by decide +kernel) (pa_cons (pe_call G4 hr (by rfl) g4 kp4 b4 .nil pass0 (pa_cons (pv 4) (pa_cons (pv 3) pa_nil))) pa_nil)) (nomark _))
        (pe_one (pe_cmpR op_eq (pe_callB (showK K rfl guard hr.units) (by rfl) m4 (by decide +kernel) (pa_cons (pe_call G6 hr (by rfl) g6 kp6 b6 .nil pass0 (pa_cons (pv 5) pa_nil)) pa_nil)) (pe_callB (showK K rfl guard hr.units) (by rfl) m4 (by decide +kernel) (pa_cons (pe_call G11 hr (by rfl) g11 kp11 b11 .nil pass0 (pa_cons (pv 4) (pa_cons (pv 3) pa_nil))) pa_nil)) (nomark _)))))))))))), ?_⟩
    refine qm_par (D := { nx := _, rt := _ }) (n1 := n + 28) (P1 := IsRow 3 6 6) (P2 := IsRow 3 6 6) mk (ems_cons (n1 := n + 14) (P := IsRow 3 6 6) (PP := fun ds => ∃ d, ds = [d] ∧ IsRow 3 6 6 d) (em_call (t := 14) (ok := okLRow) (ds := []) (P := IsRow 3 6 6) rfl (fun _ _ => eds_nil) ⟨rfl, rfl⟩ (by omega))
      (ems_cons (n1 := n + 28) (P := IsRow 3 6 6) (PP := fun ds => ds = []) (em_call (t := 14) (ok := okLRow) (ds := []) (P := IsRow 3 6 6) rfl (fun _ _ => eds_nil) ⟨rfl, rfl⟩ (by omega)) (ems_nil rfl) fun d ds hd he => ⟨d, by rw [he], hd⟩) fun d ds hd ⟨d', he, hd'⟩ => ⟨d, d', by rw [he], hd, hd'⟩) fun x1 x2 d1 d2 H1 p1 p2 e1 mk1 hx1 hx2 => ?_
    obtain ⟨bs, rs, rfl, lb, lr1, lr, dbs, drs⟩ := p1
    obtain ⟨bs2, rs2, rfl, lb2, lr12, lr2, dbs2, drs2⟩ := p2
    have D1 : R49.Dig bs := fun d hd => by have := dbs d hd; omega
    have R1 : R49.Dig rs := fun d hd => by have := drs d hd; omega
    have D2 : R49.Dig bs2 := fun d hd => by have := dbs2 d hd; omega
    have R2 : R49.Dig rs2 := fun d hd => by have := drs2 d hd; omega
    have r0 : 0 < rs.length := lr1
    have rne : rs ≠ [] := fun z => by rw [z] at r0; cases r0
    have dp := R49.den_pos bs r0
    have d6 := den6 lb lr
    have ni := num_in D1 R1 r0
    have pl := part_le (p := R49.num bs rs) dp
    have pp := R49.part_pos (R49.num bs rs) dp
    have pin := part_in dp ni
    have ma := part_in dp ni
    refine q_cut (M := fun σ' H' => ∃ (y : V) (b2 r2 : List Int), σ' = [some (.ref m), some x1, some y, none, none, none] ∧ R49.Dig b2 ∧ R49.Dig r2 ∧ 0 < r2.length ∧ b2.length + r2.length ≤ 8900 ∧ (R49.num bs rs * R49.den b2 r2 = R49.num b2 r2 * R49.den bs rs ↔ near bs rs b2 r2 90) ∧ Kin H H' ∧ Mok H' m c (n + 29) ∧ Dt H' x1 (rowD bs rs) ∧ Dt H' y (rowD b2 r2)) ?_ fun σ' H' hM => ?_
    · refine sm_when (n1 := n + 29) (D := { nx := _, rt := _ }) mk1 (em_zero (em_draw (b := 3) rfl (fun _ _ => ev_c) (by decide) (by decide) (by omega))) (fun H2 e2 mk2 => ?_) (fun H2 e2 mk2 => ?_)
      · have hx1' := rc_tk e2 hx1
        obtain ⟨n', s', row⟩ := R49.row_is pp pin.1
        have few' := row.few pp pin.1
        have lt := row.lt
        have rv := R49.row_value row
        have l1 : ((R49.digs (R49.partI (R49.num bs rs) (R49.den bs rs)).1 (R49.partI (R49.num bs rs) (R49.den bs rs)).2 n').take s').length = s' := by rw [List.length_take, R49.digs_len]; omega
        have l2 : ((R49.digs (R49.partI (R49.num bs rs) (R49.den bs rs)).1 (R49.partI (R49.num bs rs) (R49.den bs rs)).2 n').drop s').length = n' - s' := by rw [List.length_drop, R49.digs_len]
        have dg := R49.digs_dig (R49.partI (R49.num bs rs) (R49.den bs rs)).1 (R49.partI (R49.num bs rs) (R49.den bs rs)).2 n'
        have dB : R49.Dig ((R49.digs (R49.partI (R49.num bs rs) (R49.den bs rs)).1 (R49.partI (R49.num bs rs) (R49.den bs rs)).2 n').take s') := fun d hd => dg d (List.mem_of_mem_take hd)
        have dR : R49.Dig ((R49.digs (R49.partI (R49.num bs rs) (R49.den bs rs)).1 (R49.partI (R49.num bs rs) (R49.den bs rs)).2 n').drop s') := fun d hd => dg d (List.mem_of_mem_drop hd)
        obtain ⟨m1, m2⟩ := R49.part_mul (R49.num bs rs) dp
        refine sd_asg (D := { nx := _, rt := _ }) (ed_call (eds_cons (ed_ix (d := .int (R49.partI (R49.num bs rs) (R49.den bs rs)).1) (ed_call (eds_cons (ed_var rfl hx1') eds_nil) ⟨bs, rs, rfl, D1, R1, r0, lb, lr, rfl⟩) ev_c rfl) (eds_cons (ed_ix (d := .int (R49.partI (R49.num bs rs) (R49.den bs rs)).2) (ed_call (eds_cons (ed_var rfl hx1') eds_nil) ⟨bs, rs, rfl, D1, R1, r0, lb, lr, rfl⟩) ev_c rfl) eds_nil)) ⟨_, _, n', s', rfl, pp, by omega, pin.1, row, rfl⟩) fun y H3 e3 hy => ?_
        have cross : R49.num bs rs * R49.den ((R49.digs (R49.partI (R49.num bs rs) (R49.den bs rs)).1 (R49.partI (R49.num bs rs) (R49.den bs rs)).2 n').take s') ((R49.digs (R49.partI (R49.num bs rs) (R49.den bs rs)).1 (R49.partI (R49.num bs rs) (R49.den bs rs)).2 n').drop s') = R49.num ((R49.digs (R49.partI (R49.num bs rs) (R49.den bs rs)).1 (R49.partI (R49.num bs rs) (R49.den bs rs)).2 n').take s') ((R49.digs (R49.partI (R49.num bs rs) (R49.den bs rs)).1 (R49.partI (R49.num bs rs) (R49.den bs rs)).2 n').drop s') * R49.den bs rs := by
          generalize R49.num ((R49.digs (R49.partI (R49.num bs rs) (R49.den bs rs)).1 (R49.partI (R49.num bs rs) (R49.den bs rs)).2 n').take s') ((R49.digs (R49.partI (R49.num bs rs) (R49.den bs rs)).1 (R49.partI (R49.num bs rs) (R49.den bs rs)).2 n').drop s') = N2 at rv ⊢
          generalize R49.den ((R49.digs (R49.partI (R49.num bs rs) (R49.den bs rs)).1 (R49.partI (R49.num bs rs) (R49.den bs rs)).2 n').take s') ((R49.digs (R49.partI (R49.num bs rs) (R49.den bs rs)).1 (R49.partI (R49.num bs rs) (R49.den bs rs)).2 n').drop s') = D2' at rv ⊢
          generalize (R49.partI (R49.num bs rs) (R49.den bs rs)).1 = A at rv m1
          generalize (R49.partI (R49.num bs rs) (R49.den bs rs)).2 = B at rv m2
          generalize R49.gI (R49.num bs rs) (R49.den bs rs) = G at m1 m2
          rw [← m1, ← m2]
          grind
        exact ⟨y, _, _, rfl, dB, dR, by omega, by omega, ⟨fun _ => near_same D1 R1 r0 dB dR (by omega) cross, fun _ => cross⟩, (e1.trans e2).trans (kin_ex e3), mk2.ex e3, hx1'.tk (tk_ex e3), hy⟩
      · have small : 4 * (R49.den bs rs * R49.den bs2 rs2) < 2 ^ 90 := by
          have k1 := den6 lb lr
          have k2 := den6 lb2 lr2
          have dp2 := R49.den_pos bs2 (r := rs2) lr12
          have k3 : (R49.den bs rs * R49.den bs2 rs2).natAbs ≤ 4032 * 4032 := mul_le (by omega) (by omega)
          have e90 : (2 : Int) ^ 90 = 1237940039285380274899124224 := by decide
          omega
        exact ⟨x2, bs2, rs2, rfl, D2, R2, lr12, by omega, ⟨near_same D1 R1 r0 D2 R2 lr12, same_near D1 R1 r0 D2 R2 lr12 small⟩, e1.trans e2, mk2, rc_tk e2 hx1, rc_tk e2 hx2⟩
    obtain ⟨y, b2, r2, rfl, dB, dR, r02, lsum, iff, e2, mk2, hx1, hy⟩ := hM
    have sb := R49.sumD_bound D1
    have p6 := pow6 lb
    have fine1 := f_list (fa_cons (f_num (b := bs) (r := rs) (by omega) (by omega) pp (by omega)) (fa_cons (f_int (i := R49.sumD bs) (by omega) (by omega)) fa_nil))
    refine q_unless (et_neS (ev_showL (eld_lst (eds_cons (ed_call (eds_cons (ed_var rfl hx1) eds_nil) ⟨bs, rs, rfl, D1, R1, r0, by omega, rfl⟩) (eds_cons (ed_call (eds_cons (ed_ix0 rfl hx1) eds_nil) ⟨bs, rfl, by omega, rfl⟩) eds_nil)) (by show (2 : Nat) ≤ 100000; decide)) fine1 (by decide) (by decide))
      (ev_showL (eld_lst (eds_cons (ed_call (eds_cons (ed_var rfl hx1) eds_nil) ⟨bs, rs, rfl, D1, R1, r0, lb, lr, rfl⟩) (eds_cons (ed_call (eds_cons (ed_ix0 rfl hx1) eds_nil) ⟨bs, rfl, by omega, rfl⟩) eds_nil)) (by show (2 : Nat) ≤ 100000; decide)) fine1 (by decide) (by decide))) (neS rfl) fun H4 e4 => ?_
    have hx14 := hx1.tk (tk_ex e4)
    have hy4 := hy.tk (tk_ex e4)
    refine q_unless (et_test (ev_op (ev_eqD (ed_call (eds_cons (ed_var rfl hx14) eds_nil) ⟨bs, rs, rfl, D1, R1, r0, by omega, rfl⟩) (ed_call (eds_cons (ed_var rfl hy4) eds_nil) ⟨b2, r2, rfl, dB, dR, r02, lsum, rfl⟩) (shaped_ints _) (shaped_ints _))
      (bool_ed (ed_call (eds_cons (ed_var rfl hx14) (eds_cons (ed_var rfl hy4) eds_nil)) ⟨bs, rs, b2, r2, rfl, rne, (fun z => by rw [z] at r02; cases r02), rfl⟩)) (rv_ne rfl))) ?_ fun H5 e5 => ?_
    · have ee : decide (R49.num bs rs * R49.den b2 r2 = R49.num b2 r2 * R49.den bs rs) = decide (near bs rs b2 r2 90) := decide_eq_decide.mpr iff
      rw [numD_eq r0 r02, ee]
      simp
    have mk5 := mk2.ex (e4.trans e5)
    refine qm_asg (n1 := n + 32) (P := Q4) (D := { nx := _, rt := _ }) mk5 (em_pickE (n1 := n + 31) (N := 9) rfl (eml_lst (PP := Each Q4 9) (ems_cons (P := Q4) (PP := Each Q4 8) (em_q4 (by decide) (by decide)) (ems_cons (P := Q4) (PP := Each Q4 7) (em_q4 (by decide) (by decide)) (ems_cons (P := Q4) (PP := Each Q4 6) (em_q4 (by decide) (by decide)) (ems_cons (P := Q4) (PP := Each Q4 5) (em_q4 (by decide) (by decide)) (ems_cons (P := Q4) (PP := Each Q4 4) (em_q4 (by decide) (by decide))
      (ems_cons (P := Q4) (PP := Each Q4 3) (em_q4 (by decide) (by decide)) (ems_cons (P := Q4) (PP := Each Q4 2) (em_q4 (by decide) (by decide)) (ems_cons (n1 := n + 30) (P := Q4) (PP := Each Q4 1) (em_op (em_of (d := .int 1) (P := fun d => d = .int 1) (fun _ _ => ed_int ev_c) rfl) (em_draw (b := 90) rfl (fun _ _ => ev_c) (by decide) (by decide) (by omega)) fun x y d e H6 pd pe hx hy => ?_)
        (ems_cons (n1 := n + 31) (P := Q4) (PP := Each Q4 0) (em_op (em_of (d := .int 1) (P := fun d => d = .int 1) (fun _ _ => ed_int ev_c) rfl) (em_draw (b := 4096) rfl (fun _ _ => ev_c) (by decide) (by decide) (by omega)) fun x y d e H6 pd pe hx hy => ?_) (ems_nil each_nil) fun _ _ => each_cons) fun _ _ => each_cons) fun _ _ => each_cons) fun _ _ => each_cons) fun _ _ => each_cons) fun _ _ => each_cons) fun _ _ => each_cons) fun _ _ => each_cons) fun _ _ => each_cons) fun ds h => by rw [h.1]; decide) (by decide) (by decide) (by omega)) fun x3 d3 H6 p3 e6 mk6 hx3 => ?_
    · subst pd
      obtain ⟨z, rfl, z0, z1⟩ := pe
      cases dt_int hx
      cases dt_int hy
      exact ⟨.int (1 + z), ⟨1 + z, rfl, by omega, by omega⟩, ed_int (ev_op (ev_var rfl) (ev_var rfl) rv_I0)⟩
    · subst pd
      obtain ⟨z, rfl, z0, z1⟩ := pe
      cases dt_int hx
      cases dt_int hy
      exact ⟨.int (1 + z), ⟨1 + z, rfl, by omega, by omega⟩, ed_int (ev_op (ev_var rfl) (ev_var rfl) rv_I0)⟩
    obtain ⟨qq, rfl, q1, q4⟩ := p3
    cases dt_int hx3
    refine qm_asg (n1 := n + 33) (P := fun d => ∃ z : Int, d = .int z ∧ -qq ≤ z ∧ z ≤ qq) (D := { nx := _, rt := _ }) mk6 (em_op (P2 := fun d => d = .int qq) (em_draw (b := 2 * qq + 1) rfl (fun _ _ => ev_op (ev_op ev_c (ev_var rfl) (rv_I (.inl (by decide)))) ev_c rv_I0) (by omega) (by omega) (by omega)) (em_of (d := .int qq) (fun _ _ => ed_int (ev_var rfl)) rfl) fun x y d e H7 pd pe hx hy => ?_) fun x4 d4 H7 p4 e7 mk7 hx4 => ?_
    · subst pe
      obtain ⟨z, rfl, z0, z1⟩ := pd
      cases dt_int hx
      cases dt_int hy
      exact ⟨.int (z - qq), ⟨z - qq, rfl, by omega, by omega⟩, ed_int (ev_op (ev_var rfl) (ev_var rfl) rv_I0)⟩
    obtain ⟨pq, rfl, pl1, pl2⟩ := p4
    cases dt_int hx4
    have q0 : 0 < qq := by omega
    obtain ⟨n', s', row⟩ := R49.row_is q0 ⟨pl1, pl2⟩
    have few' := row.few q0 ⟨pl1, pl2⟩
    have lt := row.lt
    have l1 : ((R49.digs pq qq n').take s').length = s' := by rw [List.length_take, R49.digs_len]; omega
    have l2 : ((R49.digs pq qq n').drop s').length = n' - s' := by rw [List.length_drop, R49.digs_len]
    have dg := R49.digs_dig pq qq n'
    have dB2 : R49.Dig ((R49.digs pq qq n').take s') := fun d hd => dg d (List.mem_of_mem_take hd)
    have dR2 : R49.Dig ((R49.digs pq qq n').drop s') := fun d hd => dg d (List.mem_of_mem_drop hd)
    have rv := R49.row_value row
    have r02' : 0 < ((R49.digs pq qq n').drop s').length := by omega
    have en : numD ((R49.digs pq qq n').take s') ((R49.digs pq qq n').drop s') = intsD [(R49.partI pq qq).1, (R49.partI pq qq).2] := by
      unfold numD
      rw [(R49.part_eq (R49.den_pos _ r02') q0).mpr rv]
    have pl3 := part_le (p := pq) q0
    have pp3 := R49.part_pos pq q0
    refine q_asgD (D := { nx := _, rt := _ }) (ed_call (eds_cons (ed_int (ev_var rfl)) (eds_cons (ed_int (ev_var rfl)) eds_nil)) ⟨pq, qq, n', s', rfl, q0, q4, ⟨pl1, pl2⟩, row, rfl⟩) fun x5 H8 e8 hx5 => ?_
    have fine2 : Fine 40000 2 (rowD ((R49.digs pq qq n').take s') ((R49.digs pq qq n').drop s')) := (f_tuple (fa_cons (f_ints (N := 9000) (fun d hd => by have := dB2 d hd; omega) (by omega)) (fa_cons (f_ints (N := 9000) (fun d hd => by have := dR2 d hd; omega) (by omega)) fa_nil))).up (by decide) (by decide)
    have fine3 : Fine 2 1 (intsD [(R49.partI pq qq).1, (R49.partI pq qq).2]) := (f_tuple (fa_cons (f_int (by omega) (by omega)) (fa_cons (f_int (by omega) (by omega)) fa_nil))).up (by decide) (by decide)
    refine s_ret (v := .bl true) (ev_is (ev_andV (a := true) (b := true) (ev_is (ev_op (ev_showT (ed_var rfl hx5) fine2 (by decide) (by decide)) (ev_showT (ed_call (eds_cons (ed_int (ev_var rfl)) (eds_cons (ed_int (ev_var rfl)) eds_nil)) ⟨pq, qq, n', s', rfl, q0, q4, ⟨pl1, pl2⟩, row, rfl⟩) fine2 (by decide) (by decide)) (rv_eq rfl)) (by simp))
      fun _ => ev_is (ev_op (ev_showT (ed_call (eds_cons (ed_var rfl hx5) eds_nil) ⟨_, _, rfl, dB2, dR2, r02', by omega, en.symm⟩) fine3 (by decide) (by decide)) (ev_showT (ed_call (eds_cons (ed_int (ev_var rfl)) (eds_cons (ed_int (ev_var rfl)) eds_nil)) ⟨pq, qq, rfl, q0, by omega, by omega, by omega, rfl⟩) fine3 (by decide) (by decide)) (rv_eq rfl)) (by simp)) rfl) fun H9 e9 => q H9 ?_ ?_
    · exact (((e2.trans (kin_ex (e4.trans e5))).trans e6).trans e7).trans (kin_ex (e8.trans e9))
    · exact (mk7.ex (e8.trans e9)).mono (by omega)
end
end K10
set_option Elab.async false
set_option linter.all false
set_option maxRecDepth 100000
set_option maxHeartbeats 1000000
namespace K10
open PySem PySem.Spec PyProof.Rows L2 Evl
/-! ### the rows told by hand, the law -/
section
variable {X : Cx} {k : Nat} {f : Addr} {fd : FuncData} {sp : Sp} {x : Str} {p pos : Pos}
/-- f(), nothing being shown -/
theorem pe_call10 (F : Ok1 X.prog X.w X.K X.mg X.base k f fd [] sp) (guard : X.A.guards = some []) (room : Room k X.A) (hg : Gl X x) (hm : X.mg x = some (.ref f)) (hk : PySem.W.keepIn X.K (.ref f) = true) (hb : Binds X.K fd [] [])
    (hdb : (x == ("__debug__" : Str)) = false := by decide) : PE X (.Call (.Name x p) [] [] pos) (tCall sp [] E0 tNil) := by
  constructor
  intro pins s σ H Q I h
  refine wpAny_Call_Name_kw (ld_glob I hg hm ?_ hdb)
  refine PySem.W.callWith_K0 I.kIn hk ?_
  refine wpAny_call (codeAny_mono (F.go X.A X.stack s H [] [] Q E0 guard room I.env0 (fun t inK => ?_) .nil h) ?_)
  · have b := hb t [] inK rfl
    simpa using b
  · intro res s' done
    match res, done with
    | .ok (.ret u), ended => exact I.after ended
    | .ok .next, z => exact z.elim
    | .ok .brk, z => exact z.elim
    | .ok .cont, z => exact z.elim
    | .error _, z => exact z.elim
end
theorem numD_at {b r : List Int} {p q : Int} (h : R49.partI (R49.num b r) (R49.den b r) = (p, q)) : intsD [p, q] = numD b r := by
  unfold numD
  rw [h]
theorem dig_of {l : List Int} (h : (l.all fun d => decide (0 ≤ d ∧ d ≤ 2)) = true) : R49.Dig l := fun d hd => by
  have := List.all_eq_true.mp h d hd
  exact of_decide_eq_true this
theorem val_at {b r : List Int} {p q : Int} (h : R49.partI (R49.num b r) (R49.den b r) = (p, q)) (h1 : (b.all fun d => decide (0 ≤ d ∧ d ≤ 2)) = true) (h2 : (r.all fun d => decide (0 ≤ d ∧ d ≤ 2)) = true) (h3 : 0 < r.length) (h4 : b.length + r.length ≤ 8900) : okValue [rowD b r] (intsD [p, q]) :=
  ⟨b, r, rfl, dig_of h1, dig_of h2, h3, h4, numD_at h⟩
theorem row_at {p q : Int} {n s : Nat} {b r : List Int} (h0 : 0 < q ∧ q ≤ 4096 ∧ (-q ≤ p ∧ p ≤ q)) (h : R49.IsRow p q n s) (h1 : (R49.digs p q n).take s = b) (h2 : (R49.digs p q n).drop s = r) : okRowOf [.int p, .int q] (rowD b r) :=
  ⟨p, q, n, s, rfl, h0.1, h0.2.1, h0.2.2, h, by rw [h1, h2]⟩
theorem ev_min2 {σ : L2.St} {H : Hp} {ta tb : TE} {i j : Int} (ha : Ev ta σ H (.int i)) (hb : Ev tb σ H (.int j)) : Ev (tCB (fun xs H Q => ∃ i j, xs = [V.int i, V.int j] ∧ Q (.int (if j < i then j else i)) H) (tCons ta (tCons tb tNil))) σ H (.int (if j < i then j else i)) := fun H1 e Q q =>
  ha H1 e _ fun H2 e2 => hb H2 (e.trans e2) _ fun H3 e3 => ⟨i, j, rfl, q H3 (e2.trans e3)⟩
def spHand : Sp := fun vs H Q _ => vs = [] ∧ ∀ H', Ex H H' → Q (.bl true) H'
abbrev handD : List PyData := [intsD [0, 1], intsD [1, 3], rowD [] [1, 2], rowD [] [1, 2], rowD [] [2], rowD [] [0], rowD [] [1], .int 0]
theorem hand_fine : Fine 100 3 (.list handD) := (f_list (fa_each (n := 6) (t := 2) fun d hd => by
  have i3 : ∀ l : List Int, l.length ≤ 2 → (∀ x ∈ l, 0 ≤ x ∧ x < 9) → Fine 2 1 (intsD l) := fun l h1 h2 => f_ints h2 h1
  have r3 : ∀ l : List Int, l.length ≤ 2 → (∀ x ∈ l, 0 ≤ x ∧ x < 9) → Fine 6 2 (rowD [] l) := fun l h1 h2 => (f_tuple (fa_cons (i3 [] (by decide) (fun x hx => by cases hx)) (fa_cons (i3 l h1 h2) fa_nil))).up (by decide) (by decide)
  simp only [List.mem_cons, List.not_mem_nil, or_false] at hd
  rcases hd with rfl | rfl | rfl | rfl | rfl | rfl | rfl | rfl
  · exact (i3 _ (by decide) (by decide)).up (by decide) (by decide)
  · exact (i3 _ (by decide) (by decide)).up (by decide) (by decide)
  · exact r3 _ (by decide) (by decide)
  · exact r3 _ (by decide) (by decide)
  · exact r3 _ (by decide) (by decide)
  · exact r3 _ (by decide) (by decide)
  · exact r3 _ (by decide) (by decide)
  · exact (f_int (by decide) (by decide)).up (by decide) (by decide))).up (by show (6 + 1) * 8 ≤ 100; decide) (by decide)
theorem ed_i1 {σ : L2.St} {H : Hp} {i : Int} : EvD (tTup (tCons (tC (.int i)) tNil)) σ H (intsD [i]) := ed_tup (eds_cons (ed_int ev_c) eds_nil) (by show (1 : Nat) ≤ 100000; decide)
theorem ed_i2 {σ : L2.St} {H : Hp} {i j : Int} : EvD (tTup (tCons (tC (.int i)) (tCons (tC (.int j)) tNil))) σ H (intsD [i, j]) := ed_tup (eds_cons (ed_int ev_c) (eds_cons (ed_int ev_c) eds_nil)) (by show (2 : Nat) ≤ 100000; decide)
theorem ed_i0 {σ : L2.St} {H : Hp} : EvD (tTup tNil) σ H (intsD []) := ed_tup eds_nil (by decide)
theorem ed_r {σ : L2.St} {H : Hp} {ta tb : TE} {b r : List Int} (h : EvD ta σ H (intsD b)) (h2 : EvD tb σ H (intsD r)) : EvD (tTup (tCons ta (tCons tb tNil))) σ H (rowD b r) := ed_tup (eds_cons h (eds_cons h2 eds_nil)) (by show (2 : Nat) ≤ 100000; decide)
section
variable {P : Program} {w : World} {K : PySem.W.Frag} {mg : Str → Option Value} {base : Heap} {f f1 f2 f3 : Addr} {fd fd1 fd2 fd3 : FuncData} {k : Nat}
theorem ok_hand (F : Fun K "_law_hand_right" "_law_hand_right" sHand f fd) (m4 : mg "repr" = none)
    (G1 : FnOk P w K mg base CX0 k f1 fd1 ["row"] (spD okValue)) (g1 : mg "value_of" = some (.ref f1)) (kp1 : PySem.W.keepIn K (.ref f1) = true) (b1 : Binds K fd1 ["row"] [])
    (G2 : FnOk P w K mg base CX0 k f2 fd2 ["p", "q"] (spD okRowOf)) (g2 : mg "row_of" = some (.ref f2)) (kp2 : PySem.W.keepIn K (.ref f2) = true) (b2 : Binds K fd2 ["p", "q"] [])
    (G3 : FnOk P w K mg base CX0 k f3 fd3 ["entries"] (spD okSumD)) (g3 : mg "sum_of" = some (.ref f3)) (kp3 : PySem.W.keepIn K (.ref f3) = true) (b3 : Binds K fd3 ["entries"] []) :
    Ok1 P w K mg base (k + 1) f fd [] spHand := by
  refine ok1_of F scHand (fun vs H Q E h => ?_) (fun cdv A outer s H vs Q E guard hr h => ?_)
  · obtain ⟨rfl, _⟩ := h
    rfl
  · obtain ⟨rfl, q⟩ := h
    refine ⟨_, pss_cons (ps_set (i := 0) scHand.nd rfl (.inl rfl) (pe_lst
        (pa_cons (pe_call G1 hr (by rfl) g1 kp1 b1 .nil pass0 (pa_cons (pe_tup (pa_cons (pe_tup (pa_cons pe_int pa_nil)) (pa_cons (pe_tup (pa_cons pe_int pa_nil)) pa_nil))) pa_nil))
        (pa_cons (pe_call G1 hr (by rfl) g1 kp1 b1 .nil pass0 (pa_cons (pe_tup (pa_cons (pe_tup pa_nil) (pa_cons (pe_tup (pa_cons pe_int (pa_cons pe_int pa_nil))) pa_nil))) pa_nil))
        (pa_cons (pe_call G2 hr (by rfl) g2 kp2 b2 .nil pass0 (pa_cons pe_int (pa_cons pe_int pa_nil)))
        (pa_cons (pe_call G2 hr (by rfl) g2 kp2 b2 .nil pass0 (pa_cons pe_int (pa_cons pe_int pa_nil)))
        (pa_cons (pe_call G2 hr (by rfl) g2 kp2 b2 .nil pass0 (pa_cons pe_int (pa_cons pe_int pa_nil)))
        (pa_cons (pe_call G2 hr (by rfl) g2 kp2 b2 .nil pass0 (pa_cons (pe_un un_neg pe_int) (pa_cons pe_int pa_nil)))
        (pa_cons (pe_call G2 hr (by rfl) g2 kp2 b2 .nil pass0 (pa_cons pe_int (pa_cons pe_int pa_nil)))
        (pa_cons (pe_call G3 hr (by rfl) g3 kp3 b3 .nil pass0 (pa_cons (pe_tup pa_nil) pa_nil)) pa_nil))))))))))
      (pss_one (ps_ret (pe_cmpR op_eq (pe_callB (showK K rfl guard hr.units) (by rfl) m4 (by decide +kernel) (pa_cons (pv 0) pa_nil)) (pe_callB (showK K rfl guard hr.units) (by rfl) m4 (by decide +kernel) (pa_cons (pe_lst
        (pa_cons (pe_tup (pa_cons pe_int (pa_cons pe_int pa_nil)))
        (pa_cons (pe_tup (pa_cons pe_int (pa_cons pe_int pa_nil)))
        (pa_cons (pe_tup (pa_cons (pe_tup pa_nil) (pa_cons (pe_tup (pa_cons pe_int (pa_cons pe_int pa_nil))) pa_nil)))
        (pa_cons (pe_tup (pa_cons (pe_tup pa_nil) (pa_cons (pe_tup (pa_cons pe_int (pa_cons pe_int pa_nil))) pa_nil)))
        (pa_cons (pe_tup (pa_cons (pe_tup pa_nil) (pa_cons (pe_tup (pa_cons pe_int pa_nil)) pa_nil)))
        (pa_cons (pe_tup (pa_cons (pe_tup pa_nil) (pa_cons (pe_tup (pa_cons pe_int pa_nil)) pa_nil)))
        (pa_cons (pe_tup (pa_cons (pe_tup pa_nil) (pa_cons (pe_tup (pa_cons pe_int pa_nil)) pa_nil)))
        (pa_cons pe_int pa_nil))))))))) pa_nil)) (nomark _)))), ?_⟩
    refine q_asgLd (D := { nx := _, rt := _ }) (ds := handD) (eld_lst (eds_cons (ed_call (eds_cons (ed_r ed_i1 ed_i1) eds_nil) (val_at (b := [2]) (r := [0]) (by decide +kernel) (by decide) (by decide) (by decide) (by decide)))
      (eds_cons (ed_call (eds_cons (ed_r ed_i0 ed_i2) eds_nil) (val_at (b := []) (r := [1, 2]) (by decide +kernel) (by decide) (by decide) (by decide) (by decide)))
      (eds_cons (ed_call (eds_cons (ed_int ev_c) (eds_cons (ed_int ev_c) eds_nil)) (row_at (p := 1) (q := 3) (n := 2) (s := 0) (by decide) (by decide +kernel) (by decide +kernel) (by decide +kernel)))
      (eds_cons (ed_call (eds_cons (ed_int ev_c) (eds_cons (ed_int ev_c) eds_nil)) (row_at (p := 2) (q := 6) (n := 2) (s := 0) (by decide) (by decide +kernel) (by decide +kernel) (by decide +kernel)))
      (eds_cons (ed_call (eds_cons (ed_int ev_c) (eds_cons (ed_int ev_c) eds_nil)) (row_at (p := 1) (q := 1) (n := 1) (s := 0) (by decide) (by decide +kernel) (by decide +kernel) (by decide +kernel)))
      (eds_cons (ed_call (eds_cons (ed_int (ev_un ev_c ru_neg)) (eds_cons (ed_int ev_c) eds_nil)) (row_at (p := -1) (q := 1) (n := 1) (s := 0) (by decide) (by decide +kernel) (by decide +kernel) (by decide +kernel)))
      (eds_cons (ed_call (eds_cons (ed_int ev_c) (eds_cons (ed_int ev_c) eds_nil)) (row_at (p := 0) (q := 5) (n := 1) (s := 0) (by decide) (by decide +kernel) (by decide +kernel) (by decide +kernel)))
      (eds_cons (ed_call (eds_cons ed_i0 eds_nil) ⟨[], rfl, by decide, rfl⟩) eds_nil)))))))) (by show (8 : Nat) ≤ 100000; decide)) fun l xs H1 e1 hl all => ?_
    refine s_ret (v := .bl true) (ev_is (ev_op (ev_showV (ev_var rfl) hl all hand_fine (by decide) (by decide)) (ev_showL (ds := handD) (eld_lst (eds_cons ed_i2 (eds_cons ed_i2 (eds_cons (ed_r ed_i0 ed_i2) (eds_cons (ed_r ed_i0 ed_i2) (eds_cons (ed_r ed_i0 ed_i1) (eds_cons (ed_r ed_i0 ed_i1) (eds_cons (ed_r ed_i0 ed_i1) (eds_cons (ed_int ev_c) eds_nil)))))))) (by show (8 : Nat) ≤ 100000; decide)) hand_fine (by decide) (by decide)) (rv_eq rfl)) (by simp)) fun H2 e2 => q H2 (e1.trans e2)
theorem ok_law (F : Fun K "law" "law" sLaw f fd) (m1 : mg "len" = none) (m2 : mg "range" = none) (m3 : mg "min" = none)
    (G1 : FnOk P w K mg base CX0 k f1 fd1 ["script", "k"] (spBegn K)) (g1 : mg "_law_begun" = some (.ref f1)) (kp1 : PySem.W.keepIn K (.ref f1) = true) (b1 : Binds K fd1 ["script", "k"] [])
    (G2 : Ok1 P w K mg base k f2 fd2 ["m"] spRight) (g2 : mg "_law_right" = some (.ref f2)) (kp2 : PySem.W.keepIn K (.ref f2) = true) (b2 : Binds K fd2 ["m"] [])
    (G3 : Ok1 P w K mg base k f3 fd3 [] spHand) (g3 : mg "_law_hand_right" = some (.ref f3)) (kp3 : PySem.W.keepIn K (.ref f3) = true) (b3 : Binds K fd3 [] []) :
    Ok1 P w K mg base (k + 1) f fd ["script"] (spLaw K) := by
  refine ok1_of F scLaw (fun vs H Q E h => ?_) (fun cdv A outer s H vs Q E guard hr h => ?_)
  · obtain ⟨a, ns, rfl, _⟩ := h
    rfl
  · obtain ⟨a, ns, rfl, hl, few, q⟩ := h
    refine ⟨_, pss_cons (ps_if (pt_not (pt_val (pe_call10 G3 guard hr (by rfl) g3 kp3 b3))) (pss_one (ps_ret pe_bl)) pss_nil)
      (pss_cons (ps_for PassesOwn.never rfl (pi_range1 (by rfl) m2 (pa_cons (pe_op op_add pe_int (pe_callB (call_min2 (by rfl)) (by rfl) m3 (by decide +kernel) (pa_cons (pe_callB call_len_seq (by rfl) m1 (by decide +kernel) (pa_cons (pv 0) pa_nil)) (pa_cons pe_int pa_nil)))) pa_nil)) (pg_name (i := 1) scLaw.nd rfl (Or.inl rfl))
        (pss_one (ps_if (pt_not (pt_val (pe_call1 G2 guard hr (by rfl) g2 kp2 b2 (pa_cons (pe_call G1 hr (by rfl) g1 kp1 b1 .nil pass0 (pa_cons (pv 0) (pa_cons (pv 1) pa_nil))) pa_nil)))) (pss_one (ps_ret pe_bl)) pss_nil)))
      (pss_one (ps_ret pe_bl))), ?_⟩
    refine ⟨rfl, fun H1 e1 => ⟨true, rfl, iteF ?_⟩⟩
    have lm : ((ns.map V.int).length : Int) ≤ 63 := by rw [List.length_map]; omega
    have bnd : 0 ≤ (4 + (if (3 : Int) < ((ns.map V.int).length : Int) then 3 else ((ns.map V.int).length : Int))) ∧ (4 + (if (3 : Int) < ((ns.map V.int).length : Int) then 3 else ((ns.map V.int).length : Int))) ≤ 7 := by
      split <;> omega
    refine q_forR1 (n := 4 + (if (3 : Int) < ((ns.map V.int).length : Int) then 3 else ((ns.map V.int).length : Int))) (D := { nx := _, rt := _ }) (ea_cons (ev_op ev_c (ev_min2 (ev_len (ev_var rfl) (ex_l e1 hl)) ev_c) rv_I0) ea_nil) ⟨bnd.1, by omega⟩
      (fun i σ' H' => (∃ x, σ' = [some (.ref a), x]) ∧ Kin H H') (fun H2 e2 => ⟨⟨_, rfl⟩, kin_ex (e1.trans e2)⟩) (fun i σ' H' lt p => ?_) (fun σ' H' p => ?_)
    · obtain ⟨⟨x, rfl⟩, e2⟩ := p
      refine ⟨_, rfl, _, rfl, a, ns, (i : Int), rfl, sq_kin e2 hl, few, by omega, by omega, fun m c H3 e3 mk => ?_⟩
      exact ⟨m, c, 0, rfl, mk, by omega, fun H4 e4 mk4 => ⟨true, rfl, iteF ⟨⟨_, rfl⟩, (e2.trans (kin_ex e3)).trans e4⟩⟩⟩
    · obtain ⟨⟨x, rfl⟩, e2⟩ := p
      exact s_ret (v := .bl true) ev_c fun H2 _ => q H2
end
end K10
set_option Elab.async false
set_option linter.all false
set_option maxRecDepth 100000
set_option maxHeartbeats 0
namespace K10
open PySem PySem.Spec PyProof.Rows L2 Evl
/-! ### the head: facts by names, the run -/
def d0 : He.DefD := ⟨("power", none), "power", "power", defArgs sPower, defBody sPower, defScope sPower, [], []⟩
def d1 : He.DefD := ⟨("sum_of_digits", none), "sum_of_digits", "sum_of_digits", defArgs sSumDg, defBody sSumDg, defScope sSumDg, [], []⟩
def d2 : He.DefD := ⟨("ratio", none), "ratio", "ratio", defArgs sRatio, defBody sRatio, defScope sRatio, [], []⟩
def d3 : He.DefD := ⟨("sum_of", none), "sum_of", "sum_of", defArgs sSumOf, defBody sSumOf, defScope sSumOf, [], []⟩
def d4 : He.DefD := ⟨("value_of", none), "value_of", "value_of", defArgs sValueOf, defBody sValueOf, defScope sValueOf, [], []⟩
def d5 : He.DefD := ⟨("row_of", none), "row_of", "row_of", defArgs sRowOf, defBody sRowOf, defScope sRowOf, [], []⟩
def d6 : He.DefD := ⟨("_law_begun", none), "_law_begun", "_law_begun", defArgs sBegun, defBody sBegun, defScope sBegun, [], []⟩
def d7 : He.DefD := ⟨("_law_draw", none), "_law_draw", "_law_draw", defArgs sDraw, defBody sDraw, defScope sDraw, [], []⟩
def d8 : He.DefD := ⟨("_law_of", none), "_law_of", "_law_of", defArgs sOf, defBody sOf, defScope sOf, [], []⟩
def d9 : He.DefD := ⟨("_law_sum", none), "_law_sum", "_law_sum", defArgs sSum, defBody sSum, defScope sSum, [], []⟩
def d10 : He.DefD := ⟨("_law_part", none), "_law_part", "_law_part", defArgs sPart, defBody sPart, defScope sPart, [], []⟩
def d11 : He.DefD := ⟨("_law_told_entry", none), "_law_told_entry", "_law_told_entry", defArgs sLEntry, defBody sLEntry, defScope sLEntry, [], []⟩
def d12 : He.DefD := ⟨("_law_row_of", none), "_law_row_of", "_law_row_of", defArgs sLRowOf, defBody sLRowOf, defScope sLRowOf, [], []⟩
def d13 : He.DefD := ⟨("_law_number", none), "_law_number", "_law_number", defArgs sNumber, defBody sNumber, defScope sNumber, [], []⟩
def d14 : He.DefD := ⟨("_law_row", none), "_law_row", "_law_row", defArgs sRow, defBody sRow, defScope sRow, [], []⟩
def d15 : He.DefD := ⟨("_law_goes", none), "_law_goes", "_law_goes", defArgs sGoes, defBody sGoes, defScope sGoes, [], []⟩
def d16 : He.DefD := ⟨("_law_right", none), "_law_right", "_law_right", defArgs sRight, defBody sRight, defScope sRight, [], []⟩
def d17 : He.DefD := ⟨("_law_hand_right", none), "_law_hand_right", "_law_hand_right", defArgs sHand, defBody sHand, defScope sHand, [], []⟩
def d18 : He.DefD := ⟨("law", none), "law", "law", defArgs sLaw, defBody sLaw, defScope sLaw, [], []⟩
def fn : List He.DefD := [d0, d1, d2, d3, d4, d5, d6, d7, d8, d9, d10, d11, d12, d13, d14, d15, d16, d17, d18]
def fa : List He.Fa := [.glo "power", .glo "sum_of_digits", .glo "ratio", .glo "sum_of", .glo "value_of", .glo "row_of", .glo "_law_begun", .glo "_law_draw", .glo "_law_of", .glo "_law_sum", .glo "_law_part", .glo "_law_told_entry", .glo "_law_row_of", .glo "_law_number", .glo "_law_row", .glo "_law_goes", .glo "_law_right", .glo "_law_hand_right", .glo "law", .free "tuple", .free "int", .free "len", .free "range", .free "repr", .free "min", .free "abs"]
abbrev R : PySem.W.OpenRow := PySem.W.OpenLaw.row PySem.Challenge.rw_allendless_k49_numbers_of_rows
def tf : List He.Defn := []
def ex (K : PySem.W.Frag) : Bool := He.eqO (PySem.W.nsIn K mainGlobals "gcd") (some (some (.builtin "math.gcd")))
abbrev hk : PySem.W.Hook := He.hookX 4 fa fn [] tf ex
def ob (s : PySem.W.SharedT) : He.AlX := He.obsX 4 fa fn [] tf ex (HandSHeadRun.getT s)
theorem ob_eq (s : PySem.W.SharedT) : ob s = hk.obs s.abs := He.obsX_eq (HandSHeadRun.getT_eq s)
def loose : List PySem.Str := ["power", "sum_of_digits", "ratio", "sum_of", "value_of", "row_of", "_law_begun", "_law_draw", "_law_of", "_law_sum", "_law_part", "_law_told_entry", "_law_row_of", "_law_number", "_law_row", "_law_goes", "_law_right", "_law_hand_right"]
theorem run (w : World) : HandSHeadRun.RunEqI R (PySem.W.view R.prog [0, 24]) hk ob 6000 loose w := by
  unfold HandSHeadRun.RunEqI
  kernel_rfl
end K10
set_option Elab.async false
set_option linter.all false
set_option maxRecDepth 100000
set_option maxHeartbeats 0
namespace K10
open PySem PySem.Spec PyProof.Rows L2 Evl
theorem facts {P : Program} {w : World} {K : PySem.W.Frag} {h : Heap} {mg : Str → Option Value} {f : Addr} (X : K.In h) (G : h.Ns mainGlobals mg) (hfa : mg ("law" : Str) = some (.ref f)) (cc : He.SaysX fa fn [] tf ex w h K) :
    ∃ fd : FuncData, (∀ (s : Shared) (v : Value), BindsTo s fd ⟨[v], []⟩ [("script", v)]) ∧ ∀ base : Heap, K.In base → base.Ns mainGlobals mg → Ok1 P w K mg base 6 f fd ["script"] (spLaw K) := by
  have c : He.SaysD fa fn K := He.SaysT.d cc.t
  have m_gcd : mg "gcd" = some (.builtin "math.gcd") := PySem.W.mg_of X G (He.eqO_ok cc.more)
  obtain ⟨fd0, D0⟩ := c.def_ 0 (d := d0) rfl
  have F0 : Fun K "power" "power" sPower (He.fAd K d0.at_) fd0 := fun_of D0
  have g0 : mg "power" = some (.ref (He.fAd K d0.at_)) := He.glo_ok X G (c.fact 0 (f := .glo "power") rfl)
  have b0 : Binds K fd0 ["base", "exponent"] [] := F0.binds fun _ _ _ _ _ _ us hl => match us, hl with | [_, _], _ => rfl
  obtain ⟨fd1, D1⟩ := c.def_ 1 (d := d1) rfl
  have F1 : Fun K "sum_of_digits" "sum_of_digits" sSumDg (He.fAd K d1.at_) fd1 := fun_of D1
  have g1 : mg "sum_of_digits" = some (.ref (He.fAd K d1.at_)) := He.glo_ok X G (c.fact 1 (f := .glo "sum_of_digits") rfl)
  have b1 : Binds K fd1 ["entries"] [] := F1.binds fun _ _ _ _ _ _ us hl => match us, hl with | [_], _ => rfl
  obtain ⟨fd2, D2⟩ := c.def_ 2 (d := d2) rfl
  have F2 : Fun K "ratio" "ratio" sRatio (He.fAd K d2.at_) fd2 := fun_of D2
  have g2 : mg "ratio" = some (.ref (He.fAd K d2.at_)) := He.glo_ok X G (c.fact 2 (f := .glo "ratio") rfl)
  have b2 : Binds K fd2 ["p", "q"] [] := F2.binds fun _ _ _ _ _ _ us hl => match us, hl with | [_, _], _ => rfl
  obtain ⟨fd3, D3⟩ := c.def_ 3 (d := d3) rfl
  have F3 : Fun K "sum_of" "sum_of" sSumOf (He.fAd K d3.at_) fd3 := fun_of D3
  have g3 : mg "sum_of" = some (.ref (He.fAd K d3.at_)) := He.glo_ok X G (c.fact 3 (f := .glo "sum_of") rfl)
  have b3 : Binds K fd3 ["entries"] [] := F3.binds fun _ _ _ _ _ _ us hl => match us, hl with | [_], _ => rfl
  obtain ⟨fd4, D4⟩ := c.def_ 4 (d := d4) rfl
  have F4 : Fun K "value_of" "value_of" sValueOf (He.fAd K d4.at_) fd4 := fun_of D4
  have g4 : mg "value_of" = some (.ref (He.fAd K d4.at_)) := He.glo_ok X G (c.fact 4 (f := .glo "value_of") rfl)
  have b4 : Binds K fd4 ["row"] [] := F4.binds fun _ _ _ _ _ _ us hl => match us, hl with | [_], _ => rfl
  obtain ⟨fd5, D5⟩ := c.def_ 5 (d := d5) rfl
  have F5 : Fun K "row_of" "row_of" sRowOf (He.fAd K d5.at_) fd5 := fun_of D5
  have g5 : mg "row_of" = some (.ref (He.fAd K d5.at_)) := He.glo_ok X G (c.fact 5 (f := .glo "row_of") rfl)
  have b5 : Binds K fd5 ["p", "q"] [] := F5.binds fun _ _ _ _ _ _ us hl => match us, hl with | [_, _], _ => rfl
  obtain ⟨fd6, D6⟩ := c.def_ 6 (d := d6) rfl
  have F6 : Fun K "_law_begun" "_law_begun" sBegun (He.fAd K d6.at_) fd6 := fun_of D6
  have g6 : mg "_law_begun" = some (.ref (He.fAd K d6.at_)) := He.glo_ok X G (c.fact 6 (f := .glo "_law_begun") rfl)
  have b6 : Binds K fd6 ["script", "k"] [] := F6.binds fun _ _ _ _ _ _ us hl => match us, hl with | [_, _], _ => rfl
  obtain ⟨fd7, D7⟩ := c.def_ 7 (d := d7) rfl
  have F7 : Fun K "_law_draw" "_law_draw" sDraw (He.fAd K d7.at_) fd7 := fun_of D7
  have g7 : mg "_law_draw" = some (.ref (He.fAd K d7.at_)) := He.glo_ok X G (c.fact 7 (f := .glo "_law_draw") rfl)
  have b7 : Binds K fd7 ["m", "below"] [] := F7.binds fun _ _ _ _ _ _ us hl => match us, hl with | [_, _], _ => rfl
  obtain ⟨fd8, D8⟩ := c.def_ 8 (d := d8) rfl
  have F8 : Fun K "_law_of" "_law_of" sOf (He.fAd K d8.at_) fd8 := fun_of D8
  have g8 : mg "_law_of" = some (.ref (He.fAd K d8.at_)) := He.glo_ok X G (c.fact 8 (f := .glo "_law_of") rfl)
  have b8 : Binds K fd8 ["m", "some"] [] := F8.binds fun _ _ _ _ _ _ us hl => match us, hl with | [_, _], _ => rfl
  obtain ⟨fd9, D9⟩ := c.def_ 9 (d := d9) rfl
  have F9 : Fun K "_law_sum" "_law_sum" sSum (He.fAd K d9.at_) fd9 := fun_of D9
  have g9 : mg "_law_sum" = some (.ref (He.fAd K d9.at_)) := He.glo_ok X G (c.fact 9 (f := .glo "_law_sum") rfl)
  have b9 : Binds K fd9 ["digits"] [] := F9.binds fun _ _ _ _ _ _ us hl => match us, hl with | [_], _ => rfl
  obtain ⟨fd10, D10⟩ := c.def_ 10 (d := d10) rfl
  have F10 : Fun K "_law_part" "_law_part" sPart (He.fAd K d10.at_) fd10 := fun_of D10
  have g10 : mg "_law_part" = some (.ref (He.fAd K d10.at_)) := He.glo_ok X G (c.fact 10 (f := .glo "_law_part") rfl)
  have b10 : Binds K fd10 ["a", "b"] [] := F10.binds fun _ _ _ _ _ _ us hl => match us, hl with | [_, _], _ => rfl
  obtain ⟨fd11, D11⟩ := c.def_ 11 (d := d11) rfl
  have F11 : Fun K "_law_told_entry" "_law_told_entry" sLEntry (He.fAd K d11.at_) fd11 := fun_of D11
  have g11 : mg "_law_told_entry" = some (.ref (He.fAd K d11.at_)) := He.glo_ok X G (c.fact 11 (f := .glo "_law_told_entry") rfl)
  have b11 : Binds K fd11 ["row", "i"] [] := F11.binds fun _ _ _ _ _ _ us hl => match us, hl with | [_, _], _ => rfl
  obtain ⟨fd12, D12⟩ := c.def_ 12 (d := d12) rfl
  have F12 : Fun K "_law_row_of" "_law_row_of" sLRowOf (He.fAd K d12.at_) fd12 := fun_of D12
  have g12 : mg "_law_row_of" = some (.ref (He.fAd K d12.at_)) := He.glo_ok X G (c.fact 12 (f := .glo "_law_row_of") rfl)
  have b12 : Binds K fd12 ["p", "q"] [] := F12.binds fun _ _ _ _ _ _ us hl => match us, hl with | [_, _], _ => rfl
  obtain ⟨fd13, D13⟩ := c.def_ 13 (d := d13) rfl
  have F13 : Fun K "_law_number" "_law_number" sNumber (He.fAd K d13.at_) fd13 := fun_of D13
  have g13 : mg "_law_number" = some (.ref (He.fAd K d13.at_)) := He.glo_ok X G (c.fact 13 (f := .glo "_law_number") rfl)
  have b13 : Binds K fd13 ["row"] [] := F13.binds fun _ _ _ _ _ _ us hl => match us, hl with | [_], _ => rfl
  obtain ⟨fd14, D14⟩ := c.def_ 14 (d := d14) rfl
  have F14 : Fun K "_law_row" "_law_row" sRow (He.fAd K d14.at_) fd14 := fun_of D14
  have g14 : mg "_law_row" = some (.ref (He.fAd K d14.at_)) := He.glo_ok X G (c.fact 14 (f := .glo "_law_row") rfl)
  have b14 : Binds K fd14 ["m"] [] := F14.binds fun _ _ _ _ _ _ us hl => match us, hl with | [_], _ => rfl
  obtain ⟨fd15, D15⟩ := c.def_ 15 (d := d15) rfl
  have F15 : Fun K "_law_goes" "_law_goes" sGoes (He.fAd K d15.at_) fd15 := fun_of D15
  have g15 : mg "_law_goes" = some (.ref (He.fAd K d15.at_)) := He.glo_ok X G (c.fact 15 (f := .glo "_law_goes") rfl)
  have b15 : Binds K fd15 ["one", "two"] [] := F15.binds fun _ _ _ _ _ _ us hl => match us, hl with | [_, _], _ => rfl
  obtain ⟨fd16, D16⟩ := c.def_ 16 (d := d16) rfl
  have F16 : Fun K "_law_right" "_law_right" sRight (He.fAd K d16.at_) fd16 := fun_of D16
  have g16 : mg "_law_right" = some (.ref (He.fAd K d16.at_)) := He.glo_ok X G (c.fact 16 (f := .glo "_law_right") rfl)
  have b16 : Binds K fd16 ["m"] [] := F16.binds fun _ _ _ _ _ _ us hl => match us, hl with | [_], _ => rfl
  obtain ⟨fd17, D17⟩ := c.def_ 17 (d := d17) rfl
  have F17 : Fun K "_law_hand_right" "_law_hand_right" sHand (He.fAd K d17.at_) fd17 := fun_of D17
  have g17 : mg "_law_hand_right" = some (.ref (He.fAd K d17.at_)) := He.glo_ok X G (c.fact 17 (f := .glo "_law_hand_right") rfl)
  have b17 : Binds K fd17 [] [] := F17.binds fun _ _ _ _ _ _ us hl => match us, hl with | [], _ => rfl
  obtain ⟨fd18, D18⟩ := c.def_ 18 (d := d18) rfl
  have F18 : Fun K "law" "law" sLaw (He.fAd K d18.at_) fd18 := fun_of D18
  have g18 : mg "law" = some (.ref (He.fAd K d18.at_)) := He.glo_ok X G (c.fact 18 (f := .glo "law") rfl)
  have b18 : Binds K fd18 ["script"] [] := F18.binds fun _ _ _ _ _ _ us hl => match us, hl with | [_], _ => rfl
  have m_tuple : mg "tuple" = none := He.free_ok X G (c.fact 19 (f := .free "tuple") rfl)
  have m_int : mg "int" = none := He.free_ok X G (c.fact 20 (f := .free "int") rfl)
  have m_len : mg "len" = none := He.free_ok X G (c.fact 21 (f := .free "len") rfl)
  have m_range : mg "range" = none := He.free_ok X G (c.fact 22 (f := .free "range") rfl)
  have m_repr : mg "repr" = none := He.free_ok X G (c.fact 23 (f := .free "repr") rfl)
  have m_min : mg "min" = none := He.free_ok X G (c.fact 24 (f := .free "min") rfl)
  have m_abs : mg "abs" = none := He.free_ok X G (c.fact 25 (f := .free "abs") rfl)
  have e := hfa.symm.trans g18
  cases e
  have ba := FunD.bindsA (ps := ["script"]) D18 fun _ _ _ _ _ _ us hl => match us, hl with | [_], _ => rfl
  refine ⟨fd18, fun s v => ba s [v] rfl, fun base _ _ => ?_⟩
  have G0 := ok_power (P := P) (w := w) (mg := mg) (base0 := base) (k := 0) F0
  have G1 := ok_sumDg (P := P) (w := w) (mg := mg) (base0 := base) (k := 0) F1
  have G2 := ok_ratio (P := P) (w := w) (mg := mg) (base0 := base) (k := 0) F2 m_gcd
  have G3 := ok_sumOf (P := P) (w := w) (mg := mg) (base0 := base) (k := 1) F3  (G1.mono (by decide)) g1 F1.kp b1
  have G4 := ok_valueOf (P := P) (w := w) (mg := mg) (base0 := base) (k := 2) F4 m_len (G0.mono (by decide)) g0 F0.kp b0 (G3.mono (by decide)) g3 F3.kp b3 (G2.mono (by decide)) g2 F2.kp b2
  have G5 := ok_rowOf (P := P) (w := w) (mg := mg) (base0 := base) (k := 0) F5 m_len m_tuple
  have G6 := ok_begun (P := P) (w := w) (mg := mg) (base := base) (k := 0) F6 m_int m_len
  have G7 := ok_draw (P := P) (w := w) (mg := mg) (base := base) (k := 0) F7 m_int m_len
  have G8 := ok_of (P := P) (w := w) (mg := mg) (base := base) (k := 1) F8 m_len (G7.mono (by decide)) g7 F7.kp b7
  have G9 := ok_lsum (P := P) (w := w) (mg := mg) (base0 := base) (k := 0) F9
  have G10 := ok_part (P := P) (w := w) (mg := mg) (base0 := base) (k := 0) F10 m_abs m_int
  have G11 := ok_lentry (P := P) (w := w) (mg := mg) (base0 := base) (k := 0) F11 m_len m_int
  have G12 := ok_lrowOf (P := P) (w := w) (mg := mg) (base0 := base) (k := 1) F12 m_len m_tuple m_range (G10.mono (by decide)) g10 F10.kp b10
  have G13 := ok_number (P := P) (w := w) (mg := mg) (base0 := base) (k := 1) F13  (G9.mono (by decide)) g9 F9.kp b9 (G10.mono (by decide)) g10 F10.kp b10
  have G14 := ok_lrow (P := P) (w := w) (mg := mg) (base0 := base) (k := 1) F14 m_range m_tuple (G7.mono (by decide)) g7 F7.kp b7
  have G15 := ok_goes (P := P) (w := w) (mg := mg) (base0 := base) (k := 1) F15 m_range (G11.mono (by decide)) g11 F11.kp b11
  have G16 := ok_right (P := P) (w := w) (mg := mg) (base := base) (k := 3) F16 m_repr (G7.mono (by decide)) g7 F7.kp b7 (G8.mono (by decide)) g8 F8.kp b8 (G14.mono (by decide)) g14 F14.kp b14 (G12.mono (by decide)) g12 F12.kp b12 (G13.mono (by decide)) g13 F13.kp b13 (G4.mono (by decide)) g4 F4.kp b4 (G3.mono (by decide)) g3 F3.kp b3 (G9.mono (by decide)) g9 F9.kp b9 (G15.mono (by decide)) g15 F15.kp b15 (G5.mono (by decide)) g5 F5.kp b5 (G10.mono (by decide)) g10 F10.kp b10
  have G17 := ok_hand (P := P) (w := w) (mg := mg) (base := base) (k := 3) F17 m_repr (G4.mono (by decide)) g4 F4.kp b4 (G5.mono (by decide)) g5 F5.kp b5 (G3.mono (by decide)) g3 F3.kp b3
  have G18 := ok_law (P := P) (w := w) (mg := mg) (base := base) (k := 5) F18 m_len m_range m_min (G6.mono (by decide)) g6 F6.kp b6 (G16.mono (by decide)) g16 F16.kp b16 (G17.mono (by decide)) g17 F17.kp b17
  exact G18
end K10
open PySem PySem.W PySem.Calls PyProof.Rows
theorem PySem.Challenge.cw_allendless_k49_numbers_of_rows_holds : PySem.Challenge.rw_allendless_k49_numbers_of_rows.Holds := by
  w_on; o_law
  refine HandSHeadRun.head_imp (r := OpenLaw.row PySem.Challenge.rw_allendless_k49_numbers_of_rows) (q := view (OpenLaw.row PySem.Challenge.rw_allendless_k49_numbers_of_rows).prog [0, 24]) (H := K10.hk) (ob := K10.ob) (M := 6000) (loose := K10.loose) (d := HandSHeadRun.topDef (OpenLaw.row PySem.Challenge.rw_allendless_k49_numbers_of_rows).prog 24) (kwd := []) K10.ob_eq
    K10.run (by kernel_rfl) (by kernel_rfl) (by kernel_rfl) (by rfl) (by first | assumption | decide +kernel) (by decide +kernel) ⟨rfl, rfl, rfl, rfl, rfl, by decide +kernel⟩ ?hw ?hc
  case hw => w_witness2
  case hc =>
    refine K10.walk1E (l := PySem.Challenge.rw_allendless_k49_numbers_of_rows) (n := 63) (k := 6) (x := "script") rfl (by decide) (by kernel_rfl) ⟨rfl, by decide, by decide⟩ ?F
    intro w mg fa h Y G hmg0
    obtain ⟨K, KX, c⟩ := Y
    have hmg : mg ("law" : PySem.Str) = some (.ref fa) := by
      have e : (HandSHeadRun.topDef (OpenLaw.row PySem.Challenge.rw_allendless_k49_numbers_of_rows).prog 24).name = ("law" : PySem.Str) := by kernel_rfl
      rw [← e]
      exact hmg0
    obtain ⟨fd, hb, hF⟩ := K10.facts (P := (PySem.Challenge.rw_allendless_k49_numbers_of_rows).prog) (w := w) KX G hmg c
    exact ⟨K, fd, K10.spLaw K, KX, hb, fun H a ns hl _ hS => ⟨a, ns, rfl, hS, hl, fun _ => rfl⟩, hF⟩
