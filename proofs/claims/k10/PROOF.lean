import PyProof.Rows.All
import Wide.All
import OpenK.AllK
import Wide.FinOn
import HandS.ForMost
import HandS.Wide
import HandS.Codes
import PySem.Challenge.RW_windowkin_k10_codes_and_their_parts
import HandS.IsInst
import HandS.Walk
import HandS.Zip
import KE.GoesMore
import HandS.ClsMeth
import HandS.Property
import HandS.FStr
import PyProof.ZipIter
import PyProof.ListNew
import KE.KStar
import KE.KDictZip
import HandS.Star
import HandS.List
import KE.GoesZip
import KE.GoesEnum
import HandS.WideBits
import HandS.RevRange
import HandS.GenList
import HandS.ForExc
import HandS.Flow
import HandS.GenYield
import HandS.GenCall
import HandS.TupAny
import HandS.Rev
import HandS.More
import HandS.Conv
import HandS.DictTup
import HandS.Keys
import HandS.Iter
import HandS.DictComp
import PyProof.EqAt
import PyProof.EqKinds
import HandS.OwnEq
import HandS.TupMul
import HandS.NoneIn
import HandS.Set
import HandS.SetFor
import HandS.Strs
import HandS.TupSets
import HandS.Style
import HandS.Head2
import HandS.Ends
import HandS.EndOwn
import KE.KNestM
import KE.OsRunLaw
import HandS.Head0
import HandS.Head1
section
set_option Elab.async false
set_option linter.all false
/-! sums, products and powers of tables of numbers -/
namespace Lw
def sm : Nat → (Nat → Nat) → Nat
  | 0, _ => 0
  | n + 1, f => sm n f + f n
theorem sm_congr {n : Nat} {f g : Nat → Nat} (h : ∀ k, k < n → f k = g k) : sm n f = sm n g := by
  induction n with
  | zero => rfl
  | succ n ih =>
    show sm n f + f n = sm n g + g n
    rw [ih fun k hk => h k (Nat.lt_succ_of_lt hk), h n (Nat.lt_succ_self n)]
theorem sm_add (n : Nat) (f g : Nat → Nat) : sm n (fun k => f k + g k) = sm n f + sm n g := by
  induction n with
  | zero => rfl
  | succ n ih =>
    show sm n (fun k => f k + g k) + (f n + g n) = sm n f + f n + (sm n g + g n)
    rw [ih]
    omega
theorem sm_mulr (n : Nat) (f : Nat → Nat) (c : Nat) : sm n (fun k => f k * c) = sm n f * c := by
  induction n with
  | zero => exact (Nat.zero_mul c).symm
  | succ n ih =>
    show sm n (fun k => f k * c) + f n * c = (sm n f + f n) * c
    rw [ih, Nat.add_mul]
theorem sm_mull (n : Nat) (f : Nat → Nat) (c : Nat) : sm n (fun k => c * f k) = c * sm n f := by
  rw [Nat.mul_comm c, ← sm_mulr]
  exact sm_congr fun k _ => Nat.mul_comm _ _
theorem sm_zero (n : Nat) : sm n (fun _ => 0) = 0 := by
  induction n with
  | zero => rfl
  | succ n ih => exact ih
theorem sm_comm (n m : Nat) (f : Nat → Nat → Nat) : sm n (fun i => sm m (fun j => f i j)) = sm m (fun j => sm n (fun i => f i j)) := by
  induction n with
  | zero => exact (sm_zero m).symm
  | succ n ih =>
    show sm n (fun i => sm m (fun j => f i j)) + sm m (fun j => f n j) = sm m (fun j => sm n (fun i => f i j) + f n j)
    rw [ih, sm_add]
theorem sm_one {n b : Nat} (x : Nat → Nat) (h : b < n) : sm n (fun k => (if k = b then 1 else 0) * x k) = x b := by
  induction n with
  | zero => exact absurd h (Nat.not_lt_zero b)
  | succ n ih =>
    show sm n (fun k => (if k = b then 1 else 0) * x k) + (if n = b then 1 else 0) * x n = x b
    by_cases e : n = b
    · subst e
      rw [if_pos rfl, Nat.one_mul]
      have : sm n (fun k => (if k = n then 1 else 0) * x k) = 0 := by
        refine (sm_congr (g := fun _ => 0) fun k hk => ?_).trans (sm_zero n)
        rw [if_neg (Nat.ne_of_lt hk), Nat.zero_mul]
      rw [this, Nat.zero_add]
    · rw [if_neg e, Nat.zero_mul, Nat.add_zero]
      exact ih (by omega)
theorem sm_list (n : Nat) (f : Nat → Nat) : ((List.range n).map f).sum = sm n f := by
  induction n with
  | zero => rfl
  | succ n ih =>
    rw [List.range_succ, List.map_append, List.sum_append, ih]
    show sm n f + (f n + 0) = sm n f + f n
    omega
theorem sm_int (n : Nat) (f : Nat → Nat) : ((List.range n).map fun k => ((f k : Nat) : Int)).sum = ((sm n f : Nat) : Int) := by
  induction n with
  | zero => rfl
  | succ n ih =>
    rw [List.range_succ, List.map_append, List.sum_append, ih]
    show ((sm n f : Nat) : Int) + (((f n : Nat) : Int) + 0) = ((sm n f + f n : Nat) : Int)
    omega
theorem sm_le {n : Nat} {f : Nat → Nat} {c : Nat} (h : ∀ k, k < n → f k ≤ c) : sm n f ≤ n * c := by
  induction n with
  | zero => exact Nat.zero_le _
  | succ n ih =>
    show sm n f + f n ≤ (n + 1) * c
    rw [Nat.add_mul, Nat.one_mul]
    exact Nat.add_le_add (ih fun k hk => h k (Nat.lt_succ_of_lt hk)) (h n (Nat.lt_succ_self n))
abbrev Mx := Nat → Nat → Nat
def mul (n : Nat) (A B : Mx) : Mx := fun i j => sm n fun k => A i k * B k j
def pw (n : Nat) (A : Mx) : Nat → Mx
  | 0 => fun i j => if i = j then 1 else 0
  | k + 1 => mul n (pw n A k) A
theorem mul_congr {n : Nat} {A A' B B' : Mx} {i j : Nat} (h1 : ∀ k, k < n → A i k = A' i k) (h2 : ∀ k, k < n → B k j = B' k j) : mul n A B i j = mul n A' B' i j := sm_congr fun k hk => by rw [h1 k hk, h2 k hk]
theorem mul_assoc (n : Nat) (A B C : Mx) (i j : Nat) : mul n (mul n A B) C i j = mul n A (mul n B C) i j := by
  show sm n (fun k => sm n (fun l => A i l * B l k) * C k j) = sm n (fun l => A i l * sm n (fun k => B l k * C k j))
  rw [show (fun k => sm n (fun l => A i l * B l k) * C k j) = fun k => sm n (fun l => A i l * B l k * C k j) from funext fun k => (sm_mulr n _ _).symm, sm_comm]
  refine sm_congr fun l _ => ?_
  rw [← sm_mull]
  exact sm_congr fun k _ => Nat.mul_assoc _ _ _
theorem one_mul {n : Nat} (A : Mx) {i j : Nat} (h : i < n) : mul n (pw n A 0) A i j = A i j := by
  show sm n (fun k => (if i = k then 1 else 0) * A k j) = A i j
  rw [← sm_one (fun k => A k j) h]
  exact sm_congr fun k _ => by
    by_cases e : k = i
    · rw [if_pos e, if_pos e.symm]
    · rw [if_neg e, if_neg (Ne.symm e)]
theorem mul_one {n : Nat} (A B : Mx) {i j : Nat} (h : j < n) : mul n A (pw n B 0) i j = A i j := by
  show sm n (fun k => A i k * (if k = j then 1 else 0)) = A i j
  rw [← sm_one (fun k => A i k) h]
  exact sm_congr fun k _ => Nat.mul_comm _ _
theorem pw_one {n : Nat} (A : Mx) {i j : Nat} (h : i < n) : pw n A 1 i j = A i j := one_mul A h
theorem pw_add {n : Nat} (A : Mx) (a b : Nat) {i j : Nat} (hj : j < n) : pw n A (a + b) i j = mul n (pw n A a) (pw n A b) i j := by
  induction b generalizing j with
  | zero => exact (mul_one (pw n A a) A hj).symm
  | succ b ih =>
    show mul n (pw n A (a + b)) A i j = mul n (pw n A a) (mul n (pw n A b) A) i j
    rw [← mul_assoc]
    exact mul_congr (fun k hk => ih hk) fun _ _ => rfl
theorem mul_le {n : Nat} {A B : Mx} {c d : Nat} {i j : Nat} (h1 : ∀ k, k < n → A i k ≤ c) (h2 : ∀ k, k < n → B k j ≤ d) : mul n A B i j ≤ n * (c * d) := sm_le fun k hk => Nat.mul_le_mul (h1 k hk) (h2 k hk)
theorem pw_le {n : Nat} {A : Mx} (h8 : n ≤ 8) (h : ∀ i j, A i j ≤ 31) (k i j : Nat) : pw n A k i j ≤ 2 ^ (8 * k) := by
  induction k generalizing i j with
  | zero =>
    show (if i = j then 1 else 0) ≤ 1
    split <;> omega
  | succ k ih =>
    refine Nat.le_trans (mul_le (fun k _ => ih i k) fun k _ => h k j) ?_
    have e : 2 ^ (8 * (k + 1)) = 2 ^ (8 * k) * 256 := by
      rw [Nat.mul_add, Nat.pow_add]
    rw [e]
    calc n * (2 ^ (8 * k) * 31) ≤ 8 * (2 ^ (8 * k) * 31) := Nat.mul_le_mul_right _ h8
      _ = 2 ^ (8 * k) * 248 := by rw [← Nat.mul_assoc, Nat.mul_comm 8, Nat.mul_assoc]
      _ ≤ 2 ^ (8 * k) * 256 := Nat.mul_le_mul_left _ (by decide)
theorem pw_log {n : Nat} {A : Mx} (h8 : n ≤ 8) (h : ∀ i j, A i j ≤ 31) (k i j : Nat) : (pw n A k i j).log2 ≤ 8 * k := by
  by_cases z : pw n A k i j = 0
  · rw [z]
    exact Nat.zero_le _
  · have := pw_le h8 h k i j
    exact Nat.le_of_lt_succ ((Nat.log2_lt z).mpr (Nat.lt_of_le_of_lt this (Nat.pow_lt_pow_right (by decide) (Nat.lt_succ_self _))))
/-- numbers of paths by their starts -/
theorem vec_step {n : Nat} (A : Mx) (k : Nat) {i : Nat} (h : i < n) : sm n (fun t => A i t * sm n (fun j => pw n A k t j)) = sm n (fun j => pw n A (k + 1) i j) := by
  rw [show (fun t => A i t * sm n (fun j => pw n A k t j)) = fun t => sm n (fun j => A i t * pw n A k t j) from funext fun t => (sm_mull n _ _).symm, sm_comm]
  refine sm_congr fun j hj => ?_
  rw [Nat.add_comm k 1, pw_add A 1 k hj]
  exact sm_congr fun t _ => by rw [pw_one A h]
/-- powers of a power of two's bits -/
theorem pw_bit {n : Nat} (A : Mx) (e s : Nat) {i j : Nat} (hj : j < n) : (if (e >>> s) % 2 = 1 then mul n (mul n (pw n A (e >>> (s + 1))) (pw n A (e >>> (s + 1)))) A i j else mul n (pw n A (e >>> (s + 1))) (pw n A (e >>> (s + 1))) i j) = pw n A (e >>> s) i j := by
  have h1 : e >>> (s + 1) = (e >>> s) / 2 := by rw [Nat.shiftRight_succ]
  rw [h1]
  generalize e >>> s = q
  by_cases o : q % 2 = 1
  · rw [if_pos o]
    have : q = (q / 2 + q / 2) + 1 := by omega
    conv => rhs; rw [this]
    show _ = mul n (pw n A (q / 2 + q / 2)) A i j
    exact mul_congr (fun k hk => (pw_add A _ _ hk).symm) fun _ _ => rfl
  · rw [if_neg o]
    have : q = q / 2 + q / 2 := by omega
    conv => rhs; rw [this]
    exact (pw_add A _ _ hj).symm
theorem pw_single (A : Mx) (k : Nat) : pw 1 A k 0 0 = (A 0 0) ^ k := by
  induction k with
  | zero => rfl
  | succ k ih =>
    show 0 + pw 1 A k 0 0 * A 0 0 = (A 0 0) ^ (k + 1)
    rw [ih, Nat.zero_add, Nat.pow_succ]
/-! ### edges -/
def cntN (ps : List (Int × Int)) (a b : Nat) : Nat := (ps.filter fun p => decide (p = ((a : Int), (b : Int)))).length
theorem cntN_snoc (ps : List (Int × Int)) (p : Int × Int) (a b : Nat) : cntN (ps ++ [p]) a b = cntN ps a b + (if p = ((a : Int), (b : Int)) then 1 else 0) := by
  unfold cntN
  rw [List.filter_append, List.length_append]
  by_cases h : p = ((a : Int), (b : Int))
  · rw [if_pos h, List.filter_cons_of_pos (by rw [decide_eq_true h])]
    rfl
  · rw [if_neg h, List.filter_cons_of_neg (by rw [decide_eq_false h]; exact Bool.false_ne_true)]
    simp
theorem cntN_le (ps : List (Int × Int)) (a b : Nat) : cntN ps a b ≤ ps.length := List.length_filter_le _ _
/-- one more edge s -> t, summed over the targets -/
theorem out_snoc {n s t : Nat} (ps : List (Int × Int)) (x : Nat → Nat) (ht : t < n) (i : Nat) : sm n (fun j => cntN (ps ++ [((s : Int), (t : Int))]) i j * x j) = sm n (fun j => cntN ps i j * x j) + (if i = s then x t else 0) := by
  have e : sm n (fun j => cntN (ps ++ [((s : Int), (t : Int))]) i j * x j) = sm n (fun j => cntN ps i j * x j + (if i = s then (if j = t then 1 else 0) else 0) * x j) := sm_congr fun j _ => by
    rw [cntN_snoc, Nat.add_mul]
    congr 2
    by_cases h1 : i = s
    · subst h1
      rw [if_pos rfl]
      by_cases h2 : j = t
      · subst h2
        rw [if_pos rfl, if_pos rfl]
      · rw [if_neg h2, if_neg fun z => h2 (by have : (t : Int) = (j : Int) := congrArg Prod.snd z; omega)]
    · rw [if_neg h1, if_neg fun z => h1 (by have : (s : Int) = (i : Int) := congrArg Prod.fst z; omega)]
  rw [e, sm_add]
  congr 1
  by_cases h1 : i = s
  · rw [if_pos h1]
    simp only [if_pos h1]
    exact sm_one x ht
  · rw [if_neg h1]
    simp only [if_neg h1, Nat.zero_mul]
    exact sm_zero n
/-- .. over the sources -/
theorem in_snoc {n s t : Nat} (ps : List (Int × Int)) (x : Nat → Nat) (hs : s < n) (j : Nat) : sm n (fun i => x i * cntN (ps ++ [((s : Int), (t : Int))]) i j) = sm n (fun i => x i * cntN ps i j) + (if j = t then x s else 0) := by
  have e : sm n (fun i => x i * cntN (ps ++ [((s : Int), (t : Int))]) i j) = sm n (fun i => x i * cntN ps i j + (if j = t then (if i = s then 1 else 0) else 0) * x i) := sm_congr fun i _ => by
    rw [cntN_snoc, Nat.mul_add]
    congr 1
    rw [Nat.mul_comm]
    congr 1
    by_cases h1 : j = t
    · subst h1
      rw [if_pos rfl]
      by_cases h2 : i = s
      · subst h2
        rw [if_pos rfl, if_pos rfl]
      · rw [if_neg h2, if_neg fun z => h2 (by have : (s : Int) = (i : Int) := congrArg Prod.fst z; omega)]
    · rw [if_neg h1, if_neg fun z => h1 (by have : (t : Int) = (j : Int) := congrArg Prod.snd z; omega)]
  rw [e, sm_add]
  congr 1
  by_cases h1 : j = t
  · rw [if_pos h1]
    simp only [if_pos h1]
    exact sm_one x hs
  · rw [if_neg h1]
    simp only [if_neg h1, Nat.zero_mul]
    exact sm_zero n
theorem sm_none {n : Nat} (x : Nat → Nat) (i : Nat) : sm n (fun j => cntN [] i j * x j) = 0 := by
  rw [← sm_zero n]
  exact sm_congr fun j _ => Nat.zero_mul _
theorem sm_none' {n : Nat} (x : Nat → Nat) (j : Nat) : sm n (fun i => x i * cntN [] i j) = 0 := by
  rw [← sm_zero n]
  exact sm_congr fun j _ => Nat.mul_zero _
end Lw
end
section
set_option Elab.async false
set_option linter.all false
set_option maxRecDepth 100000
namespace Lw
open PySem L2
def top (i : Nat) : Stmt := PySem.Challenge.pw_windowkin_k10_codes_and_their_parts.main.body.getD i (.Pass ⟨0, 0, 0, 0⟩)
abbrev sBag : Stmt := top 36
abbrev sPull : Stmt := top 37
abbrev sOf : Stmt := top 38
/-! ### heaps -/
theorem same_upd {H : Hp} {p : Addr} {o : HO} (h : H p = none) : Same H (upd H p o) := fun b x e => by
  rw [upd_ne (ne_of_none e h)]
  exact e
theorem upd_upd {H : Hp} {p : Addr} {o o' : HO} : upd (upd H p o) p o' = upd H p o' := by
  funext c
  by_cases e : c = p
  · subst e
    rw [upd_same, upd_same]
  · rw [upd_ne e, upd_ne e, upd_ne e]
theorem upd_self {H : Hp} {p : Addr} {o : HO} (h : H p = some o) : upd H p o = H := by
  funext c
  by_cases e : c = p
  · subst e
    rw [upd_same, h]
  · rw [upd_ne e]
/-! ### the bag: the script's own list at l, a place, a rest, a salt -/
def BagO (l : Addr) (ns : List Int) (o : HO) : Prop := ∃ (i : Nat) (r s : Int), o = .lst [.ref l, .int (i : Int), .int r, .int s] ∧ i ≤ ns.length ∧ 0 ≤ r ∧ 0 ≤ s ∧ s < 2147483563
structure BagAt (H : Hp) (b l : Addr) (ns : List Int) : Prop where
  ob : ∃ o, H b = some o ∧ BagO l ns o
  sc : H l = some (.lst (ns.map V.int))
  ln : ns.length ≤ 63
theorem BagAt.ne {H : Hp} {b l : Addr} {ns : List Int} (h : BagAt H b l ns) : l ≠ b := fun e => by
  obtain ⟨o, ho, i, r, s, rfl, _⟩ := h.ob
  have h2 := h.sc
  rw [e, ho] at h2
  cases ns with
  | nil => cases h2
  | cons x r => cases h2
theorem BagAt.upd {H : Hp} {b l : Addr} {ns : List Int} {o : HO} (h : BagAt H b l ns) (ho : BagO l ns o) : BagAt (upd H b o) b l ns :=
  ⟨⟨o, upd_same, ho⟩, by rw [upd_ne h.ne]; exact h.sc, h.ln⟩
/-- the bag where all that was tracked stands -/
theorem BagAt.same {H H' : Hp} {b l : Addr} {ns : List Int} (h : BagAt H b l ns) (e : Same H H') : BagAt H' b l ns :=
  ⟨h.ob.imp fun _ z => ⟨e _ _ z.1, z.2⟩, e _ _ h.sc, h.ln⟩
def spPull : Sp := fun vs H Q _ => ∃ (b l : Addr) (ns : List Int) (m : Int), vs = [.ref b, .int m] ∧ BagAt H b l ns ∧ 0 < m ∧ m < 2 ^ 100 ∧
  ∀ (v : Int) (o : HO), 0 ≤ v → v < m → BagO l ns o → Q (.int v) (upd H b o)
def spBag (K : PySem.W.Frag) : Sp := fun vs H Q _ => ∃ (a : Addr) (ns : List Int), vs = [.ref a] ∧ SqL K H a (ns.map V.int) ∧ ns.length ≤ 63 ∧
  ∀ (b l : Addr) (H' : Hp), Same H H' → H b = none → H l = none → BagAt H' b l ns → Q (.ref b) H'
section
variable {P : Program} {w : World} {K : PySem.W.Frag} {mg : Str → Option Value} {base : Heap}
/-! ### _law_pull -/
theorem scPull : FnScope ["_law_bag_here", "_law_many", "_law_cell", "_law_got", "_law_seed"] ["_law_bag_here", "_law_many"] (defScope sPull) := ⟨rfl, rfl, rfl, by decide +kernel, rfl, by decide +kernel, by decide +kernel⟩
theorem at0 {x : V} {r : List V} : atI (x :: r) 0 = some x := by
  have h := atI_nat (xs := x :: r) (j := 0) (v := x) rfl
  exact h
theorem at1 {x y : V} {r : List V} : atI (x :: y :: r) 1 = some y := by
  have h := atI_nat (xs := x :: y :: r) (j := 1) (v := y) rfl
  exact h
theorem at2 {x y z : V} {r : List V} : atI (x :: y :: z :: r) 2 = some z := by
  have h := atI_nat (xs := x :: y :: z :: r) (j := 2) (v := z) rfl
  exact h
theorem at3 {x y z u : V} {r : List V} : atI (x :: y :: z :: u :: r) 3 = some u := by
  have h := atI_nat (xs := x :: y :: z :: u :: r) (j := 3) (v := u) rfl
  exact h
set_option maxHeartbeats 4000000 in
theorem ok_pull {f : Addr} {fd : FuncData} {k : Nat} (F : Fun K "_law_pull" "_law_pull" sPull f fd) (mlen : mg "len" = none) : FnOk P w K mg base CX0 (k + 1) f fd ["_law_bag_here", "_law_many"] spPull := by
  refine F.ok scPull (fun vs H Q E h => ?_) (fun cdv A outer s H vs Q E hr h => ?_)
  · obtain ⟨b, l, ns, m, rfl, _⟩ := h
    rfl
  · obtain ⟨b, l, ns, m, rfl, B, hm, hm2, q⟩ := h
    refine ⟨_, C8.pss_cut (ps_if (PW.pt (pw_and (pt_cmpR op_eq (pe_ix ix_list (pv 0) pe_int (fun _ _ => rfl)) pe_int (nomark _))
        (pw_and1 (pt_cmpR op_lt (pe_ix ix_list (pv 0) pe_int (fun _ _ => rfl)) (pe_callB call_len_seq (by rfl) mlen PySem.boot_len (pa_cons (pe_ix ix_list (pv 0) pe_int (fun _ _ => rfl)) pa_nil)) (nomark _)))))
        (pss_cons (ps_set (i := 2) scPull.nd rfl (Or.inl rfl) (pe_ix ix_list (pe_ix ix_list (pv 0) pe_int (fun _ _ => rfl)) (pe_ix ix_list (pv 0) pe_int (fun _ _ => rfl)) (fun _ _ => rfl)))
        (pss_cons (ps_asg (pe_op op_add (pe_ix ix_list (pv 0) pe_int (fun _ _ => rfl)) pe_int) (pg_sub (pv 0) pe_int set_list))
        (pss_one (ps_if (pt_cmpR op_ge (pv 2) (pe_op op_pow pe_int pe_int) (nomark _))
          (pss_one (ps_asg (pe_op op_sub (pv 2) (pe_op op_pow pe_int pe_int)) (pg_sub (pv 0) pe_int set_list)))
          (pss_one (ps_asg (pe_op op_mod (pe_op op_add (pe_op op_add (pe_op op_mul (pe_ix ix_list (pv 0) pe_int (fun _ _ => rfl)) pe_int) (pe_op op_mul (pe_op op_mod (pv 2) pe_int) pe_int)) pe_int) pe_int) (pg_sub (pv 0) pe_int set_list)))))))
        pss_nil)
      (pss_cons (ps_if (pt_cmpR op_gt (pe_ix ix_list (pv 0) pe_int (fun _ _ => rfl)) pe_int (nomark _))
        (pss_cons (ps_set (i := 3) scPull.nd rfl (Or.inl rfl) (pe_op op_mod (pe_ix ix_list (pv 0) pe_int (fun _ _ => rfl)) (pv 1)))
        (pss_cons (ps_asg (pe_op op_fdivW (pe_ix ix_list (pv 0) pe_int (fun _ _ => rfl)) (pv 1)) (pg_sub (pv 0) pe_int set_list))
        (pss_one (ps_ret (pv 3))))) pss_nil)
      (pss_cons (ps_set (i := 4) scPull.nd rfl (Or.inl rfl) (pe_ix ix_list (pv 0) pe_int (fun _ _ => rfl)))
      (pss_cons (ps_asg (pe_op op_mod (pe_op op_add (pe_op op_add (pe_op op_mul (pe_op op_mul (pv 4) (pv 4)) pe_int) (pe_op op_mul (pv 4) pe_int)) pe_int) pe_int) (pg_sub (pv 0) pe_int set_list))
      (pss_one (ps_ret (pe_op op_mod (pe_op op_add (pe_op op_fdiv (pe_ix ix_list (pv 0) pe_int (fun _ _ => rfl)) pe_int) (pe_op op_mul (pe_op op_mod (pe_ix ix_list (pv 0) pe_int (fun _ _ => rfl)) pe_int) pe_int)) (pv 1))))))), ?_⟩
    obtain ⟨o, ho, i, r, sa, rfl, hi, hr0, hs0, hs1⟩ := B.ob
    refine ⟨fun σ H' => ∃ (v2 : Option V) (o : HO), σ = [some (.ref b), some (.int m), v2, none, none] ∧ H' = upd H b o ∧ BagO l ns o, ?_, ?_⟩
    · refine ⟨_, rfl, b, _, _, _, rfl, rfl, SqL.of ho, at2, rfl, _, rfl, ?_⟩
      have stay : H = upd H b (.lst [.ref l, .int (i : Int), .int r, .int sa]) := (upd_self ho).symm
      refine ite2 (fun c => ?_) (fun c => ?_)
      · have c0 : r = 0 := by
          have c1 := of_decide_eq_true c
          injection c1
        subst c0
        refine ⟨_, rfl, b, _, _, _, rfl, rfl, SqL.of ho, at1, _, rfl, b, _, _, _, rfl, rfl, SqL.of ho, at0, l, _, rfl, .inl (SqL.of B.sc), _, _, rfl, rfl, _, rfl, ?_⟩
        rw [List.length_map]
        refine ite2 (fun c => ?_) (fun c => ?_)
        · have c1 : (i : Int) < (ns.length : Int) := of_decide_eq_true c
          have c2 : i < ns.length := by omega
          have g1 : (ns.map V.int)[i]? = some (.int ns[i]) := by
            rw [List.getElem?_map, List.getElem?_eq_getElem c2]
            rfl
          refine ⟨_, rfl, b, _, _, _, rfl, rfl, SqL.of ho, at0, _, rfl, b, _, _, _, rfl, rfl, SqL.of ho, at1, l, _, _, _, rfl, rfl, SqL.of B.sc, atI_nat g1, ?_⟩
          refine ⟨_, rfl, b, _, _, _, rfl, rfl, SqL.of ho, at1, _, _, rfl, rfl, _, rfl, b, _, _, 1, rfl, rfl, ho, rfl, ?_⟩
          refine ⟨_, rfl, _, _, rfl, rfl, ⟨by decide, by decide, by decide⟩, _, _, rfl, rfl, _, rfl, ?_⟩
          refine ite2 (fun c => ?_) (fun c => ?_)
          · have c3 : (10 : Int) ^ (18 : Int).toNat ≤ ns[i] := of_decide_eq_true c
            refine ⟨_, rfl, _, _, rfl, rfl, ⟨by decide, by decide, by decide⟩, _, _, rfl, rfl, _, rfl, b, _, _, 2, rfl, rfl, upd_same, rfl, ?_⟩
            refine ⟨_, _, rfl, upd_upd, i + 1, ns[i] - 10 ^ (18 : Int).toNat, sa, by rfl, by omega, by omega, hs0, hs1⟩
          · refine ⟨_, rfl, b, _, _, _, rfl, rfl, SqL.of upd_same, at3, _, _, rfl, rfl, .inl ⟨by omega, by omega⟩, _, rfl, _, _, rfl, rfl, (by show (0 : Int) < 2147483563; decide), _, _, rfl, rfl, .inl ⟨by omega, by omega⟩, _, _, rfl, rfl, _, _, rfl, rfl, _, _, rfl, rfl, (by show (0 : Int) < 2147483563; decide), _, rfl, b, _, _, 3, rfl, rfl, upd_same, rfl, ?_⟩
            refine ⟨_, _, rfl, upd_upd, i + 1, 0, _, by rfl, by omega, by omega, ?_, ?_⟩
            · exact Int.emod_nonneg _ (by decide)
            · exact Int.emod_lt_of_pos _ (by decide)
        · refine ⟨none, _, rfl, stay, i, 0, sa, rfl, hi, by omega, hs0, hs1⟩
      · refine iteF ?_
        exact ⟨none, _, rfl, stay, i, r, sa, rfl, hi, hr0, hs0, hs1⟩
    · rintro σ H' ⟨v2, o, rfl, rfl, i, r, sa, rfl, hi, hr0, hs0, hs1⟩
      refine ⟨_, rfl, b, _, _, _, rfl, rfl, SqL.of upd_same, at2, _, _, rfl, rfl, _, rfl, ?_⟩
      refine ite2 (fun c => ?_) (fun c => ?_)
      · have c1 : 0 < r := of_decide_eq_true c
        refine ⟨_, rfl, b, _, _, _, rfl, rfl, SqL.of upd_same, at2, _, rfl, _, _, rfl, rfl, hm, ?_⟩
        refine ⟨_, rfl, b, _, _, _, rfl, rfl, SqL.of upd_same, at2, _, rfl, _, _, rfl, rfl, wide_div hm (b := 100) (by omega) (by decide) (by decide), _, rfl, b, _, _, 2, rfl, rfl, upd_same, rfl, ?_⟩
        refine ⟨_, rfl, ?_⟩
        rw [upd_upd]
        refine q _ _ (Int.emod_nonneg _ (by omega)) (Int.emod_lt_of_pos _ hm) ⟨i, r / m, sa, rfl, hi, Int.ediv_nonneg hr0 (by omega), hs0, hs1⟩
      · refine ⟨_, rfl, b, _, _, _, rfl, rfl, SqL.of upd_same, at3, ?_⟩
        have hq : sa * sa < 2 ^ 64 := by
          have : sa * sa ≤ sa * 2147483563 := Int.mul_le_mul_of_nonneg_left (by omega) hs0
          omega
        have hq0 : 0 ≤ sa * sa := Int.mul_nonneg hs0 hs0
        refine ⟨_, rfl, _, rfl, _, _, rfl, rfl, .inl ⟨by omega, by omega⟩, _, _, rfl, rfl, .inl ⟨by omega, by omega⟩, _, rfl, _, _, rfl, rfl, .inl ⟨by omega, by omega⟩, _, _, rfl, rfl, _, _, rfl, rfl, _, _, rfl, rfl, (by show (0 : Int) < 2147483563; decide), _, rfl, b, _, _, 3, rfl, rfl, upd_same, rfl, ?_⟩
        rw [upd_upd]
        obtain ⟨x, hx⟩ : ∃ x : Int, (sa * sa * 3 + sa * 16807 + 1013904223) % 2147483563 = x := ⟨_, rfl⟩
        have x0 : 0 ≤ x := hx ▸ Int.emod_nonneg _ (by decide)
        have x1 : x < 2147483563 := hx ▸ Int.emod_lt_of_pos _ (by decide)
        refine ⟨_, rfl, b, _, _, _, rfl, rfl, SqL.of upd_same, at3, _, _, rfl, rfl, ⟨by decide, by decide⟩, _, rfl, b, _, _, _, rfl, rfl, SqL.of upd_same, at3, _, _, rfl, rfl, (by show (0 : Int) < 8191; decide), _, _, rfl, rfl, .inl ⟨by omega, by omega⟩, _, _, rfl, rfl, _, rfl, _, _, rfl, rfl, hm, ?_⟩
        exact q _ _ (Int.emod_nonneg _ (by omega)) (Int.emod_lt_of_pos _ hm) ⟨i, r, x, by rw [← hx]; rfl, hi, hr0, x0, x1⟩
end
end Lw
end
section
set_option Elab.async false
set_option linter.all false
set_option maxRecDepth 100000
namespace Lw
open PySem L2
abbrev sLike : Stmt := top 39
/-- the built-in names that the law's helpers ask for -/
structure Bi (mg : Str → Option Value) : Prop where
  len : mg "len" = none
  list : mg "list" = none
  tuple : mg "tuple" = none
  bool : mg "bool" = none
  int : mg "int" = none
  str : mg "str" = none
  isi : mg "isinstance" = none
  all : mg "all" = none
  zip : mg "zip" = none
  range : mg "range" = none
def spOf (K : PySem.W.Frag) : Sp := fun vs H Q _ => ∃ (b l t : Addr) (ns : List Int) (xs : List V), vs = [.ref b, .ref t] ∧ BagAt H b l ns ∧ SqL K H t xs ∧ t ≠ b ∧ xs ≠ [] ∧ xs.length ≤ 1000 ∧
  ∀ (i : Nat) (v : V) (o : HO), xs[i]? = some v → BagO l ns o → Q v (upd H b o)
theorem if_t {c : Bool} {A B : Prop} (hc : c = true) (h : A) : if c = true then A else B := by
  rw [if_pos hc]
  exact h
theorem if_f {c : Bool} {A B : Prop} (hc : c = false) (h : B) : if c = true then A else B := by
  rw [hc, if_neg Bool.false_ne_true]
  exact h
theorem cut_all {xs : List V} (h : xs.length ≤ 63) : cutV xs none (some 63) = xs := by
  unfold cutV
  rw [HT.sIx_none, show HT.sIx xs.length xs.length (some 63) = min 63 xs.length from HT.sIx_nat xs.length xs.length 63, Nat.min_eq_right h]
  simp
section
variable {P : Program} {w : World} {K : PySem.W.Frag} {mg : Str → Option Value} {base : Heap}
theorem SqL.upd_ne {H : Hp} {a b : Addr} {xs : List V} {o : HO} (h : SqL K H a xs) (e : a ≠ b) : SqL K (upd H b o) a xs := by
  unfold SqL Rd at h ⊢
  rw [L2.upd_ne e]
  exact h
/-! ### _law_bag -/
theorem scBag : FnScope ["_law_script", "_law_salt", "_law_cell"] ["_law_script"] (defScope sBag) := ⟨rfl, rfl, rfl, by decide +kernel, rfl, by decide +kernel, by decide +kernel⟩
set_option maxHeartbeats 4000000 in
theorem ok_bag {f : Addr} {fd : FuncData} {k : Nat} (F : Fun K "_law_bag" "_law_bag" sBag f fd) (T : Bi mg) : FnOk P w K mg base CX0 (k + 1) f fd ["_law_script"] (spBag K) := by
  refine F.ok scBag (fun vs H Q E h => ?_) (fun cdv A outer s H vs Q E hr h => ?_)
  · obtain ⟨b, ns, rfl, _⟩ := h
    rfl
  · obtain ⟨a, ns, rfl, hS, hl, q⟩ := h
    refine ⟨_, pss_cons (ps_set (i := 1) scBag.nd rfl (Or.inl rfl) pe_int)
      (pss_cons (ps_for PassesOwn.never rfl (pi_list (pe_slice sl_list (pv 0) po_none (po_some pe_int))) (pg_name (i := 2) scBag.nd rfl (Or.inl rfl))
        (pss_one (ps_set (i := 1) scBag.nd rfl (Or.inl rfl) (pe_op op_mod (pe_op op_add (pe_op op_add (pe_op op_mul (pv 1) pe_int) (pe_op op_mod (pv 2) pe_int)) pe_int) pe_int))))
      (pss_one (ps_ret (pe_lst (pa_cons (pe_callTy call_list_of (by rfl) T.list (by decide +kernel) (pa_cons (pe_slice sl_list (pv 0) po_none (po_some pe_int)) pa_nil)) (pa_cons pe_int (pa_cons pe_int (pa_cons (pv 1) pa_nil)))))))), ?_⟩
    have hl' : (ns.map V.int).length ≤ 63 := by rw [List.length_map]; exact hl
    refine ⟨_, rfl, _, rfl, a, _, rfl, hS, fun p hp => ?_⟩
    rw [cut_all hl']
    have s1 : Same H (upd H p (.lst (ns.map V.int))) := same_upd hp
    refine ⟨p, rfl, ⟨_, SqL.of upd_same⟩, for_list (K := K) (a := p) (xs := ns.map V.int) (fun i σ H' => ∃ (v : Option V) (sa : Int), σ = [some (.ref a), some (.int sa), v] ∧ H' = upd H p (.lst (ns.map V.int)) ∧ 0 ≤ sa ∧ sa < 2147483563)
      ⟨none, 3803, rfl, rfl, by decide, by decide⟩ (fun i σ H' _ ⟨_, _, _, e, _⟩ => by subst e; exact SqL.of upd_same) ?_ ?_⟩
    · rintro i y σ H' hi ⟨v, sa, rfl, rfl, h0, h1⟩
      obtain ⟨z, rfl⟩ : ∃ z, y = V.int z := by
        rw [List.getElem?_map] at hi
        cases e : ns[i]? with
        | none =>
          rw [e] at hi
          cases hi
        | some z =>
          rw [e] at hi
          exact ⟨z, (Option.some.inj hi).symm⟩
      refine ⟨_, rfl, _, _, rfl, rfl, .inl ⟨by omega, by omega⟩, _, rfl, _, _, rfl, rfl, (by show (0 : Int) < 2147483563; decide), _, _, rfl, rfl, _, _, rfl, rfl, _, _, rfl, rfl, (by show (0 : Int) < 2147483563; decide), ?_⟩
      exact ⟨_, _, rfl, rfl, Int.emod_nonneg _ (by decide), Int.emod_lt_of_pos _ (by decide)⟩
    · rintro σ H' ⟨v, sa, rfl, rfl, h0, h1⟩
      refine ⟨_, rfl, _, rfl, a, _, rfl, s1.seq hS, fun p2 hp2 => ?_⟩
      rw [cut_all hl']
      refine ⟨p2, _, rfl, .inl (SqL.of upd_same), fun l hl2 => ?_⟩
      have s2 := s1.trans (same_upd (o := .lst (ns.map V.int)) hp2)
      have s3 := s2.trans (same_upd (o := .lst (ns.map V.int)) hl2)
      refine ⟨_, rfl, (by show 4 ≤ sizeLine; decide), fun b hb => ?_⟩
      have nl : H l = none := s2.free hl2
      have nb : H b = none := s3.free hb
      have lb : l ≠ b := fun e => by
        rw [← e, upd_same] at hb
        cases hb
      refine q b l _ (s3.trans (same_upd hb)) nb nl ⟨⟨_, upd_same, 0, 0, sa, rfl, Nat.zero_le _, by decide, h0, h1⟩, ?_, hl⟩
      rw [upd_ne lb, upd_same]
/-! ### _law_of -/
theorem scOf : FnScope ["_law_bag_here", "_law_things"] ["_law_bag_here", "_law_things"] (defScope sOf) := ⟨rfl, rfl, rfl, by decide +kernel, rfl, by decide +kernel, by decide +kernel⟩
set_option maxHeartbeats 4000000 in
theorem ok_of {f : Addr} {fd : FuncData} {k : Nat} (F : Fun K "_law_of" "_law_of" sOf f fd) (T : Bi mg) (cP : C8.Cal P w K mg base 1 "_law_pull" spPull []) : FnOk P w K mg base CX0 (k + 2) f fd ["_law_bag_here", "_law_things"] (spOf K) := by
  refine F.ok scOf (fun vs H Q E h => ?_) (fun cdv A outer s H vs Q E hr h => ?_)
  · obtain ⟨b, l, t, ns, xs, rfl, _⟩ := h
    rfl
  · obtain ⟨b, l, t, ns, xs, rfl, B, hS, ne, nn, hl, q⟩ := h
    refine ⟨_, pss_one (ps_ret (pe_ix ix_list (pv 1) (C8.pe_c cP hr (Nat.le_add_left 1 k) (by rfl) (pa_cons (pv 0) (pa_cons (pe_callB call_len_seq (by rfl) T.len PySem.boot_len (pa_cons (pv 1) pa_nil)) pa_nil))) (fun _ _ => rfl))), ?_⟩
    have l0 : 0 < xs.length := List.length_pos_iff.mpr nn
    refine ⟨_, rfl, _, rfl, _, rfl, t, xs, rfl, .inl hS, b, l, ns, _, rfl, B, by omega, by omega, fun v o v0 v1 BO => ?_⟩
    have hv : v.toNat < xs.length := by omega
    have hvv : ((v.toNat : Nat) : Int) = v := Int.toNat_of_nonneg v0
    have g : atI xs v = some xs[v.toNat] := by
      have := atI_nat (xs := xs) (j := v.toNat) (v := xs[v.toNat]) (List.getElem?_eq_getElem hv)
      rw [hvv] at this
      exact this
    exact ⟨t, xs, v, _, rfl, rfl, SqL.upd_ne hS ne, g, q v.toNat _ o (List.getElem?_eq_getElem hv) BO⟩
/-! ### _law_like of like things is True -/
def atomV : V → Bool
  | .non => true
  | .bl _ => true
  | .int _ => true
  | .str _ => true
  | _ => false
def Lk (H : Hp) : Nat → V → V → Prop
  | 0, _, _ => False
  | n + 1, x, y => (x = y ∧ atomV x = true) ∨
    (∃ (a b : Addr) (xs ys : List V), x = .ref a ∧ y = .ref b ∧ H a = some (.lst xs) ∧ H b = some (.lst ys) ∧ xs.length = ys.length ∧ xs.length ≤ 1000 ∧ ∀ (i : Nat) u v, xs[i]? = some u → ys[i]? = some v → Lk H n u v) ∨
    (∃ (a b : Addr) (xs ys : List V), x = .ref a ∧ y = .ref b ∧ H a = some (.tup xs) ∧ H b = some (.tup ys) ∧ xs.length = ys.length ∧ xs.length ≤ 1000 ∧ ∀ (i : Nat) u v, xs[i]? = some u → ys[i]? = some v → Lk H n u v)
theorem Lk.same {H H' : Hp} (s : Same H H') : ∀ (n : Nat) (x y : V), Lk H n x y → Lk H' n x y
  | 0, _, _, h => h
  | n + 1, x, y, h => by
    rcases h with h | ⟨a, b, xs, ys, e1, e2, e3, e4, e5, e6, h⟩ | ⟨a, b, xs, ys, e1, e2, e3, e4, e5, e6, h⟩
    · exact .inl h
    · exact .inr (.inl ⟨a, b, xs, ys, e1, e2, s _ _ e3, s _ _ e4, e5, e6, fun i u v h1 h2 => Lk.same s n u v (h i u v h1 h2)⟩)
    · exact .inr (.inr ⟨a, b, xs, ys, e1, e2, s _ _ e3, s _ _ e4, e5, e6, fun i u v h1 h2 => Lk.same s n u v (h i u v h1 h2)⟩)
def spLike (n : Nat) : Sp := fun vs H Q _ => ∃ x y, vs = [x, y] ∧ Lk H n x y ∧ ∀ H', Same H H' → Q (.bl true) H'
theorem scLike : FnScope ["_law_found", "_law_due", "_law_one", "_law_other"] ["_law_found", "_law_due"] (defScope sLike) := ⟨rfl, rfl, rfl, by decide +kernel, rfl, by decide +kernel, by decide +kernel⟩
theorem walk_zipT {a b : Addr} {xs ys : List V} {n : Nat} (hn : n = min xs.length ys.length) : Walk (RZ.ItzT K a b) n (fun H => SqT K H a xs ∧ SqT K H b ys) (YPair (fun i => xs[i]?) (fun i => ys[i]?)) := by
  subst hn
  refine ⟨fun i H hi q => ?_, fun H q => ?_, fun i H x H' hi q y => ?_⟩
  · have h1 : i < xs.length := by omega
    have h2 : i < ys.length := by omega
    exact ⟨xs, ys, xs[i], ys[i], q.1, q.2, by simp [h1], by simp [h2]⟩
  · exact ⟨xs, ys, q.1, q.2, by omega⟩
  · obtain ⟨T, u, v, e1, e2, e3, g1, g2⟩ := y
    exact ⟨T, u, v, e1, e2, e3, g1 xs q.1, g2 ys q.2⟩
/-- what the law asks of an atom: its type's name -/
def tyV : V → String
  | .non => "NoneType"
  | .bl _ => "bool"
  | .int _ => "int"
  | .str _ => "str"
  | _ => "none"
theorem tyV_of {H : Hp} {x : V} (h : atomV x = true) : TyX K H x (.type (tyV x)) := by
  cases x with
  | non => exact .base .non
  | bl b => exact .base (.bl b)
  | int i => exact .base (.int i)
  | str z => exact .base (.str z)
  | _ => cases h
theorem tyV_cases {x : V} (h : atomV x = true) : tyV x = "NoneType" ∨ tyV x = "bool" ∨ tyV x = "int" ∨ tyV x = "str" := by
  cases x with
  | non => exact .inl rfl
  | bl b => exact .inr (.inl rfl)
  | int i => exact .inr (.inr (.inl rfl))
  | str z => exact .inr (.inr (.inr rfl))
  | _ => cases h
/-- isinstance of an atom: some answer, by the type alone -/
def isB (x : V) (T : String) : Bool := (kitB (tyV x) T).getD false
theorem isB_of {x : V} {T : String} (h : atomV x = true) (hT : T = "list" ∨ T = "tuple" ∨ T = "bool" ∨ T = "int" ∨ T = "str") : PySem.W.kitOne K (.type (tyV x)) (.type T) = some (isB x T) := by
  refine kit_ty ?_
  unfold isB
  rcases tyV_cases h with e | e | e | e <;> rw [e] <;> rcases hT with e | e | e | e | e <;> rw [e] <;> decide +kernel
theorem isB_no {x : V} (h : atomV x = true) : PySem.W.kitAny K (.type (tyV x)) [.type "list", .type "tuple"] = some false := by
  rcases tyV_cases h with e | e | e | e <;> rw [e]
  all_goals
    refine kitAny_cons (b := false) (kit_ty (by decide +kernel)) (fun _ => ?_) (fun z => by cases z)
    refine kitAny_cons (b := false) (kit_ty (by decide +kernel)) (fun _ => rfl) (fun z => by cases z)
theorem all_true (n : Nat) : (List.replicate n true).all id = true := by
  rw [List.all_replicate]
  simp
theorem like0 {f : Addr} {fd : FuncData} {k : Nat} (F : Fun K "_law_like" "_law_like" sLike f fd) : FnOk P w K mg base CX0 (k + 1) f fd ["_law_found", "_law_due"] (spLike 0) := by
  refine F.ok scLike (fun vs H Q E h => ?_) (fun cdv A outer s H vs Q E hr h => ?_)
  · obtain ⟨x, y, rfl, _⟩ := h
    rfl
  · obtain ⟨x, y, rfl, L, q⟩ := h
    exact L.elim
set_option maxHeartbeats 8000000 in
theorem ok_like {f : Addr} {fd : FuncData} {n k : Nat} (F : Fun K "_law_like" "_law_like" sLike f fd) (T : Bi mg) (c : 0 < n → C8.Cal P w K mg base (k + 1) "_law_like" (spLike (n - 1)) []) : FnOk P w K mg base CX0 (k + 2) f fd ["_law_found", "_law_due"] (spLike n) := by
  refine F.ok scLike (fun vs H Q E h => ?_) (fun cdv A outer s H vs Q E hr h => ?_)
  · obtain ⟨x, y, rfl, _⟩ := h
    rfl
  · obtain ⟨x, y, rfl, L, q⟩ := h
    cases n with
    | zero => exact L.elim
    | succ n =>
      have cc := c (Nat.succ_pos n)
      refine ⟨_, pss_cons (ps_if (pt_val (pe_callB call_isiT (by rfl) T.isi (by decide +kernel) (pa_cons (pv 1) (pa_cons (pe_tup (pa_cons (pe_bltn (v := .ty "list") (by rfl) T.list (by decide +kernel) rfl) (pa_cons (pe_bltn (v := .ty "tuple") (by rfl) T.tuple (by decide +kernel) rfl) pa_nil))) pa_nil))))
          (pss_cons (ps_if (PW.pt (pw_or (pt_cmpR op_ne (pe_callB call_isi (by rfl) T.isi (by decide +kernel) (pa_cons (pv 0) (pa_cons (pe_bltn (v := .ty "list") (by rfl) T.list (by decide +kernel) rfl) pa_nil))) (pe_callB call_isi (by rfl) T.isi (by decide +kernel) (pa_cons (pv 1) (pa_cons (pe_bltn (v := .ty "list") (by rfl) T.list (by decide +kernel) rfl) pa_nil))) (nomark _))
              (pw_or1 (pt_cmpR op_ne (pe_callB call_isi (by rfl) T.isi (by decide +kernel) (pa_cons (pv 0) (pa_cons (pe_bltn (v := .ty "tuple") (by rfl) T.tuple (by decide +kernel) rfl) pa_nil))) (pe_callB call_isi (by rfl) T.isi (by decide +kernel) (pa_cons (pv 1) (pa_cons (pe_bltn (v := .ty "tuple") (by rfl) T.tuple (by decide +kernel) rfl) pa_nil))) (nomark _))))) (pss_one (ps_ret pe_bl)) pss_nil)
          (pss_one (ps_ret (pe_and (pe_cmpR op_eq (pe_callB call_len_seq (by rfl) T.len PySem.boot_len (pa_cons (pv 0) pa_nil)) (pe_callB call_len_seq (by rfl) T.len PySem.boot_len (pa_cons (pv 1) pa_nil)) (nomark _))
            (pe_one (pe_callB (cr_all rfl) (by rfl) T.all (by decide +kernel) (pa_cons
              (pe_lc (own := [("_law_one", 2), ("_law_other", 3)]) (g := gTup K 2 (gCons (gName 2) (gCons (gName 3) gNil))) (tt := tYes) (te := tCall (spLike n) [] E0 (tCons (tVar 2) (tCons (tVar 3) tNil))) rfl scLike.nd (RZ.pi_zipA (by rfl) T.zip (pa_cons (pv 0) (pa_cons (pv 1) pa_nil)))
                (blkOk_by (N := ["_law_found", "_law_due", "_law_one", "_law_other"]) (sc := defScope sLike) (by decide +kernel))
                (fun _ _ _ _ _ => by exact pg_tup rfl (pgs_cons (pg_name (i := 2) scLike.nd rfl (Or.inl rfl)) (pgs_cons (pg_name (i := 3) scLike.nd rfl (Or.inl rfl)) pgs_nil)))
                (fun _ _ _ _ _ => pts_nil)
                (fun _ _ _ _ _ => by exact C8.pe_c cc hr (Nat.le_refl _) (by rfl) (pa_cons (pv 2) (pa_cons (pv 3) pa_nil)))) pa_nil))))))) pss_nil)
        (pss_cons (ps_if (PW.pt (pw_or (pt_cmpR op_isN (pv 0) pe_non (nomark _)) (pw_or1 (pt_cmpR op_isN (pv 1) pe_non (nomark _))))) (pss_one (ps_ret (pe_and (pe_cmpR op_isN (pv 0) pe_non (nomark _)) (pe_one (pe_cmpR op_isN (pv 1) pe_non (nomark _)))))) pss_nil)
        (pss_cons (ps_if (PW.pt (pw_or (pt_cmpR op_ne (pe_callB call_isi (by rfl) T.isi (by decide +kernel) (pa_cons (pv 0) (pa_cons (pe_bltn (v := .ty "bool") (by rfl) T.bool (by decide +kernel) rfl) pa_nil))) (pe_callB call_isi (by rfl) T.isi (by decide +kernel) (pa_cons (pv 1) (pa_cons (pe_bltn (v := .ty "bool") (by rfl) T.bool (by decide +kernel) rfl) pa_nil))) (nomark _))
              (pw_or1 (pt_cmpR op_ne (pe_callB call_isi (by rfl) T.isi (by decide +kernel) (pa_cons (pv 0) (pa_cons (pe_bltn (v := .ty "int") (by rfl) T.int (by decide +kernel) rfl) pa_nil))) (pe_callB call_isi (by rfl) T.isi (by decide +kernel) (pa_cons (pv 1) (pa_cons (pe_bltn (v := .ty "int") (by rfl) T.int (by decide +kernel) rfl) pa_nil))) (nomark _))))) (pss_one (ps_ret pe_bl)) pss_nil)
        (pss_one (ps_ret (pe_and (pe_cmpR op_eq (pe_callB call_isi (by rfl) T.isi (by decide +kernel) (pa_cons (pv 0) (pa_cons (pe_bltn (v := .ty "str") (by rfl) T.str (by decide +kernel) rfl) pa_nil))) (pe_callB call_isi (by rfl) T.isi (by decide +kernel) (pa_cons (pv 1) (pa_cons (pe_bltn (v := .ty "str") (by rfl) T.str (by decide +kernel) rfl) pa_nil))) (nomark _)) (pe_one (pe_cmpR op_eq (pv 0) (pv 1) (nomark _)))))))), ?_⟩
      rcases L with ⟨rfl, ha⟩ | ⟨a, b, xs, ys, rfl, rfl, ea, eb, hl, h1000, hp⟩ | ⟨a, b, xs, ys, rfl, rfl, ea, eb, hl, h1000, hp⟩
      · refine ⟨_, rfl, (by show 2 ≤ sizeLine; decide), fun t ht => ?_⟩
        have s1 := same_upd (o := .tup [.ty "list", .ty "tuple"]) ht
        refine ⟨x, t, _, _, _, _, rfl, upd_same, .cons (.ty _) (.cons (.ty _) .nil), tyV_of ha, isB_no ha, false, rfl, ?_⟩
        refine iteF ?_
        refine ⟨_, rfl, rfl, _, rfl, ?_⟩
        by_cases hx : x = .non
        · subst hx
          refine if_t (decide_eq_true rfl) (iteT ?_)
          exact ⟨_, rfl, rfl, _, rfl, if_t (decide_eq_true rfl) ⟨_, rfl, rfl, q _ s1⟩⟩
        · refine if_f (decide_eq_false hx) ⟨_, rfl, rfl, _, rfl, if_f (decide_eq_false hx) ?_⟩
          refine ⟨_, rfl, x, _, _, _, _, rfl, .ty _, tyV_of ha, isB_of ha (by simp), _, rfl, x, _, _, _, _, rfl, .ty _, tyV_of ha, isB_of ha (by simp), rfl, _, rfl, ?_⟩
          refine if_f (by simp) ?_
          refine ⟨_, rfl, x, _, _, _, _, rfl, .ty _, tyV_of ha, isB_of ha (by simp), _, rfl, x, _, _, _, _, rfl, .ty _, tyV_of ha, isB_of ha (by simp), rfl, _, rfl, ?_⟩
          refine if_f (by simp) ?_
          refine ⟨_, rfl, x, _, _, _, _, rfl, .ty _, tyV_of ha, isB_of ha (by simp), _, rfl, x, _, _, _, _, rfl, .ty _, tyV_of ha, isB_of ha (by simp), rfl, _, rfl, ?_⟩
          refine if_t (by simp) ?_
          refine ⟨_, rfl, _, rfl, ?_, ?_⟩
          · cases x <;> first | rfl | (cases ha)
          · rw [decide_eq_true rfl]
            exact q _ s1
      · refine ⟨_, rfl, (by show 2 ≤ sizeLine; decide), fun t ht => ?_⟩
        have s1 := same_upd (o := .tup [.ty "list", .ty "tuple"]) ht
        have ea1 := s1 _ _ ea
        have eb1 := s1 _ _ eb
        refine ⟨.ref b, t, _, _, _, _, rfl, upd_same, .cons (.ty _) (.cons (.ty _) .nil), .base (.lst eb1), kitAny_cons (b := true) (kit_ty (by decide +kernel)) (fun z => by cases z) (fun _ => rfl), true, rfl, ?_⟩
        refine iteT ?_
        refine ⟨_, rfl, _, _, _, _, true, rfl, .ty _, .base (.lst ea1), kit_ty (by decide +kernel), _, rfl, _, _, _, _, true, rfl, .ty _, .base (.lst eb1), kit_ty (by decide +kernel), rfl, _, rfl, ?_⟩
        refine if_f (by simp) ?_
        refine ⟨_, rfl, _, _, _, _, false, rfl, .ty _, .base (.lst ea1), kit_ty (by decide +kernel), _, rfl, _, _, _, _, false, rfl, .ty _, .base (.lst eb1), kit_ty (by decide +kernel), rfl, _, rfl, ?_⟩
        refine if_f (by simp) ?_
        refine ⟨_, rfl, a, xs, rfl, .inl (SqL.of ea1), _, rfl, b, ys, rfl, .inl (SqL.of eb1), rfl, _, rfl, ?_⟩
        refine if_t (by rw [hl]; exact decide_eq_true rfl) ?_
        refine ⟨_, rfl, _, rfl, a, b, xs, ys, rfl, .inl ⟨SqL.of ea1, SqL.of eb1, fun D hD => ?_⟩⟩
        have s2 := s1.trans (same_upd (o := .lst []) hD)
        refine lc_it (walk_zip (K := K) (a := a) (b := b) (xs := xs) (ys := ys) (n := xs.length) (by omega)) (fun i H' => Same H H' ∧ H' D = some (.lst ((List.replicate i true).map V.bl))) ⟨s2, upd_same⟩ (fun i H' _ p => ⟨SqL.of (p.1 _ _ ea), SqL.of (p.1 _ _ eb)⟩) ?_ ?_
        · rintro i v H1 H' hi ⟨sm, eD⟩ ⟨T, x, y, rfl, hT, rfl, gx, gy⟩
          have s3 := sm.trans (same_upd (o := .tup [x, y]) hT)
          refine ⟨T, _, rfl, SqT.of upd_same, rfl, _, _, rfl, _, _, rfl, rfl, rfl, ?_⟩
          refine ⟨_, rfl, _, rfl, x, y, rfl, Lk.same s3 n _ _ (hp i x y gx gy), fun H4 s4 => ?_⟩
          have eD4 : H4 D = some (.lst ((List.replicate i true).map V.bl)) := s4 _ _ (by rw [upd_ne (ne_of_none eD hT)]; exact eD)
          have nD : H D = none := s1.free hD
          refine ⟨_, eD4, ?_, ?_, ?_⟩
          · rw [List.length_map, List.length_replicate]
            exact small1000 (by omega)
          · intro c o ec
            rw [upd_ne (ne_of_none ec nD)]
            exact s4 _ _ (s3 _ _ ec)
          · rw [upd_same, List.replicate_succ', List.map_append]
            rfl
        · rintro H' ⟨sm, eD⟩
          refine ⟨D, List.replicate xs.length true, rfl, SqL.of eD, ?_⟩
          rw [all_true]
          exact q H' sm
      · refine ⟨_, rfl, (by show 2 ≤ sizeLine; decide), fun t ht => ?_⟩
        have s1 := same_upd (o := .tup [.ty "list", .ty "tuple"]) ht
        have ea1 := s1 _ _ ea
        have eb1 := s1 _ _ eb
        refine ⟨.ref b, t, _, _, _, _, rfl, upd_same, .cons (.ty _) (.cons (.ty _) .nil), .base (.tup eb1), kitAny_cons (b := false) (kit_ty (by decide +kernel)) (fun _ => kitAny_cons (b := true) (kit_ty (by decide +kernel)) (fun z => by cases z) (fun _ => rfl)) (fun z => by cases z), true, rfl, ?_⟩
        refine iteT ?_
        refine ⟨_, rfl, _, _, _, _, false, rfl, .ty _, .base (.tup ea1), kit_ty (by decide +kernel), _, rfl, _, _, _, _, false, rfl, .ty _, .base (.tup eb1), kit_ty (by decide +kernel), rfl, _, rfl, ?_⟩
        refine if_f (by simp) ?_
        refine ⟨_, rfl, _, _, _, _, true, rfl, .ty _, .base (.tup ea1), kit_ty (by decide +kernel), _, rfl, _, _, _, _, true, rfl, .ty _, .base (.tup eb1), kit_ty (by decide +kernel), rfl, _, rfl, ?_⟩
        refine if_f (by simp) ?_
        refine ⟨_, rfl, a, xs, rfl, .inr (SqT.of ea1), _, rfl, b, ys, rfl, .inr (SqT.of eb1), rfl, _, rfl, ?_⟩
        refine if_t (by rw [hl]; exact decide_eq_true rfl) ?_
        refine ⟨_, rfl, _, rfl, a, b, xs, ys, rfl, .inr ⟨SqT.of ea1, SqT.of eb1, fun D hD => ?_⟩⟩
        have s2 := s1.trans (same_upd (o := .lst []) hD)
        refine lc_it (walk_zipT (K := K) (a := a) (b := b) (xs := xs) (ys := ys) (n := xs.length) (by omega)) (fun i H' => Same H H' ∧ H' D = some (.lst ((List.replicate i true).map V.bl))) ⟨s2, upd_same⟩ (fun i H' _ p => ⟨SqT.of (p.1 _ _ ea), SqT.of (p.1 _ _ eb)⟩) ?_ ?_
        · rintro i v H1 H' hi ⟨sm, eD⟩ ⟨T, x, y, rfl, hT, rfl, gx, gy⟩
          have s3 := sm.trans (same_upd (o := .tup [x, y]) hT)
          refine ⟨T, _, rfl, SqT.of upd_same, rfl, _, _, rfl, _, _, rfl, rfl, rfl, ?_⟩
          refine ⟨_, rfl, _, rfl, x, y, rfl, Lk.same s3 n _ _ (hp i x y gx gy), fun H4 s4 => ?_⟩
          have eD4 : H4 D = some (.lst ((List.replicate i true).map V.bl)) := s4 _ _ (by rw [upd_ne (ne_of_none eD hT)]; exact eD)
          have nD : H D = none := s1.free hD
          refine ⟨_, eD4, ?_, ?_, ?_⟩
          · rw [List.length_map, List.length_replicate]
            exact small1000 (by omega)
          · intro c o ec
            rw [upd_ne (ne_of_none ec nD)]
            exact s4 _ _ (s3 _ _ ec)
          · rw [upd_same, List.replicate_succ', List.map_append]
            rfl
        · rintro H' ⟨sm, eD⟩
          refine ⟨D, List.replicate xs.length true, rfl, SqL.of eD, ?_⟩
          rw [all_true]
          exact q H' sm
end
end Lw
end
section
set_option Elab.async false
set_option linter.all false
set_option maxRecDepth 100000
namespace Lw
open PySem L2
abbrev sPlan : Stmt := top 40
/-! ### edges: their tuples' places, and their two ends -/
abbrev Es := List (Addr × Int × Int)
def Ed (H : Hp) (ts : Es) : Prop := ∀ e ∈ ts, H e.1 = some (.tup [.int e.2.1, .int e.2.2])
def vsOf (ts : Es) : List V := ts.map fun e => .ref e.1
def psOf (ts : Es) : List (Int × Int) := ts.map (·.2)
/-- all that stood, but at b, stands -/
def KeepB (b : Addr) (H H' : Hp) : Prop := ∀ c o, c ≠ b → H c = some o → H' c = some o
theorem KeepB.rfl' {b : Addr} {H : Hp} : KeepB b H H := fun _ _ _ e => e
theorem KeepB.trans {b : Addr} {H H1 H2 : Hp} (x : KeepB b H H1) (y : KeepB b H1 H2) : KeepB b H H2 := fun c o n e => y c o n (x c o n e)
theorem KeepB.of_same {b : Addr} {H H' : Hp} (s : Same H H') : KeepB b H H' := fun c o _ e => s c o e
theorem KeepB.updb {b : Addr} {H : Hp} {o : HO} : KeepB b H (upd H b o) := fun c o n e => by
  rw [upd_ne n]
  exact e
theorem KeepB.new {b p : Addr} {H H' : Hp} {o : HO} (x : KeepB b H H') (n : H' p = none) : KeepB b H (upd H' p o) := x.trans (.of_same (same_upd n))
/-- a store at what was not there at first -/
theorem KeepB.at {b p : Addr} {H H' : Hp} {o : HO} (x : KeepB b H H') (n : H p = none) : KeepB b H (upd H' p o) := fun c o' nb e => by
  rw [upd_ne (ne_of_none e n)]
  exact x c o' nb e
theorem KeepB.free {b p : Addr} {H H' : Hp} {ob : HO} (x : KeepB b H H') (hb : H' b = some ob) (n : H' p = none) : H p = none := by
  cases e : H p with
  | none => rfl
  | some o =>
    have np : p ≠ b := fun z => by
      rw [z, hb] at n
      cases n
    rw [x p o np e] at n
    cases n
theorem BagAt.at_b {H : Hp} {b l : Addr} {ns : List Int} (B : BagAt H b l ns) : ∃ xs, H b = some (.lst xs) := by
  obtain ⟨o, ho, i, r, s, rfl, _⟩ := B.ob
  exact ⟨_, ho⟩
theorem BagAt.ne_tup {H : Hp} {b l c : Addr} {ns : List Int} {xs : List V} (B : BagAt H b l ns) (h : H c = some (.tup xs)) : c ≠ b := fun e => by
  obtain ⟨ys, hb⟩ := B.at_b
  rw [e, hb] at h
  cases h
theorem BagAt.ne_ins {H : Hp} {b l c C dx : Addr} {ns : List Int} {fs : List (Str × V)} (B : BagAt H b l ns) (h : H c = some (.ins C dx fs)) : c ≠ b := fun e => by
  obtain ⟨ys, hb⟩ := B.at_b
  rw [e, hb] at h
  cases h
theorem BagAt.ne_new {H : Hp} {b l c : Addr} {ns : List Int} (B : BagAt H b l ns) (h : H c = none) : c ≠ b := fun e => by
  obtain ⟨ys, hb⟩ := B.at_b
  rw [e, hb] at h
  cases h
theorem vsOf_cons_ne {l : Addr} {ts : Es} {i : Nat} {r s : Int} : vsOf ts ≠ [.ref l, .int (i : Int), .int r, .int s] := fun e => by
  have h : (vsOf ts)[1]? = some (V.int (i : Int)) := by rw [e]; rfl
  unfold vsOf at h
  rw [List.getElem?_map] at h
  cases g : ts[1]? with
  | none => rw [g] at h; cases h
  | some x => rw [g] at h; cases h
theorem BagAt.ne_vs {H : Hp} {b l c : Addr} {ns : List Int} {ts : Es} (B : BagAt H b l ns) (h : H c = some (.lst (vsOf ts))) : c ≠ b := fun e => by
  obtain ⟨o, ho, i, r, s, rfl, _⟩ := B.ob
  rw [e, ho] at h
  injection h with h
  injection h with h
  exact vsOf_cons_ne h.symm
theorem Ed.keep {H H' : Hp} {b l : Addr} {ns : List Int} {ts : Es} (h : Ed H ts) (B : BagAt H b l ns) (k : KeepB b H H') : Ed H' ts := fun e he => k _ _ (B.ne_tup (h e he)) (h e he)
theorem Ed.same {H H' : Hp} {ts : Es} (h : Ed H ts) (k : Same H H') : Ed H' ts := fun e he => k _ _ (h e he)
theorem Ed.app {H : Hp} {ts us : Es} (h : Ed H ts) (h2 : Ed H us) : Ed H (ts ++ us) := fun e he => (List.mem_append.mp he).elim (h e) (h2 e)
theorem Ed.nil {H : Hp} : Ed H [] := fun e he => nomatch he
theorem Ed.one {H : Hp} {t : Addr} {x y : Int} (h : H t = some (.tup [.int x, .int y])) : Ed H [(t, x, y)] := fun e he => by
  have z := List.mem_singleton.mp he
  subst z
  exact h
/-- the bag where all but the bag stands -/
theorem BagAt.new {H : Hp} {b l p : Addr} {ns : List Int} {o : HO} (B : BagAt H b l ns) (n : H p = none) : BagAt (L2.upd H p o) b l ns := B.same (same_upd n)
theorem BagAt.off {H : Hp} {b l p : Addr} {ns : List Int} {o : HO} (B : BagAt H b l ns) (nb : p ≠ b) (nl : p ≠ l) : BagAt (L2.upd H p o) b l ns := by
  obtain ⟨ob, hob, hB⟩ := B.ob
  exact ⟨⟨ob, by rw [upd_ne nb.symm]; exact hob, hB⟩, by rw [upd_ne nl.symm]; exact B.sc, B.ln⟩
structure Valid (n : Int) (ts : Es) : Prop where
  rg : ∀ e ∈ ts, 0 ≤ e.2.1 ∧ e.2.1 < n ∧ 0 ≤ e.2.2 ∧ e.2.2 < n
  sr : ∀ k : Int, 0 ≤ k → k < n → ∃ e ∈ ts, e.2.1 = k
structure PlanAt (H : Hp) (p q : Addr) (n : Int) (ts : Es) : Prop where
  tp : H p = some (.tup [.int n, .ref q])
  ls : H q = some (.lst (vsOf ts))
  ed : Ed H ts
  va : Valid n ts
  n1 : 1 ≤ n
def spPlan : Sp := fun vs H Q _ => ∃ (b l : Addr) (ns : List Int) (most many : Int), vs = [.ref b, .int most, .int many] ∧ BagAt H b l ns ∧ 1 ≤ most ∧ most ≤ many ∧ many ≤ 100 ∧
  ∀ (p q : Addr) (n : Int) (ts : Es) (H' : Hp), KeepB b H H' → BagAt H' b l ns → H p = none → H q = none → PlanAt H' p q n ts → n ≤ most → (ts.length : Int) ≤ many → Q (.ref p) H'
theorem cut_lo {xs : List V} {k : Nat} (h : k ≤ xs.length) : cutV xs none (some (k : Int)) = xs.take k := by
  unfold cutV
  rw [HT.sIx_none, HT.sIx_nat, Nat.min_eq_left h]
  simp
theorem cut_hi {xs : List V} {k : Nat} (h : k ≤ xs.length) : cutV xs (some (k : Int)) none = xs.drop k := by
  unfold cutV
  rw [HT.sIx_none, HT.sIx_nat, Nat.min_eq_left h]
  rw [List.take_of_length_le]
  rw [List.length_drop]
  exact Nat.le_refl _
section
variable {P : Program} {w : World} {K : PySem.W.Frag} {mg : Str → Option Value} {base : Heap}
theorem scPlan : FnScope ["_law_bag_here", "_law_most", "_law_many", "_law_size", "_law_pairs", "_law_k", "_law_at", "_law_state"] ["_law_bag_here", "_law_most", "_law_many"] (defScope sPlan) := ⟨rfl, rfl, rfl, by decide +kernel, rfl, by decide +kernel, by decide +kernel⟩
set_option maxHeartbeats 8000000 in
theorem ok_plan {f : Addr} {fd : FuncData} {k : Nat} (F : Fun K "_law_plan" "_law_plan" sPlan f fd) (T : Bi mg) (cP : C8.Cal P w K mg base 1 "_law_pull" spPull []) : FnOk P w K mg base CX0 (k + 2) f fd ["_law_bag_here", "_law_most", "_law_many"] spPlan := by
  refine F.ok scPlan (fun vs H Q E h => ?_) (fun cdv A outer s H vs Q E hr h => ?_)
  · obtain ⟨b, l, ns, m1, m2, rfl, _⟩ := h
    rfl
  · obtain ⟨b, l, ns, most, many, rfl, B, hm1, hm2, hm3, q⟩ := h
    have hk : 1 ≤ k + 1 := Nat.le_add_left 1 k
    refine ⟨_, pss_cons (ps_set (i := 3) scPlan.nd rfl (Or.inr rfl) (pe_op op_add pe_int (C8.pe_c cP hr hk (by rfl) (pa_cons (pv 0) (pa_cons (pv 1) pa_nil)))))
      (pss_cons (ps_setLc (i := 4) (own := [("_law_state", 7)]) (g := gName 7) (tt := tYes) (te := tTup (tCons (tVar 7) (tCons (tCall spPull [] E0 (tCons (tVar 0) (tCons (tVar 3) tNil))) tNil))) rfl scPlan.nd rfl rfl (sw_true rfl rfl rfl (by decide +kernel))
          (pi_range1 (by rfl) T.range (pa_cons (pv 3) pa_nil))
          (blkOk_by (N := ["_law_bag_here", "_law_most", "_law_many", "_law_size", "_law_pairs", "_law_k", "_law_at", "_law_state"]) (sc := defScope sPlan) (by decide +kernel))
          (fun _ _ _ _ _ => by exact pg_name (i := 7) scPlan.nd rfl (Or.inl rfl))
          (fun _ _ _ _ _ => pts_nil)
          (fun _ _ _ _ _ => by exact pe_tup (pa_cons (pv 7) (pa_cons (C8.pe_c cP hr hk (by rfl) (pa_cons (pv 0) (pa_cons (pv 3) pa_nil))) pa_nil))))
      (pss_cons (ps_for PassesOwn.never rfl (pi_range1 (by rfl) T.range (pa_cons (C8.pe_c cP hr hk (by rfl) (pa_cons (pv 0) (pa_cons (pe_op op_add (pe_op op_sub (pv 2) (pv 3)) pe_int) pa_nil))) pa_nil)) (pg_name (i := 5) scPlan.nd rfl (Or.inl rfl))
        (pss_cons (ps_set (i := 6) scPlan.nd rfl (Or.inl rfl) (C8.pe_c cP hr hk (by rfl) (pa_cons (pv 0) (pa_cons (pe_op op_add (pe_callB call_len_seq (by rfl) T.len PySem.boot_len (pa_cons (pv 4) pa_nil)) pe_int) pa_nil))))
        (pss_one (ps_set (i := 4) scPlan.nd rfl (Or.inl rfl) (pe_op op_cat (pe_op op_cat (pe_slice sl_list (pv 4) po_none (po_some (pv 6)))
          (pe_lst (pa_cons (pe_tup (pa_cons (C8.pe_c cP hr hk (by rfl) (pa_cons (pv 0) (pa_cons (pv 3) pa_nil))) (pa_cons (C8.pe_c cP hr hk (by rfl) (pa_cons (pv 0) (pa_cons (pv 3) pa_nil))) pa_nil))) pa_nil)))
          (pe_slice sl_list (pv 4) (po_some (pv 6)) po_none))))))
      (pss_one (ps_ret (pe_tup (pa_cons (pv 3) (pa_cons (pv 4) pa_nil))))))), ?_⟩
    -- size
    refine ⟨_, rfl, _, rfl, b, l, ns, most, rfl, B, by omega, by omega, fun v o v0 v1 BO => ?_⟩
    refine ⟨_, _, rfl, rfl, ?_⟩
    have B1 := B.upd BO
    have k1 : KeepB b H (upd H b o) := .updb
    have hv0 : 0 ≤ 1 + v := by omega
    -- pairs: the comprehension
    refine ⟨_, rfl, 1 + v, rfl, by omega, by omega, fun D hD => ?_⟩
    have hbD : D ≠ b := B1.ne_new hD
    have nD : H D = none := by
      rw [upd_ne hbD] at hD
      exact hD
    refine lc_it (walk_range (lo := 0) (n := (1 + v).toNat)) (fun i H' => ∃ ts : Es, ts.length = i ∧ KeepB b H H' ∧ BagAt H' b l ns ∧ H' D = some (.lst (vsOf ts)) ∧ Ed H' ts ∧ ∀ (j : Nat) (e : Addr × Int × Int), ts[j]? = some e → e.2.1 = (j : Int) ∧ 0 ≤ e.2.2 ∧ e.2.2 < 1 + v)
      ⟨[], rfl, k1.new hD, B1.new hD, upd_same, .nil, fun j e he => by simp at he⟩ (fun _ _ _ _ => True.intro) ?_ ?_
    · rintro i x H1 H' hi ⟨ts, hts, kp, Bi, eD, ed, hj⟩ ⟨rfl, rfl⟩
      refine ⟨rfl, ?_⟩
      refine ⟨_, rfl, _, rfl, _, rfl, b, l, ns, _, rfl, Bi, by omega, by omega, fun v2 o2 v20 v21 BO2 => ?_⟩
      refine ⟨(by show 2 ≤ sizeLine; decide), fun t ht => ?_⟩
      have B2 := Bi.upd BO2
      have B3 := B2.new (o := .tup [.int (0 + (i : Int)), .int v2]) ht
      have ed3 : Ed (upd (upd H' b o2) t (.tup [.int (0 + (i : Int)), .int v2])) ts := (ed.keep Bi .updb).same (same_upd ht)
      have eD2 : upd H' b o2 D = some (.lst (vsOf ts)) := by
        rw [upd_ne hbD]
        exact eD
      have tD : D ≠ t := ne_of_none eD2 ht
      refine ⟨vsOf ts, by rw [upd_ne tD]; exact eD2, ?_, ts ++ [(t, (i : Int), v2)], by simp [hts], ?_, ?_, ?_, ?_, ?_⟩
      · unfold vsOf
        rw [List.length_map]
        exact small1000 (by omega)
      · exact ((kp.trans .updb).new ht).at nD
      · exact B3.off hbD (ne_of_none B.sc nD).symm
      · rw [upd_same]
        unfold vsOf
        rw [List.map_append]
        rfl
      · refine Ed.app (fun e he => ?_) (.one ?_)
        · have h1 := ed3 e he
          rw [upd_ne (fun z => ?_)]
          · exact h1
          · rw [z, upd_ne tD, eD2] at h1
            cases h1
        · rw [upd_ne (Ne.symm tD), upd_same]
          show some (HO.tup [V.int (0 + (i : Int)), V.int v2]) = _
          rw [Int.zero_add]
      · intro j e he
        by_cases hlt : j < ts.length
        · rw [List.getElem?_append_left hlt] at he
          exact hj j e he
        · rw [List.getElem?_append_right (by omega)] at he
          cases hz : j - ts.length with
          | zero =>
            rw [hz] at he
            have z : (t, (i : Int), v2) = e := Option.some.inj he
            subst z
            exact ⟨by show (i : Int) = (j : Int); omega, v20, v21⟩
          | succ m =>
            rw [hz] at he
            cases he
    · rintro H1 ⟨ts, hts, kp, Bi, eD, ed, hj⟩
      have va : Valid (1 + v) ts := by
        refine ⟨fun e he => ?_, fun k k0 k1 => ?_⟩
        · obtain ⟨j, hjl, hje⟩ := List.getElem_of_mem he
          have h1 := hj j e (by rw [List.getElem?_eq_getElem hjl, hje])
          exact ⟨by omega, by omega, h1.2.1, h1.2.2⟩
        · have hk' : k.toNat < ts.length := by omega
          have h1 := hj k.toNat ts[k.toNat] (List.getElem?_eq_getElem hk')
          exact ⟨ts[k.toNat], List.getElem_mem hk', by rw [h1.1]; omega⟩
      -- the loop
      have ln1 : (ts.length : Int) = 1 + v := by omega
      refine ⟨_, rfl, _, rfl, _, rfl, _, _, rfl, rfl, _, _, rfl, rfl, b, l, ns, _, rfl, Bi, by omega, by omega, fun r o2 r0 r1 BO2 => ?_⟩
      refine ⟨r, rfl, by omega, by omega, ?_⟩
      refine for_it (walk_range (lo := 0) (n := r.toNat)) (fun i σ H' => ∃ (us : Es) (qa : Addr) (v5 v6 v7 : Option V), σ = [some (.ref b), some (.int most), some (.int many), some (.int (1 + v)), some (.ref qa), v5, v6, v7] ∧
          (us.length : Int) = 1 + v + (i : Int) ∧ KeepB b H H' ∧ BagAt H' b l ns ∧ H qa = none ∧ H' qa = some (.lst (vsOf us)) ∧ Ed H' us ∧ Valid (1 + v) us)
        ⟨ts, D, none, none, none, rfl, by omega, kp.trans .updb, Bi.upd BO2, nD, by rw [upd_ne hbD]; exact eD, ed.keep Bi .updb, va⟩ (fun _ _ _ _ _ => True.intro) ?_ ?_
      · rintro i x σ H2 H' hi ⟨us, qa, v5, v6, v7, rfl, hus, kp2, B2, nq, eq, ed2, va2⟩ ⟨rfl, rfl⟩
        have qb : qa ≠ b := B2.ne_vs eq
        -- at = pull(bag, len(pairs) + 1)
        refine ⟨_, rfl, _, rfl, qa, _, rfl, .inl (SqL.of eq), _, _, rfl, rfl, b, l, ns, _, rfl, B2, ?_, ?_, fun at_ o3 a0 a1 BO3 => ?_⟩
        · show (0 : Int) < ((vsOf us).length : Int) + 1
          omega
        · show ((vsOf us).length : Int) + 1 < 2 ^ 100
          unfold vsOf
          rw [List.length_map]
          omega
        have a1' : at_ < (us.length : Int) + 1 := by
          have z : at_ < ((vsOf us).length : Int) + 1 := a1
          unfold vsOf at z
          rw [List.length_map] at z
          exact z
        have hat : ((at_.toNat : Nat) : Int) = at_ := Int.toNat_of_nonneg a0
        have hatl : at_.toNat ≤ (vsOf us).length := by
          unfold vsOf
          rw [List.length_map]
          omega
        have B3 := B2.upd BO3
        have eq3 : upd H' b o3 qa = some (.lst (vsOf us)) := by
          rw [upd_ne qb]
          exact eq
        have ed3 : Ed (upd H' b o3) us := ed2.keep B2 .updb
        have kp3 : KeepB b H (upd H' b o3) := kp2.trans .updb
        generalize upd H' b o3 = H3 at *
        -- pairs[:at]
        refine ⟨_, rfl, _, rfl, at_, rfl, qa, _, rfl, SqL.of eq3, fun p1 hp1 => ?_⟩
        rw [← hat, cut_lo hatl]
        have B4 := B3.new (o := .lst ((vsOf us).take at_.toNat)) hp1
        have kp4 := kp3.new (o := .lst ((vsOf us).take at_.toNat)) hp1
        have s4 := same_upd (o := .lst ((vsOf us).take at_.toNat)) hp1
        have eq4 := s4 _ _ eq3
        have ed4 := ed3.same s4
        have e14 : upd H3 p1 (.lst ((vsOf us).take at_.toNat)) p1 = some (.lst ((vsOf us).take at_.toNat)) := upd_same
        generalize upd H3 p1 (.lst ((vsOf us).take at_.toNat)) = H4 at *
        -- the new edge
        refine ⟨_, rfl, _, rfl, b, l, ns, _, rfl, B4, by omega, by omega, fun x1 o5 x10 x11 BO5 => ?_⟩
        have B5 := B4.upd BO5
        have p1b : p1 ≠ b := B3.ne_new hp1
        refine ⟨_, rfl, _, rfl, b, l, ns, _, rfl, B5, by omega, by omega, fun x2 o6 x20 x21 BO6 => ?_⟩
        have B6 := B5.upd BO6
        have kp6 : KeepB b H4 (upd (upd H4 b o5) b o6) := KeepB.updb.trans .updb
        have ed6 := ed4.keep B4 kp6
        have eq6 := kp6 _ _ qb eq4
        have e16 := kp6 _ _ p1b e14
        have kp6' := kp4.trans kp6
        generalize upd (upd H4 b o5) b o6 = H6 at *
        refine ⟨(by show 2 ≤ sizeLine; decide), fun t ht => ?_⟩
        have s7 := same_upd (o := .tup [.int x1, .int x2]) ht
        have B7 := B6.same s7
        have e7 : upd H6 t (.tup [.int x1, .int x2]) t = some (.tup [.int x1, .int x2]) := upd_same
        have kp7 := kp6'.trans (.of_same s7)
        have eq7 := s7 _ _ eq6
        have e17 := s7 _ _ e16
        have ed7 := ed6.same s7
        generalize upd H6 t (.tup [.int x1, .int x2]) = H7 at *
        refine ⟨(by show 1 ≤ sizeLine; decide), fun p2 hp2 => ?_⟩
        have s8 := same_upd (o := .lst [.ref t]) hp2
        have e8 : upd H7 p2 (.lst [.ref t]) p2 = some (.lst [.ref t]) := upd_same
        have B8 := B7.same s8
        have kp8 := kp7.trans (.of_same s8)
        have eq8 := s8 _ _ eq7
        have e18 := s8 _ _ e17
        have et8 := s8 _ _ e7
        have ed8 := ed7.same s8
        generalize upd H7 p2 (.lst [.ref t]) = H8 at *
        have hsz : ∀ m : Nat, m ≤ 1000 → m ≤ sizeLine := fun m h => Nat.le_of_lt (small1000 h)
        have lus : us.length ≤ 200 := by omega
        have lvs : (vsOf us).length = us.length := by
          unfold vsOf
          rw [List.length_map]
        refine ⟨p1, p2, _, _, rfl, rfl, e18, e8, hsz _ (by simp; omega), fun p3 hp3 => ?_⟩
        have s9 := same_upd (o := .lst ((vsOf us).take at_.toNat ++ [.ref t])) hp3
        have e9 : upd H8 p3 (.lst ((vsOf us).take at_.toNat ++ [.ref t])) p3 = some (.lst ((vsOf us).take at_.toNat ++ [.ref t])) := upd_same
        have B9 := B8.same s9
        have kp9 := kp8.trans (.of_same s9)
        have eq9 := s9 _ _ eq8
        have et9 := s9 _ _ et8
        have ed9 := ed8.same s9
        generalize upd H8 p3 (.lst ((vsOf us).take at_.toNat ++ [.ref t])) = H9 at *
        refine ⟨_, rfl, _, rfl, _, rfl, qa, _, rfl, SqL.of eq9, fun p4 hp4 => ?_⟩
        rw [cut_hi hatl]
        have s10 := same_upd (o := .lst ((vsOf us).drop at_.toNat)) hp4
        have e10 : upd H9 p4 (.lst ((vsOf us).drop at_.toNat)) p4 = some (.lst ((vsOf us).drop at_.toNat)) := upd_same
        have B10 := B9.same s10
        have kp10 := kp9.trans (.of_same s10)
        have e910 := s10 _ _ e9
        have et10 := s10 _ _ et9
        have ed10 := ed9.same s10
        generalize upd H9 p4 (.lst ((vsOf us).drop at_.toNat)) = H10 at *
        refine ⟨p3, p4, _, _, rfl, rfl, e910, e10, hsz _ (by simp; omega), fun p5 hp5 => ?_⟩
        have s11 := same_upd (o := .lst ((vsOf us).take at_.toNat ++ [.ref t] ++ (vsOf us).drop at_.toNat)) hp5
        obtain ⟨yb, hyb⟩ := B10.at_b
        refine ⟨us.take at_.toNat ++ [(t, x1, x2)] ++ us.drop at_.toNat, p5, _, _, _, rfl, ?_, kp10.trans (.of_same s11), B10.same s11, kp10.free hyb hp5, ?_, ?_, ?_⟩
        · simp
          omega
        · rw [upd_same]
          unfold vsOf
          rw [List.map_append, List.map_append, List.map_take, List.map_drop]
          rfl
        · have f1 : Ed H10 (us.take at_.toNat) := fun e he => ed10 e (List.mem_of_mem_take he)
          have f2 : Ed H10 (us.drop at_.toNat) := fun e he => ed10 e (List.mem_of_mem_drop he)
          exact Ed.same (Ed.app (Ed.app f1 (.one et10)) f2) s11
        · refine ⟨fun e he => ?_, fun kk k0 k1 => ?_⟩
          · rw [List.mem_append, List.mem_append] at he
            rcases he with (he | he) | he
            · exact va2.rg e (List.mem_of_mem_take he)
            · have z := List.mem_singleton.mp he
              subst z
              exact ⟨x10, x11, x20, x21⟩
            · exact va2.rg e (List.mem_of_mem_drop he)
          · obtain ⟨e, he, hk2⟩ := va2.sr kk k0 k1
            refine ⟨e, ?_, hk2⟩
            rw [← List.take_append_drop at_.toNat us, List.mem_append] at he
            rw [List.mem_append, List.mem_append]
            exact he.elim (fun z => .inl (.inl z)) .inr
      · rintro σ H2 ⟨us, qa, v5, v6, v7, rfl, hus, kp2, B2, nq, eq, ed2, va2⟩
        refine ⟨_, rfl, _, rfl, (by show 2 ≤ sizeLine; decide), fun p hp => ?_⟩
        obtain ⟨yb, hyb⟩ := B2.at_b
        have s1 := same_upd (o := .tup [.int (1 + v), .ref qa]) hp
        exact q p qa (1 + v) us _ (kp2.trans (.of_same s1)) (B2.same s1) (kp2.free hyb hp) nq ⟨upd_same, s1 _ _ eq, ed2.same s1, va2, by omega⟩ (by omega) (by omega)
end
end Lw
end
section
set_option Elab.async false
set_option linter.all false
set_option maxRecDepth 100000
/-! enumerate(t) of a tuple; enumerate and for over what is a list or a tuple -/
namespace Lw
open PySem PySem.Spec PyProof.Rows L2
/-- the two objects that enumerate(t) makes: the tuple's iterator, the counter over it -/
abbrev itO (l : Addr) : Obj := { cls := .type "tuple_iterator", data := .fields #[.ref l, .int 0 0] }
abbrev enO (i : Addr) : Obj := { cls := .type "enumerate", data := .fields #[.none, .bool false, .ref i, rawInt 0, .none, .none] }
theorem enumT_new (l : Addr) (o : Obj) (items : Array Value) (n : Nat) (hc : o.cls = .type "tuple") (hd : o.data = .seq items n) :
    Meets (Builtin.«enumerate.__new__» ⟨[.type "enumerate", .ref l], []⟩) (fun _ R s => s.heap.get? l = some o ∧
      R (.ok (.ret (.ref (s.heap.push (itO l)).objs.size))) { s with heap := (s.heap.push (itO l)).push (enO s.heap.objs.size) }) := by
  obtain ⟨oc, dct, dt, sl⟩ := o
  dsimp only at hc hd
  subst hc hd
  refine .of_wp fun P w A R s hyp => ?_
  rcases s with ⟨h, gn, dr, tk, os⟩
  rcases hyp with ⟨hl, fin⟩
  have sub := sub_enumerate
  have isT : Heap.IsTuple (Shared.heap ⟨h, gn, dr, tk, os⟩) l items := ⟨_, hl, rfl, n, rfl⟩
  wp_walk using AutoSeq1.wpAny_loadPart' hl
  refine wpAny_stack_any fun st => wpAny_pure ?_
  split
  next c _ _ _ _ _ => cases (c == Value.type "enumerate") <;> (wp_walk using AutoSeq1.wpAny_loadPart' hl, wpAny_pyIter_tuple isT) <;> exact ⟨_, rfl, fin⟩
  next => (wp_walk using AutoSeq1.wpAny_loadPart' hl, wpAny_pyIter_tuple isT) <;> exact ⟨_, rfl, fin⟩
theorem enumT_call {P : Program} {w : World} {A : Around} {E : Value → Shared → Prop} {s : Shared} {l : Addr} {items : Array Value} {Q : Value → Shared → Prop} (hL : s.heap.IsTuple l items)
    (h : IsEnum ((s.heap.push (itO l)).push (enO s.heap.objs.size)) (s.heap.objs.size + 1) s.heap.objs.size 0 .none → Heap.IsTupleIter ((s.heap.push (itO l)).push (enO s.heap.objs.size)) s.heap.objs.size l 0 →
      Q (.ref (s.heap.objs.size + 1)) { s with heap := (s.heap.push (itO l)).push (enO s.heap.objs.size) }) :
    wpAny (model P w) A (call (.type "enumerate") [.ref l]) Q E s := by
  obtain ⟨o, get, cls, n, dat⟩ := hL
  have size1 : (s.heap.push (itO l)).objs.size = s.heap.objs.size + 1 := Heap.size_push ..
  have en : IsEnum ((s.heap.push (itO l)).push (enO s.heap.objs.size)) (s.heap.objs.size + 1) s.heap.objs.size 0 .none := by
    rw [← size1]
    exact Heap.get?_push_size _ rfl
  have it : Heap.IsTupleIter ((s.heap.push (itO l)).push (enO s.heap.objs.size)) s.heap.objs.size l 0 := ⟨itO l, Heap.get?_push_of_some _ (Heap.get?_push_size _ rfl), rfl, rfl⟩
  refine callType_new F.called_enumerate (by decide) (F.typeCall_enumerate_1 _) (F.newCall_enumerate_1 _) (F.args_object_init_2 · _) F.entry_enumerate_new (enumT_new l o items n cls dat) ⟨get, ?_⟩
  rw [size1]
  exact ⟨⟨_, en, rfl⟩, h en it⟩
/-- the turns of enumerate(t): a new pair of the number and the item -/
def IteT (K : PySem.W.Frag) (a : Addr) : It where
  go i H := ∃ (xs : List V) (x : V), SqT K H a xs ∧ xs[i]? = some x
  yld i H v H' := ∃ T x, v = .ref T ∧ H T = none ∧ H' = upd H T (.tup [.int (i : Nat), x]) ∧ ∀ xs, SqT K H a xs → xs[i]? = some x
  stop i H := ∃ xs : List V, SqT K H a xs ∧ xs.length ≤ i
/-- the state of the walk at turn i -/
structure EnAt (a e it : Addr) (i : Nat) (h : Heap) : Prop where
  en : ∃ old, IsEnum h e it ((i : Nat) : Int) old
  itr : h.IsTupleIter it a i
  ne : e ≠ it ∧ e ≠ a
theorem two {e it b : Addr} (h : b ∈ [e, it]) : b = e ∨ b = it := by
  simp only [List.mem_cons, List.not_mem_nil, or_false] at h
  exact h
theorem EnAt.keep {a e it : Addr} {i : Nat} {h h' : Heap} (z : EnAt a e it i h) (k : ∀ b ∈ [e, it], ∀ o, h.get? b = some o → h'.get? b = some o) : EnAt a e it i h' := by
  obtain ⟨old, he⟩ := z.en
  exact ⟨⟨old, k e (.head _) _ he⟩, z.itr.at (k it (.tail _ (.head _))), z.ne⟩
theorem enumT_item {X : Cx} {elts : List Expr} {kk : Nat} {tpos : Pos} {a e it : Addr} (ai : a ≠ it) (calm : X.calm = true) {i : Nat} {pins : List (Addr × Obj)} {s : Shared} {σ : L2.St} {H : Hp} {E : Value → Shared → Prop} (I : Inv X pins σ H s)
    (off : ∀ b ∈ [e, it], FpOk X pins H b) (z : EnAt a e it i s.heap) {xs : List V} {x : V} (hq : SqT X.K H a xs) (hx : xs[i]? = some x) :
    wpAny (model X.prog X.w) X.A (pyNext (.ref e)) (fun r s1 => ∃ u, r = some u ∧ wpAny (model X.prog X.w) X.A (letOwnedTupleGo (.Tuple elts kk tpos) (.ref e) u)
      (fun _ s2 => ∃ y H', Inv X pins σ H' s2 ∧ RelV y u ∧ (IteT X.K a).yld i H y H' ∧ EnAt a e it (i + 1) s2.heap ∧ ∀ b ∈ [e, it], H' b = none) E s1) E s := by
  obtain ⟨old, he⟩ := z.en
  obtain ⟨its, vals, tup, _⟩ := I.tuple hq
  obtain ⟨u, hu, ru⟩ := vals.get hx
  have eb := Heap.lt_size he
  have ib : it < s.heap.objs.size := z.itr.elim fun _ q => Heap.lt_size q.1
  have hi : i < its.toArray.size := by
    rw [List.size_toArray]
    exact (List.getElem?_eq_some_iff.mp hu).1
  have out : e ∉ [it, a] := fun m => (two m).elim z.ne.1 z.ne.2
  refine wpAny_pyNext_enum_itemD (Draws.tuple (A := X.A.in1) (show X.A.in1.handled = none from I.ok.hd calm) it a ai its.toArray) he ⟨z.itr, tup⟩ hi z.ne.1 out ?_
  intro y h' tk hy eo st new _ stay
  obtain rfl : y = u := by
    rw [List.getElem?_toArray, hu] at hy
    exact (Option.some.inj hy).symm
  refine ⟨_, rfl, wpAny_letOwnedTupleGo_enum (s := { s with heap := h', toks := tk + 1 }) eo fun h2 en2 sb => ?_⟩
  have new2 : h2.get? s.heap.objs.size = some { cls := .type "tuple", data := .seq #[.int i tk, y] } := by
    rw [sb.2 _ (Nat.ne_of_gt eb)]
    exact new
  have okN : ObjOk X.prog X.w (upd H s.heap.objs.size (.tup [.int (i : Nat), x])) h2 s.heap.objs.size (.tup [.int (i : Nat), x]) := ⟨by show 2 ≤ sizeLine; decide, _, .cons ⟨_, rfl⟩ (.cons ru .nil), _, new2, rfl, _, rfl⟩
  have rest : ∀ b o, b ∉ [e, it] → s.heap.get? b = some o → h2.get? b = some o := by
    intro b o nb hb
    have be : b ≠ e := fun q => nb (q ▸ .head _)
    have bi : b ≠ it := fun q => nb (q ▸ .tail _ (.head _))
    rw [sb.2 b be]
    exact stay b o be bi hb
  refine ⟨.ref s.heap.objs.size, _, I.turnedNew (ch := [e, it]) rest off (Nat.le_refl _) okN, rfl, ⟨_, x, rfl, I.hok.fresh (Nat.le_refl _), rfl, fun ys hys => I.tuple_inj hys hq ▸ hx⟩, ⟨⟨y, ?_⟩, ?_, z.ne⟩, ?_⟩
  · rw [Int.natCast_succ]
    exact en2
  · exact st.1.at fun o q => by rw [sb.2 it z.ne.1.symm]; exact q
  · intro b hb
    have lt : b < s.heap.objs.size := (two hb).elim (fun q => q ▸ eb) (fun q => q ▸ ib)
    rw [upd_ne (Nat.ne_of_lt lt)]
    exact (off b hb).1
/-- the tuple's iterator at its end -/
theorem over {P : Program} {w : World} {A : Around} (calm : A.handled = none) {it a : Addr} {items : Array Value} {i : Nat} (hi : items.size ≤ i) : Draws P w A it [it, a] i (fun _ _ => True) (fun j h => j = i ∧ h.IsTupleIter it a i ∧ h.IsTuple a items) where
  live _ _ z := z.2.1.elim fun o q => ⟨o, q.1⟩
  frame _ _ _ z k := ⟨z.1, z.2.1.at (k it (.head _)), z.2.2.at (k a (.tail _ (.head _)))⟩
  item j _ _ _ lt z _ := absurd z.1 (Nat.ne_of_lt lt)
  done _ _ _ z h := wpAny_nextOf_tuple_end calm z.2.1 z.2.2 (Array.getElem?_eq_none hi) h
theorem enumT_turn {P : Program} {w : World} {K : PySem.W.Frag} {elts : List Expr} {kk : Nat} {tpos : Pos} {a e it : Addr} (ai : a ≠ it) : Turn P w K (.Tuple elts kk tpos) (IteT K a) [e, it] e (EnAt a e it) where
  mem := .head _
  obj i h z b hb := by
    obtain ⟨old, he⟩ := z.en
    obtain ⟨o, ho, _, hd⟩ := z.itr
    rcases two hb with rfl | rfl
    · exact ⟨_, he, nofun⟩
    · exact ⟨o, ho, by rw [hd]; nofun⟩
  keep i h h' z k := z.keep k
  item := by
    rintro X rfl rfl rfl calm i pins s σ H E I off z ⟨xs, x, hq, hx⟩
    exact enumT_item ai calm I off z hq hx
  done := by
    rintro X rfl rfl rfl calm i pins s σ H E I off z ⟨xs, hq, hx⟩
    obtain ⟨old, he⟩ := z.en
    obtain ⟨its, vals, tup, _⟩ := I.tuple hq
    obtain ⟨f0, f1, _, f3, f4, f5⟩ := off it (.tail _ (.head _))
    have len := vals.length
    refine wpAny_pyNext_enum_endD (over (A := X.A.in1) (show X.A.in1.handled = none from I.ok.hd calm) (items := its.toArray) (by rw [List.size_toArray]; omega)) he ⟨rfl, z.itr, tup⟩ fun h' up => ⟨rfl, I.turned (t' := s.toks) (fun b o hb q => up b o hb q) f0 f1 f3 f4 f5⟩
  self A i s Q E z h := z.en.elim fun _ he => wpAny_pyIter_enum he h
theorem walk_enumT {K : PySem.W.Frag} {a : Addr} {xs : List V} : Walk (IteT K a) xs.length (fun H => SqT K H a xs) (YPair (fun i => some (.int (i : Nat))) (fun i => xs[i]?)) := by
  constructor
  · intro i H hi hq
    exact ⟨xs, xs[i], hq, List.getElem?_eq_getElem hi⟩
  · intro H hq
    exact ⟨xs, hq, Nat.le_refl _⟩
  · rintro i H _ _ hi hq ⟨T, x, rfl, nT, rfl, at_⟩
    exact ⟨T, _, x, rfl, nT, rfl, rfl, at_ xs hq⟩
/-! ### a list or a tuple -/
abbrev SqF := PySem.W.Frag → Hp → Addr → List V → Prop
/-- enumerate(e) -/
def iEnumA (K : PySem.W.Frag) (ta : TA) : TI := fun σ H R => ta σ H fun vs H1 => ∃ (a : Addr) (xs : List V) (S : SqF), vs = [.ref a] ∧ (S = SqL ∨ S = SqT) ∧ S K H1 a xs ∧
  ∀ J, Walk J xs.length (fun H => S K H a xs) (YPair (fun i => some (.int (i : Nat))) (fun i => xs[i]?)) → R J H1
/-- e itself -/
def iSeqA (K : PySem.W.Frag) (tl : TE) : TI := fun σ H R => tl σ H fun x H1 => ∃ (a : Addr) (xs : List V) (S : SqF), x = .ref a ∧ (S = SqL ∨ S = SqT) ∧ S K H1 a xs ∧ ∀ J, Walk J xs.length (fun H => S K H a xs) (YAt xs) → R J H1
section
variable {X : Cx}
/-- new addresses are nobody's -/
theorem new_ok {pins : List (Addr × Obj)} {s : Shared} {σ : L2.St} {H : Hp} {b : Addr} (I : Inv X pins σ H s) (h : s.heap.objs.size ≤ b) : FpOk X pins H b := I.fpOk h (I.hok.fresh h)
theorem pi_enumA {e : Expr} {ta : TA} {p pos tpos : Pos} {elts : List Expr} {kk : Nat} (hg : Gl X "enumerate") (hm : X.mg "enumerate" = none) (ha : PA X [e] ta) (hs : starEach [e] X.env = [(false, eval e X.env)] := by rfl) :
    PI X (.Tuple elts kk tpos) (.Call (.Name "enumerate" p) [e] [] pos) (iEnumA X.K ta) := by
  constructor
  intro pins s σ H R I h
  refine Call_ (ld_blt I hg hm boot_enumerate (PyProof.Rows.callWith_type1 (wpAny_mono (ha.run pos pins s σ H _ I h) ?_ fun _ _ z => z) hs rfl))
  rintro us s1 ⟨_, H1, I1, vals, a, xs, S, rfl, hS, hq, go⟩
  obtain ⟨_, rfl, rfl⟩ : ∃ u, us = [u] ∧ u = Value.ref a := by
    match us, vals with
    | [u], .cons r .nil => exact ⟨u, rfl, r⟩
  have free : ∀ b ∈ [s1.heap.objs.size + 1, s1.heap.objs.size], FpOk X pins H1 b := fun b hb => new_ok I1 ((two hb).elim (fun q => q ▸ Nat.le_succ _) (fun q => q ▸ Nat.le_refl _))
  rcases hS with rfl | rfl
  · obtain ⟨its, rv, lst, _⟩ := I1.list hq
    refine call_enumerate_list lst.isList fun g en it _ up => wpAny_pyIter_enum en ?_
    exact ⟨_, [s1.heap.objs.size + 1, s1.heap.objs.size], _, Ite X.K a, H1, rfl, I1.kept (t' := s1.toks) up, turn_enum a _ _, ⟨⟨.none, en⟩, it, Nat.succ_ne_self _⟩, free, go _ walk_enum⟩
  · obtain ⟨its, rv, tup, _⟩ := I1.tuple hq
    have old : a < s1.heap.objs.size := tup.elim fun _ q => Heap.lt_size q.1
    refine enumT_call (items := its.toArray) tup fun en it => wpAny_pyIter_enum en ?_
    refine ⟨_, [s1.heap.objs.size + 1, s1.heap.objs.size], _, IteT X.K a, H1, rfl, I1.kept (t' := s1.toks) fun b o q => Heap.get?_push_of_some _ (Heap.get?_push_of_some _ q), enumT_turn (Nat.ne_of_lt old), ⟨⟨.none, en⟩, it, Nat.succ_ne_self _, ?_⟩, free, go _ walk_enumT⟩
    exact fun q => absurd old (Nat.not_lt.mpr (q ▸ Nat.le_succ _))
theorem pi_seqA {tg l : Expr} {tl : TE} (hl : PE X l tl) : PI X tg l (iSeqA X.K tl) := by
  constructor
  intro pins s σ H R I h
  refine wpAny_mono (hl.run pins s σ H _ I h) ?_ fun _ _ z => z
  rintro v s1 ⟨_, H1, I1, rv, a, xs, S, rfl, hS, hq, go⟩
  cases rv
  have free : ∀ b ∈ [s1.heap.objs.size], FpOk X pins H1 b := fun b hb => new_ok I1 (List.mem_singleton.mp hb ▸ Nat.le_refl _)
  have keep : ∀ o : Obj, Inv X pins σ H1 { s1 with heap := s1.heap.push o } := fun o => I1.kept (t' := s1.toks) fun b o' q => Heap.get?_push_of_some _ q
  rcases hS with rfl | rfl
  · obtain ⟨its, r, lst, _⟩ := I1.list hq
    exact wpAny_pyIter_list lst.isList ⟨_, _, _, Itl X.K a, H1, rfl, keep _, turn_list a _, ⟨_, Heap.get?_push_size _ rfl, rfl, rfl⟩, free, go _ walk_list⟩
  · obtain ⟨its, r, tup, _⟩ := I1.tuple hq
    exact wpAny_pyIter_tuple (items := its.toArray) tup ⟨_, _, _, Itt X.K a, H1, rfl, keep _, turn_tuple a _, ⟨_, Heap.get?_push_size _ rfl, rfl, rfl⟩, free, go _ walk_tup⟩
end
end Lw
end
section
set_option Elab.async false
set_option linter.all false
set_option maxRecDepth 100000
namespace Lw
open PySem L2
abbrev sCheck : Stmt := top 33
abbrev sInit : Stmt := inClass (top 34) 2
/-- what the walk asks of the class Graph -/
structure GTxt (K : PySem.W.Frag) (mg : Str → Option Value) (C : Addr) (mc : Value) : Prop where
  cl : Cls K C
  nS : NoAttr K C "state_count"
  nE : NoAttr K C "edge_pairs"
  mgG : mg "Graph" = some (.ref C)
  rd : ClX.CRead K C mc
  v8 : ∃ u, ClX.CVal K C mc "MAX_STATES" (.int 8) u
  v24 : ∃ u, ClX.CVal K C mc "MAX_EDGES" (.int 24) u
  enum : mg "enumerate" = none
def flds (n : Int) (t : Addr) : List (Str × V) := [("state_count", V.int n), ("edge_pairs", V.ref t)]
def spCheck (K : PySem.W.Frag) : Sp := fun vs H Q _ => ∃ (n : Int) (e : Addr) (ts : Es) (S : SqF), vs = [.int n, .ref e] ∧ (S = SqL ∨ S = SqT) ∧ S K H e (vsOf ts) ∧ Ed H ts ∧ Valid n ts ∧ 1 ≤ n ∧ n ≤ 100 ∧ ts.length ≤ 100 ∧ ∀ H', Same H H' → Q .non H'
structure GraphAt (C : Addr) (H : Hp) (g : Addr) (n : Int) (us : Es) : Prop where
  ob : ∃ dx t, H g = some (.ins C dx (flds n t)) ∧ H t = some (.tup (vsOf us))
  ed : Ed H us
def spInit (C : Addr) : Sp := fun vs H Q _ => ∃ (g dx e : Addr) (n : Int) (ts : Es) (mk : List V → HO), vs = [.ref g, .int n, .ref e] ∧ H g = some (.ins C dx []) ∧ (mk = HO.lst ∨ mk = HO.tup) ∧ H e = some (mk (vsOf ts)) ∧ Ed H ts ∧ Valid n ts ∧ 1 ≤ n ∧ n ≤ 8 ∧ ts.length ≤ 24 ∧
  ∀ (us : Es) (H' : Hp), psOf us = psOf ts → KeepB g H H' → GraphAt C H' g n us → Q .non H'
theorem sq_same {K : PySem.W.Frag} {S : SqF} {H H' : Hp} {e : Addr} {xs : List V} (hS : S = SqL ∨ S = SqT) (h : S K H e xs) (s : Same H H') : S K H' e xs := by
  rcases hS with rfl | rfl
  · exact s.seq h
  · rcases h with (h | ⟨o, h⟩) | h
    · exact .inl (.inl (s _ _ h))
    · exact .inl (.inr ⟨o, s _ _ h⟩)
    · exact .inr h
theorem vsOf_len (ts : Es) : (vsOf ts).length = ts.length := by
  unfold vsOf
  rw [List.length_map]
theorem vsOf_at {ts : Es} {i : Nat} {v : V} (h : (vsOf ts)[i]? = some v) : ∃ e, ts[i]? = some e ∧ v = .ref e.1 := by
  unfold vsOf at h
  rw [List.getElem?_map] at h
  cases g : ts[i]? with
  | none =>
    rw [g] at h
    cases h
  | some e =>
    rw [g] at h
    exact ⟨e, rfl, (Option.some.inj h).symm⟩
section
variable {P : Program} {w : World} {K : PySem.W.Frag} {mg : Str → Option Value} {base : Heap}
theorem scCheck : FnScope ["states", "edges", "place", "source", "target", "sources", "state"] ["states", "edges"] (defScope sCheck) := ⟨rfl, rfl, rfl, by decide +kernel, rfl, by decide +kernel, by decide +kernel⟩
theorem inV_yes {k : Int} {ks : List Int} (h : k ∈ ks) : inV (.int k) (ks.map V.int) = true := by
  unfold inV
  rw [List.any_map, List.any_eq_true]
  exact ⟨k, h, by simp [eqV]⟩
theorem flat_ints (ks : List Int) : (ks.map V.int).all flatV = true := by
  rw [List.all_map, List.all_eq_true]
  intro x _
  rfl
set_option maxHeartbeats 8000000 in
theorem ok_check {f C : Addr} {mc : Value} {fd : FuncData} {k : Nat} (F : Fun K "check_edges" "check_edges" sCheck f fd) (T : Bi mg) (G : GTxt K mg C mc) : FnOk P w K mg base CX0 (k + 1) f fd ["states", "edges"] (spCheck K) := by
  refine F.ok scCheck (fun vs H Q E h => ?_) (fun cdv A outer s H vs Q E hr h => ?_)
  · obtain ⟨n, e, ts, S, rfl, _⟩ := h
    rfl
  · obtain ⟨n, e, ts, S, rfl, hS, hq, ed, va, n1, n8, hl, q⟩ := h
    refine ⟨_, pss_cons (ps_for PassesOwn.never rfl (pi_enumA (by rfl) G.enum (pa_cons (pv 1) pa_nil))
          (pg_tup rfl (pgs_cons (pg_name (i := 2) scCheck.nd rfl (.inl rfl)) (pgs_cons (pg_tup rfl (pgs_cons (pg_name (i := 3) scCheck.nd rfl (.inl rfl)) (pgs_cons (pg_name (i := 4) scCheck.nd rfl (.inl rfl)) pgs_nil))) pgs_nil)))
        (pss_one (ps_if (pt_not (PW.pt (pw_and (pt_chain op_le op_lt pe_int (pv 3) (pv 0)) (pw_and1 (pt_chain op_le op_lt pe_int (pv 4) (pv 0)))))) (pss_one ps_never) pss_nil)))
      (pss_cons (ps_setLc (i := 5) (own := [("source", 3), ("target", 4)]) (g := gTup K 2 (gCons (gName 3) (gCons (gName 4) gNil))) (tt := tYes) (te := tVar 3) rfl scCheck.nd rfl rfl (sw_true rfl rfl rfl (by decide +kernel))
          (pi_seqA (pv 1))
          (blkOk_by (N := ["states", "edges", "place", "source", "target", "sources", "state"]) (sc := defScope sCheck) (by decide +kernel))
          (fun _ _ _ _ _ => by exact pg_tup rfl (pgs_cons (pg_name (i := 3) scCheck.nd rfl (Or.inl rfl)) (pgs_cons (pg_name (i := 4) scCheck.nd rfl (Or.inl rfl)) pgs_nil)))
          (fun _ _ _ _ _ => pts_nil)
          (fun _ _ _ _ _ => by exact pv 3))
      (pss_one (ps_for PassesOwn.never rfl (pi_range1 (by rfl) T.range (pa_cons (pv 0) pa_nil)) (pg_name (i := 6) scCheck.nd rfl (Or.inl rfl))
        (pss_one (ps_if (pt_cmpR op_notIn_seq (pv 6) (pv 5) (by rfl)) (pss_one ps_never) pss_nil))))), ?_⟩
    have gsz : ∀ m : Nat, m ≤ 1000 → m < sizeLine := fun m h => small1000 h
    -- for place, (source, target) in enumerate(edges)
    refine ⟨_, rfl, e, vsOf ts, S, rfl, hS, hq, fun J w => ?_⟩
    refine for_it w (fun i σ H' => ∃ v2 v3 v4 : Option V, σ = [some (.int n), some (.ref e), v2, v3, v4, none, none] ∧ Same H H') ⟨none, none, none, rfl, fun _ _ z => z⟩ (fun i σ H' _ p => by obtain ⟨_, _, _, _, s⟩ := p; exact sq_same hS hq s) ?_ ?_
    · rintro i x σ H1 H' hi ⟨v2, v3, v4, rfl, sm⟩ ⟨Ta, x, y, rfl, hT, rfl, gx, gy⟩
      obtain ⟨ee, hee, rfl⟩ := vsOf_at gy
      have ex : x = .int (i : Nat) := (Option.some.inj gx).symm
      subst ex
      have s1 := sm.trans (same_upd (o := .tup [.int (i : Nat), .ref ee.1]) hT)
      have mem : ee ∈ ts := List.mem_of_getElem? hee
      have r := va.rg ee mem
      refine ⟨Ta, _, rfl, SqT.of upd_same, rfl, _, _, rfl, _, _, rfl, ⟨ee.1, _, rfl, SqT.of (s1 _ _ (ed ee mem)), rfl, _, _, rfl, _, _, rfl, rfl, ?_⟩⟩
      refine ⟨rfl, ?_⟩
      refine ⟨_, rfl, _, _, rfl, rfl, _, rfl, if_t (decide_eq_true r.1) ⟨_, rfl, _, _, rfl, rfl, ?_⟩⟩
      refine ⟨_, rfl, if_t (decide_eq_true r.2.1) ?_⟩
      refine ⟨_, rfl, _, _, rfl, rfl, _, rfl, if_t (decide_eq_true r.2.2.1) ⟨_, rfl, _, _, rfl, rfl, ?_⟩⟩
      refine ⟨_, rfl, ?_⟩
      refine if_f (by rw [decide_eq_true r.2.2.2]; rfl) ?_
      exact ⟨_, _, _, rfl, s1⟩
    · rintro σ H1 ⟨v2, v3, v4, rfl, sm⟩
      -- sources
      refine ⟨_, rfl, e, vsOf ts, S, rfl, hS, sq_same hS hq sm, fun J w => fun D hD => ?_⟩
      have nD : H D = none := sm.free hD
      refine lc_it w (fun i H' => Same H H' ∧ H' D = some (.lst ((ts.take i).map fun e => V.int e.2.1))) ⟨sm.trans (same_upd hD), upd_same⟩ (fun i H' _ p => sq_same hS hq p.1) ?_ ?_
      · rintro i x H2 H' hi ⟨sm2, eD⟩ ⟨rfl, gx⟩
        obtain ⟨ee, hee, rfl⟩ := vsOf_at gx
        have mem : ee ∈ ts := List.mem_of_getElem? hee
        refine ⟨ee.1, _, rfl, SqT.of (sm2 _ _ (ed ee mem)), rfl, _, _, rfl, _, _, rfl, rfl, rfl, ?_⟩
        refine ⟨_, rfl, _, eD, ?_, ?_, ?_⟩
        · rw [List.length_map, List.length_take]
          exact gsz _ (by omega)
        · intro c o ec
          rw [upd_ne (ne_of_none ec nD)]
          exact sm2 _ _ ec
        · rw [upd_same, List.take_add_one, hee, List.map_append]
          rfl
      · rintro H2 ⟨sm2, eD⟩
        rw [vsOf_len, List.take_length] at eD
        refine ⟨_, rfl, n, rfl, by omega, by omega, ?_⟩
        refine for_it (walk_range (lo := 0) (n := n.toNat)) (fun i σ H' => ∃ v2 v3 v4 v6 : Option V, σ = [some (.int n), some (.ref e), v2, v3, v4, some (.ref D), v6] ∧ Same H H' ∧ H' D = some (.lst (ts.map fun e => V.int e.2.1))) ⟨_, _, _, _, rfl, sm2, eD⟩ (fun _ _ _ _ _ => True.intro) ?_ ?_
        · rintro i x σ H3 H' hi ⟨v2, v3, v4, v6, rfl, sm3, eD3⟩ ⟨rfl, rfl⟩
          obtain ⟨ee, hee, hk⟩ := va.sr (i : Int) (by omega) (by omega)
          have e1 : (ts.map fun e => V.int e.2.1) = (ts.map fun e => e.2.1).map V.int := by
            rw [List.map_map]
            rfl
          have e2 : inV (.int (0 + (i : Int))) (ts.map fun e => V.int e.2.1) = true := by
            rw [e1, Int.zero_add, ← hk]
            exact inV_yes (List.mem_map_of_mem (f := fun e : Addr × Int × Int => e.2.1) hee)
          refine ⟨_, rfl, _, rfl, D, _, rfl, .inl (SqL.of eD3), rfl, by rw [e1]; exact flat_ints _, _, rfl, ?_⟩
          refine if_f (by rw [e2]; rfl) ?_
          exact ⟨_, _, _, _, rfl, sm3, eD3⟩
        · rintro σ H3 ⟨v2, v3, v4, v6, rfl, sm3, eD3⟩
          exact q H3 sm3
end
end Lw
end
section
set_option Elab.async false
set_option linter.all false
set_option maxRecDepth 100000
namespace Lw
open PySem L2
abbrev sEq : Stmt := inClass (top 34) 4
abbrev sLen : Stmt := inClass (top 34) 5
abbrev sRepr : Stmt := inClass (top 34) 6
abbrev sStates : Stmt := inClass (top 34) 7
abbrev sEdges : Stmt := inClass (top 34) 8
/-! ### edges as data -/
def dEs (ts : Es) : List PyData := ts.map fun e => .tuple [.int e.2.1, .int e.2.2]
theorem dEs_at {K : PySem.W.Frag} {H : Hp} : ∀ {ts : Es}, Ed H ts → DpAll K H (vsOf ts) (dEs ts)
  | [], _ => .nil
  | e :: ts, h => .cons (.tup (SqT.of (h e List.mem_cons_self)) (.cons (.int _) (.cons (.int _) .nil))) (dEs_at (ts := ts) fun x hx => h x (List.mem_cons_of_mem _ hx))
theorem dEs_lay : ∀ ts : Es, PyData.canLayAll0 (dEs ts) = true
  | [] => rfl
  | e :: ts => by
    show (true && PyData.canLayAll0 (dEs ts)) = true
    rw [dEs_lay ts]
    rfl
theorem dEs_depth : ∀ ts : Es, PyData.depthAll (dEs ts) ≤ 1
  | [] => Nat.zero_le _
  | e :: ts => by
    show max 1 (PyData.depthAll (dEs ts)) ≤ 1
    exact Nat.max_le.mpr ⟨Nat.le_refl _, dEs_depth ts⟩
theorem shT (ts : Es) : SeqAt.shaped (.tuple (dEs ts)) = true := by
  show (PyData.canLayAll0 (dEs ts) && decide (PyData.depthAll (dEs ts) + 1 ≤ 64)) = true
  rw [dEs_lay, decide_eq_true (by have := dEs_depth ts; omega)]
  rfl
theorem shL (ts : Es) : SeqAt.shaped (.list (dEs ts)) = true := by
  show (PyData.canLayAll0 (dEs ts) && decide (PyData.depthAll (dEs ts) + 1 ≤ 64)) = true
  rw [dEs_lay, decide_eq_true (by have := dEs_depth ts; omega)]
  rfl
theorem eqv_es : ∀ us ts : Es, PyData.eqvAll (dEs us) (dEs ts) = decide (psOf us = psOf ts)
  | [], [] => rfl
  | [], e :: ts => rfl
  | e :: us, [] => rfl
  | e :: us, f :: ts => by
    have ih := eqv_es us ts
    show ((e.2.1 == f.2.1 && (e.2.2 == f.2.2 && true)) && PyData.eqvAll (dEs us) (dEs ts)) = decide (e.2 :: psOf us = f.2 :: psOf ts)
    rw [ih]
    obtain ⟨a, x, y⟩ := e
    obtain ⟨b, z, u⟩ := f
    by_cases h1 : x = z <;> by_cases h2 : y = u <;> by_cases h3 : psOf us = psOf ts <;> simp [h1, h2, h3]
/-! ### the object -/
theorem ks : ¬ (("state_count" : Str) = "edge_pairs") := by decide +kernel
theorem flds_put1 (n : Int) : putF "state_count" (.int n) [] = ([("state_count", V.int n)] : List (Str × V)) := rfl
theorem flds_put2 (n : Int) (t : Addr) : putF "edge_pairs" (.ref t) ([("state_count", V.int n)] : List (Str × V)) = flds n t := by
  show (if ("state_count" : Str) = "edge_pairs" then _ else (("state_count" : Str), V.int n) :: putF "edge_pairs" (.ref t) []) = flds n t
  rw [if_neg ks]
  rfl
theorem look_s (n : Int) (t : Addr) : (flds n t).lookup ("state_count" : Str) = some (.int n) := by
  unfold flds
  simp [List.lookup]
theorem look_e (n : Int) (t : Addr) : (flds n t).lookup ("edge_pairs" : Str) = some (.ref t) := by
  unfold flds
  have h : (("edge_pairs" : Str) == ("state_count" : Str)) = false := by decide +kernel
  simp [List.lookup, h]
theorem look_no (n : Int) (t : Addr) {m : Str} (h1 : (m == ("state_count" : Str)) = false) (h2 : (m == ("edge_pairs" : Str)) = false) : (flds n t).lookup m = none := by
  unfold flds
  simp [List.lookup, h1, h2]
theorem sq_or {K : PySem.W.Frag} {S : SqF} {H : Hp} {e : Addr} {xs : List V} (hS : S = SqL ∨ S = SqT) (h : S K H e xs) : SqL K H e xs ∨ SqT K H e xs := by
  rcases hS with rfl | rfl
  · exact .inl h
  · exact .inr h
def grText (n m : Int) : Str := ((((("Graph(" : Str) ++ (toString n : Str)) ++ (" states, " : Str)) ++ (toString m : Str)) ++ (" edges)" : Str))
def spLen (C : Addr) : Sp := fun vs H Q _ => ∃ (g : Addr) (n : Int) (us : Es), vs = [.ref g] ∧ GraphAt C H g n us ∧ Q (.int us.length) H
def spStates (C : Addr) : Sp := fun vs H Q _ => ∃ (g : Addr) (n : Int) (us : Es), vs = [.ref g] ∧ GraphAt C H g n us ∧ Q (.int n) H
def spRepr (C : Addr) : Sp := fun vs H Q _ => ∃ (g : Addr) (n : Int) (us : Es), vs = [.ref g] ∧ GraphAt C H g n us ∧ 0 ≤ n ∧ n < 1000 ∧ us.length < 1000 ∧ Q (.str (grText n us.length)) H
def spEdges (C : Addr) : Sp := fun vs H Q _ => ∃ (g : Addr) (n : Int) (us : Es), vs = [.ref g] ∧ GraphAt C H g n us ∧ ∀ p, H p = none → Q (.ref p) (upd H p (.lst (vsOf us)))
section
variable {P : Program} {w : World} {K : PySem.W.Frag} {mg : Str → Option Value} {base : Heap}
theorem scInit : FnScope ["self", "states", "edges", "source", "target"] ["self", "states", "edges"] (defScope sInit) := ⟨rfl, rfl, rfl, by decide +kernel, rfl, by decide +kernel, by decide +kernel⟩
set_option maxHeartbeats 8000000 in
theorem ok_init {f C : Addr} {mc : Value} {fd : FuncData} {k : Nat} (F : Fun K "__init__" "Graph.__init__" sInit f fd) (T : Bi mg) (G : GTxt K mg C mc) (cC : C8.Cal P w K mg base 1 "check_edges" (spCheck K) []) : FnOk P w K mg base CX0 (k + 2) f fd ["self", "states", "edges"] (spInit C) := by
  refine F.ok scInit (fun vs H Q E h => ?_) (fun cdv A outer s H vs Q E hr h => ?_)
  · obtain ⟨g, dx, e, n, ts, mk, rfl, _⟩ := h
    rfl
  · obtain ⟨g, dx, e, n, ts, mk, rfl, hg, hmk, he, ed, va, n1, n8, hl, q⟩ := h
    have ge : e ≠ g := by
      rintro rfl
      rw [hg] at he
      rcases hmk with rfl | rfl <;> cases he
    obtain ⟨S, hS, hq0⟩ : ∃ S : SqF, (S = SqL ∨ S = SqT) ∧ ∀ H', H' e = some (mk (vsOf ts)) → S K H' e (vsOf ts) := by
      rcases hmk with rfl | rfl
      · exact ⟨SqL, .inl rfl, fun H' h => SqL.of h⟩
      · exact ⟨SqT, .inr rfl, fun H' h => SqT.of h⟩
    have hq := hq0 H he
    have hk : 1 ≤ k + 1 := Nat.le_add_left 1 k
    refine ⟨_, pss_cons (ps_if (pt_cmpR op_lt (pv 1) pe_int (nomark _)) (pss_one ps_never) pss_nil)
      (pss_cons (ps_if (pt_cmpR op_gt (pv 1) (ClX.pe_cval (pe_glob (v := .ref C) (by rfl) G.mgG rfl)) (nomark _)) (pss_one ps_never) pss_nil)
      (pss_cons (ps_if (pt_cmpR op_gt (pe_callB call_len_seq (by rfl) T.len PySem.boot_len (pa_cons (pv 2) pa_nil)) (ClX.pe_cval (pe_glob (v := .ref C) (by rfl) G.mgG rfl)) (nomark _)) (pss_one ps_never) pss_nil)
      (pss_cons (ps_expr (C8.pe_c cC hr hk (by rfl) (pa_cons (pv 1) (pa_cons (pv 2) pa_nil))))
      (pss_cons (ps_fld (pv 0) (pv 1) rfl)
      (pss_one (ps_fld (pv 0) (pe_callTy call_tuple_of (by rfl) T.tuple (by decide +kernel) (pa_cons
        (pe_lc (own := [("source", 3), ("target", 4)]) (g := gTup K 2 (gCons (gName 3) (gCons (gName 4) gNil))) (tt := tYes) (te := tTup (tCons (tVar 3) (tCons (tVar 4) tNil))) rfl scInit.nd (pi_seqA (pv 2))
          (blkOk_by (N := ["self", "states", "edges", "source", "target"]) (sc := defScope sInit) (by decide +kernel))
          (fun _ _ _ _ _ => by exact pg_tup rfl (pgs_cons (pg_name (i := 3) scInit.nd rfl (Or.inl rfl)) (pgs_cons (pg_name (i := 4) scInit.nd rfl (Or.inl rfl)) pgs_nil)))
          (fun _ _ _ _ _ => pts_nil)
          (fun _ _ _ _ _ => by exact pe_tup (pa_cons (pv 3) (pa_cons (pv 4) pa_nil)))) pa_nil)) rfl)))))), ?_⟩
    obtain ⟨u8, hv8⟩ := G.v8
    obtain ⟨u24, hv24⟩ := G.v24
    refine ⟨_, rfl, _, _, rfl, rfl, _, rfl, if_f (decide_eq_false (by omega)) ?_⟩
    refine ⟨_, rfl, C, mc, _, _, rfl, G.rd, hv8, _, _, rfl, rfl, _, rfl, if_f (decide_eq_false (by omega)) ?_⟩
    refine ⟨_, rfl, e, _, rfl, sq_or hS hq, C, mc, _, _, rfl, G.rd, hv24, _, _, rfl, rfl, _, rfl, if_f (decide_eq_false (by rw [vsOf_len]; omega)) ?_⟩
    refine ⟨_, rfl, _, rfl, n, e, ts, S, rfl, hS, hq, ed, va, n1, by omega, by omega, fun H1 s1 => ?_⟩
    refine ⟨_, rfl, _, rfl, g, C, dx, [], rfl, s1 _ _ hg, G.cl, G.nS, (by show 0 < 1000; decide), ?_⟩
    rw [flds_put1]
    have k2 : KeepB g H (upd H1 g (.ins C dx [("state_count", V.int n)])) := KeepB.trans (.of_same s1) .updb
    have g2 : upd H1 g (.ins C dx [("state_count", V.int n)]) g = some (.ins C dx [("state_count", V.int n)]) := upd_same
    generalize upd H1 g (.ins C dx [("state_count", V.int n)]) = H2 at *
    refine ⟨_, rfl, e, vsOf ts, S, rfl, hS, hq0 _ (k2 _ _ ge he), fun J w => fun D hD => ?_⟩
    have nDg : D ≠ g := fun z => by
      rw [z, g2] at hD
      cases hD
    have nD : H D = none := k2.free g2 hD
    refine lc_it w (fun i H' => ∃ us : Es, psOf us = psOf (ts.take i) ∧ KeepB g H H' ∧ H' g = some (.ins C dx [("state_count", V.int n)]) ∧ H' D = some (.lst (vsOf us)) ∧ Ed H' us)
      ⟨[], rfl, k2.new hD, by rw [upd_ne nDg.symm]; exact g2, upd_same, .nil⟩ (fun i H' _ p => by obtain ⟨us, _, k3, _⟩ := p; exact hq0 _ (k3 _ _ ge he)) ?_ ?_
    · rintro i x H3 H' hi ⟨us, hus, k3, g3, eD, ed3⟩ ⟨rfl, gx⟩
      obtain ⟨ee, hee, rfl⟩ := vsOf_at gx
      have mem : ee ∈ ts := List.mem_of_getElem? hee
      have eg : ee.1 ≠ g := fun z => by
        have h := ed ee mem
        rw [z, hg] at h
        cases h
      refine ⟨ee.1, _, rfl, SqT.of (k3 _ _ eg (ed ee mem)), rfl, _, _, rfl, _, _, rfl, rfl, rfl, ?_⟩
      refine ⟨_, rfl, _, rfl, (by show 2 ≤ sizeLine; decide), fun t ht => ?_⟩
      have s4 := same_upd (o := .tup [.int ee.2.1, .int ee.2.2]) ht
      have tD : D ≠ t := ne_of_none eD ht
      refine ⟨_, s4 _ _ eD, ?_, us ++ [(t, ee.2)], ?_, ?_, ?_, ?_, ?_⟩
      · have h1 : us.length = (ts.take i).length := by
          have := congrArg List.length hus
          unfold psOf at this
          simpa using this
        rw [vsOf_len, h1, List.length_take]
        exact small1000 (by omega)
      · unfold psOf at hus ⊢
        rw [List.map_append, hus, List.take_add_one, hee, List.map_append]
        rfl
      · exact (k3.new ht).at nD
      · rw [upd_ne nDg.symm]
        exact s4 _ _ g3
      · rw [upd_same]
        unfold vsOf
        rw [List.map_append]
        rfl
      · refine Ed.app (fun x hx => ?_) (.one ?_)
        · have h := s4 _ _ (ed3 x hx)
          rw [upd_ne (fun z => ?_)]
          · exact h
          · rw [z, s4 _ _ eD] at h
            cases h
        · rw [upd_ne (Ne.symm tD), upd_same]
    · rintro H3 ⟨us, hus, k3, g3, eD, ed3⟩
      rw [vsOf_len, List.take_length] at hus
      refine ⟨D, _, rfl, .inl ⟨SqL.of eD, fun t ht => ?_⟩⟩
      have s4 := same_upd (o := .tup (vsOf us)) ht
      have tg : t ≠ g := (ne_of_none g3 ht).symm
      refine ⟨_, rfl, g, C, dx, _, rfl, s4 _ _ g3, G.cl, G.nE, (by show 1 < 1000; decide), ?_⟩
      rw [flds_put2]
      refine q us _ hus ((k3.trans (.of_same s4)).trans .updb) ⟨⟨dx, t, upd_same, by rw [upd_ne tg]; exact upd_same⟩, fun x hx => ?_⟩
      have h := s4 _ _ (ed3 x hx)
      rw [upd_ne (fun z => ?_)]
      · exact h
      · rw [z, s4 _ _ g3] at h
        cases h
/-! ### the small ones -/
theorem scLen : FnScope ["self"] ["self"] (defScope sLen) := ⟨rfl, rfl, rfl, by decide +kernel, rfl, by decide +kernel, by decide +kernel⟩
theorem ok_len {f C : Addr} {mc : Value} {fd : FuncData} {k : Nat} (F : Fun K "__len__" "Graph.__len__" sLen f fd) (T : Bi mg) (G : GTxt K mg C mc) : FnOk P w K mg base CX0 (k + 1) f fd ["self"] (spLen C) := by
  refine F.ok scLen (fun vs H Q E h => ?_) (fun cdv A outer s H vs Q E hr h => ?_)
  · obtain ⟨g, n, us, rfl, _⟩ := h
    rfl
  · obtain ⟨g, n, us, rfl, ⟨⟨dx, t, h1, h2⟩, ed⟩, q⟩ := h
    refine ⟨_, pss_one (ps_ret (pe_callB call_len_seq (by rfl) T.len PySem.boot_len (pa_cons (pe_fld (pv 0) rfl) pa_nil))), ?_⟩
    refine ⟨_, rfl, g, C, dx, _, _, rfl, h1, G.cl, G.nE, look_e _ _, t, _, rfl, .inr (SqT.of h2), ?_⟩
    rw [vsOf_len]
    exact q
theorem scStates : FnScope ["self"] ["self"] (defScope sStates) := ⟨rfl, rfl, rfl, by decide +kernel, rfl, by decide +kernel, by decide +kernel⟩
theorem ok_states {f C : Addr} {mc : Value} {fd : FuncData} {k : Nat} (F : Fun K "states" "Graph.states" sStates f fd) (G : GTxt K mg C mc) : FnOk P w K mg base CX0 (k + 1) f fd ["self"] (spStates C) := by
  refine F.ok scStates (fun vs H Q E h => ?_) (fun cdv A outer s H vs Q E hr h => ?_)
  · obtain ⟨g, n, us, rfl, _⟩ := h
    rfl
  · obtain ⟨g, n, us, rfl, ⟨⟨dx, t, h1, h2⟩, ed⟩, q⟩ := h
    exact ⟨_, pss_one (ps_ret (pe_fld (pv 0) rfl)), _, rfl, g, C, dx, _, _, rfl, h1, G.cl, G.nS, look_s _ _, q⟩
theorem scEdges : FnScope ["self"] ["self"] (defScope sEdges) := ⟨rfl, rfl, rfl, by decide +kernel, rfl, by decide +kernel, by decide +kernel⟩
theorem ok_edges {f C : Addr} {mc : Value} {fd : FuncData} {k : Nat} (F : Fun K "edges" "Graph.edges" sEdges f fd) (T : Bi mg) (G : GTxt K mg C mc) : FnOk P w K mg base CX0 (k + 1) f fd ["self"] (spEdges C) := by
  refine F.ok scEdges (fun vs H Q E h => ?_) (fun cdv A outer s H vs Q E hr h => ?_)
  · obtain ⟨g, n, us, rfl, _⟩ := h
    rfl
  · obtain ⟨g, n, us, rfl, ⟨⟨dx, t, h1, h2⟩, ed⟩, q⟩ := h
    exact ⟨_, pss_one (ps_ret (pe_callTy call_list_of (by rfl) T.list (by decide +kernel) (pa_cons (pe_fld (pv 0) rfl) pa_nil))), _, rfl, g, C, dx, _, _, rfl, h1, G.cl, G.nE, look_e _ _, t, _, rfl, .inr (SqT.of h2), q⟩
theorem scRepr : FnScope ["self"] ["self"] (defScope sRepr) := ⟨rfl, rfl, rfl, by decide +kernel, rfl, by decide +kernel, by decide +kernel⟩
theorem log_small {n : Int} (h0 : 0 ≤ n) (h1 : n < 1000) : n.natAbs.log2 < 1920 := by
  have h : n.natAbs < 2 ^ 10 := by omega
  by_cases hz : n.natAbs = 0
  · rw [hz]
    decide
  · have := (Nat.log2_lt hz).mpr h
    omega
theorem len_small {n : Int} (h0 : 0 ≤ n) (h1 : n < 1000) : (Str.ofString (toString n)).length ≤ 3 := PyProof.Rows.toString_length_le h0 (by decide) (by omega)
theorem len_app (x y : Str) : (x ++ y).length = x.length + y.length := by
  show (x.cps ++ y.cps).size = x.cps.size + y.cps.size
  exact Array.size_append
theorem ok_repr {f C : Addr} {mc : Value} {fd : FuncData} {k : Nat} (F : Fun K "__repr__" "Graph.__repr__" sRepr f fd) (T : Bi mg) (G : GTxt K mg C mc) : FnOk P w K mg base CX0 (k + 1) f fd ["self"] (spRepr C) := by
  refine F.ok scRepr (fun vs H Q E h => ?_) (fun cdv A outer s H vs Q E hr h => ?_)
  · obtain ⟨g, n, us, rfl, _⟩ := h
    rfl
  · obtain ⟨g, n, us, rfl, ⟨⟨dx, t, h1, h2⟩, ed⟩, n0, n1, hl, q⟩ := h
    refine ⟨_, pss_one (ps_ret (pe_joined (.cons pe_str (.cons (pe_fmt (pe_fld (pv 0) rfl)) (.cons pe_str (.cons (pe_fmt (pe_callB call_len_seq (by rfl) T.len PySem.boot_len (pa_cons (pe_fld (pv 0) rfl) pa_nil))) (.cons pe_str .nil))))))), ?_⟩
    have hsz : ∀ m : Nat, m ≤ 1000 → m ≤ sizeLine := fun m h => Nat.le_of_lt (small1000 h)
    have l0 : (0 : Int) ≤ (us.length : Int) := by omega
    have l1 : (us.length : Int) < 1000 := by omega
    have a1 := len_small n0 n1
    have a2 := len_small l0 l1
    have z1 : (Str.ofString "Graph(").length = 6 := by decide +kernel
    have z2 : (Str.ofString " states, ").length = 9 := by decide +kernel
    have z3 : (Str.ofString " edges)").length = 7 := by decide +kernel
    have z0 : Str.empty ++ Str.ofString "Graph(" = Str.ofString "Graph(" := by decide +kernel
    refine ⟨_, rfl, hsz _ (by rw [z0]; omega), _, rfl, g, C, dx, _, _, rfl, h1, G.cl, G.nS, look_s _ _, .inr ⟨n, rfl, log_small n0 n1, _, rfl, hsz _ ?_, ?_⟩⟩
    · rw [z0, len_app]; omega
    refine ⟨_, rfl, hsz _ ?_, ?_⟩
    · rw [z0, len_app, len_app]; omega
    refine ⟨_, rfl, g, C, dx, _, _, rfl, h1, G.cl, G.nE, look_e _ _, t, _, rfl, .inr (SqT.of h2), .inr ⟨_, rfl, ?_, _, rfl, hsz _ ?_, ?_⟩⟩
    · rw [vsOf_len]; exact log_small l0 l1
    · rw [vsOf_len, z0, len_app, len_app, len_app]; omega
    refine ⟨_, rfl, hsz _ ?_, ?_⟩
    · rw [vsOf_len, z0, len_app, len_app, len_app, len_app]; omega
    rw [vsOf_len, z0]
    exact q
end
end Lw
end
section
set_option Elab.async false
set_option linter.all false
set_option maxRecDepth 100000
namespace Lw
open PySem L2
/-- what isinstance asks of the class, and that the built-in kinds are not of it -/
structure GIs (K : PySem.W.Frag) (C : Addr) : Prop where
  ins : C8.InsC K C
  non : PySem.W.kitOne K (.type "NoneType") (.ref C) = some false
  int : PySem.W.kitOne K (.type "int") (.ref C) = some false
  lst : PySem.W.kitOne K (.type "list") (.ref C) = some false
  tup : PySem.W.kitOne K (.type "tuple") (.ref C) = some false
def spGEq (K : PySem.W.Frag) (C : Addr) : Sp := fun vs H Q _ => ∃ (g : Addr) (n : Int) (us : Es) (y : V), vs = [.ref g, y] ∧ GraphAt C H g n us ∧
  ((∃ (g2 : Addr) (n2 : Int) (us2 : Es), y = .ref g2 ∧ GraphAt C H g2 n2 us2 ∧ Q (.bl (decide (n = n2) && decide (psOf us = psOf us2))) H) ∨ ((∃ t, TyX K H y t ∧ PySem.W.kitOne K t (.ref C) = some false) ∧ Q (.bl false) H))
theorem spGEq_mono {K : PySem.W.Frag} {C : Addr} (vs : List V) (H : Hp) (Q Q' : VK) (E : XK) (h : ∀ v H', Q v H' → Q' v H') (s : spGEq K C vs H Q E) : spGEq K C vs H Q' E := by
  obtain ⟨g, n, us, y, e, G, s⟩ := s
  rcases s with ⟨g2, n2, us2, e2, G2, q⟩ | ⟨t, q⟩
  · exact ⟨g, n, us, y, e, G, .inl ⟨g2, n2, us2, e2, G2, h _ _ q⟩⟩
  · exact ⟨g, n, us, y, e, G, .inr ⟨t, h _ _ q⟩⟩
theorem GraphAt.same {C : Addr} {H H' : Hp} {g : Addr} {n : Int} {us : Es} (h : GraphAt C H g n us) (s : Same H H') : GraphAt C H' g n us := by
  obtain ⟨⟨dx, t, h1, h2⟩, ed⟩ := h
  exact ⟨⟨dx, t, s _ _ h1, s _ _ h2⟩, ed.same s⟩
theorem PlanAt.same {H H' : Hp} {p q : Addr} {n : Int} {ts : Es} (h : PlanAt H p q n ts) (s : Same H H') : PlanAt H' p q n ts := ⟨s _ _ h.tp, s _ _ h.ls, h.ed.same s, h.va, h.n1⟩
section
variable {P : Program} {w : World} {K : PySem.W.Frag} {mg : Str → Option Value} {base : Heap}
theorem scEq : FnScope ["self", "other"] ["self", "other"] (defScope sEq) := ⟨rfl, rfl, rfl, by decide +kernel, rfl, by decide +kernel, by decide +kernel⟩
set_option maxHeartbeats 4000000 in
theorem ok_eq {f C : Addr} {mc : Value} {fd : FuncData} {k : Nat} (F : Fun K "__eq__" "Graph.__eq__" sEq f fd) (T : Bi mg) (G : GTxt K mg C mc) (S : GIs K C) : FnOk P w K mg base CX0 (k + 1) f fd ["self", "other"] (spGEq K C) := by
  refine F.ok scEq (fun vs H Q E h => ?_) (fun cdv A outer s H vs Q E hr h => ?_)
  · obtain ⟨g, n, us, y, rfl, _⟩ := h
    rfl
  · obtain ⟨g, n, us, y, rfl, ⟨⟨dx, t, h1, h2⟩, ed⟩, hh⟩ := h
    refine ⟨_, pss_one (ps_ret (pe_and (pe_callB call_isi (by rfl) T.isi (by decide +kernel) (pa_cons (pv 1) (pa_cons (pe_glob (v := .ref C) (by rfl) G.mgG rfl) pa_nil)))
      (pe_and (pe_cmpR op_eq (pe_fld (pv 0) rfl) (pe_fld (pv 1) rfl) (nomark _)) (pe_one (pe_cmpR (op_eqD hr.units) (pe_fld (pv 0) rfl) (pe_fld (pv 1) rfl) (nomark _)))))), ?_⟩
    rcases hh with ⟨g2, n2, us2, rfl, ⟨⟨dx2, t2, h12, h22⟩, ed2⟩, q⟩ | ⟨⟨ty, hty, hk⟩, q⟩
    · refine ⟨_, rfl, _, _, _, _, true, rfl, .own _, .base (.ins h12 S.ins.cl S.ins.ha S.ins.hn S.ins.htk S.ins.hm), S.ins.me, true, rfl, iteT ?_⟩
      refine ⟨_, rfl, g, C, dx, _, _, rfl, h1, G.cl, G.nS, look_s _ _, _, rfl, g2, C, dx2, _, _, rfl, h12, G.cl, G.nS, look_s _ _, rfl, _, rfl, ?_⟩
      by_cases hn : n = n2
      · refine if_t (decide_eq_true (by rw [hn])) ?_
        refine ⟨_, rfl, g, C, dx, _, _, rfl, h1, G.cl, G.nE, look_e _ _, _, rfl, g2, C, dx2, _, _, rfl, h12, G.cl, G.nE, look_e _ _, _, _, .tup (SqT.of h2) (dEs_at ed), .tup (SqT.of h22) (dEs_at ed2), shT _, shT _, ?_⟩
        rw [decide_eq_true hn, Bool.true_and, ← eqv_es] at q
        exact q
      · refine if_f (decide_eq_false (fun z => hn (by injection z))) ?_
        rw [decide_eq_false hn, Bool.false_and] at q
        exact q
    · exact ⟨_, rfl, _, _, _, _, false, rfl, .own _, hty, hk, false, rfl, iteF q⟩
end
end Lw
end
section
set_option Elab.async false
set_option linter.all false
set_option maxRecDepth 100000
namespace Lw
open PySem L2
abbrev sGraph : Stmt := top 41
def spGraph (C : Addr) : Sp := fun vs H Q _ => ∃ (p q : Addr) (n : Int) (ts : Es), vs = [.ref p] ∧ PlanAt H p q n ts ∧ n ≤ 8 ∧ ts.length ≤ 24 ∧ ∀ (g : Addr) (us : Es) (H' : Hp), psOf us = psOf ts → Same H H' → H g = none → GraphAt C H' g n us → Q (.ref g) H'
section
variable {P : Program} {w : World} {K : PySem.W.Frag} {mg : Str → Option Value} {base : Heap}
theorem scGraph : FnScope ["_law_plan_here"] ["_law_plan_here"] (defScope sGraph) := ⟨rfl, rfl, rfl, by decide +kernel, rfl, by decide +kernel, by decide +kernel⟩
theorem at0t {x y : V} : atI [x, y] 0 = some x := at0
set_option maxHeartbeats 4000000 in
theorem ok_graph {f C : Addr} {fd : FuncData} {k : Nat} (F : Fun K "_law_graph" "_law_graph" sGraph f fd) (T : Bi mg) (cG : C8.Mak P w K mg base 2 "Graph" C (spInit C) []) : FnOk P w K mg base CX0 (k + 4) f fd ["_law_plan_here"] (spGraph C) := by
  refine F.ok scGraph (fun vs H Q E h => ?_) (fun cdv A outer s H vs Q E hr h => ?_)
  · obtain ⟨p, q, n, ts, rfl, _⟩ := h
    rfl
  · obtain ⟨p, q0, n, ts, rfl, PA, n8, l24, q⟩ := h
    refine ⟨_, pss_one (ps_ret (C8.pe_mk cG hr (by omega) (by rfl) (pa_cons (pe_ix ix_tup (pv 0) pe_int (fun _ _ => rfl)) (pa_cons (pe_callTy call_list_of (by rfl) T.list (by decide +kernel) (pa_cons (pe_ix ix_tup (pv 0) pe_int (fun _ _ => rfl)) pa_nil)) pa_nil)))), ?_⟩
    refine ⟨_, rfl, p, _, _, _, rfl, rfl, SqT.of PA.tp, at0, _, rfl, p, _, _, _, rfl, rfl, SqT.of PA.tp, at1, q0, _, rfl, .inl (SqL.of PA.ls), fun e he => ?_⟩
    have s1 := same_upd (o := .lst (vsOf ts)) he
    intro g dx hg hdx nex
    have s2 := s1.trans ((same_upd (o := .own g) hdx))
    have hg2 : upd (upd H e (.lst (vsOf ts))) dx (.own g) g = none := by
      rw [upd_ne (Ne.symm nex)]
      exact hg
    have s3 := s2.trans (same_upd (o := .ins C dx []) hg2)
    have ng : H g = none := s1.free hg
    have e3 : upd (upd (upd H e (.lst (vsOf ts))) dx (.own g)) g (.ins C dx []) e = some (.lst (vsOf ts)) := same_upd hg2 _ _ (same_upd hdx _ _ upd_same)
    refine ⟨g, dx, e, n, ts, HO.lst, rfl, upd_same, .inl rfl, e3, PA.ed.same s3, PA.va, PA.n1, n8, l24, fun us H' hus kp G => ⟨rfl, ?_⟩⟩
    exact q g us H' hus (fun c o ec => kp c o (ne_of_none ec ng) (s3 c o ec)) ng G
end
end Lw
end
section
set_option Elab.async false
set_option linter.all false
set_option maxRecDepth 100000
namespace Lw
open PySem L2
theorem psOf_at {us : Es} {i : Nat} {e : Addr × Int × Int} (h : us[i]? = some e) : (psOf us)[i]? = some e.2 := by
  unfold psOf
  rw [List.getElem?_map, h]
  rfl
abbrev sCounts : Stmt := inClass (top 34) 13
/-! ### xs[i] read for xs[i] += e -/
theorem get_list {X : Cx} : PGet X (fun o y H Q => ∃ (p : Addr) (xs : List V) (i : Int) (v : V), o = .ref p ∧ y = .int i ∧ SqL X.K H p xs ∧ 0 ≤ i ∧ xs[i.toNat]? = some v ∧ Q v H) := by
  intro pins s σ H o y ov iv Q I ro ri h
  obtain ⟨p, xs, i, v, rfl, rfl, hq, h0, hv, q⟩ := h
  cases ro
  obtain ⟨t, rfl⟩ := ri
  obtain ⟨its, r, pl, hz⟩ := I.list hq
  obtain ⟨u, hu, ru⟩ := r.get hv
  have hl := r.length
  have hn := line63
  have hi : i.toNat < xs.length := (List.getElem?_eq_some_iff.mp hv).1
  refine wpAny_getItem_list pl.isList h0 (by omega) (by simpa using hu) ⟨v, H, I, ru, q⟩
/-! ### numbers of equal pairs -/
def cnt (ps : List (Int × Int)) (a b : Nat) : Int := ((ps.filter fun p => decide (p = ((a : Int), (b : Int)))).length : Int)
theorem cnt_snoc (ps : List (Int × Int)) (p : Int × Int) (a b : Nat) : cnt (ps ++ [p]) a b = cnt ps a b + (if p = ((a : Int), (b : Int)) then 1 else 0) := by
  unfold cnt
  rw [List.filter_append, List.length_append]
  by_cases h : p = ((a : Int), (b : Int))
  · rw [if_pos h, List.filter_cons_of_pos (by rw [decide_eq_true h])]
    rfl
  · rw [if_neg h, List.filter_cons_of_neg (by rw [decide_eq_false h]; exact Bool.false_ne_true)]
    simp
def cntRow (ps : List (Int × Int)) (m a : Nat) : List V := (List.range m).map fun b => V.int (cnt ps a b)
theorem cntRow_len (ps : List (Int × Int)) (m a : Nat) : (cntRow ps m a).length = m := by
  unfold cntRow
  simp
theorem cntRow_at (ps : List (Int × Int)) {m a b : Nat} (h : b < m) : (cntRow ps m a)[b]? = some (V.int (cnt ps a b)) := by
  unfold cntRow
  rw [List.getElem?_map, List.getElem?_range h]
  rfl
theorem cntRow_set (ps : List (Int × Int)) {m a t : Nat} (h : t < m) : (cntRow ps m a).set t (V.int (cnt ps a t + 1)) = cntRow (ps ++ [((a : Int), (t : Int))]) m a := by
  apply List.ext_getElem?
  intro b
  by_cases hb : b < m
  · rw [cntRow_at _ hb, cnt_snoc]
    by_cases e : t = b
    · subst e
      rw [List.getElem?_set_self (by rw [cntRow_len]; exact h), if_pos rfl]
    · rw [List.getElem?_set_ne e, cntRow_at _ hb, if_neg (fun z => e (by have h2 : (t : Int) = (b : Int) := congrArg Prod.snd z; omega)), Int.add_zero]
  · rw [List.getElem?_eq_none (by rw [List.length_set, cntRow_len]; omega), List.getElem?_eq_none (by rw [cntRow_len]; omega)]
theorem cntRow_other (ps : List (Int × Int)) {m a s t : Nat} (h : a ≠ s) : cntRow (ps ++ [((s : Int), (t : Int))]) m a = cntRow ps m a := by
  unfold cntRow
  refine List.map_congr_left fun b _ => ?_
  rw [cnt_snoc, if_neg (fun z => h (by have h2 : (s : Int) = (a : Int) := congrArg Prod.fst z; omega)), Int.add_zero]
theorem cntRow_nil (m a : Nat) : cntRow [] m a = List.replicate m (V.int 0) := by
  unfold cntRow
  rw [show (fun b => V.int (cnt [] a b)) = fun _ => V.int 0 from rfl, List.map_const', List.length_range]
theorem nodup_at {rs : List Addr} (nd : rs.Nodup) {a b : Nat} {r : Addr} (h1 : rs[a]? = some r) (h2 : rs[b]? = some r) : a = b := by
  obtain ⟨l1, e1⟩ := List.getElem?_eq_some_iff.mp h1
  obtain ⟨l2, e2⟩ := List.getElem?_eq_some_iff.mp h2
  rcases Nat.lt_trichotomy a b with h | h | h
  · exact absurd (e1.trans e2.symm) (List.pairwise_iff_getElem.mp nd a b l1 l2 h)
  · exact h
  · exact absurd (e2.trans e1.symm) (List.pairwise_iff_getElem.mp nd b a l2 l1 h)
theorem ixN_of {n : Nat} {i : Int} (h0 : 0 ≤ i) (h : i.toNat < n) : ixN n i = some i.toNat := by
  unfold ixN
  rw [if_pos h0, if_pos (by omega)]
structure CntAt (H : Hp) (p : Addr) (rs : List Addr) (m : Nat) (ps : List (Int × Int)) : Prop where
  ls : H p = some (.lst (rs.map V.ref))
  len : rs.length = m
  row : ∀ (a : Nat) (r : Addr), rs[a]? = some r → H r = some (.lst (cntRow ps m a))
theorem CntAt.same {H H' : Hp} {p : Addr} {rs : List Addr} {m : Nat} {ps : List (Int × Int)} (h : CntAt H p rs m ps) (s : Same H H') : CntAt H' p rs m ps := ⟨s _ _ h.ls, h.len, fun a r e => s _ _ (h.row a r e)⟩
def spCounts (C : Addr) : Sp := fun vs H Q _ => ∃ (g : Addr) (n : Int) (us : Es), vs = [.ref g] ∧ GraphAt C H g n us ∧ 0 ≤ n ∧ n ≤ 100 ∧ us.length ≤ 1000 ∧ (∀ e ∈ us, 0 ≤ e.2.1 ∧ e.2.1 < n ∧ 0 ≤ e.2.2 ∧ e.2.2 < n) ∧
  ∀ p rs H', Same H H' → H p = none → (∀ r ∈ rs, H r = none) → CntAt H' p rs n.toNat (psOf us) → Q (.ref p) H'
section
variable {P : Program} {w : World} {K : PySem.W.Frag} {mg : Str → Option Value} {base : Heap}
theorem scCounts : FnScope ["self", "table", "source", "target"] ["self"] (defScope sCounts) := ⟨rfl, rfl, rfl, by decide +kernel, rfl, by decide +kernel, by decide +kernel⟩
set_option maxHeartbeats 8000000 in
theorem ok_counts {f C : Addr} {mc : Value} {fd : FuncData} {k : Nat} (F : Fun K "counts" "Graph.counts" sCounts f fd) (T : Bi mg) (G : GTxt K mg C mc) : FnOk P w K mg base CX0 (k + 1) f fd ["self"] (spCounts C) := by
  refine F.ok scCounts (fun vs H Q E h => ?_) (fun cdv A outer s H vs Q E hr h => ?_)
  · obtain ⟨g, n, us, rfl, _⟩ := h
    rfl
  · obtain ⟨g, n, us, rfl, ⟨⟨dx, t, h1, h2⟩, ed⟩, n0, n1, hl, rg, q⟩ := h
    refine ⟨_, pss_cons (ps_setLc (i := 1) (own := [("source", 2)]) (g := gName 2) (tt := tYes) (te := tOp rRep (tLst (tCons (tC (.int 0)) tNil)) (tFld K (tVar 0) "state_count")) rfl scCounts.nd rfl rfl (sw_true rfl rfl rfl (by decide +kernel))
          (pi_range1 (by rfl) T.range (pa_cons (pe_fld (pv 0) rfl) pa_nil))
          (blkOk_by (N := ["self", "table", "source", "target"]) (sc := defScope sCounts) (by decide +kernel))
          (fun _ _ _ _ _ => by exact pg_name (i := 2) scCounts.nd rfl (Or.inl rfl))
          (fun _ _ _ _ _ => pts_nil)
          (fun _ _ _ _ _ => by exact pe_op op_rep (pe_lst (pa_cons pe_int pa_nil)) (pe_fld (pv 0) rfl)))
      (pss_cons (ps_for PassesOwn.never rfl (pi_seqA (pe_fld (pv 0) rfl)) (pg_tup rfl (pgs_cons (pg_name (i := 2) scCounts.nd rfl (.inl rfl)) (pgs_cons (pg_name (i := 3) scCounts.nd rfl (.inl rfl)) pgs_nil)))
        (pss_one (ps_augS (pe_ix ix_list (pv 1) (pv 2) (fun _ _ => rfl)) (pv 3) get_list pe_int ip_add set_list)))
      (pss_one (ps_ret (pv 1)))), ?_⟩
    refine ⟨_, rfl, g, C, dx, _, _, rfl, h1, G.cl, G.nS, look_s _ _, n, rfl, by omega, by omega, fun D hD => ?_⟩
    refine lc_it (walk_range (lo := 0) (n := n.toNat)) (fun i H' => ∃ rs : List Addr, rs.length = i ∧ rs.Nodup ∧ Same H H' ∧ H' D = some (.lst (rs.map V.ref)) ∧ ∀ r ∈ rs, H r = none ∧ r ≠ D ∧ H' r = some (.lst (List.replicate n.toNat (V.int 0))))
      ⟨[], rfl, List.nodup_nil, same_upd hD, upd_same, fun r hr => by cases hr⟩ (fun _ _ _ _ => True.intro) ?_ ?_
    · rintro i x H1 H' hi ⟨rs, hrs, nd, sm, eD, hh⟩ ⟨rfl, rfl⟩
      refine ⟨rfl, ?_⟩
      refine ⟨(by show 1 ≤ sizeLine; decide), fun l hl => ?_⟩
      have s1 := same_upd (o := .lst [.int 0]) hl
      refine ⟨_, rfl, g, C, dx, _, _, rfl, s1 _ _ (sm _ _ h1), G.cl, G.nS, look_s _ _, l, n, _, rfl, rfl, upd_same, by omega, by omega, ?_, fun p hp => ?_⟩
      · show 1 * n.toNat ≤ sizeLine
        exact Nat.le_of_lt (small1000 (by omega))
      have s2 := s1.trans (same_upd (o := .lst (List.replicate n.toNat [V.int 0]).flatten) hp)
      have e0 : (List.replicate n.toNat [V.int 0]).flatten = List.replicate n.toNat (V.int 0) := by
        rw [List.flatten_replicate_singleton]
      have eD2 := s2 _ _ eD
      have pD : p ≠ D := fun z => by
        rw [z, s1 _ _ eD] at hp
        cases hp
      refine ⟨_, eD2, ?_, rs ++ [p], by simp [hrs], ?_, ?_, ?_, ?_⟩
      · rw [List.length_map]
        exact small1000 (by omega)
      · rw [List.nodup_append]
        refine ⟨nd, (by simp), fun a ha b hb => ?_⟩
        rw [List.mem_singleton.mp hb]
        intro z
        have := s1 _ _ (hh a ha).2.2
        rw [z, hp] at this
        cases this
      · intro c o ec
        rw [upd_ne (ne_of_none ec hD)]
        exact s2 _ _ (sm _ _ ec)
      · rw [upd_same, List.map_append]
        rfl
      · intro r hr
        rcases List.mem_append.mp hr with hr | hr
        · obtain ⟨a1, a2, a3⟩ := hh r hr
          exact ⟨a1, a2, by rw [upd_ne a2]; exact s2 _ _ a3⟩
        · rw [List.mem_singleton.mp hr]
          refine ⟨(sm.trans s1).free hp, pD, ?_⟩
          rw [upd_ne pD, upd_same, e0]
    · rintro H1 ⟨rs, hrs, nd, sm, eD, hh⟩
      refine ⟨_, rfl, g, C, dx, _, _, rfl, sm _ _ h1, G.cl, G.nE, look_e _ _, t, vsOf us, SqT, rfl, .inr rfl, SqT.of (sm _ _ h2), fun J w => ?_⟩
      have start : CntAt H1 D rs n.toNat ((psOf us).take 0) := ⟨eD, hrs, fun a r e => by
        rw [List.take_zero, cntRow_nil]
        exact (hh r (List.mem_of_getElem? e)).2.2⟩
      refine for_it w (fun i σ H' => ∃ v2 v3 : Option V, σ = [some (.ref g), some (.ref D), v2, v3] ∧ Same H H' ∧ CntAt H' D rs n.toNat ((psOf us).take i)) ⟨_, _, rfl, sm, start⟩ (fun i σ H' _ p => by obtain ⟨_, _, _, s, _⟩ := p; exact SqT.of (s _ _ h2)) ?_ ?_
      · rintro i x σ H2 H' hi ⟨v2, v3, rfl, sm2, ct⟩ ⟨rfl, gx⟩
        obtain ⟨e, he, rfl⟩ := vsOf_at gx
        have mem : e ∈ us := List.mem_of_getElem? he
        obtain ⟨r1, r2, r3, r4⟩ := rg e mem
        have ha : e.2.1.toNat < rs.length := by rw [ct.len]; omega
        obtain ⟨ra, hrr⟩ : ∃ ra, rs[e.2.1.toNat]? = some ra := ⟨_, List.getElem?_eq_getElem ha⟩
        have hmem : ra ∈ rs := List.mem_of_getElem? hrr
        have ea : e.2.1 = ((e.2.1.toNat : Nat) : Int) := (Int.toNat_of_nonneg r1).symm
        have eb : e.2.2 = ((e.2.2.toNat : Nat) : Int) := (Int.toNat_of_nonneg r3).symm
        have hb : e.2.2.toNat < n.toNat := by omega
        have ro := ct.row _ _ hrr
        refine ⟨e.1, _, rfl, SqT.of (sm2 _ _ (ed e mem)), rfl, _, _, rfl, _, _, rfl, rfl, ?_⟩
        refine ⟨_, rfl, _, rfl, D, _, _, .ref ra, rfl, rfl, SqL.of ct.ls, ?_, ?_⟩
        · rw [ea]
          refine atI_nat ?_
          rw [List.getElem?_map, hrr]
          rfl
        refine ⟨_, rfl, _, _, _, _, rfl, rfl, SqL.of ro, r3, cntRow_at _ hb, _, _, rfl, rfl, _, _, _, e.2.2.toNat, rfl, rfl, ro, ?_, ?_⟩
        · rw [cntRow_len]
          exact ixN_of r3 hb
        refine ⟨_, _, rfl, ?_, ?_⟩
        · intro c o ec
          rw [upd_ne (fun z => ?_)]
          · exact sm2 _ _ ec
          · rw [z, (hh _ hmem).1] at ec
            cases ec
        · have et : (psOf us).take (i + 1) = (psOf us).take i ++ [((e.2.1.toNat : Int), (e.2.2.toNat : Int))] := by
            rw [List.take_add_one, psOf_at he, ← ea, ← eb]
            rfl
          have nD : ra ≠ D := (hh _ hmem).2.1
          refine ⟨by rw [upd_ne nD.symm]; exact ct.ls, ct.len, fun a r hr => ?_⟩
          rw [et]
          by_cases hs : a = e.2.1.toNat
          · subst hs
            have : r = ra := by
              rw [hrr] at hr
              exact (Option.some.inj hr).symm
            subst this
            rw [upd_same, cntRow_set _ hb]
          · have hne : r ≠ ra := fun z => by
              rw [z] at hr
              exact hs (nodup_at nd hr hrr)
            rw [upd_ne hne, cntRow_other _ hs]
            exact ct.row a r hr
      · rintro σ H2 ⟨v2, v3, rfl, sm2, ct⟩
        rw [vsOf_len, show us.length = (psOf us).length by unfold psOf; rw [List.length_map], List.take_length] at ct
        exact ⟨_, rfl, q D rs H2 sm2 hD (fun r hr => (hh r hr).1) ct⟩
end
end Lw
end
section
set_option Elab.async false
set_option linter.all false
set_option maxRecDepth 100000
/-! zip over any number of lists, at the library's level -/
namespace ZN
open PySem
section
variable {M : Model} {A : Around} {E : Value → Shared → Prop}
/-- a loop that never leaves early: what it carries is known by the number of turns -/
theorem loop {α β : Type} {f : α → β → Sem (ForInStep β)} {l : List α} (g : Nat → β) (Inv : Nat → Shared → Prop) {Q : β → Shared → Prop}
    (step : ∀ (j : Nat) (a : α) (s : Shared), l[j]? = some a → Inv j s → wpAny M A (f a (g j)) (fun r s' => r = .yield (g (j + 1)) ∧ Inv (j + 1) s') E s)
    (fin : ∀ s', Inv l.length s' → Q (g l.length) s') : ∀ (post : List α) (j : Nat) (s : Shared), l.drop j = post → j ≤ l.length → Inv j s → wpAny M A (forIn post (g j) f) Q E s := by
  intro post
  induction post with
  | nil =>
    intro j s hd hj inv
    have e : j = l.length := Nat.le_antisymm hj (List.drop_eq_nil_iff.mp hd)
    subst e
    exact wpAny_pure (fin s inv)
  | cons a post ih =>
    intro j s hd hj inv
    have hlt : j < l.length := by
      refine Nat.lt_of_le_of_ne hj fun z => ?_
      rw [z, List.drop_length] at hd
      cases hd
    have ha : l[j]? = some a := by
      have := List.getElem?_drop (xs := l) (i := j) (j := 0)
      rw [hd] at this
      simpa using this.symm
    have hn : l.drop (j + 1) = post := by
      have := congrArg (List.drop 1) hd
      simpa [List.drop_drop] using this
    rw [List.forIn_cons]
    refine wpAny_bind (wpAny_mono (step j a s ha inv) (fun r s' h => ?_) fun _ _ e => e)
    obtain ⟨rfl, inv'⟩ := h
    exact ih (j + 1) s' hn hlt inv'
/-- a loop that is left by an exception at a known turn -/
theorem loopE {α β : Type} {f : α → β → Sem (ForInStep β)} {l : List α} (g : Nat → β) (Inv : Nat → Shared → Prop) {Q : β → Shared → Prop} {n : Nat} (hn : n < l.length)
    (step : ∀ (j : Nat) (a : α) (s : Shared), j < n → l[j]? = some a → Inv j s → wpAny M A (f a (g j)) (fun r s' => r = .yield (g (j + 1)) ∧ Inv (j + 1) s') E s)
    (last : ∀ (a : α) (s : Shared), l[n]? = some a → Inv n s → wpAny M A (f a (g n)) (fun _ _ => False) E s) : ∀ (post : List α) (j : Nat) (s : Shared), l.drop j = post → j ≤ n → Inv j s → wpAny M A (forIn post (g j) f) Q E s := by
  intro post
  induction post with
  | nil =>
    intro j s hd hj inv
    have := List.drop_eq_nil_iff.mp hd
    omega
  | cons a post ih =>
    intro j s hd hj inv
    have ha : l[j]? = some a := by
      have := List.getElem?_drop (xs := l) (i := j) (j := 0)
      rw [hd] at this
      simpa using this.symm
    have hp : l.drop (j + 1) = post := by
      have := congrArg (List.drop 1) hd
      simpa [List.drop_drop] using this
    rw [List.forIn_cons]
    by_cases c : j = n
    · subst c
      exact wpAny_bind (wpAny_mono (last a s ha inv) (fun _ _ h => h.elim) fun _ _ e => e)
    · refine wpAny_bind (wpAny_mono (step j a s (by omega) ha inv) (fun r s' h => ?_) fun _ _ e => e)
      obtain ⟨rfl, inv'⟩ := h
      exact ih (j + 1) s' hp (by omega) inv'
end
/-- the zip object, as it stands -/
def ZipAt (h : Heap) (z TI TO : Addr) (own : Value) (b : Bool) : Prop := h.get? z = some { cls := .type "zip", dict := none, data := .fields #[own, .bool b, .bool false, .ref TI, .ref TO], slots := #[] }
def TupAt (h : Heap) (T : Addr) (vs : Array Value) : Prop := h.get? T = some { cls := .type "tuple", data := .seq vs }
/-- an iterator, its list, the list's items -/
abbrev Rw := Addr × Addr × Array Value
def refs (qs : List Rw) : Array Value := (qs.map fun q => Value.ref q.1).toArray
/-- the first j iterators one further -/
def Rws (h : Heap) (qs : List Rw) (k j : Nat) : Prop := ∀ (i : Nat) (q : Rw), qs[i]? = some q → h.IsListIter q.1 q.2.1 (if i < j then k + 1 else k) ∧ h.IsList q.2.1 q.2.2
structure Apart (z TI TO : Addr) (qs : List Rw) : Prop where
  zT : z ≠ TO
  iz : z ≠ TI
  iT : TO ≠ TI
  q1 : ∀ q ∈ qs, q.1 ≠ z ∧ q.1 ≠ TO ∧ q.1 ≠ TI
  q2 : ∀ q ∈ qs, q.2.1 ≠ z ∧ q.2.1 ≠ TO
  nd : ∀ (i j : Nat) (p q : Rw), qs[i]? = some p → qs[j]? = some q → i ≠ j → p.1 ≠ q.1
  nl : ∀ p ∈ qs, ∀ q ∈ qs, q.2.1 ≠ p.1
/-- the column at k -/
def Col (qs : List Rw) (k : Nat) (xs : List Value) : Prop := xs.length = qs.length ∧ ∀ (i : Nat) (q : Rw) (x : Value), qs[i]? = some q → xs[i]? = some x → q.2.2[k]? = some x
theorem Rws.ext {h h' : Heap} {qs : List Rw} {k j : Nat} (r : Rws h qs k j) (e : ∀ q ∈ qs, ∀ o, h.get? q.1 = some o → h'.get? q.1 = some o) (e2 : ∀ q ∈ qs, ∀ o, h.get? q.2.1 = some o → h'.get? q.2.1 = some o) : Rws h' qs k j := fun i q hq => by
  have m := List.mem_of_getElem? hq
  obtain ⟨⟨o, h1, h2⟩, ⟨ol, h3, h4⟩⟩ := r i q hq
  exact ⟨⟨o, e q m _ h1, h2⟩, ⟨ol, e2 q m _ h3, h4⟩⟩
section
variable {prog : Program} {w : World} {A : Around} {E : Value → Shared → Prop} {s : Shared} {z TI TO : Addr} {qs : List Rw} {k : Nat} {own : Value} {b : Bool}
theorem put {T : Addr} {vs : Array Value} {x : Value} {i : Nat} {Q : Unit → Shared → Prop} (hT : TupAt s.heap T vs) (hz : vs.size ≤ sizeLine)
    (h : ∀ h', TupAt h' T (vs.setIfInBounds i x) → Heap.SameBut T s.heap h' → Q () { s with heap := h' }) : wpAny (model prog w) A (updateSeq T (·.setIfInBounds i x)) Q E s := by
  refine wpAny_updateSeq hT rfl (h _ ?_ (Heap.SameBut.update ..)) (by simpa using hz) (by simp; omega)
  unfold TupAt
  rw [Heap.get?_update_self _ hT rfl]
  simp [Obj.mapSeq]
/-- one iterator of the first j moves on -/
theorem Rws.step {h h' : Heap} {j : Nat} {q : Rw} (S : Apart z TI TO qs) (r : Rws h qs k j) (hq : qs[j]? = some q) (it : h'.IsListIter q.1 q.2.1 (k + 1)) (sb : Heap.SameBut q.1 h h') : Rws h' qs k (j + 1) := fun i p hp => by
  have mq := List.mem_of_getElem? hq
  have mp := List.mem_of_getElem? hp
  obtain ⟨h1, ⟨ol, h3, h4⟩⟩ := r i p hp
  refine ⟨?_, ⟨ol, sb.extBut _ _ (S.nl q mq p mp) h3, h4⟩⟩
  by_cases e : i = j
  · subst e
    rw [hq] at hp
    cases hp
    rw [if_pos (Nat.lt_succ_self _)]
    exact it
  · obtain ⟨o, g1, g2⟩ := h1
    have e2 : (if i < j + 1 then k + 1 else k) = (if i < j then k + 1 else k) := by
      by_cases l : i < j
      · rw [if_pos l, if_pos (by omega)]
      · rw [if_neg l, if_neg (by omega)]
    rw [e2]
    exact ⟨o, sb.extBut _ _ (S.nd i j p q hp hq e) g1, g2⟩
/-- what is not the zip's own -/
def Out (z TO : Addr) (qs : List Rw) (c : Addr) : Prop := c ≠ z ∧ c ≠ TO ∧ ∀ q ∈ qs, c ≠ q.1
theorem col_at {xs : List Value} {q : Rw} {j : Nat} (C : Col qs k xs) (hq : qs[j]? = some q) : ∃ x, xs[j]? = some x ∧ q.2.2[k]? = some x := by
  have hj : j < xs.length := by
    rw [C.1]
    exact (List.getElem?_eq_some_iff.mp hq).1
  exact ⟨xs[j], List.getElem?_eq_getElem hj, C.2 j q _ hq (List.getElem?_eq_getElem hj)⟩
theorem Rws.done {h : Heap} (r : Rws h qs k qs.length) : Rws h qs (k + 1) 0 := fun i q hq => by
  have hi := (List.getElem?_eq_some_iff.mp hq).1
  have := r i q hq
  rw [if_pos hi] at this
  rw [if_neg (Nat.not_lt_zero i)]
  exact this
theorem refs_at {j : Nat} {v : Value} (h : (refs qs).toList[j]? = some v) : ∃ q, qs[j]? = some q ∧ v = .ref q.1 := by
  unfold refs at h
  simp only [List.toList_toArray, List.getElem?_map] at h
  obtain ⟨q, hq, rfl⟩ := Option.map_eq_some_iff.mp h
  exact ⟨q, hq, rfl⟩
theorem refs_len : (refs qs).toList.length = qs.length := by
  unfold refs
  simp
set_option maxHeartbeats 3200000 in
theorem next_free {xs : List Value} {vs : Array Value} {Q : Value → Shared → Prop} (S : Apart z TI TO qs) (hz : ZipAt s.heap z TI TO .none b) (hn : qs ≠ []) (h64 : qs.length ≤ 64)
    (hTI : TupAt s.heap TI (refs qs)) (hTO : TupAt s.heap TO vs) (hv : vs.size = qs.length) (R : Rws s.heap qs k 0) (C : Col qs k xs)
    (hQ : ∀ h', ZipAt h' z TI TO (rawInt s.heap.objs.size) false → TupAt h' TI (refs qs) → Rws h' qs (k + 1) 0 → TupAt h' s.heap.objs.size xs.toArray → h'.objs.size = s.heap.objs.size + 1 →
      (∀ c o, Out z TO qs c → s.heap.get? c = some o → h'.get? c = some o) → Q (.ref s.heap.objs.size) { s with heap := h' }) :
    wpAny (model prog w) A (Builtin.«zip.__next__» ⟨[.ref z], []⟩) (fun fin s' => ∃ v, fin = .done (.ret v) ∧ Q v s') E s := by
  show wpAny _ _ (field (.ref z) 2 >>= _) _ _ _
  refine wpAny_bind (wpAny_field hz rfl (x := .bool false) rfl ?_)
  show wpAny _ _ (field (.ref z) 3 >>= _) _ _ _
  refine wpAny_bind (wpAny_field hz rfl (x := .ref TI) rfl ?_)
  refine wpAny_bind (wpAny_seqItems hTI rfl ?_)
  have ne : (refs qs).isEmpty = false := by
    unfold refs
    cases qs with
    | nil => exact absurd rfl hn
    | cons => rfl
  dsimp only
  rw [ne, if_neg Bool.false_ne_true]
  refine wpAny_bind ?_
  unfold Builtin.SmallTypes.ownedTupleIsFree
  refine wpAny_bind (wpAny_field hz rfl (x := .none) rfl (wpAny_pure ?_))
  rw [if_pos rfl]
  refine wpAny_bind (wpAny_rule (wpAny_bind (wpAny_field hz rfl (x := .ref TO) rfl ?_)))
  refine wpAny_bind (wpAny_setField_rec hz (by simp) fun h1 hz1 sb1 => ?_)
  replace hz1 : ZipAt h1 z TI TO .ellipsis b := hz1
  replace sb1 : Heap.SameBut z s.heap h1 := sb1
  refine wpAny_bind ?_
  refine loop (l := (refs qs).toList.zipIdx) (fun _ => (none, ())) (fun j s' => ∃ h' ys, s' = { s with heap := h' } ∧ ZipAt h' z TI TO .ellipsis b ∧ TupAt h' TI (refs qs) ∧ TupAt h' TO ys ∧ ys.size = qs.length ∧ (∀ i x, i < j → xs[i]? = some x → ys[i]? = some x) ∧ Rws h' qs k j ∧ h'.objs.size = s.heap.objs.size ∧ ∀ c o, Out z TO qs c → s.heap.get? c = some o → h'.get? c = some o) ?_ ?_ _ 0 _ rfl (Nat.zero_le _) ?_
  · rintro j ⟨v, j2⟩ s' hj ⟨h2, ys, rfl, z2, t2, o2, sz, low, r2, sz2, out2⟩
    obtain ⟨e1, e2⟩ : (refs qs).toList[j]? = some v ∧ j2 = j := by
      rw [List.getElem?_zipIdx] at hj
      cases g : (refs qs).toList[j]? with
      | none =>
        rw [g] at hj
        cases hj
      | some u =>
        rw [g] at hj
        have := Option.some.inj hj
        simp only [Prod.mk.injEq] at this
        exact ⟨congrArg some this.1, by omega⟩
    subst e2
    obtain ⟨q, hq, rfl⟩ := refs_at e1
    have mq := List.mem_of_getElem? hq
    obtain ⟨x, hx, hxk⟩ := col_at C hq
    have hjl := (List.getElem?_eq_some_iff.mp hq).1
    obtain ⟨it, ls⟩ := r2 j2 q hq
    rw [if_neg (Nat.lt_irrefl _)] at it
    refine wpAny_bind (wpAny_onRaise ?_)
    show wpAny _ _ (Builtin.SmallTypes.nextOf (.ref q.1) >>= _) _ _ _
    refine wpAny_bind (wpAny_nextOf_list_item (s := { s with heap := h2 }) it ls hxk fun h3 it3 sb3 => wpAny_pure ?_)
    replace sb3 : Heap.SameBut q.1 h2 h3 := sb3
    obtain ⟨nz, nT, nI⟩ := S.q1 q mq
    have o3 : TupAt h3 TO ys := sb3.extBut _ _ (Ne.symm nT) o2
    dsimp only
    refine wpAny_bind (wpAny_seqItems (s := { s with heap := h3 }) o3 rfl ?_)
    dsimp only
    refine wpAny_bind (put (s := { s with heap := h3 }) o3 (by rw [sz]; exact Nat.le_trans h64 (by decide)) fun h4 o4 sb4 => ?_)
    replace sb4 : Heap.SameBut TO h3 h4 := sb4
    refine wpAny_bind (wpAny_letGo (wpAny_pure ⟨rfl, h4, _, rfl, ?_, ?_, o4, ?_, ?_, ?_, ?_, ?_⟩))
    · exact sb4.extBut _ _ S.zT (sb3.extBut _ _ (Ne.symm nz) z2)
    · exact sb4.extBut _ _ (Ne.symm S.iT) (sb3.extBut _ _ (Ne.symm nI) t2)
    · rw [Array.size_setIfInBounds]
      exact sz
    · intro i y hi hy
      by_cases e : i = j2
      · subst e
        rw [hx] at hy
        cases hy
        rw [Array.getElem?_setIfInBounds_self_of_lt (by omega)]
      · rw [Array.getElem?_setIfInBounds_ne (Ne.symm e)]
        exact low i y (by omega) hy
    · refine (r2.step S hq it3 sb3).ext (fun p mp o e => ?_) (fun p mp o e => ?_)
      · exact sb4.extBut _ _ (S.q1 p mp).2.1 e
      · exact sb4.extBut _ _ (S.q2 p mp).2 e
    · rw [sb4.1, sb3.1, sz2]
    · intro c o hc e
      exact sb4.extBut _ _ hc.2.1 (sb3.extBut _ _ (hc.2.2 q mq) (out2 c o hc e))
  · rintro s' ⟨h2, ys, rfl, z2, t2, o2, sz, low, r2, sz2, out2⟩
    rw [List.length_zipIdx, refs_len] at low r2
    have ey : ys = xs.toArray := by
      apply Array.ext_getElem?
      intro i
      by_cases hi : i < qs.length
      · have hx : i < xs.length := by rw [C.1]; exact hi
        have := low i xs[i] hi (List.getElem?_eq_getElem hx)
        rw [this]
        simp [hx]
      · rw [Array.getElem?_eq_none (by omega), Array.getElem?_eq_none (by simp [C.1]; omega)]
    subst ey
    dsimp only
    refine wpAny_bind (wpAny_seqItems (s := { s with heap := h2 }) o2 rfl ?_)
    dsimp only
    refine wpAny_bind (wpAny_newTuple ?_)
    refine wpAny_bind ?_
    unfold Builtin.SmallTypes.ownedTupleHandOut
    have z3 : ZipAt (h2.push { cls := .type "tuple", data := .seq xs.toArray.toList.toArray }) z TI TO .ellipsis b := Heap.get?_push_of_some _ z2
    refine wpAny_bind (wpAny_setField_rec (s := { s with heap := h2.push { cls := .type "tuple", data := .seq xs.toArray.toList.toArray } }) z3 (by simp) fun h4 z4 sb4 => ?_)
    replace z4 : ZipAt h4 z TI TO (rawInt h2.objs.size) b := z4
    replace sb4 : Heap.SameBut z (h2.push { cls := .type "tuple", data := .seq xs.toArray.toList.toArray }) h4 := sb4
    refine wpAny_setField_rec (s := { s with heap := h4 }) z4 (by simp) fun h5 z5 sb5 => ?_
    replace z5 : ZipAt h5 z TI TO (rawInt h2.objs.size) false := z5
    replace sb5 : Heap.SameBut z h4 h5 := sb5
    have zlt : z < h2.objs.size := Heap.lt_size z2
    have up : ∀ c o, c ≠ z → h2.get? c = some o → h5.get? c = some o := fun c o n e => sb5.extBut _ _ n (sb4.extBut _ _ n (Heap.get?_push_of_some _ e))
    have tn : TupAt h5 h2.objs.size xs.toArray := by
      have : TupAt (h2.push { cls := .type "tuple", data := .seq xs.toArray.toList.toArray }) h2.objs.size xs.toArray := Heap.get?_push_size _ rfl
      exact sb5.extBut _ _ (Nat.ne_of_gt zlt) (sb4.extBut _ _ (Nat.ne_of_gt zlt) this)
    have s5 : h5.objs.size = h2.objs.size + 1 := by rw [sb5.1, sb4.1, Heap.size_push]
    rw [sz2] at z5 tn s5
    refine wpAny_pure ⟨_, rfl, ?_⟩
    show Q (.ref h2.objs.size) _
    rw [sz2]
    refine hQ h5 z5 (up _ _ (Ne.symm S.iz) t2) (r2.done.ext (fun p mp o e => up _ _ (S.q1 p mp).1 e) fun p mp o e => up _ _ (S.q2 p mp).1 e) tn s5 fun c o hc e => up c o hc.1 (out2 c o hc e)
  · refine ⟨h1, vs, rfl, hz1, sb1.extBut _ _ (Ne.symm S.iz) hTI, sb1.extBut _ _ (Ne.symm S.zT) hTO, hv, fun i x hi => absurd hi (Nat.not_lt_zero i), ?_, sb1.1, fun c o hc e => sb1.extBut _ _ hc.1 e⟩
    exact R.ext (fun p mp o e => sb1.extBut _ _ (S.q1 p mp).1 e) fun p mp o e => sb1.extBut _ _ (S.q2 p mp).1 e
end
end ZN
end
section
set_option Elab.async false
set_option linter.all false
set_option maxRecDepth 100000
namespace ZN
open PySem
section
variable {prog : Program} {w : World} {A : Around} {E : Value → Shared → Prop} {s : Shared} {z TI TO T : Addr} {qs : List Rw} {k : Nat} {b : Bool} {oT : Obj}
set_option maxHeartbeats 3200000 in
theorem next_held {xs : List Value} {Q : Value → Shared → Prop} (S : Apart z TI TO qs) (hz : ZipAt s.heap z TI TO (rawInt T) b) (hT : s.heap.get? T = some oT) (hn : qs ≠ []) (h64 : qs.length ≤ 64)
    (hTI : TupAt s.heap TI (refs qs)) (R : Rws s.heap qs k 0) (C : Col qs k xs)
    (hQ : ∀ h', ZipAt h' z TI TO (rawInt T) true → TupAt h' TI (refs qs) → Rws h' qs (k + 1) 0 → TupAt h' s.heap.objs.size xs.toArray → h'.objs.size = s.heap.objs.size + 1 →
      (∀ c o, Out z TO qs c → s.heap.get? c = some o → h'.get? c = some o) → Q (.ref s.heap.objs.size) { s with heap := h' }) :
    wpAny (model prog w) A (Builtin.«zip.__next__» ⟨[.ref z], []⟩) (fun fin s' => ∃ v, fin = .done (.ret v) ∧ Q v s') E s := by
  show wpAny _ _ (field (.ref z) 2 >>= _) _ _ _
  refine wpAny_bind (wpAny_field hz rfl (x := .bool false) rfl ?_)
  show wpAny _ _ (field (.ref z) 3 >>= _) _ _ _
  refine wpAny_bind (wpAny_field hz rfl (x := .ref TI) rfl ?_)
  refine wpAny_bind (wpAny_seqItems hTI rfl ?_)
  have ne : (refs qs).isEmpty = false := by
    unfold refs
    cases qs with
    | nil => exact absurd rfl hn
    | cons => rfl
  dsimp only
  rw [ne, if_neg Bool.false_ne_true]
  refine wpAny_bind (wpAny_tupleHeld_zip hz hT fun h1 hz1 sb1 => ?_)
  replace hz1 : ZipAt h1 z TI TO (rawInt T) true := hz1
  replace sb1 : Heap.SameBut z s.heap h1 := sb1
  rw [if_neg Bool.false_ne_true]
  refine wpAny_bind ?_
  rw [← Array.forIn_toList]
  refine loop (l := (refs qs).toList) (fun j => (none, (xs.take j).toArray)) (fun j s' => ∃ h', s' = { s with heap := h' } ∧ ZipAt h' z TI TO (rawInt T) true ∧ TupAt h' TI (refs qs) ∧ Rws h' qs k j ∧ h'.objs.size = s.heap.objs.size ∧ ∀ c o, Out z TO qs c → s.heap.get? c = some o → h'.get? c = some o) ?_ ?_ _ 0 _ rfl (Nat.zero_le _) ?_
  · rintro j v s' hj ⟨h2, rfl, z2, t2, r2, sz2, out2⟩
    obtain ⟨q, hq, rfl⟩ := refs_at hj
    have mq := List.mem_of_getElem? hq
    obtain ⟨x, hx, hxk⟩ := col_at C hq
    obtain ⟨it, ls⟩ := r2 j q hq
    rw [if_neg (Nat.lt_irrefl _)] at it
    refine wpAny_bind (wpAny_holding ?_)
    show wpAny _ _ (Builtin.SmallTypes.nextOf (.ref q.1) >>= _) _ _ _
    refine wpAny_bind (wpAny_nextOf_list_item (s := { s with heap := h2 }) it ls hxk fun h3 it3 sb3 => wpAny_pure ?_)
    replace sb3 : Heap.SameBut q.1 h2 h3 := sb3
    obtain ⟨nz, nT, nI⟩ := S.q1 q mq
    refine wpAny_pure ⟨?_, h3, rfl, ?_, ?_, r2.step S hq it3 sb3, ?_, ?_⟩
    · rw [List.take_add_one, hx]
      simp
    · exact sb3.extBut _ _ (Ne.symm nz) z2
    · exact sb3.extBut _ _ (Ne.symm nI) t2
    · rw [sb3.1, sz2]
    · intro c o hc e
      exact sb3.extBut _ _ (hc.2.2 q mq) (out2 c o hc e)
  · rintro s' ⟨h2, rfl, z2, t2, r2, sz2, out2⟩
    rw [refs_len] at r2
    rw [refs_len, ← C.1, List.take_length]
    dsimp only
    have hs : xs.length ≤ sizeLine := by
      rw [C.1]
      exact Nat.le_trans h64 (by decide)
    refine wpAny_bind (wpAny_newTuple ?_ (by simpa using hs))
    refine wpAny_pure ⟨_, rfl, ?_⟩
    show Q (.ref h2.objs.size) { s with heap := h2.push { cls := .type "tuple", data := .seq xs.toArray.toList.toArray } }
    have tn : TupAt (h2.push { cls := .type "tuple", data := .seq xs.toArray.toList.toArray }) h2.objs.size xs.toArray := Heap.get?_push_size _ rfl
    have s5 : (h2.push { cls := .type "tuple", data := .seq xs.toArray.toList.toArray }).objs.size = h2.objs.size + 1 := Heap.size_push ..
    rw [sz2] at tn s5
    rw [sz2]
    exact hQ _ (Heap.get?_push_of_some _ z2) (Heap.get?_push_of_some _ t2) (r2.done.ext (fun p mp o e => Heap.get?_push_of_some _ e) fun p mp o e => Heap.get?_push_of_some _ e) tn s5 fun c o hc e => Heap.get?_push_of_some _ (out2 c o hc e)
  · refine ⟨h1, rfl, hz1, sb1.extBut _ _ (Ne.symm S.iz) hTI, ?_, sb1.1, fun c o hc e => sb1.extBut _ _ hc.1 e⟩
    exact R.ext (fun p mp o e => sb1.extBut _ _ (S.q1 p mp).1 e) fun p mp o e => sb1.extBut _ _ (S.q2 p mp).1 e
/-- the first row that is at its end -/
def EndsAt (qs : List Rw) (k : Nat) : Prop := ∃ (n : Nat) (q : Rw), qs[n]? = some q ∧ q.2.2[k]? = none ∧ ∀ (i : Nat) (p : Rw), i < n → qs[i]? = some p → ∃ x, p.2.2[k]? = some x
set_option maxHeartbeats 3200000 in
theorem end_held {Q : Fin → Shared → Prop} (hh : A.handled = none) (S : Apart z TI TO qs) (hz : ZipAt s.heap z TI TO (rawInt T) b) (hT : s.heap.get? T = some oT) (hn : qs ≠ [])
    (hTI : TupAt s.heap TI (refs qs)) (R : Rws s.heap qs k 0) (hk : EndsAt qs k)
    (hE : ∀ h' e, (∀ c o, Out z TO qs c → s.heap.get? c = some o → h'.get? c = some o) → (∃ o, h'.get? e = some o ∧ o.cls = .type "StopIteration") → E (.ref e) { s with heap := h' }) :
    wpAny (model prog w) A (Builtin.«zip.__next__» ⟨[.ref z], []⟩) Q E s := by
  obtain ⟨n, qn, hqn, hnone, hsome⟩ := hk
  show wpAny _ _ (field (.ref z) 2 >>= _) _ _ _
  refine wpAny_bind (wpAny_field hz rfl (x := .bool false) rfl ?_)
  show wpAny _ _ (field (.ref z) 3 >>= _) _ _ _
  refine wpAny_bind (wpAny_field hz rfl (x := .ref TI) rfl ?_)
  refine wpAny_bind (wpAny_seqItems hTI rfl ?_)
  have ne : (refs qs).isEmpty = false := by
    unfold refs
    cases qs with
    | nil => exact absurd rfl hn
    | cons => rfl
  dsimp only
  rw [ne, if_neg Bool.false_ne_true]
  refine wpAny_bind (wpAny_tupleHeld_zip hz hT fun h1 hz1 sb1 => ?_)
  replace sb1 : Heap.SameBut z s.heap h1 := sb1
  rw [if_neg Bool.false_ne_true]
  refine wpAny_bind ?_
  rw [← Array.forIn_toList]
  have nl : n < (refs qs).toList.length := by
    rw [refs_len]
    exact (List.getElem?_eq_some_iff.mp hqn).1
  refine loopE (l := (refs qs).toList) (n := n) (fun j => (none, ((qs.take j).map fun p => p.2.2.getD k .none).toArray)) (fun j s' => ∃ h', s' = { s with heap := h' } ∧ Rws h' qs k j ∧ ∀ c o, Out z TO qs c → s.heap.get? c = some o → h'.get? c = some o) nl ?_ ?_ _ 0 _ rfl (Nat.zero_le _) ?_
  · rintro j v s' hjn hj ⟨h2, rfl, r2, out2⟩
    obtain ⟨q, hq, rfl⟩ := refs_at hj
    have mq := List.mem_of_getElem? hq
    obtain ⟨x, hxk⟩ := hsome j q hjn hq
    obtain ⟨it, ls⟩ := r2 j q hq
    rw [if_neg (Nat.lt_irrefl _)] at it
    refine wpAny_bind (wpAny_holding ?_)
    show wpAny _ _ (Builtin.SmallTypes.nextOf (.ref q.1) >>= _) _ _ _
    refine wpAny_bind (wpAny_nextOf_list_item (s := { s with heap := h2 }) it ls hxk fun h3 it3 sb3 => wpAny_pure ?_)
    replace sb3 : Heap.SameBut q.1 h2 h3 := sb3
    refine wpAny_pure ⟨?_, h3, rfl, r2.step S hq it3 sb3, fun c o hc e => sb3.extBut _ _ (hc.2.2 q mq) (out2 c o hc e)⟩
    rw [List.take_add_one, hq]
    simp [hxk]
  · rintro v s' hj ⟨h2, rfl, r2, out2⟩
    obtain ⟨q, hq, rfl⟩ := refs_at hj
    rw [hqn] at hq
    cases hq
    have mq := List.mem_of_getElem? hqn
    obtain ⟨it, ls⟩ := r2 n qn hqn
    rw [if_neg (Nat.lt_irrefl _)] at it
    refine wpAny_bind (wpAny_holding ?_)
    show wpAny _ _ (Builtin.SmallTypes.nextOf (.ref qn.1) >>= _) _ _ _
    refine wpAny_bind (wpAny_nextOf_list_end (s := { s with heap := h2 }) hh it ls hnone fun h3 e ex he => ?_)
    replace ex : Heap.ExtBut qn.1 h2 h3 := ex
    exact hE h3 e (fun c o hc x => ex _ _ (hc.2.2 qn mq) (out2 c o hc x)) he
  · refine ⟨h1, rfl, ?_, fun c o hc e => sb1.extBut _ _ hc.1 e⟩
    exact R.ext (fun p mp o e => sb1.extBut _ _ (S.q1 p mp).1 e) fun p mp o e => sb1.extBut _ _ (S.q2 p mp).1 e
set_option maxHeartbeats 3200000 in
theorem end_free {vs : Array Value} {Q : Fin → Shared → Prop} (hh : A.handled = none) (S : Apart z TI TO qs) (hz : ZipAt s.heap z TI TO .none b) (hn : qs ≠ []) (h64 : qs.length ≤ 64)
    (hTI : TupAt s.heap TI (refs qs)) (hTO : TupAt s.heap TO vs) (hv : vs.size = qs.length) (R : Rws s.heap qs k 0) (hk : EndsAt qs k)
    (hE : ∀ h' e, (∀ c o, Out z TO qs c → s.heap.get? c = some o → h'.get? c = some o) → (∃ o, h'.get? e = some o ∧ o.cls = .type "StopIteration") → E (.ref e) { s with heap := h' }) :
    wpAny (model prog w) A (Builtin.«zip.__next__» ⟨[.ref z], []⟩) Q E s := by
  obtain ⟨n, qn, hqn, hnone, hsome⟩ := hk
  show wpAny _ _ (field (.ref z) 2 >>= _) _ _ _
  refine wpAny_bind (wpAny_field hz rfl (x := .bool false) rfl ?_)
  show wpAny _ _ (field (.ref z) 3 >>= _) _ _ _
  refine wpAny_bind (wpAny_field hz rfl (x := .ref TI) rfl ?_)
  refine wpAny_bind (wpAny_seqItems hTI rfl ?_)
  have ne : (refs qs).isEmpty = false := by
    unfold refs
    cases qs with
    | nil => exact absurd rfl hn
    | cons => rfl
  dsimp only
  rw [ne, if_neg Bool.false_ne_true]
  refine wpAny_bind ?_
  unfold Builtin.SmallTypes.ownedTupleIsFree
  refine wpAny_bind (wpAny_field hz rfl (x := .none) rfl (wpAny_pure ?_))
  rw [if_pos rfl]
  refine wpAny_bind (wpAny_rule (wpAny_bind (wpAny_field hz rfl (x := .ref TO) rfl ?_)))
  refine wpAny_bind (wpAny_setField_rec hz (by simp) fun h1 hz1 sb1 => ?_)
  replace hz1 : ZipAt h1 z TI TO .ellipsis b := hz1
  replace sb1 : Heap.SameBut z s.heap h1 := sb1
  refine wpAny_bind ?_
  have nl : n < (refs qs).toList.zipIdx.length := by
    rw [List.length_zipIdx, refs_len]
    exact (List.getElem?_eq_some_iff.mp hqn).1
  have split : ∀ {j : Nat} {v : Value} {j2 : Nat}, (refs qs).toList.zipIdx[j]? = some (v, j2) → (refs qs).toList[j]? = some v ∧ j2 = j := fun {j v j2} hj => by
    rw [List.getElem?_zipIdx] at hj
    cases g : (refs qs).toList[j]? with
    | none =>
      rw [g] at hj
      cases hj
    | some u =>
      rw [g] at hj
      have := Option.some.inj hj
      simp only [Prod.mk.injEq] at this
      exact ⟨congrArg some this.1, by omega⟩
  refine loopE (l := (refs qs).toList.zipIdx) (n := n) (fun _ => (none, ())) (fun j s' => ∃ h' ys, s' = { s with heap := h' } ∧ ZipAt h' z TI TO .ellipsis b ∧ TupAt h' TO ys ∧ ys.size = qs.length ∧ Rws h' qs k j ∧ ∀ c o, Out z TO qs c → s.heap.get? c = some o → h'.get? c = some o) nl ?_ ?_ _ 0 _ rfl (Nat.zero_le _) ?_
  · rintro j ⟨v, j2⟩ s' hjn hj ⟨h2, ys, rfl, z2, o2, sz, r2, out2⟩
    obtain ⟨e1, e2⟩ := split hj
    subst e2
    obtain ⟨q, hq, rfl⟩ := refs_at e1
    have mq := List.mem_of_getElem? hq
    obtain ⟨x, hxk⟩ := hsome j2 q hjn hq
    obtain ⟨it, ls⟩ := r2 j2 q hq
    rw [if_neg (Nat.lt_irrefl _)] at it
    refine wpAny_bind (wpAny_onRaise ?_)
    show wpAny _ _ (Builtin.SmallTypes.nextOf (.ref q.1) >>= _) _ _ _
    refine wpAny_bind (wpAny_nextOf_list_item (s := { s with heap := h2 }) it ls hxk fun h3 it3 sb3 => wpAny_pure ?_)
    replace sb3 : Heap.SameBut q.1 h2 h3 := sb3
    obtain ⟨nz, nT, nI⟩ := S.q1 q mq
    have o3 : TupAt h3 TO ys := sb3.extBut _ _ (Ne.symm nT) o2
    dsimp only
    refine wpAny_bind (wpAny_seqItems (s := { s with heap := h3 }) o3 rfl ?_)
    dsimp only
    refine wpAny_bind (put (s := { s with heap := h3 }) o3 (by rw [sz]; exact Nat.le_trans h64 (by decide)) fun h4 o4 sb4 => ?_)
    replace sb4 : Heap.SameBut TO h3 h4 := sb4
    refine wpAny_bind (wpAny_letGo (wpAny_pure ⟨rfl, h4, _, rfl, ?_, o4, ?_, ?_, ?_⟩))
    · exact sb4.extBut _ _ S.zT (sb3.extBut _ _ (Ne.symm nz) z2)
    · rw [Array.size_setIfInBounds]
      exact sz
    · refine (r2.step S hq it3 sb3).ext (fun p mp o e => ?_) (fun p mp o e => ?_)
      · exact sb4.extBut _ _ (S.q1 p mp).2.1 e
      · exact sb4.extBut _ _ (S.q2 p mp).2 e
    · intro c o hc e
      exact sb4.extBut _ _ hc.2.1 (sb3.extBut _ _ (hc.2.2 q mq) (out2 c o hc e))
  · rintro ⟨v, j2⟩ s' hj ⟨h2, ys, rfl, z2, o2, sz, r2, out2⟩
    obtain ⟨e1, e2⟩ := split hj
    subst e2
    obtain ⟨q, hq, rfl⟩ := refs_at e1
    rw [hqn] at hq
    cases hq
    have mq := List.mem_of_getElem? hqn
    obtain ⟨it, ls⟩ := r2 j2 qn hqn
    rw [if_neg (Nat.lt_irrefl _)] at it
    refine wpAny_bind (wpAny_onRaise ?_)
    show wpAny _ _ (Builtin.SmallTypes.nextOf (.ref qn.1) >>= _) _ _ _
    refine wpAny_bind (wpAny_nextOf_list_end (s := { s with heap := h2 }) hh it ls hnone fun h3 e ex he => ?_)
    replace ex : Heap.ExtBut qn.1 h2 h3 := ex
    have z3 : ZipAt h3 z TI TO .ellipsis b := ex _ _ (Ne.symm (S.q1 qn mq).1) z2
    obtain ⟨oe, he1, he2⟩ := he
    have nez : e ≠ z := fun w => by
      rw [w, z3] at he1
      have := Option.some.inj he1
      rw [← this] at he2
      exact absurd (show Value.type "zip" = Value.type "StopIteration" from he2) (by decide)
    refine wpAny_setField_rec (s := { s with heap := h3 }) z3 (by simp) fun h4 z4 sb4 => ?_
    replace sb4 : Heap.SameBut z h3 h4 := sb4
    exact hE h4 e (fun c o hc x => sb4.extBut _ _ hc.1 (ex _ _ (hc.2.2 qn mq) (out2 c o hc x))) ⟨oe, sb4.extBut _ _ nez he1, he2⟩
  · refine ⟨h1, vs, rfl, hz1, sb1.extBut _ _ (Ne.symm S.zT) hTO, hv, ?_, fun c o hc e => sb1.extBut _ _ hc.1 e⟩
    exact R.ext (fun p mp o e => sb1.extBut _ _ (S.q1 p mp).1 e) fun p mp o e => sb1.extBut _ _ (S.q2 p mp).1 e
/-! ### next of the zip -/
theorem py_free {xs : List Value} {vs : Array Value} {Q : Option Value → Shared → Prop} (S : Apart z TI TO qs) (hz : ZipAt s.heap z TI TO .none b) (hn : qs ≠ []) (h64 : qs.length ≤ 64)
    (hTI : TupAt s.heap TI (refs qs)) (hTO : TupAt s.heap TO vs) (hv : vs.size = qs.length) (R : Rws s.heap qs k 0) (C : Col qs k xs)
    (hQ : ∀ h', ZipAt h' z TI TO (rawInt s.heap.objs.size) false → TupAt h' TI (refs qs) → Rws h' qs (k + 1) 0 → TupAt h' s.heap.objs.size xs.toArray → h'.objs.size = s.heap.objs.size + 1 →
      (∀ c o, Out z TO qs c → s.heap.get? c = some o → h'.get? c = some o) → Q (some (.ref s.heap.objs.size)) { s with heap := h' }) : wpAny (model prog w) A (pyNext (.ref z)) Q E s := by
  have ty : s.TypeIs (.ref z) "zip" := ⟨_, hz, rfl⟩
  unfold pyNext
  exact wpAny_bind (wpAny_attempt (wpAny_callSpecial?_slot (name := Str.ofString "__next__") ty F.slot_zip_next (wpAny_call_entry F.slot_zip_next ty F.entry_zip_next (next_free S hz hn h64 hTI hTO hv R C fun h' a b c d e f => wpAny_pure (hQ h' a b c d e f)) (F.args_zip_next_1 _))))
theorem py_held {xs : List Value} {Q : Option Value → Shared → Prop} (S : Apart z TI TO qs) (hz : ZipAt s.heap z TI TO (rawInt T) b) (hT : s.heap.get? T = some oT) (hn : qs ≠ []) (h64 : qs.length ≤ 64)
    (hTI : TupAt s.heap TI (refs qs)) (R : Rws s.heap qs k 0) (C : Col qs k xs)
    (hQ : ∀ h', ZipAt h' z TI TO (rawInt T) true → TupAt h' TI (refs qs) → Rws h' qs (k + 1) 0 → TupAt h' s.heap.objs.size xs.toArray → h'.objs.size = s.heap.objs.size + 1 →
      (∀ c o, Out z TO qs c → s.heap.get? c = some o → h'.get? c = some o) → Q (some (.ref s.heap.objs.size)) { s with heap := h' }) : wpAny (model prog w) A (pyNext (.ref z)) Q E s := by
  have ty : s.TypeIs (.ref z) "zip" := ⟨_, hz, rfl⟩
  unfold pyNext
  exact wpAny_bind (wpAny_attempt (wpAny_callSpecial?_slot (name := Str.ofString "__next__") ty F.slot_zip_next (wpAny_call_entry F.slot_zip_next ty F.entry_zip_next (next_held S hz hT hn h64 hTI R C fun h' a b c d e f => wpAny_pure (hQ h' a b c d e f)) (F.args_zip_next_1 _))))
theorem py_end {Q : Option Value → Shared → Prop} (hh : A.handled = none) (S : Apart z TI TO qs) (hz : ZipAt s.heap z TI TO (rawInt T) b) (hT : s.heap.get? T = some oT) (hn : qs ≠ []) (hTI : TupAt s.heap TI (refs qs)) (R : Rws s.heap qs k 0) (hk : EndsAt qs k)
    (hQ : ∀ h', (∀ c o, Out z TO qs c → s.heap.get? c = some o → h'.get? c = some o) → Q none { s with heap := h' }) : wpAny (model prog w) A (pyNext (.ref z)) Q E s := by
  have ty : s.TypeIs (.ref z) "zip" := ⟨_, hz, rfl⟩
  unfold pyNext
  refine wpAny_bind (wpAny_attempt (wpAny_callSpecial?_slot (name := Str.ofString "__next__") ty F.slot_zip_next (wpAny_call_entry F.slot_zip_next ty F.entry_zip_next (end_held hh S hz hT hn hTI R hk fun h' e ke he => ?_) (F.args_zip_next_1 _))))
  obtain ⟨o, ho, hc⟩ := he
  exact wpAny_bind (wpAny_isInstance (T := "StopIteration") (b := true) ⟨o, ho, hc⟩ isSubtype_stop (wpAny_pure (hQ _ ke)))
theorem py_end0 {vs : Array Value} {Q : Option Value → Shared → Prop} (hh : A.handled = none) (S : Apart z TI TO qs) (hz : ZipAt s.heap z TI TO .none b) (hn : qs ≠ []) (h64 : qs.length ≤ 64) (hTI : TupAt s.heap TI (refs qs)) (hTO : TupAt s.heap TO vs) (hv : vs.size = qs.length) (R : Rws s.heap qs k 0) (hk : EndsAt qs k)
    (hQ : ∀ h', (∀ c o, Out z TO qs c → s.heap.get? c = some o → h'.get? c = some o) → Q none { s with heap := h' }) : wpAny (model prog w) A (pyNext (.ref z)) Q E s := by
  have ty : s.TypeIs (.ref z) "zip" := ⟨_, hz, rfl⟩
  unfold pyNext
  refine wpAny_bind (wpAny_attempt (wpAny_callSpecial?_slot (name := Str.ofString "__next__") ty F.slot_zip_next (wpAny_call_entry F.slot_zip_next ty F.entry_zip_next (end_free hh S hz hn h64 hTI hTO hv R hk fun h' e ke he => ?_) (F.args_zip_next_1 _))))
  obtain ⟨o, ho, hc⟩ := he
  exact wpAny_bind (wpAny_isInstance (T := "StopIteration") (b := true) ⟨o, ho, hc⟩ isSubtype_stop (wpAny_pure (hQ _ ke)))
end
end ZN
end
section
set_option Elab.async false
set_option linter.all false
set_option maxRecDepth 100000
namespace ZN
open PySem
/-- while the list at S is filled from the zip: i columns are in it -/
structure LI (g : Heap) (S z TI TO : Addr) (qs : List Rw) (cols : List (List Value)) (h : Heap) (i : Nat) (Ts : List Addr) : Prop where
  ls : ∃ c : Nat, h.get? S = some { cls := .type "list", dict := none, data := .seq (Ts.map Value.ref).toArray c, slots := #[] }
  len : Ts.length = i
  tup : ∀ (j : Nat) (T : Addr) (xs : List Value), Ts[j]? = some T → cols[j]? = some xs → TupAt h T xs.toArray
  new : ∀ T ∈ Ts, g.objs.size ≤ T ∧ T < h.objs.size ∧ T ≠ S
  nd : Ts.Nodup
  zp : (i = 0 ∧ ZipAt h z TI TO .none false ∧ ∃ vs, TupAt h TO vs ∧ vs.size = qs.length) ∨ (0 < i ∧ ∃ (T0 : Addr) (b : Bool), Ts[0]? = some T0 ∧ ZipAt h z TI TO (rawInt T0) b)
  ti : TupAt h TI (refs qs)
  rw : Rws h qs i 0
  out : ∀ a o, Out z TO qs a → a ≠ S → g.get? a = some o → h.get? a = some o
  sz : g.objs.size ≤ h.objs.size
/-- the zip's own cells lie below, the list's cell apart -/
structure Low (g : Heap) (S z TI TO : Addr) (qs : List Rw) : Prop where
  lz : z < g.objs.size
  lI : TI < g.objs.size
  lO : TO < g.objs.size
  q1 : ∀ q ∈ qs, q.1 < g.objs.size
  Sz : S ≠ z
  ST : S ≠ TI
  SO : S ≠ TO
  S1 : ∀ q ∈ qs, S ≠ q.1
  S2 : ∀ q ∈ qs, S ≠ q.2.1
theorem Low.out {g : Heap} {S z TI TO : Addr} {qs : List Rw} (L : Low g S z TI TO qs) {T : Addr} (h : g.objs.size ≤ T) : Out z TO qs T := ⟨Nat.ne_of_gt (Nat.lt_of_lt_of_le L.lz h), Nat.ne_of_gt (Nat.lt_of_lt_of_le L.lO h), fun q mq => Nat.ne_of_gt (Nat.lt_of_lt_of_le (L.q1 q mq) h)⟩
section
variable {prog : Program} {w : World} {A : Around} {R : Result → Shared → Prop} {s0 : Shared} {g : Heap} {S z TI TO : Addr} {qs : List Rw} {cols : List (List Value)}
/-- one more column, and the list that takes it -/
theorem LI.more {h h1 : Heap} {i c : Nat} {Ts : List Addr} {xs : List Value} (Ap : Apart z TI TO qs) (L : Low g S z TI TO qs) (I : LI g S z TI TO qs cols h i Ts) (hx : cols[i]? = some xs) (hS1 : h1.get? S = some { cls := .type "list", dict := none, data := .seq (Ts.map Value.ref).toArray c, slots := #[] })
    (zp : ∃ (T0 : Addr) (b : Bool), (Ts ++ [h.objs.size])[0]? = some T0 ∧ ZipAt h1 z TI TO (rawInt T0) b) (ti : TupAt h1 TI (refs qs)) (rw1 : Rws h1 qs (i + 1) 0) (tn : TupAt h1 h.objs.size xs.toArray) (s1 : h1.objs.size = h.objs.size + 1) (out : ∀ c o, Out z TO qs c → h.get? c = some o → h1.get? c = some o) :
    LI g S z TI TO qs cols (h1.update S (Obj.mapSeq (·.push (.ref h.objs.size)))) (i + 1) (Ts ++ [h.objs.size]) := by
  have Sl : S < h.objs.size := by
    obtain ⟨c0, e0⟩ := I.ls
    exact Heap.lt_size e0
  have oth : ∀ b o, b ≠ S → h1.get? b = some o → (h1.update S (Obj.mapSeq (·.push (.ref h.objs.size)))).get? b = some o := fun b o hb e => (Heap.get?_update_other _ _ (Ne.symm hb)).trans e
  have usz : (h1.update S (Obj.mapSeq (·.push (.ref h.objs.size)))).objs.size = h1.objs.size := (Heap.SameBut.update (h := h1) (a := S) (f := Obj.mapSeq (·.push (.ref h.objs.size)))).1
  refine ⟨?_, by rw [List.length_append, I.len]; rfl, ?_, ?_, ?_, .inr ⟨Nat.succ_pos i, ?_⟩, oth _ _ (Ne.symm L.ST) ti, ?_, ?_, ?_⟩
  · have ea : (Ts.map Value.ref).toArray.push (.ref h.objs.size) = ((Ts ++ [h.objs.size]).map Value.ref).toArray := by simp
    have e := Heap.get?_update_self (Obj.mapSeq (·.push (.ref h.objs.size))) hS1 rfl
    obtain ⟨c2, hc2⟩ : ∃ c2, Obj.mapSeq (·.push (.ref h.objs.size)) { cls := Value.type "list", dict := none, data := .seq (Ts.map Value.ref).toArray c, slots := #[] } = { cls := Value.type "list", dict := none, data := .seq ((Ts.map Value.ref).toArray.push (.ref h.objs.size)) c2, slots := #[] } := ⟨_, rfl⟩
    rw [hc2, ea] at e
    exact ⟨c2, e⟩
  · intro j T ys hT hy
    by_cases hj : j < Ts.length
    · rw [List.getElem?_append_left hj] at hT
      have m := I.new T (List.mem_of_getElem? hT)
      exact oth _ _ m.2.2 (out _ _ (L.out m.1) (I.tup j T ys hT hy))
    · rw [List.getElem?_append_right (by omega)] at hT
      have hj2 : j - Ts.length = 0 := by
        by_cases e : j - Ts.length = 0
        · exact e
        · obtain ⟨n, hn⟩ : ∃ n, j - Ts.length = n + 1 := ⟨j - Ts.length - 1, by omega⟩
          rw [hn] at hT
          cases hT
      rw [hj2] at hT
      have ej : j = i := by
        have := I.len
        omega
      subst ej
      rw [hx] at hy
      cases hy
      have := Option.some.inj hT
      rw [← this]
      exact oth _ _ (Nat.ne_of_gt Sl) tn
  · intro T hT
    rcases List.mem_append.mp hT with hT | hT
    · obtain ⟨n1, n2, n3⟩ := I.new T hT
      exact ⟨n1, Nat.lt_of_lt_of_eq (show T < h.objs.size + 1 by exact Nat.lt_succ_of_lt n2) (usz.trans s1).symm, n3⟩
    · rw [List.mem_singleton.mp hT]
      exact ⟨I.sz, Nat.lt_of_lt_of_eq (Nat.lt_succ_self _) (usz.trans s1).symm, Nat.ne_of_gt Sl⟩
  · refine List.nodup_append.mpr ⟨I.nd, by simp, fun a ha b hb => ?_⟩
    rw [List.mem_singleton.mp hb]
    exact Nat.ne_of_lt (I.new a ha).2.1
  · obtain ⟨T0, b, e1, e2⟩ := zp
    exact ⟨T0, b, e1, oth _ _ (Ne.symm L.Sz) e2⟩
  · exact rw1.ext (fun p mp o e => oth _ _ (Ne.symm (L.S1 p mp)) e) fun p mp o e => oth _ _ (Ne.symm (L.S2 p mp)) e
  · intro a o ha hs e
    exact oth _ _ hs (out _ _ ha (I.out a o ha hs e))
  · rw [usz, s1]
    have := I.sz
    omega
set_option maxHeartbeats 3200000 in
theorem fill_loop (hh : A.handled = none) (Ap : Apart z TI TO qs) (L : Low g S z TI TO qs) (hn : qs ≠ []) (h64 : qs.length ≤ 64) (hm : cols.length ≤ 64) (HC : ∀ (i : Nat) (xs : List Value), cols[i]? = some xs → Col qs i xs) (HE : EndsAt qs cols.length) (res : Value)
    (fin : ∀ h' Ts, LI g S z TI TO qs cols h' cols.length Ts → ∀ h2, (∀ a o, Out z TO qs a → h'.get? a = some o → h2.get? a = some o) → R (.ok (.ret res)) { s0 with heap := h2 }) :
    ∀ (r i : Nat) (h : Heap) (Ts : List Addr), cols.length - i = r → i ≤ cols.length → LI g S z TI TO qs cols h i Ts → codeAny (model prog w) A (.builtin "list.extend.loop" ⟨[.ref S, .ref z, res], []⟩) R { s0 with heap := h } := by
  intro r
  induction r with
  | zero =>
    intro i h Ts hr hi I
    have e : i = cols.length := by omega
    subst e
    refine codeAny_builtin F.entry_extend_loop ?_
    rw [Around.under_plainId F.plain_extend_loop _]
    show wpAny _ A.in1 (pyNext (.ref z) >>= _) _ _ _
    rcases I.zp with ⟨e, z0, vs, o0, v0⟩ | ⟨pos, T0, b, e1, e2⟩
    · exact wpAny_bind (py_end0 (s := { s0 with heap := h }) (A := A.in1) hh Ap z0 hn h64 I.ti o0 v0 I.rw HE fun h2 out => wpAny_pure (fin h Ts I h2 out))
    have hx0 : ∃ xs, cols[0]? = some xs := ⟨_, List.getElem?_eq_getElem (by omega)⟩
    obtain ⟨xs0, hx0⟩ := hx0
    refine wpAny_bind (py_end (s := { s0 with heap := h }) (A := A.in1) hh Ap e2 (I.tup 0 T0 xs0 e1 hx0) hn I.ti I.rw HE fun h2 out => ?_)
    exact wpAny_pure (fin h Ts I h2 out)
  | succ r ih =>
    intro i h Ts hr hi I
    have hlt : i < cols.length := by omega
    obtain ⟨xs, hx⟩ : ∃ xs, cols[i]? = some xs := ⟨_, List.getElem?_eq_getElem hlt⟩
    refine codeAny_builtin F.entry_extend_loop ?_
    rw [Around.under_plainId F.plain_extend_loop _]
    show wpAny _ A.in1 (pyNext (.ref z) >>= _) _ _ _
    have SO : Out z TO qs S := ⟨L.Sz, L.SO, L.S1⟩
    have go : ∀ h1, (∃ (T0 : Addr) (b : Bool), (Ts ++ [h.objs.size])[0]? = some T0 ∧ ZipAt h1 z TI TO (rawInt T0) b) → TupAt h1 TI (refs qs) → Rws h1 qs (i + 1) 0 → TupAt h1 h.objs.size xs.toArray → h1.objs.size = h.objs.size + 1 → (∀ c o, Out z TO qs c → h.get? c = some o → h1.get? c = some o) →
        wpAny (model prog w) A.in1 (updateSeq S (·.push (.ref h.objs.size)) >>= fun _ => again (.builtin "list.extend.loop" ⟨[.ref S, .ref z, res], []⟩)) (fun fin s' => match fin with | .done f => R (.ok f) s' | .again c' => c'.quiet = true ∧ codeAny (model prog w) A c' R s') (fun e s' => R (.error e) s') { s0 with heap := h1 } := by
      intro h1 zp ti rw1 tn s1 out
      obtain ⟨c0, hS0⟩ := I.ls
      have hS1 := out _ _ SO hS0
      refine wpAny_bind (wpAny_updateSeq (s := { s0 with heap := h1 }) hS1 rfl (wpAny_pure ⟨plainId_quiet F.plain_extend_loop _, ?_⟩) ?_ ?_)
      · exact ih (i + 1) _ _ (by omega) hlt (I.more Ap L hx hS1 zp ti rw1 tn s1 out)
      · have := I.len
        simp only [List.size_toArray, List.length_map]
        exact Nat.le_trans (show Ts.length ≤ 64 by omega) (by decide)
      · have := I.len
        simp only [List.size_toArray, List.length_map, Array.size_push]
        exact Nat.le_trans (show Ts.length + 1 ≤ 65 by omega) (by decide)
    rcases I.zp with ⟨e, z0, vs, o0, v0⟩ | ⟨_, T0, b, e1, e2⟩
    · refine wpAny_bind (py_free (s := { s0 with heap := h }) (A := A.in1) Ap z0 hn h64 I.ti o0 v0 I.rw (HC i xs hx) fun h1 a1 a2 a3 a4 a5 a6 => ?_)
      refine go h1 ⟨h.objs.size, false, ?_, a1⟩ a2 a3 a4 a5 a6
      have : Ts = [] := List.length_eq_zero_iff.mp (I.len.trans e)
      rw [this]
      rfl
    · have hx0 : ∃ xs, cols[0]? = some xs := ⟨_, List.getElem?_eq_getElem (by omega)⟩
      obtain ⟨xs0, hx0⟩ := hx0
      refine wpAny_bind (py_held (s := { s0 with heap := h }) (A := A.in1) Ap e2 (I.tup 0 T0 xs0 e1 hx0) hn h64 I.ti I.rw (HC i xs hx) fun h1 a1 a2 a3 a4 a5 a6 => ?_)
      refine go h1 ⟨T0, true, ?_, a1⟩ a2 a3 a4 a5 a6
      rw [List.getElem?_append_left (List.getElem?_eq_some_iff.mp e1).1]
      exact e1
end
end ZN
end
section
set_option Elab.async false
set_option linter.all false
set_option maxRecDepth 100000
namespace ZN
open PySem
theorem tc_zip {us : List Value} (h1 : us ≠ []) (h8 : us.length ≤ 8) : checkTypeCall "zip" ⟨us, []⟩ = pure () := by
  match us, h1, h8 with
  | [_], _, _ => kernel_rfl
  | [_, _], _, _ => kernel_rfl
  | [_, _, _], _, _ => kernel_rfl
  | [_, _, _, _], _, _ => kernel_rfl
  | [_, _, _, _, _], _, _ => kernel_rfl
  | [_, _, _, _, _, _], _, _ => kernel_rfl
  | [_, _, _, _, _, _, _], _, _ => kernel_rfl
  | [_, _, _, _, _, _, _, _], _, _ => kernel_rfl
  | _ :: _ :: _ :: _ :: _ :: _ :: _ :: _ :: _ :: _, _, h => simp at h
theorem tn_zip {us : List Value} (h1 : us ≠ []) (h8 : us.length ≤ 8) : checkBuiltinCall "zip.__new__" ⟨.type "zip" :: us, []⟩ = pure () := by
  match us, h1, h8 with
  | [_], _, _ => kernel_rfl
  | [_, _], _, _ => kernel_rfl
  | [_, _, _], _, _ => kernel_rfl
  | [_, _, _, _], _, _ => kernel_rfl
  | [_, _, _, _, _], _, _ => kernel_rfl
  | [_, _, _, _, _, _], _, _ => kernel_rfl
  | [_, _, _, _, _, _, _], _, _ => kernel_rfl
  | [_, _, _, _, _, _, _, _], _, _ => kernel_rfl
  | _ :: _ :: _ :: _ :: _ :: _ :: _ :: _ :: _ :: _, _, h => simp at h
theorem ti_zip {obj : Value} {us : List Value} (h1 : us ≠ []) (h8 : us.length ≤ 8) : argsOk "object.__init__" ⟨obj :: us, []⟩ := by
  unfold argsOk
  match us, h1, h8 with
  | [_], _, _ => kernel_rfl
  | [_, _], _, _ => kernel_rfl
  | [_, _, _], _, _ => kernel_rfl
  | [_, _, _, _], _, _ => kernel_rfl
  | [_, _, _, _, _], _, _ => kernel_rfl
  | [_, _, _, _, _, _], _, _ => kernel_rfl
  | [_, _, _, _, _, _, _], _, _ => kernel_rfl
  | [_, _, _, _, _, _, _, _], _, _ => kernel_rfl
  | _ :: _ :: _ :: _ :: _ :: _ :: _ :: _ :: _ :: _, _, h => simp at h
section
variable {prog : Program} {w : World} {A : Around} {E : Value → Shared → Prop} {s : Shared}
def made (n0 n : Nat) : Array Value := ((List.range n).map fun i => Value.ref (n0 + i)).toArray
set_option maxHeartbeats 1600000 in
theorem iters {ls : List Addr} {Q : List Value → Shared → Prop} (hl : ∀ l ∈ ls, ∃ items, s.heap.IsList l items)
    (hQ : ∀ h', h'.objs.size = s.heap.objs.size + ls.length → (∀ (i : Nat) (l : Addr), ls[i]? = some l → h'.IsListIter (s.heap.objs.size + i) l 0) → (∀ c o, s.heap.get? c = some o → h'.get? c = some o) → Q (made s.heap.objs.size ls.length).toList { s with heap := h' }) :
    wpAny (model prog w) A (Builtin.SmallTypes.iterAll (ls.map Value.ref)) Q E s := by
  unfold Builtin.SmallTypes.iterAll
  refine wpAny_bind ?_
  refine loop (l := ls.map Value.ref) (fun j => made s.heap.objs.size j) (fun j s' => ∃ h', s' = { s with heap := h' } ∧ h'.objs.size = s.heap.objs.size + j ∧ (∀ (i : Nat) (l : Addr), i < j → ls[i]? = some l → h'.IsListIter (s.heap.objs.size + i) l 0) ∧ ∀ c o, s.heap.get? c = some o → h'.get? c = some o) ?_ ?_ _ 0 _ rfl (Nat.zero_le _) ⟨s.heap, rfl, rfl, fun i l h => absurd h (Nat.not_lt_zero i), fun c o e => e⟩
  · rintro j v s' hj ⟨h1, rfl, z1, i1, k1⟩
    rw [List.getElem?_map] at hj
    obtain ⟨l, hlj, rfl⟩ := Option.map_eq_some_iff.mp hj
    obtain ⟨items, ⟨ol, hol, hc, hd⟩⟩ := hl l (List.mem_of_getElem? hlj)
    refine wpAny_bind (wpAny_holding (wpAny_pyIter_list (s := { s with heap := h1 }) ⟨ol, k1 _ _ hol, hc, hd⟩ ?_))
    refine wpAny_pure ⟨?_, _, rfl, ?_, ?_, ?_⟩
    · show ForInStep.yield ((made s.heap.objs.size j).push (.ref h1.objs.size)) = .yield (made s.heap.objs.size (j + 1))
      rw [z1]
      unfold made
      rw [List.range_succ, List.map_append]
      simp
    · show (h1.push _).objs.size = _
      rw [Heap.size_push, z1]
      omega
    · intro i l2 hi hl2
      by_cases e : i = j
      · subst e
        rw [hlj] at hl2
        cases hl2
        rw [← z1]
        exact ⟨_, Heap.get?_push_size _ rfl, rfl, rfl⟩
      · obtain ⟨o, a1, a2⟩ := i1 i l2 (by omega) hl2
        exact ⟨o, Heap.get?_push_of_some _ a1, a2⟩
    · intro c o e
      exact Heap.get?_push_of_some _ (k1 c o e)
  · rintro s' ⟨h1, rfl, z1, i1, k1⟩
    rw [List.length_map] at z1 i1 ⊢
    refine wpAny_pure (hQ h1 z1 (fun i l h => i1 i l (List.getElem?_eq_some_iff.mp h).1 h) k1)
set_option maxHeartbeats 1600000 in
theorem new_zip {ls : List Addr} (h8 : ls.length ≤ 8) : Meets (Builtin.«zip.__new__» ⟨.type "zip" :: ls.map Value.ref, []⟩) (fun _ R s => (∀ l ∈ ls, ∃ items, s.heap.IsList l items) ∧
      ∀ h', ZipAt h' (s.heap.objs.size + ls.length + 2) (s.heap.objs.size + ls.length) (s.heap.objs.size + ls.length + 1) .none false → TupAt h' (s.heap.objs.size + ls.length) (made s.heap.objs.size ls.length) → (∃ vs, TupAt h' (s.heap.objs.size + ls.length + 1) vs ∧ vs.size = ls.length) →
        (∀ (i : Nat) (l : Addr), ls[i]? = some l → h'.IsListIter (s.heap.objs.size + i) l 0) → h'.objs.size = s.heap.objs.size + ls.length + 3 → (∀ c o, s.heap.get? c = some o → h'.get? c = some o) →
        R (.ok (.ret (.ref (s.heap.objs.size + ls.length + 2)))) { s with heap := h' }) :=
  .of_wp fun prog w A R s h => by
    obtain ⟨hl, h⟩ := h
    have hsub := sub_zip
    unfold Builtin.«zip.__new__»
    generalize hI : Builtin.SmallTypes.iterAll = IA
    wp_walk
    subst hI
    refine iters hl fun h1 z1 i1 k1 => ?_
    have ml : (made s.heap.objs.size ls.length).toList.length = ls.length := by
      unfold made
      simp
    have b1 : (made s.heap.objs.size ls.length).toList.length ≤ sizeLine := by
      rw [ml]
      exact Nat.le_trans h8 (by decide)
    refine wpAny_bind (wpAny_newTuple ?_ b1)
    refine wpAny_bind (wpAny_newTuple ?_ (by rw [List.length_map]; exact b1))
    refine wpAny_bind ?_
    unfold Builtin.SmallTypes.newRecord
    refine wpAny_newObj_type ?_ (by unfold Builtin.SmallTypes.ownedTupleFields; first | size_fits | (simp [sizeOk]; done) | (unfold sizeOk; simp))
    refine wpAny_pure ⟨_, rfl, ?_⟩
    have e2 : (h1.push { cls := .type "tuple", data := .seq (made s.heap.objs.size ls.length).toList.toArray }).objs.size = s.heap.objs.size + ls.length + 1 := by rw [Heap.size_push, z1]
    have t2 : (h1.push { cls := .type "tuple", data := .seq (made s.heap.objs.size ls.length).toList.toArray }).get? h1.objs.size = some { cls := .type "tuple", data := .seq (made s.heap.objs.size ls.length) } := Heap.get?_push_size _ rfl
    rw [z1] at t2
    have k2 : ∀ c o, s.heap.get? c = some o → (h1.push { cls := .type "tuple", data := .seq (made s.heap.objs.size ls.length).toList.toArray }).get? c = some o := fun c o e => Heap.get?_push_of_some _ (k1 c o e)
    have i2 : ∀ (i : Nat) (l : Addr), ls[i]? = some l → (h1.push { cls := .type "tuple", data := .seq (made s.heap.objs.size ls.length).toList.toArray }).IsListIter (s.heap.objs.size + i) l 0 := fun i l e => by
      obtain ⟨o, a1, a2⟩ := i1 i l e
      exact ⟨o, Heap.get?_push_of_some _ a1, a2⟩
    show R (.ok (.ret (.ref ((h1.push { cls := .type "tuple", data := .seq (made s.heap.objs.size ls.length).toList.toArray }).push { cls := .type "tuple", data := .seq ((made s.heap.objs.size ls.length).toList.map fun _ => Value.none).toArray }).objs.size))) { s with heap := ((h1.push { cls := .type "tuple", data := .seq (made s.heap.objs.size ls.length).toList.toArray }).push { cls := .type "tuple", data := .seq ((made s.heap.objs.size ls.length).toList.map fun _ => Value.none).toArray }).push { cls := .type "zip", data := .fields #[.none, .bool false, .bool false, .ref h1.objs.size, .ref (h1.push { cls := .type "tuple", data := .seq (made s.heap.objs.size ls.length).toList.toArray }).objs.size] } }
    rw [z1]
    generalize h1.push { cls := .type "tuple", data := .seq (made s.heap.objs.size ls.length).toList.toArray } = h2 at *
    have e3 : (h2.push { cls := .type "tuple", data := .seq ((made s.heap.objs.size ls.length).toList.map fun _ => Value.none).toArray }).objs.size = s.heap.objs.size + ls.length + 2 := by rw [Heap.size_push, e2]
    have t3 : (h2.push { cls := .type "tuple", data := .seq ((made s.heap.objs.size ls.length).toList.map fun _ => Value.none).toArray }).get? h2.objs.size = some { cls := .type "tuple", data := .seq ((made s.heap.objs.size ls.length).toList.map fun _ => Value.none).toArray } := Heap.get?_push_size _ rfl
    rw [e2] at t3
    rw [e2]
    have k3 : ∀ c o, h2.get? c = some o → (h2.push { cls := .type "tuple", data := .seq ((made s.heap.objs.size ls.length).toList.map fun _ => Value.none).toArray }).get? c = some o := fun c o e => Heap.get?_push_of_some _ e
    generalize h2.push { cls := .type "tuple", data := .seq ((made s.heap.objs.size ls.length).toList.map fun _ => Value.none).toArray } = h3 at *
    have z4 : (h3.push { cls := .type "zip", data := .fields #[.none, .bool false, .bool false, .ref (s.heap.objs.size + ls.length), .ref (s.heap.objs.size + ls.length + 1)] }).get? h3.objs.size = some { cls := .type "zip", data := .fields #[.none, .bool false, .bool false, .ref (s.heap.objs.size + ls.length), .ref (s.heap.objs.size + ls.length + 1)] } := Heap.get?_push_size _ rfl
    rw [e3] at z4
    rw [e3]
    refine h _ z4 (Heap.get?_push_of_some _ (k3 _ _ t2)) ⟨_, Heap.get?_push_of_some _ t3, ?_⟩ (fun i l e => ?_) (by rw [Heap.size_push, e3]) fun c o e => Heap.get?_push_of_some _ (k3 _ _ (k2 c o e))
    · rw [List.size_toArray, List.length_map, ml]
    · obtain ⟨o, a1, a2⟩ := i2 i l e
      exact ⟨o, Heap.get?_push_of_some _ (k3 _ _ a1), a2⟩
/-- zip(*rows) -/
theorem call_zip {ls : List Addr} {Q : Value → Shared → Prop} (hn : ls ≠ []) (h8 : ls.length ≤ 8) (hl : ∀ l ∈ ls, ∃ items, s.heap.IsList l items)
    (h : ∀ h', ZipAt h' (s.heap.objs.size + ls.length + 2) (s.heap.objs.size + ls.length) (s.heap.objs.size + ls.length + 1) .none false → TupAt h' (s.heap.objs.size + ls.length) (made s.heap.objs.size ls.length) → (∃ vs, TupAt h' (s.heap.objs.size + ls.length + 1) vs ∧ vs.size = ls.length) →
        (∀ (i : Nat) (l : Addr), ls[i]? = some l → h'.IsListIter (s.heap.objs.size + i) l 0) → h'.objs.size = s.heap.objs.size + ls.length + 3 → (∀ c o, s.heap.get? c = some o → h'.get? c = some o) →
        Q (.ref (s.heap.objs.size + ls.length + 2)) { s with heap := h' }) : wpAny (model prog w) A (call (.type "zip") (ls.map Value.ref)) Q E s := by
  have h1 : ls.map Value.ref ≠ [] := by simpa using hn
  have h2 : (ls.map Value.ref).length ≤ 8 := by rw [List.length_map]; exact h8
  refine callType_new F.called_zip (by decide) (tc_zip h1 h2) (tn_zip h1 h2) (fun obj => ti_zip h1 h2) F.entry_zip_new (new_zip h8) ⟨hl, fun h' a b c d e f => ?_⟩
  exact ⟨⟨_, a, rfl⟩, h h' a b c d e f⟩
end
end ZN
end
section
set_option Elab.async false
set_option linter.all false
set_option maxRecDepth 100000
namespace ZN
open PySem
theorem zip_no_len : typeLookup (.type "zip") "__len__" = pure none := by rw [typeLookup_type, builtinLookup_eq_fast]; kernel_rfl
theorem zip_no_hint : typeLookup (.type "zip") "__length_hint__" = pure none := by rw [typeLookup_type, builtinLookup_eq_fast]; kernel_rfl
/-- what is asked of the rows and the columns -/
structure Tab (qs : List Rw) (cols : List (List Value)) : Prop where
  n1 : qs ≠ []
  n64 : qs.length ≤ 64
  m64 : cols.length ≤ 64
  col : ∀ (i : Nat) (xs : List Value), cols[i]? = some xs → Col qs i xs
  fin : EndsAt qs cols.length
section
variable {prog : Program} {w : World} {A : Around} {R : Result → Shared → Prop} {s0 : Shared} {g : Heap} {S z TI TO : Addr} {qs : List Rw} {cols : List (List Value)}
set_option maxHeartbeats 3200000 in
theorem extend (hh : A.handled = none) (Ap : Apart z TI TO qs) (L : Low g S z TI TO qs) (t : Tab qs cols) {h : Heap} {c0 : Nat} (hS : h.get? S = some { cls := .type "list", data := .seq #[] c0 }) (hz : ZipAt h z TI TO .none false) (hO : ∃ vs, TupAt h TO vs ∧ vs.size = qs.length) (hI : TupAt h TI (refs qs)) (hR : Rws h qs 0 0)
    (out : ∀ a o, Out z TO qs a → a ≠ S → g.get? a = some o → h.get? a = some o) (sz : g.objs.size ≤ h.objs.size)
    (fin : ∀ h' Ts, LI g S z TI TO qs cols h' cols.length Ts → ∀ h2, (∀ a o, Out z TO qs a → h'.get? a = some o → h2.get? a = some o) → R (.ok (.ret .none)) { s0 with heap := h2 }) :
    wpAny (model prog w) A.in1 (Builtin.List.listExtendWith (.ref S) (.ref z) .none) (fun fin s' => match fin with | .done f => R (.ok f) s' | .again c' => c'.quiet = true ∧ codeAny (model prog w) A c' R s') (fun e s' => R (.error e) s') { s0 with heap := h } := by
  have ty : Shared.TypeIs { s0 with heap := h } (.ref z) "zip" := ⟨_, hz, rfl⟩
  unfold Builtin.List.listExtendWith
  refine wpAny_bind (wpAny_typeOf ty ?_)
  have d1 : Builtin.List.listSameRef (.ref S) (.ref z) = false := by simp [Builtin.List.listSameRef, L.Sz]
  have d2 : (Value.type "zip" == Value.type "list") = false := by decide
  have d3 : (Value.type "zip" == Value.type "tuple") = false := by decide
  simp only [d1, d2, d3, Bool.or_false, Bool.false_eq_true, if_false]
  refine wpAny_bind (wpAny_pyIter_zip (s := { s0 with heap := h }) hz ?_)
  refine wpAny_bind (wpAny_holding ?_)
  unfold Builtin.List.listLengthHint
  refine wpAny_bind (wpAny_specialOf ty zip_no_len ?_)
  show wpAny _ A.in1 (specialOf (Value.ref z) (Str.ofString "__length_hint__") >>= _) _ _ _
  refine wpAny_bind (wpAny_specialOf ty zip_no_hint (wpAny_pure ?_))
  show wpAny _ A.in1 (rule "list.extend.makes-room" >>= fun _ => Builtin.List.listTouch (.ref S) >>= fun _ => again (.builtin "list.extend.loop" ⟨[.ref S, .ref z, .none], []⟩)) _ _ _
  refine wpAny_bind (wpAny_rule (wpAny_bind ?_))
  show wpAny _ A.in1 (updateSeq S (·.push .none) >>= fun _ => updateSeq S (·.pop)) _ _ _
  refine wpAny_bind (wpAny_updateSeq (s := { s0 with heap := h }) hS rfl ?_)
  have hS2 := Heap.get?_update_self (Obj.mapSeq (·.push Value.none)) hS rfl
  refine wpAny_updateSeq (hz := by seq_fits) hS2 rfl ?_
  have hS3 := Heap.get?_update_self (Obj.mapSeq (·.pop)) hS2 rfl
  have oth : ∀ b o, b ≠ S → h.get? b = some o → ((h.update S (Obj.mapSeq (·.push Value.none))).update S (Obj.mapSeq (·.pop))).get? b = some o := fun b o hb e => (Heap.get?_update_other _ _ (Ne.symm hb)).trans ((Heap.get?_update_other _ _ (Ne.symm hb)).trans e)
  have usz : ((h.update S (Obj.mapSeq (·.push Value.none))).update S (Obj.mapSeq (·.pop))).objs.size = h.objs.size := ((Heap.SameBut.update (h := h.update S (Obj.mapSeq (·.push Value.none))) (a := S) (f := Obj.mapSeq (·.pop))).1).trans (Heap.SameBut.update (h := h) (a := S) (f := Obj.mapSeq (·.push Value.none))).1
  refine wpAny_pure ⟨plainId_quiet F.plain_extend_loop _, ?_⟩
  refine fill_loop hh Ap L t.n1 t.n64 t.m64 t.col t.fin .none fin cols.length 0 _ [] rfl (Nat.zero_le _) ?_
  obtain ⟨vs, o1, o2⟩ := hO
  refine ⟨⟨_, hS3⟩, rfl, fun j T xs hT => (by cases hT), fun T hT => (by cases hT), List.nodup_nil, .inl ⟨rfl, oth _ _ (Ne.symm L.Sz) hz, vs, oth _ _ (Ne.symm L.SO) o1, o2⟩, oth _ _ (Ne.symm L.ST) hI, ?_, fun a o ha hs e => oth _ _ hs (out a o ha hs e), by rw [usz]; exact sz⟩
  exact hR.ext (fun p mp o e => oth _ _ (Ne.symm (L.S1 p mp)) e) fun p mp o e => oth _ _ (Ne.symm (L.S2 p mp)) e
end
section
variable {prog : Program} {w : World} {A : Around} {E : Value → Shared → Prop} {s : Shared} {z TI TO : Addr} {qs : List Rw} {cols : List (List Value)}
set_option maxHeartbeats 3200000 in
theorem call_list {Q : Value → Shared → Prop} (hh : A.handled = none) (Ap : Apart z TI TO qs) (t : Tab qs cols) (hz : ZipAt s.heap z TI TO .none false) (hO : ∃ vs, TupAt s.heap TO vs ∧ vs.size = qs.length) (hI : TupAt s.heap TI (refs qs)) (hR : Rws s.heap qs 0 0)
    (hQ : ∀ (h' : Heap) (Ts : List Addr) (c : Nat), h'.get? s.heap.objs.size = some { cls := .type "list", dict := none, data := .seq (Ts.map Value.ref).toArray c, slots := #[] } → Ts.length = cols.length → (∀ (j : Nat) (T : Addr) (xs : List Value), Ts[j]? = some T → cols[j]? = some xs → TupAt h' T xs.toArray) →
      (∀ T ∈ Ts, s.heap.objs.size < T) → Ts.Nodup → (∀ a o, Out z TO qs a → s.heap.get? a = some o → h'.get? a = some o) → Q (.ref s.heap.objs.size) { s with heap := h' }) :
    wpAny (model prog w) A (call (.type "list") [.ref z]) Q E s := by
  have lt : ∀ {a o}, s.heap.get? a = some o → a < s.heap.objs.size := fun e => Heap.lt_size e
  obtain ⟨vs, o1, o2⟩ := hO
  have q1 : ∀ q ∈ qs, q.1 < s.heap.objs.size ∧ q.2.1 < s.heap.objs.size := fun q mq => by
    obtain ⟨i, hi, e⟩ := List.getElem_of_mem mq
    obtain ⟨⟨o, a1, _⟩, ⟨ol, b1, _⟩⟩ := hR i q (by rw [List.getElem?_eq_getElem hi, e])
    exact ⟨lt a1, lt b1⟩
  have L : Low s.heap s.heap.objs.size z TI TO qs := ⟨lt hz, lt hI, lt o1, fun q mq => (q1 q mq).1, Nat.ne_of_gt (lt hz), Nat.ne_of_gt (lt hI), Nat.ne_of_gt (lt o1), fun q mq => Nat.ne_of_gt (q1 q mq).1, fun q mq => Nat.ne_of_gt (q1 q mq).2⟩
  refine callType_codes (Q₁ := fun obj s₁ => obj = .ref s.heap.objs.size ∧ s₁ = { s with heap := s.heap.push { cls := .type "list", data := .seq #[] } }) F.called_list (F.typeCall_list_1 _) F.entry_list_init (code_list_new _ ⟨rfl, rfl⟩) fun obj s1 e1 => ?_
  obtain ⟨rfl, rfl⟩ := e1
  have hS : (s.heap.push { cls := .type "list", data := .seq #[] }).get? s.heap.objs.size = some { cls := .type "list", data := .seq #[] } := Heap.get?_push_size _ rfl
  have up : ∀ b o, s.heap.get? b = some o → (s.heap.push { cls := .type "list", data := .seq #[] }).get? b = some o := fun b o e => Heap.get?_push_of_some _ e
  have s1 : s.heap.objs.size ≤ (s.heap.push { cls := .type "list", data := .seq #[] }).objs.size := by
    rw [Heap.size_push]
    exact Nat.le_succ _
  refine ⟨⟨_, hS, rfl⟩, F.args_list_init_2 _ _, ?_⟩
  generalize s.heap.push { cls := .type "list", data := .seq #[] } = h1 at *
  show wpAny _ A.in1.in1 (do let old ← Builtin.List.listItems (.ref s.heap.objs.size); Builtin.List.listUpdate (.ref s.heap.objs.size) (fun _ => #[]); letGo old.toList.reverse; Builtin.List.listExtendWith (.ref s.heap.objs.size) (.ref z) .none) _ _ _
  refine wpAny_bind ?_
  unfold Builtin.List.listItems
  refine wpAny_bind (wpAny_seqItems (s := { s with heap := h1 }) hS rfl (wpAny_pure ?_))
  show wpAny _ A.in1.in1 (updateSeq s.heap.objs.size (fun _ => #[]) >>= fun _ => letGo (#[] : Array Value).toList.reverse >>= fun _ => Builtin.List.listExtendWith (.ref s.heap.objs.size) (.ref z) .none) _ _ _
  refine wpAny_bind (wpAny_updateSeq (s := { s with heap := h1 }) hS rfl ?_)
  have hS2 := Heap.get?_update_self (Obj.mapSeq (fun _ => (#[] : Array Value))) hS rfl
  have oth : ∀ b o, b ≠ s.heap.objs.size → h1.get? b = some o → (h1.update s.heap.objs.size (Obj.mapSeq (fun _ => (#[] : Array Value)))).get? b = some o := fun b o hb e => (Heap.get?_update_other _ _ (Ne.symm hb)).trans e
  have usz : (h1.update s.heap.objs.size (Obj.mapSeq (fun _ => (#[] : Array Value)))).objs.size = h1.objs.size := (Heap.SameBut.update (h := h1) (a := s.heap.objs.size) (f := Obj.mapSeq (fun _ => (#[] : Array Value)))).1
  refine wpAny_bind (wpAny_letGo ?_)
  refine extend (A := A.in1) (s0 := s) hh Ap L t hS2 (oth _ _ (Ne.symm L.Sz) (up _ _ hz)) ⟨vs, oth _ _ (Ne.symm L.SO) (up _ _ o1), o2⟩ (oth _ _ (Ne.symm L.ST) (up _ _ hI)) ?_ (fun a o ha hs e => oth _ _ hs (up _ _ e)) (by rw [usz]; exact s1) fun h' Ts li h2 k2 => ?_
  · exact hR.ext (fun p mp o e => oth _ _ (Ne.symm (L.S1 p mp)) (up _ _ e)) fun p mp o e => oth _ _ (Ne.symm (L.S2 p mp)) (up _ _ e)
  · have SO : Out z TO qs s.heap.objs.size := ⟨L.Sz, L.SO, L.S1⟩
    obtain ⟨c, e⟩ := li.ls
    refine ⟨rfl, hQ h2 Ts c (k2 _ _ SO e) li.len (fun j T xs hT hx => ?_) (fun T hT => ?_) li.nd fun a o ha e => ?_⟩
    · exact k2 _ _ (L.out (li.new T (List.mem_of_getElem? hT)).1) (li.tup j T xs hT hx)
    · obtain ⟨n1, _, n3⟩ := li.new T hT
      exact Nat.lt_of_le_of_ne n1 (Ne.symm n3)
    · have hs : a ≠ s.heap.objs.size := Nat.ne_of_lt (lt e)
      exact k2 _ _ ha (li.out a o ha hs e)
end
end ZN
end
section
set_option Elab.async false
set_option linter.all false
set_option maxRecDepth 100000
/-! list(zip(*rows)) -/
namespace ZN
open PySem PySem.Spec PyProof.Rows L2
/-! ### several new objects, tracked at once -/
section
variable {X : Cx} {pins : List (Addr × Obj)} {σ : L2.St} {H H2 : Hp} {s : Shared} {h' : Heap}
theorem un_all {fs ex : List Addr} {g : Heap} (k : ∀ b u, g.get? b = some u → h'.get? b = some u) (sm : ∀ b o, H b = some o → H2 b = some o) (hi : ∀ b o, H b = none → H2 b = some o → g.objs.size ≤ b) : Un fs ex H H2 g h' where
  keep := fun b u q _ _ _ => k b u q
  slot := fun b u q _ _ _ => ⟨u.slots, k b u q⟩
  free := fun b u q n _ => by
    cases e : H2 b with
    | none => rfl
    | some o => exact absurd (hi b o n e) (Nat.not_le_of_lt (Heap.lt_size q))
  there := fun b u q _ => ⟨u, k b u q⟩
  tups := fun b xs q => sm _ _ q
  frzs := fun b u xs q => sm _ _ q
  tbls := fun b ps q => ⟨#[], by rw [sm _ _ q]; simp⟩
theorem hok_all {P : Program} {w : World} {g : Heap} (x : HOk P w H g) (k : ∀ b u, g.get? b = some u → h'.get? b = some u) (sm : ∀ b o, H b = some o → H2 b = some o) (new : ∀ b o, H b = none → H2 b = some o → ObjOk P w H2 h' b o) : HOk P w H2 h' := fun b o e => by
  cases q : H b with
  | none => exact new b o q e
  | some u =>
    have : u = o := by
      have := sm _ _ q
      rw [e] at this
      exact (Option.some.inj this).symm
    subst this
    exact (x b u q).stay (fun c v _ z => k c v z) (fun c z => sm _ _ z) fun c xs z => sm _ _ z
theorem laidAll (I : Inv X pins σ H s) (k : ∀ b u, s.heap.get? b = some u → h'.get? b = some u) (sm : ∀ b o, H b = some o → H2 b = some o) (hi : ∀ b o, H b = none → H2 b = some o → s.heap.objs.size ≤ b) (new : ∀ b o, H b = none → H2 b = some o → ObjOk X.prog X.w H2 h' b o) : Inv X pins σ H2 { s with heap := h' } :=
  I.call (ch := []) (g' := s.gens) (t' := s.toks) (d' := s.drawn) (un_all k sm hi) (hok_all I.hok k sm new) I.bare fun _ z => nomatch z
end
/-! ### lists of rows -/
def mkq : Nat → List Addr → List (Array Value) → List Rw
  | n, l :: ls, a :: as => (n, l, a) :: mkq (n + 1) ls as
  | _, _, _ => []
theorem mkq_len : ∀ (n : Nat) (ls : List Addr) (as : List (Array Value)), as.length = ls.length → (mkq n ls as).length = ls.length
  | _, [], [], _ => rfl
  | n, l :: ls, a :: as, h => by
    show (mkq (n + 1) ls as).length + 1 = ls.length + 1
    rw [mkq_len (n + 1) ls as (by simpa using h)]
theorem mkq_at : ∀ (n : Nat) (ls : List Addr) (as : List (Array Value)) (i : Nat) (q : Rw), (mkq n ls as)[i]? = some q → @Eq Nat q.1 (n + i) ∧ ls[i]? = some q.2.1 ∧ as[i]? = some q.2.2
  | n, l :: ls, a :: as, 0, q, h => by
    have := Option.some.inj h
    rw [← this]
    exact ⟨rfl, rfl, rfl⟩
  | n, l :: ls, a :: as, i + 1, q, h => by
    obtain ⟨h1, h2, h3⟩ := mkq_at (n + 1) ls as i q h
    exact ⟨h1.trans (by rw [Nat.add_assoc, Nat.add_comm 1 i]), h2, h3⟩
  | _, [], _, _, _, h => by simp [mkq] at h
  | _, _ :: _, [], _, _, h => by simp [mkq] at h
theorem refs_mkq (n : Nat) (ls : List Addr) (as : List (Array Value)) (h : as.length = ls.length) : refs (mkq n ls as) = made n ls.length := by
  unfold refs made
  congr 1
  apply List.ext_getElem?
  intro i
  rw [List.getElem?_map, List.getElem?_map]
  by_cases hi : i < ls.length
  · obtain ⟨q, hq⟩ : ∃ q, (mkq n ls as)[i]? = some q := ⟨_, List.getElem?_eq_getElem (by rw [mkq_len n ls as h]; exact hi)⟩
    rw [hq, List.getElem?_range hi]
    show some (Value.ref q.1) = some (Value.ref (n + i))
    rw [(mkq_at n ls as i q hq).1]
  · rw [List.getElem?_eq_none (by rw [mkq_len n ls as h]; omega), List.getElem?_eq_none (by rw [List.length_range]; omega)]
    rfl
/-- the rows' items, as they stand in the heap -/
theorem arrs {X : Cx} {pins : List (Addr × Obj)} {σ : L2.St} {H : Hp} {s : Shared} (I : Inv X pins σ H s) : ∀ (ls : List Addr) (rows : List (List V)), rows.length = ls.length → (∀ (i : Nat) (l : Addr) (r : List V), ls[i]? = some l → rows[i]? = some r → SqL X.K H l r) →
    ∃ as : List (Array Value), as.length = ls.length ∧ ∀ (i : Nat) (l : Addr) (r : List V) (a : Array Value), ls[i]? = some l → rows[i]? = some r → as[i]? = some a → s.heap.IsList l a ∧ Vals r a.toList
  | [], [], _, _ => ⟨[], rfl, fun i l r a h => by cases h⟩
  | l :: ls, r :: rows, h, hs => by
    obtain ⟨as, e, k⟩ := arrs I ls rows (by simpa using h) fun i l r h1 h2 => hs (i + 1) l r h1 h2
    obtain ⟨its, rv, pl, _⟩ := I.list (hs 0 l r rfl rfl)
    refine ⟨its.toArray :: as, by simp [e], fun i l2 r2 a h1 h2 h3 => ?_⟩
    cases i with
    | zero =>
      cases h1
      cases h2
      cases h3
      exact ⟨pl.isList, by simpa using rv⟩
    | succ i => exact k i l2 r2 a h1 h2 h3
theorem vals_refs : ∀ (ls : List Addr) (us : List Value), Vals (ls.map V.ref) us → us = ls.map Value.ref
  | [], us, h => by
    cases h
    rfl
  | l :: ls, us, h => by
    cases h with
    | cons h1 h2 =>
      have e1 : _ = Value.ref l := h1
      rw [e1, vals_refs ls _ h2]
      rfl
theorem vals_of : ∀ (xs : List V) (us : List Value), xs.length = us.length → (∀ (i : Nat) (x : V) (u : Value), xs[i]? = some x → us[i]? = some u → RelV x u) → Vals xs us
  | [], [], _, _ => .nil
  | x :: xs, u :: us, h, k => .cons (k 0 x u rfl rfl) (vals_of xs us (by simpa using h) fun i y v h1 h2 => k (i + 1) y v h1 h2)
theorem vals_get {r : List V} {us : List Value} (h : Vals r us) : ∀ (k : Nat) (x : V), r[k]? = some x → ∃ u, us[k]? = some u ∧ RelV x u := by
  induction h with
  | nil =>
    intro k x e
    cases e
  | cons h1 h2 ih =>
    intro k x e
    cases k with
    | zero =>
      cases e
      exact ⟨_, rfl, h1⟩
    | succ k => exact ih k x e
def tZipS (K : PySem.W.Frag) (te : TE) : TE := fun σ H Q => te σ H fun x H1 => ∃ (a : Addr) (ls : List Addr) (rows : List (List V)) (m : Nat), x = .ref a ∧ SqL K H1 a (ls.map V.ref) ∧ rows.length = ls.length ∧ (∀ (i : Nat) (l : Addr) (r : List V), ls[i]? = some l → rows[i]? = some r → SqL K H1 l r) ∧ (∀ r ∈ rows, r.length = m) ∧
  ls ≠ [] ∧ ls.length ≤ 8 ∧ 1 ≤ m ∧ m ≤ 64 ∧ ∀ (p : Addr) (Ts : List Addr) (H2 : Hp), (∀ b o, H1 b = some o → H2 b = some o) → H1 p = none → H2 p = some (.lst (Ts.map V.ref)) → Ts.length = m → (∀ (j : Nat) (T : Addr), Ts[j]? = some T → H1 T = none ∧ H2 T = some (.tup (rows.map fun r => r.getD j .non))) → Q (.ref p) H2
/-- H with new objects -/
def putAll (H : Hp) (p : Addr) (o : HO) (ks : List (Addr × HO)) : Hp := fun b => if b = p then some o else match ks.lookup b with | some u => some u | none => H b
theorem lookup_zip : ∀ (Ts : List Addr) (os : List HO) (j : Nat) (T : Addr) (o : HO), Ts.Nodup → Ts[j]? = some T → os[j]? = some o → (Ts.zip os).lookup T = some o
  | t :: Ts, u :: os, 0, T, o, nd, h1, h2 => by
    cases h1
    cases h2
    simp
  | t :: Ts, u :: os, j + 1, T, o, nd, h1, h2 => by
    have ne : T ≠ t := fun z => (List.nodup_cons.mp nd).1 (z ▸ List.mem_of_getElem? h1)
    show (match T == t with | true => some u | false => (Ts.zip os).lookup T) = some o
    rw [beq_eq_false_iff_ne.mpr ne]
    exact lookup_zip Ts os j T o (List.nodup_cons.mp nd).2 h1 h2
theorem lookup_in : ∀ (Ts : List Addr) (os : List HO) (b : Addr) (o : HO), (Ts.zip os).lookup b = some o → ∃ j : Nat, Ts[j]? = some b ∧ os[j]? = some o
  | [], _, b, o, h => by simp at h
  | _ :: _, [], b, o, h => by simp at h
  | t :: Ts, u :: os, b, o, h => by
    have h : (match b == t with | true => some u | false => (Ts.zip os).lookup b) = some o := h
    cases e : b == t with
    | true =>
      rw [e] at h
      cases h
      exact ⟨0, by rw [eq_of_beq e]; rfl, rfl⟩
    | false =>
      rw [e] at h
      obtain ⟨j, h1, h2⟩ := lookup_in Ts os b o h
      exact ⟨j + 1, h1, h2⟩
section
variable {X : Cx} {e : Expr} {te : TE} {p1 p2 p3 p4 p5 : Pos}
set_option maxHeartbeats 6400000 in
theorem pe_listZip (hc : X.calm = true) (hgl : Gl X "list") (hml : X.mg "list" = none) (hgz : Gl X "zip") (hmz : X.mg "zip" = none) (he : PE X e te)
    (h1 : starEach [.Call (.Name "zip" p2) [.Starred e p3] [] p4] X.env = [(false, eval (.Call (.Name "zip" p2) [.Starred e p3] [] p4) X.env)] := by rfl) (h2 : starEach [.Starred e p3] X.env = [(true, eval e X.env)] := by rfl) :
    PE X (.Call (.Name "list" p1) [.Call (.Name "zip" p2) [.Starred e p3] [] p4] [] p5) (tZipS X.K te) := by
  refine ⟨fun pins s σ H Q I h => ?_⟩
  refine wpAny_Call_Name_kw (ld_blt I hgl hml (u := .type "list") (by decide +kernel) ?_)
  refine PyProof.Rows.callWith_type1 ?_ h1 rfl
  rw [h1]
  show wpAny _ _ (spliced ((false, eval (.Call (.Name "zip" p2) [.Starred e p3] [] p4) X.env) :: backTo p5 (starEach [] X.env))) _ _ s
  refine Calls.spliced_cons ?_
  refine wpAny_Call_Name_kw (ld_blt I hgz hmz (u := .type "zip") (by decide +kernel) ?_)
  rw [h2]
  refine PySem.W.ks_call (P := fun _ => True) rfl (fun _ _ => ⟨.machine, .inr (.inl rfl), PySem.W.Looks.of_pure rfl⟩) (PySem.W.ks_lone ?_)
  refine thn (he.run pins s σ H _ I h) fun v s1 hv => ?_
  obtain ⟨y, H1, I1, ry, a, ls, rows, m, ey, hx, rl, rs, rm, n0, n8, m1, m64, q⟩ := hv
  subst ey
  obtain rfl : v = Value.ref a := ry
  refine StX.star_any I1 (.inr hx) fun us s2 I2 rv => ⟨True.intro, ?_⟩
  rw [vals_refs ls us rv]
  show wpAny _ _ (call (.type "zip") (ls.map Value.ref)) _ _ s2
  obtain ⟨as, al, ai⟩ := arrs I2 ls rows rl rs
  have rat : ∀ (i : Nat) (l : Addr), ls[i]? = some l → ∃ r a, rows[i]? = some r ∧ as[i]? = some a := fun i l hl => by
    have hi := (List.getElem?_eq_some_iff.mp hl).1
    exact ⟨_, _, List.getElem?_eq_getElem (by omega), List.getElem?_eq_getElem (by omega)⟩
  refine call_zip n0 n8 (fun l hl => ?_) fun h' zz zI zO it sz k => ?_
  · obtain ⟨i, hi, e⟩ := List.getElem_of_mem hl
    obtain ⟨r, a2, hr, ha⟩ := rat i l (by rw [List.getElem?_eq_getElem hi, e])
    exact ⟨_, (ai i l r a2 (by rw [List.getElem?_eq_getElem hi, e]) hr ha).1⟩
  -- the list of it
  refine PyProof.Rows.spliced_none ?_
  have hq : ∀ (i : Nat) (q : Rw), (mkq s2.heap.objs.size ls as)[i]? = some q → @Eq Nat q.1 (s2.heap.objs.size + i) ∧ ls[i]? = some q.2.1 ∧ as[i]? = some q.2.2 := mkq_at _ ls as
  have low : ∀ l ∈ ls, l < s2.heap.objs.size := fun l hl => by
    obtain ⟨i, hi, e⟩ := List.getElem_of_mem hl
    have e2 : ls[i]? = some l := by rw [List.getElem?_eq_getElem hi, e]
    obtain ⟨r, a2, hr, ha⟩ := rat i l e2
    obtain ⟨o, ho, _⟩ := (ai i l r a2 e2 hr ha).1
    exact Heap.lt_size ho
  have qm : ∀ q ∈ mkq s2.heap.objs.size ls as, ∃ i : Nat, i < ls.length ∧ @Eq Nat q.1 (s2.heap.objs.size + i) ∧ @LT.lt Nat _ q.2.1 s2.heap.objs.size := fun q mq => by
    obtain ⟨i, hi, e⟩ := List.getElem_of_mem mq
    obtain ⟨e1, e2, e3⟩ := hq i q (by rw [List.getElem?_eq_getElem hi, e])
    exact ⟨i, (List.getElem?_eq_some_iff.mp e2).1, e1, low _ (List.mem_of_getElem? e2)⟩
  have Ap : Apart (s2.heap.objs.size + ls.length + 2) (s2.heap.objs.size + ls.length) (s2.heap.objs.size + ls.length + 1) (mkq s2.heap.objs.size ls as) := by
    refine ⟨by change @Ne Nat _ _; omega, by change @Ne Nat _ _; omega, by change @Ne Nat _ _; omega, fun q mq => ?_, fun q mq => ?_, fun i j p q hp hq2 ne => ?_, fun p mp q mq => ?_⟩
    · obtain ⟨i, i1, i2, i3⟩ := qm q mq
      refine ⟨?_, ?_, ?_⟩ <;> (change @Ne Nat _ _; omega)
    · obtain ⟨i, i1, i2, i3⟩ := qm q mq
      refine ⟨?_, ?_⟩ <;> (change @Ne Nat _ _; omega)
    · have a1 := (hq i p hp).1
      have a2 := (hq j q hq2).1
      change @Ne Nat _ _
      omega
    · obtain ⟨i, i1, i2, i3⟩ := qm p mp
      obtain ⟨j, j1, j2, j3⟩ := qm q mq
      change @Ne Nat _ _
      omega
  have vk : ∀ (i : Nat) (l : Addr) (r : List V) (a : Array Value), ls[i]? = some l → rows[i]? = some r → as[i]? = some a → Vals r a.toList ∧ a.size = m := fun i l r a2 x1 x2 x3 => by
    obtain ⟨_, v⟩ := ai i l r a2 x1 x2 x3
    refine ⟨v, ?_⟩
    have := v.length
    rw [rm r (List.mem_of_getElem? x2)] at this
    simpa using this.symm
  have asz : ∀ (i : Nat) (a : Array Value), as[i]? = some a → a.size = m := fun i a2 x3 => by
    have hi := (List.getElem?_eq_some_iff.mp x3).1
    exact (vk i _ _ a2 (List.getElem?_eq_getElem (by omega)) (List.getElem?_eq_getElem (by omega)) x3).2
  have T : Tab (mkq s2.heap.objs.size ls as) ((List.range m).map fun k => as.map fun a => a.getD k .none) := by
    refine ⟨fun z => ?_, ?_, by simp; exact m64, fun i xs hx => ?_, ?_⟩
    · have := mkq_len s2.heap.objs.size ls as al
      rw [z] at this
      exact n0 (List.length_eq_zero_iff.mp this.symm)
    · rw [mkq_len _ _ _ al]
      omega
    · rw [List.getElem?_map] at hx
      obtain ⟨k2, hk2, rfl⟩ := Option.map_eq_some_iff.mp hx
      have hk : i < m := by
        have := (List.getElem?_eq_some_iff.mp hk2).1
        simpa using this
      rw [List.getElem?_range hk] at hk2
      cases hk2
      refine ⟨by rw [List.length_map, mkq_len _ _ _ al, al], fun j q x hj hx => ?_⟩
      obtain ⟨_, _, e3⟩ := hq j q hj
      rw [List.getElem?_map, e3] at hx
      have := Option.some.inj hx
      have sz2 := asz j _ e3
      rw [← this]
      simp [Array.getD, sz2, hk]
    · have l0 : 0 < (mkq s2.heap.objs.size ls as).length := by
        rw [mkq_len _ _ _ al]
        exact List.length_pos_iff.mpr n0
      refine ⟨0, _, List.getElem?_eq_getElem l0, ?_, fun i p hi => absurd hi (Nat.not_lt_zero i)⟩
      obtain ⟨_, _, e3⟩ := hq 0 _ (List.getElem?_eq_getElem l0)
      have := asz 0 _ e3
      simp [this]
  have R0 : Rws h' (mkq s2.heap.objs.size ls as) 0 0 := fun i q hi => by
    obtain ⟨e1, e2, e3⟩ := hq i q hi
    obtain ⟨r, a2, hr, ha⟩ := rat i _ e2
    rw [if_neg (Nat.not_lt_zero i), e1]
    refine ⟨it i _ e2, ?_⟩
    rw [ha] at e3
    cases e3
    obtain ⟨o, ho, hh⟩ := (ai i _ r _ e2 hr ha).1
    exact ⟨o, k _ _ ho, hh⟩
  refine call_list (s := { s2 with heap := h' }) (I2.ok.hd hc) Ap T zz ?_ ?_ R0 fun h3 Ts c e1 e2 e3 e4 e5 e6 => ?_
  · obtain ⟨vs, v1, v2⟩ := zO
    exact ⟨vs, v1, by rw [v2, mkq_len _ _ _ al]⟩
  · rw [refs_mkq _ _ _ al]
    exact zI
  -- the tracked heap
  rw [List.length_map, List.length_range] at e2
  have hsz : h'.objs.size = s2.heap.objs.size + ls.length + 3 := sz
  have kk : ∀ b u, s2.heap.get? b = some u → h3.get? b = some u := fun b u eb => by
    have lt : @LT.lt Nat _ b s2.heap.objs.size := Heap.lt_size eb
    refine e6 b u ⟨by change @Ne Nat _ _; omega, by change @Ne Nat _ _; omega, fun q mq => ?_⟩ (k b u eb)
    obtain ⟨i, _, i2, _⟩ := qm q mq
    change @Ne Nat _ _
    omega
  have fresh : ∀ b, s2.heap.objs.size ≤ b → H1 b = none := fun b hb => I2.hok.fresh hb
  have nS : h'.objs.size ∉ Ts := fun z => Nat.lt_irrefl _ (e4 _ z)
  have in3 : ∀ (j : Nat) (T : Addr), Ts[j]? = some T → ∃ hj : j < m, TupAt h3 T (as.map fun a => a.getD j .none).toArray := fun j T hT => by
    have hj : j < m := by
      have := (List.getElem?_eq_some_iff.mp hT).1
      omega
    refine ⟨hj, e3 j T _ hT ?_⟩
    rw [List.getElem?_map, List.getElem?_range hj]
    rfl
  have vcol : ∀ j, j < m → Vals (rows.map fun r => r.getD j .non) (as.map fun a => a.getD j .none) := fun j hj => by
    refine vals_of _ _ (by rw [List.length_map, List.length_map, rl, al]) fun i x u hx hu => ?_
    rw [List.getElem?_map] at hx hu
    obtain ⟨r, hr, rfl⟩ := Option.map_eq_some_iff.mp hx
    obtain ⟨a2, ha, rfl⟩ := Option.map_eq_some_iff.mp hu
    have hi := (List.getElem?_eq_some_iff.mp hr).1
    obtain ⟨v, sz2⟩ := vk i _ r a2 (List.getElem?_eq_getElem (by omega)) hr ha
    have hl := rm r (List.mem_of_getElem? hr)
    obtain ⟨u, hu2, ru⟩ := vals_get v j r[j] (List.getElem?_eq_getElem (by omega))
    have g1 : r.getD j .non = r[j] := by simp [List.getD, show j < r.length by omega]
    have g2 : a2.getD j .none = u := by
      rw [Array.getElem?_toList] at hu2
      simp [Array.getD, show j < a2.size by omega]
      rw [Array.getElem?_eq_getElem (by omega)] at hu2
      exact Option.some.inj hu2
    rw [g1, g2]
    exact ru
  refine ⟨.ref h'.objs.size, putAll H1 h'.objs.size (.lst (Ts.map V.ref)) (Ts.zip ((List.range m).map fun j => HO.tup (rows.map fun r => r.getD j .non))), ?_, rfl, ?_⟩
  · have base : ∀ b o, H1 b = none → putAll H1 h'.objs.size (.lst (Ts.map V.ref)) (Ts.zip ((List.range m).map fun j => HO.tup (rows.map fun r => r.getD j .non))) b = some o → (b = h'.objs.size ∧ o = .lst (Ts.map V.ref)) ∨ ∃ j, j < m ∧ Ts[j]? = some b ∧ o = .tup (rows.map fun r => r.getD j .non) := fun b o hb e => by
      unfold putAll at e
      by_cases eb : b = h'.objs.size
      · rw [if_pos eb] at e
        exact .inl ⟨eb, (Option.some.inj e).symm⟩
      · rw [if_neg eb] at e
        cases lk : (Ts.zip ((List.range m).map fun j => HO.tup (rows.map fun r => r.getD j .non))).lookup b with
        | none =>
          rw [lk, hb] at e
          cases e
        | some u =>
          rw [lk] at e
          obtain ⟨j, j1, j2⟩ := lookup_in _ _ _ _ lk
          rw [List.getElem?_map] at j2
          obtain ⟨k2, hk2, rfl⟩ := Option.map_eq_some_iff.mp j2
          have hj : j < m := by
            have := (List.getElem?_eq_some_iff.mp hk2).1
            simpa using this
          rw [List.getElem?_range hj] at hk2
          cases hk2
          exact .inr ⟨j, hj, j1, (Option.some.inj e).symm⟩
    refine laidAll (s := s2) (h' := h3) I2 kk (fun b o eb => ?_) (fun b o hb e => ?_) fun b o hb e => ?_
    · unfold putAll
      have lt : b < s2.heap.objs.size := Nat.lt_of_not_le fun z => by
        rw [fresh b z] at eb
        cases eb
      rw [if_neg (show ¬ b = h'.objs.size from fun z => by have z : @Eq Nat b h'.objs.size := z; have lt : @LT.lt Nat _ b s2.heap.objs.size := lt; omega)]
      cases lk : (Ts.zip ((List.range m).map fun j => HO.tup (rows.map fun r => r.getD j .non))).lookup b with
      | none => exact eb
      | some u =>
        obtain ⟨j, j1, _⟩ := lookup_in _ _ _ _ lk
        have g4 : @LT.lt Nat _ h'.objs.size b := e4 b (List.mem_of_getElem? j1)
        have lt : @LT.lt Nat _ b s2.heap.objs.size := lt
        omega
    · rcases base b o hb e with ⟨z, _⟩ | ⟨j, _, z, _⟩
      · have z : @Eq Nat b h'.objs.size := z
        show @LE.le Nat _ _ _
        omega
      · have g4 : @LT.lt Nat _ h'.objs.size b := e4 b (List.mem_of_getElem? z)
        show @LE.le Nat _ _ _
        omega
    · rcases base b o hb e with ⟨z, zo⟩ | ⟨j, hj, z, zo⟩
      · rw [z, zo]
        refine ⟨?_, Ts.map Value.ref, c, ?_, e1⟩
        · rw [List.length_map, e2]
          exact Nat.le_trans m64 (by decide)
        · refine vals_of _ _ (by rw [List.length_map, List.length_map]) fun i x u hx hu => ?_
          rw [List.getElem?_map] at hx hu
          obtain ⟨t1, ht1, rfl⟩ := Option.map_eq_some_iff.mp hx
          obtain ⟨t2, ht2, rfl⟩ := Option.map_eq_some_iff.mp hu
          rw [ht1] at ht2
          cases ht2
          exact rfl
      · rw [zo]
        obtain ⟨_, tt⟩ := in3 j b z
        refine ⟨?_, as.map fun a => a.getD j .none, vcol j hj, ⟨_, tt, rfl, _, rfl⟩⟩
        rw [List.length_map, rl]
        exact Nat.le_trans n8 (by decide)
  · refine q _ Ts _ (fun b o eb => ?_) (fresh _ (by omega)) (by unfold putAll; rw [if_pos rfl]) e2 fun j T hT => ?_
    · unfold putAll
      have lt : b < s2.heap.objs.size := Nat.lt_of_not_le fun z => by
        rw [fresh b z] at eb
        cases eb
      rw [if_neg (show ¬ b = h'.objs.size from fun z => by have z : @Eq Nat b h'.objs.size := z; have lt : @LT.lt Nat _ b s2.heap.objs.size := lt; omega)]
      cases lk : (Ts.zip ((List.range m).map fun j => HO.tup (rows.map fun r => r.getD j .non))).lookup b with
      | none => exact eb
      | some u =>
        obtain ⟨j, j1, _⟩ := lookup_in _ _ _ _ lk
        have g4 : @LT.lt Nat _ h'.objs.size b := e4 b (List.mem_of_getElem? j1)
        have lt : @LT.lt Nat _ b s2.heap.objs.size := lt
        omega
    · have lt : @LT.lt Nat _ h'.objs.size T := e4 T (List.mem_of_getElem? hT)
      obtain ⟨hj, _⟩ := in3 j T hT
      refine ⟨fresh _ (by omega), ?_⟩
      unfold putAll
      rw [if_neg (show ¬ T = h'.objs.size from fun z => by have z : @Eq Nat T h'.objs.size := z; omega), lookup_zip Ts _ j T (.tup (rows.map fun r => r.getD j .non)) e5 hT (by rw [List.getElem?_map, List.getElem?_range hj]; rfl)]
end
end ZN
end
section
set_option Elab.async false
set_option linter.all false
set_option maxRecDepth 100000
/-! zip(xs, t), xs a list and t a tuple of one length -/
namespace ZM
open PySem PySem.Spec PyProof.Rows L2 Lw
def ItM (K : PySem.W.Frag) (a b : Addr) : It where
  go i H := ∃ (xs ys : List V) (x y : V), SqL K H a xs ∧ SqT K H b ys ∧ xs[i]? = some x ∧ ys[i]? = some y
  yld i H v H' := ∃ T x y, v = .ref T ∧ H T = none ∧ H' = upd H T (.tup [x, y]) ∧ (∀ xs, SqL K H a xs → xs[i]? = some x) ∧ ∀ ys, SqT K H b ys → ys[i]? = some y
  stop i H := ∃ xs ys : List V, SqL K H a xs ∧ SqT K H b ys ∧ xs.length = i ∧ ys.length = i
theorem walk_mix {K : PySem.W.Frag} {a b : Addr} {xs ys : List V} {n : Nat} (h1 : xs.length = n) (h2 : ys.length = n) : Walk (ItM K a b) n (fun H => SqL K H a xs ∧ SqT K H b ys) (YPair (fun i => xs[i]?) (fun i => ys[i]?)) := by
  constructor
  · rintro i H hi ⟨q1, q2⟩
    exact ⟨xs, ys, xs[i], ys[i], q1, q2, List.getElem?_eq_getElem (by omega), List.getElem?_eq_getElem (by omega)⟩
  · rintro H ⟨q1, q2⟩
    exact ⟨xs, ys, q1, q2, h1, h2⟩
  · rintro i H _ _ hi ⟨q1, q2⟩ ⟨T, x, y, rfl, nT, rfl, g1, g2⟩
    exact ⟨T, x, y, rfl, nT, rfl, g1 xs q1, g2 ys q2⟩
/-- where the walk stands -/
structure At (z TI TO i1 i2 a b : Addr) (i : Nat) (h : Heap) : Prop where
  zp : IsZip h z TI TO .none
  ti : IsTupOf2 h TI (.ref i1) (.ref i2)
  to : ∃ x y, IsTupOf2 h TO x y
  l : h.IsListIter i1 a i
  t : h.IsTupleIter i2 b i
theorem five {z TI TO i1 i2 c : Addr} (h : c ∈ [z, TI, TO, i1, i2]) : c = z ∨ c = TI ∨ c = TO ∨ c = i1 ∨ c = i2 := by
  simpa using h
theorem turn_mix {P : Program} {w : World} {K : PySem.W.Frag} {elts : List Expr} {kk : Nat} {tpos : Pos} {a b z TI TO i1 i2 : Addr} (S : ZipSep2 z TI TO i1 i2 [i1, a] [i2, b]) (n1 : a ≠ i1) (n2 : b ≠ i2) :
    Turn P w K (.Tuple elts kk tpos) (ItM K a b) [z, TI, TO, i1, i2] z (At z TI TO i1 i2 a b) where
  mem := .head _
  obj i h st c hc := by
    obtain ⟨o1, e1, _, d1⟩ := st.l
    obtain ⟨o2, e2, _, d2⟩ := st.t
    obtain ⟨x, y, eO⟩ := st.to
    rcases five hc with rfl | rfl | rfl | rfl | rfl
    · exact ⟨_, st.zp, nofun⟩
    · exact ⟨_, st.ti, nofun⟩
    · exact ⟨_, eO, nofun⟩
    · exact ⟨o1, e1, by rw [d1]; nofun⟩
    · exact ⟨o2, e2, by rw [d2]; nofun⟩
  keep i h h' st k := by
    obtain ⟨x, y, eO⟩ := st.to
    exact ⟨k z (by simp) _ st.zp, k TI (by simp) _ st.ti, ⟨x, y, k TO (by simp) _ eO⟩, st.l.at fun o q => k i1 (by simp) o q, st.t.at fun o q => k i2 (by simp) o q⟩
  item := by
    rintro X rfl rfl rfl calm i pins s σ H E I off st ⟨xs, ys, x, y, hx, hy, gx, gy⟩
    obtain ⟨us, r1, pl, _⟩ := I.list hx
    obtain ⟨vs, r2, pt, _⟩ := I.tuple hy
    obtain ⟨u, hu, ru⟩ := r1.get gx
    obtain ⟨v, hv, rv⟩ := r2.get gy
    obtain ⟨x0, y0, eO⟩ := st.to
    have hh : X.A.in1.handled = none := I.ok.hd calm
    have l1 : i < us.toArray.size := by rw [List.size_toArray]; exact (List.getElem?_eq_some_iff.mp hu).1
    have l2 : i < vs.toArray.size := by rw [List.size_toArray]; exact (List.getElem?_eq_some_iff.mp hv).1
    have zl : z < s.heap.objs.size := Heap.lt_size st.zp
    refine wpAny_pyNext_zipD2_item S (Draws.list hh i1 a n1 us.toArray) (Draws.tuple hh i2 b n2 vs.toArray) st.zp st.ti eO ⟨st.l, pl.isList⟩ ⟨st.t, pt⟩ l1 l2 fun u' v' h' tk hu' hv' z' O' s1 s2 new _ keep => ?_
    obtain rfl : u' = u := by
      rw [List.getElem?_toArray, hu] at hu'
      exact (Option.some.inj hu').symm
    obtain rfl : v' = v := by
      rw [List.getElem?_toArray, hv] at hv'
      exact (Option.some.inj hv').symm
    refine ⟨_, rfl, wpAny_letOwnedTupleGo_zip (s := { s with heap := h', toks := tk }) z' fun h2 z2 sb => ?_⟩
    have new2 : h2.get? s.heap.objs.size = some { cls := .type "tuple", data := .seq #[u', v'] } := (sb.2 _ (Nat.ne_of_gt zl)).trans new
    have okN : ObjOk X.prog X.w (upd H s.heap.objs.size (.tup [x, y])) h2 s.heap.objs.size (.tup [x, y]) := ⟨by show 2 ≤ sizeLine; decide, _, .cons ru (.cons rv .nil), _, new2, rfl, _, rfl⟩
    have rest : ∀ c o, c ∉ [z, TI, TO, i1, i2] → s.heap.get? c = some o → h2.get? c = some o := fun c o nc e => by
      have c1 : c ≠ z := fun q => nc (by simp [q])
      rw [sb.2 c c1]
      exact keep c o c1 (fun q => nc (by simp [q])) (fun q => nc (by simp [q])) (fun q => nc (by simp [q])) e
    refine ⟨.ref s.heap.objs.size, _, I.turnedNew (ch := [z, TI, TO, i1, i2]) rest off (Nat.le_refl _) okN, rfl, ⟨_, x, y, rfl, I.hok.fresh (Nat.le_refl _), rfl, fun ys hys => I.list_inj hys hx ▸ gx, fun ys hys => I.tuple_inj hys hy ▸ gy⟩, ⟨z2, ?_, ⟨u', v', ?_⟩, ?_, ?_⟩, fun c hc => ?_⟩
    · exact (sb.2 _ S.TIz).trans (keep _ _ S.TIz S.TITO S.TIi1 S.TIi2 st.ti)
    · exact (sb.2 _ S.TOz).trans O'
    · exact s1.1.at fun o q => (sb.2 _ (Ne.symm S.zi1)).trans q
    · exact s2.1.at fun o q => (sb.2 _ (Ne.symm S.zi2)).trans q
    · have lt : c < s.heap.objs.size := by
        obtain ⟨o1, e1, _⟩ := st.l
        obtain ⟨o2, e2, _⟩ := st.t
        rcases five hc with rfl | rfl | rfl | rfl | rfl
        · exact zl
        · exact Heap.lt_size st.ti
        · exact Heap.lt_size eO
        · exact Heap.lt_size e1
        · exact Heap.lt_size e2
      rw [upd_ne (Nat.ne_of_lt lt)]
      exact (off c hc).1
  done := by
    rintro X rfl rfl rfl calm i pins s σ H E I off st ⟨xs, ys, hx, hy, e1, e2⟩
    obtain ⟨us, r1, pl, _⟩ := I.list hx
    obtain ⟨vs, r2, pt, _⟩ := I.tuple hy
    obtain ⟨x0, y0, eO⟩ := st.to
    have hh : X.A.in1.handled = none := I.ok.hd calm
    have l1 := r1.length
    have l2 := r2.length
    have m1 : us.toArray.size = i := by rw [List.size_toArray]; omega
    have m2 : vs.toArray.size = i := by rw [List.size_toArray]; omega
    refine wpAny_pyNext_zipD2_end S (Draws.list hh i1 a n1 us.toArray) (Draws.tuple hh i2 b n2 vs.toArray) st.zp st.ti eO ⟨st.l, pl.isList⟩ ⟨st.t, pt⟩ (by omega) (by omega) (.inl m1.symm) fun h' tk keep => ⟨rfl, ?_⟩
    exact I.turnedL (t' := tk) (ch := [z, TI, TO, i1, i2]) (fun c o nc e => keep c o (fun q => nc (by simp [q])) (fun q => nc (by simp [q])) (fun q => nc (by simp [q])) (fun q => nc (by simp [q])) e) off
  self A i s Q E st h := wpAny_pyIter_zip st.zp h
def iZipM (K : PySem.W.Frag) (ta : TA) : TI := fun σ H R => ta σ H fun vs H1 => ∃ (a b : Addr) (xs ys : List V), vs = [.ref a, .ref b] ∧ SqL K H1 a xs ∧ SqT K H1 b ys ∧ R (ItM K a b) H1
theorem pi_zipM {X : Cx} {e e2 : Expr} {ta : TA} {p pos tpos : Pos} {elts : List Expr} {kk : Nat} (hg : Gl X "zip") (hm : X.mg "zip" = none) (ha : PA X [e, e2] ta)
    (hs : starEach [e, e2] X.env = (false, eval e X.env) :: starEach [e2] X.env := by rfl) (hpl : (backTo pos (starEach [e2] X.env)).any (·.1) = false := by rfl) :
    PI X (.Tuple elts kk tpos) (.Call (.Name "zip" p) [e, e2] [] pos) (iZipM X.K ta) := by
  constructor
  intro pins s σ H R I h
  refine Call_ (ld_blt I hg hm PyProof.Rows.boot_zip (PyProof.Rows.callWith_type1 (wpAny_mono (ha.run pos pins s σ H _ I h) ?_ fun _ _ z => z) hs hpl))
  rintro us s1 ⟨_, H1, I1, vals, a, b, xs, ys, rfl, hx, hy, go⟩
  obtain rfl : us = [.ref a, .ref b] := by
    match us, vals with
    | [u, v], .cons r1 (.cons r2 .nil) =>
      have e1 : u = .ref a := r1
      have e2 : v = .ref b := r2
      rw [e1, e2]
  obtain ⟨ws, r1, pl, _⟩ := I1.list hx
  obtain ⟨vs, r2, pt, _⟩ := I1.tuple hy
  have la : a < s1.heap.objs.size := pl.lt
  have lb : b < s1.heap.objs.size := by
    obtain ⟨o, ho, _⟩ := id pt
    exact Heap.lt_size ho
  refine zip_begins2 (begins_list a ws.toArray) (begins_tuple b vs.toArray) pl.isList pt fun h' z tI tO g1 g2 _ up => wpAny_pyIter_zip z ?_
  have S : ZipSep2 (s1.heap.objs.size + 4) (s1.heap.objs.size + 2) (s1.heap.objs.size + 3) s1.heap.objs.size (s1.heap.objs.size + 1) [s1.heap.objs.size, a] [s1.heap.objs.size + 1, b] := zip_sep2 (fun c hc => by rw [List.mem_singleton.mp hc]; exact la) (fun c hc => by rw [List.mem_singleton.mp hc]; exact lb)
  refine ⟨s1.heap.objs.size + 4, [s1.heap.objs.size + 4, s1.heap.objs.size + 2, s1.heap.objs.size + 3, s1.heap.objs.size, s1.heap.objs.size + 1], _, ItM X.K a b, H1, rfl, I1.kept (t' := s1.toks) up, turn_mix S (Nat.ne_of_lt la) (Nat.ne_of_lt (Nat.lt_succ_of_lt lb)), ⟨z, tI, ⟨_, _, tO⟩, ⟨_, g1, rfl, rfl⟩, ⟨_, g2, rfl, rfl⟩⟩, fun c hc => ?_, go⟩
  have le : s1.heap.objs.size ≤ c := by
    rcases five hc with rfl | rfl | rfl | rfl | rfl
    · exact Nat.le_add_right _ _
    · exact Nat.le_add_right _ _
    · exact Nat.le_add_right _ _
    · exact Nat.le_refl _
    · exact Nat.le_add_right _ _
  exact new_ok I1 le
end ZM
end
section
set_option Elab.async false
set_option linter.all false
set_option maxRecDepth 100000
/-! product and power of tables -/
namespace Lw
open PySem L2
abbrev sProd : Stmt := top 18
abbrev sPow : Stmt := top 19
def rowM (n : Nat) (M : Mx) (a : Nat) : List V := (List.range n).map fun b => V.int ((M a b : Nat) : Int)
theorem rowM_len (n : Nat) (M : Mx) (a : Nat) : (rowM n M a).length = n := by
  unfold rowM
  simp
theorem rowM_at {n : Nat} (M : Mx) (a : Nat) {b : Nat} (h : b < n) : (rowM n M a)[b]? = some (V.int ((M a b : Nat) : Int)) := by
  unfold rowM
  rw [List.getElem?_map, List.getElem?_range h]
  rfl
theorem rowM_congr {n : Nat} {M M' : Mx} {a : Nat} (h : ∀ b, b < n → M a b = M' a b) : rowM n M a = rowM n M' a := by
  unfold rowM
  refine List.map_congr_left fun b hb => ?_
  rw [h b (List.mem_range.mp hb)]
structure TabM (H : Hp) (p : Addr) (rs : List Addr) (n : Nat) (M : Mx) : Prop where
  ls : H p = some (.lst (rs.map V.ref))
  len : rs.length = n
  row : ∀ (a : Nat) (r : Addr), rs[a]? = some r → H r = some (.lst (rowM n M a))
theorem TabM.same {H H' : Hp} {p : Addr} {rs : List Addr} {n : Nat} {M : Mx} (h : TabM H p rs n M) (s : Same H H') : TabM H' p rs n M := ⟨s _ _ h.ls, h.len, fun a r e => s _ _ (h.row a r e)⟩
theorem TabM.congr {H : Hp} {p : Addr} {rs : List Addr} {n : Nat} {M M' : Mx} (h : TabM H p rs n M) (e : ∀ i j, i < n → j < n → M i j = M' i j) : TabM H p rs n M' := ⟨h.ls, h.len, fun a r ha => by
  have hl := h.len
  have hi := (List.getElem?_eq_some_iff.mp ha).1
  rw [h.row a r ha, rowM_congr fun b hb => e a b (by omega) hb]⟩
def spProd : Sp := fun vs H Q _ => ∃ (p q : Addr) (rs qs : List Addr) (n : Nat) (A B : Mx), vs = [.ref p, .ref q] ∧ TabM H p rs n A ∧ TabM H q qs n B ∧ 1 ≤ n ∧ n ≤ 8 ∧ (∀ i j, i < n → j < n → (A i j).log2 < 400000) ∧ (∀ i j, i < n → j < n → (B i j).log2 < 400000) ∧
  ∀ (D : Addr) (ts : List Addr) (H' : Hp), Same H H' → TabM H' D ts n (mul n A B) → Q (.ref D) H'
def spPow : Sp := fun vs H Q _ => ∃ (p : Addr) (rs : List Addr) (n e : Nat) (A : Mx), vs = [.ref p, .int (e : Int)] ∧ TabM H p rs n A ∧ 1 ≤ n ∧ n ≤ 8 ∧ 1 ≤ e ∧ e ≤ 2000 ∧ (∀ i j, A i j ≤ 31) ∧
  ∀ (D : Addr) (ts : List Addr) (H' : Hp), Same H H' → TabM H' D ts n (pw n A e) → Q (.ref D) H'
abbrev NPd : List Str := ["one", "other", "columns", "line", "column", "a", "b"]
abbrev scP1 : Scope := { kind := .function, names := [(".0", .local), ("line", .cell), ("columns", .cell)], isGenerator := false, isCoroutine := false }
abbrev scP2 : Scope := { kind := .function, names := [(".0", .local), ("column", .local), ("sum", .globalImplicit), ("zip", .globalImplicit), ("line", .cell)], isGenerator := false, isCoroutine := false }
abbrev tDot (K : PySem.W.Frag) : TE := tCB (rSum K) (tCons (tLc (ZM.iZipM K (tCons (tVar 3) (tCons (tVar 4) tNil))) (gTup K 2 (gCons (gName 5) (gCons (gName 6) gNil))) tYes (tOp (rI CMulW fun i j => .int (i * j)) (tVar 5) (tVar 6)) [5, 6]) tNil)
abbrev tLine (K : PySem.W.Frag) : TE := tLc (iSeqA K (tVar 2)) (gName 4) tYes (tDot K) [4]
theorem yes_if' {σ : St} {H : Hp} {A B : Hp → Prop} (h : A H) : tYes σ H (fun b H => if b = true then A H else B H) := by
  show (if true = true then A H else B H)
  exact if_t rfl h
section
variable {P : Program} {w : World} {K : PySem.W.Frag} {mg : Str → Option Value} {base : Heap} {f : Addr} {fd : FuncData} {k : Nat}
theorem scProd : FnScope NPd ["one", "other"] (defScope sProd) := ⟨rfl, rfl, rfl, by decide +kernel, rfl, by decide +kernel, by decide +kernel⟩
theorem scPow : FnScope ["table", "exponent", "result", "shift"] ["table", "exponent"] (defScope sPow) := ⟨rfl, rfl, rfl, by decide +kernel, rfl, by decide +kernel, by decide +kernel⟩
/-- a line by a column -/
theorem dot {H : Hp} {r t : Addr} {n i j : Nat} {A B : Mx} {v0 v1 v2 v5 v6 : Option V} {Q : VK} (hr : H r = some (.lst (rowM n A i))) (ht : H t = some (.tup ((List.range n).map fun k => V.int ((B k j : Nat) : Int)))) (h8 : n ≤ 8) (hA : ∀ k, k < n → (A i k).log2 < 400000) (hB : ∀ k, k < n → (B k j).log2 < 400000)
    (q : ∀ H', Same H H' → Q (.int ((mul n A B i j : Nat) : Int)) H') : tDot K [v0, v1, v2, some (.ref r), some (.ref t), v5, v6] H Q := by
  refine ⟨_, rfl, _, rfl, r, t, _, _, rfl, SqL.of hr, SqT.of ht, fun D hD => ?_⟩
  refine lc_it (ZM.walk_mix (n := n) (rowM_len n A i) (by simp)) (fun m H' => Same H H' ∧ H' D = some (.lst ((((List.range n).map fun k => ((A i k * B k j : Nat) : Int)).take m).map V.int))) ⟨same_upd hD, by rw [upd_same]; rfl⟩ (fun m H' _ p => ⟨SqL.of (p.1 _ _ hr), SqT.of (p.1 _ _ ht)⟩) ?_ ?_
  · rintro m x H1 H2 hm ⟨sm1, eD⟩ ⟨Tp, u, v, rfl, nT, rfl, gu, gv⟩
    have eu : u = .int ((A i m : Nat) : Int) := by
      have := rowM_at A i hm
      rw [show (rowM n A i)[m]? = some u from gu] at this
      exact Option.some.inj this
    have ev : v = .int ((B m j : Nat) : Int) := by
      have gv : ((List.range n).map fun k => V.int ((B k j : Nat) : Int))[m]? = some v := gv
      rw [List.getElem?_map, List.getElem?_range hm] at gv
      exact (Option.some.inj gv).symm
    subst eu ev
    have s2 := same_upd (o := .tup [.int ((A i m : Nat) : Int), .int ((B m j : Nat) : Int)]) nT
    refine ⟨Tp, _, rfl, SqT.of upd_same, rfl, _, _, rfl, _, _, rfl, rfl, rfl, ?_⟩
    refine ⟨_, rfl, _, rfl, _, _, rfl, rfl, ?_, _, s2 _ _ eD, ?_, ?_, ?_⟩
    · show ((A i m : Nat) : Int).natAbs.log2 + ((B m j : Nat) : Int).natAbs.log2 < 1000000
      rw [Int.natAbs_natCast, Int.natAbs_natCast]
      have := hA m hm
      have := hB m hm
      omega
    · rw [List.length_map, List.length_take, List.length_map, List.length_range]
      exact small1000 (by omega)
    · intro c o ec
      rw [upd_ne (ne_of_none ec hD)]
      exact s2 _ _ (sm1 _ _ ec)
    · rw [upd_same, List.take_add_one, List.getElem?_map, List.getElem?_range hm, List.map_append]
      show _ = some (HO.lst (_ ++ [V.int ((A i m * B m j : Nat) : Int)]))
      rw [Int.natCast_mul]
  · rintro H1 ⟨sm1, eD⟩
    have e : (((List.range n).map fun k => ((A i k * B k j : Nat) : Int)).take n) = (List.range n).map fun k => ((A i k * B k j : Nat) : Int) := List.take_of_length_le (by simp)
    rw [e] at eD
    refine ⟨D, _, rfl, SqL.of eD, ?_⟩
    rw [sm_int]
    exact q H1 sm1
set_option maxHeartbeats 8000000 in
theorem line {H : Hp} {c r : Addr} {Ts : List Addr} {n i : Nat} {A B : Mx} {v0 v1 v4 v5 v6 : Option V} {Q : VK} (hc : H c = some (.lst (Ts.map V.ref))) (hl : Ts.length = n) (hT : ∀ (j : Nat) (T : Addr), Ts[j]? = some T → H T = some (.tup ((List.range n).map fun k => V.int ((B k j : Nat) : Int))))
    (hr : H r = some (.lst (rowM n A i))) (h8 : n ≤ 8) (hA : ∀ k, k < n → (A i k).log2 < 400000) (hB : ∀ k j, k < n → j < n → (B k j).log2 < 400000)
    (q : ∀ (D : Addr) (H' : Hp), Same H H' → H' D = some (.lst (rowM n (mul n A B) i)) → Q (.ref D) H') : tLine K [v0, v1, some (.ref c), some (.ref r), v4, v5, v6] H Q := by
  refine ⟨_, rfl, c, _, SqL, rfl, .inl rfl, SqL.of hc, fun J w D hD => ?_⟩
  refine lc_it w (fun m H' => Same H H' ∧ H' D = some (.lst ((rowM n (mul n A B) i).take m))) ⟨same_upd hD, by rw [upd_same]; rfl⟩ (fun m H' _ p => SqL.of (p.1 _ _ hc)) ?_ ?_
  · rintro m x H1 H2 hm ⟨sm1, eD⟩ ⟨rfl, gx⟩
    rw [List.length_map, hl] at hm
    rw [List.getElem?_map] at gx
    obtain ⟨T, hTm, rfl⟩ := Option.map_eq_some_iff.mp gx
    refine ⟨rfl, yes_if' ?_⟩
    show tDot K [v0, v1, some (.ref c), some (.ref r), some (.ref T), v5, v6] H2 _
    refine dot (sm1 _ _ hr) (sm1 _ _ (hT m T hTm)) h8 hA (fun k hk => hB k m hk hm) fun H3 s3 => ?_
    refine ⟨_, s3 _ _ eD, ?_, ?_, ?_⟩
    · rw [List.length_take, rowM_len]
      exact small1000 (by omega)
    · intro b o e
      rw [upd_ne (ne_of_none e hD)]
      exact s3 _ _ (sm1 _ _ e)
    · rw [upd_same, List.take_add_one, rowM_at _ i hm]
      rfl
  · rintro H1 ⟨sm1, eD⟩
    rw [List.length_map, hl, List.take_of_length_le (by rw [rowM_len]; exact Nat.le_refl _)] at eD
    exact q D H1 sm1 eD
set_option maxHeartbeats 8000000 in
theorem ok_prod (F : Fun K "product" "product" sProd f fd) (T : Bi mg) (tS : mg "sum" = none) : FnOk P w K mg base CX0 (k + 1) f fd ["one", "other"] spProd := by
  refine F.ok scProd (fun vs H Q E h => ?_) (fun cdv A outer s H vs Q E hr h => ?_)
  · obtain ⟨p, q, rs, qs, n, A, B, rfl, _⟩ := h
    rfl
  · obtain ⟨p, q, rs, qs, n, A, B, rfl, tp, tq, n1, n8, hA, hB, qq⟩ := h
    refine ⟨_, pss_cons (ps_set (i := 2) scProd.nd rfl (.inr rfl) (ZN.pe_listZip rfl (by rfl) T.list (by rfl) T.zip (pv 1)))
      (pss_one (ps_ret (pe_lc (own := [("line", 3)]) (g := gName 3) (tt := tYes) (te := tLine K) rfl scProd.nd (pi_seqA (pv 0)) (blkOk_by (N := NPd) (sc := defScope sProd) (by decide +kernel))
        (fun _ _ _ _ _ => by exact pg_name (i := 3) scProd.nd rfl (Or.inr rfl)) (fun _ _ _ _ _ => pts_nil)
        (fun _ _ _ _ _ => by exact (pe_lc (own := [("column", 4)]) (g := gName 4) (tt := tYes) (te := tDot K) rfl scProd.nd (pi_seqA (pv 2)) (blkOk_by (N := NPd) (sc := scP1) (by decide +kernel))
          (fun _ _ _ _ _ => by exact pg_name (i := 4) scProd.nd rfl (Or.inl rfl)) (fun _ _ _ _ _ => pts_nil)
          (fun _ _ _ _ _ => by exact (pe_callB (cr_sum rfl) (by rfl) tS (by decide +kernel) (pa_cons
            (pe_lc (own := [("a", 5), ("b", 6)]) (g := gTup K 2 (gCons (gName 5) (gCons (gName 6) gNil))) (tt := tYes) (te := tOp (rI CMulW fun i j => .int (i * j)) (tVar 5) (tVar 6)) rfl scProd.nd (ZM.pi_zipM (by rfl) T.zip (pa_cons (pv 3) (pa_cons (pv 4) pa_nil))) (blkOk_by (N := NPd) (sc := scP2) (by decide +kernel))
              (fun _ _ _ _ _ => by exact pg_tup rfl (pgs_cons (pg_name (i := 5) scProd.nd rfl (Or.inl rfl)) (pgs_cons (pg_name (i := 6) scProd.nd rfl (Or.inl rfl)) pgs_nil))) (fun _ _ _ _ _ => pts_nil)
              (fun _ _ _ _ _ => by exact pe_op op_mulW (pv 5) (pv 6))) pa_nil)))))))), ?_⟩
    refine ⟨_, rfl, q, qs, (List.range n).map fun i => rowM n B i, n, rfl, SqL.of tq.ls, by rw [List.length_map, List.length_range, tq.len], fun i l r hl hrr => ?_, fun r hrr => ?_, fun z => ?_, by rw [tq.len]; exact n8, n1, by omega, fun c Ts H1 s1 nc ec lT hT => ?_⟩
    · rw [List.getElem?_map] at hrr
      obtain ⟨i2, hi2, rfl⟩ := Option.map_eq_some_iff.mp hrr
      have hi : i < n := by
        have := (List.getElem?_eq_some_iff.mp hi2).1
        simpa using this
      rw [List.getElem?_range hi] at hi2
      cases hi2
      exact SqL.of (tq.row i l hl)
    · obtain ⟨i, _, rfl⟩ := List.mem_map.mp hrr
      exact rowM_len n B i
    · have := tq.len
      rw [z] at this
      simp at this
      omega
    have hT' : ∀ (j : Nat) (T : Addr), Ts[j]? = some T → H1 T = some (.tup ((List.range n).map fun k => V.int ((B k j : Nat) : Int))) := fun j T e => by
      have hj : j < n := by
        have := (List.getElem?_eq_some_iff.mp e).1
        omega
      rw [(hT j T e).2, List.map_map]
      congr 2
      refine List.map_congr_left fun i hi => ?_
      show (rowM n B i).getD j .non = _
      simp [List.getD, rowM_at B i hj]
    have s1 : Same H H1 := s1
    refine ⟨_, rfl, p, _, SqL, rfl, .inl rfl, SqL.of (s1 _ _ tp.ls), fun J w D hD => ?_⟩
    refine lc_it w (fun m H' => ∃ ts : List Addr, ts.length = m ∧ Same H1 H' ∧ H' D = some (.lst (ts.map V.ref)) ∧ ∀ (a : Nat) (r : Addr), ts[a]? = some r → H' r = some (.lst (rowM n (mul n A B) a)) ∧ r ≠ D) ⟨[], rfl, same_upd hD, upd_same, fun a r e => by cases e⟩ (fun m H' _ p => by obtain ⟨ts, _, s, _⟩ := p; exact SqL.of (s _ _ (s1 _ _ tp.ls))) ?_ ?_
    · rintro m x H2 H3 hm ⟨ts, hts, s2, eD, hh⟩ ⟨rfl, gx⟩
      rw [List.length_map, tp.len] at hm
      rw [List.getElem?_map] at gx
      obtain ⟨r, hrm, rfl⟩ := Option.map_eq_some_iff.mp gx
      refine ⟨rfl, yes_if' ?_⟩
      show tLine K [some (.ref p), some (.ref q), some (.ref c), some (.ref r), none, none, none] H3 _
      refine line (s2 _ _ ec) lT (fun j T e => s2 _ _ (hT' j T e)) (s2 _ _ (s1 _ _ (tp.row m r hrm))) n8 (fun k hk => hA m k hm hk) hB fun D2 H4 s4 e4 => ?_
      have D2D : D2 ≠ D ∨ D2 = D := by
        by_cases h : D2 = D
        · exact .inr h
        · exact .inl h
      have eD4 := s4 _ _ eD
      have ne : D2 ≠ D := fun z => by
        rw [z, eD4] at e4
        injection e4 with e4
        injection e4 with e4
        have lq := congrArg List.length e4
        rw [List.length_map, rowM_len, hts] at lq
        omega
      refine ⟨_, eD4, ?_, ts ++ [D2], by simp [hts], ?_, ?_, ?_⟩
      · rw [List.length_map]
        exact small1000 (by omega)
      · intro b o e
        rw [upd_ne (ne_of_none e hD)]
        exact s4 _ _ (s2 _ _ e)
      · rw [upd_same, List.map_append]
        rfl
      · intro a r2 e
        by_cases ha : a < ts.length
        · rw [List.getElem?_append_left ha] at e
          obtain ⟨h1, h2⟩ := hh a r2 e
          exact ⟨by rw [upd_ne h2]; exact s4 _ _ h1, h2⟩
        · rw [List.getElem?_append_right (by omega)] at e
          have ea : a - ts.length = 0 := by
            by_cases z : a - ts.length = 0
            · exact z
            · obtain ⟨y, hy⟩ : ∃ y, a - ts.length = y + 1 := ⟨a - ts.length - 1, by omega⟩
              rw [hy] at e
              cases e
          rw [ea] at e
          have e := Option.some.inj e
          rw [← e, upd_ne ne]
          have : a = m := by omega
          rw [this]
          exact ⟨e4, ne⟩
    · rintro H2 ⟨ts, hts, s2, eD, hh⟩
      rw [List.length_map, tp.len] at hts
      exact qq D ts H2 (s1.trans s2) ⟨eD, hts, fun a r e => (hh a r e).1⟩
end
end Lw
end
section
set_option Elab.async false
set_option linter.all false
set_option maxRecDepth 100000
/-! power, numbers of paths -/
namespace Lw
open PySem L2
abbrev sCl : Stmt := top 14
abbrev sCP : Stmt := top 20
/-- the power of a table of edges -/
abbrev pwE (n : Int) (us : Es) (e : Nat) : Mx := pw n.toNat (cntN (psOf us)) e
def spCl : Sp := fun vs H Q _ => ∃ e lim : Int, vs = [.int e, .int lim] ∧ 1 ≤ e ∧ e ≤ lim ∧ Q .non H
structure GrOk (C : Addr) (H : Hp) (g : Addr) (n : Int) (us : Es) : Prop where
  gr : GraphAt C H g n us
  n1 : 1 ≤ n
  n8 : n ≤ 8
  l24 : us.length ≤ 24
  rg : ∀ e ∈ us, 0 ≤ e.2.1 ∧ e.2.1 < n ∧ 0 ≤ e.2.2 ∧ e.2.2 < n
def spCP (C : Addr) : Sp := fun vs H Q _ => ∃ (g : Addr) (n : Int) (us : Es) (e : Nat), vs = [.ref g, .int (e : Int)] ∧ GrOk C H g n us ∧ 1 ≤ e ∧ e ≤ 2000 ∧ ∀ H', Same H H' → Q (.int ((sm n.toNat (fun i => sm n.toNat (fun j => pwE n us e i j)) : Nat) : Int)) H'
def spCC (C : Addr) : Sp := fun vs H Q _ => ∃ (g : Addr) (n : Int) (us : Es) (e : Nat), vs = [.ref g, .int (e : Int)] ∧ GrOk C H g n us ∧ 1 ≤ e ∧ e ≤ 2000 ∧ ∀ H', Same H H' → Q (.int ((sm n.toNat (fun i => pwE n us e i i) : Nat) : Int)) H'
theorem bits_nat {e : Nat} (h : 1 ≤ e) : Builtin.Int.intBits ((e : Nat) : Int) = e.log2 + 1 := by
  unfold Builtin.Int.intBits
  rw [if_neg (show ¬ (((e : Nat) : Int) == 0) = true by simpa using (show e ≠ 0 by omega)), Int.natAbs_natCast]
theorem shr_top {e : Nat} (h : 1 ≤ e) : e >>> e.log2 = 1 := by
  rw [Nat.shiftRight_eq_div_pow]
  have h1 : 2 ^ e.log2 ≤ e := Nat.log2_self_le (by omega)
  have h2 : e < 2 ^ (e.log2 + 1) := (Nat.log2_lt (by omega)).mp (Nat.lt_succ_self _)
  rw [Nat.pow_succ] at h2
  have pos : 0 < 2 ^ e.log2 := Nat.pow_pos (by decide)
  refine Nat.le_antisymm (Nat.le_of_lt_succ ((Nat.div_lt_iff_lt_mul pos).mpr ?_)) ((Nat.le_div_iff_mul_le pos).mpr ?_)
  · rw [Nat.mul_comm]
    exact h2
  · omega
theorem shr_le (e s : Nat) : e >>> s ≤ e := by
  rw [Nat.shiftRight_eq_div_pow]
  exact Nat.div_le_self _ _
section
variable {P : Program} {w : World} {K : PySem.W.Frag} {mg : Str → Option Value} {base : Heap} {f C : Addr} {fd : FuncData} {k : Nat}
set_option maxHeartbeats 8000000 in
theorem ok_pow (F : Fun K "power" "power" sPow f fd) (T : Bi mg) (tR : mg "reversed" = none) (cP : C8.Cal P w K mg base 1 "product" spProd []) : FnOk P w K mg base CX0 (k + 2) f fd ["table", "exponent"] spPow := by
  refine F.ok scPow (fun vs H Q E h => ?_) (fun cdv A outer s H vs Q E hr h => ?_)
  · obtain ⟨p, rs, n, e, A, rfl, _⟩ := h
    rfl
  · obtain ⟨p, rs, n, e, A, rfl, tp, n1, n8, e1, e2, hA, qq⟩ := h
    refine ⟨_, pss_cons (ps_set (i := 2) scPow.nd rfl (.inl rfl) (pv 0))
      (pss_cons (ps_for PassesOwn.never rfl (pi_revR (by rfl) tR (prg_1 (by rfl) T.range (pe_op op_sub (pe_bits (pv 1)) pe_int))) (pg_name (i := 3) scPow.nd rfl (.inl rfl))
        (pss_cons (ps_set (i := 2) scPow.nd rfl (.inl rfl) (C8.pe_c cP hr (by omega) (by rfl) (pa_cons (pv 2) (pa_cons (pv 2) pa_nil))))
        (pss_one (ps_if (pt_truth (pe_op op_odd (pe_op op_shrN (pv 1) (pv 3)) pe_int) (fun _ => rfl)) (pss_one (ps_set (i := 2) scPow.nd rfl (.inl rfl) (C8.pe_c cP hr (by omega) (by rfl) (pa_cons (pv 2) (pa_cons (pv 0) pa_nil))))) pss_nil))))
      (pss_one (ps_ret (pv 2)))), ?_⟩
    have hlog : ∀ q i j, q ≤ 4000 → (pw n A q i j).log2 < 400000 := fun q i j hq => by
      have := pw_log n8 hA q i j
      omega
    have hm : ((Builtin.Int.intBits ((e : Nat) : Int) : Nat) : Int) - 1 = ((e.log2 : Nat) : Int) := by
      rw [bits_nat e1]
      omega
    have hl2 : e.log2 < 11 := (Nat.log2_lt (by omega)).mpr (by omega)
    refine ⟨_, rfl, _, rfl, _, rfl, _, _, rfl, rfl, ((e.log2 : Nat) : Int), congrArg V.int hm, by decide, by decide, by omega, by omega, ?_⟩
    have en : (((e.log2 : Nat) : Int) - 0).toNat = e.log2 := by omega
    rw [en]
    refine for_it (walk_rangeC (lo := 0 + ((e.log2 : Nat) : Int) - 1) (c := -1) (n := e.log2)) (fun i σ H' => ∃ (v3 : Option V) (R : Addr) (ts : List Addr), σ = [some (.ref p), some (.int (e : Int)), some (.ref R), v3] ∧ Same H H' ∧ TabM H' R ts n (pw n A (e >>> (e.log2 - i)))) ⟨none, p, rs, rfl, fun _ _ z => z, ?_⟩ (fun _ _ _ _ _ => True.intro) ?_ ?_
    · refine tp.congr fun i j hi hj => ?_
      rw [Nat.sub_zero, shr_top e1, pw_one A hi]
    · rintro i x σ H1 H2 hi ⟨v3, R, ts, rfl, s1, tR⟩ ⟨rfl, hx⟩
      have hs : e.log2 - i = (e.log2 - 1 - i) + 1 := by omega
      have hx : x = .int ((e.log2 - 1 - i : Nat) : Int) := by
        rw [hx]
        show V.int (0 + ((e.log2 : Nat) : Int) - 1 + ((i : Nat) : Int) * -1) = _
        congr 1
        omega
      subst hx
      rw [hs] at tR
      have q1 : e >>> (e.log2 - 1 - i + 1) ≤ 2000 := Nat.le_trans (shr_le _ _) e2
      refine ⟨_, rfl, _, rfl, R, R, ts, ts, n, _, _, rfl, tR, tR, n1, n8, fun i j _ _ => hlog _ i j (by omega), fun i j _ _ => hlog _ i j (by omega), fun R2 ts2 H3 s3 t2 => ?_⟩
      have sq : ((e : Int) / 2 ^ (e.log2 - 1 - i)) = ((e >>> (e.log2 - 1 - i) : Nat) : Int) := by
        rw [Nat.shiftRight_eq_div_pow]
        norm_cast
      have hb := fun (i2 j2 : Nat) (hj : j2 < n) => pw_bit (n := n) A e (e.log2 - 1 - i) (i := i2) hj
      have es : e.log2 - (i + 1) = e.log2 - 1 - i := by omega
      refine ⟨_, rfl, _, rfl, _, _, rfl, rfl, e >>> (e.log2 - 1 - i), congrArg V.int sq, rfl, _, rfl, ite2 (fun h => ?_) (fun h => ?_)⟩
      · have ho : (e >>> (e.log2 - 1 - i)) % 2 = 1 := by
          have h : ((((e >>> (e.log2 - 1 - i)) % 2 : Nat) : Int) != 0) = true := h
          have h := bne_iff_ne.mp h
          omega
        refine ⟨_, rfl, _, rfl, R2, p, ts2, rs, n, _, _, rfl, t2, tp.same (s1.trans s3), n1, n8, fun i j _ hj => ?_, fun i j _ _ => ?_, fun R4 ts4 H4 s4 t4 => ⟨_, R4, ts4, rfl, (s1.trans s3).trans s4, ?_⟩⟩
        · rw [← pw_add A _ _ hj]
          exact hlog _ i j (by omega)
        · have := hA i j
          by_cases z : A i j = 0
          · rw [z]
            decide
          · exact Nat.lt_trans ((Nat.log2_lt z).mpr (show A i j < 2 ^ 5 by omega)) (by decide)
        · rw [es]
          refine t4.congr fun i2 j2 _ hj => ?_
          have := hb i2 j2 hj
          rw [if_pos ho] at this
          exact this
      · have ho : ¬ (e >>> (e.log2 - 1 - i)) % 2 = 1 := fun z => h (by
          show ((((e >>> (e.log2 - 1 - i)) % 2 : Nat) : Int) != 0) = true
          rw [z]
          rfl)
        refine ⟨_, R2, ts2, rfl, s1.trans s3, ?_⟩
        rw [es]
        refine t2.congr fun i2 j2 _ hj => ?_
        have := hb i2 j2 hj
        rw [if_neg ho] at this
        exact this
    · rintro σ H1 ⟨v3, R, ts, rfl, s1, tR⟩
      rw [Nat.sub_self, Nat.shiftRight_zero] at tR
      exact ⟨_, rfl, qq R ts H1 s1 tR⟩
theorem scCl : FnScope ["length", "limit"] ["length", "limit"] (defScope sCl) := ⟨rfl, rfl, rfl, by decide +kernel, rfl, by decide +kernel, by decide +kernel⟩
theorem scCP : FnScope ["graph", "length", "line"] ["graph", "length"] (defScope sCP) := ⟨rfl, rfl, rfl, by decide +kernel, rfl, by decide +kernel, by decide +kernel⟩
theorem ok_cl (F : Fun K "check_length" "check_length" sCl f fd) : FnOk P w K mg base CX0 (k + 1) f fd ["length", "limit"] spCl := by
  refine F.ok scCl (fun vs H Q E h => ?_) (fun cdv A outer s H vs Q E hr h => ?_)
  · obtain ⟨e, l, rfl, _⟩ := h
    rfl
  · obtain ⟨e, l, rfl, h1, h2, q⟩ := h
    refine ⟨_, pss_one (ps_if (pt_not (pt_chain op_le op_le pe_int (pv 0) (pv 1))) (pss_one ps_never) pss_nil), ?_⟩
    refine ⟨_, rfl, _, _, rfl, rfl, _, rfl, if_t (decide_eq_true h1) ⟨_, rfl, _, _, rfl, rfl, _, rfl, ?_⟩⟩
    exact if_f (by rw [decide_eq_true h2]; rfl) q
theorem tab_cnt {H : Hp} {p : Addr} {rs : List Addr} {m : Nat} {ps : List (Int × Int)} (h : CntAt H p rs m ps) : TabM H p rs m (cntN ps) := ⟨h.ls, h.len, fun a r e => h.row a r e⟩
set_option maxHeartbeats 8000000 in
theorem ok_cp (F : Fun K "count_paths" "count_paths" sCP f fd) {tk : Tok} (mx : mg "MAX_COUNTED" = some (.int 2000 tk)) (tS : mg "sum" = none) (cL : C8.Cal P w K mg base 1 "check_length" spCl []) (cW : C8.Cal P w K mg base 2 "power" spPow []) (mC : C8.Met P w K mg base 1 C "counts" (spCounts C) []) : FnOk P w K mg base CX0 (k + 3) f fd ["graph", "length"] (spCP C) := by
  refine F.ok scCP (fun vs H Q E h => ?_) (fun cdv A outer s H vs Q E hr h => ?_)
  · obtain ⟨g, n, us, e, rfl, _⟩ := h
    rfl
  · obtain ⟨g, n, us, e, rfl, G, e1, e2, q⟩ := h
    obtain ⟨⟨dx, t, h1, h2⟩, ed⟩ := id G.gr
    refine ⟨_, pss_cons (ps_expr (C8.pe_c cL hr (by omega) (by rfl) (pa_cons (pv 1) (pa_cons (pe_glob (v := .int 2000) (by rfl) mx ⟨_, rfl⟩) pa_nil))))
      (pss_one (ps_ret (pe_callB (cr_sum rfl) (by rfl) tS (by decide +kernel) (pa_cons
        (pe_lc (own := [("line", 2)]) (g := gName 2) (tt := tYes) (te := tCB (rSum K) (tCons (tVar 2) tNil)) rfl scCP.nd (pi_seqA (C8.pe_c cW hr (by omega) (by rfl) (pa_cons (C8.pe_mt0 mC hr (by omega) (pv 0)) (pa_cons (pv 1) pa_nil)))) (blkOk_by (N := ["graph", "length", "line"]) (sc := defScope sCP) (by decide +kernel))
          (fun _ _ _ _ _ => by exact pg_name (i := 2) scCP.nd rfl (Or.inl rfl)) (fun _ _ _ _ _ => pts_nil)
          (fun _ _ _ _ _ => by exact pe_callB (cr_sum rfl) (by rfl) tS (by decide +kernel) (pa_cons (pv 2) pa_nil))) pa_nil)))), ?_⟩
    have n1 := G.n1
    have n8 := G.n8
    refine ⟨_, rfl, _, _, rfl, by omega, by omega, ?_⟩
    refine ⟨_, rfl, g, dx, _, rfl, h1, look_no _ _ (by decide +kernel) (by decide +kernel), g, n, us, rfl, G.gr, by omega, by omega, Nat.le_trans G.l24 (by decide), G.rg, fun p rs H1 s1 np nr ca => ?_⟩
    refine ⟨_, rfl, p, rs, n.toNat, e, _, rfl, tab_cnt ca, by omega, by omega, e1, e2, fun i j => Nat.le_trans (cntN_le _ _ _) (by unfold psOf; rw [List.length_map]; exact Nat.le_trans G.l24 (by decide)), fun D ts H2 s2 tD => ?_⟩
    refine ⟨D, _, SqL, rfl, .inl rfl, SqL.of tD.ls, fun J w L hL => ?_⟩
    refine lc_it w (fun m H' => Same H2 H' ∧ H' L = some (.lst ((((List.range n.toNat).map fun i => ((sm n.toNat (fun j => pwE n us e i j) : Nat) : Int)).take m).map V.int))) ⟨same_upd hL, by rw [upd_same]; rfl⟩ (fun m H' _ p => SqL.of (p.1 _ _ tD.ls)) ?_ ?_
    · rintro m x H3 H4 hm ⟨s3, eL⟩ ⟨rfl, gx⟩
      rw [List.length_map, tD.len] at hm
      rw [List.getElem?_map] at gx
      obtain ⟨r, hrr, rfl⟩ := Option.map_eq_some_iff.mp gx
      have er : H4 r = some (.lst (((List.range n.toNat).map fun j => ((pwE n us e m j : Nat) : Int)).map V.int)) := by
        rw [s3 _ _ (tD.row m r hrr)]
        unfold rowM
        rw [List.map_map]
        rfl
      refine ⟨rfl, ?_⟩
      refine ⟨_, rfl, r, _, rfl, SqL.of er, ?_⟩
      rw [sm_int]
      refine ⟨_, eL, ?_, ?_, ?_⟩
      · rw [List.length_map, List.length_take, List.length_map, List.length_range]
        exact small1000 (by omega)
      · intro b o ec
        rw [upd_ne (ne_of_none ec hL)]
        exact s3 _ _ ec
      · rw [upd_same, List.take_add_one, List.getElem?_map, List.getElem?_range hm, List.map_append]
        rfl
    · rintro H3 ⟨s3, eL⟩
      rw [List.length_map, tD.len, List.take_of_length_le (by simp)] at eL
      refine ⟨L, _, rfl, SqL.of eL, ?_⟩
      rw [sm_int]
      exact q H3 ((s1.trans s2).trans s3)
end
end Lw
end
section
set_option Elab.async false
set_option linter.all false
set_option maxRecDepth 100000
/-! A second model: a generator that sleeps in `yield from` over a generator sleeps quietly. What runs in the model of the library runs in it too. -/
namespace Sf
open PySem
open Sem (wp)

def softId : String := "soft.yield"
def yfId : String := "proto.yield_from"
def isG (o : Option Obj) : Bool := (o.bind (·.genNumber?)).isSome
def mark : List Value := [.builtin softId]
/-- the generator over which code sleeps -/
def yfOf : Code → Option Addr
  | .builtin id ⟨.ref a :: _, _⟩ => if id = yfId then some a else none
  | _ => none
/-- a tree whose sleeps keep no values -/
def T0 : Sem Fin → Sem Fin
  | .pure x => .pure x
  | .raise e => .raise e
  | .unsupported w => .unsupported w
  | .finish e => .finish e
  | .rule t k => .rule t fun x => T0 (k x)
  | .at p k => .at p fun x => T0 (k x)
  | .load b p k => .load b p fun x => T0 (k x)
  | .update b p f k => .update b p f fun x => T0 (k x)
  | .alloc o k => .alloc o fun x => T0 (k x)
  | .loadIfAlive b k => .loadIfAlive b fun x => T0 (k x)
  | .point l k => .point l fun x => T0 (k x)
  | .register b k => .register b fun x => T0 (k x)
  | .fresh k => .fresh fun x => T0 (k x)
  | .ask k => .ask fun x => T0 (k x)
  | .choose s n k => .choose s n fun x => T0 (k x)
  | .os q l k => .os q l fun x => T0 (k x)
  | .call c h g l k => .call c h g l fun x => T0 (k x)
  | .handled o k => .handled o fun x => T0 (k x)
  | .newGen c k => .newGen c fun x => T0 (k x)
  | .genState g k => .genState g fun x => T0 (k x)
  | .resume g r l k => .resume g r l fun x => T0 (k x)
  | .yield v g _ k => .yield v g [] fun x => T0 (k x)
  | .stack k => .stack fun x => T0 (k x)
  | .fork c k => .fork c fun x => T0 (k x)
  | .thread k => .thread fun x => T0 (k x)
  | .await b f d l k => .await b f d l fun x => T0 (k x)
/-- a tree that sleeps quietly over the generator at a -/
def T (a : Addr) : Sem Fin → Sem Fin
  | .pure x => .pure x
  | .raise e => .raise e
  | .unsupported w => .unsupported w
  | .finish e => .finish e
  | .rule t k => .rule t fun x => T a (k x)
  | .at p k => .at p fun x => T a (k x)
  | .load b p k => .load b p fun x => T a (k x)
  | .update b p f k => .update b p f fun x => T a (k x)
  | .alloc o k => .alloc o fun x => T a (k x)
  | .loadIfAlive b k => .loadIfAlive b fun x => T a (k x)
  | .point l k => .point l fun x => T a (k x)
  | .register b k => .register b fun x => T a (k x)
  | .fresh k => .fresh fun x => T a (k x)
  | .ask k => .ask fun x => T a (k x)
  | .choose s n k => .choose s n fun x => T a (k x)
  | .os q l k => .os q l fun x => T a (k x)
  | .call c h g l k => .call c h g l fun x => T a (k x)
  | .handled o k => .handled o fun x => T a (k x)
  | .newGen c k => .newGen c fun x => T a (k x)
  | .genState g k => .genState g fun x => T a (k x)
  | .resume g r l k => .resume g r l fun x => T a (k x)
  | .yield v g _ k => match g with
    | true => .loadIfAlive a fun o => if isG o then .yield v false mark fun x => T0 (k x) else .yield v true [] fun x => T0 (k x)
    | false => .yield v false [] fun x => T0 (k x)
  | .stack k => .stack fun x => T a (k x)
  | .fork c k => .fork c fun x => T a (k x)
  | .thread k => .thread fun x => T a (k x)
  | .await b f d l k => .await b f d l fun x => T a (k x)
def denS (c : Code) : Sem Fin := match yfOf c with
  | some a => T a (denote table c)
  | none => denote table c
def mp (P : Program) (w : World) : Model := ⟨denS, P, w⟩

/-! ### the relation -/
inductive TR (c : Code) : Sem Fin → Sem Fin → Prop
  | same (h : yfOf c = none) (t) : TR c t t
  | tr {a} (h : yfOf c = some a) (t) : TR c t (T a t)
  | t0 {a} (h : yfOf c = some a) (t) : TR c t (T0 t)
inductive FR : Frame → Frame → Prop
  | ret {k k' : Result → Sem Fin} {c} (hk : ∀ r, TR c (k r) (k' r)) (h g l l' p kp kp') : FR (.ret k h g l c p kp) (.ret k' h g l' c p kp')
  | gen {k k' : GenResult → Sem Fin} {c} (hk : ∀ r, TR c (k r) (k' r)) (g l l' p) : FR (.gen g k l c p) (.gen g k' l' c p)
inductive FsR : List Frame → List Frame → Prop
  | nil : FsR [] []
  | cons {f f' fs fs'} : FR f f' → FsR fs fs' → FsR (f :: fs) (f' :: fs')
/-- S: a soft sleep may stand here -/
inductive GR (S : Prop) : GenState → GenState → Prop
  | fresh (c) : GR S (.fresh c) (.fresh c)
  | running : GR S .running .running
  | finished : GR S .finished .finished
  | susp {k k' : Resume → Sem Fin} {fs fs' c l'} (hk : ∀ r, TR c (k r) (k' r)) (hf : FsR fs fs') (hl : yfOf c = none ∨ l' = []) (l p cl) : GR S (.suspended k l c p fs cl) (.suspended k' l' c p fs' cl)
  | soft {k k' : Resume → Sem Fin} {fs fs' c} (hS : S) (hk : ∀ r, TR c (k r) (k' r)) (hf : FsR fs fs') (l p) : GR S (.suspended k l c p fs false) (.suspended k' mark c p fs' false)
inductive OR (S : Prop) : Option GenState → Option GenState → Prop
  | none : OR S none none
  | some {x y} : GR S x y → OR S (some x) (some y)
structure SR (S : Nat → Prop) (s s' : Shared) : Prop where
  heap : s'.heap = s.heap
  drawn : s'.drawn = s.drawn
  toks : s'.toks = s.toks
  os : s'.os = s.os
  size : s'.gens.size = s.gens.size
  gens : ∀ i : Nat, OR (S i) (s.gens[i]?) (s'.gens[i]?)
inductive ER : End → End → Prop
  | ret (r) : ER (.ret r) (.ret r)
  | susp {k k' : Resume → Sem Fin} {fs fs' c l'} (hk : ∀ r, TR c (k r) (k' r)) (hf : FsR fs fs') (hl : yfOf c = none ∨ l' = []) (v g l p) : ER (.susp v g l k c p fs) (.susp v g l' k' c p fs')
theorem FsR.append {a a' b b' : List Frame} (h : FsR a a') (h2 : FsR b b') : FsR (a ++ b) (a' ++ b') := by
  induction h with
  | nil => exact h2
  | cons x _ ih => exact .cons x ih
theorem FR.where_ {f f' : Frame} (h : FR f f') : f'.where_ = f.where_ := by cases h <;> rfl
theorem FR.guarded {f f' : Frame} (h : FR f f') : f'.guarded = f.guarded := by cases h <;> rfl
theorem FsR.where_ {a b : List Frame} (h : FsR a b) : b.map Frame.where_ = a.map Frame.where_ := by
  induction h with
  | nil => rfl
  | cons x _ ih => rw [List.map_cons, List.map_cons, x.where_, ih]
theorem FsR.guarded {a b : List Frame} (h : FsR a b) : b.any Frame.guarded = a.any Frame.guarded := by
  induction h with
  | nil => rfl
  | cons x _ ih => rw [List.any_cons, List.any_cons, x.guarded, ih]
theorem FsR.marks {a b : List Frame} (h : FsR a b) (x) : marksOver b x = marksOver a x := by
  induction h with
  | nil => rfl
  | cons y _ ih => rw [marksOver_cons, marksOver_cons, ih]; cases y <;> rfl
theorem FsR.top {a b : List Frame} (h : FsR a b) : ∀ k, topHandled.go k b = topHandled.go k a := by
  induction h with
  | nil => intro k; rfl
  | cons y _ ih =>
    intro k
    cases y with
    | ret hk h g l l' p kp kp' =>
      cases k with
      | true => exact ih true
      | false => cases h with
        | none => exact ih false
        | some e =>
          show (if e == byPass then topHandled.go true _ else some e) = if e == byPass then topHandled.go true _ else some e
          rw [ih true]
    | gen hk g l l' p => cases k <;> exact ih false
inductive SpR : Option (List Frame × (Nat × (GenResult → Sem Fin) × Code × Pos) × List Frame) → Option (List Frame × (Nat × (GenResult → Sem Fin) × Code × Pos) × List Frame) → Prop
  | none : SpR none none
  | some {pre pre' g k k' c p rest rest'} : FsR pre pre' → (∀ r, TR c (k r) (k' r)) → FsR rest rest' → SpR (some (pre, (g, k, c, p), rest)) (some (pre', (g, k', c, p), rest'))
theorem FsR.split {a b : List Frame} (h : FsR a b) : SpR (splitAtGen a) (splitAtGen b) := by
  induction h with
  | nil => exact .none
  | @cons f f' fs fs' y r ih =>
    cases y with
    | gen hk g l l' p => rw [splitAtGen_gen, splitAtGen_gen]; exact .some .nil hk r
    | ret hk h g l l' p kp kp' =>
      rw [splitAtGen_ret, splitAtGen_ret]
      generalize splitAtGen fs = x at ih ⊢
      generalize splitAtGen fs' = z at ih ⊢
      cases ih with
      | none => exact .none
      | some i1 i2 i3 => exact .some (.cons (.ret hk ..) i1) i2 i3
theorem FsR.over {a b : List Frame} (h : FsR a b) (Γ : Ctx) : Γ.over b = Γ.over a := by
  unfold Ctx.over
  rw [h.marks, h.where_]
  have hs := h.split
  generalize splitAtGen a = x at hs ⊢
  generalize splitAtGen b = z at hs ⊢
  cases hs with
  | none => simp only [h.marks]
  | some i1 _ _ => simp only; rw [show topHandled _ = topHandled _ from i1.top false]
theorem ER.quiet {e e' : End} (h : ER e e') : e'.quiet = e.quiet := by
  cases h with
  | ret => rfl
  | susp hk hf => simp only [End.quiet, hf.guarded]
theorem ER.result {e e' : End} (h : ER e e') : e'.result = e.result := by cases h <;> rfl
theorem ER.genState {S : Prop} {e e' : End} (h : ER e e') : GR S e.genState e'.genState := by
  cases h with
  | ret => exact .finished
  | susp hk hf hl => simp only [End.genState, hf.guarded]; exact .susp hk hf hl ..
theorem GR.seen {S : Prop} {x y : GenState} (h : GR S x y) : y.seen = x.seen := by
  cases h with
  | susp hk hf => simp only [GenState.seen, hf.where_]
  | soft _ hk hf => simp only [GenState.seen, hf.where_]
  | _ => rfl
section
variable {S : Nat → Prop}
theorem SR.some {s s' : Shared} (h : SR S s s') {g : Nat} {x : GenState} (e : s.gens[g]? = some x) : ∃ y, s'.gens[g]? = some y ∧ GR (S g) x y := by
  have q := h.gens g
  rw [e] at q
  cases h2 : s'.gens[g]? with
  | none => rw [h2] at q; cases q
  | some y => rw [h2] at q; cases q with | some z => exact ⟨y, rfl, z⟩
theorem SR.setGen {s s' : Shared} (h : SR S s s') {x y : GenState} (g : Nat) (hx : GR (S g) x y) : SR S (s.setGen g x) (s'.setGen g y) := by
  refine ⟨h.heap, h.drawn, h.toks, h.os, ?_, fun i => ?_⟩
  · show (s'.gens.setIfInBounds g y).size = (s.gens.setIfInBounds g x).size
    rw [Array.size_setIfInBounds, Array.size_setIfInBounds, h.size]
  · show OR (S i) (s.gens.setIfInBounds g x)[i]? (s'.gens.setIfInBounds g y)[i]?
    by_cases hi : g = i
    · subst hi
      by_cases hl : g < s.gens.size
      · have hl' : g < s'.gens.size := by rw [h.size]; exact hl
        rw [Array.getElem?_setIfInBounds_self_of_lt hl, Array.getElem?_setIfInBounds_self_of_lt hl']
        exact .some hx
      · have hl' : ¬ g < s'.gens.size := by rw [h.size]; exact hl
        rw [Array.getElem?_eq_none (by rw [Array.size_setIfInBounds]; omega), Array.getElem?_eq_none (by rw [Array.size_setIfInBounds]; omega)]
        exact .none
    · rw [Array.getElem?_setIfInBounds_ne hi, Array.getElem?_setIfInBounds_ne hi]
      exact h.gens i
theorem SR.push {s s' : Shared} (h : SR S s s') (c : Code)  : SR S { s with gens := s.gens.push (.fresh c) } { s' with gens := s'.gens.push (.fresh c) } := by
  refine ⟨h.heap, h.drawn, h.toks, h.os, ?_, fun i => ?_⟩
  · show (s'.gens.push _).size = (s.gens.push _).size
    rw [Array.size_push, Array.size_push, h.size]
  · show OR (S i) (s.gens.push _)[i]? (s'.gens.push _)[i]?
    rw [Array.getElem?_push, Array.getElem?_push, h.size]
    split
    · exact .some (.fresh _)
    · exact h.gens i
theorem SR.heapTo {s s' : Shared} (h : SR S s s') (hp : Heap)  : SR S { s with heap := hp } { s' with heap := hp } := ⟨rfl, h.drawn, h.toks, h.os, h.size, h.gens⟩

theorem SR.toksTo {s s' : Shared} (h : SR S s s') (x) : SR S { s with toks := x } { s' with toks := x } := ⟨h.heap, h.drawn, rfl, h.os, h.size, h.gens⟩
theorem SR.drawnTo {s s' : Shared} (h : SR S s s') (x) : SR S { s with drawn := x } { s' with drawn := x } := ⟨h.heap, rfl, h.toks, h.os, h.size, h.gens⟩
theorem SR.osTo {s s' : Shared} (h : SR S s s') (x) : SR S { s with os := x } { s' with os := x } := ⟨h.heap, h.drawn, h.toks, rfl, h.size, h.gens⟩
end
end Sf
end
section
set_option Elab.async false
set_option linter.all false
set_option maxRecDepth 100000
namespace Sf
open PySem
open Sem (wp)
section
variable {P : Program} {w : World}
theorem tr_den (c : Code) : TR c ((model P w).den c) ((mp P w).den c) := by
  show TR c (denote table c) (denS c)
  unfold denS
  cases h : yfOf c with
  | none => exact .same h _
  | some a => exact .tr h _
variable {S : Nat → Prop}
theorem gs_fresh {s s' : Shared} (h : SR S s s') {g : Nat} {c : Code} (e : s.gens[g]? = some (.fresh c)) : s'.gens[g]? = some (.fresh c) := by
  obtain ⟨y, hy, q⟩ := h.some e
  cases q
  exact hy
theorem gs_run {s s' : Shared} (h : SR S s s') {g : Nat} (e : s.gens[g]? = some .running) : s'.gens[g]? = some .running := by
  obtain ⟨y, hy, q⟩ := h.some e
  cases q
  exact hy
theorem gs_fin {s s' : Shared} (h : SR S s s') {g : Nat} (e : s.gens[g]? = some .finished) : s'.gens[g]? = some .finished := by
  obtain ⟨y, hy, q⟩ := h.some e
  cases q
  exact hy
theorem gs_susp {s s' : Shared} (h : SR S s s') {g : Nat} {k l c p fs cl} (e : s.gens[g]? = some (.suspended k l c p fs cl)) : ∃ k' l' fs', s'.gens[g]? = some (.suspended k' l' c p fs' cl) ∧ (∀ r, TR c (k r) (k' r)) ∧ FsR fs fs' := by
  obtain ⟨y, hy, q⟩ := h.some e
  cases q with
  | susp hk hf => exact ⟨_, _, _, hy, hk, hf⟩
  | soft _ hk hf => exact ⟨_, _, _, hy, hk, hf⟩
theorem er_ret {r : Result} {e' : End} (h : ER (.ret r) e') : e' = .ret r := by cases h; rfl
theorem quiet_append {v g l k c p fs fs2} (h : (End.susp v g l k c p (fs ++ fs2)).quiet = true) : (End.susp v g l k c p fs).quiet = true := by
  simp only [End.quiet, List.any_append] at h ⊢
  simp only [Bool.not_eq_true', Bool.or_eq_false_iff] at h ⊢
  exact ⟨h.1, h.2.1⟩
/-- what runs quietly in the library's model runs in this one -/
theorem up {Γ : Ctx} {p : Pos} {t : Sem Fin} {fs : List Frame} {s s₁ : Shared} {e : End} (h : Runs (model P w) Γ p t fs s e s₁) : e.quiet = true → ∀ {t' : Sem Fin} {fs' : List Frame} {s' : Shared}, TR Γ.code t t' → FsR fs fs' → SR S s s' →
    ∃ e' s₁', Runs (mp P w) Γ p t' fs' s' e' s₁' ∧ ER e e' ∧ SR S s₁ s₁' := by
  induction h with
  | done => intro _ t' fs' s' ht hf hs; cases hf; cases ht <;> exact ⟨_, _, .done, .ret _, hs⟩
  | raise => intro _ t' fs' s' ht hf hs; cases hf; cases ht <;> exact ⟨_, _, .raise, .ret _, hs⟩
  | again hq h ih => 
    intro he t' fs' s' ht hf hs; cases hf
    obtain ⟨e', s₁', h1, h2, h3⟩ := ih he (tr_den _) .nil hs
    cases ht <;> exact ⟨e', s₁', .again hq h1, h2, h3⟩
  | rule h ih => intro he t' fs' s' ht hf hs; cases hf; cases ht with
    | same hy => obtain ⟨e', s₁', h1, h2, h3⟩ := ih he (.same hy _) .nil hs; exact ⟨e', s₁', .rule h1, h2, h3⟩
    | tr hy => obtain ⟨e', s₁', h1, h2, h3⟩ := ih he (.tr hy _) .nil hs; exact ⟨e', s₁', .rule h1, h2, h3⟩
    | t0 hy => obtain ⟨e', s₁', h1, h2, h3⟩ := ih he (.t0 hy _) .nil hs; exact ⟨e', s₁', .rule h1, h2, h3⟩
  | «at» h ih => intro he t' fs' s' ht hf hs; cases hf; cases ht with
    | same hy => obtain ⟨e', s₁', h1, h2, h3⟩ := ih he (.same hy _) .nil hs; exact ⟨e', s₁', .at h1, h2, h3⟩
    | tr hy => obtain ⟨e', s₁', h1, h2, h3⟩ := ih he (.tr hy _) .nil hs; exact ⟨e', s₁', .at h1, h2, h3⟩
    | t0 hy => obtain ⟨e', s₁', h1, h2, h3⟩ := ih he (.t0 hy _) .nil hs; exact ⟨e', s₁', .at h1, h2, h3⟩
  | load ho h ih => intro he t' fs' s' ht hf hs; cases hf; cases ht with
    | same hy => obtain ⟨e', s₁', h1, h2, h3⟩ := ih he (.same hy _) .nil hs; exact ⟨e', s₁', .load (by rw [hs.heap]; exact ho) h1, h2, h3⟩
    | tr hy => obtain ⟨e', s₁', h1, h2, h3⟩ := ih he (.tr hy _) .nil hs; exact ⟨e', s₁', .load (by rw [hs.heap]; exact ho) h1, h2, h3⟩
    | t0 hy => obtain ⟨e', s₁', h1, h2, h3⟩ := ih he (.t0 hy _) .nil hs; exact ⟨e', s₁', .load (by rw [hs.heap]; exact ho) h1, h2, h3⟩
  | @update s a Γ p k f e s' part ho h ih => intro he t' fs' s2 ht hf hs; cases hf; cases ht with
    | same hy => obtain ⟨e', s₁', h1, h2, h3⟩ := ih he (.same hy _) .nil (hs.heapTo _); exact ⟨e', s₁', .update (by rw [hs.heap]; exact ho) (by rw [hs.heap]; exact h1), h2, h3⟩
    | tr hy => obtain ⟨e', s₁', h1, h2, h3⟩ := ih he (.tr hy _) .nil (hs.heapTo _); exact ⟨e', s₁', .update (by rw [hs.heap]; exact ho) (by rw [hs.heap]; exact h1), h2, h3⟩
    | t0 hy => obtain ⟨e', s₁', h1, h2, h3⟩ := ih he (.t0 hy _) .nil (hs.heapTo _); exact ⟨e', s₁', .update (by rw [hs.heap]; exact ho) (by rw [hs.heap]; exact h1), h2, h3⟩
  | loadIfAlive h ih => intro he t' fs' s' ht hf hs; cases hf; cases ht with
    | same hy => obtain ⟨e', s₁', h1, h2, h3⟩ := ih he (.same hy _) .nil hs; exact ⟨e', s₁', .loadIfAlive (by rw [hs.heap]; exact h1), h2, h3⟩
    | tr hy => obtain ⟨e', s₁', h1, h2, h3⟩ := ih he (.tr hy _) .nil hs; exact ⟨e', s₁', .loadIfAlive (by rw [hs.heap]; exact h1), h2, h3⟩
    | t0 hy => obtain ⟨e', s₁', h1, h2, h3⟩ := ih he (.t0 hy _) .nil hs; exact ⟨e', s₁', .loadIfAlive (by rw [hs.heap]; exact h1), h2, h3⟩
  | point h ih => intro he t' fs' s' ht hf hs; cases hf; cases ht with
    | same hy => obtain ⟨e', s₁', h1, h2, h3⟩ := ih he (.same hy _) .nil hs; exact ⟨e', s₁', .point h1, h2, h3⟩
    | tr hy => obtain ⟨e', s₁', h1, h2, h3⟩ := ih he (.tr hy _) .nil hs; exact ⟨e', s₁', .point h1, h2, h3⟩
    | t0 hy => obtain ⟨e', s₁', h1, h2, h3⟩ := ih he (.t0 hy _) .nil hs; exact ⟨e', s₁', .point h1, h2, h3⟩
  | alloc h ih => intro he t' fs' s' ht hf hs; cases hf; cases ht with
    | same hy => obtain ⟨e', s₁', h1, h2, h3⟩ := ih he (.same hy _) .nil (hs.heapTo _); exact ⟨e', s₁', .alloc (by rw [hs.heap]; exact h1), h2, h3⟩
    | tr hy => obtain ⟨e', s₁', h1, h2, h3⟩ := ih he (.tr hy _) .nil (hs.heapTo _); exact ⟨e', s₁', .alloc (by rw [hs.heap]; exact h1), h2, h3⟩
    | t0 hy => obtain ⟨e', s₁', h1, h2, h3⟩ := ih he (.t0 hy _) .nil (hs.heapTo _); exact ⟨e', s₁', .alloc (by rw [hs.heap]; exact h1), h2, h3⟩
  | fresh h ih => intro he t' fs' s' ht hf hs; cases hf; cases ht with
    | same hy => obtain ⟨e', s₁', h1, h2, h3⟩ := ih he (.same hy _) .nil (hs.toksTo _); exact ⟨e', s₁', .fresh (by rw [hs.toks]; exact h1), h2, h3⟩
    | tr hy => obtain ⟨e', s₁', h1, h2, h3⟩ := ih he (.tr hy _) .nil (hs.toksTo _); exact ⟨e', s₁', .fresh (by rw [hs.toks]; exact h1), h2, h3⟩
    | t0 hy => obtain ⟨e', s₁', h1, h2, h3⟩ := ih he (.t0 hy _) .nil (hs.toksTo _); exact ⟨e', s₁', .fresh (by rw [hs.toks]; exact h1), h2, h3⟩
  | ask h ih => intro he t' fs' s' ht hf hs; cases hf; cases ht with
    | same hy => obtain ⟨e', s₁', h1, h2, h3⟩ := ih he (.same hy _) .nil hs; exact ⟨e', s₁', .ask h1, h2, h3⟩
    | tr hy => obtain ⟨e', s₁', h1, h2, h3⟩ := ih he (.tr hy _) .nil hs; exact ⟨e', s₁', .ask h1, h2, h3⟩
    | t0 hy => obtain ⟨e', s₁', h1, h2, h3⟩ := ih he (.t0 hy _) .nil hs; exact ⟨e', s₁', .ask h1, h2, h3⟩
  | choose hn h ih => intro he t' fs' s' ht hf hs; cases hf; cases ht with
    | same hy => obtain ⟨e', s₁', h1, h2, h3⟩ := ih he (.same hy _) .nil (hs.drawnTo _); exact ⟨e', s₁', .choose hn (by rw [hs.drawn]; exact h1), h2, h3⟩
    | tr hy => obtain ⟨e', s₁', h1, h2, h3⟩ := ih he (.tr hy _) .nil (hs.drawnTo _); exact ⟨e', s₁', .choose hn (by rw [hs.drawn]; exact h1), h2, h3⟩
    | t0 hy => obtain ⟨e', s₁', h1, h2, h3⟩ := ih he (.t0 hy _) .nil (hs.drawnTo _); exact ⟨e', s₁', .choose hn (by rw [hs.drawn]; exact h1), h2, h3⟩
  | os h ih => intro he t' fs' s' ht hf hs; cases hf; cases ht with
    | same hy => obtain ⟨e', s₁', h1, h2, h3⟩ := ih he (.same hy _) .nil (hs.osTo _); exact ⟨e', s₁', .os (by rw [hs.os]; exact h1), h2, h3⟩
    | tr hy => obtain ⟨e', s₁', h1, h2, h3⟩ := ih he (.tr hy _) .nil (hs.osTo _); exact ⟨e', s₁', .os (by rw [hs.os]; exact h1), h2, h3⟩
    | t0 hy => obtain ⟨e', s₁', h1, h2, h3⟩ := ih he (.t0 hy _) .nil (hs.osTo _); exact ⟨e', s₁', .os (by rw [hs.os]; exact h1), h2, h3⟩
  | handled h ih => intro he t' fs' s' ht hf hs; cases hf; cases ht with
    | same hy => obtain ⟨e', s₁', h1, h2, h3⟩ := ih he (.same hy _) .nil hs; exact ⟨e', s₁', .handled h1, h2, h3⟩
    | tr hy => obtain ⟨e', s₁', h1, h2, h3⟩ := ih he (.tr hy _) .nil hs; exact ⟨e', s₁', .handled h1, h2, h3⟩
    | t0 hy => obtain ⟨e', s₁', h1, h2, h3⟩ := ih he (.t0 hy _) .nil hs; exact ⟨e', s₁', .handled h1, h2, h3⟩
  | genState hg h ih =>
    intro he t' fs' s' ht hf hs; cases hf
    obtain ⟨y, hyg, q⟩ := hs.some hg
    cases ht with
    | same hy => obtain ⟨e', s₁', h1, h2, h3⟩ := ih he (.same hy _) .nil hs; exact ⟨e', s₁', .genState hyg (by rw [q.seen]; exact h1), h2, h3⟩
    | tr hy => obtain ⟨e', s₁', h1, h2, h3⟩ := ih he (.tr hy _) .nil hs; exact ⟨e', s₁', .genState hyg (by rw [q.seen]; exact h1), h2, h3⟩
    | t0 hy => obtain ⟨e', s₁', h1, h2, h3⟩ := ih he (.t0 hy _) .nil hs; exact ⟨e', s₁', .genState hyg (by rw [q.seen]; exact h1), h2, h3⟩
  | stack h ih => intro he t' fs' s' ht hf hs; cases hf; cases ht with
    | same hy => obtain ⟨e', s₁', h1, h2, h3⟩ := ih he (.same hy _) .nil hs; exact ⟨e', s₁', .stack h1, h2, h3⟩
    | tr hy => obtain ⟨e', s₁', h1, h2, h3⟩ := ih he (.tr hy _) .nil hs; exact ⟨e', s₁', .stack h1, h2, h3⟩
    | t0 hy => obtain ⟨e', s₁', h1, h2, h3⟩ := ih he (.t0 hy _) .nil hs; exact ⟨e', s₁', .stack h1, h2, h3⟩
  | thread h ih => intro he t' fs' s' ht hf hs; cases hf; cases ht with
    | same hy => obtain ⟨e', s₁', h1, h2, h3⟩ := ih he (.same hy _) .nil hs; exact ⟨e', s₁', .thread h1, h2, h3⟩
    | tr hy => obtain ⟨e', s₁', h1, h2, h3⟩ := ih he (.tr hy _) .nil hs; exact ⟨e', s₁', .thread h1, h2, h3⟩
    | t0 hy => obtain ⟨e', s₁', h1, h2, h3⟩ := ih he (.t0 hy _) .nil hs; exact ⟨e', s₁', .thread h1, h2, h3⟩
  | newGen h ih => intro he t' fs' s' ht hf hs; cases hf; cases ht with
    | same hy => obtain ⟨e', s₁', h1, h2, h3⟩ := ih he (.same hy _) .nil (hs.push _); exact ⟨e', s₁', .newGen (by rw [hs.size]; exact h1), h2, h3⟩
    | tr hy => obtain ⟨e', s₁', h1, h2, h3⟩ := ih he (.tr hy _) .nil (hs.push _); exact ⟨e', s₁', .newGen (by rw [hs.size]; exact h1), h2, h3⟩
    | t0 hy => obtain ⟨e', s₁', h1, h2, h3⟩ := ih he (.t0 hy _) .nil (hs.push _); exact ⟨e', s₁', .newGen (by rw [hs.size]; exact h1), h2, h3⟩
  | call h hk ih ihk =>
    intro he t' fs' s' ht hf hs; cases hf
    obtain ⟨e₁, s₂, h1, h2, h3⟩ := ih rfl (tr_den _) .nil hs
    cases er_ret h2
    cases ht with
    | same hy => obtain ⟨e', s₁', q1, q2, q3⟩ := ihk he (.same hy _) .nil h3; exact ⟨e', s₁', .call h1 q1, q2, q3⟩
    | tr hy => obtain ⟨e', s₁', q1, q2, q3⟩ := ihk he (.tr hy _) .nil h3; exact ⟨e', s₁', .call h1 q1, q2, q3⟩
    | t0 hy => obtain ⟨e', s₁', q1, q2, q3⟩ := ihk he (.t0 hy _) .nil h3; exact ⟨e', s₁', .call h1 q1, q2, q3⟩
  | callSusp h ih =>
    intro he t' fs' s' ht hf hs; cases hf
    obtain ⟨e₁, s₂, h1, h2, h3⟩ := ih (quiet_append he) (tr_den _) .nil hs
    cases h2 with
    | susp hk hf hl =>
      cases ht with
      | same hy => exact ⟨_, _, .callSusp h1, .susp hk (hf.append (.cons (.ret (fun r => .same hy _) ..) .nil)) hl .., h3⟩
      | tr hy => exact ⟨_, _, .callSusp h1, .susp hk (hf.append (.cons (.ret (fun r => .tr hy _) ..) .nil)) hl .., h3⟩
      | t0 hy => exact ⟨_, _, .callSusp h1, .susp hk (hf.append (.cons (.ret (fun r => .t0 hy _) ..) .nil)) hl .., h3⟩
  | @«yield» _ _ v g l k s0 =>
    intro he t' fs' s' ht hf hs; cases hf
    cases ht with
    | same hy => exact ⟨_, _, .yield, .susp (fun _ => .same hy _) .nil (.inl hy) .., hs⟩
    | t0 hy => exact ⟨_, _, .yield, .susp (fun _ => .t0 hy _) .nil (.inr rfl) .., hs⟩
    | tr hy =>
      cases g with
      | false => exact ⟨_, _, .yield, .susp (fun _ => .t0 hy _) .nil (.inr rfl) .., hs⟩
      | true => exact absurd he (by simp [End.quiet])
  | resumeFresh hg h hq hk ih ihk =>
    intro he t' fs' s' ht hf hs; cases hf
    obtain ⟨e₁, s₂, h1, h2, h3⟩ := ih hq (tr_den _) .nil (hs.setGen _ .running)
    have h4 := fun g => h3.setGen g (h2.genState (S := S g))
    cases ht with
    | same hy => obtain ⟨e', s₁', q1, q2, q3⟩ := ihk he (.same hy _) .nil (h4 _); exact ⟨e', s₁', .resumeFresh (gs_fresh hs hg) h1 (by rw [h2.quiet]; exact hq) (by rw [h2.result]; exact q1), q2, q3⟩
    | tr hy => obtain ⟨e', s₁', q1, q2, q3⟩ := ihk he (.tr hy _) .nil (h4 _); exact ⟨e', s₁', .resumeFresh (gs_fresh hs hg) h1 (by rw [h2.quiet]; exact hq) (by rw [h2.result]; exact q1), q2, q3⟩
    | t0 hy => obtain ⟨e', s₁', q1, q2, q3⟩ := ihk he (.t0 hy _) .nil (h4 _); exact ⟨e', s₁', .resumeFresh (gs_fresh hs hg) h1 (by rw [h2.quiet]; exact hq) (by rw [h2.result]; exact q1), q2, q3⟩
  | resumeSuspended hg h hq hk ih ihk =>
    intro he t' fs' s' ht hf hs; cases hf
    obtain ⟨k', l2, fs2, hg', hk2, hf2⟩ := gs_susp hs hg
    obtain ⟨e₁, s₂, h1, h2, h3⟩ := ih hq (hk2 _) hf2 (hs.setGen _ .running)
    have h4 := fun g => h3.setGen g (h2.genState (S := S g))
    cases ht with
    | same hy => obtain ⟨e', s₁', q1, q2, q3⟩ := ihk he (.same hy _) .nil (h4 _); exact ⟨e', s₁', .resumeSuspended hg' h1 (by rw [h2.quiet]; exact hq) (by rw [h2.result]; exact q1), q2, q3⟩
    | tr hy => obtain ⟨e', s₁', q1, q2, q3⟩ := ihk he (.tr hy _) .nil (h4 _); exact ⟨e', s₁', .resumeSuspended hg' h1 (by rw [h2.quiet]; exact hq) (by rw [h2.result]; exact q1), q2, q3⟩
    | t0 hy => obtain ⟨e', s₁', q1, q2, q3⟩ := ihk he (.t0 hy _) .nil (h4 _); exact ⟨e', s₁', .resumeSuspended hg' h1 (by rw [h2.quiet]; exact hq) (by rw [h2.result]; exact q1), q2, q3⟩
  | resumeJustStarted hg hv h ih => intro he t' fs' s' ht hf hs; cases hf; cases ht with
    | same hy => obtain ⟨e', s₁', h1, h2, h3⟩ := ih he (.same hy _) .nil hs; exact ⟨e', s₁', .resumeJustStarted (gs_fresh hs hg) hv h1, h2, h3⟩
    | tr hy => obtain ⟨e', s₁', h1, h2, h3⟩ := ih he (.tr hy _) .nil hs; exact ⟨e', s₁', .resumeJustStarted (gs_fresh hs hg) hv h1, h2, h3⟩
    | t0 hy => obtain ⟨e', s₁', h1, h2, h3⟩ := ih he (.t0 hy _) .nil hs; exact ⟨e', s₁', .resumeJustStarted (gs_fresh hs hg) hv h1, h2, h3⟩
  | resumeThrowFresh hg h ih => intro he t' fs' s' ht hf hs; cases hf; cases ht with
    | same hy => obtain ⟨e', s₁', h1, h2, h3⟩ := ih he (.same hy _) .nil (hs.setGen _ .finished); exact ⟨e', s₁', .resumeThrowFresh (gs_fresh hs hg) h1, h2, h3⟩
    | tr hy => obtain ⟨e', s₁', h1, h2, h3⟩ := ih he (.tr hy _) .nil (hs.setGen _ .finished); exact ⟨e', s₁', .resumeThrowFresh (gs_fresh hs hg) h1, h2, h3⟩
    | t0 hy => obtain ⟨e', s₁', h1, h2, h3⟩ := ih he (.t0 hy _) .nil (hs.setGen _ .finished); exact ⟨e', s₁', .resumeThrowFresh (gs_fresh hs hg) h1, h2, h3⟩
  | resumeRunning hg h ih => intro he t' fs' s' ht hf hs; cases hf; cases ht with
    | same hy => obtain ⟨e', s₁', h1, h2, h3⟩ := ih he (.same hy _) .nil hs; exact ⟨e', s₁', .resumeRunning (gs_run hs hg) h1, h2, h3⟩
    | tr hy => obtain ⟨e', s₁', h1, h2, h3⟩ := ih he (.tr hy _) .nil hs; exact ⟨e', s₁', .resumeRunning (gs_run hs hg) h1, h2, h3⟩
    | t0 hy => obtain ⟨e', s₁', h1, h2, h3⟩ := ih he (.t0 hy _) .nil hs; exact ⟨e', s₁', .resumeRunning (gs_run hs hg) h1, h2, h3⟩
  | resumeFinished hg h ih => intro he t' fs' s' ht hf hs; cases hf; cases ht with
    | same hy => obtain ⟨e', s₁', h1, h2, h3⟩ := ih he (.same hy _) .nil hs; exact ⟨e', s₁', .resumeFinished (gs_fin hs hg) h1, h2, h3⟩
    | tr hy => obtain ⟨e', s₁', h1, h2, h3⟩ := ih he (.tr hy _) .nil hs; exact ⟨e', s₁', .resumeFinished (gs_fin hs hg) h1, h2, h3⟩
    | t0 hy => obtain ⟨e', s₁', h1, h2, h3⟩ := ih he (.t0 hy _) .nil hs; exact ⟨e', s₁', .resumeFinished (gs_fin hs hg) h1, h2, h3⟩
  | segRet h hk ih ihk =>
    intro he t' fs' s' ht hf hs
    have hov := hf.over
    cases hf with
    | cons hF hr =>
      cases hF with
      | ret hk' =>
        obtain ⟨e₁, s₂, h1, h2, h3⟩ := ih rfl ht .nil hs
        cases er_ret h2
        obtain ⟨e', s₁', q1, q2, q3⟩ := ihk he (hk' _) hr h3
        exact ⟨e', s₁', .segRet (by rw [hov]; exact h1) q1, q2, q3⟩
  | segGen h hk ih ihk =>
    intro he t' fs' s' ht hf hs
    have hov := hf.over
    cases hf with
    | cons hF hr =>
      cases hF with
      | gen hk' =>
        obtain ⟨e₁, s₂, h1, h2, h3⟩ := ih rfl ht .nil hs
        cases er_ret h2
        obtain ⟨e', s₁', q1, q2, q3⟩ := ihk he (hk' _) hr (h3.setGen _ .finished)
        exact ⟨e', s₁', .segGen (by rw [hov]; exact h1) q1, q2, q3⟩
  | segSuspOut hsp h ih =>
    intro he t' fs' s' ht hf hs
    obtain ⟨e₁, s₂, h1, h2, h3⟩ := ih (quiet_append he) ht .nil hs
    have hov := hf.over
    have hsplit := hf.split
    rw [hsp] at hsplit
    cases h2 with
    | susp hk hf2 hl =>
      have happ := hf2.append hf
      cases hf with
      | cons hF hr =>
        generalize hz : splitAtGen _ = z at hsplit
        cases hsplit
        exact ⟨_, _, .segSuspOut hz (by rw [hov]; exact h1), .susp hk happ hl .., h3⟩
  | @segSuspGen _ _ _ _ _ _ _ _ _ _ _ _ v g₀ l₀ _ c₀ p₀ _ _ _ _ hsp h hq hk ih ihk =>
    intro he t' fs' s' ht hf hs
    obtain ⟨e₁, s₂, h1, h2, h3⟩ := ih (quiet_append hq) ht .nil hs
    have hov := hf.over
    have hsplit := hf.split
    rw [hsp] at hsplit
    cases h2 with
    | susp hk2 hf2 hl =>
      generalize hz : splitAtGen fs' = z at hsplit
      cases hsplit with
      | some i1 i2 i3 =>
        have hee := ER.susp hk2 (hf2.append i1) hl v g₀ l₀ p₀
        obtain ⟨e', s₁', q1, q2, q3⟩ := ihk he (i2 _) i3 (h3.setGen _ hee.genState)
        cases hf with
        | cons hF hr => exact ⟨e', s₁', .segSuspGen hz (by rw [hov]; exact h1) (by rw [hee.quiet]; exact hq) q1, q2, q3⟩
end
end Sf
end
section
set_option Elab.async false
set_option linter.all false
set_option maxRecDepth 100000
namespace Sf
open PySem
open Sem (wp)
section
variable {P : Program} {w : World} {S : Nat → Prop}
theorem returns_up {Γ : Ctx} {p : Pos} {s s' s₁ : Shared} {r : Result} (h : Returns (model P w) Γ p s r s₁) (hs : SR S s s') : ∃ s₁', Returns (mp P w) Γ p s' r s₁' ∧ SR S s₁ s₁' := by
  obtain ⟨e', s₁', h1, h2, h3⟩ := up h rfl (tr_den _) .nil hs
  cases er_ret h2
  exact ⟨s₁', h1, h3⟩
theorem wakes_up {Γ : Ctx} {p : Pos} {g : Nat} {r : Resume} {s s' s₁ : Shared} {res : GenResult} (h : Wakes (model P w) Γ p g r s res s₁) (hs : SR S s s') : ∃ s₁', Wakes (mp P w) Γ p g r s' res s₁' ∧ SR S s₁ s₁' := by
  unfold Wakes at h ⊢
  generalize hg : s.gens[g]? = x at h
  cases x with
  | none => exact h.elim
  | some x =>
    cases x with
    | fresh c =>
      rw [gs_fresh hs hg]
      dsimp only at h ⊢
      cases r with
      | send v =>
        by_cases hv : v = .none
        · subst hv
          obtain ⟨e₁, s₂, h1, h2, rfl, rfl⟩ := h
          obtain ⟨e', s₂', q1, q2, q3⟩ := up h1 h2 (tr_den _) .nil (hs.setGen _ .running)
          exact ⟨_, ⟨e', s₂', q1, by rw [q2.quiet]; exact h2, q2.result.symm, rfl⟩, q3.setGen _ q2.genState⟩
        · have hx : res = .justStarted ∧ s₁ = s := by
            cases v <;> first | exact absurd rfl hv | exact h
          obtain ⟨rfl, rfl⟩ := hx
          refine ⟨s', ?_, hs⟩
          cases v <;> first | exact absurd rfl hv | exact ⟨rfl, rfl⟩
      | throw x =>
        obtain ⟨rfl, rfl⟩ := h
        exact ⟨_, ⟨rfl, rfl⟩, hs.setGen _ .finished⟩
    | suspended k l c p fs cl =>
      obtain ⟨k', l2, fs2, hg', hk2, hf2⟩ := gs_susp hs hg
      rw [hg']
      dsimp only at h ⊢
      obtain ⟨e₁, s₂, h1, h2, rfl, rfl⟩ := h
      obtain ⟨e', s₂', q1, q2, q3⟩ := up h1 h2 (hk2 _) hf2 (hs.setGen _ .running)
      exact ⟨_, ⟨e', s₂', q1, by rw [q2.quiet]; exact h2, q2.result.symm, rfl⟩, q3.setGen _ q2.genState⟩
    | running =>
      rw [gs_run hs hg]
      obtain ⟨rfl, rfl⟩ := h
      exact ⟨s', ⟨rfl, rfl⟩, hs⟩
    | finished =>
      rw [gs_fin hs hg]
      obtain ⟨rfl, rfl⟩ := h
      exact ⟨s', ⟨rfl, rfl⟩, hs⟩

theorem lift {α : Type} (t : Sem α) : ∀ {Γ : Ctx} {Q : α → Pos → Shared → Prop} {E : Value → Pos → Shared → Prop} {p : Pos} {s s' : Shared}, SR S s s' → wp (model P w) Γ t Q E p s →
    wp (mp P w) Γ t (fun a p x' => ∃ x, SR S x x' ∧ Q a p x) (fun e p x' => ∃ x, SR S x x' ∧ E e p x) p s' := by
  induction t with
  | pure a => intro Γ Q E p s s' hs h; exact ⟨s, hs, h⟩
  | raise e => intro Γ Q E p s s' hs h; exact ⟨s, hs, h⟩
  | unsupported _ => intro Γ Q E p s s' hs h; exact h.elim
  | finish _ => intro Γ Q E p s s' hs h; exact h.elim
  | rule _ k ih => intro Γ Q E p s s' hs h; exact ih () hs h
  | «at» _ k ih => intro Γ Q E p s s' hs h; exact ih () hs h
  | load a _ k ih => intro Γ Q E p s s' hs h; obtain ⟨o, ho, h⟩ := h; exact ⟨o, by rw [hs.heap]; exact ho, ih o hs h⟩
  | update a _ f k ih =>
    intro Γ Q E p s s' hs h
    obtain ⟨ho, h⟩ := h
    refine ⟨by rw [hs.heap]; exact ho, ?_⟩
    rw [hs.heap]
    exact ih () (hs.heapTo _) h
  | loadIfAlive a k ih =>
    intro Γ Q E p s s' hs h
    show wp _ Γ (k (s'.heap.get? a)) _ _ p s'
    rw [hs.heap]
    exact ih _ hs h
  | point _ k ih => intro Γ Q E p s s' hs h; exact ih () hs h
  | register _ _ => intro Γ Q E p s s' hs h; exact h.elim
  | alloc o k ih =>
    intro Γ Q E p s s' hs h
    show wp _ Γ (k s'.heap.objs.size) _ _ p { s' with heap := s'.heap.push o }
    rw [hs.heap]
    exact ih _ (hs.heapTo _) h
  | fresh k ih =>
    intro Γ Q E p s s' hs h
    show wp _ Γ (k s'.toks) _ _ p { s' with toks := s'.toks + 1 }
    rw [hs.toks]
    exact ih _ (hs.toksTo _) h
  | ask k ih => intro Γ Q E p s s' hs h; exact ih _ hs h
  | choose src n k ih =>
    intro Γ Q E p s s' hs h
    obtain ⟨h0, h⟩ := h
    refine ⟨h0, ?_⟩
    rw [hs.drawn]
    exact ih _ (hs.drawnTo _) h
  | os q _ k ih =>
    intro Γ Q E p s s' hs h
    show wp _ Γ (k (Os.step s'.os q).2) _ _ p { s' with os := (Os.step s'.os q).1 }
    rw [hs.os]
    exact ih _ (hs.osTo _) h
  | call c hd _ _ k ih =>
    intro Γ Q E p s s' hs h
    obtain ⟨r, s₁, hr, h⟩ := h
    obtain ⟨s₁', q1, q2⟩ := returns_up hr hs
    exact ⟨r, s₁', q1, ih r q2 h⟩
  | handled own k ih => intro Γ Q E p s s' hs h; exact ih _ hs h
  | genState g k ih =>
    intro Γ Q E p s s' hs h
    obtain ⟨x, hx, h⟩ := h
    obtain ⟨y, hy, q⟩ := hs.some hx
    refine ⟨y, hy, ?_⟩
    rw [q.seen]
    exact ih _ hs h
  | newGen c k ih =>
    intro Γ Q E p s s' hs h
    show wp _ Γ (k s'.gens.size) _ _ p { s' with gens := s'.gens.push (.fresh c) }
    rw [hs.size]
    exact ih _ (hs.push c) h
  | resume g r _ k ih =>
    intro Γ Q E p s s' hs h
    obtain ⟨res, s₁, hw, h⟩ := h
    obtain ⟨s₁', q1, q2⟩ := wakes_up hw hs
    exact ⟨res, s₁', q1, ih res q2 h⟩
  | «yield» _ _ _ _ => intro Γ Q E p s s' hs h; exact h.elim
  | stack k ih => intro Γ Q E p s s' hs h; exact ih _ hs h
  | fork _ _ => intro Γ Q E p s s' hs h; exact h.elim
  | thread k ih => intro Γ Q E p s s' hs h; exact ih _ hs h
  | await _ _ _ _ _ => intro Γ Q E p s s' hs h; exact h.elim

/-- what is proved over the library's model holds in this one -/
theorem wpAny_up {α : Type} {A : Around} {t : Sem α} {Q : α → Shared → Prop} {E : Value → Shared → Prop} {s s' : Shared} (hs : SR S s s') (h : wpAny (model P w) A t Q E s) :
    wpAny (mp P w) A t (fun a x' => ∃ x, SR S x x' ∧ Q a x) (fun e x' => ∃ x, SR S x x' ∧ E e x) s' := fun Γ p hΓ => lift t hs (h Γ p hΓ)
theorem codeAny_up {A : Around} {c : Code} {R : Result → Shared → Prop} {s s' : Shared} (hs : SR S s s') (h : codeAny (model P w) A c R s) : codeAny (mp P w) A c (fun r x' => ∃ x, SR S x x' ∧ R r x) s' := fun Γ p hc hΓ => by
  obtain ⟨r, s₁, hr, hR⟩ := h Γ p hc hΓ
  obtain ⟨s₁', q1, q2⟩ := returns_up hr hs
  exact ⟨r, s₁', q1, s₁, q2, hR⟩
end
end Sf
end
section
set_option Elab.async false
set_option linter.all false
set_option maxRecDepth 100000
/-! What runs in the second model runs on the scheduler. -/
namespace Sf
open PySem
/-- the real table of generators beside the second model's -/
inductive GQ : GenState → GenState → Prop
  | fresh (c) : GQ (.fresh c) (.fresh c)
  | running : GQ .running .running
  | finished : GQ .finished .finished
  | susp {k k' : Resume → Sem Fin} {fs fs' c} (hk : ∀ r, TR c (k r) (k' r)) (hf : FsR fs fs') (l l' p cl) : GQ (.suspended k l c p fs cl) (.suspended k' l' c p fs' cl)
  | soft {k k' : Resume → Sem Fin} {fs fs' c a} (ha : yfOf c = some a) (hk : ∀ r, TR c (k r) (k' r)) (hf : FsR fs fs') (l p) : GQ (.suspended k l c p fs true) (.suspended k' mark c p fs' false)
inductive OQ : Option GenState → Option GenState → Prop
  | none : OQ none none
  | some {x y} : GQ x y → OQ (some x) (some y)
structure SQ (s s' : Shared) : Prop where
  heap : s'.heap = s.heap
  drawn : s'.drawn = s.drawn
  toks : s'.toks = s.toks
  os : s'.os = s.os
  size : s'.gens.size = s.gens.size
  gens : ∀ i : Nat, OQ (s.gens[i]?) (s'.gens[i]?)
theorem GQ.seen {x y : GenState} (h : GQ x y) : y.seen = x.seen := by
  cases h with
  | susp hk hf => simp only [GenState.seen, hf.where_]
  | soft _ hk hf => simp only [GenState.seen, hf.where_]
  | _ => rfl
theorem SQ.get {s s' : Shared} (h : SQ s s') {g : Nat} {y : GenState} (e : s'.gens[g]? = some y) : ∃ x, s.gens[g]? = some x ∧ GQ x y := by
  have q := h.gens g
  rw [e] at q
  cases h2 : s.gens[g]? with
  | none => rw [h2] at q; cases q
  | some x => rw [h2] at q; cases q with | some z => exact ⟨x, rfl, z⟩
theorem SQ.miss {s s' : Shared} (h : SQ s s') {g : Nat} (e : s'.gens[g]? = none) : s.gens[g]? = none := by
  have q := h.gens g
  rw [e] at q
  cases h2 : s.gens[g]? with
  | none => rfl
  | some x => rw [h2] at q; cases q
theorem SQ.setGen {s s' : Shared} (h : SQ s s') {x y : GenState} (g : Nat) (hx : GQ x y) : SQ (s.setGen g x) (s'.setGen g y) := by
  refine ⟨h.heap, h.drawn, h.toks, h.os, ?_, fun i => ?_⟩
  · show (s'.gens.setIfInBounds g y).size = (s.gens.setIfInBounds g x).size
    rw [Array.size_setIfInBounds, Array.size_setIfInBounds, h.size]
  · show OQ (s.gens.setIfInBounds g x)[i]? (s'.gens.setIfInBounds g y)[i]?
    by_cases hi : g = i
    · subst hi
      by_cases hl : g < s.gens.size
      · have hl' : g < s'.gens.size := by rw [h.size]; exact hl
        rw [Array.getElem?_setIfInBounds_self_of_lt hl, Array.getElem?_setIfInBounds_self_of_lt hl']
        exact .some hx
      · have hl' : ¬ g < s'.gens.size := by rw [h.size]; exact hl
        rw [Array.getElem?_eq_none (by rw [Array.size_setIfInBounds]; omega), Array.getElem?_eq_none (by rw [Array.size_setIfInBounds]; omega)]
        exact .none
    · rw [Array.getElem?_setIfInBounds_ne hi, Array.getElem?_setIfInBounds_ne hi]
      exact h.gens i
theorem SQ.push {s s' : Shared} (h : SQ s s') (c : Code) : SQ { s with gens := s.gens.push (.fresh c) } { s' with gens := s'.gens.push (.fresh c) } := by
  refine ⟨h.heap, h.drawn, h.toks, h.os, ?_, fun i => ?_⟩
  · show (s'.gens.push _).size = (s.gens.push _).size
    rw [Array.size_push, Array.size_push, h.size]
  · show OQ (s.gens.push _)[i]? (s'.gens.push _)[i]?
    rw [Array.getElem?_push, Array.getElem?_push, h.size]
    split
    · exact .some (.fresh _)
    · exact h.gens i
theorem SQ.heapTo {s s' : Shared} (h : SQ s s') (hp : Heap) : SQ { s with heap := hp } { s' with heap := hp } := ⟨rfl, h.drawn, h.toks, h.os, h.size, h.gens⟩
theorem SQ.toksTo {s s' : Shared} (h : SQ s s') (x) : SQ { s with toks := x } { s' with toks := x } := ⟨h.heap, h.drawn, rfl, h.os, h.size, h.gens⟩
theorem SQ.drawnTo {s s' : Shared} (h : SQ s s') (x) : SQ { s with drawn := x } { s' with drawn := x } := ⟨h.heap, rfl, h.toks, h.os, h.size, h.gens⟩
theorem SQ.osTo {s s' : Shared} (h : SQ s s') (x) : SQ { s with os := x } { s' with os := x } := ⟨h.heap, h.drawn, h.toks, rfl, h.size, h.gens⟩
/-- no soft sleep is left -/
def NM (s : Shared) : Prop := ∀ (i : Nat) k l c p fs cl, s.gens[i]? = some (.suspended k l c p fs cl) → yfOf c = none ∨ l ≠ mark
theorem SR.nm {s s' : Shared} (h : SR (fun _ => False) s s') : NM s' := fun i k l c p fs cl e => by
  have q := h.gens i
  rw [e] at q
  generalize s.gens[i]? = z at q
  cases q with
  | some q => cases q with
    | susp hk hf hl => exact hl.imp (fun z => z) fun z y => by rw [z] at y; cases y
    | soft hS => exact hS.elim
theorem SQ.clean {s s' : Shared} (h : SQ s s') (hn : NM s') (hl : leftWithCleanup s'.gens = false) : leftWithCleanup s.gens = false := by
  cases hx : leftWithCleanup s.gens with
  | false => rfl
  | true =>
    exfalso
    simp only [leftWithCleanup, Array.any_eq_true] at hx
    obtain ⟨i, hi, hx⟩ := hx
    have e : s.gens[i]? = some s.gens[i] := Array.getElem?_eq_getElem hi
    generalize s.gens[i] = x at hx e
    have q := h.gens i
    rw [e] at q
    generalize hz : s'.gens[i]? = z at q
    cases q with
    | some q =>
      cases q with
      | fresh => cases hx
      | running => cases hx
      | finished => cases hx
      | susp hk hf l l' p cl =>
        have hx : cl = true := hx
        subst hx
        have : leftWithCleanup s'.gens = true := by
          simp only [leftWithCleanup, Array.any_eq_true]
          obtain ⟨h1, h2⟩ := Array.getElem?_eq_some_iff.mp hz
          exact ⟨i, h1, by rw [h2]⟩
        rw [hl] at this
        cases this
      | soft ha hk hf l p =>
        rcases hn _ _ _ _ _ _ _ hz with y | y
        · rw [ha] at y; cases y
        · exact y rfl

section
variable {P : Program} {w : World}
theorem go1 {x x' : Shared} {t t2 : Thread} (hc : t.calm = true) (hz : x.asleep) (hs : step (denote table) P w x t = .go x' t2) (N : Nat) : schedN (denote table) P w (N + 1) (.single x t) = schedN (denote table) P w N (.single x' t2) := by
  have e := (sstep_single (denote table) P w x t hc hz).resolve_right (by rw [hs]; intro z; cases z)
  simp only [schedN, e, hs, Step.lift]
theorem asleep1 {x x' : Shared} {t t2 : Thread} (hz : x.asleep) (hs : step (denote table) P w x t = .go x' t2) : x'.asleep := Shared.asleep_of_life (step_life (denote table) P w x x' t t2 hs) hz
/-- a soft sleep on the scheduler -/
theorem go_soft {x : Shared} {v : Value} {l : List Value} {k : Resume → Sem Fin} {c : Code} {p : Pos} {st fs rest : List Frame} {g : Nat} {kk : GenResult → Sem Fin} {c' : Code} {p' : Pos} {a : Addr} (hz : x.asleep) (hsp : splitAtGen st = some (fs, (g, kk, c', p'), rest)) (ha : yfOf c = some a) (hg : isG (x.heap.get? a) = true) (hf : fs.any Frame.guarded = false) (N : Nat) :
    schedN (denote table) P w (N + 1) (.single x ⟨.yield v true l k, c, p, st⟩) = schedN (denote table) P w N (.single (x.setGen g (.suspended k l c p fs true)) ⟨kk (.yielded v), c', p', rest⟩) := by
  have hr := hz.1
  have hc := hz.2
  have hsh : closingShows x fs c true = false := by
    unfold closingShows
    rw [hf, Bool.false_or, Bool.true_and]
    have hd : delegateShows x (.ref a) = false := by
      dsimp only [delegateShows]
      cases ho : x.heap.get? a with
      | none => rfl
      | some o =>
        rw [ho] at hg
        have hg : (o.genNumber?).isSome = true := hg
        cases hn : o.genNumber? with
        | none => rw [hn] at hg; cases hg
        | some n => simp only [hr, hn, List.contains_nil]
    cases c with
    | builtin id args =>
      obtain ⟨pos, kw⟩ := args
      cases pos with
      | nil => cases ha
      | cons v0 r =>
        cases v0 with
        | ref b =>
          have ha : (if id = yfId then some b else none) = some a := ha
          by_cases hi : id = yfId
          · rw [if_pos hi] at ha
            cases ha
            subst hi
            exact hd
          · rw [if_neg hi] at ha; cases ha
        | _ => cases ha
    | _ => cases ha
  have h1 : (Config.single x ⟨.yield v true l k, c, p, st⟩).collect? w.params = none := by
    simp [Config.collect?, Config.single, (nothing_to_collect _ _ _ x _ hr).1]
  have h2 : (Config.single x ⟨.yield v true l k, c, p, st⟩).collectable = [] := by
    simp [Config.collectable, Config.single, (nothing_to_collect w.params _ _ x _ hr).2]
  have h3 : ∀ pr, (Config.single x ⟨.yield v true l k, c, p, st⟩).moves pr = [.run 0] := fun pr => by
    simp [Config.moves, Config.single, movesFrom, Thread.moves]
  have hp : (Config.single x ⟨.yield v true l k, c, p, st⟩).pick w = .ok (.run 0, .single x ⟨.yield v true l k, c, p, st⟩) := by
    simp only [Config.pick, h1, h2, Config.pickThread, h3]
    cases w.params.lifetimes <;> simp
  have hspec : Thread.special ⟨.yield v true l k, c, p, st⟩ = true := by
    simp [Thread.special, Thread.yieldsInsideHandler]
  have hl : lifeStep (denote table) P w [] x ⟨.yield v true l k, c, p, st⟩ = .go (x.setGen g (.suspended k l c p fs true)) ⟨kk (.yielded v), c', p', rest⟩ := by
    have hct : collectorTurn? w.params [] x ⟨.yield v true l k, c, p, st⟩ = none := rfl
    have hae : Thread.atItsEnd ⟨.yield v true l k, c, p, st⟩ = false := rfl
    simp only [lifeStep, hspec, if_true, hct, hsp, hsh, hae, Bool.false_and, Bool.false_eq_true, if_false, stepCounting, hc]
    simp only [step, hsp, Bool.true_or]
    rfl
  have hrun : (Config.single x ⟨.yield v true l k, c, p, st⟩).run (denote table) P w 0 = .go (.single (x.setGen g (.suspended k l c p fs true)) ⟨kk (.yielded v), c', p', rest⟩) := by
    simp only [Config.run, Config.single]
    simp [others_single, Thread.finalizes, hl]
  simp only [schedN, sstep, hp, Config.move, hrun]

theorem tr_rule {c tag k t'} (h : TR c (.rule tag k) t') : ∃ k', t' = .rule tag k' ∧ ∀ x, TR c (k x) (k' x) := by
  cases h with
  | same hy => exact ⟨_, rfl, fun _ => .same hy _⟩
  | tr hy => exact ⟨_, rfl, fun _ => .tr hy _⟩
  | t0 hy => exact ⟨_, rfl, fun _ => .t0 hy _⟩
theorem tr_at {c p k t'} (h : TR c (.at p k) t') : ∃ k', t' = .at p k' ∧ ∀ x, TR c (k x) (k' x) := by
  cases h with
  | same hy => exact ⟨_, rfl, fun _ => .same hy _⟩
  | tr hy => exact ⟨_, rfl, fun _ => .tr hy _⟩
  | t0 hy => exact ⟨_, rfl, fun _ => .t0 hy _⟩
theorem tr_load {c a p k t'} (h : TR c (.load a p k) t') : ∃ k', t' = .load a p k' ∧ ∀ x, TR c (k x) (k' x) := by
  cases h with
  | same hy => exact ⟨_, rfl, fun _ => .same hy _⟩
  | tr hy => exact ⟨_, rfl, fun _ => .tr hy _⟩
  | t0 hy => exact ⟨_, rfl, fun _ => .t0 hy _⟩
theorem tr_update {c a p f k t'} (h : TR c (.update a p f k) t') : ∃ k', t' = .update a p f k' ∧ ∀ x, TR c (k x) (k' x) := by
  cases h with
  | same hy => exact ⟨_, rfl, fun _ => .same hy _⟩
  | tr hy => exact ⟨_, rfl, fun _ => .tr hy _⟩
  | t0 hy => exact ⟨_, rfl, fun _ => .t0 hy _⟩
theorem tr_alloc {c o k t'} (h : TR c (.alloc o k) t') : ∃ k', t' = .alloc o k' ∧ ∀ x, TR c (k x) (k' x) := by
  cases h with
  | same hy => exact ⟨_, rfl, fun _ => .same hy _⟩
  | tr hy => exact ⟨_, rfl, fun _ => .tr hy _⟩
  | t0 hy => exact ⟨_, rfl, fun _ => .t0 hy _⟩
theorem tr_alive {c a k t'} (h : TR c (.loadIfAlive a k) t') : ∃ k', t' = .loadIfAlive a k' ∧ ∀ x, TR c (k x) (k' x) := by
  cases h with
  | same hy => exact ⟨_, rfl, fun _ => .same hy _⟩
  | tr hy => exact ⟨_, rfl, fun _ => .tr hy _⟩
  | t0 hy => exact ⟨_, rfl, fun _ => .t0 hy _⟩
theorem tr_point {c l k t'} (h : TR c (.point l k) t') : ∃ k', t' = .point l k' ∧ ∀ x, TR c (k x) (k' x) := by
  cases h with
  | same hy => exact ⟨_, rfl, fun _ => .same hy _⟩
  | tr hy => exact ⟨_, rfl, fun _ => .tr hy _⟩
  | t0 hy => exact ⟨_, rfl, fun _ => .t0 hy _⟩
theorem tr_fresh {c k t'} (h : TR c (.fresh k) t') : ∃ k', t' = .fresh k' ∧ ∀ x, TR c (k x) (k' x) := by
  cases h with
  | same hy => exact ⟨_, rfl, fun _ => .same hy _⟩
  | tr hy => exact ⟨_, rfl, fun _ => .tr hy _⟩
  | t0 hy => exact ⟨_, rfl, fun _ => .t0 hy _⟩
theorem tr_ask {c k t'} (h : TR c (.ask k) t') : ∃ k', t' = .ask k' ∧ ∀ x, TR c (k x) (k' x) := by
  cases h with
  | same hy => exact ⟨_, rfl, fun _ => .same hy _⟩
  | tr hy => exact ⟨_, rfl, fun _ => .tr hy _⟩
  | t0 hy => exact ⟨_, rfl, fun _ => .t0 hy _⟩
theorem tr_choose {c src n k t'} (h : TR c (.choose src n k) t') : ∃ k', t' = .choose src n k' ∧ ∀ x, TR c (k x) (k' x) := by
  cases h with
  | same hy => exact ⟨_, rfl, fun _ => .same hy _⟩
  | tr hy => exact ⟨_, rfl, fun _ => .tr hy _⟩
  | t0 hy => exact ⟨_, rfl, fun _ => .t0 hy _⟩
theorem tr_os {c q l k t'} (h : TR c (.os q l k) t') : ∃ k', t' = .os q l k' ∧ ∀ x, TR c (k x) (k' x) := by
  cases h with
  | same hy => exact ⟨_, rfl, fun _ => .same hy _⟩
  | tr hy => exact ⟨_, rfl, fun _ => .tr hy _⟩
  | t0 hy => exact ⟨_, rfl, fun _ => .t0 hy _⟩
theorem tr_call {c d h0 g l k t'} (h : TR c (.call d h0 g l k) t') : ∃ k', t' = .call d h0 g l k' ∧ ∀ x, TR c (k x) (k' x) := by
  cases h with
  | same hy => exact ⟨_, rfl, fun _ => .same hy _⟩
  | tr hy => exact ⟨_, rfl, fun _ => .tr hy _⟩
  | t0 hy => exact ⟨_, rfl, fun _ => .t0 hy _⟩
theorem tr_handled {c o k t'} (h : TR c (.handled o k) t') : ∃ k', t' = .handled o k' ∧ ∀ x, TR c (k x) (k' x) := by
  cases h with
  | same hy => exact ⟨_, rfl, fun _ => .same hy _⟩
  | tr hy => exact ⟨_, rfl, fun _ => .tr hy _⟩
  | t0 hy => exact ⟨_, rfl, fun _ => .t0 hy _⟩
theorem tr_newGen {c d k t'} (h : TR c (.newGen d k) t') : ∃ k', t' = .newGen d k' ∧ ∀ x, TR c (k x) (k' x) := by
  cases h with
  | same hy => exact ⟨_, rfl, fun _ => .same hy _⟩
  | tr hy => exact ⟨_, rfl, fun _ => .tr hy _⟩
  | t0 hy => exact ⟨_, rfl, fun _ => .t0 hy _⟩
theorem tr_genState {c g k t'} (h : TR c (.genState g k) t') : ∃ k', t' = .genState g k' ∧ ∀ x, TR c (k x) (k' x) := by
  cases h with
  | same hy => exact ⟨_, rfl, fun _ => .same hy _⟩
  | tr hy => exact ⟨_, rfl, fun _ => .tr hy _⟩
  | t0 hy => exact ⟨_, rfl, fun _ => .t0 hy _⟩
theorem tr_resume {c g r l k t'} (h : TR c (.resume g r l k) t') : ∃ k', t' = .resume g r l k' ∧ ∀ x, TR c (k x) (k' x) := by
  cases h with
  | same hy => exact ⟨_, rfl, fun _ => .same hy _⟩
  | tr hy => exact ⟨_, rfl, fun _ => .tr hy _⟩
  | t0 hy => exact ⟨_, rfl, fun _ => .t0 hy _⟩
theorem tr_stack {c k t'} (h : TR c (.stack k) t') : ∃ k', t' = .stack k' ∧ ∀ x, TR c (k x) (k' x) := by
  cases h with
  | same hy => exact ⟨_, rfl, fun _ => .same hy _⟩
  | tr hy => exact ⟨_, rfl, fun _ => .tr hy _⟩
  | t0 hy => exact ⟨_, rfl, fun _ => .t0 hy _⟩
theorem tr_thread {c k t'} (h : TR c (.thread k) t') : ∃ k', t' = .thread k' ∧ ∀ x, TR c (k x) (k' x) := by
  cases h with
  | same hy => exact ⟨_, rfl, fun _ => .same hy _⟩
  | tr hy => exact ⟨_, rfl, fun _ => .tr hy _⟩
  | t0 hy => exact ⟨_, rfl, fun _ => .t0 hy _⟩
theorem tr_pure {c x t'} (h : TR c (.pure x) t') : t' = .pure x := by cases h <;> rfl
theorem tr_raise {c x t'} (h : TR c (.raise x) t') : t' = .raise x := by cases h <;> rfl
theorem tr_yield {c v g l k t'} (h : TR c (.yield v g l k) t') : (∃ k' l', t' = .yield v g l' k' ∧ ∀ x, TR c (k x) (k' x)) ∨
    (g = true ∧ ∃ a, yfOf c = some a ∧ t' = .loadIfAlive a fun o => if isG o then .yield v false mark fun x => T0 (k x) else .yield v true [] fun x => T0 (k x)) := by
  cases h with
  | same hy => exact .inl ⟨_, _, rfl, fun _ => .same hy _⟩
  | t0 hy => exact .inl ⟨_, _, rfl, fun _ => .t0 hy _⟩
  | @tr a hy =>
    cases g with
    | true => exact .inr ⟨rfl, a, hy, rfl⟩
    | false => exact .inl ⟨_, _, rfl, fun _ => .t0 hy _⟩
end
end Sf
end
section
set_option Elab.async false
set_option linter.all false
set_option maxRecDepth 100000
namespace Sf
open PySem
section
variable {P : Program} {w : World}
/-- the stack after `again`: other kept values alone -/
theorem again1 {x : Shared} {c c' : Code} {p : Pos} {st st' : List Frame} (hf : FsR st st') : ∃ st2, step (denote table) P w x ⟨.pure (.again c'), c, p, st⟩ = .go x ⟨denote table c', c', p, st2⟩ ∧ FsR st2 st' := by
  cases hf with
  | nil => exact ⟨[], by cases c <;> cases c' <;> rfl, .nil⟩
  | cons y r =>
    cases y with
    | gen hk => cases c <;> cases c' <;> exact ⟨_, rfl, .cons (.gen hk ..) r⟩
    | ret hk => cases c <;> cases c' <;> exact ⟨_, rfl, .cons (.ret hk ..) r⟩
theorem calm_again {c' c : Code} {p : Pos} {st : List Frame} (hq : c'.quiet = true) : Thread.calm ⟨.pure (.again c'), c, p, st⟩ = true := by
  have h1 : Thread.loud ⟨.pure (.again c'), c, p, st⟩ = false := by rw [Thread.loud_again, hq]; rfl
  rw [Thread.calm_eq, h1]
  rfl
theorem calm_yield {v : Value} {g : Bool} {l : List Value} {k : Resume → Sem Fin} {c : Code} {p : Pos} {st fs rest : List Frame} {b} (hsp : splitAtGen st = some (fs, b, rest)) (hg : (g || fs.any Frame.guarded) = false) : Thread.calm ⟨.yield v g l k, c, p, st⟩ = true := by
  have h1 : Thread.loud ⟨.yield v g l k, c, p, st⟩ = false := by rw [Thread.loud_yield v g l k c p hsp, hg]
  rw [Thread.calm_eq, h1]
  rfl
theorem calm_op {t : Sem Fin} {c : Code} {p : Pos} {st : List Frame} (h : Thread.loud ⟨t, c, p, st⟩ = false) (h2 : Thread.refused ⟨t, c, p, st⟩ = false) : Thread.calm ⟨t, c, p, st⟩ = true := by
  rw [Thread.calm_eq, h, h2]; rfl
theorem top_fs {a b : List Frame} (h : FsR a b) : topHandled b = topHandled a := h.top false
theorem own_fs {a b : List Frame} (h : FsR a b) : topHandled (ownFrames b) = topHandled (ownFrames a) := by
  have hs := h.split
  unfold ownFrames
  generalize splitAtGen a = x at hs ⊢
  generalize splitAtGen b = z at hs ⊢
  cases hs with
  | none => exact top_fs h
  | some i1 _ _ => exact top_fs i1
theorem halted_ends {M : Model} {n s t r s'} (h : M.runN n s t = .halted (outcomeOf r) s') {why s2} (e : M.step s t = .halt (.stuck why) s2) : False := by
  cases n with
  | zero => cases h
  | succ n =>
    rw [runN_succ, e] at h
    injection h with h1 _
    cases r <;> cases h1

theorem sim : ∀ (n : Nat) (x : Shared) (t : Sem Fin) (c : Code) (p : Pos) (st : List Frame) (s : Shared) (t' : Sem Fin) (st' : List Frame) (r : Result) (sE : Shared), SQ x s → TR c t t' → FsR st st' → (mp P w).runN n s ⟨t', c, p, st'⟩ = .halted (outcomeOf r) sE → NM sE → x.asleep →
    ∃ N xE, schedN (denote table) P w N (.single x ⟨t, c, p, st⟩) = .halted (outcomeOf r) xE ∧ SQ xE sE ∧ xE.heap.life = x.heap.life := by
  intro n
  induction n using Nat.strongRecOn with
  | ind n ih =>
  intro x t c p st s t' st' r sE hs ht hf h hn hz
  cases n with
  | zero => cases h
  | succ n =>
  -- one step on both sides
  have one : ∀ {x2 s2 : Shared} {t2 t2' : Sem Fin} {c2 : Code} {p2 : Pos} {st2 st2' : List Frame}, (mp P w).step s ⟨t', c, p, st'⟩ = .go s2 ⟨t2', c2, p2, st2'⟩ → Thread.calm ⟨t, c, p, st⟩ = true → step (denote table) P w x ⟨t, c, p, st⟩ = .go x2 ⟨t2, c2, p2, st2⟩ → SQ x2 s2 → TR c2 t2 t2' → FsR st2 st2' →
      ∃ N xE, schedN (denote table) P w N (.single x ⟨t, c, p, st⟩) = .halted (outcomeOf r) xE ∧ SQ xE sE ∧ xE.heap.life = x.heap.life := by
    intro x2 s2 t2 t2' c2 p2 st2 st2' hm hc hr h1 h2 h3
    rw [runN_succ, hm] at h
    obtain ⟨N, xE, q1, q2, q3⟩ := ih n (Nat.lt_succ_self n) x2 t2 c2 p2 st2 s2 t2' st2' r sE h1 h2 h3 h hn (asleep1 hz hr)
    exact ⟨N + 1, xE, (go1 hc hz hr N).trans q1, q2, q3.trans (step_life _ _ _ _ _ _ _ hr)⟩
  have leafEnd : ∀ {r' : Result}, t = leafOf r' → t' = leafOf r' → st = [] → st' = [] → ∃ N xE, schedN (denote table) P w N (.single x ⟨t, c, p, st⟩) = .halted (outcomeOf r) xE ∧ SQ xE sE ∧ xE.heap.life = x.heap.life := by
    intro r' e1 e2 e3 e4
    subst e1 e2 e3 e4
    rw [runN_succ, step_leaf_nil] at h
    unfold finish at h
    cases hl : leftWithCleanup s.gens with
    | true =>
      rw [hl] at h
      simp only [if_true] at h
      injection h with h1 _
      cases r <;> cases h1
    | false =>
      rw [hl] at h
      simp only [Bool.false_eq_true, if_false] at h
      injection h with h1 h2
      have er : r' = r := by cases r <;> cases r' <;> first | (cases h1; rfl) | cases h1
      subst er h2
      have hx := hs.clean hn hl
      have hc : Thread.calm ⟨leafOf r', c, p, []⟩ = true := by cases r' <;> rfl
      have hst : step (denote table) P w x ⟨leafOf r', c, p, []⟩ = .halt (outcomeOf r') x := by
        have e : step (denote table) P w x ⟨leafOf r', c, p, []⟩ = finish (outcomeOf r') x := by cases r' <;> rfl
        rw [e]
        simp only [finish, hx, Bool.false_eq_true, if_false]
      have e := (sstep_single (denote table) P w x _ hc hz).resolve_right (by rw [hst]; intro z; injection z with z1 _; cases r' <;> cases z1)
      exact ⟨1, x, by simp only [schedN, e, hst, Step.lift], hs, rfl⟩
  cases t with
  | pure fin =>
    have ht := tr_pure ht
    subst ht
    cases fin with
    | again c' =>
      cases hq : c'.quiet with
      | false => exact (halted_ends h (step_again_loud _ _ _ _ _ _ hq)).elim
      | true =>
        obtain ⟨st2, e1, e2⟩ := again1 (P := P) (w := w) (x := x) (c := c) (c' := c') (p := p) hf
        exact one (step_again _ _ _ _ _ c' hq) (calm_again hq) e1 hs (tr_den (P := P) (w := w) c') e2
    | done f =>
      cases hf with
      | nil => exact leafEnd (r' := .ok f) rfl rfl rfl rfl
      | cons y hr =>
        cases y with
        | ret hk => exact one (step_leaf_ret (mp P w) s c p _ (.ok f) ..) rfl rfl hs (hk _) hr
        | gen hk => exact one (step_leaf_gen (mp P w) s c p _ (.ok f) ..) rfl rfl (hs.setGen _ .finished) (hk _) hr
  | raise e =>
    have ht := tr_raise ht
    subst ht
    cases hf with
    | nil => exact leafEnd (r' := .error e) rfl rfl rfl rfl
    | cons y hr =>
      cases y with
      | ret hk => exact one (step_leaf_ret (mp P w) s c p _ (.error e) ..) rfl rfl hs (hk _) hr
      | gen hk => exact one (step_leaf_gen (mp P w) s c p _ (.error e) ..) rfl rfl (hs.setGen _ .finished) (hk _) hr
  | unsupported what =>
    exfalso
    cases ht <;> (rw [runN_succ] at h; have h : Run.halted (.unsupported what) s = _ := h; injection h with h1 _; cases r <;> cases h1)
  | finish e =>
    exfalso
    have q : (mp P w).step s ⟨.finish e, c, p, st'⟩ = finish (.ended e) s := rfl
    have et : t' = .finish e := by cases ht <;> rfl
    subst et
    rw [runN_succ, q] at h
    unfold finish at h
    cases hl : leftWithCleanup s.gens <;> rw [hl] at h <;> simp only [Bool.false_eq_true, if_false, if_true] at h <;> (injection h with h1 _; cases r <;> cases h1)
  | rule tag k => obtain ⟨k', rfl, hk⟩ := tr_rule ht; exact one rfl rfl rfl hs (hk _) hf
  | «at» p' k => obtain ⟨k', rfl, hk⟩ := tr_at ht; exact one rfl rfl rfl hs (hk _) hf
  | load a part k =>
    obtain ⟨k', rfl, hk⟩ := tr_load ht
    cases ho : s.heap.get? a with
    | none => obtain ⟨why, e⟩ := step_load_none (mp P w) s c p st' part k' ho; exact (halted_ends h e).elim
    | some o =>
      have ho' : x.heap.get? a = some o := by rw [← hs.heap]; exact ho
      exact one (step_load (mp P w) s c p st' part k' ho) rfl (by simp only [step, ho']) hs (hk _) hf
  | update a part f k =>
    obtain ⟨k', rfl, hk⟩ := tr_update ht
    by_cases ho : (s.heap.get? a).isSome
    · have ho' : (x.heap.get? a).isSome = true := by rw [← hs.heap]; exact ho
      exact one (step_update (mp P w) s c p st' part f k' ho) rfl (by simp only [step, ho', if_true]; rfl) (by rw [hs.heap]; exact hs.heapTo _) (hk _) hf
    · obtain ⟨why, e⟩ := step_update_none (mp P w) s c p st' part f k' ho; exact (halted_ends h e).elim
  | alloc o k =>
    obtain ⟨k', rfl, hk⟩ := tr_alloc ht
    exact one (t2 := k x.heap.objs.size) rfl rfl rfl (by rw [hs.heap]; exact hs.heapTo _) (by rw [hs.heap]; exact hk _) hf
  | loadIfAlive a k =>
    obtain ⟨k', rfl, hk⟩ := tr_alive ht
    exact one (t2 := k (x.heap.get? a)) rfl rfl rfl hs (by rw [hs.heap]; exact hk _) hf
  | point l k => obtain ⟨k', rfl, hk⟩ := tr_point ht; exact one rfl rfl rfl hs (hk _) hf
  | register a k =>
    exfalso
    cases ht <;> (rw [runN_succ] at h; have h : Run.halted (.unsupported "lifetime") s = _ := h; injection h with h1 _; cases r <;> cases h1)
  | fresh k =>
    obtain ⟨k', rfl, hk⟩ := tr_fresh ht
    exact one (t2 := k x.toks) rfl rfl rfl (by rw [hs.toks]; exact hs.toksTo _) (by rw [hs.toks]; exact hk _) hf
  | ask k => obtain ⟨k', rfl, hk⟩ := tr_ask ht; exact one rfl rfl rfl hs (hk _) hf
  | choose src m k =>
    obtain ⟨k', rfl, hk⟩ := tr_choose ht
    by_cases hm : m = 0
    · subst hm; obtain ⟨why, e⟩ := step_choose_zero (mp P w) s c p st' src k'; exact (halted_ends h e).elim
    · exact one (t2 := k (w.draws src (x.drawn.get src) % m)) (step_choose (mp P w) s c p st' src k' hm) rfl (by simp only [step, hm, if_false]; rfl) (by rw [hs.drawn]; exact hs.drawnTo _) (by rw [hs.drawn]; exact hk _) hf
  | os q l k =>
    obtain ⟨k', rfl, hk⟩ := tr_os ht
    exact one (t2 := k (Os.step x.os q).2) rfl rfl rfl (by rw [hs.os]; exact hs.osTo _) (by rw [hs.os]; exact hk _) hf
  | call d h0 g l k =>
    obtain ⟨k', rfl, hk⟩ := tr_call ht
    exact one (step_call (mp P w) s c p st' d h0 g l k') rfl rfl hs (tr_den (P := P) (w := w) d) (.cons (.ret hk ..) hf)
  | handled own k =>
    obtain ⟨k', rfl, hk⟩ := tr_handled ht
    have e2 : topHandled (if own then ownFrames st' else st') = topHandled (if own then ownFrames st else st) := by
      cases own
      · exact top_fs hf
      · exact own_fs hf
    exact one (t2 := k (topHandled (if own then ownFrames st else st))) (step_handled (mp P w) s c p st' own k') (by rfl) (by cases own <;> rfl) hs (by rw [e2]; exact hk _) hf
  | genState g k =>
    obtain ⟨k', rfl, hk⟩ := tr_genState ht
    cases hg : s.gens[g]? with
    | none => obtain ⟨why, e⟩ := step_genState_none (mp P w) s c p st' k' hg; exact (halted_ends h e).elim
    | some y =>
      obtain ⟨x0, hx0, q⟩ := hs.get hg
      refine one (t2 := k x0.seen) (step_genState (mp P w) s c p st' k' hg) rfl ?_ hs (by rw [q.seen]; exact hk _) hf
      simp only [step, hx0]
      cases x0 <;> rfl
  | newGen d k =>
    obtain ⟨k', rfl, hk⟩ := tr_newGen ht
    exact one (t2 := k x.gens.size) rfl rfl rfl (hs.push d) (by rw [hs.size]; exact hk _) hf
  | stack k =>
    obtain ⟨k', rfl, hk⟩ := tr_stack ht
    exact one (t2 := k ((c, p) :: st.map Frame.where_)) (step_stack (mp P w) s c p st' k') rfl rfl hs (by rw [hf.where_]; exact hk _) hf
  | fork d k =>
    exfalso
    cases ht <;> (rw [runN_succ] at h; have h : Run.halted (.unsupported "threads") s = _ := h; injection h with h1 _; cases r <;> cases h1)
  | thread k => obtain ⟨k', rfl, hk⟩ := tr_thread ht; exact one rfl rfl rfl hs (hk _) hf
  | await a f d l k =>
    exfalso
    cases ht <;> (rw [runN_succ] at h; have h : Run.halted (.unsupported "threads") s = _ := h; injection h with h1 _; cases r <;> cases h1)
  | resume g rr l k =>
    obtain ⟨k', rfl, hk⟩ := tr_resume ht
    cases hg : s.gens[g]? with
    | none => obtain ⟨why, e⟩ := step_resume_none (mp P w) s c p st' rr l k' hg; exact (halted_ends h e).elim
    | some y =>
      obtain ⟨x0, hx0, q⟩ := hs.get hg
      cases q with
      | fresh d =>
        cases rr with
        | send v =>
          by_cases hv : v = .none
          · subst hv
            exact one (step_resume_fresh (mp P w) s c p st' l k' hg) rfl (by simp only [step, hx0]; rfl) (hs.setGen g .running) (tr_den (P := P) (w := w) d) (.cons (.gen hk ..) hf)
          · exact one (step_resume_justStarted (mp P w) s c p st' l k' hg hv) rfl (by cases v <;> first | exact absurd rfl hv | simp only [step, hx0]) hs (hk _) hf
        | throw e => exact one (step_resume_throwFresh (mp P w) s c p st' e l k' hg) rfl (by simp only [step, hx0]; rfl) (hs.setGen g .finished) (hk _) hf
      | running => exact one (step_resume_running (mp P w) s c p st' rr l k' hg) rfl (by simp only [step, hx0]) hs (hk _) hf
      | finished => exact one (step_resume_finished (mp P w) s c p st' rr l k' hg) rfl (by simp only [step, hx0]) hs (hk _) hf
      | susp hk0 hf0 => exact one (step_resume_suspended (mp P w) s c p st' rr l k' hg) rfl (by simp only [step, hx0]; rfl) (hs.setGen g .running) (hk0 _) (hf0.append (.cons (.gen hk ..) hf))
      | soft ha hk0 hf0 => exact one (step_resume_suspended (mp P w) s c p st' rr l k' hg) rfl (by simp only [step, hx0]; rfl) (hs.setGen g .running) (hk0 _) (hf0.append (.cons (.gen hk ..) hf))
  | «yield» v g l k =>
    have hsp := hf.split
    rcases tr_yield ht with ⟨k', l', rfl, hk⟩ | ⟨rfl, a, ha, rfl⟩
    · generalize hx : splitAtGen st = z at hsp
      generalize hy : splitAtGen st' = z' at hsp
      cases hsp with
      | none => obtain ⟨why, e⟩ := step_yield_none (mp P w) s c p st' v g l' k' hy; exact (halted_ends h e).elim
      | some i1 i2 i3 =>
        rename_i pre pre' gg kk kk' cc pp rest rest'
        cases hq : (End.susp v g l' k' c p pre').quiet with
        | false => exact (halted_ends h (step_yield_loud (mp P w) s c p st' v g l' k' hy hq)).elim
        | true =>
          have hq' : (g || pre.any Frame.guarded) = false := by
            have : (!(g || pre'.any Frame.guarded)) = true := hq
            rw [i1.guarded] at this
            simpa using this
          refine one (step_yield (mp P w) s c p st' v g l' k' hy hq) (calm_yield hx hq') (by simp only [step, hx]; rfl) ?_ (i2 _) i3
          have hq2 : (g || pre'.any Frame.guarded) = (g || pre.any Frame.guarded) := by rw [i1.guarded]
          show SQ (x.setGen gg (.suspended k l c p pre (g || pre.any Frame.guarded))) (s.setGen gg (.suspended k' l' c p pre' (g || pre'.any Frame.guarded)))
          rw [hq2]
          exact hs.setGen gg (.susp hk i1 ..)
    · -- the soft sleep
      rw [runN_succ, step_loadIfAlive] at h
      dsimp only at h
      cases hg : isG (s.heap.get? a) with
      | false =>
        rw [hg] at h
        simp only [Bool.false_eq_true, if_false] at h
        generalize hy : splitAtGen st' = z' at hsp
        cases z' with
        | none => obtain ⟨why, e⟩ := step_yield_none (mp P w) s c p st' v true [] (fun x => T0 (k x)) hy; exact (halted_ends h e).elim
        | some z => 
          obtain ⟨pre', b, rest'⟩ := z
          exact (halted_ends h (step_yield_loud (mp P w) s c p st' v true [] (fun x => T0 (k x)) hy rfl)).elim
      | true =>
        rw [hg] at h
        simp only [if_true] at h
        generalize hx : splitAtGen st = z at hsp
        generalize hy : splitAtGen st' = z' at hsp
        cases hsp with
        | none => obtain ⟨why, e⟩ := step_yield_none (mp P w) s c p st' v false mark (fun x => T0 (k x)) hy; exact (halted_ends h e).elim
        | some i1 i2 i3 =>
          rename_i pre pre' gg kk kk' cc pp rest rest'
          cases hq : (End.susp v false mark (fun x => T0 (k x)) c p pre').quiet with
          | false => exact (halted_ends h (step_yield_loud (mp P w) s c p st' v false mark (fun x => T0 (k x)) hy hq)).elim
          | true =>
            have hgd : pre.any Frame.guarded = false := by
              have : (!(false || pre'.any Frame.guarded)) = true := hq
              rw [i1.guarded] at this
              simpa using this
            cases n with
            | zero => cases h
            | succ n =>
              rw [runN_succ, step_yield (mp P w) s c p st' v false mark _ hy hq] at h
              dsimp only at h
              have hgs : End.genState (.susp v false mark (fun x => T0 (k x)) c p pre') = .suspended (fun x => T0 (k x)) mark c p pre' false := by
                show GenState.suspended _ _ _ _ _ (false || pre'.any Frame.guarded) = _
                rw [i1.guarded, hgd]; rfl
              rw [hgs] at h
              have hsx : SQ (x.setGen gg (.suspended k l c p pre true)) (s.setGen gg (.suspended (fun x => T0 (k x)) mark c p pre' false)) := hs.setGen gg (.soft ha (fun _ => .t0 ha _) i1 ..)
              obtain ⟨N, xE, q1, q2, q3⟩ := ih n (by omega) _ _ _ _ _ _ _ _ r sE hsx (i2 (.yielded v)) i3 h hn (hz : Shared.asleep (x.setGen gg _))
              exact ⟨N + 1, xE, (go_soft hz hx ha (by rw [← hs.heap]; exact hg) hgd N).trans q1, q2, q3⟩
end
end Sf
end
section
set_option Elab.async false
set_option linter.all false
set_option maxRecDepth 100000
/-! The hand layer's promises over the second model: read at the state of the library's model that stands beside (ghost x). -/
namespace Sf
open PySem L2 PyProof.Rows
section
variable {P : Program} {w : World} {S : Nat → Prop} {A : Around} {α β : Type} {x s : Shared}
/-- as the ghost says -/
def lo (S : Nat → Prop) (Q : α → Shared → Prop) : α → Shared → Prop := fun a s => ∃ x, SR S x s ∧ Q a x
def wS (P : Program) (w : World) (S : Nat → Prop) (A : Around) (t : Sem α) (Q : α → Shared → Prop) (E : Value → Shared → Prop) (x : Shared) : Prop := ∀ s, SR S x s → wpAny (mp P w) A t (lo S Q) (lo S E) s
def cS (P : Program) (w : World) (S : Nat → Prop) (A : Around) (c : Code) (R : Result → Shared → Prop) (x : Shared) : Prop := ∀ s, SR S x s → codeAny (mp P w) A c (lo S R) s
theorem wS_up {t : Sem α} {Q : α → Shared → Prop} {E : Value → Shared → Prop} (h : wpAny (model P w) A t Q E x) : wS P w S A t Q E x := fun _ hs => wpAny_up hs h
theorem cS_up {c : Code} {R : Result → Shared → Prop} (h : codeAny (model P w) A c R x) : cS P w S A c R x := fun _ hs => codeAny_up hs h
theorem lo.imp {Q Q' : α → Shared → Prop} (h : ∀ a x, Q a x → Q' a x) {a : α} (q : lo S Q a s) : lo S Q' a s := let ⟨x, h1, h2⟩ := q; ⟨x, h1, h _ _ h2⟩
theorem wS.imp {t : Sem α} {Q Q' : α → Shared → Prop} {E E' : Value → Shared → Prop} (h : wS P w S A t Q E x) (hQ : ∀ a x, Q a x → Q' a x) (hE : ∀ a x, E a x → E' a x) : wS P w S A t Q' E' x :=
  fun s hs => wpAny_mono (h s hs) (fun _ _ q => q.imp hQ) fun _ _ q => q.imp hE
theorem wS.thn {t : Sem α} {Q Q' : α → Shared → Prop} {E : Value → Shared → Prop} (h : wS P w S A t Q E x) (hQ : ∀ a x, Q a x → Q' a x) : wS P w S A t Q' E x := h.imp hQ fun _ _ q => q
theorem cS.imp {c : Code} {R R' : Result → Shared → Prop} (h : cS P w S A c R x) (hR : ∀ r x, R r x → R' r x) : cS P w S A c R' x := fun s hs => codeAny_mono (h s hs) fun _ _ q => q.imp hR
/-- one after another -/
theorem nest {m : Sem α} {f : α → Sem β} {Q : β → Shared → Prop} {E : Value → Shared → Prop} (hs : SR S x s) (h : wS P w S A m (fun a x1 => wS P w S A (f a) Q E x1) E x) :
    wpAny (mp P w) A m (fun a s1 => wpAny (mp P w) A (f a) (lo S Q) (lo S E) s1) (lo S E) s :=
  wpAny_mono (h s hs) (fun _ s1 ⟨_, h1, q⟩ => q s1 h1) fun _ _ e => e
theorem wS_bind {m : Sem α} {f : α → Sem β} {Q : β → Shared → Prop} {E : Value → Shared → Prop} (h : wS P w S A m (fun a x1 => wS P w S A (f a) Q E x1) E x) : wS P w S A (m >>= f) Q E x :=
  fun s hs => wpAny_bind (nest hs h)
theorem wS_pure {a : α} {Q : α → Shared → Prop} {E : Value → Shared → Prop} (h : Q a x) : wS P w S A (pure a) Q E x := fun s hs => wpAny_pure ⟨x, hs, h⟩
theorem inv_sr {X : Cx} {pins : List (Addr × Obj)} {σ : L2.St} {H : Hp} (h : SR S x s) (I : Inv X pins σ H x) : Inv X pins σ H s := by
  obtain ⟨h1, h2, h3, h4, h5, h6⟩ := h
  refine ⟨I.ok, h4.trans I.os, fun y hy => ?_, by rw [h1]; exact I.base, by rw [h1]; exact I.loc, by rw [h1]; exact I.cell, I.free, I.freeC, by rw [h1]; exact I.pin, by rw [h1]; exact I.hok, I.len⟩
  obtain ⟨i, hi, e⟩ := Array.mem_iff_getElem.mp hy
  have q := h6 i
  have e2 : s.gens[i]? = some y := by rw [Array.getElem?_eq_getElem hi, e]
  rw [e2] at q
  generalize hz : x.gens[i]? = z at q
  cases q with
  | some q =>
    have b := I.bare _ (Array.mem_of_getElem? hz)
    cases q with
    | fresh => exact b
    | running => exact b
    | finished => exact b
    | susp => exact b
    | soft => exact b
end

/-! ### the promises -/
structure QE (X : Cx) (e : Expr) (t : TE) : Prop where
  run : ∀ (S : Nat → Prop) (pins : List (Addr × Obj)) (x : Shared) (σ : L2.St) (H : Hp) (Q : VK), Inv X pins σ H x → t σ H Q → wS X.prog X.w S X.A (eval e X.env) (EP X pins σ Q) X.xe x
structure QT (X : Cx) (e : Expr) (t : TT) : Prop where
  run : ∀ (S : Nat → Prop) (pins : List (Addr × Obj)) (x : Shared) (σ : L2.St) (H : Hp) (Q : Bool → Hp → Prop), Inv X pins σ H x → t σ H Q → wS X.prog X.w S X.A (isTrue e X.env (eval e X.env)) (TP X pins σ Q) X.xe x
structure QA (X : Cx) (es : List Expr) (t : TA) : Prop where
  run : ∀ (pos : Pos) (S : Nat → Prop) (pins : List (Addr × Obj)) (x : Shared) (σ : L2.St) (H : Hp) (Q : List V → Hp → Prop), Inv X pins σ H x → t σ H Q → wS X.prog X.w S X.A (spliced (backTo pos (starEach es X.env))) (AP X pins σ Q) X.xe x
structure QS (X : Cx) (st : Stmt) (t : TS) : Prop where
  run : ∀ (S : Nat → Prop) (pins : List (Addr × Obj)) (x : Shared) (σ : L2.St) (H : Hp) (D : Ends), Inv X pins σ H x → t D σ H → wS X.prog X.w S X.A (exec st X.env) (SP X pins D) X.xe x
structure QSs (X : Cx) (st : List Stmt) (t : TS) : Prop where
  run : ∀ (S : Nat → Prop) (pins : List (Addr × Obj)) (x : Shared) (σ : L2.St) (H : Hp) (D : Ends), Inv X pins σ H x → t D σ H → wS X.prog X.w S X.A (execs st X.env) (SP X pins D) X.xe x
section
variable {X : Cx} {e a b : Expr} {es : List Expr} {st : Stmt} {rest : List Stmt} {te ta tb : TE} {tA tB' : TT} {tl : TA} {t u : TS} {pos : Pos}
theorem PE.up (h : PE X e te) : QE X e te := ⟨fun _ pins x σ H Q I q => wS_up (h.run pins x σ H Q I q)⟩
theorem PT.up (h : PT X e tA) : QT X e tA := ⟨fun _ pins x σ H Q I q => wS_up (h.run pins x σ H Q I q)⟩
theorem PA.up (h : PA X es tl) : QA X es tl := ⟨fun pos _ pins x σ H Q I q => wS_up (h.run pos pins x σ H Q I q)⟩
theorem PS.up (h : PS X st t) : QS X st t := ⟨fun _ pins x σ H D I q => wS_up (h.run pins x σ H D I q)⟩
theorem PSs.up (h : PSs X rest t) : QSs X rest t := ⟨fun _ pins x σ H D I q => wS_up (h.run pins x σ H D I q)⟩

/-! ### statements -/
theorem qss_nil : QSs X [] tNext := PSs.up pss_nil
theorem flow_then {S : Nat → Prop} {pins : List (Addr × Obj)} {D D' : Ends} {Mid : L2.St → Hp → Prop} (h2 : ∀ x σ H, Inv X pins σ H x → Mid σ H → wS X.prog X.w S X.A (execs rest X.env) (SP X pins D') X.xe x)
    (hD : D = { D' with nx := Mid }) {f : Flow} {s : Shared} : lo S (SP X pins D) f s →
    (match f with | .next => wpAny (mp X.prog X.w) X.A (execs rest X.env) (lo S (SP X pins D')) (lo S X.xe) s | f => lo S (SP X pins D') f s) := by
  subst hD
  intro ⟨y, hy, q⟩
  cases f with
  | next => obtain ⟨σ', H', I', q⟩ := q; exact h2 y σ' H' I' q s hy
  | brk => exact ⟨y, hy, q⟩
  | cont => exact ⟨y, hy, q⟩
  | ret v => exact ⟨y, hy, q⟩
theorem qss_cons (h1 : QS X st t) (h2 : QSs X rest u) : QSs X (st :: rest) (tSeq t u) :=
  ⟨fun S pins x σ H D I h s hs => wpAny_execs_cons (wpAny_mono (h1.run S pins x σ H { D with nx := u D } I h s hs) (fun f _ q => flow_then (fun y σ' H' I' q => h2.run S pins y σ' H' D I' q) rfl q) fun _ _ e => e)⟩
theorem qss_cut (h1 : QS X st t) (h2 : QSs X rest u) : QSs X (st :: rest) (C8.tCut t u) :=
  ⟨fun S pins x σ H D I ⟨Mid, hm, hu⟩ s hs => wpAny_execs_cons (wpAny_mono (h1.run S pins x σ H { D with nx := Mid } I hm s hs) (fun f _ q => flow_then (fun y σ' H' I' q => h2.run S pins y σ' H' D I' (hu σ' H' q)) rfl q) fun _ _ e => e)⟩
theorem qss_one (h1 : QS X st t) : QSs X [st] t :=
  ⟨fun S pins x σ H D I h s hs => wpAny_execs_cons (wpAny_mono (h1.run S pins x σ H D I h s hs) (fun f s1 q => flow_then (D := D) (Mid := D.nx) (fun y σ' H' I' q => wS_up (wpAny_execs_nil ⟨σ', H', I', q⟩)) rfl q) fun _ _ e => e)⟩
theorem qs_if {c : Expr} {p q : List Stmt} (hc : QT X c tA) (h1 : QSs X p t) (h2 : QSs X q u) : QS X (.If c p q pos) (tIfS tA t u) := by
  refine ⟨fun S pins x σ H D I h s hs => wpAny_If (wpAny_mono (hc.run S pins x σ H _ I h s hs) (fun d s1 z => ?_) fun _ _ e => e)⟩
  obtain ⟨y, hy, H1, I1, q1⟩ := z
  cases d with
  | true => exact h1.run S pins y σ H1 D I1 q1 s1 hy
  | false => exact h2.run S pins y σ H1 D I1 q1 s1 hy
theorem qs_ret (he : QE X e te) : QS X (.Return (some e) pos) (tRet te) :=
  ⟨fun S pins x σ H D I h s hs => wpAny_Return_some (wpAny_mono (he.run S pins x σ H _ I h s hs) (fun _ _ ⟨y, hy, v, H1, I1, r1, q1⟩ => ⟨y, hy, v, σ, H1, I1, r1, q1⟩) fun _ _ e => e)⟩
theorem qs_set {i : Nat} {y : Str} {pos' : Pos} (hN : X.N.Nodup) (hi : X.N[i]? = some y) (hx : Loc X.env.scope y) (he : QE X e te) (hw : swapsWith e (some (.Name y pos')) pos.line X.env = pure false := by rfl)
    (hf : X.fn y = true ∨ X.env.scope.names.lookup y = some .local := by first | exact .inl rfl | exact .inr rfl | assumption) : QS X (.Assign [.Name y pos'] e pos) (tAsg te (gName i)) :=
  ⟨fun S pins x σ H D I h s hs => wpAny_Assign_Name (wpAny_mono (he.run S pins x σ H _ I h s hs) (fun v s1 ⟨z, hz, _, H1, I1, r1, q1⟩ => wS_up (store_ok I1 hN hi hx r1 (fun _ I2 => ⟨_, H1, I2, q1⟩) hf) s1 hz) fun _ _ e => e) hw⟩
theorem qs_asg {tg : Expr} {g : TG} (he : QE X e te) (hg : PG X tg g) (hw : swapsWithSole [tg] e pos.line X.env = pure false := by rfl) (hv : swappedStores [tg] e X.env = pure none := by rfl)
    (h1 : (assignEach [tg] X.env).map (·.2) = [assign tg X.env] := by rfl) : QS X (.Assign [tg] e pos) (tAsg te g) := by
  refine ⟨fun S pins x σ H D I h s hs => wpAny_Assign_stores (wpAny_mono (he.run S pins x σ H _ I h s hs) (fun v s1 ⟨z, hz, y, H1, I1, r1, q1⟩ => ?_) fun _ _ e => e) hw hv⟩
  rw [h1]
  exact wS_up (hg.run pins z σ H1 y v _ I1 r1 q1) s1 hz

/-! ### tests -/
theorem qt_val (h : QE X e te) (he : ∀ whole, isTrue e X.env whole = (do let v ← whole; standAt e.pos; holding [v] (truthy v)) := by intro _; rfl) : QT X e (tB te) := by
  refine ⟨fun S pins x σ H Q I q s hs => isTrue_plain (wpAny_mono (h.run S pins x σ H _ I q s hs) (fun v s1 z => ?_) fun _ _ e => e) (he _)⟩
  obtain ⟨y, hy, v', H1, I1, r1, d, rfl, q1⟩ := z
  cases r1
  exact wpAny_truthy_bool ⟨y, hy, H1, I1, q1⟩
theorem qt_not (h : QT X a tA) : QT X (.UnaryOp .Not a pos) (tNot tA) :=
  ⟨fun S pins x σ H Q I q s hs => isTrue_not (wpAny_mono (h.run S pins x σ H (fun c H1 => Q (!c) H1) I q s hs) (fun _ _ z => z) fun _ _ e => e)⟩

/-! ### expressions -/
theorem qa_cons (ha : QE X e te) (hr : QA X es tl) (hw : starEach (e :: es) X.env = (false, eval e X.env) :: starEach es X.env := by rfl) : QA X (e :: es) (tCons te tl) := by
  refine ⟨fun pos S pins x σ H Q I h s hs => ?_⟩
  rw [hw]
  show wpAny _ _ (spliced ((false, eval e X.env) :: backTo pos (starEach es X.env))) _ _ s
  refine Calls.spliced_cons (wpAny_mono (ha.run S pins x σ H _ I h s hs) (fun v s1 ⟨y, hy, z, H1, I1, r1, q1⟩ => ?_) fun _ _ e => e)
  exact wpAny_mono (hr.run pos S pins y σ H1 _ I1 q1 s1 hy) (fun vs s2 ⟨y2, hy2, zs, H2, I2, r2, q2⟩ => ⟨y2, hy2, z :: zs, H2, I2, .cons r1 r2, q2⟩) fun _ _ e => e
theorem qe_op {op : Operator} {r : R2} (ho : OpR X (binaryOp op) r) (ha : QE X a ta) (hb : QE X b tb) : QE X (.BinOp a op b pos) (tOp r ta tb) := by
  refine ⟨fun S pins x σ H Q I h s hs => wpAny_BinOp (wpAny_mono (ha.run S pins x σ H _ I h s hs) (fun v s1 ⟨y, hy, z, H1, I1, r1, q1⟩ => ?_) fun _ _ e => e)⟩
  exact wpAny_mono (hb.run S pins y σ H1 _ I1 q1 s1 hy) (fun u s2 ⟨y2, hy2, z2, H2, I2, r2, q2⟩ => wS_up (ho pins y2 σ H2 z z2 v u Q I2 r1 r2 q2) s2 hy2) fun _ _ e => e
theorem qe_cmp {op : CmpOp} {r : R2} (ho : OpR X (compareOp op) r) (ha : QE X a ta) (hb : QE X b tb) (hm : behindInMarks op b = false) : QE X (.Compare a [op] [b] pos) (tOp r ta tb) := by
  refine ⟨fun S pins x σ H Q I h s hs => wpAny_Compare1 (wpAny_mono (ha.run S pins x σ H _ I h s hs) (fun v s1 ⟨y, hy, z, H1, I1, r1, q1⟩ => ?_) fun _ _ e => e) hm⟩
  exact wpAny_mono (hb.run S pins y σ H1 _ I1 q1 s1 hy) (fun u s2 ⟨y2, hy2, z2, H2, I2, r2, q2⟩ => wS_up (ho pins y2 σ H2 z z2 v u Q I2 r1 r2 q2) s2 hy2) fun _ _ e => e
theorem qt_cmp {op : CmpOp} {r : R2} (ho : OpR X (compareOp op) r) (ha : QE X a ta) (hb : QE X b tb) (hm : behindInMarks op b = false) : QT X (.Compare a [op] [b] pos) (tTest (tOp r ta tb)) := by
  refine ⟨fun S pins x σ H Q I h s hs => wpAny_isTrue_Compare1 (wpAny_mono (ha.run S pins x σ H _ I h s hs) (fun v s1 ⟨y, hy, z, H1, I1, r1, q1⟩ => ?_) fun _ _ e => e) hm⟩
  refine wpAny_mono (hb.run S pins y σ H1 _ I1 q1 s1 hy) (fun u s2 ⟨y2, hy2, z2, H2, I2, r2, q2⟩ => ?_) fun _ _ e => e
  refine wpAny_mono (wS_up (ho pins y2 σ H2 z z2 v u _ I2 r1 r2 q2) s2 hy2) (fun c s3 ⟨y3, hy3, z3, H3, I3, r3, k, ek, q3⟩ => ?_) fun _ _ e => e
  subst ek
  cases r3
  exact wpAny_truthy_bool ⟨y3, hy3, H3, I3, q3⟩
end
end Sf
end
section
set_option Elab.async false
set_option linter.all false
set_option maxRecDepth 100000
/-! Calls, loops and bodies of defs over the second model. -/
namespace Sf
open PySem L2 PyProof.Rows
/-! ### a def's promise -/
structure FnS (P : Program) (w : World) (K : PySem.W.Frag) (mg : Str → Option Value) (base : Heap) (CX : CXT) (k : Nat) (f : Addr) (fd : FuncData) (ps : List Str) (sp : Sp) : Prop where
  len : ∀ vs H Q E, sp vs H Q E → vs.length = ps.length
  run : ∀ (S : Nat → Prop) (A : Around) (outer : List Env) (x : Shared) (H : Hp) (args : Args) (us : List Value) (vs : List V) (Q : VK) (E : XK), Room k A → Env0 P w K mg base A outer x H → BindsTo x fd args (ps.zip us) → Vals vs us → sp vs H Q E →
    cS P w S A (.call (.ref f) args) (CR CX outer P w H x Q E) x
section
variable {P : Program} {w : World} {K : PySem.W.Frag} {mg : Str → Option Value} {base : Heap} {CX : CXT} {k : Nat} {f : Addr} {fd : FuncData} {ps : List Str} {sp : Sp}
theorem FnOk.up (F : FnOk P w K mg base CX k f fd ps sp) : FnS P w K mg base CX k f fd ps sp :=
  ⟨F.len, fun _ A outer x H args us vs Q E hr e0 hb rv q => cS_up (F.run A outer x H args us vs Q E hr e0 hb rv q)⟩
theorem FnS.mono {j : Nat} (F : FnS P w K mg base CX j f fd ps sp) (h : j ≤ k) : FnS P w K mg base CX k f fd ps sp :=
  ⟨F.len, fun S A outer x H args us vs Q E hr => F.run S A outer x H args us vs Q E (hr.mono h)⟩
end
section
variable {X : Cx} {CX : CXT} {k : Nat} {f : Addr} {fd : FuncData} {ps : List Str} {sp : Sp} {dvs : List V} {ds : List Value} {E : XK} {y : Str} {p pos : Pos} {e : Expr} {es : List Expr} {t : TA}
theorem run_fnS {S : Nat → Prop} {pins : List (Addr × Obj)} {σ : L2.St} {H : Hp} {x : Shared} {Q : VK} {us : List Value} {vs : List V} (F : FnS X.prog X.w X.K X.mg X.base CX k f fd ps sp) (hr : Room k X.A) (hb : Binds X.K fd ps ds) (hd : Vals dvs ds) (hx : Passes CX X E)
    (I : Inv X pins σ H x) (rv : Vals vs us) (q : sp (vs ++ dvs) H Q E) : wS X.prog X.w S X.A (call (.ref f) us) (EP X pins σ Q) X.xe x := by
  intro s hs
  have r2 : Vals (vs ++ dvs) (us ++ ds) := rv.append hd
  have hl : (us ++ ds).length = ps.length := by rw [← r2.length]; exact F.len _ _ _ _ q
  refine wpAny_call (codeAny_mono (F.run S X.A X.stack x H ⟨us, []⟩ (us ++ ds) (vs ++ dvs) Q E hr I.env0 (hb x us I.kIn hl) r2 q s hs) fun r s' z => ?_)
  obtain ⟨x', hx', z⟩ := z
  cases r with
  | error e => exact ⟨x', hx', hx pins σ H x e x' I z⟩
  | ok fl =>
    cases fl with
    | ret u => exact ⟨x', hx', I.after z⟩
    | next => exact False.elim z
    | brk => exact False.elim z
    | cont => exact False.elim z
theorem nm_glob {S : Nat → Prop} {pins : List (Addr × Obj)} {σ : L2.St} {H : Hp} {x s : Shared} {u : Value} {E : Value → Shared → Prop} (I : Inv X pins σ H x) (hs : SR S x s) (hg : Gl X y) (hm : X.mg y = some u) (hd : (y == ("__debug__" : Str)) = false) :
    wpAny (mp X.prog X.w) X.A (eval (.Name y p) X.env) (fun v s1 => v = u ∧ SR S x s1) (lo S E) s :=
  wpAny_mono (wS_up (ld_glob (Q := fun v z => v = u ∧ z = x) (E := E) I hg hm ⟨rfl, rfl⟩ hd) s hs) (fun v s1 ⟨z, hz, e1, e2⟩ => ⟨e1, e2 ▸ hz⟩) fun _ _ e => e
theorem nm_blt {S : Nat → Prop} {pins : List (Addr × Obj)} {σ : L2.St} {H : Hp} {x s : Shared} {u : Value} {E : Value → Shared → Prop} (I : Inv X pins σ H x) (hs : SR S x s) (hg : Gl X y) (hm : X.mg y = none) (hv : bootBuiltins y = some u) (hn : y ≠ "__name__") (hd : (y == ("__debug__" : Str)) = false) :
    wpAny (mp X.prog X.w) X.A (eval (.Name y p) X.env) (fun v s1 => v = u ∧ SR S x s1) (lo S E) s :=
  wpAny_mono (wS_up (ld_blt (Q := fun v z => v = u ∧ z = x) (E := E) I hg hm hv ⟨rfl, rfl⟩ hn hd) s hs) (fun v s1 ⟨z, hz, e1, e2⟩ => ⟨e1, e2 ▸ hz⟩) fun _ _ e => e
/-- f(e, ..) -/
theorem qe_call (F : FnS X.prog X.w X.K X.mg X.base CX k f fd ps sp) (hr : Room k X.A) (hg : Gl X y) (hm : X.mg y = some (.ref f)) (hk : PySem.W.keepIn X.K (.ref f) = true) (hb : Binds X.K fd ps ds) (hd : Vals dvs ds) (hx : Passes CX X E)
    (ha : QA X (e :: es) t) (hdb : (y == ("__debug__" : Str)) = false := by decide) (he : starEach (e :: es) X.env = (false, eval e X.env) :: starEach es X.env := by rfl) (hpl : (backTo pos (starEach es X.env)).any (·.1) = false := by rfl) :
    QE X (.Call (.Name y p) (e :: es) [] pos) (tCall sp dvs E t) := by
  refine ⟨fun S pins x σ H Q I q s hs => wpAny_Call_Name_kw (wpAny_mono (nm_glob I hs hg hm hdb) (fun v s1 ⟨ev, h1⟩ => ?_) fun _ _ e => e)⟩
  subst ev
  refine PySem.W.callWith_K (h₀ := X.base) I.ok.mod.kin hk (wpAny_mono (ha.run pos S pins x σ H _ I q s1 h1) (fun us s2 ⟨y2, h2, vs, H1, I1, rv, q2⟩ => ⟨by rw [h2.heap]; exact I1.kIn, ?_⟩) fun _ _ e => e) he hpl
  exact run_fnS F hr hb hd hx I1 rv q2 s2 h2
theorem qe_call0 (F : FnS X.prog X.w X.K X.mg X.base CX k f fd ps sp) (hr : Room k X.A) (hg : Gl X y) (hm : X.mg y = some (.ref f)) (hk : PySem.W.keepIn X.K (.ref f) = true) (hb : Binds X.K fd ps ds) (hd : Vals dvs ds) (hx : Passes CX X E)
    (hdb : (y == ("__debug__" : Str)) = false := by decide) : QE X (.Call (.Name y p) [] [] pos) (tCall sp dvs E tNil) := by
  refine ⟨fun S pins x σ H Q I q s hs => wpAny_Call_Name_kw (wpAny_mono (nm_glob I hs hg hm hdb) (fun v s1 ⟨ev, h1⟩ => ?_) fun _ _ e => e)⟩
  subst ev
  exact PySem.W.callWith_K0 (by rw [h1.heap]; exact I.kIn) hk (run_fnS (us := []) (vs := []) F hr hb hd hx I .nil q s1 h1)
/-- a built-in of known values -/
theorem qe_callB {id : String} {r : List V → Hp → VK → Prop} (hc : CallR X (.builtin id) r) (hg : Gl X y) (hm : X.mg y = none) (hv : bootBuiltins y = some (.builtin id)) (ha : QA X (e :: es) t) (hn : y ≠ "__name__" := by decide) (hdb : (y == ("__debug__" : Str)) = false := by decide)
    (he : starEach (e :: es) X.env = (false, eval e X.env) :: starEach es X.env := by rfl) (hpl : (backTo pos (starEach es X.env)).any (·.1) = false := by rfl) : QE X (.Call (.Name y p) (e :: es) [] pos) (tCB r t) := by
  refine ⟨fun S pins x σ H Q I q s hs => wpAny_Call_Name_kw (wpAny_mono (nm_blt I hs hg hm hv hn hdb) (fun v s1 ⟨ev, h1⟩ => ?_) fun _ _ e => e)⟩
  subst ev
  exact PyProof.Rows.callWith_builtin1 (wpAny_mono (ha.run pos S pins x σ H _ I q s1 h1) (fun us s2 ⟨y2, h2, vs, H1, I1, rv, q2⟩ => wS_up (hc pins y2 σ H1 vs us Q I1 rv q2) s2 h2) fun _ _ e => e) he hpl
theorem qe_callTy {T : String} {r : List V → Hp → VK → Prop} (hc : CallR X (.type T) r) (hg : Gl X y) (hm : X.mg y = none) (hv : bootBuiltins y = some (.type T)) (ha : QA X (e :: es) t) (hn : y ≠ "__name__" := by decide) (hdb : (y == ("__debug__" : Str)) = false := by decide)
    (he : starEach (e :: es) X.env = (false, eval e X.env) :: starEach es X.env := by rfl) (hpl : (backTo pos (starEach es X.env)).any (·.1) = false := by rfl) : QE X (.Call (.Name y p) (e :: es) [] pos) (tCB r t) := by
  refine ⟨fun S pins x σ H Q I q s hs => wpAny_Call_Name_kw (wpAny_mono (nm_blt I hs hg hm hv hn hdb) (fun v s1 ⟨ev, h1⟩ => ?_) fun _ _ e => e)⟩
  subst ev
  exact PyProof.Rows.callWith_type1 (wpAny_mono (ha.run pos S pins x σ H _ I q s1 h1) (fun us s2 ⟨y2, h2, vs, H1, I1, rv, q2⟩ => wS_up (hc pins y2 σ H1 vs us Q I1 rv q2) s2 h2) fun _ _ e => e) he hpl
end

/-! ### codes of Python in the second model -/
section
variable {P : Program} {w : World} {S : Nat → Prop} {A : Around} {x s : Shared} {env : Env}
theorem noted_up {E : Value → Shared → Prop} {e : Value} (q : lo S (notedBy (model P w) A env E) e s) : notedBy (mp P w) A env (lo S E) e s := by
  obtain ⟨x, h, q⟩ := q
  exact wpAny_up h q
theorem back_up {E : Value → Shared → Prop} {e : Value} (q : lo S (cameBackBy (model P w) A env E) e s) : cameBackBy (mp P w) A env (lo S E) e s := by
  obtain ⟨x, h, q⟩ := q
  exact wpAny_up h q
theorem block_S {stmts : List Stmt} {R : Result → Shared → Prop} (h : wS P w S A (execs stmts env) (fun f y => R (.ok f) y) (notedBy (model P w) A env fun e y => R (.error e) y) x) : cS P w S A (.block stmts env) R x := by
  intro s hs
  refine codeAny_of_tree ?_
  show wpAny (mp P w) _ (do return Fin.done (← (execs stmts env).onRaise (fun x => do noteFrame x env; theTreesLotGoes x))) _ _ s
  exact wpAny_bind (wpAny_noted (wpAny_mono (h s hs) (fun f s' q => wpAny_pure q) fun _ _ q => noted_up q))
theorem func_S {body : List Stmt} {R : Result → Shared → Prop} (h : wS P w S (A.deeper env) (execs body env) (fun f y => R (.ok (.ret (match f with | .ret v => v | _ => .none))) y)
    (fun e y => wpAny (model P w) (A.deeper env) (leaving env e) (fun _ z => R (.error e) z) (fun e' z => R (.error e') z) y) x) : cS P w S A (.func body env) R x := by
  intro s hs
  refine codeAny_of_tree ?_
  show wpAny (mp P w) (A.deeper env) (do point; match ← (execs body env).onRaise (leaving env) with | .ret v => ret v | _ => ret .none) _ _ s
  refine wpAny_bind (wpAny_point (wpAny_bind (wpAny_onRaise (wpAny_mono (h s hs) (fun f s' q => ?_) fun e s' ⟨y, hy, q⟩ => ?_))))
  · cases f <;> exact wpAny_pure q
  · exact wpAny_up hy q
/-- the turns of a for loop -/
theorem turns_S {R : Result → Shared → Prop} {tg : Expr} {it : Value} {body : List Stmt} (I : Nat → Shared → Prop)
    (turn : ∀ n x, I n x → wS P w S A (pyNext it) (fun r x1 => match r with
      | none => wS P w S A (execs [] env) (fun f x3 => R (.ok f) x3) (notedBy (model P w) A env fun e y => R (.error e) y) x1
      | some v => wS P w S A (letOwnedTupleGo tg it v) (fun _ x1' =>
          wS P w S A (assign tg env v) (fun _ x2 => wS P w S A (execs body env) (fun f x3 => match f with
            | .next | .cont => ∃ m, m < n ∧ I m x3
            | .brk => R (.ok .next) x3
            | .ret v => R (.ok (.ret v)) x3) (notedBy (model P w) A env fun e y => R (.error e) y) x2) (notedBy (model P w) A env fun e y => R (.error e) y) x1') (notedBy (model P w) A env fun e y => R (.error e) y) x1) (notedBy (model P w) A env fun e y => R (.error e) y) x)
    (n : Nat) (h : I n x) : cS P w S A (.forLoop tg it body [] env) R x := by
  intro s hs
  refine codeAny_loop' rfl (fun n s => ∃ x, SR S x s ∧ I n x) (fun n s hI => ?_) n ⟨x, hs, h⟩
  obtain ⟨x, hs, hI⟩ := hI
  show wpAny (mp P w) A ((forTurn tg it body [] env).onRaise (fun x => do noteFrame x env; theTreesLotGoes x)) _ _ s
  refine wpAny_noted ?_
  simp only [forTurn]
  have ne : ∀ e s, lo S (notedBy (model P w) A env fun e y => R (.error e) y) e s → notedBy (mp P w) A env (fun e s => lo S R (.error e) s) e s := fun e s q => noted_up q
  refine wpAny_bind (wpAny_standAt (wpAny_bind (wpAny_onRaise (wpAny_mono (turn n x hI s hs) (fun r s1 ⟨x1, h1, q⟩ => ?_) fun _ _ q => wpAny_standAt (ne _ _ q)))))
  cases r with
  | none => exact wpAny_pure (.inr ⟨rfl, block_S q s1 h1⟩)
  | some v =>
    refine wpAny_bind (wpAny_mono (q s1 h1) (fun _ s2 ⟨x2, h2, q2⟩ => ?_) ne)
    refine wpAny_bind (wpAny_mono (q2 s2 h2) (fun _ s3 ⟨x3, h3, q3⟩ => ?_) ne)
    refine wpAny_bind (wpAny_mono (q3 s3 h3) (fun f s4 ⟨x4, h4, q4⟩ => ?_) ne)
    cases f with
    | next => obtain ⟨m, hm, hi⟩ := q4; exact wpAny_pure (.inl ⟨rfl, m, hm, x4, h4, hi⟩)
    | cont => obtain ⟨m, hm, hi⟩ := q4; exact wpAny_pure (.inl ⟨rfl, m, hm, x4, h4, hi⟩)
    | brk => exact wpAny_pure ⟨x4, h4, q4⟩
    | ret v => exact wpAny_pure ⟨x4, h4, q4⟩
theorem passes_S {α : Type} {t : Sem α} {Q : α → Shared → Prop} {E : Value → Shared → Prop} (hE : PassesOwn (model P w) A env E) (h : wS P w S A t Q E x) : wS P w S A t Q (notedBy (model P w) A env (cameBackBy (model P w) A env E)) x := h.imp (fun _ _ q => q) hE
end
section
variable {X : Cx} {pos : Pos}
/-- for: what it goes over gives nothing softly, its suite may -/
theorem qs_for {tg iter : Expr} {body : List Stmt} {wi : TI} {g : TG} {tb : TS} (hp : PassesOwn (model X.prog X.w) X.A X.env X.xe) (hc : X.calm = true) (hi : PI X tg iter wi) (hg : PG X tg g) (hb : QSs X body tb)
    (hw : ∀ z, foldedSetIterable iter X.env z = pure z := by intro _; rfl) : QS X (.For tg iter body [] pos) (tFor wi g tb) := by
  refine ⟨fun S pins x σ H D I h s hs => wpAny_For (wpAny_mono (wS_up (hi.run pins x σ H _ I h) s hs) (fun v s1 ⟨x1, h1, q1⟩ => wpAny_mono (wpAny_up h1 q1) (fun itv s2 ⟨x2, h2, q2⟩ => ?_) fun _ _ e => e) fun _ _ e => e) hw⟩
  obtain ⟨it, fp, tn, J, H2, e, I2, T, st2, f2, W, ⟨m0, w0⟩, turn⟩ := q2
  subst e
  have stat : ∀ {H' : Hp}, (∀ b ∈ fp, H' b = none) → ∀ b ∈ fp, FpOk X pins H' b := fun hn b hb => ⟨hn b hb, (f2 b hb).2⟩
  refine codeAny_mono (turns_S (R := fun r y => match r with | .ok f => SP X pins D f y | .error e => cameBackBy (model X.prog X.w) X.A X.env X.xe e y) (fun n y => ∃ i σ' H', Inv X pins σ' H' y ∧ tn i y.heap ∧ (∀ b ∈ fp, H' b = none) ∧ W i n σ' H') ?_ m0 ⟨0, σ, H2, I2, st2, fun b hb => (f2 b hb).1, w0⟩ s2 h2) ?_
  · rintro n x3 ⟨i, σ3, H3, I3, st3, fr3, w3⟩
    rcases turn i n σ3 H3 w3 with ⟨stop, qn⟩ | ⟨go, N, hN, step⟩
    · refine passes_S hp ((wS_up (T.done X rfl rfl rfl hc i pins x3 σ3 H3 X.xe I3 (stat fr3) st3 stop)).thn fun r x4 ⟨hr, I4⟩ => ?_)
      subst hr
      exact wS_up (wpAny_execs_nil ⟨σ3, H3, I4, qn⟩)
    · refine passes_S hp ((wS_up (T.item X rfl rfl rfl hc i pins x3 σ3 H3 X.xe I3 (stat fr3) st3 go)).thn fun r x4 ⟨u, hr, h4⟩ => ?_)
      subst hr
      refine passes_S hp ((wS_up h4).thn fun _ x5 ⟨v5, H5, I5, r5, y5, st5, fr5⟩ => ?_)
      have I5' := I5.pinned (stat fr5) (T.obj _ _ st5)
      refine passes_S hp ((wS_up (hg.run _ x5 σ3 H5 v5 u _ I5' r5 (step v5 H5 y5))).thn fun _ x6 ⟨σ6, H6, I6, q6⟩ => ?_)
      refine passes_S hp ((hb.run S _ x6 σ6 H6 _ I6 q6).thn fun f x7 q7 => ?_)
      have again : ∀ {σ7 : L2.St} {H7 : Hp}, Inv X (pins ++ pinsAt fp x5.heap) σ7 H7 x7 → N σ7 H7 → ∃ m, m < n ∧ ∃ i σ' H', Inv X pins σ' H' x7 ∧ tn i x7.heap ∧ (∀ b ∈ fp, H' b = none) ∧ W i m σ' H' := fun {σ7 H7} I7 n7 => by
        obtain ⟨m', hm, w7⟩ := hN σ7 H7 n7
        refine ⟨m', hm, i + 1, σ7, H7, I7.unpinned, T.keep _ _ _ st5 fun b hb o e => (I7.pin (b, o) (List.mem_append_right _ (List.mem_append_right _ (mem_pinsAt hb e)))).1, fun b hb => ?_, w7⟩
        obtain ⟨o, e, d⟩ := T.obj _ _ st5 b hb
        exact (I7.pin (b, o) (List.mem_append_right _ (List.mem_append_right _ (mem_pinsAt hb e)))).2.1
      cases f with
      | next => obtain ⟨σ7, H7, I7, n7⟩ := q7; exact again I7 n7
      | cont => obtain ⟨σ7, H7, I7, n7⟩ := q7; exact again I7 n7
      | brk => obtain ⟨σ7, H7, I7, q7⟩ := q7; exact ⟨σ7, H7, I7.unpinned, q7⟩
      | ret v => obtain ⟨z7, σ7, H7, I7, r7, q7⟩ := q7; exact ⟨z7, σ7, H7, I7.unpinned, r7, q7⟩
  · intro r s3 q
    cases r with
    | ok f => exact q
    | error e => exact back_up q
end
end Sf
end
section
set_option Elab.async false
set_option linter.all false
set_option maxRecDepth 100000
/-! A def's body over the second model. -/
namespace Sf
open PySem L2 PyProof.Rows
section
variable {P : Program} {w : World} {S : Nat → Prop} {A : Around} {x s : Shared}
/-- the call of a plain def up to its own code -/
theorem enter_def {a : Addr} {args : Args} {o : Obj} {fd : FuncData} {body : List Stmt} {G : Env → Shared → Prop} {E : Value → Shared → Prop} (hroom : A.depth < recursionLimit) (ho : x.heap.get? a = some o) (hd : o.data = .func fd)
    (hco : fd.scope.isCoroutine = false) (hgen : fd.scope.isGenerator = false) (hbody : fd.body = .stmts body) (hcd : x.heap.CodeRec fd.code fd.qualname)
    (h : wpAny (model P w) A.in1 (bindArgs fd args) (fun binds x1 => wpAny (model P w) A.in1 (newFunctionEnv fd.scope fd.globals fd.closure binds (fd.qualname ++ ".<locals>.") (some a) fd.code none fd.builtins) (fun env x2 => x2.heap.NoLimit ∧ G env x2) E x1) E x) :
    wpAny (model P w) A.in1 (callAny (.ref a) args) (fun fin y => ∃ env, fin = .again (.func body env) ∧ G env y) E x := by
  obtain ⟨c, oc, fs, tq, hc, hoc, hdc, hq⟩ := hcd
  unfold callAny
  refine wpAny_bind (wpAny_load ho ?_)
  simp only [hd]
  unfold callFunction
  simp only [hc, hco, hgen, hbody]
  refine wpAny_bind (wpAny_field hoc hdc hq (wpAny_bind (wpAny_pure ?_)))
  rw [hc] at h
  exact wpAny_bind (wpAny_mono h (fun binds x1 h1 => wpAny_bind (wpAny_mono h1 (fun env x2 h2 => wpAny_bind (wpAny_enterFrame h2.1 hroom (wpAny_pure ⟨env, rfl, h2.2⟩))) fun _ _ e => e)) fun _ _ e => e)
theorem call_S {a : Addr} {args : Args} {o : Obj} {fd : FuncData} {body : List Stmt} {R : Result → Shared → Prop} (hroom : A.depth < recursionLimit) (ho : x.heap.get? a = some o) (hd : o.data = .func fd)
    (hco : fd.scope.isCoroutine = false) (hgen : fd.scope.isGenerator = false) (hbody : fd.body = .stmts body) (hcd : x.heap.CodeRec fd.code fd.qualname)
    (h : wpAny (model P w) A.in1 (bindArgs fd args) (fun binds x1 => wpAny (model P w) A.in1 (newFunctionEnv fd.scope fd.globals fd.closure binds (fd.qualname ++ ".<locals>.") (some a) fd.code none fd.builtins) (fun env x2 => x2.heap.NoLimit ∧ cS P w S A (.func body env) R x2) (fun e y => R (.error e) y) x1) (fun e y => R (.error e) y) x) :
    cS P w S A (.call (.ref a) args) R x := by
  intro s hs
  refine codeAny_of_tree ?_
  show wpAny (mp P w) A.in1 (callAny (.ref a) args) _ _ s
  refine wpAny_mono (wpAny_up hs (enter_def hroom ho hd hco hgen hbody hcd h)) (fun fin s1 ⟨y, hy, env, ef, q⟩ => ?_) fun _ _ e => e
  subst ef
  exact ⟨rfl, q s1 hy⟩
end
/-- a def (or a method) by its body -/
theorem fnS_of {CX : CXT} {P : Program} {w : World} {K : PySem.W.Frag} {mg : Str → Option Value} {base : Heap} {k : Nat} {f : Addr} {name qual : Str} {params : Arguments} {body : List Stmt} {scope : Scope} {dV kV doc pm cdv ct oc : Value} {an od : Option Addr}
    {osl : Array (Option Value)} {N ps : List Str} {sp : Sp} (lk : K.lookup f = some ⟨oc, od, .func (PySem.W.fnOf name qual params body scope dV kV doc pm an cdv ct), osl⟩) (hcd : PySem.W.codeIn K cdv qual = true) (sc : FnScope N ps scope)
    (len : ∀ vs H Q E, sp vs H Q E → vs.length = ps.length)
    (hbody : ∀ (A : Around) (outer : List Env) (x : Shared) (H : Hp) (vs : List V) (Q : VK) (E : XK), Room k (A.deeper (envOfC qual scope x.heap.objs.size f cdv)) → sp vs H Q E →
      ∃ t, QSs (cxOf CX P w K mg base N qual scope f cdv A outer x H E) body t ∧ t { nx := fun _ H' => Q .non H', rt := Q } (start N vs) H) :
    FnS P w K mg base CX (k + 1) f (PySem.W.fnOf name qual params body scope dV kV doc pm an cdv ct) ps sp := by
  refine ⟨len, fun S A outer x H args us vs Q E hr e0 hb rv hsp => ?_⟩
  have KX : K.In x.heap := e0.mod.kin.keeps fun b o e => (e0.bs b o e).1
  have lim : x.heap.NoLimit := e0.mod.nolimit.keeps fun b o e => (e0.bs b o e).1
  have hkind : ∀ z ∈ ps.zip us, scope.names.lookup z.1 = some .local ∨ (scope.names.lookup z.1 = some .cell ∧ ((cellsFrom (x.heap.objs.size + 1) scope.names []).lookup z.1).isSome = true) := by
    rintro ⟨n, v⟩ hz
    exact (sc.par n (List.of_mem_zip hz).1).imp (fun q => q) fun q => ⟨q, PySem.W.cellsFrom_some _ _ _ (.inl q)⟩
  refine call_S hr.depth (KX _ _ lk) rfl sc.co sc.gen rfl (PySem.W.codeRec_of KX hcd) (hb _ _ _ _ (wpAny_newFunctionEnv_cells sc.kind hkind ?_))
  rintro env rfl x1 z
  refine ⟨lim.keeps z.toInCall.keep, func_S ?_⟩
  obtain ⟨t, ht, hq⟩ := hbody A outer x H vs Q E (hr.deeper _) hsp
  have I := inv_start (CX := CX) (E := E) sc hr.hd e0 (len _ _ _ _ hsp) rv z
  refine (ht.run S [] x1 (start N vs) H _ I hq).imp (fun fl y q => ?_) fun e y q => q
  cases fl with
  | ret u => obtain ⟨v, σ', H', J, r1, q1⟩ := q; exact ⟨v, H', J.os, J.bare, J.base, J.hok, r1, q1⟩
  | next => obtain ⟨σ', H', J, q1⟩ := q; exact ⟨.non, H', J.os, J.bare, J.base, J.hok, rfl, q1⟩
  | brk => obtain ⟨_, _, _, q⟩ := q; exact q.elim
  | cont => obtain ⟨_, _, _, q⟩ := q; exact q.elim
end Sf
end
section
set_option Elab.async false
set_option linter.all false
set_option maxRecDepth 100000
/-! Segments of a generator's code over any model; trees of the second model. -/
namespace Sf
open PySem L2 PyProof.Rows GenW
open Sem (wp)
section
variable {M : Model} {A : Around} {R : GenEnd} {Y : Protocol} {n : Nat} {s₀ s : Shared} {c : Code} {fs : List Frame} {env : Env} {K : Flow → Sem PySem.Fin} {J : Value → Sem PySem.Fin} {gd : Bool → Bool} {lv : List Value → List Value}
theorem never_mono {α : Type} {t : Sem α} {Q : α → Shared → Prop} {E : Value → Shared → Prop} (h : wpAny M A t Q (fun _ _ => False) s) : wpAny M A t Q E s := wpAny_mono h (fun _ _ q => q) fun _ _ z => z.elim
theorem segw_at {α : Type} {p' : Pos} {m : Sem α} {KK : α → Sem PySem.Fin} {JJ : Value → Sem PySem.Fin} (h : Seg M A R Y n s₀ c (m.wrap KK JJ gd lv) fs s) : Seg M A R Y n s₀ c ((standAt p' >>= fun _ => m).wrap KK JJ gd lv) fs s := seg_at h
theorem seg_if {e : Expr} {a b : List Stmt} {pos : Pos} (h : wpAny M (A.over c fs) (isTrue e env (eval e env)) (fun d s' => Seg M A R Y n s₀ c ((execs (if d = true then a else b) env).wrap K J gd lv) fs s') (fun x s' => Seg M A R Y n s₀ c (J x) fs s') s) :
    Seg M A R Y n s₀ c ((exec (.If e a b pos) env).wrap K J gd lv) fs s := by
  rw [exec_If]
  refine segw_at (seg_bind_wrap (wpAny_mono h (fun d s' q => ?_) fun _ _ q => q))
  cases d with
  | true => exact q
  | false => exact q
/-- what comes back from a loop's code -/
def came (env : Env) (K : Flow → Sem PySem.Fin) (J : Value → Sem PySem.Fin) (gd : Bool → Bool) (lv : List Value → List Value) : Result → Sem PySem.Fin :=
  fun r => ((match r with | .ok f => (.pure f : Sem Flow) | .error e => .raise e).onRaise fun (x : Value) => do
        if (← field x 1) == Value.none then unsupported "frame.own-activation:exception-without-traceback"
        setFlight x env.frame).wrap K J gd lv
theorem seg_for {tg iter : Expr} {body : List Stmt} {pos : Pos} (hw : ∀ x, foldedSetIterable iter env x = pure x)
    (h : wpAny M (A.over c fs) (eval iter env) (fun v s1 => wpAny M (A.over c fs) (pyIter v) (fun it s2 => ∀ p, Seg M A R Y n s₀ (.forLoop tg it body [] env) (M.den (.forLoop tg it body [] env)) (.ret (came env K J gd lv) none (gd false) (lv []) c p [] :: fs) s2) (fun _ _ => False) s1) (fun _ _ => False) s) :
    Seg M A R Y n s₀ c ((exec (.For tg iter body [] pos) env).wrap K J gd lv) fs s := by
  rw [exec_For]
  refine segw_at (seg_bind_wrap (never_mono (wpAny_mono h (fun v s1 q => ?_) fun _ _ z => z)))
  rw [hw]
  refine seg_bind_wrap (wpAny_pure (segw_at (seg_bind_wrap (wpAny_holding (never_mono (wpAny_mono q (fun it s2 q2 => ?_) fun _ _ z => z))))))
  exact seg_call q2
end
section
variable {P : Program} {w : World} {A : Around} {R : GenEnd} {Y : Protocol} {n : Nat} {s₀ s : Shared} {fs : List Frame} {env : Env}
/-- one turn of a for loop in a generator's code -/
theorem seg_turn {tg : Expr} {it : Value} {body : List Stmt} {Jn : Value → Sem PySem.Fin} (hJ : Jn = fun e => (do noteFrame e env; theTreesLotGoes e : Sem Unit).bind fun _ => .raise e)
    (h : wpAny (mp P w) (A.over (.forLoop tg it body [] env) fs) (pyNext it) (fun r s1 => match r with
      | none => Seg (mp P w) A R Y n s₀ (.block [] env) ((mp P w).den (.block [] env)) fs s1
      | some v => wpAny (mp P w) (A.over (.forLoop tg it body [] env) fs) (letOwnedTupleGo tg it v) (fun _ s2 => wpAny (mp P w) (A.over (.forLoop tg it body [] env) fs) (assign tg env v) (fun _ s3 =>
          Seg (mp P w) A R Y n s₀ (.forLoop tg it body [] env) ((execs body env).wrap (fun f => match f with
            | .next | .cont => .pure (.again (.forLoop tg it body [] env))
            | .brk => .pure (.done .next)
            | .ret v => .pure (.done (.ret v))) Jn id id) fs s3) (fun _ _ => False) s2) (fun _ _ => False) s1) (fun _ _ => False) s) :
    Seg (mp P w) A R Y n s₀ (.forLoop tg it body [] env) ((mp P w).den (.forLoop tg it body [] env)) fs s := by
  show Seg _ A R Y n s₀ _ ((forTurn tg it body [] env).onRaise (fun x => do noteFrame x env; theTreesLotGoes x)) fs s
  rw [Sem.onRaise_eq_wrap]
  unfold forTurn
  refine segw_at (seg_bind_wrap (wpAny_onRaise (wpAny_mono h (fun r s1 q => ?_) fun _ _ z => z.elim)))
  cases r with
  | none => exact seg_again rfl q
  | some v =>
    refine seg_bind_wrap (never_mono (wpAny_mono q (fun _ s2 q2 => ?_) fun _ _ z => z))
    refine seg_bind_wrap (never_mono (wpAny_mono q2 (fun _ s3 q3 => ?_) fun _ _ z => z))
    rw [Sem.bind_eq_wrap', Sem.wrap_wrap]
    rw [Sem.wrap_congr (execs body env) _ _ (K' := fun f => match f with
            | .next | .cont => .pure (.again (.forLoop tg it body [] env))
            | .brk => .pure (.done .next)
            | .ret v => .pure (.done (.ret v))) (H' := Jn) (fun f => by cases f <;> rfl) (fun e => by rw [hJ]; rfl)]
    exact q3
theorem seg_block {K : Flow → Sem PySem.Fin} (h : Seg (mp P w) A R Y n s₀ (.block [] env) (.pure (.done .next)) fs s) : Seg (mp P w) A R Y n s₀ (.block [] env) ((mp P w).den (.block [] env)) fs s := h
theorem seg_fun {body : List Stmt} {Jn : Value → Sem PySem.Fin} (hJ : Jn = fun e => (leaving env e).bind fun _ => .raise e)
    (h : Seg (mp P w) A R Y n s₀ (.func body env) ((execs body env).wrap (fun f => .pure (.done (.ret (match f with | .ret v => v | _ => .none)))) Jn id id) fs s) :
    Seg (mp P w) A R Y n s₀ (.func body env) ((mp P w).den (.func body env)) fs s := by
  show Seg _ A R Y n s₀ _ (.point [] fun _ => ((execs body env).onRaise (leaving env)) >>= _) fs s
  refine seg_point ?_
  rw [Sem.onRaise_eq_wrap, Sem.bind_eq_wrap', Sem.wrap_wrap]
  rw [Sem.wrap_congr (execs body env) _ _ (K' := fun f => .pure (.done (.ret (match f with | .ret v => v | _ => .none)))) (H' := Jn) (fun f => by cases f <;> rfl) (fun e => by
    subst hJ
    show _ = (leaving env e).bind fun _ => .raise e
    rw [Sem.bind_eq_wrap, Sem.wrap_wrap, Sem.bind_eq_wrap]
    rfl)]
  exact h
/-- one turn of a while loop -/
theorem seg_wturn {test : Expr} {body : List Stmt} {Jn : Value → Sem PySem.Fin} (hJ : Jn = fun e => (do noteFrame e env; theTreesLotGoes e : Sem Unit).bind fun _ => .raise e)
    (h : wpAny (mp P w) (A.over (.whileLoop test body [] env) fs) (isTrue test env (eval test env)) (fun b s1 => if b = true then
        Seg (mp P w) A R Y n s₀ (.whileLoop test body [] env) ((execs body env).wrap (fun f => match f with
            | .next | .cont => .pure (.again (.whileLoop test body [] env))
            | .brk => .pure (.done .next)
            | .ret v => .pure (.done (.ret v))) Jn id id) fs s1
        else Seg (mp P w) A R Y n s₀ (.whileLoop test body [] env) (.pure (.done .next)) fs s1) (fun _ _ => False) s) :
    Seg (mp P w) A R Y n s₀ (.whileLoop test body [] env) ((mp P w).den (.whileLoop test body [] env)) fs s := by
  show Seg _ A R Y n s₀ _ ((whileTurn test body [] env).onRaise (fun x => do noteFrame x env; theTreesLotGoes x)) fs s
  rw [Sem.onRaise_eq_wrap]
  unfold whileTurn
  refine seg_bind_wrap (never_mono (wpAny_mono h (fun b s1 q => ?_) fun _ _ z => z))
  cases b with
  | true =>
    rw [if_pos rfl] at q ⊢
    rw [Sem.bind_eq_wrap', Sem.wrap_wrap]
    rw [Sem.wrap_congr (execs body env) _ _ (K' := fun f => match f with
            | .next | .cont => .pure (.again (.whileLoop test body [] env))
            | .brk => .pure (.done .next)
            | .ret v => .pure (.done (.ret v))) (H' := Jn) (fun f => by cases f <;> rfl) (fun e => by rw [hJ]; rfl)]
    exact q
  | false =>
    rw [if_neg Bool.false_ne_true] at q ⊢
    exact q
end
/-- a tree that may sleep softly: a piece that does not sleep, and what follows -/
theorem runs_T {M : Model} {α : Type} {Γ : Ctx} {fs : List Frame} {Φ : End → Shared → Prop} {a : Addr} (K : α → Sem PySem.Fin) (m : Sem α) :
    ∀ {Q : α → Pos → Shared → Prop} {p : Pos} {s : Shared}, wp M (Γ.over fs) m Q (fun _ _ _ => False) p s → (∀ b p' s', Q b p' s' → ∃ e s'', Runs M Γ p' (T a (K b)) fs s' e s'' ∧ Φ e s'') →
      ∃ e s'', Runs M Γ p (T a (m.bind K)) fs s e s'' ∧ Φ e s'' := by
  induction m with
  | pure b => intro Q p s h hQ; exact hQ b p s h
  | raise x => intro Q p s h; exact h.elim
  | unsupported what => intro Q p s h; exact h.elim
  | finish x => intro Q p s h; exact h.elim
  | register b k => intro Q p s h; exact h.elim
  | «yield» v g l k => intro Q p s h; exact h.elim
  | fork d k => intro Q p s h; exact h.elim
  | await b f d l k => intro Q p s h; exact h.elim
  | rule tag k ih => intro Q p s h hQ; obtain ⟨e, z, hr, hz⟩ := ih () h hQ; exact ⟨e, z, Runs.head' (fun _ _ y => .rule y) hr, hz⟩
  | «at» p' k ih => intro Q p s h hQ; obtain ⟨e, z, hr, hz⟩ := ih () h hQ; exact ⟨e, z, Runs.head' (fun _ _ y => .at y) hr, hz⟩
  | load b part k ih => intro Q p s h hQ; obtain ⟨o, ho, h⟩ := h; obtain ⟨e, z, hr, hz⟩ := ih o h hQ; exact ⟨e, z, Runs.head' (fun _ _ y => .load ho y) hr, hz⟩
  | update b part f k ih => intro Q p s h hQ; obtain ⟨ho, h⟩ := h; obtain ⟨e, z, hr, hz⟩ := ih () h hQ; exact ⟨e, z, Runs.head' (fun _ _ y => .update ho y) hr, hz⟩
  | alloc o k ih => intro Q p s h hQ; obtain ⟨e, z, hr, hz⟩ := ih _ h hQ; exact ⟨e, z, Runs.head' (fun _ _ y => .alloc y) hr, hz⟩
  | loadIfAlive b k ih => intro Q p s h hQ; obtain ⟨e, z, hr, hz⟩ := ih _ h hQ; exact ⟨e, z, Runs.head' (fun _ _ y => .loadIfAlive y) hr, hz⟩
  | point l k ih => intro Q p s h hQ; obtain ⟨e, z, hr, hz⟩ := ih () h hQ; exact ⟨e, z, Runs.head' (fun _ _ y => .point y) hr, hz⟩
  | fresh k ih => intro Q p s h hQ; obtain ⟨e, z, hr, hz⟩ := ih _ h hQ; exact ⟨e, z, Runs.head' (fun _ _ y => .fresh y) hr, hz⟩
  | ask k ih => intro Q p s h hQ; obtain ⟨e, z, hr, hz⟩ := ih _ h hQ; exact ⟨e, z, Runs.head' (fun _ _ y => .ask y) hr, hz⟩
  | choose src m k ih => intro Q p s h hQ; obtain ⟨hm, h⟩ := h; obtain ⟨e, z, hr, hz⟩ := ih _ h hQ; exact ⟨e, z, Runs.head' (fun _ _ y => .choose hm y) hr, hz⟩
  | os q l k ih => intro Q p s h hQ; obtain ⟨e, z, hr, hz⟩ := ih _ h hQ; exact ⟨e, z, Runs.head' (fun _ _ y => .os y) hr, hz⟩
  | call d h0 g l k ih => intro Q p s h hQ; obtain ⟨r, s1, hret, h⟩ := h; obtain ⟨e, z, hr, hz⟩ := ih r h hQ; exact ⟨e, z, Runs.head' (fun _ _ y => .call hret y) hr, hz⟩
  | handled own k ih => intro Q p s h hQ; obtain ⟨e, z, hr, hz⟩ := ih _ h hQ; exact ⟨e, z, Runs.head' (fun _ _ y => .handled y) hr, hz⟩
  | newGen d k ih => intro Q p s h hQ; obtain ⟨e, z, hr, hz⟩ := ih _ h hQ; exact ⟨e, z, Runs.head' (fun _ _ y => .newGen y) hr, hz⟩
  | genState g k ih => intro Q p s h hQ; obtain ⟨st, hg, h⟩ := h; obtain ⟨e, z, hr, hz⟩ := ih _ h hQ; exact ⟨e, z, Runs.head' (fun _ _ y => .genState hg y) hr, hz⟩
  | resume g r l k ih => intro Q p s h hQ; obtain ⟨res, s1, hk, h⟩ := h; obtain ⟨e, z, hr, hz⟩ := ih res h hQ; exact ⟨e, z, Runs.head' (fun _ _ y => (Sem.runs_resume_iff M _).mpr ⟨res, s1, hk, y⟩) hr, hz⟩
  | stack k ih => intro Q p s h hQ; obtain ⟨e, z, hr, hz⟩ := ih _ h hQ; exact ⟨e, z, Runs.head' (fun _ _ y => .stack y) hr, hz⟩
  | thread k ih => intro Q p s h hQ; obtain ⟨e, z, hr, hz⟩ := ih _ h hQ; exact ⟨e, z, Runs.head' (fun _ _ y => .thread y) hr, hz⟩
section
variable {M : Model} {A : Around} {R : GenEnd} {Y : Protocol} {n : Nat} {s₀ s : Shared} {c : Code} {fs : List Frame} {a : Addr}
theorem seg_T {α : Type} {m : Sem α} {K : α → Sem PySem.Fin} (h : wpAny M (A.over c fs) m (fun b s' => Seg M A R Y n s₀ c (T a (K b)) fs s') (fun _ _ => False) s) : Seg M A R Y n s₀ c (T a (m >>= K)) fs s := by
  rw [seg_iff]
  rintro Γ p rfl hΓ
  exact runs_T K m (h (Γ.over fs) p (hΓ.over fs)) fun b p' s' q => seg_iff.mp q Γ p' rfl hΓ
end
/-- a tree whose sleeps keep nothing: a piece that does not sleep, and what follows -/
theorem runs_T0 {M : Model} {α : Type} {Γ : Ctx} {fs : List Frame} {Φ : End → Shared → Prop}  (K : α → Sem PySem.Fin) (m : Sem α) :
    ∀ {Q : α → Pos → Shared → Prop} {p : Pos} {s : Shared}, wp M (Γ.over fs) m Q (fun _ _ _ => False) p s → (∀ b p' s', Q b p' s' → ∃ e s'', Runs M Γ p' (T0 (K b)) fs s' e s'' ∧ Φ e s'') →
      ∃ e s'', Runs M Γ p (T0 (m.bind K)) fs s e s'' ∧ Φ e s'' := by
  induction m with
  | pure b => intro Q p s h hQ; exact hQ b p s h
  | raise x => intro Q p s h; exact h.elim
  | unsupported what => intro Q p s h; exact h.elim
  | finish x => intro Q p s h; exact h.elim
  | register b k => intro Q p s h; exact h.elim
  | «yield» v g l k => intro Q p s h; exact h.elim
  | fork d k => intro Q p s h; exact h.elim
  | await b f d l k => intro Q p s h; exact h.elim
  | rule tag k ih => intro Q p s h hQ; obtain ⟨e, z, hr, hz⟩ := ih () h hQ; exact ⟨e, z, Runs.head' (fun _ _ y => .rule y) hr, hz⟩
  | «at» p' k ih => intro Q p s h hQ; obtain ⟨e, z, hr, hz⟩ := ih () h hQ; exact ⟨e, z, Runs.head' (fun _ _ y => .at y) hr, hz⟩
  | load b part k ih => intro Q p s h hQ; obtain ⟨o, ho, h⟩ := h; obtain ⟨e, z, hr, hz⟩ := ih o h hQ; exact ⟨e, z, Runs.head' (fun _ _ y => .load ho y) hr, hz⟩
  | update b part f k ih => intro Q p s h hQ; obtain ⟨ho, h⟩ := h; obtain ⟨e, z, hr, hz⟩ := ih () h hQ; exact ⟨e, z, Runs.head' (fun _ _ y => .update ho y) hr, hz⟩
  | alloc o k ih => intro Q p s h hQ; obtain ⟨e, z, hr, hz⟩ := ih _ h hQ; exact ⟨e, z, Runs.head' (fun _ _ y => .alloc y) hr, hz⟩
  | loadIfAlive b k ih => intro Q p s h hQ; obtain ⟨e, z, hr, hz⟩ := ih _ h hQ; exact ⟨e, z, Runs.head' (fun _ _ y => .loadIfAlive y) hr, hz⟩
  | point l k ih => intro Q p s h hQ; obtain ⟨e, z, hr, hz⟩ := ih () h hQ; exact ⟨e, z, Runs.head' (fun _ _ y => .point y) hr, hz⟩
  | fresh k ih => intro Q p s h hQ; obtain ⟨e, z, hr, hz⟩ := ih _ h hQ; exact ⟨e, z, Runs.head' (fun _ _ y => .fresh y) hr, hz⟩
  | ask k ih => intro Q p s h hQ; obtain ⟨e, z, hr, hz⟩ := ih _ h hQ; exact ⟨e, z, Runs.head' (fun _ _ y => .ask y) hr, hz⟩
  | choose src m k ih => intro Q p s h hQ; obtain ⟨hm, h⟩ := h; obtain ⟨e, z, hr, hz⟩ := ih _ h hQ; exact ⟨e, z, Runs.head' (fun _ _ y => .choose hm y) hr, hz⟩
  | os q l k ih => intro Q p s h hQ; obtain ⟨e, z, hr, hz⟩ := ih _ h hQ; exact ⟨e, z, Runs.head' (fun _ _ y => .os y) hr, hz⟩
  | call d h0 g l k ih => intro Q p s h hQ; obtain ⟨r, s1, hret, h⟩ := h; obtain ⟨e, z, hr, hz⟩ := ih r h hQ; exact ⟨e, z, Runs.head' (fun _ _ y => .call hret y) hr, hz⟩
  | handled own k ih => intro Q p s h hQ; obtain ⟨e, z, hr, hz⟩ := ih _ h hQ; exact ⟨e, z, Runs.head' (fun _ _ y => .handled y) hr, hz⟩
  | newGen d k ih => intro Q p s h hQ; obtain ⟨e, z, hr, hz⟩ := ih _ h hQ; exact ⟨e, z, Runs.head' (fun _ _ y => .newGen y) hr, hz⟩
  | genState g k ih => intro Q p s h hQ; obtain ⟨st, hg, h⟩ := h; obtain ⟨e, z, hr, hz⟩ := ih _ h hQ; exact ⟨e, z, Runs.head' (fun _ _ y => .genState hg y) hr, hz⟩
  | resume g r l k ih => intro Q p s h hQ; obtain ⟨res, s1, hk, h⟩ := h; obtain ⟨e, z, hr, hz⟩ := ih res h hQ; exact ⟨e, z, Runs.head' (fun _ _ y => (Sem.runs_resume_iff M _).mpr ⟨res, s1, hk, y⟩) hr, hz⟩
  | stack k ih => intro Q p s h hQ; obtain ⟨e, z, hr, hz⟩ := ih _ h hQ; exact ⟨e, z, Runs.head' (fun _ _ y => .stack y) hr, hz⟩
  | thread k ih => intro Q p s h hQ; obtain ⟨e, z, hr, hz⟩ := ih _ h hQ; exact ⟨e, z, Runs.head' (fun _ _ y => .thread y) hr, hz⟩
section
variable {M : Model} {A : Around} {R : GenEnd} {Y : Protocol} {n : Nat} {s₀ s : Shared} {c : Code} {fs : List Frame} 
theorem seg_T0 {α : Type} {m : Sem α} {K : α → Sem PySem.Fin} (h : wpAny M (A.over c fs) m (fun b s' => Seg M A R Y n s₀ c (T0 (K b)) fs s') (fun _ _ => False) s) : Seg M A R Y n s₀ c (T0 (m >>= K)) fs s := by
  rw [seg_iff]
  rintro Γ p rfl hΓ
  exact runs_T0 K m (h (Γ.over fs) p (hΓ.over fs)) fun b p' s' q => seg_iff.mp q Γ p' rfl hΓ
end
end Sf
end
section
set_option Elab.async false
set_option linter.all false
set_option maxRecDepth 100000
set_option maxHeartbeats 1000000
/-! A generator's body over the second model. -/
namespace Sf
open PySem L2 PyProof.Rows GenW
abbrev N0 : Nat → Prop := fun _ => False
/-- a generator's object, nobody sleeps over it -/
def GenO (g : Nat) (o : Obj) : Prop := o.cls = .type "generator" ∧ (∃ nm qn : Value, o.data = .fields #[.int g 0, nm, qn]) ∧ (o.slots = #[] ∨ ∃ t, o.slots = #[some (.int 0 t)])
theorem GenO.noList {g : Nat} {acc : Array Value} {c : Nat} (h : GenO g (lstObj acc c)) : False := by
  have e : Value.type "list" = Value.type "generator" := h.1
  simp at e
/-- while it sleeps: its consumer puts u behind the list at S, its own object may be marked and unmarked -/
structure Wk (S ad : Addr) (g : Nat) (mk : Prop) (u : Value) (x x' : Shared) : Prop where
  os : x'.os = x.os
  bare : AllBare x'.gens
  keep : ∀ b o, b ≠ S → (mk → b ≠ ad) → x.heap.get? b = some o → x'.heap.get? b = some o
  own : ∀ acc c, x.heap.get? S = some (lstObj acc c) → ∃ c', x'.heap.get? S = some (lstObj (acc.push u) c')
  slf : ∀ o, x.heap.get? ad = some o → GenO g o → ∃ o', x'.heap.get? ad = some o' ∧ GenO g o'
/-- the ghost, but for the generators at Hs -/
structure SH (Z Hs : Nat → Prop) (x s : Shared) : Prop where
  heap : s.heap = x.heap
  drawn : s.drawn = x.drawn
  toks : s.toks = x.toks
  os : s.os = x.os
  size : s.gens.size = x.gens.size
  gens : ∀ i : Nat, ¬ Hs i → OR (Z i) (x.gens[i]?) (s.gens[i]?)
theorem SR.hole {Z : Nat → Prop} {x s : Shared} (h : SR Z x s) : SH Z N0 x s := ⟨h.heap, h.drawn, h.toks, h.os, h.size, fun i _ => h.gens i⟩
theorem SH.none {Z : Nat → Prop} {x s : Shared} (h : SH Z N0 x s) : SR Z x s := ⟨h.heap, h.drawn, h.toks, h.os, h.size, fun i => h.gens i fun z => z⟩
/-- what the consumer does to the generators: none goes, those at the holes stay as they are -/
structure Bk (Hs : Nat → Prop) (s s' : Shared) : Prop where
  size : s.gens.size ≤ s'.gens.size
  same : ∀ i, Hs i → s'.gens[i]? = s.gens[i]?
/-- a value is handed out -/
def YG (Z : Nat → Prop) (S ad : Addr) (g : Nat) (B : Prop × (Heap → Prop)) : Protocol := fun n _ u s kap => ∃ (Hs : Nat → Prop) (x : Shared), SH Z Hs x s ∧ ¬ Hs g ∧ (B.1 → ∀ i, ¬ Hs i) ∧ AllBare x.gens ∧ x.heap.NoLimit ∧ B.2 x.heap ∧ (∃ o, x.heap.get? ad = some o ∧ GenO g o) ∧ (∃ acc c, x.heap.get? S = some (lstObj acc c) ∧ n + 1 + acc.size = sizeLine) ∧
  (∃ v, RelV v u) ∧ ∀ x', Wk S ad g B.1 u x x' → ∀ s', SH Z Hs x' s' → Bk Hs s s' → kap (.send .none) s'
def GV (X : Cx) (S ad : Addr) (g : Nat) (ip : List (Addr × Obj)) (ys : List V) (σ : L2.St) (H : Hp) (x : Shared) : Prop := ∃ o, GenO g o ∧ GI X S ((ad, o) :: ip) ys σ H x
/-- the list and the object stand apart from the frame -/
structure Apt (X : Cx) (b : Addr) : Prop where
  ex : b ∈ X.ex ∨ X.s_0.heap.objs.size ≤ b
  loc : b ≠ X.env.locals
  cel : ∀ y c, X.env.cells.lookup y = some c → c ≠ b
theorem GV.woken {X : Cx} {S ad : Addr} {g : Nat} {ip : List (Addr × Obj)} {ys : List V} {v : V} {u : Value} {σ : L2.St} {H : Hp} {x x' : Shared} (hpn : ∀ p ∈ X.pn ++ ip, p.1 ≠ S ∧ p.1 ≠ ad) (aS : Apt X S) (aO : Apt X ad)
    (h : GV X S ad g ip ys σ H x) {mk : Prop} (rv : RelV v u) (z : Wk S ad g mk u x x') : GV X S ad g ip (ys ++ [v]) σ H x' := by
  obtain ⟨o, go, acc, c, r, I⟩ := h
  obtain ⟨eS, S0, SL, Sf, _⟩ := I.pin (S, lstObj acc c) (List.mem_append_right _ List.mem_cons_self)
  obtain ⟨eO, O0, OL, Of, Oc⟩ := I.pin (ad, o) (List.mem_append_right _ (List.mem_cons_of_mem _ List.mem_cons_self))
  have hne : S ≠ ad := fun q => by
    subst q
    rw [eS] at eO
    cases eO
    exact go.noList
  have I0 : Inv X ip σ H x := I.pins_of fun p hp => I.pin p (List.mem_append_right _ (List.mem_cons_of_mem _ (List.mem_cons_of_mem _ hp)))
  have nt : ∀ b w, H b = some w → b ≠ S ∧ b ≠ ad := fun b w q => ⟨fun hb => (by rw [hb, S0] at q; cases q), fun hb => (by rw [hb, O0] at q; cases q)⟩
  obtain ⟨c', eS'⟩ := z.own acc c eS
  obtain ⟨o', eO', go'⟩ := z.slf o eO go
  have zk := z.keep
  have zb := z.bare
  have zo := z.os
  obtain ⟨hh, gg, d, t, os⟩ := x'
  have zo : os = x.os := zo
  subst zo
  have nc : ∀ b, b ∉ [S, ad] → b ≠ S ∧ b ≠ ad := fun b hb => ⟨fun e => hb (by rw [e]; exact List.mem_cons_self), fun e => hb (by rw [e]; exact List.mem_cons_of_mem _ List.mem_cons_self)⟩
  have J : Inv X ip σ H { x with heap := hh, gens := gg, drawn := d, toks := t } := by
    refine I0.step (g' := gg) (t' := t) (d' := d) (ch := [S, ad]) (fun b hb => ?_) (fun b ob _ _ hc q _ => zk b ob (nc b hc).1 (fun _ => (nc b hc).2) q) (fun b ob _ _ hc q _ => ⟨ob.slots, zk b ob (nc b hc).1 (fun _ => (nc b hc).2) q⟩) (fun _ _ _ _ n => n) (fun b ob hc q => ⟨ob, zk b ob (nc b hc).1 (fun _ => (nc b hc).2) q⟩)
      (fun _ _ q => q) (fun _ _ _ q => q) (fun b ps q => ⟨#[], by rw [q]; simp⟩) (fun m hm => ?_) (fun b w q => ?_) zb
    · rcases List.mem_cons.mp hb with e | e
      · rw [e]; exact ⟨aS.ex, aS.loc, aS.cel, fun p hp => (hpn p hp).1⟩
      · rw [List.mem_singleton.mp e]; exact ⟨aO.ex, aO.loc, aO.cel, fun p hp => (hpn p hp).2⟩
    · obtain ⟨ob, es, ep, ho, rr⟩ := hm
      exact ⟨ob, es, ep, zk _ ob (Ne.symm SL) (fun _ => Ne.symm OL) ho, rr⟩
    · refine (I0.hok b w q).stay (fun c v hc y => zk c v ?_ (fun _ => ?_) y) (fun _ y => y) fun _ _ y => y
      · rcases hc with y | y
        · rw [y]; exact (nt b w q).1
        · exact (nt c _ y).1
      · rcases hc with y | y
        · rw [y]; exact (nt b w q).2
        · exact (nt c _ y).2
  refine ⟨o', go', acc.push u, c', ?_, J.pins_of fun p hp => ?_⟩
  · rw [Array.toList_push]
    exact r.append (.cons rv .nil)
  · rcases List.mem_cons.mp hp with e | hp
    · rw [e]; exact ⟨eS', S0, SL, Sf, fun v q => by cases q⟩
    · rcases List.mem_cons.mp hp with e | hp
      · rw [e]
        refine ⟨eO', O0, OL, Of, fun v q => ?_⟩
        obtain ⟨_, ⟨nm, qn, hd⟩, _⟩ := go'
        have q : o'.data = .cell v := q
        rw [hd] at q; cases q
      · exact J.pin p (List.mem_append_right _ hp)
theorem GV.inv {X : Cx} {S ad : Addr} {g : Nat} {ip : List (Addr × Obj)} {ys : List V} {σ : L2.St} {H : Hp} {x : Shared} (h : GV X S ad g ip ys σ H x) : ∃ pins, Inv X pins σ H x := let ⟨_, _, _, _, _, I⟩ := h; ⟨_, I⟩
/-- where the generator's code stands -/
structure Sd (mk : Prop) (X : Cx) (S ad : Addr) (B : Prop × (Heap → Prop)) (ip : List (Addr × Obj)) (A : Around) (c : Code) (fs : List Frame) (gd : Bool → Bool) : Prop where
  pn : ∀ p ∈ X.pn ++ ip, p.1 ≠ S ∧ p.1 ≠ ad
  aS : Apt X S
  aO : Apt X ad
  over : A.over c fs = X.A
  split : splitAtGen fs = none
  guard : fs.any Frame.guarded = false
  gd : gd false = false
  nx : ∀ e s, ¬ X.xe e s
  hb : ∀ pins σ H y, Inv X pins σ H y → B.2 y.heap
  hk : ∀ pins σ H y h, Inv X pins σ H y → (∀ b o, y.heap.get? b = some o → H b = none → b ∉ frs X.stack → b ≠ S → h.get? b = some o) → B.2 h
  mkd : B.1 → mk
def GP (X : Cx) (S ad : Addr) (g : Nat) (ip : List (Addr × Obj)) (D : GEnds) (ys : List V) (f : Flow) (x : Shared) : Prop :=
  match f with
  | .next => ∃ σ H, GV X S ad g ip ys σ H x ∧ D.nx ys σ H
  | .brk => ∃ σ H, GV X S ad g ip ys σ H x ∧ D.bk ys σ H
  | .cont => ∃ σ H, GV X S ad g ip ys σ H x ∧ D.ct ys σ H
  | .ret u => ∃ v σ H, GV X S ad g ip ys σ H x ∧ RelV v u ∧ D.rt ys v H
abbrev Gt (Z : Nat → Prop) (X : Cx) (S ad : Addr) (g : Nat) (B : Prop × (Heap → Prop)) (R : GenEnd) (A : Around) (n : Nat) (c : Code) (fs : List Frame) (t : Sem PySem.Fin) (x : Shared) : Prop := ∀ s₀ s, SR Z x s → g < s.gens.size → Seg (mp X.prog X.w) A R (YG Z S ad g B) n s₀ c t fs s
structure GB (mk : Prop) (X : Cx) (st : Stmt) (t : TGn) : Prop where
  run : ∀ (Z : Nat → Prop) (A : Around) (S ad : Addr) (g : Nat) (B : Prop × (Heap → Prop)) (R : GenEnd) (n : Nat) (ys : List V) (ip : List (Addr × Obj)) (x : Shared) (σ : L2.St) (H : Hp) (D : GEnds) (c : Code) (fs : List Frame) (K : Flow → Sem PySem.Fin) (J : Value → Sem PySem.Fin) (gd : Bool → Bool) (lv : List Value → List Value),
    Sd mk X S ad B ip A c fs gd → n + ys.length = sizeLine → (∀ n ys y f, n + ys.length = sizeLine → GP X S ad g ip D ys f y → Gt Z X S ad g B R A n c fs (K f) y) → GV X S ad g ip ys σ H x → t D ys σ H → Gt Z X S ad g B R A n c fs ((exec st X.env).wrap K J gd lv) x
structure GBs (mk : Prop) (X : Cx) (st : List Stmt) (t : TGn) : Prop where
  run : ∀ (Z : Nat → Prop) (A : Around) (S ad : Addr) (g : Nat) (B : Prop × (Heap → Prop)) (R : GenEnd) (n : Nat) (ys : List V) (ip : List (Addr × Obj)) (x : Shared) (σ : L2.St) (H : Hp) (D : GEnds) (c : Code) (fs : List Frame) (K : Flow → Sem PySem.Fin) (J : Value → Sem PySem.Fin) (gd : Bool → Bool) (lv : List Value → List Value),
    Sd mk X S ad B ip A c fs gd → n + ys.length = sizeLine → (∀ n ys y f, n + ys.length = sizeLine → GP X S ad g ip D ys f y → Gt Z X S ad g B R A n c fs (K f) y) → GV X S ad g ip ys σ H x → t D ys σ H → Gt Z X S ad g B R A n c fs ((execs st X.env).wrap K J gd lv) x
section
variable {mk : Prop} {X : Cx} {st : Stmt} {rest : List Stmt} {t u : TGn} {pos : Pos}
theorem sp_gp {S ad : Addr} {g : Nat} {o : Obj} {acc : Array Value} {cc : Nat} {ip : List (Addr × Obj)} {x : Shared} {D : GEnds} {ys : List V} {f : Flow} (go : GenO g o) (r : Vals ys acc.toList) (h : SP X ((S, lstObj acc cc) :: (ad, o) :: ip) (D.at ys) f x) : GP X S ad g ip D ys f x := by
  cases f with
  | next => obtain ⟨σ, H, I, q⟩ := h; exact ⟨σ, H, ⟨o, go, acc, cc, r, I⟩, q⟩
  | brk => obtain ⟨σ, H, I, q⟩ := h; exact ⟨σ, H, ⟨o, go, acc, cc, r, I⟩, q⟩
  | cont => obtain ⟨σ, H, I, q⟩ := h; exact ⟨σ, H, ⟨o, go, acc, cc, r, I⟩, q⟩
  | ret v => obtain ⟨z, σ, H, I, r1, q⟩ := h; exact ⟨z, σ, H, ⟨o, go, acc, cc, r, I⟩, r1, q⟩
/-- a statement that hands out nothing -/
theorem gb_plain {tt : TS} (h : QS X st tt) : GB mk X st (tPlain tt) := by
  refine ⟨fun Z A S ad g B R n ys ip x σ H D c fs K J gd lv sd hn k hV ht s₀ s hs hg => ?_⟩
  obtain ⟨o, go, acc, cc, r, I⟩ := hV
  refine seg_wrap ?_
  rw [sd.over]
  exact wpAny_gsz (n := g + 1) hg (wpAny_mono (h.run Z _ x σ H (D.at ys) I ht s hs) (fun f s' ⟨y, hy, q⟩ hg' => k n ys y f hn (sp_gp go r q) s₀ s' hy hg') fun e s' ⟨y, _, q⟩ => (sd.nx e y q).elim)
theorem gbs_plain {tt : TS} (h : QSs X rest tt) : GBs mk X rest (tPlain tt) := by
  refine ⟨fun Z A S ad g B R n ys ip x σ H D c fs K J gd lv sd hn k hV ht s₀ s hs hg => ?_⟩
  obtain ⟨o, go, acc, cc, r, I⟩ := hV
  refine seg_wrap ?_
  rw [sd.over]
  exact wpAny_gsz (n := g + 1) hg (wpAny_mono (h.run Z _ x σ H (D.at ys) I ht s hs) (fun f s' ⟨y, hy, q⟩ hg' => k n ys y f hn (sp_gp go r q) s₀ s' hy hg') fun e s' ⟨y, _, q⟩ => (sd.nx e y q).elim)
theorem gbs_nil : GBs mk X [] tG0 := ⟨fun Z A S ad g B R n ys ip x σ H D c fs K J gd lv sd hn k hV ht s₀ s hs hg => seg_execs_nil (k n ys x .next hn ⟨σ, H, hV, ht⟩ s₀ s hs hg)⟩
theorem gbs_cons (a : GB mk X st t) (b : GBs mk X rest u) : GBs mk X (st :: rest) (tGThen t u) := by
  refine ⟨fun Z A S ad g B R n ys ip x σ H D c fs K J gd lv sd hn k hV ht s₀ s hs hg => seg_execs_cons ?_⟩
  refine a.run Z A S ad g B R n ys ip x σ H { D with nx := fun ys' σ' H' => u D ys' σ' H' } c fs _ J gd lv sd hn (fun n' ys' y f hn' q => ?_) hV ht s₀ s hs hg
  cases f with
  | next =>
    obtain ⟨σ', H', V', q⟩ := q
    exact b.run Z A S ad g B R n' ys' ip y σ' H' D c fs K J gd lv sd hn' k V' q
  | brk => exact k n' ys' y .brk hn' q
  | cont => exact k n' ys' y .cont hn' q
  | ret v => exact k n' ys' y (.ret v) hn' q
theorem gbs_one (a : GB mk X st t) : GBs mk X [st] (tGThen t tG0) := gbs_cons a gbs_nil
def tGIf (c : TT) (t u : TGn) : TGn := fun D ys σ H => c σ H fun b H1 => if b = true then t D ys σ H1 else u D ys σ H1
theorem gb_if {e : Expr} {a b : List Stmt} {tc : TT} (hc : QT X e tc) (ha : GBs mk X a t) (hb : GBs mk X b u) : GB mk X (.If e a b pos) (tGIf tc t u) := by
  refine ⟨fun Z A S ad g B R n ys ip x σ H D c fs K J gd lv sd hn k hV ht s₀ s hs hg => seg_if ?_⟩
  obtain ⟨o, go, acc, cc, r, I⟩ := hV
  rw [sd.over]
  refine wpAny_gsz (n := g + 1) hg (wpAny_mono (hc.run Z _ x σ H _ I ht s hs) (fun d s' ⟨y, hy, H1, I1, q⟩ hg' => ?_) fun e s' ⟨y, _, q⟩ => (sd.nx e y q).elim)
  cases d with
  | true => exact ha.run Z A S ad g B R n ys ip y σ H1 D c fs K J gd lv sd hn k ⟨o, go, acc, cc, r, I1⟩ q s₀ s' hy hg'
  | false => exact hb.run Z A S ad g B R n ys ip y σ H1 D c fs K J gd lv sd hn k ⟨o, go, acc, cc, r, I1⟩ q s₀ s' hy hg'
/-- yield e -/
theorem gb_yield {e : Expr} {yp : Pos} {te : TE} (he : QE X e te) (hco : X.env.scope.isCoroutine = false := by rfl) (hi : interactive X.env = false := by rfl) : GB mk X (.Expr (.Yield (some e) yp) pos) (tGYield te) := by
  refine ⟨fun Z A S ad g B R n ys ip x σ H D c fs K J gd lv sd hn k hV ht s₀ s hs hg => ?_⟩
  obtain ⟨hlt, ht⟩ := ht
  obtain ⟨n, rfl⟩ : ∃ m, n = m + 1 := ⟨n - 1, by omega⟩
  obtain ⟨o, go, acc, cc, r, I⟩ := hV
  refine seg_Expr_Yield sd.split sd.gd sd.guard ?_ hco hi
  rw [sd.over]
  refine wpAny_gsz (n := g + 1) hg (wpAny_mono (he.run Z _ x σ H _ I ht s hs) (fun v s' ⟨y, hy, z, H1, I1, rv, q⟩ hg' => ?_) fun e s' ⟨y, _, q⟩ => (sd.nx e y q).elim)
  intro kap hk
  have V1 : GV X S ad g ip ys σ H1 y := ⟨o, go, acc, cc, r, I1⟩
  have hsz : acc.size = ys.length := by
    have e1 := r.length
    have e2 : acc.toList.length = acc.size := by simp
    omega
  have pS := (I1.pin (S, lstObj acc cc) (List.mem_append_right _ List.mem_cons_self)).1
  have pO := (I1.pin (ad, o) (List.mem_append_right _ (List.mem_cons_of_mem _ List.mem_cons_self))).1
  refine ⟨N0, y, hy.hole, (fun z => z), (fun _ _ z => z), I1.bare, I1.nolimit, sd.hb _ _ _ _ I1, ⟨o, pO, go⟩, ⟨acc, cc, pS, by rw [hsz]; exact hn⟩, ⟨z, rv⟩, fun x' wk s'' hs'' bk => hk .none s'' ?_⟩
  exact k n (ys ++ [z]) x' .next (by rw [List.length_append, List.length_singleton]; omega) ⟨σ, H1, V1.woken sd.pn sd.aS sd.aO rv wk, q⟩ s'' s'' hs''.none (Nat.lt_of_lt_of_le hg' bk.size)
end
end Sf
end
section
set_option Elab.async false
set_option linter.all false
set_option maxRecDepth 100000
set_option maxHeartbeats 1000000
/-! Loops in a generator's body. -/
namespace Sf
open PySem L2 PyProof.Rows GenW
section
variable {Z : Nat → Prop} {mk : Prop} {X : Cx} {S ad : Addr} {g : Nat} {B : Prop × (Heap → Prop)} {R : GenEnd} {A : Around} {c c' : Code} {fs : List Frame} {K : Flow → Sem PySem.Fin} {J : Value → Sem PySem.Fin} {gd : Bool → Bool} {lv : List Value → List Value} {n : Nat} {x : Shared} {pos : Pos}
/-- inside a loop's code -/
theorem Sd.loop {ip : List (Addr × Obj)} {p : Pos} (sd : Sd mk X S ad B ip A c fs gd) (hw : c'.weight = 0) (hu : c'.cUnits = 0) (kk : Result → Sem PySem.Fin) : Sd mk X S ad B ip A c' (.ret kk none (gd false) (lv []) c p [] :: fs) id where
  pn := sd.pn
  aS := sd.aS
  aO := sd.aO
  over := (over_loop hw hu).trans sd.over
  split := by rw [splitAtGen_ret, sd.split]; rfl
  guard := by
    show (gd false || fs.any Frame.guarded) = false
    rw [sd.gd, sd.guard]; rfl
  gd := rfl
  nx := sd.nx
  hb := sd.hb
  hk := sd.hk
  mkd := sd.mkd
theorem Sd.more {ip ip' : List (Addr × Obj)} (sd : Sd mk X S ad B ip A c fs gd) (h : ∀ p ∈ ip', p.1 ≠ S ∧ p.1 ≠ ad) : Sd mk X S ad B (ip ++ ip') A c fs gd :=
  ⟨fun p hp => (List.mem_append.mp hp).elim (fun z => sd.pn p (List.mem_append_left _ z)) fun z => (List.mem_append.mp z).elim (fun y => sd.pn p (List.mem_append_right _ y)) (h p), sd.aS, sd.aO, sd.over, sd.split, sd.guard, sd.gd, sd.nx, sd.hb, sd.hk, sd.mkd⟩
/-- back behind the loop -/
theorem gt_leave {ip : List (Addr × Obj)} {p : Pos} (f : Flow) (h : Gt Z X S ad g B R A n c fs (K f) x) : Gt Z X S ad g B R A n c' (.ret (came X.env K J gd lv) none (gd false) (lv []) c p [] :: fs) (.pure (.done f)) x :=
  fun s₀ s hs hg => seg_leaf (.ok f) (h s₀ s hs hg)
end
section
variable {mk : Prop} {X : Cx} {pos : Pos}
theorem gb_while {test : Expr} {body : List Stmt} {tc : TT} {tb : TGn} (hc : QT X test tc) (hb : GBs mk X body tb) : GB mk X (.While test body [] pos) (tGWhile tc tb) := by
  refine ⟨fun Z A S ad g B R n ys ip x σ H D c fs K J gd lv sd hn k hV ht => ?_⟩
  obtain ⟨W, ⟨m0, w0⟩, turn⟩ := ht
  intro s₀ s hs hg
  refine seg_While fun p => ?_
  have sl := fun kk => Sd.loop (lv := lv) (p := p) (c' := .whileLoop test body [] X.env) sd rfl rfl kk
  have loop : ∀ (m n : Nat) (ys : List V) (x : Shared) (σ : L2.St) (H : Hp), n + ys.length = sizeLine → W m ys σ H → GV X S ad g ip ys σ H x →
      Gt Z X S ad g B R A n (.whileLoop test body [] X.env) (.ret (came X.env K J gd lv) none (gd false) (lv []) c p [] :: fs) ((mp X.prog X.w).den (.whileLoop test body [] X.env)) x := by
    intro m
    induction m using Nat.strongRecOn with
    | ind m ih =>
      intro n ys x σ H hn wm hV s₀ s hs hg
      obtain ⟨o, go, acc, cc, r, I⟩ := hV
      refine seg_wturn rfl ?_
      rw [(sl (came X.env K J gd lv)).over]
      refine wpAny_gsz (n := g + 1) hg (wpAny_mono (hc.run Z _ x σ H _ I (turn m ys σ H wm) s hs) (fun b s1 ⟨y, hy, H1, I1, q⟩ hg1 => ?_) fun e s' ⟨y, _, q⟩ => (sd.nx e y q).elim)
      cases b with
      | true =>
        obtain ⟨N, hN, q⟩ := q
        rw [if_pos rfl]
        refine hb.run Z A S ad g B R n ys ip y σ H1 { D with nx := N, ct := N, bk := D.nx } _ _ _ _ id id (sl _) hn (fun n' ys' y' f hn' q' => ?_) ⟨o, go, acc, cc, r, I1⟩ q s₀ s1 hy hg1
        cases f with
        | next => obtain ⟨σ', H', V', q2⟩ := q'; obtain ⟨m', hm, w'⟩ := hN ys' σ' H' q2; exact fun s₀ s hs hg => seg_again rfl (ih m' hm n' ys' y' σ' H' hn' w' V' s₀ s hs hg)
        | cont => obtain ⟨σ', H', V', q2⟩ := q'; obtain ⟨m', hm, w'⟩ := hN ys' σ' H' q2; exact fun s₀ s hs hg => seg_again rfl (ih m' hm n' ys' y' σ' H' hn' w' V' s₀ s hs hg)
        | brk => exact gt_leave (ip := ip) .next (k n' ys' y' .next hn' q')
        | ret v => exact gt_leave (ip := ip) (.ret v) (k n' ys' y' (.ret v) hn' q')
      | false =>
        rw [if_neg Bool.false_ne_true]
        exact gt_leave (ip := ip) .next (k n ys y .next hn ⟨σ, H1, ⟨o, go, acc, cc, r, I1⟩, q⟩) s₀ s1 hy hg1
  exact loop m0 n ys x σ H hn w0 hV s₀ s hs hg
/-- for: the iterator's turns, the body's words -/
def tGFor (wi : TI) (g : TG) (tb : TGn) : TGn := fun D ys σ H => wi σ H fun J H1 => ∃ W : Nat → Nat → List V → L2.St → Hp → Prop, (∃ m, W 0 m ys σ H1) ∧ ∀ i m ys σ H, W i m ys σ H →
  (J.stop i H ∧ D.nx ys σ H) ∨ (J.go i H ∧ ∃ N : List V → L2.St → Hp → Prop, (∀ ys' σ' H', N ys' σ' H' → ∃ m', m' < m ∧ W (i + 1) m' ys' σ' H') ∧ ∀ v H', J.yld i H v H' → g v σ H' fun σ2 H2 => tb { D with nx := N, ct := N, bk := D.nx } ys σ2 H2)
theorem gb_for {tg iter : Expr} {body : List Stmt} {wi : TI} {gg : TG} {tb : TGn} (hx : ∀ e s, ¬ X.xe e s) (hc : X.calm = true) (hi : PI X tg iter wi) (hg : PG X tg gg) (hb : GBs mk X body tb) (hw : ∀ z, foldedSetIterable iter X.env z = pure z := by intro _; rfl) :
    GB mk X (.For tg iter body [] pos) (tGFor wi gg tb) := by
  have nx : ∀ {Z : Nat → Prop} {α : Type} {t : Sem α} {Q : α → Shared → Prop} {x s : Shared}, SR Z x s → ∀ {g : Nat}, g < s.gens.size → wpAny (model X.prog X.w) X.A t Q X.xe x → wpAny (mp X.prog X.w) X.A t (fun a s' => g < s'.gens.size ∧ lo Z Q a s') (fun _ _ => False) s := fun {Z α t Q x s} hs {g} hg h =>
    wpAny_gsz (n := g + 1) hg (wpAny_mono (wpAny_up hs h) (fun _ _ q hg' => ⟨hg', q⟩) fun e _ ⟨y, _, q⟩ => (hx e y q).elim)
  refine ⟨fun Z A S ad g B R n ys ip x σ H D c fs K J gd lv sd hn k hV ht s₀ s hs hg0 => ?_⟩
  obtain ⟨o, go, acc, cc, r, I⟩ := hV
  refine seg_for hw ?_
  rw [sd.over]
  refine wpAny_mono (nx hs hg0 (hi.run _ x σ H _ I ht)) (fun v s1 ⟨g1, x1, h1, q1⟩ => wpAny_mono (nx h1 g1 q1) (fun itv s2 ⟨g2, x2, h2, q2⟩ p => ?_) fun _ _ e => e) fun _ _ e => e
  obtain ⟨it, fp, tn, JJ, H2, e, I2, TT, st2, f2, W, ⟨m0, w0⟩, turn⟩ := q2
  subst e
  have sl := fun kk => Sd.loop (lv := lv) (p := p) (c' := .forLoop tg (.ref it) body [] X.env) sd rfl rfl kk
  have apart : ∀ {o : Obj} {acc : Array Value} {cc : Nat} {H' : Hp}, (∀ b ∈ fp, FpOk X ((S, lstObj acc cc) :: (ad, o) :: ip) H' b) → ∀ b ∈ fp, b ≠ S ∧ b ≠ ad := fun {o acc cc H'} h b hb =>
    ⟨fun e => (h b hb).2.2.2.2.2 (S, _) (List.mem_append_right _ List.mem_cons_self) e.symm, fun e => (h b hb).2.2.2.2.2 (ad, _) (List.mem_append_right _ (List.mem_cons_of_mem _ List.mem_cons_self)) e.symm⟩
  have fok : ∀ {o' : Obj} {acc' : Array Value} {cc' : Nat} {H' : Hp}, (∀ b ∈ fp, H' b = none) → ∀ b ∈ fp, FpOk X ((S, lstObj acc' cc') :: (ad, o') :: ip) H' b := fun {o' acc' cc' H'} hn b hb => by
    obtain ⟨_, y2, y3, y4, y5, y6⟩ := f2 b hb
    refine ⟨hn b hb, y2, y3, y4, y5, fun q hq => ?_⟩
    rcases List.mem_append.mp hq with z | z
    · exact y6 q (List.mem_append_left _ z)
    · rcases List.mem_cons.mp z with z | z
      · rw [z]; exact fun e => (apart f2 b hb).1 e.symm
      · rcases List.mem_cons.mp z with z | z
        · rw [z]; exact fun e => (apart f2 b hb).2 e.symm
        · exact y6 q (List.mem_append_right _ (List.mem_cons_of_mem _ (List.mem_cons_of_mem _ z)))
  have loop : ∀ (m n i : Nat) (ys : List V) (x : Shared) (σ : L2.St) (H : Hp), n + ys.length = sizeLine → W i m ys σ H → GV X S ad g ip ys σ H x → tn i x.heap → (∀ b ∈ fp, H b = none) →
      Gt Z X S ad g B R A n (.forLoop tg (.ref it) body [] X.env) (.ret (came X.env K J gd lv) none (gd false) (lv []) c p [] :: fs) ((mp X.prog X.w).den (.forLoop tg (.ref it) body [] X.env)) x := by
    intro m
    induction m using Nat.strongRecOn with
    | ind m ih =>
      intro n i ys x3 σ3 H3 hn wm hV st3 fr3 s₀ s3 hs3 g3
      obtain ⟨o, go, acc, cc, r, I3⟩ := hV
      refine seg_turn rfl ?_
      rw [(sl (came X.env K J gd lv)).over]
      rcases turn i m ys σ3 H3 wm with ⟨stop, qn⟩ | ⟨goes, N, hN, step⟩
      · refine wpAny_mono (nx hs3 g3 (TT.done X rfl rfl rfl hc i _ x3 σ3 H3 X.xe I3 (fok fr3) st3 stop)) (fun rr s4 ⟨g4, x4, h4, er, I4⟩ => ?_) fun _ _ e => e
        subst er
        exact gt_leave (c' := .block [] X.env) (ip := ip) .next (k n ys x4 .next hn ⟨σ3, H3, ⟨o, go, acc, cc, r, I4⟩, qn⟩) s₀ s4 h4 g4
      · refine wpAny_mono (nx hs3 g3 (TT.item X rfl rfl rfl hc i _ x3 σ3 H3 X.xe I3 (fok fr3) st3 goes)) (fun rr s4 ⟨g4, x4, h4, u, er, q4⟩ => ?_) fun _ _ e => e
        subst er
        refine wpAny_mono (nx h4 g4 q4) (fun _ s5 ⟨g5, x5, h5, v5, H5, I5, r5, y5, st5, fr5⟩ => ?_) fun _ _ e => e
        have I5' := I5.pinned (fok fr5) (TT.obj _ _ st5)
        refine wpAny_mono (nx h5 g5 (hg.run _ x5 σ3 H5 v5 u _ I5' r5 (step v5 H5 y5))) (fun _ s6 ⟨g6, x6, h6, σ6, H6, I6, q6⟩ => ?_) fun _ _ e => e
        have sd' : Sd mk X S ad B (ip ++ pinsAt fp x5.heap) A (.forLoop tg (.ref it) body [] X.env) (.ret (came X.env K J gd lv) none (gd false) (lv []) c p [] :: fs) id := (sl _).more fun q hq => apart f2 q.1 (of_pinsAt hq).1
        refine hb.run Z A S ad g B R n ys (ip ++ pinsAt fp x5.heap) x6 σ6 H6 { D with nx := N, ct := N, bk := D.nx } _ _ _ _ id id sd' hn (fun n' ys' x7 f hn' q7 => ?_) ⟨o, go, acc, cc, r, I6⟩ q6 s₀ s6 h6 g6
        have drop : ∀ {σ7 : L2.St} {H7 : Hp}, GV X S ad g (ip ++ pinsAt fp x5.heap) ys' σ7 H7 x7 → GV X S ad g ip ys' σ7 H7 x7 ∧ tn (i + 1) x7.heap ∧ ∀ b ∈ fp, H7 b = none := fun {σ7 H7} V7 => by
          obtain ⟨o7, go7, acc7, cc7, r7, I7⟩ := V7
          have at7 : ∀ b ∈ fp, ∀ ob, x5.heap.get? b = some ob → x7.heap.get? b = some ob ∧ H7 b = none := fun b hb ob e =>
            let z := I7.pin (b, ob) (List.mem_append_right _ (List.mem_cons_of_mem _ (List.mem_cons_of_mem _ (List.mem_append_right _ (mem_pinsAt hb e)))))
            ⟨z.1, z.2.1⟩
          refine ⟨⟨o7, go7, acc7, cc7, r7, I7.pins_of fun q hq => I7.pin q (List.mem_append_right _ ?_)⟩, TT.keep _ _ _ st5 fun b hb ob e => (at7 b hb ob e).1, fun b hb => ?_⟩
          · rcases List.mem_cons.mp hq with z | z
            · rw [z]; exact List.mem_cons_self
            · rcases List.mem_cons.mp z with z | z
              · rw [z]; exact List.mem_cons_of_mem _ List.mem_cons_self
              · exact List.mem_cons_of_mem _ (List.mem_cons_of_mem _ (List.mem_append_left _ z))
          · obtain ⟨ob, e, _⟩ := TT.obj _ _ st5 b hb
            exact (at7 b hb ob e).2
        cases f with
        | next => obtain ⟨σ7, H7, V7, n7⟩ := q7; obtain ⟨m', hm, w'⟩ := hN ys' σ7 H7 n7; obtain ⟨d1, d2, d3⟩ := drop V7; exact fun s₀ s hs hg => seg_again rfl (ih m' hm n' (i + 1) ys' x7 σ7 H7 hn' w' d1 d2 d3 s₀ s hs hg)
        | cont => obtain ⟨σ7, H7, V7, n7⟩ := q7; obtain ⟨m', hm, w'⟩ := hN ys' σ7 H7 n7; obtain ⟨d1, d2, d3⟩ := drop V7; exact fun s₀ s hs hg => seg_again rfl (ih m' hm n' (i + 1) ys' x7 σ7 H7 hn' w' d1 d2 d3 s₀ s hs hg)
        | brk => obtain ⟨σ7, H7, V7, q7⟩ := q7; exact gt_leave (ip := ip) .next (k n' ys' x7 .next hn' ⟨σ7, H7, (drop V7).1, q7⟩)
        | ret v => obtain ⟨z7, σ7, H7, V7, r7, q7⟩ := q7; exact gt_leave (ip := ip) (.ret v) (k n' ys' x7 (.ret v) hn' ⟨z7, σ7, H7, (drop V7).1, r7, q7⟩)
  exact loop m0 n 0 ys x2 σ H2 hn w0 ⟨o, go, acc, cc, r, I2⟩ st2 (fun b hb => (f2 b hb).1) s₀ s2 h2 g2
end
end Sf
end
section
set_option Elab.async false
set_option linter.all false
set_option maxRecDepth 100000
set_option maxHeartbeats 1000000
/-! A generator def by its body, over the second model. -/
namespace Sf
open PySem L2 PyProof.Rows GenW
/-- the context of a generator's body: its consumer's list S may change -/
def gX (P : Program) (w : World) (K : PySem.W.Frag) (mg : Str → Option Value) (base : Heap) (N : List Str) (qual : Str) (scope : Scope) (f : Addr) (cd : Value) (A : Around) (outer : List Env) (x : Shared) (H : Hp) (S : Addr) : Cx :=
  { cxOf CX0 P w K mg base N qual scope f cd A outer x H (fun _ _ _ => False) with ex := [S], xe := fun _ _ => False }
/-- the consumer's list, seen from the call at x (made: how far the call's own objects go) -/
structure SAt (base : Heap) (outer : List Env) (H : Hp) (x : Shared) (made : Nat) (S : Addr) : Prop where
  away : x.heap.objs.size > S ∨ made ≤ S
  no : H S = none
  fs : S ∉ frs outer
  nb : base.get? S = none
theorem un_ex {fs : List Addr} {H H' : Hp} {h h' : Heap} {S : Addr} (u : Un fs [] H H' h h') : Un fs [S] H H' h h' :=
  ⟨fun b o e n hf _ => u.keep b o e n hf (by simp), fun b o e n hf _ => u.slot b o e n hf (by simp), fun b o e n _ => u.free b o e n (by simp), fun b o e _ => u.there b o e (by simp), u.tups, u.frzs, u.tbls⟩
theorem un_but {fs : List Addr} {H : Hp} {h h' : Heap} {S : Addr} (k : ∀ b o, b ≠ S → h.get? b = some o → h'.get? b = some o) : Un fs [S] H H h h' :=
  ⟨fun b o e _ _ hx => k b o (fun z => hx (by rw [z]; exact List.mem_cons_self)) e, fun b o e _ _ hx => ⟨o.slots, k b o (fun z => hx (by rw [z]; exact List.mem_cons_self)) e⟩, fun _ _ _ n _ => n, fun b o e hx => ⟨o, k b o (fun z => hx (by rw [z]; exact List.mem_cons_self)) e⟩,
    fun _ _ q => q, fun _ _ _ q => q, fun b ps q => ⟨#[], by rw [q]; simp⟩⟩
theorem hok_but {P : Program} {w : World} {H : Hp} {h h' : Heap} {S : Addr} (hS : H S = none) (k : ∀ b o, b ≠ S → h.get? b = some o → h'.get? b = some o) (hok : HOk P w H h) : HOk P w H h' := fun b u q =>
  (hok b u q).stay (fun c v hc y => k c v (by
    rcases hc with z | z
    · rw [z]; rintro rfl; rw [hS] at q; cases q
    · rintro rfl; rw [hS] at z; cases z) y) (fun _ y => y) fun _ _ y => y
/-- what stood at the call stands -/
def BG (outer : List Env) (H : Hp) (x : Shared) (S : Addr) (h : Heap) : Prop := ∀ b o, x.heap.get? b = some o → H b = none → b ∉ frs outer → b ≠ S → h.get? b = some o
/-- the end: all that was handed out stands behind pre in S -/
def RG (Z : Nat → Prop) (P : Program) (w : World) (outer : List Env) (H : Hp) (x : Shared) (S a : Addr) (g : Nat) (pre : List V) (Q : List V → Hp → Prop) : GenEnd := fun n _ r s => r = .ok (.ret .none) ∧ ∃ y, SR Z y s ∧ ∃ (H' : Hp) (out : List V) (acc : Array Value) (c : Nat),
  y.os = x.os ∧ AllBare y.gens ∧ Un (frs outer) [S] H H' x.heap y.heap ∧ HOk P w H' y.heap ∧ H' S = none ∧ y.heap.get? S = some (lstObj acc c) ∧ Vals (pre ++ out) acc.toList ∧ n + (pre ++ out).length = sizeLine ∧ Q out H' ∧ (∃ o, y.heap.get? a = some o ∧ GenO g o) ∧ y.heap.NoLimit
/-- a generator that has not begun -/
def Made (P : Program) (w : World) (base : Heap) (k : Nat) (mk : Prop) (pl : Nat) (outer : List Env) (H : Hp) (x : Shared) (Q : List V → Hp → Prop) (u : Value) (x' : Shared) : Prop :=
  ∃ (a : Addr) (g : Nat) (c : Code), u = .ref a ∧ x.heap.objs.size ≤ a ∧ a < x'.heap.objs.size ∧ x'.heap.IsGen a g ∧ x'.gens[g]? = some (.fresh c) ∧ x.gens.size ≤ g ∧ x'.os = x.os ∧ AllBare x'.gens ∧ x'.heap.NoLimit ∧ (∀ b o, x.heap.get? b = some o → x'.heap.get? b = some o) ∧
    ∀ (Z : Nat → Prop) (B : Prop) (A : Around) (S : Addr) (pre : List V) (y : Shared), (B → mk) → pre.length = pl → Room k A → A.frames = some outer → SAt base outer H x x'.heap.objs.size S → (∀ b o, b ≠ S → x'.heap.get? b = some o → y.heap.get? b = some o) → (∃ acc c, y.heap.get? S = some (lstObj acc c) ∧ Vals pre acc.toList) → y.os = x.os → AllBare y.gens → pre.length ≤ sizeLine →
      ∀ s₀ s, SR Z y s → g < s.gens.size → Seg (mp P w) A (RG Z P w outer H x S a g pre Q) (YG Z S a g (B, BG outer H x S)) (sizeLine - pre.length) s₀ c ((mp P w).den c) [] s
abbrev SpGS := Nat → List V → Hp → (List V → Hp → Prop) → Prop
structure GFnS (P : Program) (w : World) (K : PySem.W.Frag) (mg : Str → Option Value) (base : Heap) (k : Nat) (mk : Prop) (f : Addr) (fd : FuncData) (ps : List Str) (sp : SpGS) : Prop where
  len : ∀ pl vs H Q, sp pl vs H Q → vs.length = ps.length
  run : ∀ (pl : Nat) (A : Around) (outer : List Env) (x : Shared) (H : Hp) (args : Args) (us : List Value) (vs : List V) (Q : List V → Hp → Prop), Room k A → Env0 P w K mg base A outer x H → BindsTo x fd args (ps.zip us) → Vals vs us → sp pl vs H Q →
    codeAny (model P w) A (.call (.ref f) args) (fun r y => match r with | .ok (.ret u) => Made P w base k mk pl outer H x Q u y | _ => False) x
theorem gfnS_of {mk : Prop} {P : Program} {w : World} {K : PySem.W.Frag} {mg : Str → Option Value} {base : Heap} {k : Nat} {f : Addr} {name qual : Str} {params : Arguments} {body : List Stmt} {scope : Scope} {dV kV doc pm cdv ct oc : Value} {an od : Option Addr}
    {osl : Array (Option Value)} {N ps : List Str} {sp : SpGS} (lk : K.lookup f = some ⟨oc, od, .func (PySem.W.fnOf name qual params body scope dV kV doc pm an cdv ct), osl⟩) (hcd : PySem.W.codeIn K cdv qual = true) (sc : GScope N ps scope)
    (len : ∀ pl vs H Q, sp pl vs H Q → vs.length = ps.length)
    (hbody : ∀ (A : Around) (outer : List Env) (x : Shared) (H : Hp) (vs : List V) (S : Addr) (pre : List V) (Q : List V → Hp → Prop), Room k (A.deeper (envOfC qual scope x.heap.objs.size f cdv)) → sp pre.length vs H Q →
      ∃ t, GBs mk (gX P w K mg base N qual scope f cdv A outer x H S) body t ∧ t { nx := fun ys _ H' => ∃ out, ys = pre ++ out ∧ Q out H', rt := fun ys v H' => v = .non ∧ ∃ out, ys = pre ++ out ∧ Q out H' } pre (start N vs) H) :
    GFnS P w K mg base (k + 1) mk f (PySem.W.fnOf name qual params body scope dV kV doc pm an cdv ct) ps sp := by
  refine ⟨len, fun pl A outer x H args us vs Q hr e0 hb rv hsp => ?_⟩
  have hl := len _ _ _ _ hsp
  have KX : K.In x.heap := e0.mod.kin.keeps fun b o e => (e0.bs b o e).1
  have lim : x.heap.NoLimit := e0.mod.nolimit.keeps fun b o e => (e0.bs b o e).1
  have hkind : ∀ z ∈ ps.zip us, scope.names.lookup z.1 = some .local ∨ (scope.names.lookup z.1 = some .cell ∧ ((cellsFrom (x.heap.objs.size + 1) scope.names []).lookup z.1).isSome = true) := by
    rintro ⟨n, v⟩ hz
    exact (sc.par n (List.of_mem_zip hz).1).imp (fun q => q) fun q => ⟨q, PySem.W.cellsFrom_some _ _ _ (.inl q)⟩
  refine codeAny_call_generator hr.depth (KX _ _ lk) rfl sc.co sc.gen rfl (PySem.W.codeRec_of KX hcd) (hb _ _ _ _ (wpAny_newFunctionEnv_cells sc.kind hkind ?_))
  rintro env rfl x1 z
  have lim1 : x1.heap.NoLimit := lim.keeps z.toInCall.keep
  refine ⟨lim1, ?_⟩
  have lt1 : x.heap.objs.size < x1.heap.objs.size := z.toInCall.ns.lt
  have kp1 : ∀ b o, x.heap.get? b = some o → x1.heap.get? b = some o := z.toInCall.keep
  obtain ⟨os1, gen1⟩ : x1.os = x.os ∧ x1.gens = x.gens := by
    obtain ⟨h1, tk, rfl, _⟩ := z.done
    exact ⟨rfl, rfl⟩
  have cells1 : ∀ y c, (cellsFrom (x.heap.objs.size + 1) scope.names []).lookup y = some c → x.heap.objs.size < c ∧ x1.heap.objs.size > c := fun y c e => by
    obtain ⟨ob, ho, _⟩ := z.cell y c e
    exact ⟨z.above y c (PySem.mem_of_lookup e), Heap.lt_size ho⟩
  have main : ∀ (go : Obj) (nm qn : Value) (tk2 : Nat), go.cls = .type "generator" → go.data = .fields #[.int x1.gens.size 0, nm, qn] → go.slots = #[] → (∀ h : Heap, (h.push go).get? h.objs.size = some go) →
      Made P w base (k + 1) mk pl outer H x Q (.ref x1.heap.objs.size) { x1 with gens := x1.gens.push (.fresh (.func body (envOfC qual scope x.heap.objs.size f cdv))), toks := tk2, heap := x1.heap.push go } := by
    intro go nm qn tk2 hgc hgd hgs hgp
    have hgO : GenO x1.gens.size go := ⟨hgc, ⟨nm, qn, hgd⟩, .inl hgs⟩
    have hpush : ∀ b o, x1.heap.get? b = some o → (x1.heap.push go).get? b = some o := fun b o e => Heap.get?_push_of_some _ e
    refine ⟨x1.heap.objs.size, x1.gens.size, _, rfl, Nat.le_of_lt lt1, ?_, ⟨go, nm, qn, hgp _, hgc, hgd, hgs⟩, Array.getElem?_push_size .., Nat.le_of_eq (by rw [gen1]), os1, ?_, lim1.keeps hpush, fun b o e => hpush b o (kp1 b o e), ?_⟩
    · show _ < (x1.heap.push _).objs.size
      rw [Heap.size_push]; exact Nat.lt_succ_self _
    · exact AllBare.push (by rw [gen1]; exact e0.bare) rfl
    intro Z B Aw S pre y hB hpl hrw hfr hS hk2 ⟨acc, cS, eS, rpre⟩ hos hba hle s₀ s hs hgl
    subst hpl
    have e0w : Env0 P w K mg base Aw outer x H := ⟨hfr, e0.mod, e0.bs, e0.bsz, e0.funs, e0.frf, e0.hok, e0.bare⟩
    obtain ⟨t, ht, hq⟩ := hbody Aw outer x H vs S pre Q (hrw.deeper _) hsp
    have I1 := inv_startG (E := fun _ _ _ => False) sc hrw.hd e0w hl rv z
    have hSz : x1.heap.objs.size + 1 ≤ S ∨ x.heap.objs.size > S := by
      rcases hS.away with q | q
      · exact .inr q
      · refine .inl ?_
        have q : (x1.heap.push go).objs.size ≤ S := q
        rw [Heap.size_push] at q
        exact q
    have SL : S ≠ x.heap.objs.size := fun e => by
      rw [e] at hSz
      omega
    have SC : ∀ y c, (cellsFrom (x.heap.objs.size + 1) scope.names []).lookup y = some c → c ≠ S := fun y c e => by
      obtain ⟨h1, h2⟩ := cells1 y c e
      intro e
      rw [e] at h1 h2
      omega
    have Sa : S ≠ x1.heap.objs.size := fun e => by
      rw [e] at hSz
      omega
    have I1' : Inv (gX P w K mg base N qual scope f cdv Aw outer x H S) [] (start N vs) H x1 := by
      refine ⟨⟨I1.ok.mod, I1.ok.kind, I1.ok.glob, I1.ok.blt, I1.ok.above, I1.ok.inj, I1.ok.has, I1.ok.cab, I1.ok.hd, I1.ok.frames, I1.ok.stk, fun b hb => ?_, I1.ok.bs, I1.ok.bsz, fun b o e hb => ?_, fun b hb => ?_, I1.ok.funs, I1.ok.frf⟩, I1.os, I1.bare, un_ex I1.base, I1.loc, I1.cell, I1.free, I1.freeC, fun p hp => absurd (show p ∈ ([] : List (Addr × Obj)) from hp) (by simp), I1.hok, I1.len⟩
      · rw [List.mem_singleton.mp hb]; exact ⟨SL, SC⟩
      · have e : base.get? b = some o := e
        rw [List.mem_singleton.mp hb, hS.nb] at e; cases e
      · rw [List.mem_singleton.mp hb]; exact hS.fs
    have ky : ∀ b o, b ≠ S → x1.heap.get? b = some o → y.heap.get? b = some o := fun b o hb e => hk2 b o hb (hpush b o e)
    have aS : Apt (gX P w K mg base N qual scope f cdv Aw outer x H S) S := ⟨.inl List.mem_cons_self, SL, SC⟩
    have aO : Apt (gX P w K mg base N qual scope f cdv Aw outer x H S) x1.heap.objs.size := ⟨.inr (Nat.le_of_lt lt1), Nat.ne_of_gt lt1, fun y c e => Nat.ne_of_lt (cells1 y c e).2⟩
    have I2 : Inv (gX P w K mg base N qual scope f cdv Aw outer x H S) [] (start N vs) H y :=
      I1'.call' (ch := [S]) (hos.trans os1.symm) (un_but ky) (hok_but hS.no ky I1'.hok) hba fun b hb => by
        rw [List.mem_singleton.mp hb]
        exact ⟨aS.ex, aS.loc, aS.cel, fun p hp => absurd (show p ∈ ([] : List (Addr × Obj)) from hp) (by simp)⟩
    have V2 : GV (gX P w K mg base N qual scope f cdv Aw outer x H S) S x1.heap.objs.size x1.gens.size [] pre (start N vs) H y := by
      refine ⟨go, hgO, acc, cS, rpre, I2.pins_of fun p hp => ?_⟩
      rcases List.mem_cons.mp hp with e | hp
      · rw [e]; exact ⟨eS, hS.no, SL, hS.fs, fun v q => by cases q⟩
      · rw [List.mem_singleton.mp hp]
        exact ⟨hk2 _ _ (Ne.symm Sa) (hgp _), I1'.hok.fresh (Nat.le_refl _), aO.loc, I1'.nofs (Nat.le_refl _), fun v q => by
          have q : go.data = .cell v := q
          rw [hgd] at q; cases q⟩
    refine seg_fun rfl ?_
    refine ht.run Z Aw S x1.heap.objs.size x1.gens.size (B, BG outer H x S) _ (sizeLine - pre.length) pre [] y (start N vs) H _ (.func body (envOfC qual scope x.heap.objs.size f cdv)) [] _ _ id id
      ⟨fun p hp => absurd (show p ∈ ([] : List (Addr × Obj)) from hp) (by simp), aS, aO, over_func, rfl, rfl, rfl, fun _ _ q => q, fun pins σ' H' y' I b o e n hf hb => I.base.keep b o e n hf (fun q => hb (List.mem_singleton.mp q)),
        fun pins σ' H' y' h I kk b o e n hf hb => by
          have nS : b ∉ [S] := fun q => hb (List.mem_singleton.mp q)
          refine kk b o (I.base.keep b o e n hf nS) (I.base.free b o e n nS) (fun hm => ?_) hb
          rcases List.mem_cons.mp (I.stkSub b hm) with q | q
          · rw [q] at e
            exact absurd (Heap.lt_size e) (Nat.lt_irrefl _)
          · exact hf q, hB⟩
      (by omega) (fun n ys y' fl hn q => ?_) V2 hq s₀ s hs hgl
    have done : ∀ {σ' : L2.St} {H' : Hp}, GV (gX P w K mg base N qual scope f cdv Aw outer x H S) S x1.heap.objs.size x1.gens.size [] ys σ' H' y' → (∃ out, ys = pre ++ out ∧ Q out H') → ∀ s, SR Z y' s → RG Z P w outer H x S x1.heap.objs.size x1.gens.size pre Q n s₀ (.ok (.ret .none)) s := by
      rintro σ' H' ⟨o', go', acc', c', r', J⟩ ⟨out, rfl, hQ⟩ s hs
      exact ⟨rfl, y', hs, H', out, acc', c', J.os, J.bare, J.base, J.hok, (J.pin _ (List.mem_append_right _ List.mem_cons_self)).2.1, (J.pin _ (List.mem_append_right _ List.mem_cons_self)).1, r', hn, hQ, ⟨o', (J.pin _ (List.mem_append_right _ (List.mem_cons_of_mem _ List.mem_cons_self))).1, go'⟩, J.nolimit⟩
    intro s1' s1 hs1 _
    cases fl with
    | next =>
      obtain ⟨σ', H', V', q⟩ := q
      exact seg_end (.ok (.ret .none)) (by obtain ⟨h1, h2⟩ := done V' q s1 hs1; exact ⟨h1, h2⟩)
    | brk => obtain ⟨_, _, _, q⟩ := q; exact q.elim
    | cont => obtain ⟨_, _, _, q⟩ := q; exact q.elim
    | ret u =>
      obtain ⟨v, σ', H', V', r1, ev, q⟩ := q
      subst ev
      have eu : u = Value.none := r1
      subst eu
      exact seg_end (.ok (.ret .none)) (by obtain ⟨h1, h2⟩ := done V' q s1 hs1; exact ⟨h1, h2⟩)
  exact main _ _ _ _ rfl rfl rfl fun h => Heap.get?_push_size _ rfl
end Sf
end
section
set_option Elab.async false
set_option linter.all false
set_option maxRecDepth 100000
set_option maxHeartbeats 1000000
/-! A generator is woken; yield from over it. -/
namespace Sf
open PySem L2 PyProof.Rows GenW
section
variable {P : Program} {w : World} {A : Around} {E : Value → Shared → Prop} {s : Shared}
theorem GenO.ty {g : Nat} {o : Obj} {a : Addr} (go : GenO g o) (ho : s.heap.get? a = some o) : s.TypeIs (.ref a) "generator" := ⟨o, ho, go.1⟩
theorem genNum {M : Model} {a : Addr} {g : Nat} {o : Obj} {Q : Nat → Shared → Prop} (ho : s.heap.get? a = some o) (go : GenO g o) (h : Q g s) : wpAny M A (Builtin.Generator.genNumber (.ref a)) Q E s := by
  obtain ⟨_, ⟨nm, qn, hd⟩, hs⟩ := go
  unfold Builtin.Generator.genNumber
  refine wpAny_bind (wpAny_load ho ?_)
  rcases hs with hs | ⟨t, hs⟩
  · rw [hs, hd]
    show wpAny M A (pure ((g : Int).toNat)) Q E s
    rw [Int.toNat_natCast]; exact wpAny_pure h
  · rw [hs, hd]
    show wpAny M A (if (0 : Int) > 0 then _ else _) Q E s
    rw [if_neg (by decide)]
    show wpAny M A (pure ((g : Int).toNat)) Q E s
    rw [Int.toNat_natCast]; exact wpAny_pure h
theorem yf_not {id : String} {args : Args} (h : id ≠ yfId) : yfOf (.builtin id args) = none := by
  obtain ⟨pos, kw⟩ := args
  cases pos with
  | nil => rfl
  | cons v r =>
    cases v with
    | ref a =>
      show (if id = yfId then some a else none) = none
      exact if_neg h
    | _ => rfl
theorem den_bi {id : String} {args : Args} {b : Builtin} (h : id ≠ yfId) (hb : entryFor table id = some b) : (mp P w).den (.builtin id args) = b args := by
  show denS _ = _
  unfold denS
  rw [yf_not h]
  show (match entryFor table id with | some b => b args | none => unsupported ((withoutEnding? id "#data").getD id)) = _
  rw [hb]
theorem den_bis {id : String} {args : Args} {a : Addr} {b : Builtin} (h : yfOf (.builtin id args) = some a) (hb : entryFor table id = some b) : (mp P w).den (.builtin id args) = T a (b args) := by
  show denS _ = _
  unfold denS
  rw [h]
  show T a (match entryFor table id with | some b => b args | none => unsupported ((withoutEnding? id "#data").getD id)) = _
  rw [hb]
theorem den_gn (args : Args) : (mp P w).den (.builtin "generator.__next__" args) = Builtin.«generator.__next__» args := den_bi (by decide) entry_gen_next
/-- the call of its __next__ -/
theorem next_call {a : Addr} {Q : Value → Shared → Prop} (hT : s.TypeIs (.ref a) "generator") (h : wpAny (mp P w) A.in1 (Builtin.Generator.genWake (.ref a) (.send .none)) (fun fin s' => ∃ v, fin = .done (.ret v) ∧ Q v s') E s) :
    wpAny (mp P w) A (call (.builtin "generator.__next__") [.ref a]) Q E s := by
  refine wpAny_call (codeAny_of_tree ?_)
  show wpAny (mp P w) A.in1 (checkBuiltinCall "generator.__next__" ⟨[.ref a], []⟩ >>= fun _ => again (.builtin "generator.__next__" ⟨[.ref a], []⟩)) _ _ s
  refine wpAny_bind (slot_gen_next.check _ _ _ _ _ _ _ _ hT (args_gen_next _) (wpAny_pure ⟨plainId_quiet slot_gen_next.plain _, codeAny_of_tree ?_⟩))
  rw [den_gn, Around.under_plainId slot_gen_next.plain _]
  show wpAny (mp P w) A.in1 (Builtin.Generator.genWake (.ref a) (.send .none)) _ _ s
  refine wpAny_mono h (fun fin s' ⟨v, ev, q⟩ => ?_) fun _ _ e => e
  subst ev
  exact q
/-- it is woken: it hands out, or it is at its end -/
theorem wake_S {a : Addr} {g n : Nat} {o : Obj} {gs : GenState} {R : GenEnd} {Y : Protocol} {Q : Option Value → Shared → Prop} {F : Shared → Prop} (hh : A.handled = none) (hl : s.heap.NoLimit) (hroom : A.depth < recursionLimit) (ho : s.heap.get? a = some o) (go : GenO g o)
    (hgs : s.gens[g]? = some gs) (hgo : gs.Goes (mp P w) A.in1 R Y n (.send .none) (s.setGen g .running)) (hR : ∀ r s₁, R n (s.setGen g .running) r s₁ → r = .ok (.ret .none) ∧ F s₁)
    (hY : ∀ v s₁ gs', gs'.bare = true → Y (n - 1) (s.setGen g .running) v s₁ (fun r' s'' => match n with | 0 => False | m + 1 => gs'.Goes (mp P w) A.in1 R Y m r' s'') → Q (some v) (s₁.setGen g gs'))
    (hE : ∀ s₁, F s₁ → ∀ e h', StopX e h' → (∀ b o, s₁.heap.get? b = some o → h'.get? b = some o) → E e { s₁.setGen g .finished with heap := h' }) :
    wpAny (mp P w) A (callSpecial? (.ref a) "__next__") Q E s := by
  refine wpAny_callSpecial?_slot (name := Str.ofString "__next__") (go.ty ho) slot_gen_next (next_call (go.ty ho) ?_)
  unfold Builtin.Generator.genWake
  refine wpAny_bind (wpAny_holding (genNum ho go (wpAny_bind (wpAny_genState hgs ?_))))
  have room : ∀ {t : Sem PySem.Fin} {Q' : PySem.Fin → Shared → Prop}, wpAny (mp P w) A.in1 t Q' E s → wpAny (mp P w) A.in1 (roomToWake >>= fun _ => t) Q' E s := fun h => wpAny_bind (wpAny_roomToWake hl hroom h)
  cases gs with
  | running => exact hgo.elim
  | finished => exact hgo.elim
  | _ =>
    refine wpAny_bind (wpAny_roomToWake hl hroom ?_)
    show wpAny _ A.in1 (.resume g (.send .none) [] _) _ _ s
    refine wpAny_resumeQ hgs hgo (fun r s₁ hr => ?_) (fun v s₁ gs' hb hv => ?_)
    · obtain ⟨rfl, hF⟩ := hR r s₁ hr
      show wpAny _ A.in1 (newExc (.type "StopIteration") [] >>= _) _ _ _
      refine wpAny_bind ?_
      simp only [newExc, newTuple]
      refine wpAny_bind (wpAny_newObj_type ?_ (by size_fits))
      refine wpAny_bind (m := firstArgMember _ _) (wpAny_of_eq (a := Value.none) (by first | rfl | (simp only [firstArgMember]; rfl)) ?_)
      refine wpAny_newObj_type ?_ (by size_fits)
      simp only [raiseNew]
      refine wpAny_bind (wpAny_bind (wpAny_handled ?_))
      first | rw [show A.in1.handled = none from hh] | rw [hh]
      refine wpAny_throw ?_
      refine hE s₁ hF _ _ ⟨_, _, _, rfl, Heap.get?_push_size _ rfl, rfl, rfl, ?_⟩ fun b o e => Heap.get?_push_of_some _ (Heap.get?_push_of_some _ e)
      first
        | rfl
        | (rw [Array.getElem?_append_left (by decide)]; rfl)
        | kernel_rfl
    · exact wpAny_pure ⟨v, rfl, hY v s₁ gs' hb hv⟩
/-- the object is marked by one -/
theorem slept {M : Model} {a : Addr} {o : Obj} {m : Int} {vs : Array Value} {b : Bool} {Q : Unit → Shared → Prop} (ho : s.heap.get? a = some o) (hc : o.cls = .type "generator") (hd : o.data = .fields vs) (hm : o.slots = #[] ∧ m = 0 ∨ ∃ t, o.slots = #[some (.int m t)])
    (h : ∀ h', h'.get? a = some { o with slots := #[some (.int (if b = true then m + 1 else m - 1) 0)] } → (∀ c oc, c ≠ a → s.heap.get? c = some oc → h'.get? c = some oc) → Q () { s with heap := h' }) : wpAny M A (Builtin.Generator.sleptOver (.ref a) b) Q E s := by
  unfold Builtin.Generator.sleptOver
  refine wpAny_bind (wpAny_load ho ?_)
  rw [hc, if_neg (by decide)]
  unfold setSlotAt
  rw [if_neg (by decide)]
  refine wpAny_updatePart ho (h _ ?_ (fun c oc hca e => (Heap.get?_update_other _ _ (Ne.symm hca)).trans e))
  refine (Heap.get?_update_self _ ho (Obj.isFreed_of_fields (vs := vs) hd)).trans ?_
  rcases hm with ⟨hs, rfl⟩ | ⟨t, hs⟩
  · rw [hs]; cases b <;> rfl
  · rw [hs]; cases b <;> rfl
end
end Sf
end
section
set_option Elab.async false
set_option linter.all false
set_option maxRecDepth 100000
set_option maxHeartbeats 2000000
/-! yield from over a generator's call. -/
namespace Sf
open PySem L2 PyProof.Rows GenW
theorem over_bi {A : Around} {c c' : Code} {fs : List Frame} {k : Result → Sem PySem.Fin} {g : Bool} {l kp : List Value} {p : Pos} (hw : c'.weight = 0) :
    (A.over c' (.ret k none g l c p kp :: fs)).handled = (A.over c fs).handled ∧ (A.over c' (.ret k none g l c p kp :: fs)).depth = (A.over c fs).depth ∧ (A.over c' (.ret k none g l c p kp :: fs)).frames = (A.over c fs).frames ∧
      (A.over c' (.ret k none g l c p kp :: fs)).units = (A.over c fs).units + c'.cUnits := by
  refine ⟨rfl, ?_, ?_, ?_⟩
  · show A.depth + frameCount ((c, p) :: fs.map Frame.where_) + c'.weight = A.depth + frameCount (fs.map Frame.where_) + c.weight
    rw [frameCount_cons, hw]; omega
  · show pushEnvs c'.envs (pushEnvs (envsOf ((c, p) :: fs.map Frame.where_)) A.frames) = pushEnvs c.envs (pushEnvs (envsOf (fs.map Frame.where_)) A.frames)
    rw [Code.envs_of_weight hw, envsOf_cons]
    simp only [pushEnvs_eq]
    cases A.frames <;> simp [List.append_assoc]
  · show A.units + unitsOf ((c, p) :: fs.map Frame.where_) + c'.cUnits = A.units + unitsOf (fs.map Frame.where_) + c.cUnits + c'.cUnits
    rw [unitsOf_cons]; omega
abbrev yfC (a : Addr) : Code := .builtin "proto.yield_from" ⟨[.ref a, .bool false, .none], []⟩
theorem yfC_of (a : Addr) : yfOf (yfC a) = some a := by
  show (if ("proto.yield_from" : String) = yfId then some a else none) = some a
  exact if_pos rfl
theorem den_yfC {P : Program} {w : World} (a : Addr) : (mp P w).den (yfC a) = T a (Builtin.«proto.yield_from» ⟨[.ref a, .bool false, .none], []⟩) := den_bis (yfC_of a) entry_yf
theorem close_gen : typeLookup (.type "generator") "close" = pure (some (.builtin "generator.close")) := by rw [typeLookup_type, builtinLookup_eq_fast]; kernel_rfl
/-- the part behind the sleep -/
def behind (a : Addr) (r : Resume) : Sem PySem.Fin := do
  Builtin.Generator.sleptOver (.ref a) false
  match r with
    | .send v => again (.builtin "proto.yield_from" ⟨[.ref a, .bool false, ← (match v with | .ref _ => newList [v] | _ => pure v)], []⟩)
    | .throw e => again (.builtin "proto.yield_from" ⟨[.ref a, .bool true, ← (match e with | .ref _ => newList [e] | _ => pure e)], []⟩)
section
variable {M : Model} {A : Around} {R : GenEnd} {Y : Protocol} {n : Nat} {s₀ s : Shared} {fs : List Frame} {a : Addr}
theorem T_ret (f : Flow) : T a (.pure (.done f)) = .pure (.done f) := rfl
/-- one turn: what the iterator's __next__ gives -/
theorem seg_yfturn {P : Program} {w : World} {g : Nat} (h : wpAny (mp P w) (A.over (yfC a) fs) (callSpecial? (.ref a) "__next__") (fun r s1 => ∃ u, r = some u ∧ ∃ o1, s1.heap.get? a = some o1 ∧ GenO g o1 ∧
        ∀ h2, h2.get? a = some { o1 with slots := #[some (.int 1 0)] } → (∀ c oc, c ≠ a → s1.heap.get? c = some oc → h2.get? c = some oc) → Seg (mp P w) A R Y n s₀ (yfC a) (.yield u false mark fun r => T0 (behind a r)) fs { s1 with heap := h2 })
      (fun e s1 => StopX e s1.heap ∧ Seg (mp P w) A R Y n s₀ (yfC a) (.pure (.done (.ret .none))) fs s1) s) :
    Seg (mp P w) A R Y n s₀ (yfC a) ((mp P w).den (yfC a)) fs s := by
  rw [den_yfC]
  unfold Builtin.«proto.yield_from»
  try dsimp only
  refine seg_T (wpAny_pure ?_)
  try dsimp only
  refine seg_T (wpAny_attempt (wpAny_holding ?_))
  rw [if_neg Bool.false_ne_true, if_pos (show (Value.none == Value.none) = true from rfl)]
  refine wpAny_bind (wpAny_rule (wpAny_bind (wpAny_mono h (fun r s1 ⟨u, er, o1, ho1, go1, q⟩ => ?_) fun e s1 ⟨hx, q⟩ => ?_)))
  · subst er
    refine wpAny_pure ?_
    try dsimp only
    refine seg_T (wpAny_typeOf (T := "generator") (go1.ty ho1) ?_)
    try dsimp only
    first
      | (refine seg_T (wpAny_of_eq close_gen ?_); refine seg_T (wpAny_pure ?_))
      | refine seg_T (wpAny_bind (wpAny_of_eq close_gen (wpAny_pure ?_)))
    try dsimp only
    obtain ⟨gc, ⟨nm, qn, gd⟩, gs⟩ := go1
    refine seg_T (slept (m := 0) ho1 gc gd (gs.imp (fun z => ⟨z, rfl⟩) fun z => z) fun h2 e2 k2 => ?_)
    have hG : isG (some { o1 with slots := #[some (.int 1 0)] }) = true := by
      show (Obj.genNumber? _).isSome = true
      unfold Obj.genNumber?
      rw [show ({ o1 with slots := #[some (.int 1 0)] } : Obj).cls = .type "generator" from gc, show ({ o1 with slots := #[some (.int 1 0)] } : Obj).data = _ from gd]
      rfl
    refine seg_wrap (m := loadIfAlive a) (K := fun o => if isG o then .yield u false mark fun x => T0 _ else .yield u true [] fun x => T0 _) (H := .raise) (gd := id) (lv := id) ?_
    have ha : ∀ {Q : Option Obj → Shared → Prop} {E : Value → Shared → Prop} {s : Shared} {A : Around}, Q (s.heap.get? a) s → wpAny (mp P w) A (loadIfAlive a) Q E s := fun hq _ _ _ => hq
    refine ha ?_
    dsimp only
    have e2' : h2.get? a = some { o1 with slots := #[some (.int 1 0)] } := e2
    rw [e2', if_pos hG]
    exact q h2 e2' k2
  · obtain ⟨b, ob, vs, rfl, hob, hcb, hdb, h5⟩ := hx
    try dsimp only
    refine seg_T (wpAny_endsTurn hob hcb ?_)
    try dsimp only
    rw [if_pos rfl]
    first
      | refine seg_T (wpAny_rule ?_)
      | (rw [if_neg Bool.false_ne_true]; refine seg_T (wpAny_rule ?_))
    refine seg_T (wpAny_field hob hdb h5 ?_)
    exact q
end
end Sf
end
section
set_option Elab.async false
set_option linter.all false
set_option maxRecDepth 100000
set_option maxHeartbeats 1000000
/-! yield from f(..) in a generator's body. -/
namespace Sf
open PySem L2 PyProof.Rows GenW
abbrev TGS := Nat → L2.St → Hp → (List V → Hp → Prop) → Prop
/-- an expression whose value is a generator that has not begun -/
structure PGS (X : Cx) (k : Nat) (mk : Prop) (e : Expr) (t : TGS) : Prop where
  run : ∀ (pl : Nat) (pins : List (Addr × Obj)) (x : Shared) (σ : L2.St) (H : Hp) (Q : List V → Hp → Prop), Inv X pins σ H x → t pl σ H Q →
    wpAny (model X.prog X.w) X.A (eval e X.env) (fun u y => ∃ (H1 : Hp) (xc : Shared), x.gens.size ≤ xc.gens.size ∧ Inv X pins σ H1 xc ∧ Made X.prog X.w X.base k mk pl X.stack H1 xc Q u y) X.xe x
def tGFromG (t : TGS) : TGn := fun D ys σ H => t ys.length σ H fun out H1 => D.nx (ys ++ out) σ H1
theorem Wk.push {S ad : Addr} {g : Nat} {mk : Prop} {u : Value} {x : Shared} {acc : Array Value} {c : Nat} {G : Array GenState} (hS : x.heap.get? S = some (lstObj acc c)) (hne : S ≠ ad) (hG : AllBare G) : Wk S ad g mk u x { x with gens := G, heap := x.heap.update S (Obj.mapSeq (·.push u)) } where
  os := rfl
  bare := hG
  keep := fun b o hb _ e => (Heap.get?_update_other _ _ (Ne.symm hb)).trans e
  own := fun acc' c' e => by
    rw [hS] at e
    cases e
    exact ⟨_, Heap.get?_update_self _ hS rfl⟩
  slf := fun o e go => ⟨o, (Heap.get?_update_other _ _ hne).trans e, go⟩
theorem SH.fill {Z Hs : Nat → Prop} {g : Nat} {x s : Shared} (h : SH Z (fun i => i = g) x s) (hp : Heap)  : SH Z Hs (({ x with heap := hp } : Shared).setGen g .running) (({ s with heap := hp } : Shared).setGen g .running) := by
  refine ⟨rfl, h.drawn, h.toks, h.os, ?_, fun i _ => ?_⟩
  · rw [setGen_size, setGen_size]; exact h.size
  · show OR (Z i) (x.gens.setIfInBounds g .running)[i]? (s.gens.setIfInBounds g .running)[i]?
    by_cases hi : g = i
    · subst hi
      by_cases hl : g < x.gens.size
      · have hl' : g < s.gens.size := by rw [h.size]; exact hl
        rw [Array.getElem?_setIfInBounds_self_of_lt hl, Array.getElem?_setIfInBounds_self_of_lt hl']
        exact .some .running
      · have hl' : ¬ g < s.gens.size := by rw [h.size]; exact hl
        rw [Array.getElem?_eq_none (by rw [Array.size_setIfInBounds]; omega), Array.getElem?_eq_none (by rw [Array.size_setIfInBounds]; omega)]
        exact .none
    · rw [Array.getElem?_setIfInBounds_ne hi, Array.getElem?_setIfInBounds_ne hi]
      exact h.gens i fun q => hi q.symm
theorem nolim {h h' : Heap} (l : h.NoLimit) (k : ∀ o, h.get? cStatics = some o → h'.get? cStatics = some o) : h'.NoLimit := by
  obtain ⟨mc, hns, hnn⟩ := l
  exact ⟨mc, hns.at' fun o e => k o e, hnn⟩
section
variable {X : Cx} {e : Expr} {yp pos : Pos} {k : Nat} {t : TGS}
theorem yf_loop {Z : Nat → Prop} {S ad a2 : Addr} {g g2 : Nat} {B : Prop × (Heap → Prop)} {R : GenEnd} {A : Around} {fs : List Frame} {xc : Shared} {H1 : Hp} {ys : List V} {cont : List V → Hp → Prop}
    (hh : (A.over (yfC a2) fs).handled = none) (hroom : (A.over (yfC a2) fs).depth < recursionLimit) (hsp : splitAtGen fs = none) (hgd : fs.any Frame.guarded = false)
    (hB : ¬ B.1) (hgg : g ≠ g2) (hSa : S ≠ a2) (hca : cStatics ≠ a2) (hcS : cStatics ≠ S)
    (hbo : ∀ h, BG X.stack H1 xc S h → B.2 h ∧ ∃ o, h.get? ad = some o ∧ GenO g o)
    (hba : ∀ h h', BG X.stack H1 xc S h → (∀ c oc, c ≠ a2 → h.get? c = some oc → h'.get? c = some oc) → BG X.stack H1 xc S h')
    (hend : ∀ n s₀ s' s₁, g < s₁.gens.size → RG Z X.prog X.w X.stack H1 xc S a2 g2 ys cont n s' (.ok (.ret .none)) s₁ → ∀ h', (∀ b o, s₁.heap.get? b = some o → h'.get? b = some o) →
      Seg (mp X.prog X.w) A R (YG Z S ad g B) n s₀ (yfC a2) (.pure (.done (.ret .none))) fs { s₁.setGen g2 .finished with heap := h' }) :
    ∀ (n : Nat) (s₀ s : Shared) (gs : GenState), g < s.gens.size → s.gens[g2]? = some gs →
      gs.Goes (mp X.prog X.w) (A.over (yfC a2) fs).in1 (RG Z X.prog X.w X.stack H1 xc S a2 g2 ys cont) (YG Z S a2 g2 (True, BG X.stack H1 xc S)) n (.send .none) (s.setGen g2 .running) →
      (∃ o2, s.heap.get? a2 = some o2 ∧ GenO g2 o2) → s.heap.NoLimit → Seg (mp X.prog X.w) A R (YG Z S ad g B) n s₀ (yfC a2) ((mp X.prog X.w).den (yfC a2)) fs s := by
  have up : ∀ {s₁ : Shared} {x : GenState} {h : Heap} {j : Nat}, j + 1 ≤ ({ s₁.setGen g2 x with heap := h } : Shared).gens.size → j < s₁.gens.size := fun {s₁ x h j} q => by
    have q : j + 1 ≤ (s₁.setGen g2 x).gens.size := q
    rw [setGen_size] at q
    exact q
  intro n
  induction n with
  | zero =>
    intro s₀ s gs hgs hg2 hgo ⟨o2, ho2, go2⟩ hl
    refine seg_yfturn (g := g2) (wpAny_gsz (n := g + 1) hgs (wake_S (F := fun s₁ => RG Z X.prog X.w X.stack H1 xc S a2 g2 ys cont 0 s (.ok (.ret .none)) s₁) hh hl hroom ho2 go2 hg2 hgo (fun r s₁ hr => ?_) (fun v s₁ gs' hb hv hz1 => ?_) fun s₁ hF e h' hx hk hz1 => ⟨hx, hend 0 s₀ s s₁ (up hz1) hF h' hk⟩))
    · obtain ⟨rfl, q⟩ := hr
      exact ⟨rfl, rfl, q⟩
    · obtain ⟨Hs, xg, sh, _, hno, hbare, hlim, hbg, ⟨o1, ho1, go1⟩, ⟨acc, c, eS, hcnt⟩, rv, wake⟩ := hv
      exact (wake _ (Wk.push eS hSa hbare) { s₁ with heap := xg.heap.update S (Obj.mapSeq (·.push v)) } ⟨rfl, sh.drawn, sh.toks, sh.os, sh.size, sh.gens⟩ ⟨Nat.le_refl _, fun _ _ => rfl⟩).elim
  | succ m ih =>
    intro s₀ s gs hgs hg2 hgo ⟨o2, ho2, go2⟩ hl
    have hg2l : g2 < s.gens.size := (Array.getElem?_eq_some_iff.mp hg2).1
    refine seg_yfturn (g := g2) (wpAny_gsz (n := g + 1) hgs (wpAny_gsz (n := g2 + 1) hg2l (wake_S (F := fun s₁ => RG Z X.prog X.w X.stack H1 xc S a2 g2 ys cont (m + 1) s (.ok (.ret .none)) s₁) hh hl hroom ho2 go2 hg2 hgo (fun r s₁ hr => ?_) (fun v s₁ gs' hb hv hz2 hz1 => ?_)
      fun s₁ hF e h' hx hk hz2 hz1 => ⟨hx, hend (m + 1) s₀ s s₁ (up hz1) hF h' hk⟩)))
    · obtain ⟨rfl, q⟩ := hr
      exact ⟨rfl, rfl, q⟩
    · obtain ⟨Hs, xg, sh, _, hno, hbare, hlim, hbg, ⟨o1, ho1, go1⟩, ⟨acc, c, eS, hcnt⟩, rv, wake⟩ := hv
      have hH : ∀ i, ¬ Hs i := hno trivial
      have z1 : g < s₁.gens.size := up (h := s₁.heap) hz1
      have z2 : g2 < s₁.gens.size := up (h := s₁.heap) hz2
      refine ⟨v, rfl, o1, ?_, go1, fun h2 e2 k2 => ?_⟩
      · show s₁.heap.get? a2 = _
        rw [sh.heap]; exact ho1
      have k2' : ∀ c oc, c ≠ a2 → xg.heap.get? c = some oc → h2.get? c = some oc := fun c oc hc e => k2 c oc hc (by
        show s₁.heap.get? c = _
        rw [sh.heap]; exact e)
      obtain ⟨hB2, hself⟩ := hbo _ (hba _ _ hbg k2')
      have l2 : h2.NoLimit := nolim hlim fun o e => k2' _ o hca e
      refine seg_yield hsp rfl hgd ?_
      refine ⟨fun i => i = g2, { xg with heap := h2 }, ⟨rfl, sh.drawn, sh.toks, sh.os, ?_, fun i hi => ?_⟩, hgg, fun hb => (hB hb).elim, hbare, l2, hB2, hself, ⟨acc, c, k2' S _ hSa eS, hcnt⟩, rv, fun x' wk s' hs' bk => ?_⟩
      · show (s₁.setGen g2 gs').gens.size = xg.gens.size
        rw [setGen_size]; exact sh.size
      · show OR (Z i) (xg.gens[i]?) ((s₁.gens.setIfInBounds g2 gs')[i]?)
        rw [Array.getElem?_setIfInBounds_ne (Ne.symm hi)]
        exact sh.gens i (hH i)
      have keep3 : ∀ b o, b ≠ S → h2.get? b = some o → x'.heap.get? b = some o := fun b o hb e => wk.keep b o hb (fun q => (hB q).elim) e
      have ea : s'.heap.get? a2 = some { o1 with slots := #[some (.int 1 0)] } := by
        rw [hs'.heap]; exact keep3 a2 _ (Ne.symm hSa) e2
      obtain ⟨gc, ⟨nm, qn, gd'⟩, gsl⟩ := go1
      show Seg _ A R _ m s' (yfC a2) (T0 (Builtin.Generator.sleptOver (.ref a2) false >>= fun _ => _)) fs s'
      refine seg_T0 (slept (m := 1) ea gc gd' (.inr ⟨0, rfl⟩) fun h3 e3 k3 => ?_)
      have e3 : h3.get? a2 = some { o1 with slots := #[some (.int 0 0)] } := e3
      have k4 : ∀ b o, b ≠ S → b ≠ a2 → xg.heap.get? b = some o → h3.get? b = some o := fun b o hb hb2 e => k3 b o hb2 (by
        rw [hs'.heap]; exact keep3 b o hb (k2' b o hb2 e))
      have go3 : GenO g2 { o1 with slots := #[some (.int 0 0)] } := ⟨gc, ⟨nm, qn, gd'⟩, .inr ⟨0, rfl⟩⟩
      show Seg _ A R _ m s' (yfC a2) (T0 (pure Value.none >>= fun v => again (.builtin "proto.yield_from" ⟨[.ref a2, .bool false, v], []⟩))) fs { s' with heap := h3 }
      refine seg_T0 (wpAny_pure ?_)
      show Seg _ A R _ m s' (yfC a2) (.pure (.again (yfC a2))) fs { s' with heap := h3 }
      refine seg_again (plainId_quiet plain_yf _) (ih s' { s' with heap := h3 } gs' ?_ ?_ ?_ ⟨_, e3, go3⟩ ?_)
      · refine Nat.lt_of_lt_of_le z1 (Nat.le_trans (Nat.le_of_eq ?_) bk.size)
        show _ = (s₁.setGen g2 gs').gens.size
        rw [setGen_size]
      · exact (bk.same g2 rfl).trans (setGen_at z2)
      · refine wake (({ x' with heap := h3 } : Shared).setGen g2 .running) ⟨wk.os, allBare_setGen (s := x') wk.bare rfl, fun b o hb hb2 e => k4 b o hb (hb2 trivial) e, fun acc' c' e => ?_, fun o e go => ⟨_, e3, go3⟩⟩ (({ s' with heap := h3 } : Shared).setGen g2 .running) (SH.fill hs' h3) ⟨?_, fun i q => (hH i q).elim⟩
        · obtain ⟨c2, e⟩ := wk.own acc' c' (k2' S _ hSa e)
          exact ⟨c2, k3 S _ hSa (by rw [hs'.heap]; exact e)⟩
        · refine Nat.le_trans (Nat.le_trans (Nat.le_of_eq ?_) bk.size) (Nat.le_of_eq ?_)
          · show _ = (s₁.setGen g2 gs').gens.size
            rw [setGen_size]
          · rw [setGen_size]
      · refine nolim l2 fun o e => k3 _ o hca (by rw [hs'.heap]; exact keep3 _ o hcS e)
end
end Sf
end
section
set_option Elab.async false
set_option linter.all false
set_option maxRecDepth 100000
set_option maxHeartbeats 1000000
/-! The statement `yield from f(..)`. -/
namespace Sf
open PySem L2 PyProof.Rows GenW
theorem yfC_w (a : Addr) : (yfC a).weight = 0 := by
  first | rfl | decide | simp [yfC, Code.weight]
theorem yfC_u (a : Addr) : (yfC a).cUnits ≤ 8 := by
  first | exact (by decide : (1 : Nat) ≤ 8) | exact (by decide : (0 : Nat) ≤ 8) | (simp [yfC, Code.cUnits])
section
variable {X : Cx} {e : Expr} {yp pos : Pos} {k : Nat} {t : TGS}
theorem gb_yf (he : PGS X k True e t) (hc : X.calm = true) (hr : Room (k + 1) X.A) (hi : interactive X.env = false := by rfl) : GB False X (.Expr (.YieldFrom e yp) pos) (tGFromG t) := by
  refine ⟨fun Z A S ad g B R n ys ip x σ H D c fs K J gd lv sd hn kk hV ht s₀ s hs hg => ?_⟩
  rw [exec_Expr X.env _ pos hi rfl]
  show Seg _ _ _ _ n s₀ c (.at pos fun _ => ((eval e X.env >>= fun v => (standAt yp >>= fun _ => yieldFrom X.env v)) >>= fun x => dropValue (.YieldFrom e yp) pos x).wrap K J gd lv) fs s
  refine seg_at ?_
  obtain ⟨o, go, acc, cc, r, I⟩ := hV
  refine segw_bind2 ?_
  rw [sd.over]
  refine wpAny_gsz (n := g + 1) hg (wpAny_mono (wpAny_up hs (he.run ys.length _ x σ H _ I ht)) (fun v s1 ⟨y, hy, H1, xc, hxc, Ic, hM⟩ hg1 => ?_) fun e s' ⟨y, _, q⟩ => (sd.nx e y q).elim)
  obtain ⟨a2, g2, c2, rfl, ha1, ha2, hG, hgs, hxg, hos, hb, hlim, hkp, wake⟩ := hM
  have hne : ¬ ((Value.type "generator" == Value.type "coroutine") = true) := by decide
  have hG1 : s1.heap.IsGen a2 g2 := by rw [hy.heap]; exact hG
  refine seg_at ?_
  show Seg _ _ _ _ n s₀ c ((yieldFrom X.env (.ref a2)).wrap (fun b => (dropValue (.YieldFrom e yp) pos b).wrap K J gd lv) J gd lv) fs s1
  unfold yieldFrom
  refine seg_bind_wrap (wpAny_typeOf hG1.typeIs ?_)
  rw [if_neg hne]
  refine seg_bind_wrap (wpAny_holding ?_)
  rw [sd.over]
  refine wpAny_gsz (n := g + 1) hg1 (wpAny_mono (wpAny_up hy (wpAny_pyIter_gen (Q := fun u y' => u = .ref a2 ∧ y' = y) (E := fun _ _ => False) hG ⟨rfl, rfl⟩)) (fun u s2 ⟨y', hy2, eu, ey⟩ hg2 => ?_) fun e s' ⟨y, _, q⟩ => q.elim)
  subst eu ey
  refine seg_call fun p => ?_
  -- the pins of the call
  obtain ⟨pS, pS0, pSL, pSf, _⟩ := Ic.pin (S, lstObj acc cc) (List.mem_append_right _ List.mem_cons_self)
  obtain ⟨pO, pO0, pOL, pOf, pOc⟩ := Ic.pin (ad, o) (List.mem_append_right _ (List.mem_cons_of_mem _ List.mem_cons_self))
  have hSO : S ≠ ad := fun q => by
    subst q
    rw [pS] at pO
    cases pO
    exact go.noList
  have ltS : S < xc.heap.objs.size := Heap.lt_size pS
  have ltO : ad < xc.heap.objs.size := Heap.lt_size pO
  have nstk : ∀ {b : Addr}, b ≠ X.env.locals → b ∉ X.fs → b ∉ frs X.stack := fun {b} h1 h2 hm => by
    rcases List.mem_cons.mp (Ic.stkSub b hm) with z | z
    · exact h1 z
    · exact h2 z
  have hSa : S ≠ a2 := Nat.ne_of_lt (Nat.lt_of_lt_of_le ltS ha1)
  have limc : xc.heap.NoLimit := Ic.nolimit
  have ltC : cStatics < xc.heap.objs.size := let ⟨_, hn, _⟩ := limc; hn.lt
  have hca : cStatics ≠ a2 := Nat.ne_of_lt (Nat.lt_of_lt_of_le ltC ha1)
  have nbS : X.base.get? S = none := by
    rcases sd.aS.ex with q | q
    · cases e : X.base.get? S with
      | none => rfl
      | some ob => exact absurd q (Ic.ok.noex S ob e)
    · cases e : X.base.get? S with
      | none => rfl
      | some ob =>
        have h1 := Heap.lt_size e
        exact absurd (Nat.lt_of_lt_of_le h1 (Nat.le_trans Ic.ok.bsz q)) (Nat.lt_irrefl _)
  have hcS : cStatics ≠ S := fun q => by
    obtain ⟨_, ⟨ob, es, ep, e, _⟩, _⟩ := Ic.ok.mod.nolimit
    rw [q, nbS] at e
    cases e
  have hgg : g ≠ g2 := by
    have h1 : x.gens.size = s.gens.size := hs.size.symm
    omega
  have oc : A.over c fs = X.A := sd.over
  have rm : ∀ {kf : Result → Sem PySem.Fin} {gg : Bool} {ll : List Value}, Room k (A.over (yfC a2) (.ret kf none gg ll c p [] :: fs)).in1 := fun {kf gg ll} => by
    obtain ⟨o1, o2, o3, o4⟩ := over_bi (A := A) (c := c) (c' := yfC a2) (fs := fs) (k := kf) (g := gg) (l := ll) (p := p) (kp := []) (yfC_w a2)
    have h1 := hr.dp
    have h2 := hr.un
    have h3 := yfC_u a2
    refine ⟨by show (A.over (yfC a2) (.ret kf none gg ll c p [] :: fs)).handled = _; rw [o1, oc]; exact hr.hd, ?_, ?_⟩
    · show (A.over (yfC a2) (.ret kf none gg ll c p [] :: fs)).depth + 3 * k + 5 < _
      rw [o2, oc]; omega
    · show (A.over (yfC a2) (.ret kf none gg ll c p [] :: fs)).units + 1 + 16 * k + 200 < _
      rw [o4, oc]; omega
  have oc2 : A.over c fs = X.A := sd.over
  have fr : ∀ {kf : Result → Sem PySem.Fin} {gg : Bool} {ll : List Value}, (A.over (yfC a2) (.ret kf none gg ll c p [] :: fs)).in1.frames = some X.stack := fun {kf gg ll} => by
    obtain ⟨o1, o2, o3, o4⟩ := over_bi (A := A) (c := c) (c' := yfC a2) (fs := fs) (k := kf) (g := gg) (l := ll) (p := p) (kp := []) (yfC_w a2)
    show (A.over (yfC a2) (.ret kf none gg ll c p [] :: fs)).frames = _
    rw [o3, oc]; exact Ic.ok.frames
  have hgl : g2 < s2.gens.size := by
    rw [hy2.size]
    exact (Array.getElem?_eq_some_iff.mp hgs).1
  have eqn : sizeLine - ys.length = n := by omega
  have uS : SAt X.base X.stack H1 xc y'.heap.objs.size S := ⟨.inl ltS, pS0, nstk pSL pSf, nbS⟩
  refine yf_loop (cont := fun out H1 => D.nx (ys ++ out) σ H1) (xc := xc) (H1 := H1) (ys := ys) (g2 := g2) ?_ ?_ ?_ ?_ (fun q => sd.mkd q) hgg hSa hca hcS (fun h bg => ⟨?_, o, bg ad o pO pO0 (nstk pOL pOf) (Ne.symm hSO), go⟩) (fun h h' bg kp b ob e1 e2 e3 e4 => kp b ob (fun q => ?_) (bg b ob e1 e2 e3 e4)) (fun n' s₀' s' s₁ hgz hR h' hk => ?_) n s₀ s2 (.fresh c2) hg2 ?_ ⟨rfl, ?_⟩ ?_ ?_
  · exact (over_bi (yfC_w a2)).1.trans (by rw [oc]; exact hr.hd)
  · rw [(over_bi (yfC_w a2)).2.1, oc]; exact hr.depth
  · show (splitAtGen fs).map _ = none
    rw [sd.split]; rfl
  · show (gd false || fs.any Frame.guarded) = false
    rw [sd.gd, sd.guard]; rfl
  · exact sd.hk _ σ H1 xc h Ic bg
  · rw [q] at e1
    exact absurd (Heap.lt_size e1) (Nat.not_lt.mpr ha1)
  · obtain ⟨_, ye, hye, H', out, acc', c', eos, eb, un, hok, hS0, eS, vs, hlen, hq, hself, hle⟩ := hR
    refine seg_leaf (.ok (.ret .none)) ?_
    have SRe : SR Z { ye.setGen g2 .finished with heap := h' } { s₁.setGen g2 .finished with heap := h' } := (hye.setGen g2 .finished).heapTo h'
    have hk' : ∀ b o, ye.heap.get? b = some o → h'.get? b = some o := fun b o e => hk b o (by rw [hye.heap]; exact e)
    have I0 : Inv X ((ad, o) :: ip) σ H1 xc := Ic.pins_of fun p hp => Ic.pin p (List.mem_append_right _ (List.mem_cons_of_mem _ hp))
    have I2 : Inv X ((ad, o) :: ip) σ H' { ye.setGen g2 .finished with heap := h' } :=
      I0.call' (ch := [S]) eos (un.trans (Un.kept hk')) (hok.kept hk') (allBare_setGen eb rfl) fun b hb => by
        rw [List.mem_singleton.mp hb]
        refine ⟨sd.aS.ex, sd.aS.loc, sd.aS.cel, fun p hp => ?_⟩
        rcases List.mem_append.mp hp with z | z
        · exact (sd.pn p (List.mem_append_left _ z)).1
        · rcases List.mem_cons.mp z with z | z
          · rw [z]; exact Ne.symm hSO
          · exact (sd.pn p (List.mem_append_right _ z)).1
    have I3 : Inv X ((S, lstObj acc' c') :: (ad, o) :: ip) σ H' { ye.setGen g2 .finished with heap := h' } := I2.pins_of fun p hp => by
      rcases List.mem_cons.mp hp with z | z
      · rw [z]; exact ⟨hk' _ _ eS, hS0, pSL, pSf, fun v q => by cases q⟩
      · exact I2.pin p (List.mem_append_right _ z)
    exact kk n' (ys ++ out) _ .next hlen ⟨σ, H', ⟨o, go, acc', c', vs, I3⟩, hq⟩ s₀' _ SRe (by
      show g < (s₁.setGen g2 .finished).gens.size
      rw [setGen_size]; exact hgz)
  · exact gs_fresh hy2 hgs
  · rw [← eqn]
    exact wake Z True _ S ys (y'.setGen g2 .running) (fun _ => trivial) rfl rm fr uS (fun b ob _ e => e) ⟨acc, cc, hkp S _ pS, r⟩ hos (allBare_setGen hb rfl) (by omega) (s2.setGen g2 .running) (s2.setGen g2 .running) (hy2.setGen g2 .running) (by rw [setGen_size]; exact hgl)
  · obtain ⟨ob, nm, qn, h1, h2, h3, h4⟩ := hG
    exact ⟨ob, by rw [hy2.heap]; exact h1, h2, ⟨nm, qn, h3⟩, .inl h4⟩
  · rw [hy2.heap]; exact hlim
end
end Sf
end
section
set_option Elab.async false
set_option linter.all false
set_option maxRecDepth 100000
set_option maxHeartbeats 1000000
/-! Built-in codes and the call of a built-in type over the second model. -/
namespace Sf
open PySem L2 PyProof.Rows GenW
section
variable {P : Program} {w : World} {A : Around} {R : Result → Shared → Prop} {E : Value → Shared → Prop} {s : Shared}
theorem code_bi {id : String} {args : Args} {b : Builtin} (hy : id ≠ yfId) (hb : entryFor table id = some b)
    (h : wpAny (mp P w) (A.under (.builtin id args)) (b args) (fun fin s' => match fin with | .done f => R (.ok f) s' | .again c' => c'.quiet = true ∧ codeAny (mp P w) A c' R s') (fun e s' => R (.error e) s') s) :
    codeAny (mp P w) A (.builtin id args) R s := by
  refine codeAny_of_tree ?_
  rw [den_bi hy hb]
  exact h
theorem callType_S {T newId initId : String} {Bi : Builtin} {args : List Value} {Q Q₁ : Value → Shared → Prop} (ft : TypeCalled T newId initId) (hyi : initId ≠ yfId)
    (hct : checkTypeCall T ⟨args, []⟩ = pure ()) (entryI : entryFor table initId = some Bi)
    (hnew : codeAny (mp P w) A.in1 (.call (.builtin newId) ⟨.type T :: args, []⟩) (wants Q₁ E) s)
    (hnext : ∀ obj s₁, Q₁ obj s₁ → s₁.TypeIs obj T ∧ argsOk initId ⟨obj :: args, []⟩ ∧
      wpAny (mp P w) A.in1.in1 (Bi ⟨obj :: args, []⟩)
        (fun fin s' => match fin with | .done f => wants (fun r s₂ => r = .none ∧ Q obj s₂) E (.ok f) s' | .again c' => c'.quiet = true ∧ codeAny (mp P w) A.in1 c' (wants (fun r s₂ => r = .none ∧ Q obj s₂) E) s')
        (fun e s' => wants (fun r s₂ => r = .none ∧ Q obj s₂) E (.error e) s') s₁) :
    wpAny (mp P w) A (call (.type T) args) Q E s := by
  obtain ⟨c, tl, hmro⟩ := ft.mro
  have hmade := ft.made
  have hsub := ft.sub
  refine wpAny_call (codeAny_of_tree ?_)
  show wpAny _ _ (callAny (.type T) _) _ _ _
  refine wpAny_pure ⟨Code.quiet_builtin _ (by decide +kernel), code_bi (by decide) F.entry_type_call ?_⟩
  rw [Around.under_plain (weight_type_call_type T args []) rfl]
  have h1 := ft.notType
  have h2 := ft.canCreate
  repeat (any_goals (first | assumption | wp_step))
  refine codeAny_mono hnew fun r s₁ hr => ?_
  match r, hr with
  | .error e, hr => exact hr
  | .ok .next, hr => exact hr.elim
  | .ok .brk, hr => exact hr.elim
  | .ok .cont, hr => exact hr.elim
  | .ok (.ret obj), hr =>
    obtain ⟨hT, hok, hin⟩ := hnext _ _ hr
    have q1 := ft.init.lookup
    have q2 := ft.init.bind obj
    repeat (any_goals (first | assumption | wp_step))
    refine codeAny_mono (R := wants (fun r s₂ => r = .none ∧ Q obj s₂) E) (codeAny_of_tree ?_) fun r₂ s₂ hr₂ => ?_
    · show wpAny (mp P w) A.in1.in1 (checkBuiltinCall initId ⟨obj :: args, []⟩ >>= fun _ => again (.builtin initId ⟨obj :: args, []⟩)) _ _ s₁
      refine wpAny_bind (ft.init.check _ _ _ _ _ _ _ _ hT hok (wpAny_pure ⟨plainId_quiet ft.init.plain _, code_bi hyi entryI ?_⟩))
      rw [Around.under_plainId ft.init.plain _]
      exact hin
    · match r₂, hr₂ with
      | .error e, hr₂ => exact hr₂
      | .ok .next, hr₂ => exact hr₂.elim
      | .ok .brk, hr₂ => exact hr₂.elim
      | .ok .cont, hr₂ => exact hr₂.elim
      | .ok (.ret r), hr₂ =>
        obtain ⟨rfl, hq⟩ := hr₂
        repeat (any_goals (first | assumption | wp_step))
end
end Sf
end
section
set_option Elab.async false
set_option linter.all false
set_option maxRecDepth 100000
set_option maxHeartbeats 1000000
/-! list(f(..)) over a generator def, in the second model. -/
namespace Sf
open PySem L2 PyProof.Rows GenW
section
variable {P : Program} {w : World} {A : Around} {E : Value → Shared → Prop} {s : Shared}
theorem next_S {a : Addr} {g n : Nat} {o : Obj} {gs : GenState} {R : GenEnd} {Y : Protocol} {Q : Option Value → Shared → Prop} {F : Shared → Prop} (hh : A.handled = none) (hl : s.heap.NoLimit) (hroom : A.depth < recursionLimit) (ho : s.heap.get? a = some o) (go : GenO g o)
    (hgs : s.gens[g]? = some gs) (hgo : gs.Goes (mp P w) A.in1 R Y n (.send .none) (s.setGen g .running)) (hR : ∀ r s₁, R n (s.setGen g .running) r s₁ → r = .ok (.ret .none) ∧ F s₁)
    (hY : ∀ v s₁ gs', gs'.bare = true → Y (n - 1) (s.setGen g .running) v s₁ (fun r' s'' => match n with | 0 => False | m + 1 => gs'.Goes (mp P w) A.in1 R Y m r' s'') → Q (some v) (s₁.setGen g gs'))
    (hN : ∀ s₁, F s₁ → ∀ h', (∀ b o, s₁.heap.get? b = some o → h'.get? b = some o) → Q none { s₁.setGen g .finished with heap := h' }) : wpAny (mp P w) A (pyNext (.ref a)) Q E s := by
  unfold pyNext
  refine wpAny_bind (wpAny_attempt (wake_S hh hl hroom ho go hgs hgo hR (fun v s₁ gs' hb hv => wpAny_pure (hY v s₁ gs' hb hv)) fun s₁ hF e h' hx hk => ?_))
  obtain ⟨b, ob, vs, rfl, hob, hcb, hdb, h5⟩ := hx
  refine wpAny_bind (wpAny_isInstance (T := "StopIteration") (b := true) ⟨ob, hob, hcb⟩ isSubtype_stop ?_)
  exact wpAny_pure (hN s₁ hF h' hk)
theorem SH.run {Z Hs : Nat → Prop} {g : Nat} {gs' : GenState} {x s : Shared} (h : SH Z Hs x s) (hp : Heap) : SH Z Hs ({ x.setGen g .running with heap := hp } : Shared) ((({ s.setGen g gs' with heap := hp } : Shared)).setGen g .running) := by
  refine ⟨rfl, h.drawn, h.toks, h.os, ?_, fun i hi => ?_⟩
  · rw [setGen_size]
    show (s.setGen g gs').gens.size = (x.setGen g .running).gens.size
    rw [setGen_size, setGen_size]; exact h.size
  · show OR (Z i) (x.gens.setIfInBounds g .running)[i]? ((s.gens.setIfInBounds g gs').setIfInBounds g .running)[i]?
    by_cases hgi : g = i
    · subst hgi
      by_cases hl : g < x.gens.size
      · have hl' : g < s.gens.size := by rw [h.size]; exact hl
        rw [Array.getElem?_setIfInBounds_self_of_lt hl, Array.getElem?_setIfInBounds_self_of_lt (by rw [Array.size_setIfInBounds]; exact hl')]
        exact .some .running
      · have hl' : ¬ g < s.gens.size := by rw [h.size]; exact hl
        rw [Array.getElem?_eq_none (by rw [Array.size_setIfInBounds]; omega), Array.getElem?_eq_none (by rw [Array.size_setIfInBounds, Array.size_setIfInBounds]; omega)]
        exact .none
    · rw [Array.getElem?_setIfInBounds_ne hgi, Array.getElem?_setIfInBounds_ne hgi, Array.getElem?_setIfInBounds_ne hgi]
      exact h.gens i hi
/-- the loop that fills the list -/
theorem drain_S {Z : Nat → Prop} {outer : List Env} {H : Hp} {sc : Shared} {S a : Addr} {g : Nat} {Q : List V → Hp → Prop} {R : Result → Shared → Prop} {res : Value} (hh : A.handled = none) (hd : A.depth < recursionLimit) (hSa : S ≠ a) (hcS : cStatics ≠ S)
    (hend : ∀ n s' s₁, RG Z P w outer H sc S a g [] Q n s' (.ok (.ret .none)) s₁ → ∀ h', (∀ b o, s₁.heap.get? b = some o → h'.get? b = some o) → R (.ok (.ret res)) { s₁.setGen g .finished with heap := h' }) :
    ∀ (n : Nat) (s : Shared) (gs : GenState), s.gens[g]? = some gs → gs.Goes (mp P w) A.in1.in1 (RG Z P w outer H sc S a g [] Q) (YG Z S a g (False, BG outer H sc S)) n (.send .none) (s.setGen g .running) →
      (∃ o, s.heap.get? a = some o ∧ GenO g o) → s.heap.NoLimit → codeAny (mp P w) A (.builtin "list.extend.loop" ⟨[.ref S, .ref a, res], []⟩) R s := by
  intro n
  induction n with
  | zero =>
    intro s gs hgs hgo ⟨o, ho, go⟩ hl
    refine code_bi (by decide) F.entry_extend_loop ?_
    rw [Around.under_plainId F.plain_extend_loop _]
    show wpAny _ A.in1 (pyNext (.ref a) >>= _) _ _ s
    refine wpAny_bind (next_S (F := fun s₁ => RG Z P w outer H sc S a g [] Q 0 s (.ok (.ret .none)) s₁) hh hl hd ho go hgs hgo (fun r s₁ hr => ?_) (fun v s₁ gs' hb hv => ?_) fun s₁ hF h' hk => ?_)
    · obtain ⟨rfl, q⟩ := hr
      exact ⟨rfl, rfl, q⟩
    · obtain ⟨Hs, xg, sh, _, hno, hbare, hlim, hbg, ⟨o1, ho1, go1⟩, ⟨acc, c, eS, hcnt⟩, rv, wake⟩ := hv
      exact (wake _ (Wk.push eS hSa hbare) { s₁ with heap := xg.heap.update S (Obj.mapSeq (·.push v)) } ⟨rfl, sh.drawn, sh.toks, sh.os, sh.size, sh.gens⟩ ⟨Nat.le_refl _, fun _ _ => rfl⟩).elim
    · exact wpAny_pure (hend 0 s s₁ hF h' hk)
  | succ m ih =>
    intro s gs hgs hgo ⟨o, ho, go⟩ hl
    have hgl : g < s.gens.size := (Array.getElem?_eq_some_iff.mp hgs).1
    refine code_bi (by decide) F.entry_extend_loop ?_
    rw [Around.under_plainId F.plain_extend_loop _]
    show wpAny _ A.in1 (pyNext (.ref a) >>= _) _ _ s
    refine wpAny_bind (wpAny_gsz (n := g + 1) hgl (next_S (F := fun s₁ => RG Z P w outer H sc S a g [] Q (m + 1) s (.ok (.ret .none)) s₁) hh hl hd ho go hgs hgo (fun r s₁ hr => ?_) (fun v s₁ gs' hb hv hz => ?_) fun s₁ hF h' hk _ => ?_))
    · obtain ⟨rfl, q⟩ := hr
      exact ⟨rfl, rfl, q⟩
    · obtain ⟨Hs, xg, sh, hnG, _, hbare, hlim, hbg, ⟨o1, ho1, go1⟩, ⟨acc, c, eS, hcnt⟩, rv, wake⟩ := hv
      have hz1 : g < s₁.gens.size := by
        have q : g + 1 ≤ (s₁.setGen g gs').gens.size := hz
        rw [setGen_size] at q; exact q
      have hS1 : (s₁.setGen g gs').heap.get? S = some (lstObj acc c) := by
        show s₁.heap.get? S = _
        rw [sh.heap]; exact eS
      show wpAny _ A.in1 (updateSeq S (·.push v) >>= _) _ _ _
      refine wpAny_bind (wpAny_updateSeq hS1 rfl (wpAny_pure ⟨plainId_quiet F.plain_extend_loop _, ?_⟩) (by omega) (by show (acc.push v).size ≤ sizeLine + 1; rw [Array.size_push]; omega))
      have keep3 : ∀ b o, b ≠ S → xg.heap.get? b = some o → (s₁.heap.update S (Obj.mapSeq (·.push v))).get? b = some o := fun b o hbS e => (Heap.get?_update_other _ _ (Ne.symm hbS)).trans (by rw [sh.heap]; exact e)
      refine ih { s₁.setGen g gs' with heap := s₁.heap.update S (Obj.mapSeq (·.push v)) } gs' (setGen_at hz1) ?_ ⟨o1, keep3 a o1 (Ne.symm hSa) ho1, go1⟩ (nolim hlim fun o e => keep3 _ o hcS e)
      have eh : s₁.heap.update S (Obj.mapSeq (·.push v)) = xg.heap.update S (Obj.mapSeq (·.push v)) := by rw [sh.heap]
      rw [eh]
      refine wake { xg.setGen g .running with heap := xg.heap.update S (Obj.mapSeq (·.push v)) } (Wk.push eS hSa (allBare_setGen hbare rfl)) _ (sh.run _) ⟨?_, fun i hi => ?_⟩
      · rw [setGen_size]
        show _ ≤ (s₁.setGen g gs').gens.size
        rw [setGen_size]; exact Nat.le_refl _
      · have hne : g ≠ i := fun q => hnG (by rw [q]; exact hi)
        show ((s₁.gens.setIfInBounds g gs').setIfInBounds g .running)[i]? = s₁.gens[i]?
        rw [Array.getElem?_setIfInBounds_ne hne, Array.getElem?_setIfInBounds_ne hne]
    · exact wpAny_pure (hend (m + 1) s s₁ hF h' hk)
end
end Sf
end
section
set_option Elab.async false
set_option linter.all false
set_option maxRecDepth 100000
set_option maxHeartbeats 1000000
/-! Calls of generator defs as values; list over them. -/
namespace Sf
open PySem L2 PyProof.Rows GenW
section
variable {X : Cx} {k : Nat} {mk : Prop} {f : Addr} {fd : FuncData} {ps : List Str} {sp : SpGS} {dvs : List V} {ds : List Value} {nm : Str} {p pos pos' : Pos} {e : Expr} {es : List Expr} {t : TA}
def tCallGS (sp : SpGS) (dvs : List V) (t : TA) : TGS := fun pl σ H cont => t σ H fun vs H1 => sp pl (vs ++ dvs) H1 cont
theorem pgs_call (F : GFnS X.prog X.w X.K X.mg X.base k mk f fd ps sp) (hr : Room k X.A) (hg : Gl X nm) (hm : X.mg nm = some (.ref f)) (hk : PySem.W.keepIn X.K (.ref f) = true) (hb : Binds X.K fd ps ds) (hd : Vals dvs ds)
    (ha : PA X (e :: es) t) (hdb : (nm == ("__debug__" : Str)) = false := by decide) (he : starEach (e :: es) X.env = (false, eval e X.env) :: starEach es X.env := by rfl) (hpl : (backTo pos' (starEach es X.env)).any (·.1) = false := by rfl) :
    PGS X k mk (.Call (.Name nm p) (e :: es) [] pos') (tCallGS sp dvs t) := by
  refine ⟨fun pl pins x σ H Q I h => ?_⟩
  refine wpAny_Call_Name_kw (ld_glob I hg hm ?_ hdb)
  refine PySem.W.callWith_K (h₀ := X.base) I.ok.mod.kin hk (wpAny_gsz (n := x.gens.size) (Nat.le_refl _) (wpAny_mono (ha.run pos' pins x σ H _ I h) (fun us s1 ⟨vs, H1, I1, r, q⟩ hz => ⟨I1.kIn, ?_⟩) fun _ _ e _ => e)) he hpl
  have r2 : Vals (vs ++ dvs) (us ++ ds) := r.append hd
  have hl : (us ++ ds).length = ps.length := by rw [← r2.length]; exact F.len _ _ _ _ q
  refine wpAny_call (codeAny_mono (F.run pl X.A X.stack s1 H1 ⟨us, []⟩ (us ++ ds) (vs ++ dvs) Q hr I1.env0 (hb s1 us I1.kIn hl) r2 q) fun r s' z => ?_)
  match r, z with
  | .error _, z => exact False.elim z
  | .ok .next, z => exact False.elim z
  | .ok .brk, z => exact False.elim z
  | .ok .cont, z => exact False.elim z
  | .ok (.ret u), z => exact ⟨H1, s1, hz, I1, z⟩
end
/-- list(g) up to its loop -/
theorem init_pre {P : Program} {w : World} {A : Around} {s : Shared} {S a : Addr} {g : Nat} {Q : PySem.Fin → Shared → Prop} {E : Value → Shared → Prop} (hg : s.heap.IsGen a g) (hS : s.heap.get? S = some { cls := .type "list", data := .seq #[] }) (hSa : S ≠ a)
    (h : ∀ h', (∀ b o, b ≠ S → s.heap.get? b = some o → h'.get? b = some o) → (∃ c, h'.get? S = some (lstObj #[] c)) → Q (.again (.builtin "list.extend.loop" ⟨[.ref S, .ref a, .none], []⟩)) { s with heap := h' }) :
    wpAny (model P w) A (do let old ← Builtin.List.listItems (.ref S); Builtin.List.listUpdate (.ref S) (fun _ => #[]); letGo old.toList.reverse; Builtin.List.listExtendWith (.ref S) (.ref a) .none) Q E s := by
  have other : ∀ (hp : Heap) (f : Obj → Obj) b o, b ≠ S → hp.get? b = some o → (hp.update S f).get? b = some o := fun hp f b o hb e => (Heap.get?_update_other _ _ (Ne.symm hb)).trans e
  have h2 := Heap.get?_update_self (Obj.mapSeq (fun _ => (#[] : Array Value))) hS rfl
  have h3 := Heap.get?_update_self (Obj.mapSeq (·.push Value.none)) h2 rfl
  have h4 := Heap.get?_update_self (Obj.mapSeq (·.pop)) h3 rfl
  have hg2 : (s.heap.update S (Obj.mapSeq fun _ => #[])).IsGen a g := by
    obtain ⟨o, n1, n2, ho, r⟩ := hg
    exact ⟨o, n1, n2, other _ _ a o (Ne.symm hSa) ho, r⟩
  have ty : ({ s with heap := s.heap.update S (Obj.mapSeq fun _ => #[]) } : Shared).TypeIs (.ref a) "generator" := Heap.IsGen.typeIs hg2
  refine wpAny_bind ?_
  unfold Builtin.List.listItems
  refine wpAny_bind (wpAny_seqItems hS rfl (wpAny_pure ?_))
  show wpAny _ A (updateSeq S (fun _ => #[]) >>= fun _ => letGo (#[] : Array Value).toList.reverse >>= fun _ => Builtin.List.listExtendWith (.ref S) (.ref a) .none) _ _ _
  refine wpAny_bind (wpAny_updateSeq hS rfl (wpAny_bind (wpAny_letGo ?_)))
  unfold Builtin.List.listExtendWith
  refine wpAny_bind (wpAny_typeOf ty ?_)
  have d1 : Builtin.List.listSameRef (.ref S) (.ref a) = false := by simp [Builtin.List.listSameRef, hSa]
  have d2 : (Value.type "generator" == Value.type "list") = false := by decide
  have d3 : (Value.type "generator" == Value.type "tuple") = false := by decide
  simp only [d1, d2, d3, Bool.or_false, Bool.false_eq_true, if_false]
  refine wpAny_bind (wpAny_pyIter_gen hg2 (wpAny_bind (wpAny_holding ?_)))
  unfold Builtin.List.listLengthHint
  refine wpAny_bind (wpAny_specialOf ty F.gen_no_len ?_)
  show wpAny _ A (specialOf (Value.ref a) (Str.ofString "__length_hint__") >>= _) _ _ _
  refine wpAny_bind (wpAny_specialOf ty F.gen_no_hint (wpAny_pure ?_))
  show wpAny _ A (rule "list.extend.makes-room" >>= fun _ => (updateSeq S (·.push .none) >>= fun _ => updateSeq S (·.pop)) >>= fun _ => again (.builtin "list.extend.loop" ⟨[.ref S, .ref a, .none], []⟩)) _ _ _
  refine wpAny_bind (wpAny_rule (wpAny_bind (wpAny_bind (wpAny_updateSeq h2 rfl (wpAny_updateSeq (hz := by seq_fits) h3 rfl (wpAny_pure ?_))))))
  exact h _ (fun b o hb e => other _ _ b o hb (other _ _ b o hb (other _ _ b o hb e))) ⟨_, h4⟩
end Sf
end
section
set_option Elab.async false
set_option linter.all false
set_option maxRecDepth 100000
set_option maxHeartbeats 1000000
/-! The expression list(f(..)). -/
namespace Sf
open PySem L2 PyProof.Rows GenW
section
variable {X : Cx} {k : Nat} {mk : Prop}
theorem listG_S {Z : Nat → Prop} {pins : List (Addr × Obj)} {σ : L2.St} {H1 : Hp} {xc y s : Shared} {u : Value} {cont : List V → Hp → Prop} {Q : VK} (I : Inv X pins σ H1 xc) (hM : Made X.prog X.w X.base k mk 0 X.stack H1 xc cont u y) (hs : SR Z y s) (hr : Room (k + 3) X.A)
    (hQ : ∀ out H2 p, cont out H2 → H2 p = none → Q (.ref p) (upd H2 p (.lst out))) : wpAny (mp X.prog X.w) X.A (call (.type "list") [u]) (lo Z (EP X pins σ Q)) (lo Z X.xe) s := by
  obtain ⟨a, g, c, rfl, ha1, ha2, hG, hgs, hxg, hos, hb, hlim, hkp, wake⟩ := hM
  have sz : xc.heap.objs.size ≤ y.heap.objs.size := Nat.le_trans ha1 (Nat.le_of_lt ha2)
  have szl : X.env.locals < xc.heap.objs.size := let ⟨_, hn, _⟩ := I.loc; hn.lt
  have sz0 : X.s_0.heap.objs.size ≤ xc.heap.objs.size := Nat.le_trans I.ok.above (Nat.le_of_lt szl)
  have szb : X.base.objs.size ≤ y.heap.objs.size := Nat.le_trans I.ok.bsz (Nat.le_trans sz0 sz)
  have ltC : cStatics < y.heap.objs.size := let ⟨_, hn, _⟩ := hlim; hn.lt
  have hSa : y.heap.objs.size ≠ a := Nat.ne_of_gt ha2
  have hex : ExOk X pins [y.heap.objs.size] := fun b hb => by
    rw [List.mem_singleton.mp hb]
    refine ⟨.inr (Nat.le_trans sz0 sz), Nat.ne_of_gt (Nat.lt_of_lt_of_le szl sz), fun z cc e => ?_, fun q hq => ?_⟩
    · obtain ⟨v, h⟩ := I.cell z cc e
      obtain ⟨o, ho, _⟩ := h
      exact Nat.ne_of_lt (Nat.lt_of_lt_of_le (Heap.lt_size ho) sz)
    · exact Nat.ne_of_lt (Nat.lt_of_lt_of_le (Heap.lt_size (I.pin q hq).1) sz)
  have nstk : y.heap.objs.size ∉ frs X.stack := fun hm => by
    rcases List.mem_cons.mp (I.stkSub _ hm) with z | z
    · exact absurd (Nat.lt_of_lt_of_le szl sz) (by rw [z]; exact Nat.lt_irrefl _)
    · exact I.nofs sz z
  refine callType_S (Q₁ := fun obj s₁ => obj = .ref y.heap.objs.size ∧ SR Z { y with heap := y.heap.push { cls := .type "list", data := .seq #[] } } s₁) F.called_list (by decide) (F.typeCall_list_1 _) F.entry_list_init ?_ fun obj s₁ h₁ => ?_
  · refine codeAny_mono (codeAny_up hs (code_list_new (Q₁ := fun obj x => obj = .ref y.heap.objs.size ∧ x = { y with heap := y.heap.push { cls := .type "list", data := .seq #[] } }) (E := fun _ _ => False) (.ref a) ⟨rfl, rfl⟩)) fun r s' ⟨x, hx, q⟩ => ?_
    match r, q with
    | .error _, q => exact q.elim
    | .ok .next, q => exact q.elim
    | .ok .brk, q => exact q.elim
    | .ok .cont, q => exact q.elim
    | .ok (.ret v), ⟨q1, q2⟩ => subst q2; exact ⟨q1, hx⟩
  · obtain ⟨rfl, h₁⟩ := h₁
    have hS : (y.heap.push { cls := .type "list", data := .seq #[] }).get? y.heap.objs.size = some { cls := .type "list", data := .seq #[] } := Heap.get?_push_size _ rfl
    have hpush : ∀ b o, y.heap.get? b = some o → (y.heap.push { cls := .type "list", data := .seq #[] }).get? b = some o := fun b o e => Heap.get?_push_of_some _ e
    refine ⟨⟨_, by rw [h₁.heap]; exact hS, rfl⟩, F.args_list_init_2 _ _, ?_⟩
    refine wpAny_mono (wpAny_up h₁ (init_pre (Q := fun fin x => fin = .again (.builtin "list.extend.loop" ⟨[.ref y.heap.objs.size, .ref a, .none], []⟩) ∧ ∃ h', x = { y with heap := h' } ∧ (∀ b o, y.heap.get? b = some o → h'.get? b = some o) ∧ ∃ cc, h'.get? y.heap.objs.size = some (lstObj #[] cc)) (E := fun _ _ => False)
      (hG.keeps hpush) hS hSa fun h' k1 k2 => ⟨rfl, h', rfl, fun b o e => k1 b o (Nat.ne_of_lt (Heap.lt_size e)) (hpush b o e), k2⟩)) (fun fin s2 ⟨x2, h2, ef, h', ex, kp, hS2⟩ => ?_) fun _ _ ⟨_, _, q⟩ => q.elim
    subst ef ex
    refine ⟨plainId_quiet F.plain_extend_loop _, ?_⟩
    have gl : g < y.gens.size := (Array.getElem?_eq_some_iff.mp hgs).1
    refine drain_S (A := X.A.in1) (Z := Z) (outer := X.stack) (H := H1) (sc := xc) (g := g) (Q := cont) hr.hd (by have := hr.dp; show X.A.depth < _; omega) hSa (Nat.ne_of_lt ltC) (fun n s' s₁' hR h'' hk => ?_) sizeLine s2 (.fresh c) (gs_fresh h2 hgs) ⟨rfl, ?_⟩ ?_ ?_
    · obtain ⟨_, ye, hye, H', out, acc', c', eos, eb, un, hok, hS0, eS, vs, hlen, hq, _, _⟩ := hR
      have kk : ∀ b o, ye.heap.get? b = some o → h''.get? b = some o := fun b o e => hk b o (by rw [hye.heap]; exact e)
      have vs : Vals out acc'.toList := vs
      have hlen : n + out.length = sizeLine := hlen
      exact ⟨rfl, { ye.setGen g .finished with heap := h'' }, (hye.setGen g .finished).heapTo h'', .ref y.heap.objs.size, _, I.drained (ex := [y.heap.objs.size]) sz (by omega) (kk _ _ eS) vs hex eos (allBare_setGen eb rfl) (un.trans (Un.kept kk)) (hok.kept kk) hS0, rfl, hQ out H' _ hq hS0⟩
    · refine wake Z False X.A.in1.in1.in1 y.heap.objs.size [] (({ y with heap := h' } : Shared).setGen g .running) (fun q => q.elim) rfl ⟨hr.hd, ?_, ?_⟩ I.ok.frames ⟨.inr (Nat.le_refl _), I.hok.fresh sz, nstk, ?_⟩ (fun b o _ e => kp b o e) ?_ hos (allBare_setGen (s := { y with heap := h' }) hb rfl) (Nat.zero_le _) (s2.setGen g .running) (s2.setGen g .running) (h2.setGen g .running) ?_
      · have := hr.dp
        show X.A.depth + 3 * k + 5 < _
        omega
      · have := hr.un
        show X.A.units + 1 + 1 + 1 + 16 * k + 200 < _
        omega
      · cases e : X.base.get? y.heap.objs.size with
        | none => rfl
        | some ob => exact absurd (Nat.lt_of_lt_of_le (Heap.lt_size e) szb) (Nat.lt_irrefl _)
      · obtain ⟨cc, e⟩ := hS2
        exact ⟨#[], cc, e, .nil⟩
      · rw [setGen_size, h2.size]; exact gl
    · obtain ⟨ob, nm, qn, e1, e2, e3, e4⟩ := hG
      exact ⟨ob, by rw [h2.heap]; exact kp _ _ e1, e2, ⟨nm, qn, e3⟩, .inl e4⟩
    · rw [h2.heap]; exact hlim.keeps kp
def tListGS (t : TGS) : TE := fun σ H Q => t 0 σ H fun out H2 => ∀ p, H2 p = none → Q (.ref p) (upd H2 p (.lst out))
/-- list(f(..)) -/
theorem qe_listG {e : Expr} {t : TGS} {nm : Str} {p pos : Pos} (h : PGS X k mk e t) (hr : Room (k + 3) X.A) (hg : Gl X nm) (hm : X.mg nm = none) (hv : bootBuiltins nm = some (.type "list")) (hn : nm ≠ "__name__" := by decide) (hdb : (nm == ("__debug__" : Str)) = false := by decide)
    (he : starEach [e] X.env = (false, eval e X.env) :: starEach [] X.env := by rfl) : QE X (.Call (.Name nm p) [e] [] pos) (tListGS t) := by
  refine ⟨fun S pins x σ H Q I q s hs => wpAny_Call_Name_kw (wpAny_mono (nm_blt I hs hg hm hv hn hdb) (fun v s1 ⟨ev, h1⟩ => ?_) fun _ _ e => e)⟩
  subst ev
  refine PyProof.Rows.callWith_type1 ?_ he rfl
  rw [he]
  show wpAny _ _ (spliced ((false, eval e X.env) :: backTo pos (starEach [] X.env))) _ _ s1
  refine Calls.spliced_cons (wpAny_mono (wpAny_up h1 (h.run 0 pins x σ H _ I q)) (fun u s2 ⟨y, h2, H1, xc, hz, Ic, hM⟩ => Calls.spliced_nil ?_) fun _ _ e => e)
  exact listG_S Ic hM h2 hr fun out H2 p q hp => q p hp
end
end Sf
end
section
set_option Elab.async false
set_option linter.all false
set_option maxRecDepth 100000
/-! walks: the mathematics. -/
namespace Lw
open PySem L2
/-- all ways on from p, r more edges to come -/
def wx (wy : Nat → Nat → List Nat) (tg : Nat → Nat) : Nat → List Nat → List (List Nat)
  | 0, p => [p]
  | r + 1, p => (wy r (tg (p.getLastD 0))).flatMap fun m => wx wy tg r (p ++ [m])
/-- how many turns that takes -/
def wn (wy : Nat → Nat → List Nat) (tg : Nat → Nat) : Nat → List Nat → Nat
  | 0, _ => 1
  | r + 1, p => 1 + ((wy r (tg (p.getLastD 0))).map fun m => wn wy tg r (p ++ [m])).sum
def wvals (wy : Nat → Nat → List Nat) (tg : Nat → Nat) (L : Nat) (st : List (List Nat)) : List (List Nat) := st.flatMap fun p => wx wy tg (L - p.length) p
def wwt (wy : Nat → Nat → List Nat) (tg : Nat → Nat) (L : Nat) (st : List (List Nat)) : Nat := (st.map fun p => wn wy tg (L - p.length) p).sum
section
variable {wy : Nat → Nat → List Nat} {tg : Nat → Nat} {L : Nat}
theorem wn_pos : ∀ (r : Nat) (p : List Nat), 0 < wn wy tg r p
  | 0, _ => Nat.one_pos
  | r + 1, p => by unfold wn; omega
theorem wvals_nil : wvals wy tg L [] = [] := rfl
theorem wvals_full {p : List Nat} {st : List (List Nat)} (h : p.length = L) : wvals wy tg L (p :: st) = p :: wvals wy tg L st := by
  unfold wvals
  rw [List.flatMap_cons, h, Nat.sub_self]
  rfl
theorem wvals_step {p : List Nat} {st : List (List Nat)} (h : p.length < L) : wvals wy tg L (p :: st) = wvals wy tg L ((wy (L - p.length - 1) (tg (p.getLastD 0))).map (fun m => p ++ [m]) ++ st) := by
  unfold wvals
  rw [List.flatMap_cons, List.flatMap_append, List.flatMap_map]
  congr 1
  obtain ⟨r, hr⟩ : ∃ r, L - p.length = r + 1 := ⟨L - p.length - 1, by omega⟩
  rw [hr, show r + 1 - 1 = r from rfl]
  show (wy r (tg (p.getLastD 0))).flatMap _ = _
  congr 1
  funext m
  rw [List.length_append, List.length_singleton, show L - (p.length + 1) = r by omega]
theorem wwt_pop {p : List Nat} {st : List (List Nat)} : wwt wy tg L st < wwt wy tg L (p :: st) := by
  unfold wwt
  rw [List.map_cons, List.sum_cons]
  have := wn_pos (wy := wy) (tg := tg) (L - p.length) p
  omega
theorem wwt_step {p : List Nat} {st : List (List Nat)} (h : p.length < L) : wwt wy tg L ((wy (L - p.length - 1) (tg (p.getLastD 0))).map (fun m => p ++ [m]) ++ st) < wwt wy tg L (p :: st) := by
  unfold wwt
  rw [List.map_cons, List.sum_cons, List.map_append, List.sum_append, List.map_map]
  obtain ⟨r, hr⟩ : ∃ r, L - p.length = r + 1 := ⟨L - p.length - 1, by omega⟩
  rw [hr, show r + 1 - 1 = r from rfl]
  have e : ((wy r (tg (p.getLastD 0))).map ((fun q => wn wy tg (L - q.length) q) ∘ fun m => p ++ [m])) = (wy r (tg (p.getLastD 0))).map fun m => wn wy tg r (p ++ [m]) := by
    congr 1
    funext m
    show wn wy tg (L - (p ++ [m]).length) (p ++ [m]) = _
    rw [List.length_append, List.length_singleton, show L - (p.length + 1) = r by omega]
  rw [e]
  show _ < 1 + _ + _
  omega
end
/-- all walks from an edge -/
def walksL (wy : Nat → Nat → List Nat) (sr tg : Nat → Nat) (L first : Nat) : List (List Nat) := if first ∈ wy (L - 1) (sr first) then wvals wy tg L [[first]] else []
end Lw
end
section
set_option Elab.async false
set_option linter.all false
set_option maxRecDepth 100000
/-! walks: the generator. -/
namespace Lw
open PySem L2 Sf PyProof.Rows GenW
abbrev sWalks : Stmt := top 16
abbrev NWk : List Str := ["edges", "ways", "first", "length", "waiting", "path", "numbers", "number"]
def nW (s : List Nat) : List V := s.map fun k => V.int ((k : Nat) : Int)
theorem nW_len (s : List Nat) : (nW s).length = s.length := by
  unfold nW
  simp
theorem nW_at {s : List Nat} {i : Nat} (h : i < s.length) : (nW s)[i]? = some (.int ((s.getD i 0 : Nat) : Int)) := by
  unfold nW
  simp [List.getD, h]
theorem nW_snoc (s : List Nat) (k : Nat) : nW (s ++ [k]) = nW s ++ [.int (k : Int)] := by
  unfold nW
  rw [List.map_append]
  rfl
theorem in_nW (k : Nat) (s : List Nat) : inV (.int (k : Int)) (nW s) = decide (k ∈ s) := by
  unfold inV nW
  rw [List.any_map, Bool.eq_iff_iff, List.any_eq_true, decide_eq_true_iff]
  constructor
  · rintro ⟨x, hx, e⟩
    have e : eqV (V.int ((x : Nat) : Int)) (V.int ((k : Nat) : Int)) = true := e
    have : x = k := by
      simp [eqV] at e
      omega
    rw [← this]
    exact hx
  · intro h
    exact ⟨k, h, by simp [eqV]⟩
theorem flat_nW (s : List Nat) : (nW s).all flatV = true := by
  unfold nW
  rw [List.all_map]
  simp [flatV]
/-- tuples of numbers at these addresses -/
def TW (H : Hp) : List Addr → List (List Nat) → Prop
  | [], [] => True
  | a :: as, s :: st => H a = some (.tup (nW s)) ∧ TW H as st
  | _, _ => False
theorem TW.len {H : Hp} : ∀ {as : List Addr} {st : List (List Nat)}, TW H as st → as.length = st.length
  | [], [], _ => rfl
  | a :: as, s :: st, h => congrArg (· + 1) (TW.len h.2)
theorem TW.same {H H' : Hp} (s : Same H H') : ∀ {as : List Addr} {st : List (List Nat)}, TW H as st → TW H' as st
  | [], [], _ => True.intro
  | a :: as, _ :: st, h => ⟨s _ _ h.1, TW.same s h.2⟩
theorem TW.off {H : Hp} {W : Addr} {xs : List V} {o : HO} (e : H W = some (.lst xs)) : ∀ {as : List Addr} {st : List (List Nat)}, TW H as st → TW (upd H W o) as st
  | [], [], _ => True.intro
  | a :: as, _ :: st, h => by
    refine ⟨?_, TW.off e h.2⟩
    rw [upd_ne fun z => ?_]
    · exact h.1
    · have := h.1
      rw [z, e] at this
      cases this
theorem TW.app {H : Hp} : ∀ {as bs : List Addr} {st rt : List (List Nat)}, TW H as st → TW H bs rt → TW H (as ++ bs) (st ++ rt)
  | [], _, [], _, _, h => h
  | _ :: _, _, _ :: _, _, h, g => ⟨h.1, TW.app h.2 g⟩
/-- the table of the ways: at [more][state] the edges -/
structure WaysAt (H : Hp) (wa : Addr) (L n : Nat) (wy : Nat → Nat → List Nat) : Prop where
  ex : ∃ rs : List Addr, H wa = some (.lst (rs.map V.ref)) ∧ rs.length = L ∧ ∀ (r : Nat) (a : Addr), rs[r]? = some a → ∃ qs : List Addr, H a = some (.lst (qs.map V.ref)) ∧ qs.length = n ∧ ∀ (s : Nat) (b : Addr), qs[s]? = some b → H b = some (.lst (nW (wy r s)))
theorem WaysAt.same {H H' : Hp} {wa : Addr} {L n : Nat} {wy : Nat → Nat → List Nat} (h : WaysAt H wa L n wy) (s : Same H H') : WaysAt H' wa L n wy := by
  obtain ⟨rs, h1, h2, h3⟩ := h.ex
  refine ⟨rs, s _ _ h1, h2, fun r a e => ?_⟩
  obtain ⟨qs, g1, g2, g3⟩ := h3 r a e
  exact ⟨qs, s _ _ g1, g2, fun st b e => s _ _ (g3 st b e)⟩
/-- the reading of ways[r][s] -/
theorem WaysAt.read {H : Hp} {wa : Addr} {L n : Nat} {wy : Nat → Nat → List Nat} (h : WaysAt H wa L n wy) {r s : Nat} (hr : r < L) (hs : s < n) :
    ∃ (xs : List V) (a : Addr) (ys : List V) (b : Addr), H wa = some (.lst xs) ∧ atI xs (r : Int) = some (.ref a) ∧ H a = some (.lst ys) ∧ atI ys (s : Int) = some (.ref b) ∧ H b = some (.lst (nW (wy r s))) := by
  obtain ⟨rs, h1, h2, h3⟩ := h.ex
  obtain ⟨a, ha⟩ : ∃ a, rs[r]? = some a := ⟨_, List.getElem?_eq_getElem (by omega)⟩
  obtain ⟨qs, g1, g2, g3⟩ := h3 r a ha
  obtain ⟨b, hb⟩ : ∃ b, qs[s]? = some b := ⟨_, List.getElem?_eq_getElem (by omega)⟩
  exact ⟨_, a, _, b, h1, atI_nat (by rw [List.getElem?_map, ha]; rfl), g1, atI_nat (by rw [List.getElem?_map, hb]; rfl), g3 s b hb⟩
def srcE (us : Es) (i : Nat) : Nat := ((us[i]?.map fun (e : Addr × Int × Int) => e.2.1).getD 0).toNat
def tgtE (us : Es) (i : Nat) : Nat := ((us[i]?.map fun (e : Addr × Int × Int) => e.2.2).getD 0).toNat
/-- edges of n states, in a list at ed -/
structure EdL (H : Hp) (ed : Addr) (n : Nat) (us : Es) : Prop where
  ls : H ed = some (.lst (vsOf us))
  ok : Ed H us
  rg : ∀ e ∈ us, 0 ≤ e.2.1 ∧ e.2.1 < n ∧ 0 ≤ e.2.2 ∧ e.2.2 < n
theorem EdL.same {H H' : Hp} {ed : Addr} {n : Nat} {us : Es} (h : EdL H ed n us) (s : Same H H') : EdL H' ed n us := ⟨s _ _ h.ls, fun e he => s _ _ (h.ok e he), h.rg⟩
theorem EdL.read {H : Hp} {ed : Addr} {n : Nat} {us : Es} (h : EdL H ed n us) {i : Nat} (hi : i < us.length) :
    ∃ t : Addr, atI (vsOf us) (i : Int) = some (.ref t) ∧ H t = some (.tup [.int ((srcE us i : Nat) : Int), .int ((tgtE us i : Nat) : Int)]) ∧ srcE us i < n ∧ tgtE us i < n := by
  have e : us[i]? = some us[i] := List.getElem?_eq_getElem hi
  have hm : us[i] ∈ us := List.getElem_mem hi
  obtain ⟨h1, h2, h3, h4⟩ := h.rg _ hm
  have hs : srcE us i = (us[i].2.1).toNat := by unfold srcE; rw [e]; rfl
  have ht : tgtE us i = (us[i].2.2).toNat := by unfold tgtE; rw [e]; rfl
  refine ⟨us[i].1, atI_nat (by unfold vsOf; rw [List.getElem?_map, e]; rfl), ?_, by omega, by omega⟩
  rw [hs, ht, Int.toNat_of_nonneg h1, Int.toNat_of_nonneg h3]
  exact h.ok _ hm
/-- how many wait below -/
def SW (m : Nat) : List (List Nat) → Prop
  | [] => True
  | s :: r => r.length ≤ m * s.length ∧ SW m r
theorem SW.more {m : Nat} {s : List Nat} {r : List (List Nat)} (h : SW m (s :: r)) : ∀ ks : List Nat, ks.length ≤ m → SW m (ks.map (fun k => s ++ [k]) ++ r)
  | [], _ => h.2
  | k :: ks, hl => by
    have hl : ks.length + 1 ≤ m := hl
    have h1 := h.1
    refine ⟨?_, SW.more h ks (by omega)⟩
    have e1 : (ks.map (fun k => s ++ [k]) ++ r).length = ks.length + r.length := by rw [List.length_append, List.length_map]
    have e2 : m * (s ++ [k]).length = m * s.length + m := by rw [List.length_append, List.length_singleton, Nat.mul_add, Nat.mul_one]
    show (ks.map (fun k => s ++ [k]) ++ r).length ≤ m * (s ++ [k]).length
    omega
/-- all that waits: not empty, at most L edges, all edges of the graph -/
def AllW (m L : Nat) (st : List (List Nat)) : Prop := ∀ s ∈ st, s ≠ [] ∧ s.length ≤ L ∧ ∀ x ∈ s, x < m
theorem AllW.more {m L : Nat} {s : List Nat} {r : List (List Nat)} {ks : List Nat} (h : AllW m L (s :: r)) (hl : s.length < L) (hk : ∀ x ∈ ks, x < m) : AllW m L (ks.map (fun k => s ++ [k]) ++ r) := by
  intro z hz
  rcases List.mem_append.mp hz with hz | hz
  · obtain ⟨k, hk', rfl⟩ := List.mem_map.mp hz
    refine ⟨by simp, by rw [List.length_append, List.length_singleton]; omega, fun x hx => ?_⟩
    rcases List.mem_append.mp hx with hx | hx
    · exact (h s List.mem_cons_self).2.2 x hx
    · rw [List.mem_singleton.mp hx]
      exact hk k hk'
  · exact h z (List.mem_cons_of_mem _ hz)
/-- the promise of walks -/
def spWalks : SpGS := fun pl vs H Q => ∃ (ed wa : Addr) (us : Es) (n L first : Nat) (wy : Nat → Nat → List Nat), vs = [.ref ed, .ref wa, .int (first : Int)] ∧ EdL H ed n us ∧ us.length ≤ 24 ∧ WaysAt H wa L n wy ∧ (∀ r s, ∀ x ∈ wy r s, x < us.length) ∧ (∀ r s, (wy r s).length ≤ us.length) ∧
  1 ≤ L ∧ L ≤ 40 ∧ first < us.length ∧ pl + (walksL wy (srcE us) (tgtE us) L first).length ≤ sizeLine ∧ ∀ (H' : Hp) (as : List Addr), Same H H' → TW H' as (walksL wy (srcE us) (tgtE us) L first) → Q (as.map V.ref) H'
theorem scWk : GScope NWk ["edges", "ways", "first"] (defScope sWalks) := ⟨rfl, rfl, rfl, by decide +kernel, rfl, by decide +kernel, by decide +kernel⟩
/-- a generator def by its body -/
theorem Fun.gen {mk : Prop} {P : Program} {w : World} {K : PySem.W.Frag} {mg : Str → Option Value} {base : Heap} {x qual : Str} {st : Stmt} {f : Addr} {fd : FuncData} {N ps : List Str} {k : Nat} {sp : SpGS} (F : Fun K x qual st f fd) (S : GScope N ps (defScope st)) (len : ∀ pl vs H Q, sp pl vs H Q → vs.length = ps.length)
    (hbody : ∀ (cdv : Value) (A : Around) (outer : List Env) (s : Shared) (H : Hp) (vs : List V) (S : Addr) (pre : List V) (Q : List V → Hp → Prop), Room k (A.deeper (envOfC qual (defScope st) s.heap.objs.size f cdv)) → sp pre.length vs H Q →
      ∃ t, GBs mk (gX P w K mg base N qual (defScope st) f cdv A outer s H S) (defBody st) t ∧ t { nx := fun ys _ H' => ∃ out, ys = pre ++ out ∧ Q out H', rt := fun ys v H' => v = .non ∧ ∃ out, ys = pre ++ out ∧ Q out H' } pre (start N vs) H) :
    GFnS P w K mg base (k + 1) mk f fd ps sp := by
  obtain ⟨oc, od, kV, doc, pm, an, cdv, ct, osl, rfl, lk, hcd⟩ := F.ex
  exact gfnS_of lk hcd S len fun A outer s H vs Sx pre Q hr hsp => hbody cdv A outer s H vs Sx pre Q hr hsp
end Lw
end
section
set_option Elab.async false
set_option linter.all false
set_option maxRecDepth 100000
/-! walks: the promise. -/
namespace Lw
open PySem L2 Sf PyProof.Rows GenW
abbrev tLenK (K : PySem.W.Frag) (i : Nat) : TE := tCB (fun xs H Q => ∃ (p : Addr) (ys : List V), xs = [V.ref p] ∧ (SqL K H p ys ∨ SqT K H p ys) ∧ Q (V.int ys.length) H) (tCons (tVar i) tNil)
abbrev tSubN (a b : TE) : TE := tOp (fun x y H Q => ∃ n m : Nat, x = V.int n ∧ y = V.int m ∧ m ≤ n ∧ Q (V.int ((n - m : Nat) : Int)) H) a b
abbrev tTruL (K : PySem.W.Frag) (i : Nat) : TT := fun σ H Q => tVar i σ H fun x H' => ∃ k, TruV K x H' k ∧ Q k H'
abbrev tWay (K : PySem.W.Frag) (tr tn : TE) (c : Int) : TE := tOp (rIxL K) (tOp (rIxL K) (tVar 1) tr) (tOp (rIxT K) (tOp (rIxL K) (tVar 0) tn) (tC (.int c)))
abbrev tWk (K : PySem.W.Frag) : TGn := tGThen (tGWhile (tTruL K 4) (tGThen (tPlain (tAsg (tBM0 K "list" rPop (tVar 4)) (gName 5)))
  (tGThen (tGIf (tTest (tOp rEq (tLenK K 5) (tVar 3))) (tGThen (tGYield (tVar 5)) tG0)
    (tGThen (tPlain (tAsg (tWay K (tSubN (tSubN (tVar 3) (tLenK K 5)) (tC (.int 1))) (tOp (rIxT K) (tVar 5) (tUn (rU fun i => .int (-i)) (tC (.int 1)))) 1) (gName 6)))
      (tGThen (tPlain (tDrop (tBM K "list" rExtend (tVar 4) (tCons (tLc (RT.iRevA K (tVar 6)) (gName 7) tYes (tOp (rCatA K) (tVar 5) (tTup (tCons (tVar 7) tNil))) [7]) tNil)))) tG0))) tG0))) tG0
section
variable {P : Program} {w : World} {K : PySem.W.Frag} {mg : Str → Option Value} {base : Heap} {f : Addr} {fd : FuncData} {k : Nat}
set_option maxHeartbeats 8000000 in
theorem wk_while {pre : List V} {Q : List V → Hp → Prop} {ed wa Wt : Addr} {us : Es} {n L first : Nat} {wy : Nat → Nat → List Nat} {H0 Hb : Hp} {v5 v6 v7 : Option V} {as : List Addr} {st : List (List Nat)} (eE : EdL H0 ed n us) (m24 : us.length ≤ 24) (wW : WaysAt H0 wa L n wy)
    (wlt : ∀ r s, ∀ x ∈ wy r s, x < us.length) (wle : ∀ r s, (wy r s).length ≤ us.length) (L40 : L ≤ 40) (room : pre.length + (walksL wy (srcE us) (tgtE us) L first).length ≤ sizeLine)
    (q : ∀ (H' : Hp) (as : List Addr), Same H0 H' → TW H' as (walksL wy (srcE us) (tgtE us) L first) → Q (as.map V.ref) H') (s0 : Same H0 Hb) (hW : H0 Wt = none) (eW : Hb Wt = some (.lst (as.reverse.map V.ref))) (ta : TW Hb as st) (an : AllW us.length L st) (sb : SW us.length st)
    (vl : wvals wy (tgtE us) L st = walksL wy (srcE us) (tgtE us) L first) {rt : List V → V → Hp → Prop} :
    tWk K { nx := fun ys _ H' => ∃ out, ys = pre ++ out ∧ Q out H', rt := rt } pre [some (.ref ed), some (.ref wa), some (.int (first : Int)), some (.int (L : Int)), some (.ref Wt), v5, v6, v7] Hb := by
  refine ⟨fun m ys σ H' => ∃ (v5 v6 v7 : Option V) (as : List Addr) (st : List (List Nat)) (bs : List Addr) (dn : List (List Nat)), σ = [some (.ref ed), some (.ref wa), some (.int (first : Int)), some (.int (L : Int)), some (.ref Wt), v5, v6, v7] ∧ Same H0 H' ∧ H' Wt = some (.lst (as.reverse.map V.ref)) ∧
      TW H' as st ∧ AllW us.length L st ∧ SW us.length st ∧ ys = pre ++ bs.map V.ref ∧ TW H' bs dn ∧ dn ++ wvals wy (tgtE us) L st = walksL wy (srcE us) (tgtE us) L first ∧ wwt wy (tgtE us) L st = m,
    ⟨_, v5, v6, v7, as, st, [], [], rfl, s0, eW, ta, an, sb, by simp, True.intro, vl, rfl⟩, ?_⟩
  rintro m ys σ H3 ⟨v5, v6, v7, as, st, bs, dn, rfl, s4, eW, ta, an, sb, rfl, td, vl, wt⟩
  refine ⟨_, rfl, _, .inl ⟨_, SqL.of eW, rfl⟩, ?_⟩
  match as, st, ta with
  | [], [], _ =>
    refine if_f rfl ⟨bs.map V.ref, rfl, q H3 bs s4 ?_⟩
    rw [← vl, wvals_nil, List.append_nil]
    exact td
  | a :: as, p :: r, ta =>
    obtain ⟨ea, ta⟩ := ta
    have eW : H3 Wt = some (.lst (as.reverse.map V.ref ++ [.ref a])) := by
      rw [eW, List.reverse_cons, List.map_append]
      rfl
    obtain ⟨pne, sl, sx⟩ := an p List.mem_cons_self
    have la := ta.len
    refine if_t (by simp) ⟨_, fun _ _ _ z => z, ?_⟩
    refine ⟨_, rfl, .inl ⟨rfl, _, SqL.of eW⟩, Wt, _, .ref a, rfl, rfl, eW, ?_, ?_⟩
    · rw [List.length_append, List.length_singleton, Nat.add_sub_cancel]
      exact List.getElem?_concat_length
    rw [List.dropLast_concat]
    have aW : a ≠ Wt := fun z => by
      rw [z, eW] at ea
      cases ea
    have ea : upd H3 Wt (.lst (as.reverse.map V.ref)) a = some (.tup (nW p)) := by
      rw [upd_ne aW]
      exact ea
    have ta := TW.off (o := .lst (as.reverse.map V.ref)) eW ta
    have td := TW.off (o := .lst (as.reverse.map V.ref)) eW td
    have s4 : Same H0 (upd H3 Wt (.lst (as.reverse.map V.ref))) := fun b o e => by
      rw [upd_ne (ne_of_none e hW)]
      exact s4 _ _ e
    have eW : upd H3 Wt (.lst (as.reverse.map V.ref)) Wt = some (.lst (as.reverse.map V.ref)) := upd_same
    generalize upd H3 Wt (.lst (as.reverse.map V.ref)) = H4 at *
    refine ⟨_, rfl, a, _, rfl, .inr (SqT.of ea), ?_⟩
    rw [nW_len]
    refine ⟨_, rfl, rfl, _, rfl, ?_⟩
    by_cases hl : p.length = L
    · refine if_t (decide_eq_true (by rw [hl])) ⟨?_, _, rfl, ?_⟩
      · have e := congrArg List.length vl
        rw [wvals_full hl, List.length_append, List.length_cons] at e
        have e2 := td.len
        rw [List.length_append, List.length_map]
        omega
      · refine ⟨_, ?_, _, _, _, as, r, bs ++ [a], dn ++ [p], rfl, s4, eW, ta, fun z hz => an z (List.mem_cons_of_mem _ hz), sb.2, ?_, td.app ⟨ea, True.intro⟩, ?_, rfl⟩
        · rw [← wt]; exact wwt_pop
        · rw [List.map_append, List.append_assoc]; rfl
        · rw [← vl, wvals_full hl, List.append_assoc]; rfl
    · refine if_f (decide_eq_false fun z => hl (by have := V.int.inj z; omega)) ?_
      have hl : p.length < L := by omega
      obtain ⟨pp, x, rfl⟩ : ∃ pp x, p = pp ++ [x] := ⟨p.dropLast, p.getLast pne, (List.dropLast_concat_getLast pne).symm⟩
      have xm : x < us.length := sx x (by simp)
      have gl : (pp ++ [x]).getLastD 0 = x := by simp
      have eE := eE.same s4
      have wW := wW.same s4
      obtain ⟨t, at2, et, hs, ht⟩ := eE.read xm
      obtain ⟨xs, a1, ys1, F, w1, at1, w2, at4, eF⟩ := wW.read (r := L - (pp ++ [x]).length - 1) (by omega) ht
      have ex := ea
      rw [nW_snoc] at ex
      refine ⟨_, rfl, _, rfl, _, rfl, a, _, rfl, .inr (SqT.of ea), L, (pp ++ [x]).length, rfl, by rw [nW_len], Nat.le_of_lt hl, L - (pp ++ [x]).length, 1, rfl, rfl, by omega, wa, xs, _, _, rfl, rfl, SqL.of w1, at1, _, rfl, _, rfl, 1, rfl, a, _, -1, _, rfl, rfl, SqT.of ex, atI_last _ _, ed, _, _, _, rfl, rfl, SqL.of eE.ls, at2, t, _, 1, _, rfl, rfl, SqT.of et, rfl,
        a1, ys1, _, _, rfl, rfl, SqL.of w2, at4, ?_⟩
      have step := wvals_step (wy := wy) (tg := tgtE us) (L := L) (st := r) hl
      have wst := wwt_step (wy := wy) (tg := tgtE us) (L := L) (st := r) hl
      rw [gl] at step wst
      rw [step] at vl
      rw [wt] at wst
      have lc := wle (L - (pp ++ [x]).length - 1) (tgtE us x)
      have cl := wlt (L - (pp ++ [x]).length - 1) (tgtE us x)
      generalize wy (L - (pp ++ [x]).length - 1) (tgtE us x) = cs at *
      generalize pp ++ [x] = p at *
      have an2 := an.more hl cl
      have sb2 := sb.more cs lc
      refine ⟨_, rfl, .inl ⟨rfl, _, SqL.of eW⟩, _, rfl, F, _, rfl, .inl ⟨SqL.of eF, fun E hE => ?_⟩⟩
      have nE : E ≠ Wt := (ne_of_none eW hE).symm
      refine lc_it (walk_rev (K := K) (a := F) (xs := nW cs)) (fun i H' => ∃ rs : List Addr, Same H4 H' ∧ H' E = some (.lst (rs.reverse.map V.ref)) ∧ TW H' rs ((cs.drop (cs.length - i)).map fun k => p ++ [k])) ⟨[], same_upd hE, upd_same, by rw [Nat.sub_zero, List.drop_length]; exact True.intro⟩ (fun i H' _ p => by obtain ⟨rs, s, _⟩ := p; exact SqL.of (s _ _ eF)) ?_ ?_
      · rintro i v H6 H7 hi ⟨rs, s6, eX, tr⟩ ⟨rfl, gx⟩
        rw [nW_len] at hi gx
        rw [nW_at (by omega)] at gx
        cases gx
        have ea := s6 _ _ ea
        have dr : cs.drop (cs.length - (i + 1)) = cs.getD (cs.length - 1 - i) 0 :: cs.drop (cs.length - i) := by
          rw [List.drop_eq_getElem_cons (by omega), show cs.length - (i + 1) + 1 = cs.length - i by omega]
          congr 1
          simp [List.getD, show cs.length - 1 - i < cs.length by omega, show cs.length - (i + 1) = cs.length - 1 - i by omega]
        rw [dr]
        generalize cs.getD (cs.length - 1 - i) 0 = kk at *
        have lrs := tr.len
        rw [List.length_map, List.length_drop] at lrs
        have out : ∀ (y : Addr) (H8 : Hp), Same H7 H8 → H8 y = some (.tup (nW (p ++ [kk]))) → ∃ xs, H8 E = some (.lst xs) ∧ xs.length < sizeLine ∧ ∃ rs : List Addr, Same H4 (upd H8 E (.lst (xs ++ [.ref y]))) ∧ upd H8 E (.lst (xs ++ [.ref y])) E = some (.lst (rs.reverse.map V.ref)) ∧ TW (upd H8 E (.lst (xs ++ [.ref y]))) rs ((kk :: cs.drop (cs.length - i)).map fun k => p ++ [k]) := fun y H8 s8 ey => by
          have eX := s8 _ _ eX
          refine ⟨_, eX, ?_, y :: rs, ?_, ?_, ?_⟩
          · rw [List.length_map, List.length_reverse]
            exact small1000 (by omega)
          · intro b o e
            rw [upd_ne (ne_of_none e hE)]
            exact s8 _ _ (s6 _ _ e)
          · rw [upd_same, List.reverse_cons, List.map_append]
            rfl
          · exact TW.off eX (as := y :: rs) ⟨ey, tr.same s8⟩
        refine ⟨rfl, ?_⟩
        refine ⟨_, rfl, _, rfl, (by show 1 ≤ sizeLine; decide), fun u hu => ?_⟩
        have s8 := same_upd (o := .tup [.int (kk : Int)]) hu
        have eu : upd H7 u (.tup [.int (kk : Int)]) u = some (.tup [.int (kk : Int)]) := upd_same
        generalize upd H7 u (.tup [.int (kk : Int)]) = H8 at *
        have ea := s8 _ _ ea
        refine ⟨a, u, nW p, [.int (kk : Int)], rfl, rfl, SqT.of ea, SqT.of eu, ?_, fun z => ?_, fun _ z => absurd z (List.cons_ne_nil _ _), fun _ _ p hp => ?_⟩
        · rw [nW_len]
          show p.length + 1 ≤ sizeLine
          exact Nat.le_of_lt (small1000 (by omega))
        · refine out u H8 s8 ?_
          rw [nW_snoc, z]
          exact eu
        · refine out p _ (s8.trans (same_upd hp)) ?_
          rw [upd_same, nW_snoc]
      · rintro H6 ⟨rs, s6, eX, tr⟩
        rw [nW_len, Nat.sub_self, List.drop_zero] at tr
        have lrs := tr.len
        rw [List.length_map] at lrs
        have eW := s6 _ _ eW
        have lr := sb.1
        have lr2 : us.length * p.length ≤ 24 * 40 := Nat.mul_le_mul m24 (by omega)
        refine ⟨Wt, E, _, _, rfl, rfl, eW, eX, ?_, ?_⟩
        · rw [List.length_map, List.length_map, List.length_reverse, List.length_reverse]
          exact Nat.le_of_lt (small1000 (by omega))
        refine ⟨_, wst, _, _, _, rs ++ as, (cs.map fun k => p ++ [k]) ++ r, bs, dn, rfl, ?_, ?_, TW.off eW (tr.app (ta.same s6)), an2, sb2, rfl, TW.off eW (td.same s6), vl, rfl⟩
        · intro b o e
          rw [upd_ne (ne_of_none e hW)]
          exact s6 _ _ (s4 _ _ e)
        · rw [upd_same, List.reverse_append, List.map_append]
end
end Lw
end
section
set_option Elab.async false
set_option linter.all false
set_option maxRecDepth 100000
/-! walks: its promise by its body. -/
namespace Lw
open PySem L2 Sf PyProof.Rows GenW
section
variable {P : Program} {w : World} {K : PySem.W.Frag} {mg : Str → Option Value} {base : Heap} {f : Addr} {fd : FuncData} {k : Nat} {mk : Prop}
set_option maxHeartbeats 8000000 in
theorem ok_walks (F : Fun K "walks" "walks" sWalks f fd) (T : Bi mg) (hv : mg "reversed" = none) : GFnS P w K mg base (k + 1) mk f fd ["edges", "ways", "first"] spWalks := by
  refine Fun.gen F scWk (fun pl vs H Q h => ?_) (fun cdv A outer s H vs Sx pre Q hr h => ?_)
  · obtain ⟨ed, wa, us, n, L, first, wy, rfl, _⟩ := h
    rfl
  · obtain ⟨ed, wa, us, n, L, first, wy, rfl, eE, m24, wW, wlt, wle, L1, L40, fl, room, q⟩ := h
    refine ⟨_, gbs_cons (gb_plain (PS.up (ps_set (i := 3) scWk.nd rfl (.inl rfl) (pe_callB call_len_seq (by rfl) T.len PySem.boot_len (pa_cons (pv 1) pa_nil)))))
      (gbs_cons (gb_plain (PS.up (ps_set (i := 4) scWk.nd rfl (.inl rfl) (pe_ifExp (pt_cmpR op_in_seq (pv 2) (pe_ix ix_list (pe_ix ix_list (pv 1) (pe_op op_subN (pv 3) pe_int) (fun _ _ => rfl)) (pe_ix ix_tup (pe_ix ix_list (pv 0) (pv 2) (fun _ _ => rfl)) pe_int (fun _ _ => rfl)) (fun _ _ => rfl)) (by rfl))
        (pe_lst (pa_cons (pe_tup (pa_cons (pv 2) pa_nil)) pa_nil)) (pe_lst pa_nil)))))
      (gbs_one (gb_while (PT.up (pt_truth (pv 4) (fun _ => rfl)))
        (gbs_cons (gb_plain (PS.up (ps_set (i := 5) scWk.nd rfl (.inr rfl) (pe_bm0 PySem.F.plainAttrs_list PySem.F.slot_list_pop PySem.F.type_list_pop mt_pop (pv 4)))))
        (gbs_one (gb_if (PT.up (pt_cmpR op_eq (pe_callB call_len_seq (by rfl) T.len PySem.boot_len (pa_cons (pv 5) pa_nil)) (pv 3) (nomark _)))
          (gbs_one (gb_yield (PE.up (pv 5))))
          (gbs_cons (gb_plain (PS.up (ps_set (i := 6) scWk.nd rfl (.inl rfl) (pe_ix ix_list (pe_ix ix_list (pv 1) (pe_op op_subN (pe_op op_subN (pv 3) (pe_callB call_len_seq (by rfl) T.len PySem.boot_len (pa_cons (pv 5) pa_nil))) pe_int) (fun _ _ => rfl)) (pe_ix ix_tup (pe_ix ix_list (pv 0) (pe_ix ix_tup (pv 5) (pe_un un_neg pe_int) (fun _ _ => rfl)) (fun _ _ => rfl)) pe_int (fun _ _ => rfl)) (fun _ _ => rfl)))))
          (gbs_one (gb_plain (PS.up (ps_expr (pe_bm PySem.F.plainAttrs_list PySem.F.slot_list_extend PySem.F.type_list_extend mt_extend (pv 4) (pa_cons
            (pe_lc (own := [("number", 7)]) (g := gName 7) (tt := tYes) (te := tOp (rCatA K) (tVar 5) (tTup (tCons (tVar 7) tNil))) rfl scWk.nd (RT.pi_revA (by rfl) hv (pv 6)) (blkOk_by (N := NWk) (sc := defScope sWalks) (by decide +kernel))
              (fun _ _ _ _ _ => by exact pg_name (i := 7) scWk.nd rfl (Or.inl rfl)) (fun _ _ _ _ _ => pts_nil)
              (fun _ _ _ _ _ => by exact pe_op op_catA (pv 5) (pe_tup (pa_cons (pv 7) pa_nil)))) pa_nil))))))))))))), ?_⟩
    have wW' := wW
    obtain ⟨rs, r1, r2, r3⟩ := wW'.ex
    have r4 : (((rs.map V.ref).length : Nat) : Int) = (L : Int) := by rw [List.length_map, r2]
    refine ⟨_, rfl, wa, _, rfl, .inl (SqL.of r1), ?_⟩
    rw [r4]
    obtain ⟨t, at2, et, hs, ht⟩ := eE.read fl
    obtain ⟨xs, a1, ys1, b1, w1, at1, w2, at4, w3⟩ := wW.read (r := L - 1) (by omega) hs
    refine ⟨_, rfl, _, rfl, _, rfl, L, 1, rfl, rfl, L1, wa, xs, _, _, rfl, rfl, SqL.of w1, at1, _, rfl, _, rfl, ed, _, _, _, rfl, rfl, SqL.of eE.ls, at2, t, _, 0, _, rfl, rfl, SqT.of et, rfl, a1, ys1, _, _, rfl, rfl, SqL.of w2, at4, b1, _, rfl, .inl (SqL.of w3), rfl, flat_nW _, _, rfl, ?_⟩
    rw [in_nW]
    by_cases hm : first ∈ wy (L - 1) (srcE us first)
    · refine if_t (by rw [decide_eq_true hm]; rfl) ?_
      refine ⟨_, rfl, (by show 1 ≤ sizeLine; decide), fun u hu => ?_⟩
      have s1 := same_upd (o := .tup [.int (first : Int)]) hu
      have eu : upd H u (.tup [.int (first : Int)]) u = some (.tup (nW [first])) := upd_same
      have hW0 : ∀ Wt, upd H u (.tup [.int (first : Int)]) Wt = none → H Wt = none := fun Wt h => by
        by_cases e : Wt = u
        · rw [e]; exact hu
        · rw [upd_ne e] at h; exact h
      generalize upd H u (.tup [.int (first : Int)]) = H1 at *
      refine ⟨(by show 1 ≤ sizeLine; decide), fun Wt hW => ?_⟩
      have uW : u ≠ Wt := ne_of_none eu hW
      refine wk_while (as := [u]) (st := [[first]]) eE m24 wW wlt wle L40 room q (s1.trans (same_upd hW)) (hW0 _ hW) upd_same ⟨by rw [upd_ne uW]; exact eu, True.intro⟩ (fun z hz => ?_) ⟨Nat.zero_le _, True.intro⟩ ?_
      · rw [List.mem_singleton.mp hz]
        exact ⟨by simp, L1, fun x hx => by rw [List.mem_singleton.mp hx]; exact fl⟩
      · unfold walksL
        rw [if_pos hm]
    · refine if_f (by rw [decide_eq_false hm]; rfl) ?_
      refine ⟨Nat.zero_le _, fun Wt hW => ?_⟩
      refine wk_while (as := []) (st := []) eE m24 wW wlt wle L40 room q (same_upd hW) hW upd_same True.intro (fun z hz => absurd hz List.not_mem_nil) True.intro ?_
      unfold walksL
      rw [if_neg hm]
      rfl
end
end Lw
end
section
set_option Elab.async false
set_option linter.all false
set_option maxRecDepth 100000
/-! a < b < c < d as a test; a property by its getter -/
namespace Lw
open PySem PySem.Spec PyProof.Rows L2
def tChain3 (r1 r2 r3 : R2) (ta tb tc td : TE) : TT := fun σ H Q => ta σ H fun x H1 => tb σ H1 fun y H2 => r1 x y H2 fun z H3 => ∃ k, z = .bl k ∧ (if k = true then
  tc σ H3 fun u H4 => r2 y u H4 fun z2 H5 => ∃ k2, z2 = .bl k2 ∧ (if k2 = true then td σ H5 fun v H6 => r3 u v H6 fun z3 H7 => ∃ k3, z3 = .bl k3 ∧ Q k3 H7 else Q false H5) else Q false H3)
section
variable {X : Cx}
theorem pt_chain3 {a b c d : Expr} {ta tb tc td : TE} {pos : Pos} {o1 o2 o3 : CmpOp} {r1 r2 r3 : R2} (h1 : OpR X (compareOp o1) r1) (h2 : OpR X (compareOp o2) r2) (h3 : OpR X (compareOp o3) r3) (ha : PE X a ta) (hb : PE X b tb) (hc : PE X c tc) (hd : PE X d td)
    (hm : lastMarks [o1, o2, o3] [b, c, d] = false := by with_unfolding_all rfl) : PT X (.Compare a [o1, o2, o3] [b, c, d] pos) (tChain3 r1 r2 r3 ta tb tc td) := by
  constructor
  intro pins t σ H Q I h
  refine isTrue_chain (wpAny_mono (ha.run pins t σ H _ I h) ?_ fun _ _ z => z) hm
  rintro va t1 ⟨x, H1, I1, ra, q1⟩
  refine test_link (wpAny_mono (hb.run pins t1 σ H1 _ I1 q1) ?_ fun _ _ z => z)
  rintro vb t2 ⟨y, H2, I2, rb, q2⟩
  refine wpAny_mono (h1 pins t2 σ H2 x y va vb _ I2 ra rb q2) ?_ fun _ _ z => z
  rintro e1 t3 ⟨_, H3, I3, re1, k1, rfl, q3⟩
  cases re1
  refine wpAny_truthy_bool ?_
  cases k1 with
  | false => exact ite_ff ⟨H3, I3, q3⟩
  | true =>
    refine ite_tt (test_link (wpAny_mono (hc.run pins t3 σ H3 _ I3 q3) ?_ fun _ _ z => z))
    rintro vc t4 ⟨u, H4, I4, rc, q4⟩
    refine wpAny_mono (h2 pins t4 σ H4 y u vb vc _ I4 rb rc q4) ?_ fun _ _ z => z
    rintro e2 t5 ⟨_, H5, I5, re2, k2, rfl, q5⟩
    cases re2
    refine wpAny_truthy_bool ?_
    cases k2 with
    | false => exact ite_ff ⟨H5, I5, q5⟩
    | true =>
      refine ite_tt (test_last (wpAny_mono (hd.run pins t5 σ H5 _ I5 q5) ?_ fun _ _ z => z))
      rintro vd t6 ⟨v, H6, I6, rd, q6⟩
      refine wpAny_mono (h3 pins t6 σ H6 u v vc vd _ I6 rc rd q6) ?_ fun _ _ z => z
      rintro e3 t7 ⟨_, H7, I7, re3, k3, rfl, q7⟩
      cases re3
      exact wpAny_truthy_bool ⟨H7, I7, q7⟩
end
/-- a property -/
structure Prp (P : Program) (w : World) (K : PySem.W.Frag) (mg : Str → Option Value) (base : Heap) (k : Nat) (C : Addr) (f : Str) (sp : Sp) : Prop where
  ex : ∃ (p g : Addr) (fd : FuncData), Cls K C ∧ PropOf K C f p g ∧ FnOk P w K mg base CX0 k g fd ["self"] sp ∧ Binds K fd ["self"] []
theorem pe_pr {X : Cx} {k j : Nat} {C : Addr} {f : Str} {sp : Sp} {e : Expr} {ta : TE} {pos : Pos} (h : Prp X.prog X.w X.K X.mg X.base k C f sp) (hr : Room j X.A) (hk : k + 1 ≤ j) (he : PE X e ta) (hab : attributeBase e f X.env (eval e X.env) = eval e X.env := by rfl) : PE X (.Attribute e f pos) (tProp C sp [] E0 ta) := by
  obtain ⟨p, g, fd, c, hp, F, b⟩ := h.ex
  exact pe_prop he c hp F (hr.mono hk) b .nil pass0 hab
end Lw
end
section
set_option Elab.async false
set_option linter.all false
set_option maxRecDepth 100000
/-! paths: the generator. -/
namespace Lw
open PySem L2 Sf PyProof.Rows GenW
abbrev sPaths : Stmt := top 17
abbrev NPaths : List Str := ["graph", "length", "edges", "ways", "first"]
def spLenIn : Sp := fun vs H Q _ => ∃ e lim : Int, vs = [.int e, .int lim] ∧ 1 ≤ e ∧ e ≤ lim ∧ Q .non H
/-- more edges can be had behind s -/
def hopF (us : Es) (ends : List Nat) : Nat → Nat → Bool
  | 0, s => decide (s ∈ ends)
  | r + 1, s => !((List.range us.length).filter fun e => srcE us e == s && hopF us ends r (tgtE us e)).isEmpty
def wyF (us : Es) (ends : List Nat) (r s : Nat) : List Nat := (List.range us.length).filter fun e => srcE us e == s && hopF us ends r (tgtE us e)
theorem wyF_lt {us : Es} {ends : List Nat} {r s x : Nat} (h : x ∈ wyF us ends r s) : x < us.length := List.mem_range.mp (List.mem_filter.mp h).1
theorem wyF_len (us : Es) (ends : List Nat) (r s : Nat) : (wyF us ends r s).length ≤ us.length := by
  have := List.length_filter_le (fun e => srcE us e == s && hopF us ends r (tgtE us e)) (List.range us.length)
  unfold wyF
  simpa using this
/-- a graph of n states, its edges in bounds -/
structure GrN (C : Addr) (H : Hp) (g : Addr) (n : Nat) (us : Es) : Prop where
  gr : GraphAt C H g (n : Int) us
  n1 : 1 ≤ n
  n8 : n ≤ 8
  m24 : us.length ≤ 24
  rg : ∀ e ∈ us, 0 ≤ e.2.1 ∧ e.2.1 < n ∧ 0 ≤ e.2.2 ∧ e.2.2 < n
theorem GrN.same {C : Addr} {H H' : Hp} {g : Addr} {n : Nat} {us : Es} (h : GrN C H g n us) (s : Same H H') : GrN C H' g n us := by
  obtain ⟨⟨⟨dx, t, h1, h2⟩, ed⟩, a, b, c, d⟩ := h
  exact ⟨⟨⟨dx, t, s _ _ h1, s _ _ h2⟩, fun e he => s _ _ (ed e he)⟩, a, b, c, d⟩
/-- the table, all of it new since H0 -/
structure WaysN (H0 H : Hp) (wa : Addr) (L n : Nat) (wy : Nat → Nat → List Nat) : Prop where
  ex : H0 wa = none ∧ ∃ rs : List Addr, H wa = some (.lst (rs.map V.ref)) ∧ rs.length = L ∧ ∀ (r : Nat) (a : Addr), rs[r]? = some a → H0 a = none ∧ ∃ qs : List Addr, H a = some (.lst (qs.map V.ref)) ∧ qs.length = n ∧ ∀ (s : Nat) (b : Addr), qs[s]? = some b → H0 b = none ∧ H b = some (.lst (nW (wy r s)))
theorem WaysN.at {H0 H : Hp} {wa : Addr} {L n : Nat} {wy : Nat → Nat → List Nat} (h : WaysN H0 H wa L n wy) : WaysAt H wa L n wy := by
  obtain ⟨_, rs, h1, h2, h3⟩ := h.ex
  refine ⟨rs, h1, h2, fun r a e => ?_⟩
  obtain ⟨_, qs, g1, g2, g3⟩ := h3 r a e
  exact ⟨qs, g1, g2, fun s b eb => (g3 s b eb).2⟩
/-- what was there before may change -/
theorem WaysN.off {H0 H : Hp} {wa W : Addr} {o o' : HO} {L n : Nat} {wy : Nat → Nat → List Nat} (h : WaysN H0 H wa L n wy) (hW : H0 W = some o') : WaysAt (upd H W o) wa L n wy := by
  have ne : ∀ {b}, H0 b = none → b ≠ W := fun hb => (ne_of_none hW hb).symm
  obtain ⟨nw, rs, h1, h2, h3⟩ := h.ex
  refine ⟨rs, by rw [upd_ne (ne nw)]; exact h1, h2, fun r a e => ?_⟩
  obtain ⟨na, qs, g1, g2, g3⟩ := h3 r a e
  refine ⟨qs, by rw [upd_ne (ne na)]; exact g1, g2, fun s b eb => ?_⟩
  obtain ⟨nb, g4⟩ := g3 s b eb
  rw [upd_ne (ne nb)]; exact g4
def spWaysTo (C : Addr) : Sp := fun vs H Q _ => ∃ (g en : Addr) (n : Nat) (us : Es) (L : Nat) (ends : List Nat), vs = [.ref g, .int (L : Int), .ref en] ∧ GrN C H g n us ∧ H en = some (.lst (nW ends)) ∧ 1 ≤ L ∧ L ≤ 40 ∧ ∀ wa H', Same H H' → WaysN H H' wa L n (wyF us ends) → Q (.ref wa) H'
/-- all paths, ascending -/
def pathsTo (us : Es) (ends : List Nat) (L m : Nat) : List (List Nat) := (List.range m).flatMap fun first => walksL (wyF us ends) (srcE us) (tgtE us) L first
theorem pathsTo_succ (us : Es) (ends : List Nat) (L m : Nat) : pathsTo us ends L (m + 1) = pathsTo us ends L m ++ walksL (wyF us ends) (srcE us) (tgtE us) L m := by
  unfold pathsTo
  rw [List.range_succ, List.flatMap_append]
  simp
theorem pathsTo_le (us : Es) (ends : List Nat) (L : Nat) : ∀ {i m : Nat}, i ≤ m → (pathsTo us ends L i).length ≤ (pathsTo us ends L m).length := by
  intro i m h
  induction m with
  | zero => rw [Nat.le_zero.mp h]; exact Nat.le_refl _
  | succ m ih =>
    by_cases e : i = m + 1
    · rw [e]; exact Nat.le_refl _
    · rw [pathsTo_succ, List.length_append]
      exact Nat.le_trans (ih (by omega)) (Nat.le_add_right _ _)
def spPaths (C : Addr) : SpGS := fun pl vs H Q => ∃ (g : Addr) (n : Nat) (us : Es) (L : Nat), vs = [.ref g, .int (L : Int)] ∧ GrN C H g n us ∧ 1 ≤ L ∧ L ≤ 40 ∧ pl + (pathsTo us (List.range n) L us.length).length ≤ sizeLine ∧
  ∀ (H' : Hp) (as : List Addr), Same H H' → TW H' as (pathsTo us (List.range n) L us.length) → Q (as.map V.ref) H'
theorem scPaths : GScope NPaths ["graph", "length"] (defScope sPaths) := ⟨rfl, rfl, rfl, by decide +kernel, rfl, by decide +kernel, by decide +kernel⟩
/-- a generator def that can be called by its name -/
def CalG (P : Program) (w : World) (K : PySem.W.Frag) (mg : Str → Option Value) (base : Heap) (k : Nat) (mk : Prop) (name : Str) (sp : SpGS) : Prop := ∃ f fd ps, GFnS P w K mg base k mk f fd ps sp ∧ mg name = some (.ref f) ∧ PySem.W.keepIn K (.ref f) = true ∧ Binds K fd ps []
section
variable {J : It} {n : Nat} {G : Hp → Prop} {Y : Nat → Hp → V → Hp → Prop}
/-- a for over it in a generator's body -/
theorem gfor_it (wk : Walk J n G Y) {g : TG} {tb : TGn} {D : GEnds} {ys : List V} {σ : L2.St} {H : Hp} (Pv : Nat → List V → L2.St → Hp → Prop) (h0 : Pv 0 ys σ H) (hG : ∀ i ys σ H, i ≤ n → Pv i ys σ H → G H)
    (hs : ∀ i x ys σ H H', i < n → Pv i ys σ H → Y i H x H' → g x σ H' fun σ2 H2 => tb { D with nx := Pv (i + 1), ct := Pv (i + 1), bk := D.nx } ys σ2 H2) (hd : ∀ ys σ H, Pv n ys σ H → D.nx ys σ H) :
    ∃ W : Nat → Nat → List V → L2.St → Hp → Prop, (∃ m, W 0 m ys σ H) ∧ ∀ i m ys σ H, W i m ys σ H →
      (J.stop i H ∧ D.nx ys σ H) ∨ (J.go i H ∧ ∃ N : List V → L2.St → Hp → Prop, (∀ ys' σ' H', N ys' σ' H' → ∃ m', m' < m ∧ W (i + 1) m' ys' σ' H') ∧ ∀ x H', J.yld i H x H' → g x σ H' fun σ2 H2 => tb { D with nx := N, ct := N, bk := D.nx } ys σ2 H2) := by
  refine ⟨fun i m ys σ H => m + i = n ∧ Pv i ys σ H, ⟨n, rfl, h0⟩, fun i m ys σ H ⟨hm, p⟩ => ?_⟩
  have q := hG i ys σ H (by omega) p
  rcases Nat.lt_or_ge i n with hlt | hge
  · exact .inr ⟨wk.goes i H hlt q, Pv (i + 1), fun ys' σ' H' p' => ⟨m - 1, by omega, by omega, p'⟩, fun x H' y => hs i x ys σ H H' hlt p (wk.yields i H x H' hlt q y)⟩
  · obtain rfl : i = n := by omega
    exact .inl ⟨wk.stops H q, hd ys σ H p⟩
end
end Lw
end
section
set_option Elab.async false
set_option linter.all false
set_option maxRecDepth 100000
/-! ways_to: its promise. -/
namespace Lw
open PySem L2
abbrev sWaysTo : Stmt := top 15
abbrev NWt : List Str := ["graph", "length", "ends", "edges", "leaving", "hopeful", "ways", "more", "state", "numbers", "number"]
abbrev scWt1 : Scope := { kind := .function, names := [(".0", .local), ("numbers", .local), ("edges", .cell), ("hopeful", .cell)], isGenerator := false, isCoroutine := false }
/-- the edges that leave a state -/
def lvF (us : Es) (s : Nat) : List Nat := (List.range us.length).filter fun e => srcE us e == s
def spLv (C : Addr) : Sp := fun vs H Q _ => ∃ (g : Addr) (n : Nat) (us : Es) (i : Nat), vs = [.ref g, .int (i : Int)] ∧ GrN C H g n us ∧ i < n ∧ ∀ p H', Same H H' → H p = none → H' p = some (.lst (nW (lvF us i))) → Q (.ref p) H'
abbrev tHop (K : PySem.W.Frag) : TT := tB (tOp (rIxL K) (tVar 5) (tOp (rIxT K) (tOp (rIxL K) (tVar 3) (tVar 10)) (tC (.int 1))))
abbrev tRowW (K : PySem.W.Frag) : TE := tLc (iSeqA K (tVar 9)) (gName 10) (tHop K) (tVar 10) [10]
abbrev tGt0 (K : PySem.W.Frag) (i : Nat) : TE := tOp (rI0 fun i j => .bl (decide (j < i))) (tCB (fun xs H Q => ∃ (p : Addr) (ys : List V), xs = [V.ref p] ∧ (SqL K H p ys ∨ SqT K H p ys) ∧ Q (V.int ys.length) H) (tCons (tVar i) tNil)) (tC (.int 0))
theorem wyF_lv (us : Es) (ends : List Nat) (r s : Nat) : (lvF us s).filter (fun e => hopF us ends r (tgtE us e)) = wyF us ends r s := by
  unfold lvF wyF
  rw [List.filter_filter]
  congr 1
  funext e
  rw [Bool.and_comm]
theorem hopF_succ (us : Es) (ends : List Nat) (r s : Nat) : hopF us ends (r + 1) s = !(wyF us ends r s).isEmpty := rfl
theorem lvF_lt {us : Es} {s x : Nat} (h : x ∈ lvF us s) : x < us.length := List.mem_range.mp (List.mem_filter.mp h).1
theorem lvF_len (us : Es) (s : Nat) : (lvF us s).length ≤ us.length := by
  have := List.length_filter_le (fun e => srcE us e == s) (List.range us.length)
  unfold lvF
  simpa using this
theorem gt0_len {α : Type} (xs : List α) : decide ((0 : Int) < (xs.length : Int)) = !xs.isEmpty := by
  cases xs with
  | nil => rfl
  | cons a r =>
    rw [List.length_cons]
    exact decide_eq_true (by omega)
section
variable {P : Program} {w : World} {K : PySem.W.Frag} {mg : Str → Option Value} {base : Heap} {f : Addr} {fd : FuncData} {k : Nat} {C : Addr}
theorem scWt : FnScope NWt ["graph", "length", "ends"] (defScope sWaysTo) := ⟨rfl, rfl, rfl, by decide +kernel, rfl, by decide +kernel, by decide +kernel⟩
set_option maxHeartbeats 8000000 in
theorem ok_waysTo (F : Fun K "ways_to" "ways_to" sWaysTo f fd) (T : Bi mg) (mE : C8.Met P w K mg base 1 C "edges" (spEdges C) []) (pS : Prp P w K mg base 1 C "states" (spStates C)) (mL : C8.Met P w K mg base 2 C "leaving" (spLv C) []) : FnOk P w K mg base CX0 (k + 3) f fd ["graph", "length", "ends"] (spWaysTo C) := by
  refine F.ok scWt (fun vs H Q E h => ?_) (fun cdv A outer s H vs Q E hr h => ?_)
  · obtain ⟨g, en, n, us, L, ends, rfl, _⟩ := h
    rfl
  · obtain ⟨g, en, n, us, L, ends, rfl, G, eN, L1, L40, q⟩ := h
    refine ⟨_, pss_cons (ps_set (i := 3) scWt.nd rfl (.inr rfl) (C8.pe_mt0 mE hr (by omega) (pv 0)))
      (pss_cons (ps_setLc (i := 4) (own := [("state", 8)]) (g := gName 8) (tt := tYes) (te := tMeth C "leaving" (spLv C) [] C8.E0 (tVar 0) (tCons (tVar 8) tNil)) rfl scWt.nd rfl rfl (sw_true rfl rfl rfl (by decide +kernel)) (pi_range1 (by rfl) T.range (pa_cons (pe_pr pS hr (by omega) (pv 0)) pa_nil)) (blkOk_by (N := NWt) (sc := defScope sWaysTo) (by decide +kernel))
        (fun _ _ _ _ _ => by exact pg_name (i := 8) scWt.nd rfl (Or.inl rfl)) (fun _ _ _ _ _ => pts_nil) (fun _ _ _ _ _ => by exact C8.pe_mt mL hr (by omega) (pv 0) (pa_cons (pv 8) pa_nil)))
      (pss_cons (ps_set (i := 5) scWt.nd rfl (.inr rfl) (pe_lc (own := [("state", 8)]) (g := gName 8) (tt := tYes) (te := tOp (rIn K false) (tVar 8) (tVar 2)) rfl scWt.nd (pi_range1 (by rfl) T.range (pa_cons (pe_pr pS hr (by omega) (pv 0)) pa_nil)) (blkOk_by (N := NWt) (sc := defScope sWaysTo) (by decide +kernel))
        (fun _ _ _ _ _ => by exact pg_name (i := 8) scWt.nd rfl (Or.inl rfl)) (fun _ _ _ _ _ => pts_nil) (fun _ _ _ _ _ => by exact pe_cmpR op_in_seq (pv 8) (pv 2) (by rfl))))
      (pss_cons (ps_set (i := 6) scWt.nd rfl (.inl rfl) (pe_lst pa_nil))
      (pss_cons (ps_for PassesOwn.never rfl (pi_range1 (by rfl) T.range (pa_cons (pv 1) pa_nil)) (pg_name (i := 7) scWt.nd rfl (.inl rfl))
        (pss_cons (ps_expr (pe_bm PySem.F.plainAttrs_list PySem.F.slot_list_append PySem.F.type_list_append mt_append (pv 6) (pa_cons
          (pe_lc (own := [("numbers", 9)]) (g := gName 9) (tt := tYes) (te := tRowW K) rfl scWt.nd (pi_seqA (pv 4)) (blkOk_by (N := NWt) (sc := defScope sWaysTo) (by decide +kernel))
            (fun _ _ _ _ _ => by exact pg_name (i := 9) scWt.nd rfl (Or.inl rfl)) (fun _ _ _ _ _ => pts_nil)
            (fun _ _ _ _ _ => by exact (pe_lc (own := [("number", 10)]) (g := gName 10) (tt := tHop K) (te := tVar 10) rfl scWt.nd (pi_seqA (pv 9)) (blkOk_by (N := NWt) (sc := scWt1) (by decide +kernel))
              (fun _ _ _ _ _ => by exact pg_name (i := 10) scWt.nd rfl (Or.inl rfl)) (fun _ _ _ _ _ => by exact pts_one (pt_val (pe_ix ix_list (pv 5) (pe_ix ix_tup (pe_ix ix_list (pv 3) (pv 10) (fun _ _ => rfl)) pe_int (fun _ _ => rfl)) (fun _ _ => rfl))))
              (fun _ _ _ _ _ => by exact pv 10)))) pa_nil)))
        (pss_one (ps_set (i := 5) scWt.nd rfl (.inr rfl) (pe_lc (own := [("numbers", 9)]) (g := gName 9) (tt := tYes) (te := tGt0 K 9) rfl scWt.nd (pi_seqA (pe_ix ix_list (pv 6) (pv 7) (fun _ _ => rfl))) (blkOk_by (N := NWt) (sc := defScope sWaysTo) (by decide +kernel))
          (fun _ _ _ _ _ => by exact pg_name (i := 9) scWt.nd rfl (Or.inl rfl)) (fun _ _ _ _ _ => pts_nil) (fun _ _ _ _ _ => by exact pe_cmpR op_gt (pe_callB call_len_seq (by rfl) T.len PySem.boot_len (pa_cons (pv 9) pa_nil)) pe_int (nomark _)))))))
      (pss_one (ps_ret (pv 6))))))), ?_⟩
    obtain ⟨⟨dx, t0, h1, h2⟩, ed⟩ := id G.gr
    have n8 := G.n8
    have m24 := G.m24
    refine ⟨_, rfl, g, dx, _, rfl, h1, look_no _ _ (by decide +kernel) (by decide +kernel), g, n, us, rfl, G.gr, fun p hp => ?_⟩
    have s1 := same_upd (o := .lst (vsOf us)) hp
    have e1 : upd H p (.lst (vsOf us)) p = some (.lst (vsOf us)) := upd_same
    generalize upd H p (.lst (vsOf us)) = H1 at *
    have G1 := G.same s1
    have h1 := s1 _ _ h1
    have eN := s1 _ _ eN
    refine ⟨_, rfl, g, dx, _, rfl, h1, g, n, us, rfl, G1.gr, _, rfl, by omega, by omega, fun LV hLV => ?_⟩
    refine lc_it (walk_range (lo := 0) (n := ((n : Nat) : Int).toNat)) (fun i H' => ∃ qs : List Addr, Same H1 H' ∧ H' LV = some (.lst (qs.map V.ref)) ∧ qs.length = i ∧ ∀ (s : Nat) (b : Addr), qs[s]? = some b → b ≠ LV ∧ H' b = some (.lst (nW (lvF us s)))) ⟨[], same_upd hLV, upd_same, rfl, fun s b e => by simp at e⟩ (fun _ _ _ _ => True.intro) ?_ ?_
    · rintro i x H2 H3 hi ⟨qs, s2, e2, ql, qv⟩ ⟨rfl, hx⟩
      have hx : x = .int (i : Int) := by
        rw [hx]
        show V.int (0 + (i : Int)) = _
        rw [Int.zero_add]
      subst hx
      have hi : i < n := by omega
      refine ⟨rfl, ?_⟩
      refine ⟨_, rfl, g, dx, _, rfl, s2 _ _ h1, look_no _ _ (by decide +kernel) (by decide +kernel), _, rfl, g, n, us, i, rfl, G1.same s2, hi, fun b H4 s4 nb eb => ?_⟩
      have bL : b ≠ LV := (ne_of_none e2 nb).symm
      refine ⟨_, s4 _ _ e2, by rw [List.length_map, ql]; exact small1000 (by omega), qs ++ [b], fun c o e => ?_, ?_, by rw [List.length_append, ql]; rfl, fun s c e => ?_⟩
      · rw [upd_ne (ne_of_none e hLV)]
        exact s4 _ _ (s2 _ _ e)
      · rw [upd_same, List.map_append]; rfl
      · by_cases hs : s < qs.length
        · rw [List.getElem?_append_left hs] at e
          obtain ⟨v1, v2⟩ := qv s c e
          exact ⟨v1, by rw [upd_ne v1]; exact s4 _ _ v2⟩
        · rw [List.getElem?_append_right (by omega)] at e
          have h0 : s = qs.length := by
            have := (List.getElem?_eq_some_iff.mp e).1
            simp at this
            omega
          subst h0
          rw [Nat.sub_self] at e
          cases e
          exact ⟨bL, by rw [upd_ne bL, ql]; exact eb⟩
    rintro H2 ⟨lq, s2, eLV, lql, lqv⟩
    rw [Int.toNat_natCast] at lql
    refine ⟨_, rfl, g, dx, _, rfl, s2 _ _ h1, g, n, us, rfl, (G1.same s2).gr, _, rfl, by omega, by omega, fun HP hHP => ?_⟩
    refine lc_it (walk_range (lo := 0) (n := ((n : Nat) : Int).toNat)) (fun i H' => Same H2 H' ∧ H' HP = some (.lst ((List.range i).map fun s => V.bl (hopF us ends 0 s)))) ⟨same_upd hHP, upd_same⟩ (fun _ _ _ _ => True.intro) ?_ ?_
    · rintro i x H3 H4 hi ⟨s3, e3⟩ ⟨rfl, hx⟩
      have hx : x = .int (i : Int) := by
        rw [hx]
        show V.int (0 + (i : Int)) = _
        rw [Int.zero_add]
      subst hx
      have hi : i < n := by omega
      refine ⟨rfl, ?_⟩
      refine ⟨_, rfl, _, rfl, en, _, rfl, .inl (SqL.of (s3 _ _ (s2 _ _ eN))), rfl, flat_nW _, _, e3, ?_, ?_, ?_⟩
      · rw [List.length_map, List.length_range]
        exact small1000 (by omega)
      · exact fun c o e => by
          rw [upd_ne (ne_of_none e hHP)]
          exact s3 _ _ e
      · rw [upd_same, List.range_succ, List.map_append]
        show some (HO.lst (_ ++ [V.bl (inV (.int (i : Int)) (nW ends))])) = _
        rw [in_nW]
        rfl
    rintro H3 ⟨s3, eHP⟩
    rw [Int.toNat_natCast] at eHP
    refine ⟨Nat.zero_le _, fun WA hWA => ?_⟩
    have hpW : HP ≠ WA := ne_of_none eHP hWA
    refine ⟨_, rfl, _, rfl, by omega, by omega, ?_⟩
    rw [Int.toNat_natCast]
    refine for_it walk_range (fun i σ H' => ∃ (v7 : Option V) (HQ : Addr) (rs : List Addr), σ = [some (.ref g), some (.int (L : Int)), some (.ref en), some (.ref p), some (.ref LV), some (.ref HQ), some (.ref WA), v7, none, none, none] ∧ Same H3 H' ∧ H' WA = some (.lst (rs.map V.ref)) ∧ rs.length = i ∧
      (∀ (r : Nat) (a : Addr), rs[r]? = some a → (a ≠ WA ∧ H a = none) ∧ ∃ qs : List Addr, H' a = some (.lst (qs.map V.ref)) ∧ qs.length = n ∧ ∀ (s : Nat) (b : Addr), qs[s]? = some b → (b ≠ WA ∧ H b = none) ∧ H' b = some (.lst (nW (wyF us ends r s)))) ∧ HQ ≠ WA ∧ H' HQ = some (.lst ((List.range n).map fun s => V.bl (hopF us ends i s))))
      ⟨none, HP, [], rfl, same_upd hWA, upd_same, rfl, fun r a e => by simp at e, hpW, by rw [upd_ne hpW]; exact eHP⟩ (fun _ _ _ _ _ => True.intro) ?_ ?_
    · rintro i x σ H4 H5 hi ⟨v7, HQ, rs, rfl, s4, eW, rl, rv, hqW, eHQ⟩ ⟨rfl, hx⟩
      have hx : x = .int (i : Int) := by
        rw [hx]
        show V.int (0 + (i : Int)) = _
        rw [Int.zero_add]
      subst hx
      have sH := s1.trans (s2.trans (s3.trans s4))
      have eP := s4 _ _ (s3 _ _ (s2 _ _ e1))
      have eLV := s4 _ _ (s3 _ _ eLV)
      have lqv : ∀ (s : Nat) (b : Addr), lq[s]? = some b → H5 b = some (.lst (nW (lvF us s))) := fun s b e => s4 _ _ (s3 _ _ (lqv s b e).2)
      have eE : EdL H5 p n us := ⟨eP, (G.same sH).gr.ed, G.rg⟩
      refine ⟨_, rfl, .inl ⟨rfl, _, SqL.of eW⟩, _, rfl, LV, _, SqL, rfl, .inl rfl, SqL.of eLV, fun J w D hD => ?_⟩
      have hDW : D ≠ WA := (ne_of_none eW hD).symm
      refine lc_it w (fun j H' => ∃ qs : List Addr, Same H5 H' ∧ H' D = some (.lst (qs.map V.ref)) ∧ qs.length = j ∧ ∀ (s : Nat) (b : Addr), qs[s]? = some b → (b ≠ WA ∧ H b = none) ∧ b ≠ D ∧ H' b = some (.lst (nW (wyF us ends i s)))) ⟨[], same_upd hD, upd_same, rfl, fun s b e => by simp at e⟩ (fun j H' _ pp => by obtain ⟨_, z, _⟩ := pp; exact SqL.of (z _ _ eLV)) ?_ ?_
      · rintro j x H6 H7 hj ⟨qs, s6, eD, ql, qv⟩ ⟨rfl, gx⟩
        rw [List.length_map, lql] at hj
        obtain ⟨b0, hb0⟩ : ∃ b, lq[j]? = some b := ⟨_, List.getElem?_eq_getElem (by omega)⟩
        rw [List.getElem?_map, hb0] at gx
        cases gx
        have eb0 := s6 _ _ (lqv j b0 hb0)
        refine ⟨rfl, ?_⟩
        refine ⟨_, rfl, b0, _, SqL, rfl, .inl rfl, SqL.of eb0, fun J2 w2 R hR => ?_⟩
        have hRD : R ≠ D := (ne_of_none eD hR).symm
        have hRW : R ≠ WA := (ne_of_none (s6 _ _ eW) hR).symm
        refine lc_it w2 (fun k H' => Same H7 H' ∧ H' R = some (.lst (nW (((lvF us j).take k).filter fun e => hopF us ends i (tgtE us e))))) ⟨same_upd hR, by rw [List.take_zero]; exact upd_same⟩ (fun k H' _ pp => SqL.of (pp.1 _ _ eb0)) ?_ ?_
        · rintro k x H8 H9 hk ⟨s8, eR⟩ ⟨rfl, gx⟩
          rw [nW_len] at hk
          rw [nW_at hk] at gx
          cases gx
          have tk : (lvF us j).take (k + 1) = (lvF us j).take k ++ [(lvF us j).getD k 0] := by
            rw [List.take_add_one, List.getElem?_eq_getElem hk]
            simp [List.getD, hk]
          have em : (lvF us j).getD k 0 < us.length := by
            have : (lvF us j).getD k 0 ∈ lvF us j := by simp [List.getD, hk]
            exact lvF_lt this
          have bnd : (((lvF us j).take k).filter fun e => hopF us ends i (tgtE us e)).length ≤ 24 := by
            have z1 := List.length_filter_le (fun e => hopF us ends i (tgtE us e)) ((lvF us j).take k)
            have z2 := lvF_len us j
            rw [List.length_take] at z1
            omega
          rw [tk]
          generalize (lvF us j).getD k 0 = e0 at *
          have ss := s6.trans s8
          obtain ⟨t, at2, et, hs, ht⟩ := (eE.same ss).read em
          refine ⟨rfl, ?_⟩
          refine ⟨_, rfl, _, rfl, _, rfl, p, _, _, _, rfl, rfl, SqL.of (ss _ _ eP), at2, t, _, 1, _, rfl, rfl, SqT.of et, rfl, HQ, _, _, .bl (hopF us ends i (tgtE us e0)), rfl, rfl, SqL.of (ss _ _ eHQ), atI_nat (by rw [List.getElem?_map, List.getElem?_range ht]; rfl), _, rfl, ?_⟩
          by_cases hp : hopF us ends i (tgtE us e0) = true
          · refine if_t hp ⟨_, rfl, _, eR, ?_, ?_, ?_⟩
            · rw [nW_len]; exact small1000 (by omega)
            · exact fun c o e => by
                rw [upd_ne (ne_of_none e hR)]
                exact s8 _ _ e
            · rw [upd_same, List.filter_append, show [e0].filter (fun e => hopF us ends i (tgtE us e)) = [e0] by simp [hp], nW_snoc]
          · refine if_f (by simpa using hp) ⟨s8, ?_⟩
            rw [List.filter_append, show [e0].filter (fun e => hopF us ends i (tgtE us e)) = [] by simp [hp], List.append_nil]
            exact eR
        · rintro H8 ⟨s8, eR⟩
          rw [nW_len, List.take_length, wyF_lv] at eR
          refine ⟨_, s8 _ _ eD, by rw [List.length_map, ql]; exact small1000 (by omega), qs ++ [R], fun c o e => ?_, ?_, by rw [List.length_append, ql]; rfl, fun s c e => ?_⟩
          · rw [upd_ne (ne_of_none e hD)]
            exact s8 _ _ (s6 _ _ e)
          · rw [upd_same, List.map_append]; rfl
          · by_cases hs : s < qs.length
            · rw [List.getElem?_append_left hs] at e
              obtain ⟨y1, y2, y3⟩ := qv s c e
              exact ⟨y1, y2, by rw [upd_ne y2]; exact s8 _ _ y3⟩
            · rw [List.getElem?_append_right (by omega)] at e
              have h0 : s = qs.length := by
                have := (List.getElem?_eq_some_iff.mp e).1
                simp at this
                omega
              subst h0
              rw [Nat.sub_self] at e
              cases e
              exact ⟨⟨hRW, (sH.trans s6).free hR⟩, hRD, by rw [upd_ne hRD, ql]; exact eR⟩
      · rintro H6 ⟨qs, s6, eD, ql, qv⟩
        rw [List.length_map, lql] at ql
        refine ⟨WA, _, .ref D, rfl, rfl, s6 _ _ eW, by rw [List.length_map, rl]; exact small1000 (by omega), ?_⟩
        have eD : upd H6 WA (.lst (rs.map V.ref ++ [.ref D])) D = some (.lst (qs.map V.ref)) := by rw [upd_ne hDW]; exact eD
        have qv : ∀ (s : Nat) (b : Addr), qs[s]? = some b → (b ≠ WA ∧ H b = none) ∧ upd H6 WA (.lst (rs.map V.ref ++ [.ref D])) b = some (.lst (nW (wyF us ends i s))) := fun s b e => by
          obtain ⟨y1, _, y3⟩ := qv s b e
          exact ⟨y1, by rw [upd_ne y1.1]; exact y3⟩
        have rv : ∀ (r : Nat) (a : Addr), rs[r]? = some a → (a ≠ WA ∧ H a = none) ∧ ∃ qs : List Addr, upd H6 WA (.lst (rs.map V.ref ++ [.ref D])) a = some (.lst (qs.map V.ref)) ∧ qs.length = n ∧ ∀ (s : Nat) (b : Addr), qs[s]? = some b → (b ≠ WA ∧ H b = none) ∧ upd H6 WA (.lst (rs.map V.ref ++ [.ref D])) b = some (.lst (nW (wyF us ends r s))) := fun r a e => by
          obtain ⟨y1, qs', y2, y3, y4⟩ := rv r a e
          refine ⟨y1, qs', by rw [upd_ne y1.1]; exact s6 _ _ y2, y3, fun s b eb => ?_⟩
          obtain ⟨y5, y6⟩ := y4 s b eb
          exact ⟨y5, by rw [upd_ne y5.1]; exact s6 _ _ y6⟩
        have s7 : Same H3 (upd H6 WA (.lst (rs.map V.ref ++ [.ref D]))) := fun c o e => by
          rw [upd_ne (ne_of_none e hWA)]
          exact s6 _ _ (s4 _ _ e)
        have eW : upd H6 WA (.lst (rs.map V.ref ++ [.ref D])) WA = some (.lst ((rs ++ [D]).map V.ref)) := by rw [upd_same, List.map_append]; rfl
        generalize upd H6 WA (.lst (rs.map V.ref ++ [.ref D])) = H7 at *
        have atD : (rs ++ [D])[i]? = some D := by rw [← rl]; exact List.getElem?_concat_length
        refine ⟨_, rfl, _, rfl, WA, _, _, .ref D, rfl, rfl, SqL.of eW, atI_nat (by rw [List.getElem?_map, atD]; rfl), D, _, SqL, rfl, .inl rfl, SqL.of eD, fun J w HN hHN => ?_⟩
        have hnW : HN ≠ WA := (ne_of_none eW hHN).symm
        refine lc_it w (fun j H' => Same H7 H' ∧ H' HN = some (.lst ((List.range j).map fun s => V.bl (hopF us ends (i + 1) s)))) ⟨same_upd hHN, upd_same⟩ (fun j H' _ pp => SqL.of (pp.1 _ _ eD)) ?_ ?_
        · rintro j x H8 H9 hj ⟨s8, e8⟩ ⟨rfl, gx⟩
          rw [List.length_map, ql] at hj
          obtain ⟨b0, hb0⟩ : ∃ b, qs[j]? = some b := ⟨_, List.getElem?_eq_getElem (by omega)⟩
          rw [List.getElem?_map, hb0] at gx
          cases gx
          have eb0 := s8 _ _ (qv j b0 hb0).2
          refine ⟨rfl, ?_⟩
          refine ⟨_, rfl, b0, _, rfl, .inl (SqL.of eb0), _, _, rfl, rfl, _, e8, ?_, ?_, ?_⟩
          · rw [List.length_map, List.length_range]
            exact small1000 (by omega)
          · exact fun c o e => by
              rw [upd_ne (ne_of_none e hHN)]
              exact s8 _ _ e
          · rw [upd_same, List.range_succ, List.map_append, nW_len]
            show some (HO.lst (_ ++ [V.bl (decide ((0 : Int) < ((wyF us ends i j).length : Int)))])) = _
            rw [gt0_len]
            rfl
        · rintro H8 ⟨s8, e8⟩
          rw [List.length_map, ql] at e8
          refine ⟨_, HN, rs ++ [D], rfl, s7.trans s8, s8 _ _ eW, by rw [List.length_append, rl]; rfl, fun r a e => ?_, hnW, e8⟩
          by_cases hs : r < rs.length
          · rw [List.getElem?_append_left hs] at e
            obtain ⟨y1, qs', y2, y3, y4⟩ := rv r a e
            exact ⟨y1, qs', s8 _ _ y2, y3, fun s b eb => ⟨(y4 s b eb).1, s8 _ _ (y4 s b eb).2⟩⟩
          · rw [List.getElem?_append_right (by omega)] at e
            have h0 : r = rs.length := by
              have := (List.getElem?_eq_some_iff.mp e).1
              simp at this
              omega
            subst h0
            rw [Nat.sub_self] at e
            cases e
            exact ⟨⟨hDW, sH.free hD⟩, qs, s8 _ _ eD, ql, fun s b eb => ⟨(qv s b eb).1, by rw [rl]; exact s8 _ _ (qv s b eb).2⟩⟩
    · rintro σ H4 ⟨v7, HQ, rs, rfl, s4, eW, rl, rv, _, _⟩
      refine ⟨_, rfl, q WA H4 (s1.trans (s2.trans (s3.trans s4))) ⟨(s1.trans (s2.trans s3)).free hWA, rs, eW, rl, fun r a e => ?_⟩⟩
      obtain ⟨⟨_, nA⟩, qs, x1, x2, x3⟩ := rv r a e
      exact ⟨nA, qs, x1, x2, fun s b eb => ⟨(x3 s b eb).1.2, (x3 s b eb).2⟩⟩
end
end Lw
end
section
set_option Elab.async false
set_option linter.all false
set_option maxRecDepth 100000
/-! paths gives all paths, ascending: the mathematics. -/
namespace Lw
open PySem L2
/-- one edge more behind a path -/
def extP (lv : Nat → List Nat) (tg : Nat → Nat) (q : List Nat) : List (List Nat) := (lv (tg (q.getLastD 0))).map fun m => q ++ [m]
/-- the paths by their lengths, as one reads them off: r + 1 edges -/
def levP (lv : Nat → List Nat) (tg : Nat → Nat) (m : Nat) : Nat → List (List Nat)
  | 0 => (List.range m).map fun e => [e]
  | r + 1 => (levP lv tg m r).flatMap (extP lv tg)
theorem wx_last (lv : Nat → List Nat) (tg : Nat → Nat) : ∀ (r : Nat) (p : List Nat), wx (fun _ => lv) tg (r + 1) p = (wx (fun _ => lv) tg r p).flatMap (extP lv tg)
  | 0, p => by
    show (lv (tg (p.getLastD 0))).flatMap (fun m => [p ++ [m]]) = [p].flatMap (extP lv tg)
    rw [List.flatMap_singleton]
    unfold extP
    generalize lv (tg (p.getLastD 0)) = xs
    induction xs with
    | nil => rfl
    | cons x xs ih => rw [List.flatMap_cons, ih]; rfl
  | r + 1, p => by
    show (lv (tg (p.getLastD 0))).flatMap (fun m => wx (fun _ => lv) tg (r + 1) (p ++ [m])) = ((lv (tg (p.getLastD 0))).flatMap fun m => wx (fun _ => lv) tg r (p ++ [m])).flatMap (extP lv tg)
    rw [List.flatMap_assoc]
    congr 1
    funext m
    exact wx_last lv tg r (p ++ [m])
theorem lev_wx (lv : Nat → List Nat) (tg : Nat → Nat) (m : Nat) : ∀ r, levP lv tg m r = (List.range m).flatMap fun e => wx (fun _ => lv) tg r [e]
  | 0 => by
    show (List.range m).map (fun e => [e]) = (List.range m).flatMap fun e => [[e]]
    generalize List.range m = xs
    induction xs with
    | nil => rfl
    | cons x xs ih => rw [List.flatMap_cons, ← ih]; rfl
  | r + 1 => by
    show (levP lv tg m r).flatMap (extP lv tg) = _
    rw [lev_wx lv tg m r, List.flatMap_assoc]
    congr 1
    funext e
    exact (wx_last lv tg r [e]).symm
/-- every state is left by an edge -/
structure Full (us : Es) (n : Nat) : Prop where
  lv : ∀ s, s < n → ∃ e, e < us.length ∧ srcE us e = s
  tg : ∀ e, e < us.length → tgtE us e < n
  sr : ∀ e, e < us.length → srcE us e < n
theorem hop_all {us : Es} {n : Nat} (F : Full us n) : ∀ (r s : Nat), s < n → hopF us (List.range n) r s = true
  | 0, s, h => decide_eq_true (List.mem_range.mpr h)
  | r + 1, s, h => by
    obtain ⟨e, he, hs⟩ := F.lv s h
    rw [hopF_succ]
    have m : e ∈ wyF us (List.range n) r s := List.mem_filter.mpr ⟨List.mem_range.mpr he, by rw [hs, hop_all F r _ (F.tg e he)]; simp⟩
    cases hw : wyF us (List.range n) r s with
    | nil => rw [hw] at m; cases m
    | cons => rfl
theorem wy_all {us : Es} {n : Nat} (F : Full us n) (r s : Nat) : wyF us (List.range n) r s = lvF us s := by
  unfold wyF lvF
  refine List.filter_congr fun e he => ?_
  rw [hop_all F r _ (F.tg e (List.mem_range.mp he)), Bool.and_true]
theorem flat_congr {α β : Type} {f g : α → List β} : ∀ {xs : List α}, (∀ x ∈ xs, f x = g x) → xs.flatMap f = xs.flatMap g
  | [], _ => rfl
  | x :: xs, h => by
    rw [List.flatMap_cons, List.flatMap_cons, h x List.mem_cons_self, flat_congr fun y hy => h y (List.mem_cons_of_mem _ hy)]
/-- paths hands out all paths, shortest extension last: ascending -/
theorem paths_all {us : Es} {n L : Nat} (F : Full us n) (h : 1 ≤ L) : pathsTo us (List.range n) L us.length = levP (lvF us) (tgtE us) us.length (L - 1) := by
  have ew : wyF us (List.range n) = fun _ => lvF us := funext fun r => funext fun s => wy_all F r s
  rw [lev_wx]
  unfold pathsTo
  rw [ew]
  refine flat_congr fun e he => ?_
  have he := List.mem_range.mp he
  have hm : e ∈ lvF us (srcE us e) := List.mem_filter.mpr ⟨List.mem_range.mpr he, by simp⟩
  unfold walksL
  refine (if_pos hm).trans ?_
  show List.flatMap _ [[e]] = _
  rw [List.flatMap_singleton]
  rfl
end Lw
end
section
set_option Elab.async false
set_option linter.all false
set_option maxRecDepth 100000
/-! codes: the mathematics of their windows. -/
namespace Lw
open PySem L2
/-- the windows of a width: all paths of so many edges, ascending -/
def win (us : Es) (L : Nat) : List (List Nat) := levP (lvF us) (tgtE us) us.length (L - 1)
/-- each edge is one of the graph and follows the one before -/
def Lnk (us : Es) : List Nat → Prop
  | [] => True
  | [a] => a < us.length
  | a :: b :: r => a < us.length ∧ srcE us b = tgtE us a ∧ Lnk us (b :: r)
section
variable {us : Es}
theorem lnk_app : ∀ {q r : List Nat}, Lnk us (q ++ r) → Lnk us q ∧ Lnk us r
  | [], r, h => ⟨True.intro, h⟩
  | [a], [], h => ⟨h, True.intro⟩
  | [a], b :: r, h => ⟨h.1, h.2.2⟩
  | a :: b :: q, r, h => by
    have h2 := lnk_app (q := b :: q) (r := r) h.2.2
    exact ⟨⟨h.1, h.2.1, h2.1⟩, h2.2⟩
theorem lnk_snoc : ∀ {q : List Nat} {m : Nat}, Lnk us (q ++ [m]) ↔ Lnk us q ∧ m < us.length ∧ (q ≠ [] → srcE us m = tgtE us (q.getLastD 0))
  | [], m => ⟨fun h => ⟨True.intro, h, fun z => (z rfl).elim⟩, fun h => h.2.1⟩
  | [a], m => ⟨fun h => ⟨h.1, h.2.2, fun _ => h.2.1⟩, fun h => ⟨h.1, h.2.2 (by simp), h.2.1⟩⟩
  | a :: b :: q, m => by
    have ih := lnk_snoc (q := b :: q) (m := m)
    constructor
    · intro h
      obtain ⟨h1, h2, h3⟩ := ih.mp h.2.2
      exact ⟨⟨h.1, h.2.1, h1⟩, h2, fun _ => h3 (by simp)⟩
    · intro h
      exact ⟨h.1.1, h.1.2.1, ih.mpr ⟨h.1.2.2, h.2.1, fun _ => h.2.2 (by simp)⟩⟩
theorem lnk_lt : ∀ {q : List Nat}, Lnk us q → ∀ x ∈ q, x < us.length
  | [], _, x, hx => nomatch hx
  | [a], h, x, hx => by rw [List.mem_singleton.mp hx]; exact h
  | a :: b :: q, h, x, hx => by
    rcases List.mem_cons.mp hx with rfl | hx
    · exact h.1
    · exact lnk_lt h.2.2 x hx
theorem mem_lvF {s e : Nat} : e ∈ lvF us s ↔ e < us.length ∧ srcE us e = s := by
  unfold lvF
  rw [List.mem_filter, List.mem_range, beq_iff_eq]
theorem mem_lev : ∀ (r : Nat) (p : List Nat), p ∈ levP (lvF us) (tgtE us) us.length r ↔ p.length = r + 1 ∧ Lnk us p
  | 0, p => by
    show p ∈ (List.range us.length).map (fun e => [e]) ↔ _
    rw [List.mem_map]
    constructor
    · rintro ⟨e, he, rfl⟩
      exact ⟨rfl, List.mem_range.mp he⟩
    · rintro ⟨hl, hk⟩
      match p, hl, hk with
      | [a], _, hk => exact ⟨a, List.mem_range.mpr hk, rfl⟩
  | r + 1, p => by
    show p ∈ (levP (lvF us) (tgtE us) us.length r).flatMap (extP (lvF us) (tgtE us)) ↔ _
    rw [List.mem_flatMap]
    constructor
    · rintro ⟨q, hq, hp⟩
      obtain ⟨m, hm, rfl⟩ := List.mem_map.mp hp
      obtain ⟨h1, h2⟩ := (mem_lev r q).mp hq
      obtain ⟨m1, m2⟩ := mem_lvF.mp hm
      exact ⟨by rw [List.length_append, h1]; rfl, lnk_snoc.mpr ⟨h2, m1, fun _ => m2⟩⟩
    · rintro ⟨hl, hk⟩
      have ne : p ≠ [] := fun z => by rw [z] at hl; cases hl
      have e := List.dropLast_concat_getLast ne
      rw [← e] at hk
      obtain ⟨h1, h2, h3⟩ := lnk_snoc.mp hk
      have l1 : p.dropLast.length = r + 1 := by rw [List.length_dropLast, hl]; rfl
      refine ⟨p.dropLast, (mem_lev r _).mpr ⟨l1, h1⟩, ?_⟩
      refine List.mem_map.mpr ⟨p.getLast ne, mem_lvF.mpr ⟨h2, h3 (fun z => by rw [z] at l1; cases l1)⟩, e⟩
theorem mem_win {L : Nat} (h : 1 ≤ L) {p : List Nat} : p ∈ win us L ↔ p.length = L ∧ Lnk us p := by
  have q := mem_lev (us := us) (L - 1) p
  rw [show L - 1 + 1 = L by omega] at q
  exact q
theorem lev_nodup : ∀ r : Nat, (levP (lvF us) (tgtE us) us.length r).Nodup
  | 0 => by
    show ((List.range us.length).map fun e => [e]).Nodup
    rw [List.nodup_iff_pairwise_ne, List.pairwise_map]
    exact (List.nodup_iff_pairwise_ne.mp List.nodup_range).imp fun h z => h (by injection z)
  | r + 1 => by
    show ((levP (lvF us) (tgtE us) us.length r).flatMap (extP (lvF us) (tgtE us))).Nodup
    rw [List.nodup_iff_pairwise_ne, List.pairwise_flatMap]
    constructor
    · intro q _
      unfold extP
      rw [List.pairwise_map]
      have nl : (lvF us (tgtE us (q.getLastD 0))).Nodup := List.Nodup.sublist List.filter_sublist List.nodup_range
      exact (List.nodup_iff_pairwise_ne.mp nl).imp fun h z => h (by have := List.append_cancel_left z; injection this)
    · refine (List.nodup_iff_pairwise_ne.mp (lev_nodup r)).imp fun {a b} hab x hx y hy z => hab ?_
      obtain ⟨m, _, rfl⟩ := List.mem_map.mp hx
      obtain ⟨k, _, rfl⟩ := List.mem_map.mp hy
      have := congrArg List.dropLast z
      rwa [List.dropLast_concat, List.dropLast_concat] at this
theorem win_nodup (L : Nat) : (win us L).Nodup := lev_nodup _
theorem win_next {L : Nat} (h : 1 ≤ L) {p : List Nat} {e : Nat} (hp : p ∈ win us L) (he : e ∈ lvF us (tgtE us (p.getLastD 0))) : p.drop 1 ++ [e] ∈ win us L := by
  obtain ⟨h1, h2⟩ := (mem_win h).mp hp
  obtain ⟨e1, e2⟩ := mem_lvF.mp he
  have a : Lnk us (p ++ [e]) := lnk_snoc.mpr ⟨h2, e1, fun _ => e2⟩
  obtain ⟨x, q, rfl⟩ : ∃ x q, p = x :: q := by
    cases p with
    | nil => rw [← h1] at h; cases h
    | cons x q => exact ⟨x, q, rfl⟩
  refine (mem_win h).mpr ⟨?_, (lnk_app (q := [x]) (r := q ++ [e]) a).2⟩
  show (q ++ [e]).length = L
  rw [List.length_append]
  exact h1
/-- the first L edges of a longer window, and those from an edge on -/
theorem win_take {L M : Nat} (h : 1 ≤ L) (hm : L ≤ M) {p : List Nat} (hp : p ∈ win us M) : p.take L ∈ win us L := by
  obtain ⟨h1, h2⟩ := (mem_win (by omega)).mp hp
  rw [← List.take_append_drop L p] at h2
  exact (mem_win h).mpr ⟨by rw [List.length_take]; omega, (lnk_app h2).1⟩
theorem win_drop {M : Nat} (k : Nat) (hm : k < M) {p : List Nat} (hp : p ∈ win us M) : p.drop k ∈ win us (M - k) := by
  obtain ⟨h1, h2⟩ := (mem_win (by omega)).mp hp
  rw [← List.take_append_drop k p] at h2
  exact (mem_win (by omega)).mpr ⟨by rw [List.length_drop]; omega, (lnk_app h2).2⟩
end
/-! ### a graph's edges count alone, not where their tuples stand -/
section
variable {us ts : Es}
theorem srcE_ps (i : Nat) : srcE us i = (((psOf us)[i]?.map fun p : Int × Int => p.1).getD 0).toNat := by
  unfold srcE psOf
  rw [List.getElem?_map, Option.map_map]
  rfl
theorem tgtE_ps (i : Nat) : tgtE us i = (((psOf us)[i]?.map fun p : Int × Int => p.2).getD 0).toNat := by
  unfold tgtE psOf
  rw [List.getElem?_map, Option.map_map]
  rfl
theorem ps_len (h : psOf us = psOf ts) : us.length = ts.length := by
  have := congrArg List.length h
  unfold psOf at this
  rwa [List.length_map, List.length_map] at this
theorem ps_src (h : psOf us = psOf ts) : srcE us = srcE ts := funext fun i => by rw [srcE_ps, srcE_ps, h]
theorem ps_tgt (h : psOf us = psOf ts) : tgtE us = tgtE ts := funext fun i => by rw [tgtE_ps, tgtE_ps, h]
theorem ps_lv (h : psOf us = psOf ts) : lvF us = lvF ts := funext fun s => by
  unfold lvF
  rw [ps_len h, ps_src h]
theorem ps_win (h : psOf us = psOf ts) (L : Nat) : win us L = win ts L := by
  unfold win
  rw [ps_lv h, ps_tgt h, ps_len h]
theorem ps_full {n : Nat} (h : psOf us = psOf ts) (F : Full us n) : Full ts n := by
  obtain ⟨a, b, c⟩ := F
  rw [ps_len h, ps_src h] at a
  rw [ps_len h, ps_tgt h] at b
  rw [ps_len h, ps_src h] at c
  exact ⟨a, b, c⟩
end
/-- a code's images fit: im is the image of each window -/
structure CodeD (us vs : Es) (L : Nat) (im : List Nat → Nat) : Prop where
  l1 : 1 ≤ L
  l4 : L ≤ 4
  few : (win us L).length ≤ 600
  rg : ∀ p ∈ win us L, im p < vs.length
  fo : ∀ p ∈ win us L, ∀ e ∈ lvF us (tgtE us (p.getLastD 0)), srcE vs (im (p.drop 1 ++ [e])) = tgtE vs (im p)
theorem CodeD.ps {us us' vs vs' : Es} {L : Nat} {im : List Nat → Nat} (h : CodeD us vs L im) (h1 : psOf us = psOf us') (h2 : psOf vs = psOf vs') : CodeD us' vs' L im := by
  obtain ⟨a, b, c, d, e⟩ := h
  rw [ps_win h1] at c d e
  rw [ps_len h2] at d
  rw [ps_lv h1, ps_tgt h1, ps_src h2, ps_tgt h2] at e
  exact ⟨a, b, c, d, e⟩
end Lw
end
section
set_option Elab.async false
set_option linter.all false
set_option maxRecDepth 100000
/-! how many windows there are: what count_paths gives. -/
namespace Lw
open PySem L2
theorem ps_take {n : Nat} {us : Es} (rg : ∀ e ∈ us, 0 ≤ e.2.1 ∧ e.2.1 < n ∧ 0 ≤ e.2.2 ∧ e.2.2 < n) {m : Nat} (h : m < us.length) : (psOf us).take (m + 1) = (psOf us).take m ++ [(((srcE us m : Nat) : Int), ((tgtE us m : Nat) : Int))] := by
  obtain ⟨h1, _, h3, _⟩ := rg us[m] (List.getElem_mem h)
  have e : us[m]? = some us[m] := List.getElem?_eq_getElem h
  have s : ((srcE us m : Nat) : Int) = us[m].2.1 := by
    unfold srcE
    rw [e]
    exact Int.toNat_of_nonneg h1
  have t : ((tgtE us m : Nat) : Int) = us[m].2.2 := by
    unfold tgtE
    rw [e]
    exact Int.toNat_of_nonneg h3
  rw [List.take_add_one, s, t]
  unfold psOf
  rw [List.getElem?_map, e]
  rfl
theorem src_lt {n : Nat} {us : Es} (rg : ∀ e ∈ us, 0 ≤ e.2.1 ∧ e.2.1 < n ∧ 0 ≤ e.2.2 ∧ e.2.2 < n) {m : Nat} (h : m < us.length) : srcE us m < n := by
  obtain ⟨h1, h2, _, _⟩ := rg us[m] (List.getElem_mem h)
  unfold srcE
  rw [List.getElem?_eq_getElem h]
  show (us[m].2.1).toNat < n
  omega
theorem tgt_lt {n : Nat} {us : Es} (rg : ∀ e ∈ us, 0 ≤ e.2.1 ∧ e.2.1 < n ∧ 0 ≤ e.2.2 ∧ e.2.2 < n) {m : Nat} (h : m < us.length) : tgtE us m < n := by
  obtain ⟨_, _, h1, h2⟩ := rg us[m] (List.getElem_mem h)
  unfold tgtE
  rw [List.getElem?_eq_getElem h]
  show (us[m].2.2).toNat < n
  omega
/-- the first m edges, those from s -/
def lvM (us : Es) (m s : Nat) : List Nat := (List.range m).filter fun e => srcE us e == s
theorem lvM_succ (us : Es) (m s : Nat) : lvM us (m + 1) s = lvM us m s ++ (if srcE us m = s then [m] else []) := by
  unfold lvM
  rw [List.range_succ, List.filter_append]
  congr 1
  by_cases h : srcE us m = s
  · rw [if_pos h, List.filter_cons_of_pos (by simpa using h)]
    rfl
  · rw [if_neg h, List.filter_cons_of_neg (by simpa using h)]
    rfl
section
variable {n : Nat} {us : Es} (rg : ∀ e ∈ us, 0 ≤ e.2.1 ∧ e.2.1 < n ∧ 0 ≤ e.2.2 ∧ e.2.2 < n)
include rg
theorem lv_sum (f : Nat → Nat) (s : Nat) : ∀ m, m ≤ us.length → ((lvM us m s).map fun e => f (tgtE us e)).sum = sm n fun j => cntN ((psOf us).take m) s j * f j
  | 0, _ => (sm_none f s).symm
  | m + 1, h => by
    rw [lvM_succ, List.map_append, List.sum_append, lv_sum f s m (by omega), ps_take rg h, out_snoc _ _ (tgt_lt rg h)]
    congr 1
    by_cases c : srcE us m = s
    · rw [if_pos c, if_pos c.symm]
      simp
    · rw [if_neg c, if_neg (Ne.symm c)]
      simp
theorem all_sum (g : Nat → Nat) : ∀ m, m ≤ us.length → sm n (fun i => ((lvM us m i).map g).sum) = ((List.range m).map g).sum
  | 0, _ => sm_zero n
  | m + 1, h => by
    rw [List.range_succ, List.map_append, List.sum_append, ← all_sum g m (by omega)]
    have e : sm n (fun i => ((lvM us (m + 1) i).map g).sum) = sm n (fun i => ((lvM us m i).map g).sum + (if i = srcE us m then 1 else 0) * g m) := sm_congr fun i _ => by
      rw [lvM_succ, List.map_append, List.sum_append]
      congr 1
      by_cases c : srcE us m = i
      · rw [if_pos c, if_pos c.symm]
        simp
      · rw [if_neg c, if_neg (Ne.symm c)]
        simp
    rw [e, sm_add, sm_one (fun _ => g m) (src_lt rg h)]
    simp
/-- ways on from a state -/
abbrev wayN (n : Nat) (us : Es) (r s : Nat) : Nat := sm n fun j => pwE (n : Int) us r s j
theorem wx_len : ∀ (r : Nat) (p : List Nat), tgtE us (p.getLastD 0) < n → (wx (fun _ => lvF us) (tgtE us) r p).length = wayN n us r (tgtE us (p.getLastD 0))
  | 0, p, h => by
    show 1 = sm n fun j => if tgtE us (p.getLastD 0) = j then 1 else 0
    have := sm_one (n := n) (b := tgtE us (p.getLastD 0)) (fun _ => 1) h
    refine this.symm.trans (sm_congr fun j _ => ?_)
    by_cases z : j = tgtE us (p.getLastD 0)
    · rw [if_pos z, if_pos z.symm]
    · rw [if_neg z, if_neg (Ne.symm z)]
  | r + 1, p, h => by
    show ((lvF us (tgtE us (p.getLastD 0))).flatMap fun m => wx (fun _ => lvF us) (tgtE us) r (p ++ [m])).length = _
    generalize hs : tgtE us (p.getLastD 0) = s at *
    rw [List.length_flatMap]
    have e : (lvF us s).map (fun m => (wx (fun _ => lvF us) (tgtE us) r (p ++ [m])).length) = (lvM us us.length s).map fun m => wayN n us r (tgtE us m) := by
      refine List.map_congr_left fun m hm => ?_
      have lt := lvF_lt hm
      have l := wx_len r (p ++ [m]) (by rw [List.getLastD_concat]; exact tgt_lt rg lt)
      rw [List.getLastD_concat] at l
      exact l
    rw [e, lv_sum rg _ s us.length (Nat.le_refl _), show (psOf us).take us.length = psOf us from List.take_of_length_le (by unfold psOf; rw [List.length_map]; exact Nat.le_refl _)]
    exact vec_step _ r h
theorem win_cnt {L : Nat} (h : 1 ≤ L) : (win us L).length = sm n fun i => sm n fun j => pwE (n : Int) us L i j := by
  obtain ⟨r, rfl⟩ : ∃ r, L = r + 1 := ⟨L - 1, by omega⟩
  unfold win
  rw [lev_wx, List.length_flatMap]
  have e : (List.range us.length).map (fun e => (wx (fun _ => lvF us) (tgtE us) (r + 1 - 1) [e]).length) = (List.range us.length).map fun e => wayN n us r (tgtE us e) :=
    List.map_congr_left fun e he => wx_len rg r [e] (tgt_lt rg (List.mem_range.mp he))
  rw [e, ← all_sum rg _ us.length (Nat.le_refl _)]
  refine sm_congr fun i hi => ?_
  rw [lv_sum rg _ i us.length (Nat.le_refl _), show (psOf us).take us.length = psOf us from List.take_of_length_le (by unfold psOf; rw [List.length_map]; exact Nat.le_refl _)]
  exact vec_step _ r hi
end
end Lw
end
section
set_option Elab.async false
set_option linter.all false
set_option maxRecDepth 100000
/-! for i, (k, v) in enumerate(d.items()), d a dict whose keys are tuples -/
namespace EnI
open PySem PySem.Spec PyProof.Rows L2
abbrev obI (x0 x1 : Value) (d : Addr) (i n ep : Nat) (ok ov : Value) : Obj := { cls := .type "dict_itemiterator", data := .fields #[x0, x1, .ref d, .int i 0, .int n 0, .int ep 0, ok, ov] }
/-- the iterator over a dict's items, whatever tuple it handed out last -/
structure At (h : Heap) (it d : Addr) (i n ep : Nat) : Prop where
  ex : ∃ x0 x1 ok ov : Value, (x0 = .none ∨ ∃ a : Addr, x0 = rawInt a) ∧ h.get? it = some (obI x0 x1 d i n ep ok ov)
theorem At.lt {h : Heap} {it d : Addr} {i n ep : Nat} (x : At h it d i n ep) : it < h.objs.size := let ⟨_, _, _, _, _, e⟩ := x.ex; Heap.lt_size e
theorem At.keep {h h' : Heap} {it d : Addr} {i n ep : Nat} (x : At h it d i n ep) (k : ∀ o, h.get? it = some o → h'.get? it = some o) : At h' it d i n ep := let ⟨a, b, c, f, q, e⟩ := x.ex; ⟨a, b, c, f, q, k _ e⟩
theorem At.type {s : Shared} {it d : Addr} {i n ep : Nat} (x : At s.heap it d i n ep) : s.TypeIs (.ref it) "dict_itemiterator" := let ⟨_, _, _, _, _, e⟩ := x.ex; ⟨_, e, rfl⟩
section
variable {P : Program} {w : World} {A : Around} {E : Value → Shared → Prop} {s : Shared} {it d : Addr} {i ep : Nat} {es : Array DictEntry}
/-- is the tuple handed out last free again? either way the iterator stands -/
theorem free_or {x0 x1 ok ov : Value} {n : Nat} {Q : Bool → Shared → Prop} (hx : x0 = .none ∨ ∃ a : Addr, x0 = rawInt a) (e : s.heap.get? it = some (obI x0 x1 d i n ep ok ov))
    (h : ∀ b y1 h', h'.get? it = some (obI x0 y1 d i n ep ok ov) → Heap.SameBut it s.heap h' → Q b { s with heap := h' }) : wpAny (model P w) A (Builtin.Dict_items.ownedTupleIsFree (.ref it)) Q E s := by
  obtain ⟨hp, gs, dr, tk, os⟩ := s
  have still : ∀ b, Q b ⟨hp, gs, dr, tk, os⟩ := fun b => h b x1 hp e (Heap.SameBut.refl _ _)
  unfold Builtin.Dict_items.ownedTupleIsFree
  refine wpAny_bind (wpAny_field e rfl (x := x0) rfl ?_)
  rcases hx with rfl | ⟨a, rfl⟩
  · exact wpAny_pure (still true)
  · show wpAny _ _ (loadIfAlive ((a : Int).toNat) >>= _) _ _ _
    rw [Int.toNat_natCast]
    refine wpAny_bind (show wpAny (model P w) A (loadIfAlive a) _ E _ from fun Γ p hΓ => ?_)
    show wpAny (model P w) A _ Q E ⟨hp, gs, dr, tk, os⟩
    cases hp.get? a with
    | none => exact wpAny_pure (still true)
    | some oa =>
      simp only [Option.isNone_some, Bool.false_eq_true, if_false]
      refine wpAny_bind (wpAny_field e rfl (x := x1) rfl ?_)
      split
      · refine wpAny_bind (wpAny_setField_rec e (by simp) fun h2 e2 k2 => wpAny_pure (h false _ h2 e2 k2))
      · exact wpAny_pure (still false)
/-- the next pair, a new tuple -/
theorem draw {Q : Value → Shared → Prop} (x : At s.heap it d i es.size ep) (hm : DT.Raw s.heap d es ep) (hi : i < es.size)
    (h : ∀ h', At h' it d (i + 1) es.size ep → h'.get? s.heap.objs.size = some { cls := .type "tuple", data := .seq #[es[i].key, es[i].val] } → h'.objs.size = s.heap.objs.size + 1 →
      (∀ b o, b ≠ it → s.heap.get? b = some o → h'.get? b = some o) → Q (.ref s.heap.objs.size) { s with heap := h' }) :
    wpAny (model P w) A (Builtin.«dict_itemiterator.__next__» ⟨[.ref it], []⟩) (fun fin s' => ∃ v, fin = .done (.ret v) ∧ Q v s') E s := by
  obtain ⟨hp, gs, dr, tk, os⟩ := s
  have below := x.lt
  have kind := x.type
  obtain ⟨x0, x1, ok, ov, hx, e⟩ := x.ex
  obtain ⟨od, hod, _, hdd⟩ := id hm
  have own : Builtin.Dict_items.ownsTuple "dict_itemiterator" = true := by decide
  refine wpAny_bind (wpAny_pure ?_)
  refine wpAny_bind ?_
  refine wpAny_bind (wpAny_bind (wpAny_typeNameOfWhole_itemiter kind (wpAny_pure ?_)))
  refine wpAny_bind (wpAny_fieldsOf e rfl ?_)
  simp only [own, if_true]
  show wpAny _ _ (if (Value.ref d == Value.none) = true then _ else _) _ _ _
  rw [if_neg (show ¬ ((Value.ref d == Value.none) = true) from Bool.false_ne_true)]
  refine wpAny_bind (wpAny_pure (wpAny_bind (wpAny_dictEntries hod hdd ?_)))
  rw [if_neg (by simp)]
  refine wpAny_bind (wpAny_pure (wpAny_bind (wpAny_dictEpoch hod hdd ?_)))
  rw [if_neg (by simp)]
  refine wpAny_pure ?_
  simp only [show ¬ ((i : Int) < 0) from by omega, if_false, Int.toNat_natCast, Array.getElem?_eq_getElem hi]
  refine wpAny_bind (wpAny_bind (wpAny_typeNameOfWhole_itemiter kind (wpAny_pure ?_)))
  refine wpAny_bind (wpAny_isOneOf_itemiter kind ?_)
  show wpAny _ _ (setField (.ref it) 3 (rawInt ((i : Int) + 1)) >>= _) _ _ ⟨hp, gs, dr, tk, os⟩
  refine wpAny_bind (wpAny_setField_rec e (by simp) fun h1 e1 k1 => ?_)
  replace e1 : h1.get? it = some (obI x0 x1 d (i + 1) es.size ep ok ov) := by
    have z : ((i + 1 : Nat) : Int) = (i : Int) + 1 := by omega
    unfold obI; rw [z]; simpa [rawInt] using e1
  have kind1 : Shared.TypeIs ⟨h1, gs, dr, tk, os⟩ (.ref it) "dict_itemiterator" := ⟨_, e1, rfl⟩
  have l1 : h1.objs.size = hp.objs.size := k1.1
  refine wpAny_bind (wpAny_holding (wpAny_bind (wpAny_isOneOf_itemiter kind1 (wpAny_bind (wpAny_isOneOf_itemiter kind1 ?_)))))
  show wpAny _ _ (Builtin.Dict_items.pairFromOwner (.ref it) 6 es[i].key es[i].val) _ _ ⟨h1, gs, dr, tk, os⟩
  unfold Builtin.Dict_items.pairFromOwner
  refine wpAny_bind (wpAny_newTuple ?_)
  obtain ⟨h2, eh⟩ : ∃ h2, h1.push { cls := .type "tuple", data := .seq #[es[i].key, es[i].val] } = h2 := ⟨_, rfl⟩
  have e2 : h2.get? it = some (obI x0 x1 d (i + 1) es.size ep ok ov) := by rw [← eh]; exact Heap.get?_push_of_some _ e1
  have t2 : h2.get? hp.objs.size = some { cls := .type "tuple", data := .seq #[es[i].key, es[i].val] } := by rw [← eh, ← l1]; exact Heap.get?_push_size _ rfl
  have l2 : h2.objs.size = hp.objs.size + 1 := by rw [← eh, Heap.size_push, l1]
  have up2 : ∀ b o, b ≠ it → hp.get? b = some o → h2.get? b = some o := fun b o hb q => by rw [← eh]; exact Heap.get?_push_of_some _ (k1.extBut b o hb q)
  have above : hp.objs.size ≠ it := Nat.ne_of_gt below
  have all : ∀ (h' : Heap) (y0 y1 ok' ov' : Value), (y0 = .none ∨ ∃ a : Addr, y0 = rawInt a) → h'.get? it = some (obI y0 y1 d (i + 1) es.size ep ok' ov') → Heap.SameBut it h2 h' → Q (.ref hp.objs.size) ⟨h', gs, dr, tk, os⟩ := fun h' y0 y1 ok' ov' hy q k =>
    h h' ⟨y0, y1, ok', ov', hy, q⟩ (k.extBut _ _ above t2) (by show h'.objs.size = _; rw [k.1, l2]) fun b o hb q => k.extBut b o hb (up2 b o hb q)
  show wpAny _ _ (Builtin.Dict_items.ownedTupleIsFree (.ref it) >>= _) _ _ ⟨h1.push _, gs, dr, tk, os⟩
  rw [eh, l1]
  refine wpAny_bind (free_or hx e2 fun b y1 h3 e3 k3 => ?_)
  cases b with
  | false =>
    rw [if_neg Bool.false_ne_true]
    exact wpAny_pure (wpAny_pure ⟨_, rfl, all h3 _ _ _ _ hx e3 k3⟩)
  | true =>
    rw [if_pos rfl]
    refine wpAny_bind (wpAny_field e3 rfl (x := ok) rfl (wpAny_bind (wpAny_field e3 rfl (x := ov) rfl ?_)))
    refine wpAny_bind (wpAny_setField_rec e3 (by simp) fun h4 e4 k4 => ?_)
    replace e4 : h4.get? it = some (obI x0 y1 d (i + 1) es.size ep es[i].key ov) := e4
    refine wpAny_bind (wpAny_setField_rec e4 (by simp) fun h5 e5 k5 => ?_)
    replace e5 : h5.get? it = some (obI x0 y1 d (i + 1) es.size ep es[i].key es[i].val) := e5
    refine wpAny_bind (wpAny_setField_rec e5 (by simp) fun h6 e6 k6 => ?_)
    replace e6 : h6.get? it = some (obI (rawInt hp.objs.size) y1 d (i + 1) es.size ep es[i].key es[i].val) := e6
    refine wpAny_bind (wpAny_setField_rec e6 (by simp) fun h7 e7 k7 => ?_)
    replace e7 : h7.get? it = some (obI (rawInt hp.objs.size) (.bool false) d (i + 1) es.size ep es[i].key es[i].val) := e7
    refine wpAny_bind (wpAny_letGo (wpAny_pure (wpAny_pure ⟨_, rfl, all h7 _ _ _ _ (.inr ⟨_, rfl⟩) e7 ?_⟩)))
    exact (((k3.trans k4).trans k5).trans k6).trans k7
/-- no pair is left -/
theorem dry {Q : PySem.Fin → Shared → Prop} (calm : A.handled = none) (x : At s.heap it d i es.size ep) (hm : DT.Raw s.heap d es ep) (hi : es.size ≤ i)
    (h : ∀ h' e, Heap.ExtBut it s.heap h' → (∃ o, h'.get? e = some o ∧ o.cls = .type "StopIteration") → E (.ref e) { s with heap := h' }) : wpAny (model P w) A (Builtin.«dict_itemiterator.__next__» ⟨[.ref it], []⟩) Q E s := by
  have kind := x.type
  obtain ⟨x0, x1, ok, ov, _, e⟩ := x.ex
  obtain ⟨od, hod, _, hdd⟩ := id hm
  have own : Builtin.Dict_items.ownsTuple "dict_itemiterator" = true := by decide
  refine wpAny_bind (wpAny_pure ?_)
  refine wpAny_bind ?_
  refine wpAny_bind (wpAny_bind (wpAny_typeNameOfWhole_itemiter kind (wpAny_pure ?_)))
  refine wpAny_bind (wpAny_fieldsOf e rfl ?_)
  simp only [own, if_true]
  show wpAny _ _ (if (Value.ref d == Value.none) = true then _ else _) _ _ s
  rw [if_neg (show ¬ ((Value.ref d == Value.none) = true) from Bool.false_ne_true)]
  refine wpAny_bind (wpAny_pure (wpAny_bind (wpAny_dictEntries hod hdd ?_)))
  rw [if_neg (by simp)]
  refine wpAny_bind (wpAny_pure (wpAny_bind (wpAny_dictEpoch hod hdd ?_)))
  rw [if_neg (by simp)]
  refine wpAny_pure ?_
  simp only [show ¬ ((i : Int) < 0) from by omega, if_false, Int.toNat_natCast, Array.getElem?_eq_none hi]
  refine wpAny_bind (wpAny_bind (wpAny_typeNameOfWhole_itemiter kind (wpAny_pure ?_)))
  show wpAny _ _ (setField (.ref it) 2 .none >>= _) _ _ s
  refine wpAny_bind (wpAny_setField e rfl (by simp) ?_)
  show wpAny _ _ (newExc (.type "StopIteration") [] >>= _) _ _ _
  refine wpAny_bind ?_
  simp only [newExc, newTuple]
  refine wpAny_bind (wpAny_newObj_type ?_ (by size_fits))
  refine wpAny_bind (m := firstArgMember _ _) (wpAny_of_eq (a := Value.none) (by first | rfl | (simp only [firstArgMember]; rfl)) ?_)
  refine wpAny_newObj_type ?_ (by size_fits)
  simp only [raiseNew]
  refine wpAny_bind (wpAny_handled ?_)
  rw [calm]
  refine wpAny_bind (wpAny_pure (wpAny_throw ?_))
  exact h _ _ (((Heap.SameBut.update ..).extBut.push _).push _) ⟨_, Heap.get?_push_size _ rfl, rfl⟩
/-- the same as what nextOf asks -/
theorem draw_of {Q : Value → Shared → Prop} (x : At s.heap it d i es.size ep) (hm : DT.Raw s.heap d es ep) (hi : i < es.size)
    (h : ∀ h', At h' it d (i + 1) es.size ep → h'.get? s.heap.objs.size = some { cls := .type "tuple", data := .seq #[es[i].key, es[i].val] } → h'.objs.size = s.heap.objs.size + 1 →
      (∀ b o, b ≠ it → s.heap.get? b = some o → h'.get? b = some o) → Q (.ref s.heap.objs.size) { s with heap := h' }) : wpAny (model P w) A (Builtin.SmallTypes.nextOf (.ref it)) Q E s := by
  unfold Builtin.SmallTypes.nextOf
  refine wpAny_bind (wpAny_callSpecial?_slot (name := Str.ofString "__next__") x.type F.slot_dict_itemiterator_next (wpAny_call_entry F.slot_dict_itemiterator_next x.type F.entry_dict_itemiterator_next ?_ (F.args_dict_itemiterator_next_1 _)))
  exact draw x hm hi fun h' a b c d => wpAny_pure (h h' a b c d)
theorem dry_of {Q : Value → Shared → Prop} (calm : A.handled = none) (x : At s.heap it d i es.size ep) (hm : DT.Raw s.heap d es ep) (hi : es.size ≤ i)
    (h : ∀ h' e, Heap.ExtBut it s.heap h' → (∃ o, h'.get? e = some o ∧ o.cls = .type "StopIteration") → E (.ref e) { s with heap := h' }) : wpAny (model P w) A (Builtin.SmallTypes.nextOf (.ref it)) Q E s := by
  unfold Builtin.SmallTypes.nextOf
  refine wpAny_bind (wpAny_callSpecial?_slot (name := Str.ofString "__next__") x.type F.slot_dict_itemiterator_next (wpAny_call_entry F.slot_dict_itemiterator_next x.type F.entry_dict_itemiterator_next ?_ (F.args_dict_itemiterator_next_1 _)))
  exact dry (show A.in1.handled = none from calm) x hm hi h
end
end EnI
end
section
set_option Elab.async false
set_option linter.all false
set_option maxRecDepth 100000
namespace EnI
open PySem PySem.Spec PyProof.Rows L2
section
variable {P : Program} {w : World} {A : Around} {E : Value → Shared → Prop} {s : Shared} {e it d : Addr} {i ep : Nat} {es : Array DictEntry} {old : Value}
abbrev pairO (en : DictEntry) : Obj := { cls := .type "tuple", data := .seq #[en.key, en.val] }
abbrev numO (i : Nat) (tk : Tok) (u : Addr) : Obj := { cls := .type "tuple", data := .seq #[.int i tk, .ref u] }
/-- enumerate's turn where what it goes over makes a new object -/
theorem turn {Q : Option Value → Shared → Prop} (he : IsEnum s.heap e it ((i : Nat) : Int) old) (x : At s.heap it d i es.size ep) (hm : DT.Raw s.heap d es ep) (hi : i < es.size) (ne : e ≠ it)
    (h : ∀ h' tk, IsEnumOut h' e it (((i + 1 : Nat) : Nat) : Int) (.ref s.heap.objs.size) (s.heap.objs.size + 1) → At h' it d (i + 1) es.size ep → h'.get? s.heap.objs.size = some (pairO es[i]) → h'.get? (s.heap.objs.size + 1) = some (numO i tk s.heap.objs.size) →
      h'.objs.size = s.heap.objs.size + 2 → (∀ b o, b ≠ e → b ≠ it → s.heap.get? b = some o → h'.get? b = some o) → Q (some (.ref (s.heap.objs.size + 1))) { s with heap := h', toks := tk + 1 }) :
    wpAny (model P w) A (pyNext (.ref e)) Q E s := by
  have kind : s.TypeIs (.ref e) "enumerate" := ⟨_, he, rfl⟩
  obtain ⟨hp, gs, dr, tk, os⟩ := s
  have below : e < hp.objs.size := Heap.lt_size he
  unfold pyNext
  refine wpAny_bind (wpAny_attempt (wpAny_callSpecial?_slot (name := Str.ofString "__next__") kind F.slot_enumerate_next (wpAny_call_entry F.slot_enumerate_next kind F.entry_enumerate_next ?_ (F.args_enumerate_next_1 _))))
  show wpAny _ _ (field (.ref e) 2 >>= _) _ _ ⟨hp, gs, dr, tk, os⟩
  refine wpAny_bind (wpAny_field he rfl (x := .ref it) rfl (wpAny_bind (draw_of x hm hi fun h1 x1 p1 l1 up1 => ?_)))
  replace l1 : h1.objs.size = hp.objs.size + 1 := l1
  have e1 : IsEnum h1 e it ((i : Nat) : Int) old := up1 e _ ne he
  show wpAny _ _ (field (.ref e) 3 >>= _) _ _ ⟨h1, gs, dr, tk, os⟩
  refine wpAny_bind (wpAny_field e1 rfl (x := rawInt i) rfl ?_)
  show wpAny _ _ (field (.ref e) 4 >>= _) _ _ ⟨h1, gs, dr, tk, os⟩
  refine wpAny_bind (wpAny_field e1 rfl (x := .none) rfl ?_)
  show wpAny _ _ (mkInt i >>= _) _ _ ⟨h1, gs, dr, tk, os⟩
  refine wpAny_bind (wpAny_mkInt ?_)
  show wpAny _ _ (setField (.ref e) 3 (rawInt ((i : Int) + 1)) >>= _) _ _ ⟨h1, gs, dr, tk + 1, os⟩
  refine wpAny_bind (wpAny_setField_rec e1 (by simp) fun h2 e2 k2 => ?_)
  replace e2 : IsEnum h2 e it (((i + 1 : Nat) : Nat) : Int) old := by
    have z : ((i + 1 : Nat) : Int) = (i : Int) + 1 := by omega
    unfold IsEnum; rw [z]; exact e2
  show wpAny _ _ (setField (.ref e) 4 .none >>= _) _ _ ⟨h2, gs, dr, tk + 1, os⟩
  refine wpAny_bind (wpAny_setField_rec e2 (by simp) fun h3 e3 k3 => ?_)
  replace e3 : IsEnum h3 e it (((i + 1 : Nat) : Nat) : Int) old := e3
  show wpAny _ _ (newTuple [.int i tk, .ref hp.objs.size] >>= _) _ _ ⟨h3, gs, dr, tk + 1, os⟩
  refine wpAny_bind (wpAny_newTuple ?_)
  have l3 : h3.objs.size = hp.objs.size + 1 := by rw [k3.1, k2.1, l1]
  obtain ⟨h4, eh⟩ : ∃ h4, h3.push (numO i tk hp.objs.size) = h4 := ⟨_, rfl⟩
  have e4 : IsEnum h4 e it (((i + 1 : Nat) : Nat) : Int) old := by rw [← eh]; exact Heap.get?_push_of_some _ e3
  have t4 : h4.get? (hp.objs.size + 1) = some (numO i tk hp.objs.size) := by rw [← eh, ← l3]; exact Heap.get?_push_size _ rfl
  have l4 : h4.objs.size = hp.objs.size + 2 := by rw [← eh, Heap.size_push, l3]
  have up4 : ∀ b o, b ≠ e → h1.get? b = some o → h4.get? b = some o := fun b o hb q => by rw [← eh]; exact Heap.get?_push_of_some _ (k3.extBut b o hb (k2.extBut b o hb q))
  show wpAny _ _ (Builtin.SmallTypes.ownedTupleIsFree (.ref e) >>= _) _ _ ⟨h3.push (numO i tk hp.objs.size), gs, dr, tk + 1, os⟩
  rw [eh, l3]
  refine wpAny_bind ?_
  unfold Builtin.SmallTypes.ownedTupleIsFree
  refine wpAny_bind (wpAny_field e4 rfl (x := .none) rfl (wpAny_pure ?_))
  rw [if_pos rfl]
  refine wpAny_bind (wpAny_rule (wpAny_bind (wpAny_field e4 rfl (x := old) rfl ?_)))
  refine wpAny_bind (wpAny_setField_rec e4 (by simp) fun h5 e5 k5 => ?_)
  replace e5 : IsEnum h5 e it (((i + 1 : Nat) : Nat) : Int) (.ref hp.objs.size) := e5
  show wpAny _ _ (Builtin.SmallTypes.ownedTupleHandOut (.ref e) (.ref (hp.objs.size + 1)) >>= _) _ _ ⟨h5, gs, dr, tk + 1, os⟩
  refine wpAny_bind ?_
  unfold Builtin.SmallTypes.ownedTupleHandOut
  refine wpAny_bind (wpAny_setField_rec e5 (by simp) fun h6 e6 k6 => ?_)
  replace e6 : IsEnumOut h6 e it (((i + 1 : Nat) : Nat) : Int) (.ref hp.objs.size) (hp.objs.size + 1) := e6
  refine wpAny_setField_rec e6 (by simp) fun h7 e7 k7 => ?_
  replace e7 : IsEnumOut h7 e it (((i + 1 : Nat) : Nat) : Int) (.ref hp.objs.size) (hp.objs.size + 1) := e7
  have up7 : ∀ b o, b ≠ e → h4.get? b = some o → h7.get? b = some o := fun b o hb q => k7.extBut b o hb (k6.extBut b o hb (k5.extBut b o hb q))
  have ne1 : hp.objs.size + 1 ≠ e := Nat.ne_of_gt (Nat.lt_succ_of_lt below)
  refine wpAny_bind (wpAny_letGo (wpAny_pure ⟨_, rfl, wpAny_pure (h h7 tk e7 (x1.keep fun o q => up7 _ o ne.symm (up4 _ o ne.symm q)) (up7 _ _ (Nat.ne_of_gt below) (up4 _ _ (Nat.ne_of_gt below) p1)) (up7 _ _ ne1 t4) ?_ fun b o hb hb2 q => up7 b o hb (up4 b o hb (up1 b o hb2 q)))⟩))
  show h7.objs.size = _
  rw [k7.1, k6.1, k5.1, l4]
theorem last {Q : Option Value → Shared → Prop} (calm : A.in1.handled = none) (he : IsEnum s.heap e it ((i : Nat) : Int) old) (x : At s.heap it d i es.size ep) (hm : DT.Raw s.heap d es ep) (hi : es.size ≤ i)
    (h : ∀ h', Heap.ExtBut it s.heap h' → Q none { s with heap := h' }) : wpAny (model P w) A (pyNext (.ref e)) Q E s := by
  have kind : s.TypeIs (.ref e) "enumerate" := ⟨_, he, rfl⟩
  unfold pyNext
  refine wpAny_bind (wpAny_attempt (wpAny_callSpecial?_slot (name := Str.ofString "__next__") kind F.slot_enumerate_next (wpAny_call_entry F.slot_enumerate_next kind F.entry_enumerate_next ?_ (F.args_enumerate_next_1 _))))
  show wpAny _ _ (field (.ref e) 2 >>= _) _ _ s
  refine wpAny_bind (wpAny_field he rfl (x := .ref it) rfl (wpAny_bind (dry_of calm x hm hi fun h' b up ⟨o, ho, hc⟩ => ?_)))
  exact wpAny_bind (wpAny_isInstance (T := "StopIteration") (b := true) ⟨o, ho, hc⟩ isSubtype_stop (wpAny_pure (h h' up)))
/-- enumerate(v), v the view of a dict's items -/
abbrev it0 (d : Addr) (n ep : Nat) : Obj := obI .none (.bool false) d 0 n ep .none .none
abbrev en0 (a : Addr) : Obj := { cls := .type "enumerate", data := .fields #[.none, .bool false, .ref a, rawInt 0, .none, .none] }
theorem new_enum (v d : Addr) (es : Array DictEntry) (ep : Nat) : Meets (Builtin.«enumerate.__new__» ⟨[.type "enumerate", .ref v], []⟩) (fun _ R s => (s.heap.IsItemsView v d ∧ DT.Raw s.heap d es ep) ∧
      R (.ok (.ret (.ref (s.heap.push (it0 d es.size ep)).objs.size))) { s with heap := (s.heap.push (it0 d es.size ep)).push (en0 s.heap.objs.size) }) := by
  refine .of_wp fun P w A R s hyp => ?_
  obtain ⟨⟨hv, hm⟩, fin⟩ := hyp
  obtain ⟨ov, hov, hcv, hdv⟩ := id hv
  obtain ⟨oc, dct, dt, sl⟩ := ov
  dsimp only at hcv hdv
  subst hcv hdv
  rcases s with ⟨h, gn, dr, tk, os⟩
  have sub := sub_enumerate
  wp_walk using AutoSeq1.wpAny_loadPart' hov
  refine wpAny_stack_any fun st => wpAny_pure ?_
  split
  next c _ _ _ _ _ => cases (c == Value.type "enumerate") <;> (wp_walk using AutoSeq1.wpAny_loadPart' hov, DT.iterI hv hm) <;> exact ⟨_, rfl, fin⟩
  next => (wp_walk using AutoSeq1.wpAny_loadPart' hov, DT.iterI hv hm) <;> exact ⟨_, rfl, fin⟩
end
end EnI
end
section
set_option Elab.async false
set_option linter.all false
set_option maxRecDepth 100000
namespace EnI
open PySem PySem.Spec PyProof.Rows L2
section
variable {X : Cx} {pins : List (Addr × Obj)} {σ : L2.St} {H : Hp} {s : Shared} {d : Addr} {o : Obj} {kvs : List (List Key × V)}
/-- a locked dict, entry by entry -/
theorem entries (I : Inv X pins σ H s) (h : H d = some (.frz o (.dT kvs))) : (d == sysModules) = false ∧ ∃ (es : Array DictEntry) (ep : Nat), o.data = .dict es ep ∧ DT.Raw s.heap d es ep ∧ es.size = kvs.length ∧
    ∀ (i : Nat) (hi : i < es.size) (k : List Key) (v : V), kvs[i]? = some (k, v) → ∃ q : Addr, es[i].key = .ref q ∧ H q = some (.tup (k.map kV)) ∧ RelV v es[i].val := by
  obtain ⟨at_, _, low, xs, rel, o2, es, ep, ho, exact_, dat, all, _⟩ := I.hok d _ h
  rw [at_] at ho
  cases ho
  have len : es.size = kvs.length := by
    have l1 := congrArg List.length all
    rw [Array.length_toList, List.length_map] at l1
    rw [l1, Paired.length rel]
  refine ⟨low, es, ep, dat, ⟨o, at_, exact_, dat⟩, len, fun i hi k v e => ?_⟩
  obtain ⟨⟨k2, q, u⟩, hb, e1, e2, e3⟩ := paired_get rel e
  have en : es.toList[i]? = some (entryOfKey (tupleKind (mixKind X.prog X.w)) (k2, q, u)) := by rw [all, List.getElem?_map, hb]; rfl
  rw [Array.getElem?_toList, Array.getElem?_eq_getElem hi] at en
  have en := Option.some.inj en
  exact ⟨q, by rw [en]; rfl, e2, by rw [en]; exact e3⟩
end
/-- one turn: the number, and a new pair of the key's tuple and the value -/
def Yl (d : Addr) (o : Obj) (kvs : List (List Key × V)) : Nat → Hp → V → Hp → Prop := fun i H v H' => ∃ (T U q : Addr) (k : List Key) (x : V), v = .ref T ∧ H U = none ∧ H T = none ∧ T ≠ U ∧ kvs[i]? = some (k, x) ∧ H q = some (.tup (k.map kV)) ∧ H' = upd (upd H U (.tup [.ref q, x])) T (.tup [.int (i : Nat), .ref U])
def ItEn (d : Addr) (o : Obj) (kvs : List (List Key × V)) : It where
  go i H := H d = some (.frz o (.dT kvs)) ∧ i < kvs.length
  yld i H v H' := Yl d o kvs i H v H'
  stop i H := H d = some (.frz o (.dT kvs)) ∧ kvs.length ≤ i
theorem walk_en {d : Addr} {o : Obj} {kvs : List (List Key × V)} : Walk (ItEn d o kvs) kvs.length (fun H => H d = some (.frz o (.dT kvs))) (Yl d o kvs) := ⟨fun i H hi g => ⟨g, hi⟩, fun H g => ⟨g, Nat.le_refl _⟩, fun i H x H' _ _ y => y⟩
/-- the records of the walk -/
structure St (d e it : Addr) (n ep : Nat) (i : Nat) (h : Heap) : Prop where
  en : ∃ old, IsEnum h e it ((i : Nat) : Int) old
  itr : At h it d i n ep
  ne : e ≠ it
theorem two {e it b : Addr} (h : b ∈ [e, it]) : b = e ∨ b = it := by
  simp only [List.mem_cons, List.not_mem_nil, or_false] at h
  exact h
theorem St.keep {d e it : Addr} {n ep i : Nat} {h h' : Heap} (z : St d e it n ep i h) (k : ∀ b ∈ [e, it], ∀ o, h.get? b = some o → h'.get? b = some o) : St d e it n ep i h' := by
  obtain ⟨⟨old, he⟩, hi, ne⟩ := z
  exact ⟨⟨old, k e (.head _) _ he⟩, hi.keep (k it (.tail _ (.head _))), ne⟩
theorem dict_one {o : Obj} {es es' : Array DictEntry} {ep ep' : Nat} (h : o.data = .dict es ep) (h' : o.data = .dict es' ep') : es' = es ∧ ep' = ep := by
  rw [h] at h'
  cases h'
  exact ⟨rfl, rfl⟩
set_option maxHeartbeats 1000000 in
theorem turns {P : Program} {w : World} {K : PySem.W.Frag} {elts : List Expr} {kk : Nat} {tpos : Pos} {d e it : Addr} {o : Obj} {kvs : List (List Key × V)} {es : Array DictEntry} {ep : Nat} (hod : o.data = .dict es ep) :
    Turn P w K (.Tuple elts kk tpos) (ItEn d o kvs) [e, it] e (St d e it kvs.length ep) where
  mem := .head _
  obj i h z b hb := by
    obtain ⟨⟨old, he⟩, ⟨_, _, _, _, _, hi⟩, _⟩ := z
    rcases two hb with rfl | rfl
    · exact ⟨_, he, nofun⟩
    · exact ⟨_, hi, nofun⟩
  keep i h h' z k := z.keep k
  item := by
    rintro X rfl rfl rfl calm i pins s σ H E I off z ⟨hd, hi⟩
    obtain ⟨⟨old, he⟩, hit, ne⟩ := z
    obtain ⟨_, es2, ep2, dat, raw, len, ent⟩ := entries I hd
    obtain ⟨rfl, rfl⟩ := dict_one hod dat
    rw [← len] at hit hi
    obtain ⟨⟨k, v⟩, hk⟩ : ∃ p, kvs[i]? = some p := ⟨kvs[i]'(by omega), List.getElem?_eq_getElem (by omega)⟩
    obtain ⟨q, ek, hq, rv⟩ := ent i hi k v hk
    have eb := Heap.lt_size he
    have ib := hit.lt
    refine turn he hit raw hi ne fun h1 tk e1 i1 p1 n1 l1 up1 => ?_
    refine ⟨_, rfl, wpAny_letOwnedTupleGo_enum (s := { s with heap := h1, toks := tk + 1 }) e1 fun h2 e2 sb => ?_⟩
    have p2 : h2.get? s.heap.objs.size = some (pairO es2[i]) := by rw [sb.2 _ (Nat.ne_of_gt eb)]; exact p1
    have n2 : h2.get? (s.heap.objs.size + 1) = some (numO i tk s.heap.objs.size) := by rw [sb.2 _ (Nat.ne_of_gt (Nat.lt_succ_of_lt eb))]; exact n1
    have rest : ∀ b ob, b ∉ [e, it] → s.heap.get? b = some ob → h2.get? b = some ob := fun b ob nb hb => by
      have be : b ≠ e := fun q => nb (q ▸ .head _)
      have bi : b ≠ it := fun q => nb (q ▸ .tail _ (.head _))
      rw [sb.2 b be]
      exact up1 b ob be bi hb
    have I1 : Inv X pins σ (upd H s.heap.objs.size (.tup [.ref q, v])) { s with heap := h2, toks := tk + 1 } :=
      I.turnedNew (ch := [e, it]) rest off (Nat.le_refl _) ⟨by show 2 ≤ sizeLine; decide, _, .cons ek (.cons rv .nil), _, p2, rfl, _, rfl⟩
    have nT : upd H s.heap.objs.size (.tup [.ref q, v]) (s.heap.objs.size + 1) = none := by
      rw [upd_ne (Nat.succ_ne_self _)]
      exact I.hok.fresh (Nat.le_succ _)
    have I2 := I1.take (h' := h2) (t' := tk + 1) (o := .tup [.int (i : Nat), .ref s.heap.objs.size]) (fun b ob _ q => q) (I.fpOk (Nat.le_succ _) nT) ⟨by show 2 ≤ sizeLine; decide, _, .cons ⟨_, rfl⟩ (.cons rfl .nil), _, n2, rfl, _, rfl⟩
    refine ⟨.ref (s.heap.objs.size + 1), _, I2, rfl, ⟨s.heap.objs.size + 1, s.heap.objs.size, q, k, v, rfl, I.hok.fresh (Nat.le_refl _), I.hok.fresh (Nat.le_succ _), Nat.succ_ne_self _, hk, hq, rfl⟩, ⟨⟨_, e2⟩, ?_, ne⟩, fun b hb => ?_⟩
    · rw [← len]
      exact i1.keep fun ob q => by rw [sb.2 it ne.symm]; exact q
    · have lt : b < s.heap.objs.size := (two hb).elim (fun q => q ▸ eb) (fun q => q ▸ ib)
      rw [upd_ne (Nat.ne_of_lt (Nat.lt_succ_of_lt lt)), upd_ne (Nat.ne_of_lt lt)]
      exact (off b hb).1
  done := by
    rintro X rfl rfl rfl calm i pins s σ H E I off z ⟨hd, hi⟩
    obtain ⟨⟨old, he⟩, hit, ne⟩ := z
    obtain ⟨_, es2, ep2, dat, raw, len, ent⟩ := entries I hd
    obtain ⟨rfl, rfl⟩ := dict_one hod dat
    rw [← len] at hit hi
    obtain ⟨f0, f1, _, f3, f4, f5⟩ := off it (.tail _ (.head _))
    exact last (show X.A.in1.handled = none from I.ok.hd calm) he hit raw hi fun h' up => ⟨rfl, I.turned (t' := s.toks) (fun b ob hb q => up b ob hb q) f0 f1 f3 f4 f5⟩
  self A i s Q E z h := z.en.elim fun _ he => wpAny_pyIter_enum he h
/-- enumerate(d.items()), d locked -/
def iEnI (td : TE) : TI := fun σ H R => td σ H fun x H1 => ∃ (d : Addr) (o : Obj) (kvs : List (List Key × V)), x = .ref d ∧ H1 d = some (.frz o (.dT kvs)) ∧ ∀ J, Walk J kvs.length (fun H => H d = some (.frz o (.dT kvs))) (Yl d o kvs) → R J H1
set_option maxHeartbeats 1000000 in
theorem pi_enI {X : Cx} {e : Expr} {td : TE} {p pos apos cpos tpos : Pos} {elts : List Expr} {kk : Nat} (hg : Gl X "enumerate") (hm : X.mg "enumerate" = none) (he : PE X e td) (hbase : attributeBase e "items" X.env (eval e X.env) = eval e X.env := by rfl) (hline : (apos.endLine == cpos.line) = true := by rfl)
    (hs : starEach [.Call (.Attribute e "items" apos) [] [] cpos] X.env = [(false, eval (.Call (.Attribute e "items" apos) [] [] cpos) X.env)] := by rfl) :
    PI X (.Tuple elts kk tpos) (.Call (.Name "enumerate" p) [.Call (.Attribute e "items" apos) [] [] cpos] [] pos) (iEnI td) := by
  constructor
  intro pins s σ H R I h
  refine Call_ (ld_blt I hg hm boot_enumerate (PyProof.Rows.callWith_type1 ?_ hs rfl))
  rw [hs]
  show wpAny _ _ (spliced ((false, eval (.Call (.Attribute e "items" apos) [] [] cpos) X.env) :: backTo pos [])) _ _ s
  refine Calls.spliced_cons ?_
  refine wpAny_Call_method (T := "dict") (id := "dict.items") hbase rfl hline F.plainAttrs_dict F.slot_dict_items F.type_dict_items (wpAny_mono (he.run pins s σ H _ I h) ?_ fun _ _ z => z)
  rintro u s1 ⟨x, H1, I1, rx, d, o, kvs, rfl, hd, go⟩
  cases rx
  obtain ⟨low, es, ep, dat, raw, len, ent⟩ := entries I1 hd
  obtain ⟨o2, at_, ex_, dat2⟩ := id raw
  refine ⟨raw.typeIs, fun a ea => by cases ea; exact ⟨o2, at_, ex_.2.1⟩, ?_⟩
  let s2 : Shared := { s1 with heap := s1.heap.push { cls := .type "dict_items", data := .fields #[.ref d] } }
  have view : s2.heap.IsItemsView s1.heap.objs.size d := ⟨_, Heap.get?_push_size _ rfl, rfl, rfl⟩
  have raw2 : DT.Raw s2.heap d es ep := raw.push _
  have size2 : s2.heap.objs.size = s1.heap.objs.size + 1 := Heap.size_push ..
  have up2 : ∀ b ob, s1.heap.get? b = some ob → s2.heap.get? b = some ob := fun b ob q => Heap.get?_push_of_some _ q
  show wpAny _ _ (callWith cpos (.builtin "dict.items") [.ref d] [] []) _ X.xe s1
  refine method_meetsIn F.slot_dict_items F.entry_dict_items rfl (PySem.evalArgs_none ⟨rfl, raw.typeIs, F.args_dict_items_1 _, _, DT.meetsItems (es := es) (ep := ep) low, raw, ?_⟩)
  refine Calls.spliced_nil ?_
  show wpAny (model X.prog X.w) X.A (call (.type "enumerate") [.ref s1.heap.objs.size]) _ _ s2
  have size3 : (s2.heap.push (it0 d es.size ep)).objs.size = s2.heap.objs.size + 1 := Heap.size_push ..
  have en : IsEnum ((s2.heap.push (it0 d es.size ep)).push (en0 s2.heap.objs.size)) (s2.heap.objs.size + 1) s2.heap.objs.size 0 .none := by
    rw [← size3]
    exact Heap.get?_push_size _ rfl
  have itr : At ((s2.heap.push (it0 d es.size ep)).push (en0 s2.heap.objs.size)) s2.heap.objs.size d 0 es.size ep := ⟨.none, .bool false, .none, .none, .inl rfl, Heap.get?_push_of_some _ (Heap.get?_push_size _ rfl)⟩
  refine callType_new F.called_enumerate (by decide) (F.typeCall_enumerate_1 _) (F.newCall_enumerate_1 _) (F.args_object_init_2 · _) F.entry_enumerate_new (new_enum s1.heap.objs.size d es ep) ⟨⟨view, raw2⟩, ?_⟩
  rw [size3]
  refine ⟨⟨_, en, rfl⟩, wpAny_pyIter_enum en ?_⟩
  have up4 : ∀ b ob, s1.heap.get? b = some ob → ((s2.heap.push (it0 d es.size ep)).push (en0 s2.heap.objs.size)).get? b = some ob := fun b ob q => Heap.get?_push_of_some _ (Heap.get?_push_of_some _ (up2 b ob q))
  have free : ∀ b ∈ [s2.heap.objs.size + 1, s2.heap.objs.size], FpOk X pins H1 b := fun b hb => by
    have ge : s1.heap.objs.size ≤ b := by
      rcases two hb with q | q <;> rw [q, size2] <;> omega
    exact I1.fpOk ge (I1.hok.fresh ge)
  rw [len] at itr
  exact ⟨_, [s2.heap.objs.size + 1, s2.heap.objs.size], _, ItEn d o kvs, H1, rfl, I1.kept (t' := s1.toks) (by rw [len]; rw [len] at up4; exact up4), turns dat, ⟨⟨.none, by rw [len]; rw [len] at en; exact en⟩, by rw [len]; exact itr, Nat.succ_ne_self _⟩, free, go _ walk_en⟩
end EnI
end
section
set_option Elab.async false
set_option linter.all false
set_option maxRecDepth 100000
/-! dict comprehensions whose keys are tuples -/
namespace DcT
open PySem PySem.Spec PyProof.Rows L2
/-- {k: v for target in iter if ..}, k a tuple of ints or texts: D the new dict -/
def tDcT (wi : TI) (g : TG) (tt : TT) (tk tv : TE) (vs : List Nat) : TE := fun σ H Q => wi σ H fun J H1 => ∀ D, H1 D = none → ∃ W : Nat → Nat → Hp → Prop, (∃ m, W 0 m (upd H1 D (.dT []))) ∧ ∀ i m H, W i m H →
  (J.stop i H ∧ Q (.ref D) H) ∨ (J.go i H ∧ ∃ Nx : Hp → Prop, (∀ H', Nx H' → ∃ m', m' < m ∧ W (i + 1) m' H') ∧ ∀ x H', J.yld i H x H' → g x (wipe σ vs) H' fun σ2 H2 => wipe σ2 vs = wipe σ vs ∧ tt σ2 H2 fun b H3 =>
    if b = true then tk σ2 H3 fun y H4 => tv σ2 H4 fun z H5 => ∃ (kvs : List (List Key × V)) (k : List Key) (b : Addr), y = .ref b ∧ H5 b = some (.tup (k.map kV)) ∧ H5 D = some (.dT kvs) ∧ kvs.length < sizeLine ∧ Nx (upd H5 D (.dT (putK kvs k z))) else Nx H3)
section
variable {X : Cx} {pins : List (Addr × Obj)} {σ : L2.St} {H : Hp} {s : Shared}
theorem store {E : Value → Shared → Prop} {D b : Addr} {kvs : List (List Key × V)} {k : List Key} {v : V} {u r : Value} {Q : Unit → Shared → Prop} (hu : X.A.units + 1 < cLine) (I : Inv X pins σ H s) (hD : H D = some (.dT kvs)) (hb : H b = some (.tup (k.map kV))) (room : kvs.length < sizeLine)
    (ru : RelV (.ref b) u) (rr : RelV v r) (h : ∀ s', Inv X pins σ (upd H D (.dT (putK kvs k v))) s' → Q () s') : wpAny (model X.prog X.w) X.A (dictSet D u r) Q E s := by
  cases ru
  obtain ⟨small, low, ys, rel, at_⟩ := dt_of I.hok hD
  have few : (putK kvs k v).length ≤ sizeLine := Nat.le_trans (length_putK kvs k v) room
  refine wpAny_dictSet_heap (hsz := by rw [← Paired.length rel]; exact small) (show X.A.units < cLine from Nat.lt_of_succ_lt hu) (key_of I.hok hb) at_ fun h' now same => h _ ?_
  obtain ⟨o, es, ep, ho, g2, g3, g4, _, g5⟩ := now
  refine d_write I (by rw [hD]; exact True.intro) same ⟨o, ho⟩ ⟨few, low, _, (rel.put k hb rr).keeps fun c ws ec => ?_, o, es, ep, ho, g2, g3, g4, g5⟩
  rw [upd_ne (ne_of ec hD (fun w => nomatch w))]
  exact ec
theorem core {Q : VK} {kx vx tg iter : Expr} {ifs : List Expr} {scope : Scope} {own : List (Str × Nat)} {pos pos' : Pos} {wi : TI} {g : TG} {tt : TT} {tk tv : TE} {use : Option (Value → Sem Unit)} {Qf : Value → Shared → Prop} (hu : X.A.units + 1 < cLine)
    (calm : X.calm = true) (nd : X.N.Nodup) (I : Inv X pins σ H s) (hi : PI X tg iter wi) (ok : BlkOk X.N X.env.scope scope own)
    (hg : ∀ (s : Shared) (H : Hp) (C : Addr) (cl : List (Str × Addr)) (fp : List Addr), PG (X.blk s H scope (compEnvC scope cl C X.env) fp) tg g)
    (ht : ∀ (s : Shared) (H : Hp) (C : Addr) (cl : List (Str × Addr)) (fp : List Addr), PTs (X.blk s H scope (compEnvC scope cl C X.env) fp) ifs tt)
    (hk : ∀ (s : Shared) (H : Hp) (C : Addr) (cl : List (Str × Addr)) (fp : List Addr), PE (X.blk s H scope (compEnvC scope cl C X.env) fp) kx tk)
    (he : ∀ (s : Shared) (H : Hp) (C : Addr) (cl : List (Str × Addr)) (fp : List Addr), PE (X.blk s H scope (compEnvC scope cl C X.env) fp) vx tv) (hs : ∀ x, foldedSetIterable iter X.env x = pure x)
    (h : tDcT wi g tt tk tv (own.map (·.2)) σ H Q)
    (fin : ∀ D C z m G, Inv X pins σ G z → Q (.ref D) G → z.heap.Ns C m → FpOk X pins G C → compPost (model X.prog X.w) X.A X.xe use Qf (.ref D) C (.ok .next) z) :
    wpAny (model X.prog X.w) X.A (comprehension (.DictComp kx vx [⟨tg, iter, ifs, 0⟩] scope pos) scope X.env pos' newDict false (eval iter X.env) use) Qf X.xe s := by
  have cells : ∀ y ∈ scope.names, y.2 = .free → ∃ c, X.env.cells.lookup y.1 = some c := fun y hy e => (ok.free y hy e).elim (fun q => I.ok.has _ (.inl q)) fun q => I.ok.has _ (.inr q)
  refine wpAny_comprehension_free (use := use) rfl hs (closure_ok cells) ok.kind (fun y hy e => by rw [ok.uniq y hy, e]) (wpAny_mono (hi.run pins s σ H _ I h) (fun xv z1 h1 => wpAny_mono h1 (fun itv z2 h2 => ?_) fun _ _ e => e) fun _ _ e => e)
  obtain ⟨it, fp, tn, J, G2, rfl, J2, T, t2, off2, body⟩ := h2
  refine wpAny_newObj_type (newEnv_comp ?_)
  obtain ⟨D, eD⟩ : ∃ D, z2.heap.objs.size = D := ⟨_, rfl⟩
  rw [eD]
  have nD : G2 D = none := J2.hok.fresh (Nat.le_of_eq eD)
  obtain ⟨W, ⟨m0, start⟩, turn⟩ := body D nD
  obtain ⟨z3, e3⟩ : ∃ z3 : Shared, ({ z2 with heap := z2.heap.push { cls := .type "dict", data := .dict #[] } } : Shared) = z3 := ⟨_, rfl⟩
  rw [e3]
  have hp3 : z3.heap = z2.heap.push { cls := .type "dict", data := .dict #[] } := by rw [← e3]
  have up3 : ∀ b o, z2.heap.get? b = some o → z3.heap.get? b = some o := fun b o q => by rw [hp3]; exact Heap.get?_push_of_some _ q
  have J3 : Inv X pins σ (upd G2 D (.dT [])) z3 := by
    rw [← e3]
    refine J2.laid (t' := z2.toks) (fun b o q => Heap.get?_push_of_some _ q) (Nat.le_of_eq eD) ?_
    rw [← eD]
    exact dt_empty z2.heap J2.big
  have low : ∀ b ∈ fp, b < z2.heap.objs.size := fun b hb => (T.obj _ _ t2 b hb).elim fun o q => Heap.lt_size q.1
  obtain ⟨G3, eG⟩ : ∃ G3, upd G2 D (.dT []) = G3 := ⟨_, rfl⟩
  rw [eG] at J3 start
  have off3 : ∀ b ∈ fp, FpOk X pins G3 b ∧ b < z3.heap.objs.size := fun b hb => by
    have lt := low b hb
    refine ⟨⟨?_, (off2 b hb).2⟩, ?_⟩
    · rw [← eG, upd_ne (fun q => absurd lt (by rw [q, eD]; exact Nat.lt_irrefl _))]
      exact (off2 b hb).1
    · rw [hp3, Heap.size_push]
      exact Nat.lt_succ_of_lt lt
  have J4 := block_start J3 ok nd off3
  have none3 : ∀ b ∈ fp, G3 b = none := fun b hb => (off3 b hb).1.1
  have pg := hg z3 G3 z3.heap.objs.size (cellsFrom (z3.heap.objs.size + 1) scope.names (cloFrom X.env.cells scope.names [])) fp
  have pt := ht z3 G3 z3.heap.objs.size (cellsFrom (z3.heap.objs.size + 1) scope.names (cloFrom X.env.cells scope.names [])) fp
  have pk := hk z3 G3 z3.heap.objs.size (cellsFrom (z3.heap.objs.size + 1) scope.names (cloFrom X.env.cells scope.names [])) fp
  have pe := he z3 G3 z3.heap.objs.size (cellsFrom (z3.heap.objs.size + 1) scope.names (cloFrom X.env.cells scope.names [])) fp
  show codeAny _ _ (.compStart (.DictComp kx vx [⟨tg, iter, ifs, 0⟩] scope pos) 0 (.ref it) (.ref D) (compEnvC scope (cellsFrom (z3.heap.objs.size + 1) scope.names (cloFrom X.env.cells scope.names [])) z3.heap.objs.size X.env)) (compPost (model X.prog X.w) X.A X.xe use Qf (.ref D) z3.heap.objs.size) { z3 with heap := pushCells (z3.heap.push { cls := .type "dict", data := .dict #[] }) scope.names }
  obtain ⟨env, eE⟩ : ∃ env, compEnvC scope (cellsFrom (z3.heap.objs.size + 1) scope.names (cloFrom X.env.cells scope.names [])) z3.heap.objs.size X.env = env := ⟨_, rfl⟩
  have locE : env.locals = z3.heap.objs.size := by rw [← eE]; rfl
  rw [eE] at J4 pg pt pk pe ⊢
  obtain ⟨z4, e4⟩ : ∃ z4 : Shared, ({ z3 with heap := pushCells (z3.heap.push { cls := .type "dict", data := .dict #[] }) scope.names } : Shared) = z4 := ⟨_, rfl⟩
  rw [e4] at J4 ⊢
  have t4 : tn 0 z4.heap := T.keep _ _ _ t2 fun b _ o q => by rw [← e4]; exact pushCells_keeps _ _ _ _ (Heap.get?_push_of_some _ (up3 b o q))
  let Y := X.blk z3 G3 scope env fp
  have stands : ∀ {τ : L2.St} {G : Hp} {z : Shared}, Inv Y [] τ G z → (∀ b ∈ fp, G b = none) → ∀ b ∈ fp, FpOk Y [] G b := fun {τ G z} V hn b hb =>
    ⟨hn b hb, (V.ok.exf b hb).1, V.ok.exfs b hb, .inl hb, fun y c q => (V.ok.exf b hb).2 y c q, fun p hp => absurd (show p ∈ ([] : List (Addr × Obj)) ++ [] from hp) (by simp)⟩
  have loop : codeAny (model X.prog X.w) X.A (.compLoop (.DictComp kx vx [⟨tg, iter, ifs, 0⟩] scope pos) 0 (.ref it) (.ref D) env) (compPost (model X.prog X.w) X.A X.xe use Qf (.ref D) z3.heap.objs.size) z4 := by
    refine compLoop_anyD (fun n z => ∃ i G, Inv Y [] (wipe σ (own.map (·.2))) G z ∧ tn i z.heap ∧ (∀ b ∈ fp, G b = none) ∧ W i n G) ?_ m0 ⟨0, G3, J4, t4, none3, start⟩
    rintro n z5 ⟨i, G5, J5, t5, none5, w5⟩
    rcases turn i n G5 w5 with ⟨stop, last⟩ | ⟨go, Nx, next, step⟩
    · refine wpAny_mono (T.done Y rfl rfl rfl calm i [] z5 _ G5 (fun _ _ => False) J5 (stands J5 none5) t5 stop) ?_ fun _ _ e => e.elim
      rintro r z6 ⟨rfl, J6⟩
      have J7 : Inv X pins σ G5 z6 := J3.call' (ch := fp) J6.os J6.base J6.hok J6.bare fun b hb =>
        let q := (off3 b hb).1
        ⟨q.2.2.2.1, q.2.1, q.2.2.2.2.1, q.2.2.2.2.2⟩
      have nC : G5 z3.heap.objs.size = none := by rw [← locE]; exact J6.free
      obtain ⟨m, hm, _⟩ := J6.loc
      have hm : z6.heap.Ns env.locals m := hm
      rw [locE] at hm
      exact fin D z3.heap.objs.size z6 m G5 J7 last hm (J3.fpOk (Nat.le_refl _) nC)
    · refine wpAny_mono (T.item Y rfl rfl rfl calm i [] z5 _ G5 (fun _ _ => False) J5 (stands J5 none5) t5 go) ?_ fun _ _ e => e.elim
      rintro r z6 ⟨u, rfl, h6⟩
      refine wpAny_mono h6 ?_ fun _ _ e => e.elim
      rintro _ z7 ⟨x, G7, J7, r7, y7, t7, none7⟩
      have P7 := J7.pinned (stands J7 none7) (T.obj _ _ t7)
      refine wpAny_mono (pg.run _ z7 _ G7 x u _ P7 r7 (step x G7 y7)) ?_ fun _ _ e => (show False from e).elim
      rintro _ z8 ⟨τ, G8, J8, same8, q8⟩
      refine wpAny_mono (pt.run _ z8 τ G8 _ J8 q8) ?_ fun _ _ e => (show False from e).elim
      rintro b z9 ⟨G9, J9, q9⟩
      have again : ∀ {z : Shared} {G : Hp}, Inv Y ([] ++ pinsAt fp z7.heap) τ G z → Nx G → ∃ m, m < n ∧ ∃ i G, Inv Y [] (wipe σ (own.map (·.2))) G z ∧ tn i z.heap ∧ (∀ b ∈ fp, G b = none) ∧ W i m G := fun {z G} V nx => by
        obtain ⟨m, lt, w⟩ := next G nx
        have pinned : ∀ b ∈ fp, ∀ o, z7.heap.get? b = some o → z.heap.get? b = some o ∧ G b = none := fun b hb o q =>
          (V.pin (b, o) (List.mem_append_right _ (List.mem_append_right _ (mem_pinsAt hb q)))).imp id fun y => y.1
        have len : (wipe σ (own.map (·.2))).length = τ.length := by rw [← same8, wipe_length]
        refine ⟨m, lt, i + 1, G, (V.unpinned (pins := [])).weak len (fun j v q => ?_), T.keep _ _ _ t7 fun b hb o q => (pinned b hb o q).1, fun b hb => ?_, w⟩
        · rw [← same8] at q
          exact (wipe_some q).1
        · obtain ⟨o, q, _⟩ := T.obj _ _ t7 b hb
          exact (pinned b hb o q).2
      cases b with
      | false =>
        rw [if_neg Bool.false_ne_true] at q9 ⊢
        exact again J9 q9
      | true =>
        rw [if_pos rfl] at q9 ⊢
        refine wpAny_mono (pk.run _ z9 τ G9 _ J9 q9) ?_ fun _ _ e => (show False from e).elim
        rintro u1 z10 ⟨y, G10, J10, r10, q10⟩
        refine wpAny_mono (pe.run _ z10 τ G10 _ J10 q10) ?_ fun _ _ e => (show False from e).elim
        rintro u2 z11 ⟨v, G11, J11, r11, kvs, k, b, rfl, hb, hD, room, nx⟩
        exact store (X := Y) hu J11 hD hb room r10 r11 fun z12 J12 => again J12 nx
  exact codeAny_compStart_dict loop (T.self X.A 0 _ _ _ t4 loop)
theorem pe_dcT {kx vx tg iter : Expr} {ifs : List Expr} {scope : Scope} {own : List (Str × Nat)} {pos : Pos} {wi : TI} {g : TG} {tt : TT} {tk tv : TE} (hu : X.A.units + 1 < cLine) (calm : X.calm = true) (nd : X.N.Nodup) (hi : PI X tg iter wi) (ok : BlkOk X.N X.env.scope scope own)
    (hg : ∀ (s : Shared) (H : Hp) (C : Addr) (cl : List (Str × Addr)) (fp : List Addr), PG (X.blk s H scope (compEnvC scope cl C X.env) fp) tg g)
    (ht : ∀ (s : Shared) (H : Hp) (C : Addr) (cl : List (Str × Addr)) (fp : List Addr), PTs (X.blk s H scope (compEnvC scope cl C X.env) fp) ifs tt)
    (hk : ∀ (s : Shared) (H : Hp) (C : Addr) (cl : List (Str × Addr)) (fp : List Addr), PE (X.blk s H scope (compEnvC scope cl C X.env) fp) kx tk)
    (he : ∀ (s : Shared) (H : Hp) (C : Addr) (cl : List (Str × Addr)) (fp : List Addr), PE (X.blk s H scope (compEnvC scope cl C X.env) fp) vx tv) (hs : ∀ x, foldedSetIterable iter X.env x = pure x := by intro _; rfl) :
    PE X (.DictComp kx vx [⟨tg, iter, ifs, 0⟩] scope pos) (tDcT wi g tt tk tv (own.map (·.2))) := by
  constructor
  intro pins s σ H Q I h
  rw [arm_eval_DictComp]
  refine core hu calm nd I hi ok hg ht hk he hs h fun D C z m G V q hm f => ⟨m, hm, fun h2 sb => ⟨.ref D, G, ?_, rfl, q⟩⟩
  exact V.turned (t' := z.toks) (fun b o hb e => (sb.2 b hb).trans e) f.1 f.2.1 f.2.2.2.1 f.2.2.2.2.1 f.2.2.2.2.2
/-- y = {k: v ..}, y a local name -/
theorem ps_setDcT {i : Nat} {y : Str} {py pos spos : Pos} {kx vx tg iter : Expr} {ifs : List Expr} {scope : Scope} {own : List (Str × Nat)} {wi : TI} {g : TG} {tt : TT} {tk tv : TE} (hu : X.A.units + 1 < cLine) (calm : X.calm = true) (nd : X.N.Nodup) (hy : X.N[i]? = some y) (loc : X.env.scope.names.lookup y = some .local)
    (sw : swapsWith (.DictComp kx vx [⟨tg, iter, ifs, 0⟩] scope pos) (some (.Name y py)) spos.line X.env = pure true) (hi : PI X tg iter wi) (ok : BlkOk X.N X.env.scope scope own)
    (hg : ∀ (s : Shared) (H : Hp) (C : Addr) (cl : List (Str × Addr)) (fp : List Addr), PG (X.blk s H scope (compEnvC scope cl C X.env) fp) tg g)
    (ht : ∀ (s : Shared) (H : Hp) (C : Addr) (cl : List (Str × Addr)) (fp : List Addr), PTs (X.blk s H scope (compEnvC scope cl C X.env) fp) ifs tt)
    (hk : ∀ (s : Shared) (H : Hp) (C : Addr) (cl : List (Str × Addr)) (fp : List Addr), PE (X.blk s H scope (compEnvC scope cl C X.env) fp) kx tk)
    (he : ∀ (s : Shared) (H : Hp) (C : Addr) (cl : List (Str × Addr)) (fp : List Addr), PE (X.blk s H scope (compEnvC scope cl C X.env) fp) vx tv) (hs : ∀ x, foldedSetIterable iter X.env x = pure x := by intro _; rfl) :
    PS X (.Assign [.Name y py] (.DictComp kx vx [⟨tg, iter, ifs, 0⟩] scope pos) spos) (tAsg (tDcT wi g tt tk tv (own.map (·.2))) (gName i)) := by
  constructor
  intro pins s σ H W I h
  rw [exec_Assign_Name_used _ _ _ _ sw]
  refine wpAny_bind (wpAny_standAt (wpAny_bind ?_))
  show wpAny _ X.A (do let _ ← comprehension (.DictComp kx vx [⟨tg, iter, ifs, 0⟩] scope pos) scope X.env (firstIterPos [⟨tg, iter, ifs, 0⟩] pos) newDict false (eval iter X.env) (some (assign (.Name y py) X.env))) _ _ s
  have h : tDcT wi g tt tk tv (own.map (·.2)) σ H (fun x H1 => gName i x σ H1 W.nx) := h
  refine wpAny_bind (wpAny_mono (core (Qf := fun _ z => SP X pins W .next z) hu calm nd I hi ok hg ht hk he hs h fun D C z m G VI q hm f => ?_) (fun _ z hq => wpAny_pure (wpAny_pure hq)) fun _ _ e => e)
  show wpAny _ _ (assign (.Name y py) X.env (.ref D)) _ _ _
  refine wpAny_assign_Name (store_ok2 (v := V.ref D) VI nd hy (.inl loc) rfl (fun z2 V2 ⟨a, sb, ha⟩ => ?_) (.inr loc))
  have apart : C ≠ a := ha.elim (fun q => by rw [q]; exact f.2.1) fun q e => f.2.2.2.2.1 y a q e.symm
  exact ⟨m, hm.sameBut sb apart, fun h3 sb3 => ⟨_, G, V2.turned (t' := z2.toks) (fun b o hb e => (sb3.2 b hb).trans e) f.1 f.2.1 f.2.2.2.1 f.2.2.2.2.1 f.2.2.2.2.2, q⟩⟩
theorem swD {kx vx : Expr} {gs : List Comprehension} {scope : Scope} {pos py : Pos} {y : Str} {l : Nat} {env : Env} (hk : env.scope.kind = .function) (hy : env.scope.names.lookup y = some .local) (hl : (py.line == pos.line) = true)
    (ha : (scope.names.any fun (n, k) => n == y && (k == .local || k == .cell)) = false) : swapsWith (.DictComp kx vx gs scope pos) (some (.Name y py)) l env = pure true := by
  have k1 : env.kindOf y = some .local := hy
  have k2 : env.blockKind = .function := by unfold Env.blockKind; rw [hk]; rfl
  unfold swapsWith
  simp only [k2, k1, ha, Expr.pos, hl]
  rfl
end
end DcT
end
section
set_option Elab.async false
set_option linter.all false
set_option maxRecDepth 100000
/-! the edges that leave and that enter a state, where nothing is raised -/
namespace Lw
open PySem L2
abbrev sLeaving : Stmt := inClass (top 34) 10
abbrev sCheckState : Stmt := inClass (top 34) 12
/-! ### numbers of edges that are chosen -/
def sel (f : Int × Int → Bool) (ps : List (Int × Int)) (i : Nat) : List Int := ((List.range i).filter fun j => (ps[j]?.map f).getD false).map fun j : Nat => (j : Int)
theorem sel_succ {f : Int × Int → Bool} {ps : List (Int × Int)} {i : Nat} {p : Int × Int} (h : ps[i]? = some p) : sel f ps (i + 1) = if f p = true then sel f ps i ++ [(i : Int)] else sel f ps i := by
  unfold sel
  rw [List.range_succ, List.filter_append, List.map_append]
  by_cases hf : f p = true
  · rw [if_pos hf]
    simp [h, hf]
  · rw [if_neg hf]
    simp [h, hf]
theorem sel_len (f : Int × Int → Bool) (ps : List (Int × Int)) (i : Nat) : (sel f ps i).length ≤ i := by
  unfold sel
  rw [List.length_map]
  refine Nat.le_trans (List.length_filter_le _ _) ?_
  simp
def spState0 (C : Addr) : Sp := fun vs H Q _ => ∃ (g : Addr) (n : Int) (us : Es) (i : Int), vs = [.ref g, .int i] ∧ GraphAt C H g n us ∧ 0 ≤ i ∧ i < n ∧ Q .non H
def spAll (C : Addr) (f : Int → Int × Int → Bool) : Sp := fun vs H Q _ => ∃ (g : Addr) (n : Int) (us : Es) (i : Int), vs = [.ref g, .int i] ∧ GraphAt C H g n us ∧ 0 ≤ i ∧ i < n ∧ us.length ≤ 1000 ∧
  ∀ p H', Same H H' → H p = none → H' p = some (.lst ((sel (f i) (psOf us) us.length).map V.int)) → Q (.ref p) H'
abbrev fstIs (i : Int) (p : Int × Int) : Bool := decide (p.1 = i)
abbrev sndIs (i : Int) (p : Int × Int) : Bool := decide (p.2 = i)
section
variable {P : Program} {w : World} {K : PySem.W.Frag} {mg : Str → Option Value} {base : Heap}
theorem scCheckState : FnScope ["self", "state"] ["self", "state"] (defScope sCheckState) := ⟨rfl, rfl, rfl, by decide +kernel, rfl, by decide +kernel, by decide +kernel⟩
theorem ok_state0 {f C : Addr} {mc : Value} {fd : FuncData} {k : Nat} (F : Fun K "check_state" "Graph.check_state" sCheckState f fd) (G : GTxt K mg C mc) : FnOk P w K mg base CX0 (k + 1) f fd ["self", "state"] (spState0 C) := by
  refine F.ok scCheckState (fun vs H Q E h => ?_) (fun cdv A outer s H vs Q E hr h => ?_)
  · obtain ⟨g, n, us, i, rfl, _⟩ := h
    rfl
  · obtain ⟨g, n, us, i, rfl, ⟨⟨dx, t, h1, h2⟩, ed⟩, h0, hn, q⟩ := h
    refine ⟨_, pss_one (ps_if (pt_not (pt_chain op_le op_lt pe_int (pv 1) (pe_fld (pv 0) rfl))) (pss_one ps_never) pss_nil), ?_⟩
    refine ⟨_, rfl, _, _, rfl, rfl, _, rfl, if_t (decide_eq_true h0) ⟨_, rfl, g, C, dx, _, _, rfl, h1, G.cl, G.nS, look_s _ _, _, _, rfl, rfl, _, rfl, if_f (by rw [decide_eq_true hn]; rfl) q⟩⟩
theorem scLeaving : FnScope ["self", "state", "number", "edge"] ["self", "state"] (defScope sLeaving) := ⟨rfl, rfl, rfl, by decide +kernel, rfl, by decide +kernel, by decide +kernel⟩
theorem dec_of_int {i j : Int} : decide (V.int i = V.int j) = decide (i = j) := by
  by_cases h : i = j
  · rw [h, decide_eq_true rfl, decide_eq_true rfl]
  · rw [decide_eq_false h, decide_eq_false (fun z => h (by injection z))]
set_option maxHeartbeats 4000000 in
theorem ok_leaving0 {f C : Addr} {mc : Value} {fd : FuncData} {k : Nat} (F : Fun K "leaving" "Graph.leaving" sLeaving f fd) (G : GTxt K mg C mc) (cS : C8.Met P w K mg base 1 C "check_state" (spState0 C) []) : FnOk P w K mg base CX0 (k + 2) f fd ["self", "state"] (spAll C fstIs) := by
  refine F.ok scLeaving (fun vs H Q E h => ?_) (fun cdv A outer s H vs Q E hr h => ?_)
  · obtain ⟨g, n, us, i, rfl, _⟩ := h
    rfl
  · obtain ⟨g, n, us, i, rfl, GA, h0, hn, hl, q⟩ := h
    obtain ⟨⟨dx, t, h1, h2⟩, ed⟩ := id GA
    refine ⟨_, pss_cons (ps_expr (C8.pe_mt cS hr (Nat.le_add_left 1 k) (pv 0) (pa_cons (pv 1) pa_nil)))
      (pss_one (ps_ret (pe_lc (own := [("number", 2), ("edge", 3)]) (g := gTup K 2 (gCons (gName 2) (gCons (gName 3) gNil))) (tt := tTest (tOp rEq (tOp (rIxT K) (tVar 3) (tC (.int 0))) (tVar 1))) (te := tVar 2) rfl scLeaving.nd (pi_enumA (by rfl) G.enum (pa_cons (pe_fld (pv 0) rfl) pa_nil))
          (blkOk_by (N := ["self", "state", "number", "edge"]) (sc := defScope sLeaving) (by decide +kernel))
          (fun _ _ _ _ _ => by exact pg_tup rfl (pgs_cons (pg_name (i := 2) scLeaving.nd rfl (Or.inl rfl)) (pgs_cons (pg_name (i := 3) scLeaving.nd rfl (Or.inl rfl)) pgs_nil)))
          (fun _ _ _ _ _ => by exact pts_one (pt_cmpR op_eq (pe_ix ix_tup (pv 3) pe_int (fun _ _ => rfl)) (pv 1) (nomark _)))
          (fun _ _ _ _ _ => by exact pv 2)))), ?_⟩
    refine ⟨_, rfl, g, dx, _, rfl, h1, look_no _ _ (by decide +kernel) (by decide +kernel), _, rfl, g, n, us, i, rfl, GA, h0, hn, ?_⟩
    refine ⟨_, rfl, g, C, dx, _, _, rfl, h1, G.cl, G.nE, look_e _ _, t, vsOf us, SqT, rfl, .inr rfl, SqT.of h2, fun J w D hD => ?_⟩
    refine lc_it w (fun j H' => Same H H' ∧ H' D = some (.lst ((sel (fstIs i) (psOf us) j).map V.int))) ⟨same_upd hD, upd_same⟩ (fun j H' _ p => SqT.of (p.1 _ _ h2)) ?_ ?_
    · rintro j x H1 H' hj ⟨sm, eD⟩ ⟨Ta, x, y, rfl, hT, rfl, gx, gy⟩
      obtain ⟨e, he, rfl⟩ := vsOf_at gy
      have ex : x = .int (j : Nat) := (Option.some.inj gx).symm
      subst ex
      have s1 := sm.trans (same_upd (o := .tup [.int (j : Nat), .ref e.1]) hT)
      have mem : e ∈ us := List.mem_of_getElem? he
      have eD1 := same_upd (o := .tup [.int (j : Nat), .ref e.1]) hT _ _ eD
      refine ⟨Ta, _, rfl, SqT.of upd_same, rfl, _, _, rfl, _, _, rfl, rfl, rfl, ?_⟩
      refine ⟨_, rfl, e.1, _, _, _, rfl, rfl, SqT.of (s1 _ _ (ed e mem)), at0, _, rfl, rfl, _, rfl, ?_⟩
      rw [dec_of_int, sel_succ (psOf_at he)]
      by_cases hc : e.2.1 = i
      · refine if_t (decide_eq_true hc) ?_
        rw [if_pos (decide_eq_true hc)]
        refine ⟨_, rfl, _, eD1, ?_, ?_, ?_⟩
        · rw [List.length_map]
          exact small1000 (Nat.le_trans (sel_len _ _ _) (by rw [vsOf_len] at hj; omega))
        · intro c o ec
          rw [upd_ne (ne_of_none ec hD)]
          exact s1 _ _ ec
        · rw [upd_same, List.map_append]
          rfl
      · refine if_f (decide_eq_false hc) ?_
        rw [if_neg (fun z => hc (of_decide_eq_true z))]
        exact ⟨s1, eD1⟩
    · rintro H1 ⟨sm, eD⟩
      rw [vsOf_len] at eD
      exact q D H1 sm hD eD
end
end Lw
end
section
set_option Elab.async false
set_option linter.all false
set_option maxRecDepth 100000
/-! ==, != and in of an object whose class has its own __eq__, whatever that answers -/
namespace Lw
open PySem PySem.Spec PyProof.Rows L2
section
variable {X : Cx} {n : Nat} {A : Around} {pins : List (Addr × Obj)} {s : Shared} {σ : L2.St} {H : Hp} {CX : CXT} {C f : Addr} {fd : FuncData} {ps : List Str} {sp : Sp} {E : XK}
/-- what comes back of a def: a value and a heap -/
def BackV (X : Cx) (pins : List (Addr × Obj)) (σ : L2.St) (Q : VK) : Value → Shared → Prop := fun u s' => ∃ v H', Inv X pins σ H' s' ∧ RelV v u ∧ Q v H'
theorem run_own {vs : List V} {us : List Value} {Q : VK} (F : FnOk X.prog X.w X.K X.mg X.base CX n f fd ps sp) (hb : Binds X.K fd ps []) (hx : Passes CX X E) (sb : L2.Sub X n A) (I : Inv X pins σ H s) (r : Vals vs us)
    (hsp : sp vs H Q E) : wpAny (model X.prog X.w) A (call (.ref f) us) (BackV X pins σ Q) X.xe s := by
  have e0 : Env0 X.prog X.w X.K X.mg X.base A X.stack s H := by
    have e := I.env0
    exact ⟨by rw [sb.fr]; exact e.frames, e.mod, e.bs, e.bsz, e.funs, e.frf, e.hok, e.bare⟩
  have hl := F.len _ _ _ _ hsp
  refine wpAny_call (codeAny_mono (F.run A X.stack s H ⟨us, []⟩ us vs _ E sb.room e0 (by
    have := hb s us I.kIn (by rw [List.append_nil, ← r.length]; exact hl)
    simpa using this) r hsp) fun r s' hq => ?_)
  cases r with
  | error e => exact hx pins σ H s e s' I hq
  | ok fl =>
    cases fl with
    | ret w =>
      obtain ⟨z, H', I', rz, ez⟩ := I.after hq
      exact ⟨z, H', I', rz, ez⟩
    | next => exact False.elim hq
    | brk => exact False.elim hq
    | cont => exact False.elim hq
theorem back_bool {Q : VK} {u : Value} {s' : Shared} (h : BackV X pins σ (fun v H' => ∃ b, v = .bl b ∧ Q (.bl b) H') u s') : ∃ b H', u = .bool b ∧ Inv X pins σ H' s' ∧ Q (.bl b) H' := by
  obtain ⟨v, H', I', rv, b, rfl, q⟩ := h
  cases rv
  exact ⟨b, H', rfl, I', q⟩
/-- own == of an object at a and any value of a known type that is not of a subclass -/
theorem rc_own {a dx : Addr} {fs : List (Str × V)} {y : V} {v tb : Value} {Q : VK} (F : FnOk X.prog X.w X.K X.mg X.base CX n f fd ps sp) (hs : PySem.W.findIn X.K (.ref C) "__eq__" = some (some (.ref f))) (hf : PySem.W.isFn X.K (.ref f) = true)
    (hb : Binds X.K fd ps []) (hx : Passes CX X E) (sb : L2.Sub X n A) (I : Inv X pins σ H s) (ha : H a = some (.ins C dx fs)) (ry : RelV y v) (ty : PySem.W.Looks (model X.prog X.w) s.heap (typeOf v) tb) (nf : PySem.W.notFirst X.K C tb = true)
    (hsp : sp [.ref a, y] H (fun v H' => ∃ b, v = .bl b ∧ Q (.bl b) H') E) : wpAny (model X.prog X.w) A (richCompare .Eq (.ref a) v) (fun u s' => ∃ b H', u = .bool b ∧ Inv X pins σ H' s' ∧ Q (.bl b) H') X.xe s := by
  obtain ⟨mA, J, _⟩ := ins_get I.hok ha
  obtain ⟨od, J, _⟩ := J.look
  obtain ⟨m, hF⟩ := I.fr
  refine PySem.W.cmp_K (op := .Eq) (tb := tb) sb.room.units0 hF I.ok.mod.kin J ty nf hs hf ?_
  refine wpAny_mono (run_own F hb hx sb I (.cons (show RelV (.ref a) (.ref a) from rfl) (.cons ry .nil)) hsp) (fun u s' h => ?_) fun _ _ e => e
  obtain ⟨b, H', rfl, I', q⟩ := back_bool h
  exact ⟨b, H', rfl, I', q⟩
/-- x == y, both objects of the class at C -/
def rEqO (C : Addr) (sp : Sp) (E : XK) : R2 := fun x y H Q => ∃ a b dx dy fs gs, x = .ref a ∧ y = .ref b ∧ H a = some (.ins C dx fs) ∧ H b = some (.ins C dy gs) ∧ sp [x, y] H (fun v H' => ∃ c, v = .bl c ∧ Q (.bl c) H') E
theorem op_eqO (F : FnOk X.prog X.w X.K X.mg X.base CX n f fd ps sp) (hs : PySem.W.findIn X.K (.ref C) "__eq__" = some (some (.ref f))) (hf : PySem.W.isFn X.K (.ref f) = true) (hb : Binds X.K fd ps []) (hx : Passes CX X E) (hr : Room n X.A) :
    OpR X (compareOp .Eq) (rEqO C sp E) := by
  intro pins s σ H x y v u Q I rx ry h
  obtain ⟨a, b, dx, dy, fs, gs, rfl, rfl, ha, hb', hsp⟩ := h
  cases rx
  cases ry
  obtain ⟨mB, J', _⟩ := ins_get I.hok hb'
  obtain ⟨od', J', _⟩ := J'.look
  refine wpAny_mono (rc_own (tb := .ref C) F hs hf hb hx ⟨hr, rfl⟩ I ha (y := .ref b) rfl J'.type (by simp [PySem.W.notFirst]) hsp) (fun u s' h => ?_) fun _ _ e => e
  obtain ⟨b, H', rfl, I', q⟩ := h
  exact ⟨.bl b, H', I', rfl, q⟩
/-- x != y, both objects of the class at C, which has no __ne__ of its own -/
def rNeO (C : Addr) (sp : Sp) (E : XK) : R2 := fun x y H Q => ∃ a b dx dy fs gs, x = .ref a ∧ y = .ref b ∧ H a = some (.ins C dx fs) ∧ H b = some (.ins C dy gs) ∧ sp [x, y] H (fun v H' => ∃ c, v = .bl c ∧ Q (.bl (!c)) H') E
theorem ne_body {s : Shared} {a b : Addr} {ox : Obj} {od : Option Obj} {M : Model} {Q : Fin → Shared → Prop} {Er : Value → Shared → Prop} (kin : X.K.In s.heap) (J : PySem.W.InstAt s.heap a ox C od) (hs : PySem.W.findIn X.K (.ref C) "__eq__" = some (some (.ref f))) (hf : PySem.W.isFn X.K (.ref f) = true) (hu : A.units < cLine)
    (h : wpAny M A (call (.ref f) [.ref a, .ref b]) (fun u s' => ∃ c, u = .bool c ∧ Q (.done (.ret (.bool (!c)))) s') Er s) : wpAny M A (Builtin.«object.__ne__» ⟨[.ref a, .ref b], []⟩) Q Er s := by
  unfold Builtin.«object.__ne__»
  repeat (first
    | with_reducible refine wpAny_cRoomFor hu ?_
    | (refine wpAny_bind (m := callSpecialIfBound? (.ref a) (Str.ofString "__eq__") [.ref b])
        (PySem.W.ifBound_K kin J hs hf (wpAny_mono h (fun r s' hr => by
          obtain ⟨c, rfl, hq⟩ := hr
          repeat (first | exact hq | exact wpAny_pure hq | exact wpAny_truthy_bool hq | (refine wpAny_bind (m := truthy (.bool _)) (wpAny_truthy_bool ?_)) | wp_step)) fun _ _ e => e)))
    | wp_step)
theorem op_neO {nm q : Str} {N : Addr} {bs : List Value} {hdct : Bool} {sn : List Str} {sub : List Value} {ab : Bool} {col : Option Bool} {dd : Option Addr} {k0 k1 k2 k3 k5 : Option Value} {newId : String}
    (F : FnOk X.prog X.w X.K X.mg X.base CX n f fd ps sp) (hs : PySem.W.findIn X.K (.ref C) "__eq__" = some (some (.ref f))) (hf : PySem.W.isFn X.K (.ref f) = true) (hne : PySem.W.findIn X.K (.ref C) "__ne__" = some (some (.builtin "object.__ne__")))
    (hC : X.K.lookup C = some (excClassObj nm q C N bs [.type "object"] hdct sn sub ab col dd k0 k1 k2 k3 k5 newId)) (hb : Binds X.K fd ps []) (hx : Passes CX X E) (hr : Room (n + 1) X.A) :
    OpR X (compareOp .NotEq) (rNeO C sp E) := by
  intro pins s σ H x y v u Q I rx ry h
  obtain ⟨a, b, dx, dy, fs, gs, rfl, rfl, ha, hb', hsp⟩ := h
  cases rx
  cases ry
  obtain ⟨mA, J, _⟩ := ins_get I.hok ha
  obtain ⟨od, J, _⟩ := J.look
  obtain ⟨mB, J', _⟩ := ins_get I.hok hb'
  obtain ⟨od', J', _⟩ := J'.look
  have kin := I.kIn
  have un := hr.un
  have hu1 : X.A.units + 1 < cLine := by omega
  have run := run_own (A := X.A.in1) F hb hx (L2.Sub.in1 (X := X) (n := n) (A := X.A) ⟨hr, rfl⟩) I (.cons (show RelV (.ref a) (.ref a) from rfl) (.cons (show RelV (.ref b) (.ref b) from rfl) .nil)) hsp
  show wpAny (model X.prog X.w) X.A (richCompare .NotEq (.ref a) (.ref b)) (EP X pins σ Q) X.xe s
  unfold richCompare
  simp only [oneThing_ref]
  refine wpAny_holding (wpAny_bind (wpAny_cRoomFor (Nat.lt_of_succ_lt hu1) ?_))
  refine wpAny_bind (J.type.here (wpAny_bind (J'.type.here ?_)))
  rw [show (Value.ref C != Value.ref C) = false from by simp]
  simp only [Bool.false_eq_true, if_false]
  refine wpAny_bind (wpAny_pure ?_)
  simp only [Bool.false_eq_true, if_false]
  have one : wpAny (model X.prog X.w) X.A (tryCompare (.ref a) (cmpInfo .NotEq).2.1 (.ref b)) (fun r s' => ∃ v, r = some v ∧ EP X pins σ Q v s') X.xe s := by
    unfold tryCompare
    refine wpAny_bind ?_
    simp only [callSpecialIfBound?, bindSpecialIfBound?]
    refine wpAny_holding (wpAny_bind (wpAny_bind (wpAny_bind (J.type.here ((PySem.W.looks_findIn kin hne).here ?_)))))
    simp only [PySem.F.cmp_object.ne.bind]
    refine wpAny_bind (wpAny_askSetting (wpAny_ite ?_))
    have fin : wpAny (model X.prog X.w) X.A (call (.builtin "object.__ne__") ([.ref a] ++ [.ref b])) (fun v s' => wpAny (model X.prog X.w) X.A (match (some v : Option Value) with
        | some .notImplemented | none => pure none
        | some v => pure (some v)) (fun r s' => ∃ v, r = some v ∧ EP X pins σ Q v s') X.xe s') X.xe s := by
      obtain ⟨hp, g, d, t, os⟩ := s
      refine wpAny_call (codeAny_call_builtin PySem.F.cmp_object.ne.plain PySem.F.cmpEntry_ne (wpAny_check_slot_inst PySem.F.cmpKind_ne PySem.F.cmpSplit_ne (PySem.F.cmpArgs_ne _ _) PySem.F.cmp_object.hasObject J.at_ J.cls (kin _ _ hC) ?_))
      refine ne_body (A := X.A.in1) kin J hs hf (by exact hu1) (wpAny_mono run (fun u s' h => ?_) fun _ _ e => e)
      obtain ⟨v, H', I', rv, c, rfl, q⟩ := h
      cases rv
      exact ⟨c, rfl, wpAny_pure ⟨_, rfl, .bl (!c), H', I', rfl, q⟩⟩
    split
    · exact wpAny_bind (wpAny_pure (wpAny_pure (wpAny_bind (wpAny_mono fin (fun v s' h => wpAny_pure h) fun _ _ e => e))))
    · exact wpAny_tryCatch (wpAny_bind (wpAny_pure (wpAny_pure (wpAny_bind (wpAny_mono fin (fun v s' h => wpAny_pure h) fun _ _ e => e)))))
  refine wpAny_bind (wpAny_mono one (fun r s' z => ?_) fun _ _ e => e)
  obtain ⟨v, rfl, hq⟩ := z
  exact wpAny_pure hq
end
end Lw
end
section
set_option Elab.async false
set_option linter.all false
set_option maxRecDepth 100000
namespace Lw
open PySem PySem.Spec PyProof.Rows L2
section
variable {X : Cx} {n : Nat} {CX : CXT} {C f : Addr} {fd : FuncData} {ps : List Str} {sp : Sp} {E : XK}
/-- len of an object with its own __len__ -/
def rLenO (C : Addr) (sp : Sp) (E : XK) : List V → Hp → VK → Prop := fun xs H Q => ∃ (a dx : Addr) (fs : List (Str × V)), xs = [.ref a] ∧ H a = some (.ins C dx fs) ∧ sp [.ref a] H (fun v H' => ∃ n : Int, v = .int n ∧ (0 ≤ n ∧ n < 2 ^ 63) ∧ Q (.int n) H') E
theorem call_lenO (F : FnOk X.prog X.w X.K X.mg X.base CX n f fd ps sp) (hs : PySem.W.findIn X.K (.ref C) "__len__" = some (some (.ref f))) (hf : PySem.W.isFn X.K (.ref f) = true) (hb : Binds X.K fd ps []) (hx : Passes CX X E) (hr : Room (n + 1) X.A) :
    CallR X (.builtin "len") (rLenO C sp E) := by
  intro pins s σ H xs us Q I r h
  obtain ⟨a, dx, fs, rfl, ha, hsp⟩ := h
  cases r with
  | cons r rr =>
    cases rr
    cases r
    obtain ⟨mA, J, _⟩ := ins_get I.hok ha
    obtain ⟨od, J, _⟩ := J.look
    obtain ⟨m, hF⟩ := I.fr
    refine PySem.W.len_K hF I.ok.mod.kin J hs hf (wpAny_mono (run_own (A := X.A.in1) F hb hx (L2.Sub.in1 (X := X) (n := n) (A := X.A) ⟨hr, rfl⟩) I (.cons (show RelV (.ref a) (.ref a) from rfl) .nil) hsp) (fun u s' h => ?_) fun _ _ e => e)
    obtain ⟨v, H', I', rv, k, rfl, hk, q⟩ := h
    obtain ⟨t, rfl⟩ := rv
    exact ⟨hk, .int k, H', I'.tok _, ⟨_, rfl⟩, q⟩
/-- repr of an object with its own __repr__ -/
def rReprO (C : Addr) (sp : Sp) (E : XK) : List V → Hp → VK → Prop := fun xs H Q => ∃ (a dx : Addr) (fs : List (Str × V)), xs = [.ref a] ∧ H a = some (.ins C dx fs) ∧ sp [.ref a] H (fun v H' => ∃ x : Str, v = .str x ∧ Q (.str x) H') E
theorem call_reprO (F : FnOk X.prog X.w X.K X.mg X.base CX n f fd ps sp) (hs : PySem.W.findIn X.K (.ref C) "__repr__" = some (some (.ref f))) (hf : PySem.W.isFn X.K (.ref f) = true) (hb : Binds X.K fd ps []) (hx : Passes CX X E) (hr : Room (n + 1) X.A) :
    CallR X (.builtin "repr") (rReprO C sp E) := by
  intro pins s σ H xs us Q I r h
  obtain ⟨a, dx, fs, rfl, ha, hsp⟩ := h
  cases r with
  | cons r rr =>
    cases rr
    cases r
    obtain ⟨mA, J, _⟩ := ins_get I.hok ha
    obtain ⟨od, J, _⟩ := J.look
    obtain ⟨m, hF⟩ := I.fr
    have un := hr.un
    refine PySem.W.repr_K (by show X.A.units + 1 < cLine; omega) hF I.ok.mod.kin J hs hf (wpAny_mono (run_own (A := X.A.in1) F hb hx (L2.Sub.in1 (X := X) (n := n) (A := X.A) ⟨hr, rfl⟩) I (.cons (show RelV (.ref a) (.ref a) from rfl) .nil) hsp) (fun u s' h => ?_) fun _ _ e => e)
    obtain ⟨v, H', I', rv, x, rfl, q⟩ := h
    obtain ⟨t, rfl⟩ := rv
    exact ⟨.str x, H', I', ⟨_, rfl⟩, q⟩
end
end Lw
end
section
set_option Elab.async false
set_option linter.all false
/-! rows as sequences, and their normal form -/
namespace Lw
/-- the edge at a place -/
def sq (xs ys : List Int) (i : Nat) : Int := if i < xs.length then xs.getD i 0 else ys.getD ((i - xs.length) % ys.length) 0
def Per (s : Nat → Int) (m p : Nat) : Prop := ∀ i, m ≤ i → s i = s (i + p)
structure IsNF (s : Nat → Int) (m p : Nat) : Prop where
  p1 : 1 ≤ p
  per : Per s m p
  minp : ∀ m' p', 1 ≤ p' → Per s m' p' → p ≤ p'
  minm : ∀ m', Per s m' p → m ≤ m'
theorem IsNF.uniq {s : Nat → Int} {m p m' p' : Nat} (h : IsNF s m p) (h' : IsNF s m' p') : m = m' ∧ p = p' := by
  have e : p = p' := Nat.le_antisymm (h.minp m' p' h'.p1 h'.per) (h'.minp m p h.p1 h.per)
  subst e
  exact ⟨Nat.le_antisymm (h.minm m' h'.per) (h'.minm m h.per), rfl⟩
/-- the first n from m on -/
def seg (s : Nat → Int) (m n : Nat) : List Int := (List.range n).map fun k => s (m + k)
theorem seg_len (s : Nat → Int) (m n : Nat) : (seg s m n).length = n := by
  unfold seg
  simp
theorem seg_get (s : Nat → Int) (m n k : Nat) (h : k < n) : (seg s m n).getD k 0 = s (m + k) := by
  unfold seg
  simp [List.getD, h]
theorem seg_get? (s : Nat → Int) (m n k : Nat) (h : k < n) : (seg s m n)[k]? = some (s (m + k)) := by
  unfold seg
  simp [h]
theorem Per.mono {s : Nat → Int} {m m' p : Nat} (h : Per s m p) (hm : m ≤ m') : Per s m' p := fun i hi => h i (Nat.le_trans hm hi)
theorem Per.mul {s : Nat → Int} {m p : Nat} (h : Per s m p) : ∀ (k i : Nat), m ≤ i → s i = s (i + k * p)
  | 0, i, _ => by simp
  | k + 1, i, hi => by
    rw [h.mul k i hi, h (i + k * p) (by omega)]
    congr 1
    rw [Nat.succ_mul]
    omega
/-- the tail of a row is periodic -/
theorem sq_per (xs ys : List Int) (hy : ys ≠ []) : Per (sq xs ys) xs.length ys.length := fun i hi => by
  have h0 : 0 < ys.length := List.length_pos_iff.mpr hy
  unfold sq
  rw [if_neg (by omega), if_neg (by omega), show i + ys.length - xs.length = (i - xs.length) + ys.length by omega, Nat.add_mod_right]
/-- two places behind m that differ by a multiple of p -/
theorem Per.cong {s : Nat → Int} {m p : Nat} (h : Per s m p) (hp : 0 < p) {i j : Nat} (hi : m ≤ i) (hj : m ≤ j) (e : i % p = j % p) : s i = s j := by
  rcases Nat.le_total i j with hij | hij
  · have : j = i + ((j - i) / p) * p := by
      have h1 : (j - i) % p = 0 := Nat.sub_mod_eq_zero_of_mod_eq e.symm
      have h2 := Nat.div_add_mod (j - i) p
      rw [h1, Nat.mul_comm] at h2
      omega
    rw [this]
    exact h.mul _ i hi
  · have : i = j + ((i - j) / p) * p := by
      have h1 : (i - j) % p = 0 := Nat.sub_mod_eq_zero_of_mod_eq e
      have h2 := Nat.div_add_mod (i - j) p
      rw [h1, Nat.mul_comm] at h2
      omega
    rw [this]
    exact (h.mul _ j hj).symm
/-- a period that holds somewhere holds from where the row repeats -/
theorem Per.back {s : Nat → Int} {h n m p : Nat} (t : Per s h n) (hn : 0 < n) (q : Per s m p) : Per s h p := fun i hi => by
  have e1 := t.mul m i hi
  have e2 := t.mul m (i + p) (by omega)
  have hm : m ≤ i + m * n := by
    have : m ≤ m * n := Nat.le_mul_of_pos_right m hn
    omega
  rw [e1, e2, q (i + m * n) hm]
  congr 1
  omega
/-- the least period divides every period of the tail -/
theorem least_dvd {s : Nat → Int} {h n p : Nat} (t : Per s h n) (q : Per s h p) (hp : 0 < p) (hmin : ∀ p', 1 ≤ p' → Per s h p' → p ≤ p') : n % p = 0 := by
  by_cases hz : n % p = 0
  · exact hz
  · exfalso
    have hr : Per s h (n % p) := fun i hi => by
      have e1 := q.mul (n / p) (i + n % p) (by omega)
      have e2 := Nat.div_add_mod n p
      rw [e1, t i hi]
      congr 1
      rw [Nat.mul_comm] at e2
      omega
    have := hmin (n % p) (by omega) hr
    have := Nat.mod_lt n hp
    omega
/-- a least period and a least beginning give the normal form -/
theorem nf_of {s : Nat → Int} {h n m p : Nat} (t : Per s h n) (hn : 0 < n) (hp : 1 ≤ p) (hmin : ∀ p', 1 ≤ p' → Per s h p' → p ≤ p') (q : Per s m p) (hm : ∀ m', Per s m' p → m ≤ m') : IsNF s m p :=
  ⟨hp, q, fun m' p' h1 q' => hmin p' h1 (t.back hn q'), hm⟩
/-- the row of a normal form is the same row -/
theorem sq_seg {s : Nat → Int} {m p : Nat} (hp : 0 < p) (q : Per s m p) : sq (seg s 0 m) (seg s m p) = s := by
  funext i
  unfold sq
  rw [seg_len, seg_len]
  by_cases hi : i < m
  · rw [if_pos hi, seg_get s 0 m i hi, Nat.zero_add]
  · rw [if_neg hi, seg_get s m p _ (Nat.mod_lt _ hp)]
    refine q.cong hp (Nat.le_add_right _ _) (by omega) ?_
    rw [Nat.add_mod, Nat.mod_mod, ← Nat.add_mod, show m + (i - m) = i by omega]
/-- the tail's period, seen in a window of one turn -/
theorem per_window {s : Nat → Int} {h n p a b : Nat} (t : Per s h n) (hn : 0 < n) (ha : a ≤ h) (hb : h + n ≤ b) (w : ∀ i, a ≤ i → i < b → s i = s (i + p)) : Per s a p := fun i hi => by
  by_cases hlt : i < b
  · exact w i hi hlt
  · have hlo : h + (i - h) % n < b := by
      have := Nat.mod_lt (i - h) hn
      omega
    have e1 : s i = s (h + (i - h) % n) := t.cong hn (by omega) (by omega) (by
      rw [Nat.add_mod h ((i - h) % n), Nat.mod_mod, ← Nat.add_mod, show h + (i - h) = i by omega])
    have e2 : s (i + p) = s (h + (i - h) % n + p) := t.cong hn (by omega) (by omega) (by
      have e : (h + (i - h) % n) % n = i % n := by
        rw [Nat.add_mod h ((i - h) % n), Nat.mod_mod, ← Nat.add_mod, show h + (i - h) = i by omega]
      rw [Nat.add_mod i p, Nat.add_mod (h + (i - h) % n) p, e])
    rw [e1, e2]
    exact w _ (by omega) hlo
end Lw
end
section
set_option Elab.async false
set_option linter.all false
set_option maxRecDepth 100000
/-! tuples of ints, rows -/
namespace Lw
open PySem L2
/-! ### tuples of ints -/
def TI (H : Hp) (a : Addr) (xs : List Int) : Prop := H a = some (.tup (xs.map V.int))
theorem TI.same {H H' : Hp} {a : Addr} {xs : List Int} (h : TI H a xs) (s : Same H H') : TI H' a xs := s _ _ h
section
variable {K : PySem.W.Frag}
theorem slA {H : Hp} {a : Addr} {xs : List V} {lo hi : Option Int} {Q : VK} (h : H a = some (.tup xs)) (q : ∀ r H', Same H H' → H' r = some (.tup (cutV xs lo hi)) → Q (.ref r) H') : rSlA K (.ref a) lo hi H Q := by
  refine ⟨a, xs, rfl, SqT.of h, fun z => q a H (fun _ _ e => e) ?_, fun _ p hp => q p _ (same_upd hp) upd_same⟩
  rw [h]
  unfold cutV
  rw [z.1, z.2]
  simp
theorem catA {H : Hp} {a b : Addr} {xs ys : List V} {Q : VK} (h : H a = some (.tup xs)) (h2 : H b = some (.tup ys)) (hl : xs.length + ys.length ≤ 1000) (q : ∀ r H', Same H H' → H' r = some (.tup (xs ++ ys)) → Q (.ref r) H') : rCatA K (.ref a) (.ref b) H Q := by
  refine ⟨a, b, xs, ys, rfl, rfl, SqT.of h, SqT.of h2, Nat.le_of_lt (small1000 hl), fun z => q b H (fun _ _ e => e) ?_, fun _ z => q a H (fun _ _ e => e) ?_, fun _ _ p hp => q p _ (same_upd hp) upd_same⟩
  · rw [h2, z]
    rfl
  · rw [h, z, List.append_nil]
theorem cut_lo' {xs : List V} {k : Nat} (h : k ≤ xs.length) : cutV xs none (some (k : Int)) = xs.take k := by
  unfold cutV
  rw [HT.sIx_none, HT.sIx_nat, Nat.min_eq_left h]
  simp
theorem cut_hi' {xs : List V} {k : Nat} (h : k ≤ xs.length) : cutV xs (some (k : Int)) none = xs.drop k := by
  unfold cutV
  rw [HT.sIx_none, HT.sIx_nat, Nat.min_eq_left h]
  rw [List.take_of_length_le]
  rw [List.length_drop]
  exact Nat.le_refl _
end
def rot (ys : List Int) (j : Nat) : List Int := ys.drop j ++ ys.take j
theorem dp_ints {K : PySem.W.Frag} {H : Hp} : ∀ xs : List Int, DpAll K H (xs.map V.int) (xs.map PyData.int)
  | [] => .nil
  | x :: xs => .cons (.int x) (dp_ints xs)
theorem eqv_ints : ∀ xs ys : List Int, PyData.eqvAll (xs.map PyData.int) (ys.map PyData.int) = decide (xs = ys)
  | [], [] => rfl
  | [], _ :: _ => rfl
  | _ :: _, [] => rfl
  | x :: xs, y :: ys => by
    show ((x == y) && PyData.eqvAll (xs.map PyData.int) (ys.map PyData.int)) = decide (x :: xs = y :: ys)
    rw [eqv_ints xs ys]
    by_cases h : x = y <;> by_cases h2 : xs = ys <;> simp [h, h2]
theorem lay_ints : ∀ xs : List Int, PyData.canLayAll0 (xs.map PyData.int) = true
  | [] => rfl
  | x :: xs => by
    show (true && PyData.canLayAll0 (xs.map PyData.int)) = true
    rw [lay_ints xs]
    rfl
theorem dep_ints : ∀ xs : List Int, PyData.depthAll (xs.map PyData.int) = 0
  | [] => rfl
  | x :: xs => by
    show max 0 (PyData.depthAll (xs.map PyData.int)) = 0
    rw [dep_ints xs]
    rfl
theorem sh_ints (xs : List Int) : SeqAt.shaped (.tuple (xs.map PyData.int)) = true := by
  show (PyData.canLayAll0 (xs.map PyData.int) && decide (PyData.depthAll (xs.map PyData.int) + 1 ≤ 64)) = true
  rw [lay_ints, dep_ints]
  rfl
/-! ### rows -/
def RowAt (H : Hp) (r : Addr) (xs ys : List Int) : Prop := ∃ h c, H r = some (.tup [.ref h, .ref c]) ∧ TI H h xs ∧ TI H c ys
theorem RowAt.same {H H' : Hp} {r : Addr} {xs ys : List Int} (h : RowAt H r xs ys) (s : Same H H') : RowAt H' r xs ys := by
  obtain ⟨a, c, h1, h2, h3⟩ := h
  exact ⟨a, c, s _ _ h1, h2.same s, h3.same s⟩
theorem int_at {xs : List Int} {j : Nat} (h : j < xs.length) : atI (xs.map V.int) (j : Int) = some (.int (xs.getD j 0)) := by
  refine atI_nat ?_
  rw [List.getElem?_map, List.getElem?_eq_getElem h]
  simp [List.getD, h]
theorem TI.keep {H H' : Hp} {b l a : Addr} {ns xs : List Int} (h : TI H a xs) (B : BagAt H b l ns) (k : KeepB b H H') : TI H' a xs := k _ _ (B.ne_tup h) h
theorem RowAt.keep {H H' : Hp} {b l r : Addr} {ns xs ys : List Int} (h : RowAt H r xs ys) (B : BagAt H b l ns) (k : KeepB b H H') : RowAt H' r xs ys := by
  obtain ⟨a, c, h1, h2, h3⟩ := h
  exact ⟨a, c, k _ _ (B.ne_tup h1) h1, h2.keep B k, h3.keep B k⟩
end Lw
end
section
set_option Elab.async false
set_option linter.all false
set_option maxRecDepth 100000
/-! codes: what is checked when one is made. -/
namespace Lw
open PySem L2
abbrev sCkW : Stmt := top 27
abbrev sCkP : Stmt := top 28
abbrev sCkI : Stmt := top 29
abbrev sCkF : Stmt := top 30
/-- what is asked of the class Code -/
structure CTxt (K : PySem.W.Frag) (mg : Str → Option Value) (C : Addr) (mc : Value) : Prop where
  cl : Cls K C
  nS : NoAttr K C "source_graph"
  nT : NoAttr K C "target_graph"
  nW : NoAttr K C "window_size"
  nI : NoAttr K C "image_edges"
  nB : NoAttr K C "image_table"
  mgC : mg "Code" = some (.ref C)
  rd : ClX.CRead K C mc
  v4 : ∃ u, ClX.CVal K C mc "MAX_WIDTH" (.int 4) u
  v600 : ∃ u, ClX.CVal K C mc "MAX_PATHS" (.int 600) u
/-- a tuple of naturals as a dict's key -/
def kN (p : List Nat) : List Key := p.map fun k => Sum.inl ((k : Nat) : Int)
theorem kN_V (p : List Nat) : (kN p).map kV = nW p := by
  unfold kN nW
  rw [List.map_map]
  rfl
theorem kN_inj : ∀ {p q : List Nat}, kN p = kN q → p = q
  | [], [], _ => rfl
  | a :: p, b :: q, h => by
    have h1 : (Sum.inl ((a : Nat) : Int) : Key) = Sum.inl ((b : Nat) : Int) := (List.cons.inj h).1
    have h2 := kN_inj (p := p) (q := q) (List.cons.inj h).2
    have h3 : ((a : Nat) : Int) = ((b : Nat) : Int) := Sum.inl.inj h1
    rw [h2, show a = b by omega]
  | [], b :: q, h => nomatch h
  | a :: p, [], h => nomatch h
/-- the table of the images -/
def tabN (ps : List (List Nat)) (im : List Nat → Nat) : List (List Key × V) := ps.map fun p => (kN p, V.int ((im p : Nat) : Int))
theorem tabN_val {im : List Nat → Nat} {p : List Nat} : ∀ {ps : List (List Nat)}, p ∈ ps → valV (tabN ps im) (kN p) = some (V.int ((im p : Nat) : Int))
  | [], h => nomatch h
  | q :: ps, h => by
    unfold tabN valV
    rw [List.map_cons, List.find?_cons]
    by_cases e : q = p
    · subst e
      rw [decide_eq_true rfl]
      rfl
    · rw [decide_eq_false fun z => e (kN_inj z)]
      exact tabN_val (ps := ps) ((List.mem_cons.mp h).resolve_left (Ne.symm e))
theorem tabN_len (ps : List (List Nat)) (im : List Nat → Nat) : (tabN ps im).length = ps.length := by
  unfold tabN
  rw [List.length_map]
theorem GrN.ok {C : Addr} {H : Hp} {g : Addr} {n : Nat} {us : Es} (h : GrN C H g n us) : GrOk C H g (n : Int) us := ⟨h.gr, by have := h.n1; omega, by have := h.n8; omega, h.m24, h.rg⟩
theorem GrN.full {C : Addr} {H : Hp} {g : Addr} {n : Nat} {us : Es} (h : GrN C H g n us) (sr : ∀ k : Int, 0 ≤ k → k < n → ∃ e ∈ us, e.2.1 = k) : Full us n := by
  refine ⟨fun s hs => ?_, fun e he => tgt_lt h.rg he, fun e he => src_lt h.rg he⟩
  obtain ⟨e, he, ee⟩ := sr s (by omega) (by omega)
  obtain ⟨i, hi, rfl⟩ := List.mem_iff_getElem.mp he
  refine ⟨i, hi, ?_⟩
  unfold srcE
  rw [List.getElem?_eq_getElem hi]
  show (us[i].2.1).toNat = s
  omega
def spCkW : Sp := fun vs H Q _ => ∃ w lo : Int, vs = [.int w, .int lo] ∧ lo ≤ w ∧ w ≤ 4 ∧ Q .non H
def spCkP (CG : Addr) : Sp := fun vs H Q _ => ∃ (g : Addr) (n : Nat) (us : Es) (L : Nat), vs = [.ref g, .int (L : Int)] ∧ GrN CG H g n us ∧ 1 ≤ L ∧ L ≤ 40 ∧ (win us L).length ≤ 600 ∧ ∀ H', Same H H' → Q .non H'
def spCkI (CG : Addr) : Sp := fun vs H Q _ => ∃ (g il : Addr) (n : Int) (us : Es) (is : List Nat), vs = [.ref g, .ref il] ∧ GraphAt CG H g n us ∧ H il = some (.lst (nW is)) ∧ (∀ i ∈ is, i < us.length) ∧ us.length < 1000 ∧ ∀ H', Same H H' → Q .non H'
def spCkF (CG : Addr) : Sp := fun vs H Q _ => ∃ (g1 g2 tb : Addr) (n m : Nat) (us ws : Es) (L : Nat) (im : List Nat → Nat), vs = [.ref g1, .ref g2, .ref tb] ∧ GrN CG H g1 n us ∧ GrN CG H g2 m ws ∧ H tb = some (.dT (tabN (win us L) im)) ∧ CodeD us ws L im ∧ ∀ H', Same H H' → Q .non H'
abbrev NCkF : List Str := ["source", "target", "table", "image_edges", "onward", "place", "window", "image", "state", "edge", "start", "end"]
section
variable {P : Program} {w : World} {K : PySem.W.Frag} {mg : Str → Option Value} {base : Heap} {f C CG : Addr} {mc : Value} {fd : FuncData} {k : Nat}
theorem scCkW : FnScope ["width", "lowest"] ["width", "lowest"] (defScope sCkW) := ⟨rfl, rfl, rfl, by decide +kernel, rfl, by decide +kernel, by decide +kernel⟩
theorem scCkP : FnScope ["graph", "width"] ["graph", "width"] (defScope sCkP) := ⟨rfl, rfl, rfl, by decide +kernel, rfl, by decide +kernel, by decide +kernel⟩
theorem scCkI : FnScope ["target", "images", "place", "image"] ["target", "images"] (defScope sCkI) := ⟨rfl, rfl, rfl, by decide +kernel, rfl, by decide +kernel, by decide +kernel⟩
theorem scCkF : FnScope NCkF ["source", "target", "table"] (defScope sCkF) := ⟨rfl, rfl, rfl, by decide +kernel, rfl, by decide +kernel, by decide +kernel⟩
theorem ok_ckW (F : Fun K "check_width" "check_width" sCkW f fd) (G : CTxt K mg C mc) : FnOk P w K mg base CX0 (k + 1) f fd ["width", "lowest"] spCkW := by
  refine F.ok scCkW (fun vs H Q E h => ?_) (fun cdv A outer s H vs Q E hr h => ?_)
  · obtain ⟨w, lo, rfl, _⟩ := h
    rfl
  · obtain ⟨w, lo, rfl, h1, h2, q⟩ := h
    obtain ⟨u, hv⟩ := G.v4
    refine ⟨_, pss_one (ps_if (pt_not (pt_chain op_le op_le (pv 1) (pv 0) (ClX.pe_cval (pe_glob (v := .ref C) (by rfl) G.mgC rfl)))) (pss_one ps_never) pss_nil), ?_⟩
    refine ⟨_, rfl, _, rfl, _, _, rfl, rfl, _, rfl, if_t (decide_eq_true h1) ⟨C, mc, _, _, rfl, G.rd, hv, _, _, rfl, rfl, _, rfl, ?_⟩⟩
    exact if_f (by rw [decide_eq_true h2]; rfl) q
theorem ok_ckP (F : Fun K "check_paths" "check_paths" sCkP f fd) (G : CTxt K mg C mc) (cP : C8.Cal P w K mg base 3 "count_paths" (spCP CG) []) : FnOk P w K mg base CX0 (k + 4) f fd ["graph", "width"] (spCkP CG) := by
  refine F.ok scCkP (fun vs H Q E h => ?_) (fun cdv A outer s H vs Q E hr h => ?_)
  · obtain ⟨g, n, us, L, rfl, _⟩ := h
    rfl
  · obtain ⟨g, n, us, L, rfl, GR, l1, l40, few, q⟩ := h
    obtain ⟨u, hv⟩ := G.v600
    refine ⟨_, pss_one (ps_if (pt_cmpR op_gt (C8.pe_c cP hr (by omega) (by rfl) (pa_cons (pv 0) (pa_cons (pv 1) pa_nil))) (ClX.pe_cval (pe_glob (v := .ref C) (by rfl) G.mgC rfl)) (nomark _)) (pss_one ps_never) pss_nil), ?_⟩
    refine ⟨_, rfl, _, rfl, g, (n : Int), us, L, rfl, GR.ok, l1, by omega, fun H1 s1 => ?_⟩
    refine ⟨C, mc, _, _, rfl, G.rd, hv, _, _, rfl, rfl, _, rfl, if_f (decide_eq_false ?_) (q H1 s1)⟩
    rw [Int.toNat_natCast, ← win_cnt GR.rg l1]
    omega
end
end Lw
end
section
set_option Elab.async false
set_option linter.all false
set_option maxRecDepth 100000
/-! codes: the images are edges of the target, and follow each other. -/
namespace Lw
open PySem L2
theorem e_src {n : Nat} {us : Es} (rg : ∀ e ∈ us, 0 ≤ e.2.1 ∧ e.2.1 < n ∧ 0 ≤ e.2.2 ∧ e.2.2 < n) {i : Nat} {e : Addr × Int × Int} (h : us[i]? = some e) : e.2.1 = ((srcE us i : Nat) : Int) ∧ e.2.2 = ((tgtE us i : Nat) : Int) := by
  obtain ⟨h1, _, h3, _⟩ := rg e (List.mem_of_getElem? h)
  unfold srcE tgtE
  rw [h]
  exact ⟨(Int.toNat_of_nonneg h1).symm, (Int.toNat_of_nonneg h3).symm⟩
/-- a list of new lists: at each place what f says -/
def LLs (H0 H : Hp) (a : Addr) (qs : List Addr) (f : Nat → List Nat) : Prop := H a = some (.lst (qs.map V.ref)) ∧ ∀ (j : Nat) (b : Addr), qs[j]? = some b → H0 b = none ∧ b ≠ a ∧ H b = some (.lst (nW (f j)))
theorem LLs.same {H0 H H' : Hp} {a : Addr} {qs : List Addr} {f : Nat → List Nat} (h : LLs H0 H a qs f) (s : Same H H') : LLs H0 H' a qs f := ⟨s _ _ h.1, fun j b e => let ⟨x, y, z⟩ := h.2 j b e; ⟨x, y, s _ _ z⟩⟩
theorem LLs.new {H0 H : Hp} {a : Addr} {f : Nat → List Nat} (h : H0 a = none) (e : H a = some (.lst [])) : LLs H0 H a [] f := ⟨e, fun j b z => by simp at z⟩
theorem LLs.snoc {H0 H H' : Hp} {a b : Addr} {qs : List Addr} {f : Nat → List Nat} (h : LLs H0 H a qs f) (s : Same H H') (nb : H b = none) (n0 : H0 b = none) (eb : H' b = some (.lst (nW (f qs.length)))) : LLs H0 (upd H' a (.lst (qs.map V.ref ++ [.ref b]))) a (qs ++ [b]) f := by
  have ba : b ≠ a := (ne_of_none h.1 nb).symm
  refine ⟨by rw [upd_same, List.map_append]; rfl, fun j c e => ?_⟩
  by_cases hs : j < qs.length
  · rw [List.getElem?_append_left hs] at e
    obtain ⟨x, y, z⟩ := h.2 j c e
    exact ⟨x, y, by rw [upd_ne y]; exact s _ _ z⟩
  · rw [List.getElem?_append_right (by omega)] at e
    have h0 : j = qs.length := by
      have := (List.getElem?_eq_some_iff.mp e).1
      simp at this
      omega
    subst h0
    rw [Nat.sub_self] at e
    cases e
    exact ⟨n0, ba, by rw [upd_ne ba]; exact eb⟩
/-- a store at what is new -/
theorem same_at {H H1 : Hp} {a : Addr} {o : HO} (s : Same H H1) (h : H a = none) : Same H (upd H1 a o) := fun c u e => by
  rw [upd_ne (ne_of_none e h)]
  exact s c u e
theorem drop1_ne {p : List Nat} : HT.sIx (nW p).length 0 (some 1) = min 1 p.length := by
  rw [show (1 : Int) = ((1 : Nat) : Int) from rfl, HT.sIx_nat, nW_len]
theorem nW_drop (p : List Nat) (k : Nat) : (nW p).drop k = nW (p.drop k) := by
  unfold nW
  rw [List.map_drop]
theorem nW_take (p : List Nat) (k : Nat) : (nW p).take k = nW (p.take k) := by
  unfold nW
  rw [List.map_take]
theorem nW_app (p q : List Nat) : nW (p ++ q) = nW p ++ nW q := by
  unfold nW
  rw [List.map_append]
section
variable {P : Program} {w : World} {K : PySem.W.Frag} {mg : Str → Option Value} {base : Heap} {f C CG : Addr} {mc : Value} {fd : FuncData} {k : Nat}
set_option maxHeartbeats 4000000 in
theorem ok_ckI (F : Fun K "check_images" "check_images" sCkI f fd) (T : Bi mg) (mE : mg "enumerate" = none) {fL : Addr} {fdL : FuncData} (FL : FnOk P w K mg base CX0 1 fL fdL ["self"] (spLen CG)) (aL : PySem.W.findIn K (.ref CG) "__len__" = some (some (.ref fL))) (iL : PySem.W.isFn K (.ref fL) = true) (bL : Binds K fdL ["self"] []) :
    FnOk P w K mg base CX0 (k + 3) f fd ["target", "images"] (spCkI CG) := by
  refine F.ok scCkI (fun vs H Q E h => ?_) (fun cdv A outer s H vs Q E hr h => ?_)
  · obtain ⟨g, il, n, us, is, rfl, _⟩ := h
    rfl
  · obtain ⟨g, il, n, us, is, rfl, G, hI, lt, small, q⟩ := h
    obtain ⟨⟨dx, t, h1, h2⟩, ed⟩ := id G
    refine ⟨_, pss_one (ps_for PassesOwn.never rfl (pi_enumA (by rfl) mE (pa_cons (pv 1) pa_nil)) (pg_tup rfl (pgs_cons (pg_name (i := 2) scCkI.nd rfl (.inl rfl)) (pgs_cons (pg_name (i := 3) scCkI.nd rfl (.inl rfl)) pgs_nil)))
      (pss_one (ps_if (pt_not (pt_chain op_le op_lt pe_int (pv 3) (pe_callB (call_lenO FL aL iL bL pass0 (hr.mono (by omega))) (by rfl) T.len PySem.boot_len (pa_cons (pv 0) pa_nil)))) (pss_one ps_never) pss_nil))), ?_⟩
    refine ⟨_, rfl, il, _, SqL, rfl, .inl rfl, SqL.of hI, fun J wk => ?_⟩
    refine for_it wk (fun i σ H' => ∃ v2 v3 : Option V, σ = [some (.ref g), some (.ref il), v2, v3] ∧ Same H H') ⟨none, none, rfl, fun _ _ z => z⟩ (fun i σ H' _ p => by obtain ⟨_, _, _, s⟩ := p; exact SqL.of (s _ _ hI)) ?_ ?_
    · rintro i x σ H1 H2 hi ⟨v2, v3, rfl, s1⟩ ⟨Ta, x0, y, rfl, hT, rfl, gx, gy⟩
      rw [nW_len] at hi
      replace gy : (nW is)[i]? = some y := gy
      rw [nW_at hi] at gy
      cases gy
      have mem : is.getD i 0 ∈ is := by simp [List.getD, hi]
      have l1 := lt _ mem
      have s2 := s1.trans (same_upd (o := .tup [x0, .int ((is.getD i 0 : Nat) : Int)]) hT)
      refine ⟨Ta, _, rfl, SqT.of upd_same, rfl, _, _, rfl, _, _, rfl, rfl, ?_⟩
      generalize upd H1 Ta (.tup [x0, .int ((is.getD i 0 : Nat) : Int)]) = H3 at *
      refine ⟨_, rfl, _, _, rfl, rfl, _, rfl, if_t (decide_eq_true (by omega)) ⟨_, rfl, g, dx, _, rfl, s2 _ _ h1, g, n, us, rfl, G.same s2, _, rfl, ⟨by omega, by omega⟩, _, _, rfl, rfl, _, rfl, ?_⟩⟩
      exact if_f (by rw [decide_eq_true (show ((is.getD i 0 : Nat) : Int) < (us.length : Int) by omega)]; rfl) ⟨_, _, rfl, s2⟩
    · rintro σ H1 ⟨v2, v3, rfl, s1⟩
      exact q H1 s1
set_option maxHeartbeats 8000000 in
theorem ok_ckF (F : Fun K "check_following" "check_following" sCkF f fd) (T : Bi mg) (mEn : mg "enumerate" = none) (mE : C8.Met P w K mg base 1 CG "edges" (spEdges CG) []) (mL : C8.Met P w K mg base 2 CG "leaving" (spLv CG) []) : FnOk P w K mg base CX0 (k + 3) f fd ["source", "target", "table"] (spCkF CG) := by
  refine F.ok scCkF (fun vs H Q E h => ?_) (fun cdv A outer s H vs Q E hr h => ?_)
  · obtain ⟨g1, g2, tb, n, m, us, ws, L, im, rfl, _⟩ := h
    rfl
  · obtain ⟨g1, g2, tb, n, m, us, ws, L, im, rfl, G1, G2, hT, D, q⟩ := h
    refine ⟨_, pss_cons (ps_set (i := 3) scCkF.nd rfl (.inl rfl) (C8.pe_mt0 mE hr (by omega) (pv 1)))
      (pss_cons (ps_setLc (i := 4) (own := [("start", 10), ("end", 11)]) (g := gTup K 2 (gCons (gName 10) (gCons (gName 11) gNil))) (tt := tYes) (te := tMeth CG "leaving" (spLv CG) [] C8.E0 (tVar 0) (tCons (tVar 11) tNil)) rfl scCkF.nd rfl rfl (sw_true rfl rfl rfl (by decide +kernel)) (pi_seqA (C8.pe_mt0 mE hr (by omega) (pv 0))) (blkOk_by (N := NCkF) (sc := defScope sCkF) (by decide +kernel))
        (fun _ _ _ _ _ => by exact pg_tup rfl (pgs_cons (pg_name (i := 10) scCkF.nd rfl (Or.inl rfl)) (pgs_cons (pg_name (i := 11) scCkF.nd rfl (Or.inl rfl)) pgs_nil))) (fun _ _ _ _ _ => pts_nil) (fun _ _ _ _ _ => by exact C8.pe_mt mL hr (by omega) (pv 0) (pa_cons (pv 11) pa_nil)))
      (pss_one (ps_lock (ps_for PassesOwn.never rfl (EnI.pi_enI (by rfl) mEn (pv 2)) (pg_tup rfl (pgs_cons (pg_name (i := 5) scCkF.nd rfl (.inl rfl)) (pgs_cons (pg_tup rfl (pgs_cons (pg_name (i := 6) scCkF.nd rfl (.inl rfl)) (pgs_cons (pg_name (i := 7) scCkF.nd rfl (.inl rfl)) pgs_nil))) pgs_nil)))
        (pss_cons (ps_set (i := 8) scCkF.nd rfl (.inl rfl) (pe_ix ix_tup (pe_ix ix_list (pv 3) (pv 7) (fun _ _ => rfl)) pe_int (fun _ _ => rfl)))
        (pss_one (ps_for PassesOwn.never rfl (pi_seqA (pe_ix ix_list (pv 4) (pe_ix ix_tup (pv 6) (pe_un un_neg pe_int) (fun _ _ => rfl)) (fun _ _ => rfl))) (pg_name (i := 9) scCkF.nd rfl (.inl rfl))
          (pss_one (ps_if (pt_cmpR op_ne (pe_ix ix_tup (pe_ix ix_list (pv 3) (pe_dget (Nat.lt_of_le_of_lt (Nat.add_le_add_left (by decide) _) hr.units) (pv 2) (pe_op op_catA (pe_slice sl_tupA (pv 6) (po_some pe_int) po_none) (pe_tup (pa_cons (pv 9) pa_nil))) (fun _ _ => rfl)) (fun _ _ => rfl)) pe_int (fun _ _ => rfl)) (pv 8) (nomark _)) (pss_one ps_never) pss_nil))))))))), ?_⟩
    obtain ⟨⟨dx1, t1, a1, a2⟩, ed1⟩ := id G1.gr
    obtain ⟨⟨dx2, t2, b1, b2⟩, ed2⟩ := id G2.gr
    refine ⟨_, rfl, g2, dx2, _, rfl, b1, look_no _ _ (by decide +kernel) (by decide +kernel), g2, m, ws, rfl, G2.gr, fun p hp => ?_⟩
    have s1 := same_upd (o := .lst (vsOf ws)) hp
    have e1 : upd H p (.lst (vsOf ws)) p = some (.lst (vsOf ws)) := upd_same
    generalize upd H p (.lst (vsOf ws)) = H1 at *
    refine ⟨_, rfl, g1, dx1, _, rfl, s1 _ _ a1, look_no _ _ (by decide +kernel) (by decide +kernel), g1, n, us, rfl, (G1.same s1).gr, fun e he => ?_⟩
    have s2 := s1.trans (same_upd (o := .lst (vsOf us)) he)
    have e2 : upd H1 e (.lst (vsOf us)) p = some (.lst (vsOf ws)) := same_upd he _ _ e1
    have ee : upd H1 e (.lst (vsOf us)) e = some (.lst (vsOf us)) := upd_same
    generalize upd H1 e (.lst (vsOf us)) = H2 at *
    refine ⟨e, _, SqL, rfl, .inl rfl, SqL.of ee, fun J wk O hO => ?_⟩
    refine lc_it wk (fun i H' => ∃ qs : List Addr, Same H2 H' ∧ qs.length = i ∧ LLs H2 H' O qs fun j => lvF us (tgtE us j)) ⟨[], same_upd hO, rfl, LLs.new hO upd_same⟩ (fun i H' _ p => by obtain ⟨_, s, _⟩ := p; exact SqL.of (s _ _ ee)) ?_ ?_
    · rintro i x H3 H4 hi ⟨qs, s3, ql, ll⟩ ⟨rfl, gx⟩
      obtain ⟨ed, he, rfl⟩ := vsOf_at gx
      rw [vsOf_len] at hi
      obtain ⟨z1, z2⟩ := e_src G1.rg he
      have et := s3 _ _ (s2 _ _ (ed1 _ (List.mem_of_getElem? he)))
      rw [z1, z2] at et
      refine ⟨ed.1, _, rfl, SqT.of et, rfl, _, _, rfl, _, _, rfl, rfl, rfl, ?_⟩
      refine ⟨_, rfl, g1, dx1, _, rfl, s3 _ _ (s2 _ _ a1), look_no _ _ (by decide +kernel) (by decide +kernel), _, rfl, g1, n, us, tgtE us i, rfl, G1.same (s2.trans s3), tgt_lt G1.rg hi, fun b H5 s5 nb eb => ?_⟩
      have m24 := G1.m24
      refine ⟨_, s5 _ _ ll.1, by rw [List.length_map, ql]; exact small1000 (by omega), qs ++ [b], same_at (s3.trans s5) hO, by rw [List.length_append, ql]; rfl, ll.snoc s5 nb (s3.free nb) ?_⟩
      rw [ql]
      exact eb
    rintro H3 ⟨qs, s3, ql, ll⟩
    rw [vsOf_len] at ql
    have sT := s2.trans s3
    refine ⟨tb, _, sT _ _ hT, True.intro, fun od => ?_⟩
    have eT : upd H3 tb (.frz od (.dT (tabN (win us L) im))) tb = some (.frz od (.dT (tabN (win us L) im))) := upd_same
    have back : ∀ {H4 : Hp}, Same (upd H3 tb (.frz od (.dT (tabN (win us L) im)))) H4 → Same H (upd H4 tb (.dT (tabN (win us L) im))) := fun {H4} s4 c o ec => by
      by_cases z : c = tb
      · subst z
        rw [hT] at ec
        cases ec
        exact upd_same
      · rw [upd_ne z]
        exact s4 _ _ (by rw [upd_ne z]; exact sT _ _ ec)
    have off : ∀ {c : Addr} {o : HO}, c ≠ tb → H3 c = some o → upd H3 tb (.frz od (.dT (tabN (win us L) im))) c = some o := fun {c o} z ec => by rw [upd_ne z]; exact ec
    have eP := off (ne_of (s3 _ _ e2) (sT _ _ hT) (by intro z; cases z)) (s3 _ _ e2)
    have eO := off (ne_of ll.1 (sT _ _ hT) (by intro z; cases z)) ll.1
    have qv : ∀ (j : Nat) (b : Addr), qs[j]? = some b → upd H3 tb (.frz od (.dT (tabN (win us L) im))) b = some (.lst (nW (lvF us (tgtE us j)))) := fun j b e => off (ne_of (ll.2 j b e).2.2 (sT _ _ hT) (by intro z; cases z)) (ll.2 j b e).2.2
    have eds : ∀ e ∈ ws, upd H3 tb (.frz od (.dT (tabN (win us L) im))) e.1 = some (.tup [.int e.2.1, .int e.2.2]) := fun e he => off (ne_of (sT _ _ (ed2 e he)) (sT _ _ hT) (by intro z; cases z)) (sT _ _ (ed2 e he))
    generalize upd H3 tb (.frz od (.dT (tabN (win us L) im))) = H4 at *
    have eW : EdL H4 p m ws := ⟨eP, eds, G2.rg⟩
    refine ⟨_, rfl, tb, od, _, rfl, eT, fun J wk => ?_⟩
    refine for_it wk (fun i σ H' => ∃ v5 v6 v7 v8 v9 : Option V, σ = [some (.ref g1), some (.ref g2), some (.ref tb), some (.ref p), some (.ref O), v5, v6, v7, v8, v9, none, none] ∧ Same H4 H') ⟨none, none, none, none, none, rfl, fun _ _ z => z⟩ (fun i σ H' _ p => by obtain ⟨_, _, _, _, _, _, s⟩ := p; exact s _ _ eT) ?_ ?_
    · rintro i x σ H5 H6 hi ⟨v5, v6, v7, v8, v9, rfl, s5⟩ ⟨Ta, U, kq, key, val, rfl, nU, nT, ne, gk, hq, rfl⟩
      rw [tabN_len] at hi
      have gk2 : (tabN (win us L) im)[i]? = some (kN (win us L)[i], V.int ((im (win us L)[i] : Nat) : Int)) := by
        unfold tabN
        rw [List.getElem?_map, List.getElem?_eq_getElem hi]
        rfl
      rw [gk2] at gk
      cases gk
      have mem : (win us L)[i] ∈ win us L := List.getElem_mem hi
      generalize (win us L)[i] = wi at *
      rw [kN_V] at hq
      obtain ⟨wl, wk2⟩ := (mem_win D.l1).mp mem
      have s6 : Same H5 (upd H5 U (.tup [.ref kq, .int ((im wi : Nat) : Int)])) := same_upd nU
      have nT2 : upd H5 U (.tup [.ref kq, .int ((im wi : Nat) : Int)]) Ta = none := by rw [upd_ne ne]; exact nT
      have s7 := s6.trans (same_upd (o := .tup [.int ((i : Nat) : Int), .ref U]) nT2)
      have eU : upd (upd H5 U (.tup [.ref kq, .int ((im wi : Nat) : Int)])) Ta (.tup [.int ((i : Nat) : Int), .ref U]) U = some (.tup [.ref kq, .int ((im wi : Nat) : Int)]) := same_upd nT2 _ _ upd_same
      refine ⟨Ta, _, rfl, SqT.of upd_same, rfl, _, _, rfl, _, _, rfl, U, _, rfl, SqT.of eU, rfl, _, _, rfl, _, _, rfl, rfl, rfl, ?_⟩
      generalize upd (upd H5 U (.tup [.ref kq, .int ((im wi : Nat) : Int)])) Ta (.tup [.int ((i : Nat) : Int), .ref U]) = H7 at *
      have sH := s5.trans s7
      have hq7 := s7 _ _ hq
      obtain ⟨t, at1, et, hs, ht⟩ := (eW.same sH).read (D.rg wi mem)
      refine ⟨_, rfl, _, rfl, p, _, _, _, rfl, rfl, SqL.of (sH _ _ eP), at1, t, _, 1, _, rfl, rfl, SqT.of et, rfl, ?_⟩
      obtain ⟨pp, y, rfl⟩ : ∃ pp y, wi = pp ++ [y] := ⟨wi.dropLast, wi.getLast (fun z => by have := D.l1; rw [← wl, z] at this; exact absurd this (by decide)), (List.dropLast_concat_getLast _).symm⟩
      have ylt : y < us.length := lnk_lt wk2 y (by simp)
      have gl : (pp ++ [y]).getLastD 0 = y := by simp
      obtain ⟨b, hb⟩ : ∃ b, qs[y]? = some b := ⟨_, List.getElem?_eq_getElem (by omega)⟩
      have eb := sH _ _ (qv y b hb)
      have hq8 := hq7
      rw [nW_snoc] at hq8
      refine ⟨_, rfl, _, rfl, 1, rfl, kq, _, -1, _, rfl, rfl, SqT.of hq8, atI_last _ _, O, _, _, .ref b, rfl, rfl, SqL.of (sH _ _ eO), atI_nat (by rw [List.getElem?_map, hb]; rfl), b, _, SqL, rfl, .inl rfl, SqL.of eb, fun J2 wk3 => ?_⟩
      refine for_it wk3 (fun j σ H' => ∃ v9 : Option V, σ = [some (.ref g1), some (.ref g2), some (.ref tb), some (.ref p), some (.ref O), some (.int ((i : Nat) : Int)), some (.ref kq), some (.int ((im (pp ++ [y]) : Nat) : Int)), some (.int ((tgtE ws (im (pp ++ [y])) : Nat) : Int)), v9, none, none] ∧ Same H7 H') ⟨_, rfl, fun _ _ z => z⟩ (fun j σ H' _ p => by obtain ⟨_, _, s⟩ := p; exact SqL.of (s _ _ eb)) ?_ ?_
      · rintro j x σ H8 H9 hj ⟨v9, rfl, s8⟩ ⟨rfl, gx⟩
        rw [nW_len] at hj
        rw [nW_at hj] at gx
        cases gx
        have em : (lvF us (tgtE us y)).getD j 0 ∈ lvF us (tgtE us y) := by simp [List.getD, hj]
        generalize (lvF us (tgtE us y)).getD j 0 = ed at *
        rw [← gl] at em
        have wn := win_next D.l1 mem em
        have sK := sH.trans s8
        refine ⟨_, rfl, _, rfl, _, rfl, 1, rfl, ?_⟩
        dsimp only [tNoPart]
        refine slA (s8 _ _ hq7) fun r H10 s10 er => ?_
        have er : H10 r = some (.tup (nW ((pp ++ [y]).drop 1))) := by
          rw [er, show (some (1 : Int)) = some ((1 : Nat) : Int) from rfl, cut_hi' (by rw [nW_len, List.length_append]; exact Nat.le_add_left 1 _), nW_drop]
        refine ⟨_, rfl, (by show 1 ≤ sizeLine; decide), fun u hu => ?_⟩
        have s11 := s10.trans (same_upd (o := .tup [.int (ed : Int)]) hu)
        have eu : upd H10 u (.tup [.int (ed : Int)]) u = some (.tup (nW [ed])) := upd_same
        have er := same_upd (o := .tup [.int (ed : Int)]) hu _ _ er
        generalize upd H10 u (.tup [.int (ed : Int)]) = H11 at *
        refine catA er eu ?_ fun c H12 s12 ec => ?_
        · rw [nW_len, nW_len, List.length_drop, wl]
          have := D.l4
          show L - 1 + 1 ≤ 1000
          omega
        rw [← nW_app] at ec
        have sZ := s11.trans s12
        have sL := sK.trans sZ
        have val := tabN_val (im := im) wn
        have get : DGet H12 tb (.ref c) (some (V.int ((im ((pp ++ [y]).drop 1 ++ [ed]) : Nat) : Int))) := .inr ⟨_, kN ((pp ++ [y]).drop 1 ++ [ed]), c, .inr ⟨od, sL _ _ eT⟩, rfl, by rw [kN_V]; exact ec, val.symm⟩
        obtain ⟨t3, at3, et3, hs3, ht3⟩ := (eW.same sL).read (D.rg _ wn)
        have fo := D.fo _ mem _ em
        refine ⟨tb, _, rfl, get, p, _, _, _, rfl, rfl, SqL.of (sL _ _ eP), at3, t3, _, 0, _, rfl, rfl, SqT.of et3, rfl, _, rfl, rfl, _, rfl, ?_⟩
        rw [fo]
        refine if_f (by simp) ⟨_, rfl, s8.trans sZ⟩
      · rintro σ H8 ⟨v9, rfl, s8⟩
        exact ⟨_, _, _, _, _, rfl, sH.trans s8⟩
    · rintro σ H5 ⟨v5, v6, v7, v8, v9, rfl, s5⟩
      exact ⟨s5 _ _ eT, q _ (back s5)⟩
end
end Lw
end
section
set_option Elab.async false
set_option linter.all false
set_option maxRecDepth 100000
/-! the law's own plans, edges behind an edge, and paths. -/
namespace Lw
open PySem L2 PyProof.Rows
abbrev sPlanOf : Stmt := top 42
abbrev sAft : Stmt := top 43
abbrev sPths : Stmt := top 44
theorem full_sr {n : Nat} {us : Es} (rg : ∀ e ∈ us, 0 ≤ e.2.1 ∧ e.2.1 < n ∧ 0 ≤ e.2.2 ∧ e.2.2 < n) (F : Full us n) : ∀ k : Int, 0 ≤ k → k < n → ∃ e ∈ us, e.2.1 = k := by
  intro k h0 h1
  obtain ⟨i, hi, e⟩ := F.lv k.toNat (by omega)
  refine ⟨us[i], List.getElem_mem hi, ?_⟩
  rw [(e_src rg (List.getElem?_eq_getElem hi)).1, e]
  omega
theorem GrN.valid {C : Addr} {H : Hp} {g : Addr} {n : Nat} {us : Es} (h : GrN C H g n us) (F : Full us n) : Valid (n : Int) us := ⟨h.rg, full_sr h.rg F⟩
theorem PlanAt.rgN {H : Hp} {p q : Addr} {n : Nat} {ts : Es} (h : PlanAt H p q (n : Int) ts) : ∀ e ∈ ts, 0 ≤ e.2.1 ∧ e.2.1 < n ∧ 0 ≤ e.2.2 ∧ e.2.2 < n := h.va.rg
theorem PlanAt.full {H : Hp} {p q : Addr} {n : Nat} {ts : Es} (h : PlanAt H p q (n : Int) ts) : Full ts n := by
  refine ⟨fun s hs => ?_, fun e he => tgt_lt h.rgN he, fun e he => src_lt h.rgN he⟩
  obtain ⟨e, he, ee⟩ := h.va.sr s (by omega) (by omega)
  obtain ⟨i, hi, rfl⟩ := List.mem_iff_getElem.mp he
  refine ⟨i, hi, ?_⟩
  unfold srcE
  rw [List.getElem?_eq_getElem hi]
  show (ts[i].2.1).toNat = s
  omega
theorem PlanAt.edL {H : Hp} {p q : Addr} {n : Nat} {ts : Es} (h : PlanAt H p q (n : Int) ts) : EdL H q n ts := ⟨h.ls, h.ed, h.rgN⟩
/-- how many windows there can be -/
theorem lev_le (ts : Es) : ∀ r, (levP (lvF ts) (tgtE ts) ts.length r).length ≤ ts.length ^ (r + 1)
  | 0 => by
    show ((List.range ts.length).map _).length ≤ _
    rw [List.length_map, List.length_range, Nat.pow_one]
    exact Nat.le_refl _
  | r + 1 => by
    show ((levP (lvF ts) (tgtE ts) ts.length r).flatMap (extP (lvF ts) (tgtE ts))).length ≤ _
    rw [List.length_flatMap]
    have h : ∀ ps : List (List Nat), (ps.map fun q => (extP (lvF ts) (tgtE ts) q).length).sum ≤ ps.length * ts.length := by
      intro ps
      induction ps with
      | nil => exact Nat.zero_le _
      | cons q ps ih =>
        rw [List.map_cons, List.sum_cons, List.length_cons, Nat.add_mul, Nat.one_mul]
        have : (extP (lvF ts) (tgtE ts) q).length ≤ ts.length := by
          unfold extP
          rw [List.length_map]
          exact lvF_len ts _
        omega
    refine Nat.le_trans (h _) ?_
    rw [Nat.pow_succ]
    exact Nat.mul_le_mul_right _ (lev_le ts r)
theorem lev_small {ts : Es} (m24 : ts.length ≤ 24) {r : Nat} (h : r ≤ 3) : (levP (lvF ts) (tgtE ts) ts.length r).length ≤ 331776 := by
  refine Nat.le_trans (lev_le ts r) (Nat.le_trans (Nat.pow_le_pow_left m24 _) ?_)
  exact Nat.le_trans (Nat.pow_le_pow_right (by decide) (show r + 1 ≤ 4 by omega)) (by decide)
def spPlanOf (CG : Addr) : Sp := fun vs H Q _ => ∃ (g : Addr) (n : Nat) (us : Es), vs = [.ref g] ∧ GrN CG H g n us ∧ Full us n ∧ ∀ p q H', Same H H' → H p = none → H q = none → PlanAt H' p q (n : Int) us → Q (.ref p) H'
def spAft : Sp := fun vs H Q _ => ∃ (p q : Addr) (n : Nat) (ts : Es) (e : Nat), vs = [.ref p, .int (e : Int)] ∧ PlanAt H p q (n : Int) ts ∧ e < ts.length ∧ ts.length ≤ 24 ∧ ∀ D H', Same H H' → H D = none → H' D = some (.lst (nW (lvF ts (tgtE ts e)))) → Q (.ref D) H'
def spPths : Sp := fun vs H Q _ => ∃ (p q : Addr) (n : Nat) (ts : Es) (L : Nat), vs = [.ref p, .int (L : Int)] ∧ PlanAt H p q (n : Int) ts ∧ ts.length ≤ 24 ∧ 1 ≤ L ∧ L ≤ 4 ∧
  ∀ D as H', Same H H' → H D = none → H' D = some (.lst (as.map V.ref)) → TW H' as (win ts L) → Q (.ref D) H'
section
variable {P : Program} {w : World} {K : PySem.W.Frag} {mg : Str → Option Value} {base : Heap} {f CG : Addr} {fd : FuncData} {k : Nat}
theorem scPlanOf : FnScope ["_law_graph_here"] ["_law_graph_here"] (defScope sPlanOf) := ⟨rfl, rfl, rfl, by decide +kernel, rfl, by decide +kernel, by decide +kernel⟩
theorem ok_planOf (F : Fun K "_law_plan_of" "_law_plan_of" sPlanOf f fd) (mE : C8.Met P w K mg base 1 CG "edges" (spEdges CG) []) (pS : Prp P w K mg base 1 CG "states" (spStates CG)) : FnOk P w K mg base CX0 (k + 3) f fd ["_law_graph_here"] (spPlanOf CG) := by
  refine F.ok scPlanOf (fun vs H Q E h => ?_) (fun cdv A outer s H vs Q E hr h => ?_)
  · obtain ⟨g, n, us, rfl, _⟩ := h
    rfl
  · obtain ⟨g, n, us, rfl, G, F1, q⟩ := h
    obtain ⟨⟨dx, t, h1, h2⟩, ed⟩ := id G.gr
    refine ⟨_, pss_one (ps_ret (pe_tup (pa_cons (pe_pr pS hr (by omega) (pv 0)) (pa_cons (C8.pe_mt0 mE hr (by omega) (pv 0)) pa_nil)))), ?_⟩
    refine ⟨_, rfl, g, dx, _, rfl, h1, g, (n : Int), us, rfl, G.gr, _, rfl, g, dx, _, rfl, h1, look_no _ _ (by decide +kernel) (by decide +kernel), g, (n : Int), us, rfl, G.gr, fun e he => ⟨(by show 2 ≤ sizeLine; decide), fun p hp => ?_⟩⟩
    have s1 := same_upd (o := .lst (vsOf us)) he
    have s2 := s1.trans (same_upd (o := .tup [.int (n : Int), .ref e]) hp)
    exact q p e _ s2 (s1.free hp) he ⟨upd_same, same_upd hp _ _ upd_same, fun x hx => s2 _ _ (ed x hx), G.valid F1, by have := G.n1; omega⟩
theorem scAft : FnScope ["_law_plan_here", "_law_edge", "_law_number"] ["_law_plan_here", "_law_edge"] (defScope sAft) := ⟨rfl, rfl, rfl, by decide +kernel, rfl, by decide +kernel, by decide +kernel⟩
set_option maxHeartbeats 4000000 in
theorem ok_aft (F : Fun K "_law_after" "_law_after" sAft f fd) (T : Bi mg) : FnOk P w K mg base CX0 (k + 1) f fd ["_law_plan_here", "_law_edge"] spAft := by
  refine F.ok scAft (fun vs H Q E h => ?_) (fun cdv A outer s H vs Q E hr h => ?_)
  · obtain ⟨p, q0, n, ts, e, rfl, _⟩ := h
    rfl
  · obtain ⟨p, q0, n, ts, e, rfl, PA, he, hl, q⟩ := h
    refine ⟨_, pss_one (ps_ret (pe_lc (own := [("_law_number", 2)]) (g := gName 2) (tt := tTest (tOp rEq (tOp (rIxT K) (tOp (rIxL K) (tOp (rIxT K) (tVar 0) (tC (.int 1))) (tVar 2)) (tC (.int 0))) (tOp (rIxT K) (tOp (rIxL K) (tOp (rIxT K) (tVar 0) (tC (.int 1))) (tVar 1)) (tC (.int 1))))) (te := tVar 2) rfl scAft.nd
          (pi_range1 (by rfl) T.range (pa_cons (pe_callB call_len_seq (by rfl) T.len PySem.boot_len (pa_cons (pe_ix ix_tup (pv 0) pe_int (fun _ _ => rfl)) pa_nil)) pa_nil))
          (blkOk_by (N := ["_law_plan_here", "_law_edge", "_law_number"]) (sc := defScope sAft) (by decide +kernel))
          (fun _ _ _ _ _ => by exact pg_name (i := 2) scAft.nd rfl (Or.inl rfl))
          (fun _ _ _ _ _ => by exact pts_one (pt_cmpR op_eq (pe_ix ix_tup (pe_ix ix_list (pe_ix ix_tup (pv 0) pe_int (fun _ _ => rfl)) (pv 2) (fun _ _ => rfl)) pe_int (fun _ _ => rfl)) (pe_ix ix_tup (pe_ix ix_list (pe_ix ix_tup (pv 0) pe_int (fun _ _ => rfl)) (pv 1) (fun _ _ => rfl)) pe_int (fun _ _ => rfl)) (nomark _)))
          (fun _ _ _ _ _ => by exact pv 2))), ?_⟩
    refine ⟨_, rfl, p, _, _, _, rfl, rfl, SqT.of PA.tp, rfl, q0, _, rfl, .inl (SqL.of PA.ls), _, rfl, by omega, by rw [vsOf_len]; omega, fun D hD => ?_⟩
    refine lc_it (walk_range (lo := 0) (n := (((vsOf ts).length : Nat) : Int).toNat)) (fun i H' => Same H H' ∧ H' D = some (.lst (nW (lvM ts i (tgtE ts e))))) ⟨same_upd hD, upd_same⟩ (fun _ _ _ _ => True.intro) ?_ ?_
    · rintro i z H1 H' hi ⟨sm, eD⟩ ⟨rfl, hz⟩
      rw [Int.toNat_natCast, vsOf_len] at hi
      have hz : z = .int (i : Int) := by
        rw [hz]
        show V.int (0 + (i : Int)) = _
        rw [Int.zero_add]
      subst hz
      obtain ⟨t1, a1, b1, c1, d1⟩ := (PA.edL.same sm).read hi
      obtain ⟨t2, a2, b2, c2, d2⟩ := (PA.edL.same sm).read he
      refine ⟨rfl, ?_⟩
      refine ⟨_, rfl, p, _, _, _, rfl, rfl, SqT.of (sm _ _ PA.tp), rfl, _, rfl, q0, _, _, _, rfl, rfl, SqL.of (sm _ _ PA.ls), a1, t1, _, _, _, rfl, rfl, SqT.of b1, rfl, ?_⟩
      refine ⟨_, rfl, p, _, _, _, rfl, rfl, SqT.of (sm _ _ PA.tp), rfl, _, rfl, q0, _, _, _, rfl, rfl, SqL.of (sm _ _ PA.ls), a2, t2, _, _, _, rfl, rfl, SqT.of b2, rfl, ?_⟩
      refine ⟨rfl, _, rfl, ?_⟩
      rw [lvM_succ]
      by_cases hc : srcE ts i = tgtE ts e
      · rw [if_pos hc]
        refine if_t (decide_eq_true (by rw [hc])) ⟨_, rfl, _, eD, ?_, ?_, ?_⟩
        · rw [nW_len]
          refine small1000 ?_
          unfold lvM
          have := List.length_filter_le (fun x => srcE ts x == tgtE ts e) (List.range i)
          rw [List.length_range] at this
          omega
        · exact fun b o eb => by
            rw [upd_ne (ne_of_none eb hD)]
            exact sm _ _ eb
        · rw [upd_same, nW_snoc]
      · rw [if_neg hc, List.append_nil]
        exact if_f (decide_eq_false (fun z => hc (by injection z with z; omega))) ⟨sm, eD⟩
    · rintro H1 ⟨sm, eD⟩
      rw [Int.toNat_natCast, vsOf_len] at eD
      exact q D H1 sm hD eD
end
end Lw
end
section
set_option Elab.async false
set_option linter.all false
set_option maxRecDepth 100000
/-! paths: its promise. -/
namespace Lw
open PySem L2 Sf PyProof.Rows GenW
section
variable {P : Program} {w : World} {K : PySem.W.Frag} {mg : Str → Option Value} {base : Heap} {f : Addr} {fd : FuncData} {k : Nat} {C : Addr}
theorem rgV_nW (n : Nat) : rgV 0 (n : Int) = nW (List.range n) := by
  unfold rgV nW
  simp
set_option maxHeartbeats 8000000 in
theorem ok_paths (F : Fun K "paths" "paths" sPaths f fd) (T : Bi mg) (tl : mg "list" = none) {tk : Tok} (mx : mg "MAX_LENGTH" = some (.int 40 tk)) (cL : C8.Cal P w K mg base 1 "check_length" spLenIn []) (mE : C8.Met P w K mg base 1 C "edges" (spEdges C) []) (pS : Prp P w K mg base 1 C "states" (spStates C))
    (cW : C8.Cal P w K mg base 5 "ways_to" (spWaysTo C) []) (cG : CalG P w K mg base 1 True "walks" spWalks) : GFnS P w K mg base (k + 6) False f fd ["graph", "length"] (spPaths C) := by
  obtain ⟨fw, fdw, psw, Fw, mw, kw, bw⟩ := cG
  refine Fun.gen F scPaths (fun pl vs H Q h => ?_) (fun cdv A outer s H vs Sx pre Q hr h => ?_)
  · obtain ⟨g, n, us, L, rfl, _⟩ := h
    rfl
  · obtain ⟨g, n, us, L, rfl, G, L1, L40, room, q⟩ := h
    refine ⟨_, gbs_cons (gb_plain (PS.up (ps_expr (C8.pe_c cL hr (by omega) (by rfl) (pa_cons (pv 1) (pa_cons (pe_glob (v := .int 40) (by rfl) mx ⟨_, rfl⟩) pa_nil))))))
      (gbs_cons (gb_plain (PS.up (ps_set (i := 2) scPaths.nd rfl (.inl rfl) (C8.pe_mt0 mE hr (by omega) (pv 0)))))
      (gbs_cons (gb_plain (PS.up (ps_set (i := 3) scPaths.nd rfl (.inl rfl) (C8.pe_c cW hr (by omega) (by rfl) (pa_cons (pv 0) (pa_cons (pv 1) (pa_cons (pe_listRg rfl (by rfl) tl (prg_1 (by rfl) T.range (pe_pr pS hr (by omega) (pv 0)))) pa_nil)))))))
      (gbs_one (gb_for (fun _ _ z => z) rfl (pi_range1 (by rfl) T.range (pa_cons (pe_callB call_len_seq (by rfl) T.len PySem.boot_len (pa_cons (pv 2) pa_nil)) pa_nil)) (pg_name (i := 4) scPaths.nd rfl (.inl rfl))
        (gbs_one (gb_yf (pgs_call Fw (hr.mono (by omega)) (by rfl) mw kw bw .nil (pa_cons (pv 2) (pa_cons (pv 3) (pa_cons (pv 4) pa_nil)))) rfl (hr.mono (by omega)))))))), ?_⟩
    obtain ⟨⟨dx, t0, h1, h2⟩, ed⟩ := id G.gr
    refine ⟨_, rfl, (L : Int), 40, rfl, by omega, by omega, ?_⟩
    refine ⟨_, rfl, g, dx, _, rfl, h1, look_no _ _ (by decide +kernel) (by decide +kernel), g, n, us, rfl, G.gr, fun p hp => ?_⟩
    have s1 := same_upd (o := .lst (vsOf us)) hp
    have e1 : upd H p (.lst (vsOf us)) p = some (.lst (vsOf us)) := upd_same
    generalize upd H p (.lst (vsOf us)) = H1 at *
    have G1 := G.same s1
    refine ⟨_, rfl, _, rfl, _, rfl, g, dx, _, rfl, s1 _ _ h1, g, n, us, rfl, G1.gr, _, rfl, RgOk.of_le (by omega) (by have := G.n8; omega) (by omega) (by omega), fun r hr0 => ?_⟩
    have s2 := same_upd (o := .lst (rgV 0 (n : Int))) hr0
    have e2 : upd H1 r (.lst (rgV 0 (n : Int))) r = some (.lst (nW (List.range n))) := by rw [upd_same, rgV_nW]
    generalize upd H1 r (.lst (rgV 0 (n : Int))) = H2 at *
    refine ⟨g, r, n, us, L, List.range n, rfl, G1.same s2, e2, L1, L40, fun wa H3 s3 wW => ?_⟩
    have wW := wW.at
    have eE : EdL H3 p n us := ⟨s3 _ _ (s2 _ _ e1), (G.same (s1.trans (s2.trans s3))).gr.ed, G.rg⟩
    have s0 := s1.trans (s2.trans s3)
    have lv : ((vsOf us).length : Int) = (us.length : Int) := by unfold vsOf; rw [List.length_map]
    refine ⟨_, rfl, p, _, rfl, .inl (SqL.of eE.ls), _, rfl, by omega, by have := G.m24; omega, ?_⟩
    rw [lv, Int.toNat_natCast]
    refine gfor_it walk_range (fun i ys σ H' => ∃ (v4 : Option V) (as : List Addr), σ = [some (.ref g), some (.int (L : Int)), some (.ref p), some (.ref wa), v4] ∧ Same H3 H' ∧ ys = pre ++ as.map V.ref ∧ TW H' as (pathsTo us (List.range n) L i)) ⟨none, [], rfl, fun _ _ z => z, by simp, True.intro⟩ (fun _ _ _ _ _ _ => True.intro) ?_ ?_
    · rintro i x ys σ H4 H5 hi ⟨v4, as, rfl, s4, rfl, tw⟩ ⟨rfl, hx⟩
      have hx : x = .int (i : Int) := by
        rw [hx]
        show V.int (0 + (i : Int)) = _
        rw [Int.zero_add]
      subst hx
      have le := pathsTo_le us (List.range n) L (i := i + 1) (m := us.length) hi
      rw [pathsTo_succ, List.length_append] at le
      have tl' := tw.len
      refine ⟨_, rfl, _, rfl, _, rfl, p, wa, us, n, L, i, _, rfl, eE.same s4, G.m24, wW.same s4, fun r s x hx => wyF_lt hx, fun r s => wyF_len us _ r s, L1, L40, hi, ?_, fun H6 bs s6 tb => ?_⟩
      · rw [List.length_append, List.length_map]
        omega
      · refine ⟨_, as ++ bs, rfl, s4.trans s6, ?_, ?_⟩
        · rw [List.map_append, List.append_assoc]
        · rw [pathsTo_succ]
          exact (tw.same s6).app tb
    · rintro ys σ H4 ⟨v4, as, rfl, s4, rfl, tw⟩
      exact ⟨_, rfl, q H4 as (s0.trans s4) tw⟩
end
end Lw
end
section
set_option Elab.async false
set_option linter.all false
set_option maxRecDepth 100000
set_option maxHeartbeats 1000000
/-! Methods whose promise is one of the second model. -/
namespace Sf
open PySem L2 PyProof.Rows GenW
section
variable {X : Cx} {CX : CXT} {k : Nat} {C f : Addr} {fd : FuncData} {ps : List Str} {sp : Sp} {dvs : List V} {ds : List Value} {E : XK} {m : Str} {apos pos : Pos} {o e : Expr} {es : List Expr} {to : TE} {t : TA}
/-- the method of an object, seen from the second model -/
theorem meth_S {S : Nat → Prop} {pins : List (Addr × Obj)} {σ : L2.St} {H : Hp} {x s : Shared} {a : Addr} {dx : Addr} {fs : List (Str × V)} {pl : Sem Bool} {Q : Value × List Value → Shared → Prop} {E' : Value → Shared → Prop} (I : Inv X pins σ H x) (hs : SR S x s) (ea : H a = some (.ins C dx fs)) (c : Cls X.K C) (hm : Meth X.K C m f) (l : fs.lookup m = none)
    (h : ∀ s', SR S x s' → Q (.ref f, [.ref a]) s') : wpAny (mp X.prog X.w) X.A (getMethod (.ref a) m pl) Q E' s := by
  refine wpAny_mono (wpAny_up hs (getmeth_ok (E := fun _ _ => False) (Q := fun r y => r = (.ref f, [.ref a]) ∧ y = x) I ea c hm l ⟨rfl, rfl⟩)) (fun r s' ⟨y, hy, er, ey⟩ => ?_) fun _ _ ⟨_, _, q⟩ => q.elim
  subst er ey
  exact h s' hy
/-- o.m(e, ..) -/
theorem qe_meth {pl : Sem Bool} (he : QE X o to) (c : Cls X.K C) (hm : Meth X.K C m f) (F : FnS X.prog X.w X.K X.mg X.base CX k f fd ps sp) (hr : Room k X.A) (hb : Binds X.K fd ps ds) (hd : Vals dvs ds) (hx : Passes CX X E) (ha : QA X (e :: es) t)
    (hst : starEach (e :: es) X.env = (false, eval e X.env) :: starEach es X.env := by rfl) (hpl : (backTo pos (starEach es X.env)).any (·.1) = false := by rfl)
    (ht : eval (.Call (.Attribute o m apos) (e :: es) [] pos) X.env = (do
      let ov ← eval o X.env
      standAt apos.atName
      let (f, first) ← holding [ov] (getMethod ov m pl)
      callWith pos f first (backTo pos (starEach (e :: es) X.env)) (backToKw pos (keywordEach [] X.env))) := by rfl) : QE X (.Call (.Attribute o m apos) (e :: es) [] pos) (tMeth C m sp dvs E to t) := by
  refine ⟨fun S pins x σ H Q I q s hs => PySem.W.methodCall_KW (pl := pl) (wpAny_mono (he.run S pins x σ H _ I q s hs) (fun u s1 ⟨y, hy, v, H1, I1, rx, a, dx, fs, ex, ea, l, q1⟩ => ?_) fun _ _ e => e) ht⟩
  subst ex
  obtain rfl : u = Value.ref a := rx
  refine meth_S I1 hy ea c hm l fun s2 h2 => ?_
  refine PySem.W.callWith_K (first := [.ref a]) (h₀ := X.base) I.ok.mod.kin hm.kp (wpAny_mono (ha.run pos S pins y σ H1 _ I1 q1 s2 h2) (fun us s3 ⟨y3, h3, vs, H2, I2, r, q2⟩ => ⟨by rw [h3.heap]; exact I2.kIn, ?_⟩) fun _ _ e => e) hst hpl
  exact run_fnS (us := .ref a :: us) (vs := .ref a :: vs) F hr hb hd hx I2 (.cons rfl r) q2 s3 h3
/-- o.m() -/
theorem qe_meth0 {pl : Sem Bool} (he : QE X o to) (c : Cls X.K C) (hm : Meth X.K C m f) (F : FnS X.prog X.w X.K X.mg X.base CX k f fd ps sp) (hr : Room k X.A) (hb : Binds X.K fd ps ds) (hd : Vals dvs ds) (hx : Passes CX X E)
    (ht : eval (.Call (.Attribute o m apos) [] [] pos) X.env = (do
      let ov ← eval o X.env
      standAt apos.atName
      let (f, first) ← holding [ov] (getMethod ov m pl)
      callWith pos f first (backTo pos (starEach [] X.env)) (backToKw pos (keywordEach [] X.env))) := by rfl) : QE X (.Call (.Attribute o m apos) [] [] pos) (tMeth C m sp dvs E to tNil) := by
  refine ⟨fun S pins x σ H Q I q s hs => PySem.W.methodCall_KW (pl := pl) (wpAny_mono (he.run S pins x σ H _ I q s hs) (fun u s1 ⟨y, hy, v, H1, I1, rx, a, dx, fs, ex, ea, l, q1⟩ => ?_) fun _ _ e => e) ht⟩
  subst ex
  obtain rfl : u = Value.ref a := rx
  refine meth_S I1 hy ea c hm l fun s2 h2 => ?_
  exact PySem.W.callWith_K0 (first := [.ref a]) (by rw [h2.heap]; exact I1.kIn) hm.kp (run_fnS (us := [.ref a]) (vs := [.ref a]) F hr hb hd hx I1 (.cons rfl .nil) q1 s2 h2)
end
end Sf
end
section
set_option Elab.async false
set_option linter.all false
set_option maxRecDepth 100000
set_option maxHeartbeats 1000000
/-! Objects whose __init__ has a promise of the second model; defs, classes and methods told by structures; displays. -/
namespace Sf
open PySem PySem.W L2 PyProof.Rows
section
variable {P : Program} {w : World} {S : Nat → Prop} {A : Around} {x s : Shared} {K : PySem.W.Frag} {C f : Addr} {vs : List Value} {R : Result → Shared → Prop}
/-- what stands once the new object is there -/
abbrev bornIn (C : Addr) (y : Shared) : Shared := { y with heap := (y.heap.push emptyDict).push (instObj C y.heap.objs.size) }
/-- object.__new__, seen from the second model -/
theorem born_S (X : K.In x.heap) (hm : makesIn K C = true) (hi : findIn K (.ref C) "__init__" = some (some (.ref f))) (h : ∀ s', SR S (bornIn C x) s' → R (.ok (.ret (.ref (x.heap.objs.size + 1)))) s') (hs : SR S x s) :
    codeAny (mp P w) A (.call (.builtin "object.__new__") ⟨.ref C :: vs, []⟩) R s := by
  have q : codeAny (model P w) A (.call (.builtin "object.__new__") ⟨.ref C :: vs, []⟩) (fun r y => r = .ok (.ret (.ref (x.heap.objs.size + 1))) ∧ y = bornIn C x) x := by
    obtain ⟨hp, gs, dr, tk, os⟩ := x
    exact new_K (makes_of X hm) (looks_findIn X hi) (.inl rfl) ⟨rfl, rfl⟩
  refine codeAny_mono (codeAny_up hs q) ?_
  rintro r s' ⟨y, hy, rfl, rfl⟩
  exact h s' hy
theorem make_S (X : K.In x.heap) (hm : makesIn K C = true) (hi : findIn K (.ref C) "__init__" = some (some (.ref f))) (hf : typeIn K (.ref f) = some (.type "function"))
    (h : cS P w S (A.under (.builtin "type.__call__" ⟨.ref C :: vs, []⟩)) (.call (.ref f) ⟨.ref (x.heap.objs.size + 1) :: vs, []⟩) (InitBack (x.heap.objs.size + 1) R) (bornIn C x)) :
    cS P w S A (.call (.ref C) ⟨vs, []⟩) R x := by
  intro s hs
  have Xs : K.In s.heap := by rw [hs.heap]; exact X
  obtain ⟨⟨oc, od, cd, sl, atC, _, _, full⟩, made, base, self, _, call, typ⟩ := makes_of (M := mp P w) Xs hm
  have init := looks_findIn (M := mp P w) Xs hi
  have bound : Looks (mp P w) s.heap (bindSpecial (.ref f) (.ref (x.heap.objs.size + 1))) (.ref f, [.ref (x.heap.objs.size + 1)]) := bind_fn Xs _ hf
  have line : Looks (mp P w) s.heap (mroOf (.ref C)) cd.mro := ((Looks.ld (part := none) atC).andThen .now).andThen .now
  have grow : ∀ b o, s.heap.get? b = some o → (bornIn C x).heap.get? b = some o := fun b o e => Heap.get?_push_of_some _ (Heap.get?_push_of_some _ (by rw [← hs.heap]; exact e))
  refine codeAny_of_tree ?_
  show wpAny (mp P w) _ (callAny (.ref C) _) _ _ s
  refine nd_load atC ?_
  show wpAny (mp P w) _ (callAny.viaDunder (.ref C) _) _ _ s
  unfold callAny.viaDunder
  refine wpAny_bind (call.at ?_)
  dsimp only
  rw [tc_bind]
  refine wpAny_bind (wpAny_pure (wpAny_bind (wpAny_pure (wpAny_pure (a := Fin.again (.call (.builtin "type.__call__") ⟨.ref C :: vs, []⟩)) ⟨rfl, ?_⟩))))
  refine codeAny_of_tree ?_
  show wpAny (mp P w) A.in1 (checkBuiltinCall "type.__call__" ⟨.ref C :: vs, []⟩ >>= fun _ => again (.builtin "type.__call__" ⟨.ref C :: vs, []⟩)) _ _ s
  refine wpAny_bind (check_slot tc_kind tc_split typ (tc_args _ _ _) (wpAny_pure ⟨Code.quiet_builtin _ (by decide +kernel), code_bi (by decide) entry_typeCall ?_⟩))
  unfold Builtin.«type.__call__»
  repeat (first | simp only [full, Bool.false_eq_true, if_false] | with_reducible refine wpAny_call ?_ | lk)
  refine born_S X hm hi (fun s1 h1 => ?_) hs
  have self1 : Looks (mp P w) s1.heap (isSubtype (.ref C) (.ref C)) true := by rw [h1.heap]; exact self.keeps grow
  have init1 : Looks (mp P w) s1.heap (typeLookup (.ref C) "__init__") (some (.ref f)) := by rw [h1.heap]; exact init.keeps grow
  have bound1 : Looks (mp P w) s1.heap (bindSpecial (.ref f) (.ref (x.heap.objs.size + 1))) (.ref f, [.ref (x.heap.objs.size + 1)]) := by rw [h1.heap]; exact bound.keeps grow
  have here : s1.heap.get? (x.heap.objs.size + 1) = some (instObj C x.heap.objs.size) := by
    rw [h1.heap]
    have z := Heap.get?_push_size (x.heap.push emptyDict) (o := instObj C x.heap.objs.size) rfl
    rwa [Heap.size_push] at z
  have kind : Looks (mp P w) s1.heap (typeOf (.ref (x.heap.objs.size + 1))) (.ref C) := (Looks.ld here).andThen .now
  unfold isInstance callSpecial? specialOf
  repeat (first | with_reducible refine wpAny_call ?_ | lk)
  refine codeAny_mono (h s1 h1) ?_
  rintro r s2 ⟨y, hy, q⟩
  match r, q with
  | .error _, q => exact ⟨y, hy, q⟩
  | .ok .next, q => exact q.elim
  | .ok .brk, q => exact q.elim
  | .ok .cont, q => exact q.elim
  | .ok (.ret _), ⟨e, q⟩ =>
    subst e
    exact wpAny_pure (wpAny_pure ⟨y, hy, q⟩)
end
section
variable {X : Cx} {CX : CXT} {k j : Nat} {C f : Addr} {fd : FuncData} {ps : List Str} {sp : Sp} {dvs : List V} {ds : List Value} {E : XK} {m y : Str} {apos pos p : Pos} {o e : Expr} {es : List Expr} {to : TE} {t : TA}
theorem run_makeS {S : Nat → Prop} {pins : List (Addr × Obj)} {σ : L2.St} {H : Hp} {x : Shared} {Q : VK} {us : List Value} {vs : List V} (M : Mk X.K C f) (F : FnS X.prog X.w X.K X.mg X.base CX k f fd ps sp) (hr : Room (k + 1) X.A) (hb : Binds X.K fd ps ds) (hd : Vals dvs ds) (hx : Passes CX X E)
    (I : Inv X pins σ H x) (rv : Vals vs us) (q : ∀ a dx, H a = none → H dx = none → dx ≠ a → sp (.ref a :: (vs ++ dvs)) (upd (upd H dx (.own a)) a (.ins C dx [])) (fun v H2 => v = .non ∧ Q (.ref a) H2) E) :
    wS X.prog X.w S X.A (call (.ref C) us) (EP X pins σ Q) X.xe x := by
  have q0 := q (x.heap.objs.size + 1) x.heap.objs.size (I.hok.fresh (Nat.le_succ _)) (I.hok.fresh (Nat.le_refl _)) (Nat.ne_of_lt (Nat.lt_succ_self _))
  have J := Inv.made (C := C) I
  have rall : Vals (V.ref (x.heap.objs.size + 1) :: (vs ++ dvs)) (Value.ref (x.heap.objs.size + 1) :: (us ++ ds)) := .cons rfl (rv.append hd)
  have many : (Value.ref (x.heap.objs.size + 1) :: us ++ ds).length = ps.length := rall.length.symm.trans (F.len _ _ _ _ q0)
  intro s hs
  refine wpAny_call (codeAny_mono (make_S (R := fun r z => match r with | .ok (.ret u) => EP X pins σ Q u z | .ok _ => False | .error e => X.xe e z) I.kIn M.makes M.init (beq_iff_eq.mp M.fn)
    ((F.run S _ X.stack _ _ ⟨Value.ref (x.heap.objs.size + 1) :: us, []⟩ (Value.ref (x.heap.objs.size + 1) :: (us ++ ds)) _ _ E (hr.make C us []) (J.env0.make C us []) (hb _ (Value.ref (x.heap.objs.size + 1) :: us) J.kIn many) rall q0).imp fun r z h => ?_) s hs) fun r s' h => ?_)
  · match r, h with
    | .error e, h => exact hx pins σ _ _ e z J h
    | .ok .next, h => exact False.elim h
    | .ok .brk, h => exact False.elim h
    | .ok .cont, h => exact False.elim h
    | .ok (.ret u), h =>
      obtain ⟨v, H', I3, r3, ev, q3⟩ := J.after h
      subst ev
      exact ⟨r3, V.ref (x.heap.objs.size + 1), H', I3, rfl, q3⟩
  · obtain ⟨z, hz, h⟩ := h
    match r, h with
    | .error e, h => exact ⟨z, hz, h⟩
    | .ok .next, h => exact False.elim h
    | .ok .brk, h => exact False.elim h
    | .ok .cont, h => exact False.elim h
    | .ok (.ret u), h => exact ⟨z, hz, h⟩
/-- C(e, ..) by the class's name -/
theorem qe_make (M : Mk X.K C f) (F : FnS X.prog X.w X.K X.mg X.base CX k f fd ps sp) (hr : Room (k + 1) X.A) (hg : Gl X y) (hm : X.mg y = some (.ref C)) (hb : Binds X.K fd ps ds) (hd : Vals dvs ds) (hx : Passes CX X E) (ha : QA X (e :: es) t)
    (hdb : (y == ("__debug__" : Str)) = false := by decide) (he : starEach (e :: es) X.env = (false, eval e X.env) :: starEach es X.env := by rfl) (hpl : (backTo pos (starEach es X.env)).any (·.1) = false := by rfl) :
    QE X (.Call (.Name y p) (e :: es) [] pos) (tMake C sp dvs E t) := by
  refine ⟨fun S pins x σ H Q I q s hs => wpAny_Call_Name_kw (wpAny_mono (nm_glob I hs hg hm hdb) (fun v s1 ⟨ev, h1⟩ => ?_) fun _ _ e => e)⟩
  subst ev
  refine PySem.W.callWith_K (h₀ := X.base) I.ok.mod.kin M.kp (wpAny_mono (ha.run pos S pins x σ H _ I q s1 h1) (fun us s2 ⟨y2, h2, vs, H1, I1, rv, q2⟩ => ⟨by rw [h2.heap]; exact I1.kIn, ?_⟩) fun _ _ e => e) he hpl
  exact run_makeS M F hr hb hd hx I1 rv q2 s2 h2
end
/-! ### defs, classes, methods as constants of a law -/
structure Cal (P : Program) (w : World) (K : PySem.W.Frag) (mg : Str → Option Value) (base : Heap) (k : Nat) (x : Str) (sp : Sp) (dvs : List V) : Prop where
  ex : ∃ (f : Addr) (fd : FuncData) (ps : List Str) (ds : List Value), FnS P w K mg base CX0 k f fd ps sp ∧ mg x = some (.ref f) ∧ PySem.W.keepIn K (.ref f) = true ∧ Binds K fd ps ds ∧ Vals dvs ds
structure Mak (P : Program) (w : World) (K : PySem.W.Frag) (mg : Str → Option Value) (base : Heap) (k : Nat) (x : Str) (C : Addr) (sp : Sp) (dvs : List V) : Prop where
  ex : ∃ (f : Addr) (fd : FuncData) (ps : List Str) (ds : List Value), Mk K C f ∧ FnS P w K mg base CX0 k f fd ps sp ∧ mg x = some (.ref C) ∧ Binds K fd ps ds ∧ Vals dvs ds
structure Met (P : Program) (w : World) (K : PySem.W.Frag) (mg : Str → Option Value) (base : Heap) (k : Nat) (C : Addr) (m : Str) (sp : Sp) (dvs : List V) : Prop where
  ex : ∃ (f : Addr) (fd : FuncData) (ps : List Str) (ds : List Value), Cls K C ∧ Meth K C m f ∧ FnS P w K mg base CX0 k f fd ps sp ∧ Binds K fd ps ds ∧ Vals dvs ds
section
variable {X : Cx} {k j : Nat} {C : Addr} {x m : Str} {sp : Sp} {dvs : List V} {p pos apos : Pos} {e o : Expr} {es : List Expr} {ta te : TE} {t : TA}
theorem qe_c (c : Cal X.prog X.w X.K X.mg X.base k x sp dvs) (hr : Room j X.A) (hk : k ≤ j) (hg : Gl X x) (ha : QA X (e :: es) t)
    (hdb : (x == ("__debug__" : Str)) = false := by decide) (he : starEach (e :: es) X.env = (false, eval e X.env) :: starEach es X.env := by rfl) (hpl : (backTo pos (starEach es X.env)).any (·.1) = false := by rfl) :
    QE X (.Call (.Name x p) (e :: es) [] pos) (tCall sp dvs E0 t) := by
  obtain ⟨f, fd, ps, ds, F, q1, q2, q3, q4⟩ := c.ex
  exact qe_call F (hr.mono hk) hg q1 q2 q3 q4 pass0 ha hdb he hpl
theorem qe_mk (c : Mak X.prog X.w X.K X.mg X.base k x C sp dvs) (hr : Room j X.A) (hk : k + 1 ≤ j) (hg : Gl X x) (ha : QA X (e :: es) t)
    (hdb : (x == ("__debug__" : Str)) = false := by decide) (he : starEach (e :: es) X.env = (false, eval e X.env) :: starEach es X.env := by rfl) (hpl : (backTo pos (starEach es X.env)).any (·.1) = false := by rfl) :
    QE X (.Call (.Name x p) (e :: es) [] pos) (tMake C sp dvs E0 t) := by
  obtain ⟨f, fd, ps, ds, M, F, q1, q2, q3⟩ := c.ex
  exact qe_make M F (hr.mono hk) hg q1 q2 q3 pass0 ha hdb he hpl
theorem qe_mt {pl : Sem Bool} (c : Met X.prog X.w X.K X.mg X.base k C m sp dvs) (hr : Room j X.A) (hk : k ≤ j) (ho : QE X o ta) (ha : QA X (e :: es) t)
    (hst : starEach (e :: es) X.env = (false, eval e X.env) :: starEach es X.env := by rfl) (hpl : (backTo pos (starEach es X.env)).any (·.1) = false := by rfl)
    (ht : eval (.Call (.Attribute o m apos) (e :: es) [] pos) X.env = (do
      let ov ← eval o X.env
      standAt apos.atName
      let (f, first) ← holding [ov] (getMethod ov m pl)
      callWith pos f first (backTo pos (starEach (e :: es) X.env)) (backToKw pos (keywordEach [] X.env))) := by rfl) :
    QE X (.Call (.Attribute o m apos) (e :: es) [] pos) (tMeth C m sp dvs E0 ta t) := by
  obtain ⟨f, fd, ps, ds, q1, q2, F, q3, q4⟩ := c.ex
  exact qe_meth (pl := pl) ho q1 q2 F (hr.mono hk) q3 q4 pass0 ha hst hpl ht
theorem qe_mt0 {pl : Sem Bool} (c : Met X.prog X.w X.K X.mg X.base k C m sp dvs) (hr : Room j X.A) (hk : k ≤ j) (ho : QE X o ta)
    (ht : eval (.Call (.Attribute o m apos) [] [] pos) X.env = (do
      let ov ← eval o X.env
      standAt apos.atName
      let (f, first) ← holding [ov] (getMethod ov m pl)
      callWith pos f first (backTo pos (starEach [] X.env)) (backToKw pos (keywordEach [] X.env))) := by rfl) :
    QE X (.Call (.Attribute o m apos) [] [] pos) (tMeth C m sp dvs E0 ta tNil) := by
  obtain ⟨f, fd, ps, ds, q1, q2, F, q3, q4⟩ := c.ex
  exact qe_meth0 (pl := pl) ho q1 q2 F (hr.mono hk) q3 q4 pass0 ht
/-! ### displays -/
theorem shown_S {v : HO} {S : Nat → Prop} {pins : List (Addr × Obj)} {σ : L2.St} {H1 : Hp} {y s1 : Shared} {Q : VK} {ob : Obj} (I : Inv X pins σ H1 y) (hy : SR S y s1) (ok : ObjOk X.prog X.w (upd H1 y.heap.objs.size v) (y.heap.push ob) y.heap.objs.size v) (q : ∀ p, H1 p = none → Q (.ref p) (upd H1 p v)) :
    lo S (EP X pins σ Q) (.ref s1.heap.objs.size) { s1 with heap := s1.heap.push ob } := by
  rw [hy.heap]
  exact ⟨_, hy.heapTo _, .ref y.heap.objs.size, _, I.laid (t' := y.toks) (fun b u e => Heap.get?_push_of_some _ e) (Nat.le_refl _) ok, rfl, q _ (I.hok.fresh (Nat.le_refl _))⟩
theorem qe_tup {x1} (h : QA X es t) : QE X (.Tuple es x1 pos) (tTup t) := by
  constructor
  intro S pins x σ H Q I q s hs
  rw [arm_eval_Tuple]
  refine wpAny_bind (wpAny_standAt (wpAny_bind (wpAny_mono (h.run pos S pins x σ H _ I q s hs) (fun us s1 ⟨y, hy, xs, H1, I1, r, z, q1⟩ => ?_) fun _ _ e => e)))
  refine wpAny_newTuple (shown_S I1 hy ?_ q1) (by rw [← r.length]; exact z)
  exact ⟨z, us, r, ⟨_, Heap.get?_push_size _ rfl, rfl, _, rfl⟩⟩
theorem qe_lst (h : QA X es t) : QE X (.List es pos) (tLst t) := by
  constructor
  intro S pins x σ H Q I q s hs
  rw [arm_eval_List]
  refine wpAny_bind (wpAny_standAt (wpAny_bind (wpAny_mono (h.run pos S pins x σ H _ I q s hs) (fun us s1 ⟨y, hy, xs, H1, I1, r, z, q1⟩ => ?_) fun _ _ e => e)))
  refine wpAny_newList (shown_S I1 hy ?_ q1) (by rw [← r.length]; exact z)
  exact ⟨z, us, 0, r, Heap.get?_push_size _ rfl⟩
end
end Sf
end
section
set_option Elab.async false
set_option linter.all false
set_option maxRecDepth 100000
/-! a walk whose turn is anything: for comprehensions with two for -/
namespace Lw
open PySem L2
theorem walk_any {J : It} {n : Nat} {G : Hp → Prop} {Y : Nat → Hp → V → Hp → Prop} (w : Walk J n G Y) {Qd : Hp → Prop} {H0 : Hp} {B : (Hp → Prop) → V → Hp → Prop} (Pv : Nat → Hp → Prop) (h0 : Pv 0 H0) (hG : ∀ i H, i ≤ n → Pv i H → G H)
    (hs : ∀ i x H H', i < n → Pv i H → Y i H x H' → B (Pv (i + 1)) x H') (hd : ∀ H, Pv n H → Qd H) :
    ∃ W : Nat → Nat → Hp → Prop, (∃ m, W 0 m H0) ∧ ∀ i m H, W i m H → (J.stop i H ∧ Qd H) ∨ (J.go i H ∧ ∃ Nx : Hp → Prop, (∀ H', Nx H' → ∃ m', m' < m ∧ W (i + 1) m' H') ∧ ∀ x H', J.yld i H x H' → B Nx x H') := by
  refine ⟨fun i m H => m + i = n ∧ Pv i H, ⟨n, rfl, h0⟩, ?_⟩
  rintro i m H ⟨e, p⟩
  have g := hG i H (by omega) p
  cases m with
  | zero =>
    have e : i = n := by omega
    subst e
    exact .inl ⟨w.stops H g, hd H p⟩
  | succ m => exact .inr ⟨w.goes i H (by omega) g, Pv (i + 1), fun H' p' => ⟨m, Nat.lt_succ_self m, by omega, p'⟩, fun x H' y => hs i x H H' (by omega) p (w.yields i H x H' (by omega) g y)⟩
end Lw
end
section
set_option Elab.async false
set_option linter.all false
set_option maxRecDepth 100000
/-! class Code: one is made. -/
namespace Lw
open PySem L2 PyProof.Rows
abbrev sCInit : Stmt := inClass (top 31) 2
abbrev NCi : List Str := ["self", "source", "target", "width", "images", "windows", "table", "window", "image"]
def cflds (g1 g2 : Addr) (L : Nat) (it tb : Addr) : List (Str × V) := [("source_graph", V.ref g1), ("target_graph", V.ref g2), ("window_size", V.int (L : Int)), ("image_edges", V.ref it), ("image_table", V.ref tb)]
/-- a code -/
structure CodeAt (C CG : Addr) (H : Hp) (c g1 g2 : Addr) (n m : Nat) (us ws : Es) (L : Nat) (im : List Nat → Nat) : Prop where
  ob : ∃ dx it tb, H c = some (.ins C dx (cflds g1 g2 L it tb)) ∧ H it = some (.tup (nW ((win us L).map im))) ∧ H tb = some (.dT (tabN (win us L) im))
  s : GrN CG H g1 n us
  t : GrN CG H g2 m ws
  fs : Full us n
  ft : Full ws m
  d : CodeD us ws L im
theorem CodeAt.same {C CG : Addr} {H H' : Hp} {c g1 g2 : Addr} {n m : Nat} {us ws : Es} {L : Nat} {im : List Nat → Nat} (h : CodeAt C CG H c g1 g2 n m us ws L im) (s : Same H H') : CodeAt C CG H' c g1 g2 n m us ws L im := by
  obtain ⟨⟨dx, it, tb, h1, h2, h3⟩, a, b, e, f, d⟩ := h
  exact ⟨⟨dx, it, tb, s _ _ h1, s _ _ h2, s _ _ h3⟩, a.same s, b.same s, e, f, d⟩
/-- what has no lists is kept where all but a list stands -/
theorem off_lst {H H' : Hp} {b c : Addr} {xs : List V} {o : HO} (hb : H b = some (.lst xs)) (k : KeepB b H H') (h : H c = some o) (ne : o ≠ .lst xs) : H' c = some o := k c o (fun z => by rw [z, hb] at h; exact ne (Option.some.inj h).symm) h
theorem GrN.off {C : Addr} {H H' : Hp} {g b : Addr} {n : Nat} {us : Es} {xs : List V} (h : GrN C H g n us) (hb : H b = some (.lst xs)) (k : KeepB b H H') : GrN C H' g n us := by
  obtain ⟨⟨⟨dx, t, h1, h2⟩, ed⟩, a, b1, c, d⟩ := h
  exact ⟨⟨⟨dx, t, off_lst hb k h1 nofun, off_lst hb k h2 nofun⟩, fun e he => off_lst hb k (ed e he) nofun⟩, a, b1, c, d⟩
theorem CodeAt.off {C CG : Addr} {H H' : Hp} {c g1 g2 b : Addr} {n m : Nat} {us ws : Es} {L : Nat} {im : List Nat → Nat} {xs : List V} (h : CodeAt C CG H c g1 g2 n m us ws L im) (hb : H b = some (.lst xs)) (k : KeepB b H H') : CodeAt C CG H' c g1 g2 n m us ws L im := by
  obtain ⟨⟨dx, it, tb, h1, h2, h3⟩, a, b1, e, f, d⟩ := h
  exact ⟨⟨dx, it, tb, off_lst hb k h1 nofun, off_lst hb k h2 nofun, off_lst hb k h3 nofun⟩, a.off hb k, b1.off hb k, e, f, d⟩
theorem TW.at {H : Hp} : ∀ {as : List Addr} {st : List (List Nat)}, TW H as st → ∀ {i : Nat} {s : List Nat}, st[i]? = some s → ∃ a, as[i]? = some a ∧ H a = some (.tup (nW s))
  | [], [], _, i, s, h => by simp at h
  | a :: as, p :: st, h, 0, s, e => by
    cases e
    exact ⟨a, rfl, h.1⟩
  | a :: as, p :: st, h, i + 1, s, e => TW.at h.2 (i := i) e
theorem tabN_put {ps : List (List Nat)} {im : List Nat → Nat} {s : List Nat} (h : s ∉ ps) : putK (tabN ps im) (kN s) (V.int ((im s : Nat) : Int)) = tabN (ps ++ [s]) im := by
  have e : ((tabN ps im).any fun kv => decide (kv.1 = kN s)) = false := by
    rw [List.any_eq_false]
    intro x hx
    obtain ⟨p, hp, rfl⟩ := List.mem_map.mp hx
    rw [decide_eq_true_iff]
    exact fun z => h (kN_inj z ▸ hp)
  unfold putK
  rw [if_neg (by rw [e]; exact Bool.false_ne_true)]
  unfold tabN
  rw [List.map_append]
  rfl
/-- the promise of a def by its body, in the second model -/
theorem Fun.okS {P : Program} {w : World} {K : PySem.W.Frag} {mg : Str → Option Value} {base : Heap} {x qual : Str} {st : Stmt} {f : Addr} {fd : FuncData} {N ps : List Str} {k : Nat} {sp : Sp} (F : Fun K x qual st f fd) (S : FnScope N ps (defScope st)) (len : ∀ vs H Q E, sp vs H Q E → vs.length = ps.length)
    (hbody : ∀ (cdv : Value) (A : Around) (outer : List Env) (s : Shared) (H : Hp) (vs : List V) (Q : VK) (E : XK), Room k (A.deeper (envOfC qual (defScope st) s.heap.objs.size f cdv)) → sp vs H Q E →
      ∃ t, Sf.QSs (cxOf CX0 P w K mg base N qual (defScope st) f cdv A outer s H E).nox (defBody st) t ∧ t { nx := fun _ H' => Q .non H', rt := Q } (L2.start N vs) H) : Sf.FnS P w K mg base CX0 (k + 1) f fd ps sp := by
  obtain ⟨oc, od, kV, doc, pm, an, cdv, ct, osl, rfl, lk, hcd⟩ := F.ex
  refine Sf.fnS_of lk hcd S len fun A outer s H vs Q E hr hsp => ?_
  obtain ⟨t, h, q⟩ := hbody cdv A outer s H vs Q E hr hsp
  exact ⟨t, ⟨fun S pins x σ H D I hw => (h.run S pins x σ H D (I.wish _) hw).imp (fun _ _ q => q.unwish) fun _ _ z => False.elim z⟩, q⟩
theorem cput1 (g1 : Addr) : putF "source_graph" (.ref g1) [] = ([("source_graph", V.ref g1)] : List (Str × V)) := rfl
theorem cput2 (g1 g2 : Addr) : putF "target_graph" (.ref g2) ([("source_graph", V.ref g1)] : List (Str × V)) = ([("source_graph", V.ref g1), ("target_graph", V.ref g2)] : List (Str × V)) := by
  have h1 : ¬ (("source_graph" : Str) = "target_graph") := by decide +kernel
  simp [putF, h1]
theorem cput3 (g1 g2 : Addr) (L : Int) : putF "window_size" (.int L) ([("source_graph", V.ref g1), ("target_graph", V.ref g2)] : List (Str × V)) = ([("source_graph", V.ref g1), ("target_graph", V.ref g2), ("window_size", V.int L)] : List (Str × V)) := by
  have h1 : ¬ (("source_graph" : Str) = "window_size") := by decide +kernel
  have h2 : ¬ (("target_graph" : Str) = "window_size") := by decide +kernel
  simp [putF, h1, h2]
theorem cput4 (g1 g2 it : Addr) (L : Int) : putF "image_edges" (.ref it) ([("source_graph", V.ref g1), ("target_graph", V.ref g2), ("window_size", V.int L)] : List (Str × V)) = ([("source_graph", V.ref g1), ("target_graph", V.ref g2), ("window_size", V.int L), ("image_edges", V.ref it)] : List (Str × V)) := by
  have h1 : ¬ (("source_graph" : Str) = "image_edges") := by decide +kernel
  have h2 : ¬ (("target_graph" : Str) = "image_edges") := by decide +kernel
  have h3 : ¬ (("window_size" : Str) = "image_edges") := by decide +kernel
  simp [putF, h1, h2, h3]
theorem cput5 (g1 g2 it tb : Addr) (L : Nat) : putF "image_table" (.ref tb) ([("source_graph", V.ref g1), ("target_graph", V.ref g2), ("window_size", V.int (L : Int)), ("image_edges", V.ref it)] : List (Str × V)) = cflds g1 g2 L it tb := by
  have h1 : ¬ (("source_graph" : Str) = "image_table") := by decide +kernel
  have h2 : ¬ (("target_graph" : Str) = "image_table") := by decide +kernel
  have h3 : ¬ (("window_size" : Str) = "image_table") := by decide +kernel
  have h4 : ¬ (("image_edges" : Str) = "image_table") := by decide +kernel
  simp [putF, h1, h2, h3, h4, cflds]
theorem GrN.keep {CG C : Addr} {H H' : Hp} {g c dx : Addr} {n : Nat} {us : Es} (h : GrN CG H g n us) (hc : H c = some (.ins C dx [])) (k : KeepB c H H') : GrN CG H' g n us := by
  obtain ⟨⟨⟨d2, t, h1, h2⟩, ed⟩, a, b1, c1, d⟩ := h
  have st : ∀ {x : Addr} {o : HO}, H x = some o → o ≠ .ins C dx [] → H' x = some o := fun {x o} e ne => k x o (fun z => by rw [z, hc] at e; exact ne (Option.some.inj e).symm) e
  exact ⟨⟨⟨d2, t, st h1 (by unfold flds; intro z; injection z with z1 z2 z3; cases z3), st h2 nofun⟩, fun e he => st (ed e he) nofun⟩, a, b1, c1, d⟩
def spCInit (C CG : Addr) : Sp := fun vs H Q _ => ∃ (c dx g1 g2 il : Addr) (n m : Nat) (us ws : Es) (L : Nat) (im : List Nat → Nat), vs = [.ref c, .ref g1, .ref g2, .int (L : Int), .ref il] ∧ H c = some (.ins C dx []) ∧ GrN CG H g1 n us ∧ GrN CG H g2 m ws ∧ Full us n ∧ Full ws m ∧ CodeD us ws L im ∧ H il = some (.lst (nW ((win us L).map im))) ∧
  ∀ H', KeepB c H H' → CodeAt C CG H' c g1 g2 n m us ws L im → Q .non H'
section
variable {P : Program} {w : World} {K : PySem.W.Frag} {mg : Str → Option Value} {base : Heap} {f C CG : Addr} {mc : Value} {fd : FuncData} {k : Nat}
theorem scCi : FnScope NCi ["self", "source", "target", "width", "images"] (defScope sCInit) := ⟨rfl, rfl, rfl, by decide +kernel, rfl, by decide +kernel, by decide +kernel⟩
set_option maxHeartbeats 8000000 in
theorem ok_cinit (F : Fun K "__init__" "Code.__init__" sCInit f fd) (T : Bi mg) (G : CTxt K mg C mc) (cW : C8.Cal P w K mg base 1 "check_width" spCkW []) (cP : C8.Cal P w K mg base 4 "check_paths" (spCkP CG) []) (cI : C8.Cal P w K mg base 3 "check_images" (spCkI CG) []) (cF : C8.Cal P w K mg base 3 "check_following" (spCkF CG) []) (cA : CalG P w K mg base 6 False "paths" (spPaths CG)) :
    Sf.FnS P w K mg base CX0 (k + 10) f fd ["self", "source", "target", "width", "images"] (spCInit C CG) := by
  obtain ⟨fp, fdp, psp, Fp, mp, kp, bp⟩ := cA
  refine Fun.okS F scCi (fun vs H Q E h => ?_) (fun cdv A outer s H vs Q E hr h => ?_)
  · obtain ⟨c, dx, g1, g2, il, n, m, us, ws, L, im, rfl, _⟩ := h
    rfl
  · obtain ⟨c, dx, g1, g2, il, n, m, us, ws, L, im, rfl, hc, G1, G2, F1, F2, D, hI, q⟩ := h
    refine ⟨_, Sf.qss_cons (Sf.PS.up (ps_expr (C8.pe_c cW hr (by omega) (by rfl) (pa_cons (pv 3) (pa_cons pe_int pa_nil)))))
      (Sf.qss_cons (Sf.PS.up (ps_expr (C8.pe_c cP hr (by omega) (by rfl) (pa_cons (pv 1) (pa_cons (pv 3) pa_nil)))))
      (Sf.qss_cons (Sf.qs_set (i := 5) scCi.nd rfl (.inl rfl) (Sf.qe_listG (Sf.pgs_call Fp (hr.mono (by omega)) (by rfl) mp kp bp .nil (pa_cons (pv 1) (pa_cons (pv 3) pa_nil))) (hr.mono (by omega)) (by rfl) T.list (by decide +kernel)))
      (Sf.PSs.up (pss_cons (ps_if (pt_cmpR op_ne (pe_callB call_len_seq (by rfl) T.len PySem.boot_len (pa_cons (pv 4) pa_nil)) (pe_callB call_len_seq (by rfl) T.len PySem.boot_len (pa_cons (pv 5) pa_nil)) (nomark _)) (pss_one ps_never) pss_nil)
      (pss_cons (ps_expr (C8.pe_c cI hr (by omega) (by rfl) (pa_cons (pv 2) (pa_cons (pv 4) pa_nil))))
      (pss_cons (DcT.ps_setDcT (i := 6) (own := [("window", 7), ("image", 8)]) (g := gTup K 2 (gCons (gName 7) (gCons (gName 8) gNil))) (tt := tYes) (tk := tVar 7) (tv := tVar 8) (Nat.lt_of_le_of_lt (Nat.add_le_add_left (by decide) _) hr.units) rfl scCi.nd rfl rfl (DcT.swD rfl rfl rfl (by decide +kernel)) (pi_zip (by rfl) T.zip (pa_cons (pv 5) (pa_cons (pv 4) pa_nil))) (blkOk_by (N := NCi) (sc := defScope sCInit) (by decide +kernel))
        (fun _ _ _ _ _ => by exact pg_tup rfl (pgs_cons (pg_name (i := 7) scCi.nd rfl (Or.inl rfl)) (pgs_cons (pg_name (i := 8) scCi.nd rfl (Or.inl rfl)) pgs_nil))) (fun _ _ _ _ _ => pts_nil) (fun _ _ _ _ _ => by exact pv 7) (fun _ _ _ _ _ => by exact pv 8))
      (pss_cons (ps_expr (C8.pe_c cF hr (by omega) (by rfl) (pa_cons (pv 1) (pa_cons (pv 2) (pa_cons (pv 6) pa_nil)))))
      (pss_cons (ps_fld (pv 0) (pv 1) rfl)
      (pss_cons (ps_fld (pv 0) (pv 2) rfl)
      (pss_cons (ps_fld (pv 0) (pv 3) rfl)
      (pss_cons (ps_fld (pv 0) (pe_callTy call_tuple_of (by rfl) T.tuple (by decide +kernel) (pa_cons (pv 4) pa_nil)) rfl)
      (pss_one (ps_fld (pv 0) (pv 6) rfl))))))))))))), ?_⟩
    have l1 := D.l1
    have l4 := D.l4
    refine ⟨_, rfl, _, 1, rfl, by omega, by omega, ?_⟩
    refine ⟨_, rfl, _, rfl, g1, n, us, L, rfl, G1, l1, by omega, D.few, fun H1 s1 => ?_⟩
    refine ⟨_, rfl, _, rfl, g1, n, us, L, rfl, G1.same s1, l1, by omega, ?_, fun H2 as s2 tw => fun p hp => ?_⟩
    · rw [paths_all F1 l1]
      exact Nat.le_trans (by rw [Nat.zero_add]; exact D.few) (by rw [sizeLine_eq]; decide)
    rw [paths_all F1 l1] at tw
    have tw : TW H2 as (win us L) := tw
    have s12 := s1.trans s2
    have al := tw.len
    have few := D.few
    have s3 := s12.trans (same_upd (o := .lst (as.map V.ref)) hp)
    have tw := tw.same (same_upd (o := .lst (as.map V.ref)) hp)
    have ep : upd H2 p (.lst (as.map V.ref)) p = some (.lst (as.map V.ref)) := upd_same
    have np : H p = none := s12.free hp
    generalize upd H2 p (.lst (as.map V.ref)) = H3 at *
    have eI := s3 _ _ hI
    have ll : (as.map V.ref).length = (nW ((win us L).map im)).length := by rw [List.length_map, nW_len, List.length_map, al]
    refine ⟨_, rfl, il, _, rfl, .inl (SqL.of eI), _, rfl, p, _, rfl, .inl (SqL.of ep), rfl, _, rfl, ?_⟩
    rw [ll]
    refine if_f (by simp) ?_
    refine ⟨_, rfl, _, rfl, g2, il, _, _, _, rfl, (G2.same s3).gr, eI, fun i hi => ?_, by have := G2.m24; omega, fun H4 s4 => ?_⟩
    · obtain ⟨w0, hw, rfl⟩ := List.mem_map.mp hi
      exact D.rg w0 hw
    have ep4 := s4 _ _ ep
    have eI4 := s4 _ _ eI
    have tw4 := tw.same s4
    have sA := s3.trans s4
    refine ⟨_, rfl, _, rfl, p, il, _, _, rfl, SqL.of ep4, SqL.of eI4, fun B hB => ?_⟩
    have wl : (as.map V.ref).length = (win us L).length := by rw [List.length_map, al]
    refine walk_any (walk_zip (n := (win us L).length) (by rw [← ll, wl, Nat.min_self])) (fun i H' => Same H4 H' ∧ H' B = some (.dT (tabN ((win us L).take i) im))) ⟨same_upd hB, by rw [upd_same, List.take_zero]; rfl⟩ (fun i H' _ q => ⟨SqL.of (q.1 _ _ ep4), SqL.of (q.1 _ _ eI4)⟩) ?_ ?_
    · rintro i v H5 H6 hi ⟨s5, eB⟩ ⟨Ta, x, y, rfl, hT, rfl, gx, gy⟩
      replace gx : (as.map V.ref)[i]? = some x := gx
      replace gy : (nW ((win us L).map im))[i]? = some y := gy
      obtain ⟨a, ha, ea⟩ := TW.at (tw4.same s5) (List.getElem?_eq_getElem hi)
      rw [List.getElem?_map, ha] at gx
      cases gx
      have gy2 : (nW ((win us L).map im))[i]? = some (.int ((im (win us L)[i] : Nat) : Int)) := by
        unfold nW
        rw [List.getElem?_map, List.getElem?_map, List.getElem?_eq_getElem hi]
        rfl
      rw [gy2] at gy
      cases gy
      have fresh : (win us L)[i] ∉ (win us L).take i := by
        intro z
        obtain ⟨j, hj, e⟩ := List.mem_iff_getElem.mp z
        rw [List.getElem_take] at e
        rw [List.length_take] at hj
        exact (List.pairwise_iff_getElem.mp (List.nodup_iff_pairwise_ne.mp (win_nodup (us := us) L))) j i (by omega) hi (by omega) e
      have tk : (win us L).take (i + 1) = (win us L).take i ++ [(win us L)[i]] := by
        rw [List.take_add_one, List.getElem?_eq_getElem hi]
        rfl
      have put := tabN_put (im := im) fresh
      have tl : (tabN ((win us L).take i) im).length < sizeLine := by
        rw [tabN_len, List.length_take]
        exact small1000 (by omega)
      rw [tk]
      generalize (win us L)[i] = wi at *
      generalize (win us L).take i = wt at *
      have sT := same_upd (o := .tup [.ref a, .int ((im wi : Nat) : Int)]) hT
      refine ⟨Ta, _, rfl, SqT.of upd_same, rfl, _, _, rfl, _, _, rfl, rfl, rfl, ?_⟩
      have eB2 := sT _ _ eB
      have ea2 := sT _ _ ea
      have s7 := s5.trans sT
      generalize upd H5 Ta (.tup [.ref a, .int ((im wi : Nat) : Int)]) = H7 at *
      refine ⟨_, rfl, _, rfl, _, kN wi, a, rfl, by rw [kN_V]; exact ea2, eB2, tl, same_at s7 hB, ?_⟩
      rw [upd_same, put]
    · rintro H5 ⟨s5, eB⟩
      rw [List.take_length] at eB
      have sB := sA.trans s5
      have nB : H B = none := sA.free hB
      refine ⟨_, rfl, _, rfl, _, rfl, g1, g2, B, n, m, us, ws, L, im, rfl, G1.same sB, G2.same sB, eB, D, fun H6 s6 => ?_⟩
      have sC := sB.trans s6
      have eB6 := s6 _ _ eB
      have hc6 := sC _ _ hc
      have upp : ∀ {K1 : Hp} {o1 o2 : HO}, upd (upd K1 c o1) c o2 = upd K1 c o2 := upd_upd
      refine ⟨_, rfl, _, rfl, c, C, dx, [], rfl, hc6, G.cl, G.nS, (by show 0 < 1000; decide), ?_⟩
      rw [cput1]
      refine ⟨_, rfl, _, rfl, c, C, dx, _, rfl, upd_same, G.cl, G.nT, (by show 1 < 1000; decide), ?_⟩
      rw [cput2, upp]
      refine ⟨_, rfl, _, rfl, c, C, dx, _, rfl, upd_same, G.cl, G.nW, (by show 2 < 1000; decide), ?_⟩
      rw [cput3, upp]
      have ci : il ≠ c := fun z => by
        rw [z, hc] at hI
        cases hI
      have cb : B ≠ c := fun z => by
        rw [z, hc] at nB
        cases nB
      refine ⟨_, rfl, il, _, rfl, .inl ⟨SqL.of (by rw [upd_ne ci]; exact sC _ _ hI), fun t ht => ?_⟩⟩
      have ct : t ≠ c := fun z => by
        rw [z, upd_same] at ht
        cases ht
      refine ⟨_, rfl, c, C, dx, _, rfl, by rw [upd_ne ct.symm]; exact upd_same, G.cl, G.nI, (by show 3 < 1000; decide), ?_⟩
      rw [cput4]
      refine ⟨_, rfl, _, rfl, c, C, dx, _, rfl, upd_same, G.cl, G.nB, (by show 4 < 1000; decide), ?_⟩
      rw [cput5, upp]
      have ht6 : H6 t = none := by rw [upd_ne ct] at ht; exact ht
      have kp : KeepB c H6 (upd (upd (upd H6 c (.ins C dx [("source_graph", V.ref g1), ("target_graph", V.ref g2), ("window_size", V.int (L : Int))])) t (.tup (nW ((win us L).map im)))) c (.ins C dx (cflds g1 g2 L t B))) := fun x o nx ex => by
        rw [upd_ne nx, upd_ne (ne_of_none ex ht6), upd_ne nx]
        exact ex
      have atc : (upd (upd (upd H6 c (.ins C dx [("source_graph", V.ref g1), ("target_graph", V.ref g2), ("window_size", V.int (L : Int))])) t (.tup (nW ((win us L).map im)))) c (.ins C dx (cflds g1 g2 L t B))) c = some (.ins C dx (cflds g1 g2 L t B)) := upd_same
      have att : (upd (upd (upd H6 c (.ins C dx [("source_graph", V.ref g1), ("target_graph", V.ref g2), ("window_size", V.int (L : Int))])) t (.tup (nW ((win us L).map im)))) c (.ins C dx (cflds g1 g2 L t B))) t = some (.tup (nW ((win us L).map im))) := by rw [upd_ne ct, upd_same]
      exact q _ (fun x o nx ex => kp x o nx (sC _ _ ex)) ⟨⟨dx, t, B, atc, att, kp B _ cb eB6⟩, (G1.same sC).keep hc6 kp, (G2.same sC).keep hc6 kp, F1, F2, D⟩
end
end Lw
end
section
set_option Elab.async false
set_option linter.all false
set_option maxRecDepth 100000
/-! the law's own paths. -/
namespace Lw
open PySem L2 PyProof.Rows
theorem TW.snoc {H : Hp} {as : List Addr} {st : List (List Nat)} {a : Addr} {s : List Nat} (h : TW H as st) (e : H a = some (.tup (nW s))) : TW H (as ++ [a]) (st ++ [s]) := h.app ⟨e, True.intro⟩
section
variable {P : Program} {w : World} {K : PySem.W.Frag} {mg : Str → Option Value} {base : Heap} {f CG : Addr} {fd : FuncData} {k : Nat}
theorem scPths : FnScope ["_law_plan_here", "_law_size", "_law_found", "_law_turn", "_law_longer", "_law_path", "_law_number"] ["_law_plan_here", "_law_size"] (defScope sPths) := ⟨rfl, rfl, rfl, by decide +kernel, rfl, by decide +kernel, by decide +kernel⟩
set_option maxHeartbeats 8000000 in
theorem ok_pths (F : Fun K "_law_paths" "_law_paths" sPths f fd) (T : Bi mg) (cA : C8.Cal P w K mg base 1 "_law_after" spAft []) : FnOk P w K mg base CX0 (k + 2) f fd ["_law_plan_here", "_law_size"] spPths := by
  refine F.ok scPths (fun vs H Q E h => ?_) (fun cdv A outer s H vs Q E hr h => ?_)
  · obtain ⟨p, q0, n, ts, L, rfl, _⟩ := h
    rfl
  · obtain ⟨p, q0, n, ts, L, rfl, PA, m24, l1, l4, q⟩ := h
    refine ⟨_, pss_cons (ps_setLc (i := 2) (own := [("_law_number", 6)]) (g := gName 6) (tt := tYes) (te := tTup (tCons (tVar 6) tNil)) rfl scPths.nd rfl rfl (sw_true rfl rfl rfl (by decide +kernel))
          (pi_range1 (by rfl) T.range (pa_cons (pe_callB call_len_seq (by rfl) T.len PySem.boot_len (pa_cons (pe_ix ix_tup (pv 0) pe_int (fun _ _ => rfl)) pa_nil)) pa_nil)) (blkOk_by (N := ["_law_plan_here", "_law_size", "_law_found", "_law_turn", "_law_longer", "_law_path", "_law_number"]) (sc := defScope sPths) (by decide +kernel))
          (fun _ _ _ _ _ => by exact pg_name (i := 6) scPths.nd rfl (Or.inl rfl)) (fun _ _ _ _ _ => pts_nil) (fun _ _ _ _ _ => by exact pe_tup (pa_cons (pv 6) pa_nil)))
      (pss_cons (ps_for PassesOwn.never rfl (pi_range1 (by rfl) T.range (pa_cons (pe_op op_sub (pv 1) pe_int) pa_nil)) (pg_name (i := 3) scPths.nd rfl (.inl rfl))
        (pss_cons (ps_set (i := 4) scPths.nd rfl (.inl rfl) (pe_lst pa_nil))
        (pss_cons (ps_for PassesOwn.never rfl (pi_seqA (pv 2)) (pg_name (i := 5) scPths.nd rfl (.inr rfl))
          (pss_one (ps_set (i := 4) scPths.nd rfl (.inl rfl) (pe_op op_cat (pv 4) (pe_lc (own := [("_law_number", 6)]) (g := gName 6) (tt := tYes) (te := tOp (rCatA K) (tVar 5) (tTup (tCons (tVar 6) tNil))) rfl scPths.nd
              (pi_seqA (C8.pe_c cA hr (by omega) (by rfl) (pa_cons (pv 0) (pa_cons (pe_ix ix_tup (pv 5) (pe_un un_neg pe_int) (fun _ _ => rfl)) pa_nil)))) (blkOk_by (N := ["_law_plan_here", "_law_size", "_law_found", "_law_turn", "_law_longer", "_law_path", "_law_number"]) (sc := defScope sPths) (by decide +kernel))
              (fun _ _ _ _ _ => by exact pg_name (i := 6) scPths.nd rfl (Or.inl rfl)) (fun _ _ _ _ _ => pts_nil) (fun _ _ _ _ _ => by exact pe_op op_catA (pv 5) (pe_tup (pa_cons (pv 6) pa_nil))))))))
        (pss_one (ps_set (i := 2) scPths.nd rfl (.inl rfl) (pv 4))))))
      (pss_one (ps_ret (pv 2)))), ?_⟩
    refine ⟨_, rfl, p, _, _, _, rfl, rfl, SqT.of PA.tp, rfl, q0, _, rfl, .inl (SqL.of PA.ls), _, rfl, by omega, by rw [vsOf_len]; omega, fun D hD => ?_⟩
    refine lc_it (walk_range (lo := 0) (n := (((vsOf ts).length : Nat) : Int).toNat)) (fun i H' => ∃ as : List Addr, Same H H' ∧ H' D = some (.lst (as.map V.ref)) ∧ TW H' as ((List.range i).map fun e => [e])) ⟨[], same_upd hD, upd_same, True.intro⟩ (fun _ _ _ _ => True.intro) ?_ ?_
    · rintro i z H1 H2 hi ⟨as, sm, eD, tw⟩ ⟨rfl, hz⟩
      rw [Int.toNat_natCast, vsOf_len] at hi
      have hz : z = .int (i : Int) := by
        rw [hz]
        show V.int (0 + (i : Int)) = _
        rw [Int.zero_add]
      subst hz
      have al := tw.len
      rw [List.length_map, List.length_range] at al
      refine ⟨rfl, ?_⟩
      refine ⟨_, rfl, (by show 1 ≤ sizeLine; decide), fun u hu => ?_⟩
      have su := same_upd (o := .tup [.int (i : Int)]) hu
      have eD2 := su _ _ eD
      refine ⟨_, eD2, by rw [List.length_map, al]; exact small1000 (by omega), as ++ [u], same_at (sm.trans su) hD, by rw [upd_same, List.map_append]; rfl, ?_⟩
      rw [List.range_succ, List.map_append]
      exact TW.off eD2 ((tw.same su).snoc upd_same)
    · rintro H1 ⟨as, s1, eD, tw⟩
      rw [Int.toNat_natCast, vsOf_len] at tw
      have tw : TW H1 as (levP (lvF ts) (tgtE ts) ts.length 0) := tw
      refine ⟨_, rfl, _, _, rfl, rfl, (L : Int) - 1, rfl, by omega, by omega, ?_⟩
      refine for_it (walk_range (lo := 0) (n := ((L : Int) - 1).toNat)) (fun i σ H' => ∃ (v3 v4 v5 : Option V) (Fd : Addr) (as : List Addr), σ = [some (.ref p), some (.int (L : Int)), some (.ref Fd), v3, v4, v5, none] ∧ Same H H' ∧ H Fd = none ∧ H' Fd = some (.lst (as.map V.ref)) ∧ TW H' as (levP (lvF ts) (tgtE ts) ts.length i))
        ⟨none, none, none, D, as, rfl, s1, hD, eD, tw⟩ (fun _ _ _ _ _ => True.intro) ?_ ?_
      · rintro i z σ H2 H3 hi ⟨v3, v4, v5, Fd, as, rfl, s2, nF, eF, tw⟩ ⟨rfl, hz⟩
        have hi : i + 1 ≤ 3 := by omega
        refine ⟨(by show 0 ≤ sizeLine; exact Nat.zero_le _), fun G hG => ?_⟩
        have sG := same_upd (o := .lst []) hG
        have nG : H G = none := s2.free hG
        refine ⟨_, rfl, Fd, _, SqL, rfl, .inl rfl, SqL.of (sG _ _ eF), fun J wk => ?_⟩
        have eG : upd H3 G (.lst []) G = some (.lst []) := upd_same
        generalize upd H3 G (.lst []) = H4 at *
        refine for_it wk (fun j σ H' => ∃ (v5 : Option V) (G : Addr) (bs : List Addr), σ = [some (.ref p), some (.int (L : Int)), some (.ref Fd), some z, some (.ref G), v5, none] ∧ Same H4 H' ∧ H G = none ∧ H' G = some (.lst (bs.map V.ref)) ∧ TW H' bs (((levP (lvF ts) (tgtE ts) ts.length i).take j).flatMap (extP (lvF ts) (tgtE ts))))
          ⟨_, G, [], rfl, fun _ _ z => z, nG, eG, True.intro⟩ (fun j σ H' _ q => by obtain ⟨_, _, _, _, s, _⟩ := q; exact SqL.of (s _ _ (sG _ _ eF))) ?_ ?_
        · rintro j x σ H5 H6 hj ⟨v5, G, bs, rfl, s5, nG, eG, tb⟩ ⟨rfl, gx⟩
          rw [List.length_map, tw.len] at hj
          obtain ⟨a, ha, ea⟩ := TW.at (tw.same (sG.trans s5)) (List.getElem?_eq_getElem hj)
          rw [List.getElem?_map, ha] at gx
          cases gx
          have tk : (levP (lvF ts) (tgtE ts) ts.length i).take (j + 1) = (levP (lvF ts) (tgtE ts) ts.length i).take j ++ [(levP (lvF ts) (tgtE ts) ts.length i)[j]] := by
            rw [List.take_add_one, List.getElem?_eq_getElem hj]
            rfl
          obtain ⟨wl, wk2⟩ := (mem_lev i _).mp (List.getElem_mem hj)
          have room := lev_small m24 hi
          have part : (((levP (lvF ts) (tgtE ts) ts.length i).take j).flatMap (extP (lvF ts) (tgtE ts))).length + (extP (lvF ts) (tgtE ts) (levP (lvF ts) (tgtE ts) ts.length i)[j]).length ≤ 331776 := by
            refine Nat.le_trans ?_ room
            show _ ≤ ((levP (lvF ts) (tgtE ts) ts.length i).flatMap (extP (lvF ts) (tgtE ts))).length
            conv => rhs; rw [← List.take_append_drop (j + 1) (levP (lvF ts) (tgtE ts) ts.length i), tk]
            rw [List.flatMap_append, List.flatMap_append, List.length_append, List.length_append, List.flatMap_singleton]
            omega
          rw [tk, List.flatMap_append, List.flatMap_singleton]
          generalize (levP (lvF ts) (tgtE ts) ts.length i)[j] = pth at *
          have tbl := tb.len
          generalize ((levP (lvF ts) (tgtE ts) ts.length i).take j).flatMap (extP (lvF ts) (tgtE ts)) = done at *
          obtain ⟨pp, y, rfl⟩ : ∃ pp y, pth = pp ++ [y] := ⟨pth.dropLast, pth.getLast (fun z => by rw [z] at wl; cases wl), (List.dropLast_concat_getLast _).symm⟩
          have ylt : y < ts.length := lnk_lt wk2 y (by simp)
          have gl : (pp ++ [y]).getLastD 0 = y := by simp
          have ea2 := ea
          rw [nW_snoc] at ea2
          have sH := s2.trans (sG.trans s5)
          refine ⟨_, rfl, _, rfl, _, rfl, 1, rfl, a, _, -1, _, rfl, rfl, SqT.of ea2, atI_last _ _, p, q0, n, ts, y, rfl, PA.same sH, ylt, m24, fun N H7 s7 nN eN => ?_⟩
          refine ⟨N, _, SqL, rfl, .inl rfl, SqL.of eN, fun J2 wk3 => fun B hB => ?_⟩
          refine lc_it wk3 (fun m H' => ∃ cs : List Addr, Same H7 H' ∧ H' B = some (.lst (cs.map V.ref)) ∧ TW H' cs (((lvF ts (tgtE ts y)).take m).map fun e => (pp ++ [y]) ++ [e])) ⟨[], same_upd hB, upd_same, True.intro⟩ (fun m H' _ q => by obtain ⟨_, s, _⟩ := q; exact SqL.of (s _ _ eN)) ?_ ?_
          · rintro m x H8 H9 hm ⟨cs, s8, eB, tc⟩ ⟨rfl, gx⟩
            rw [nW_len] at hm
            rw [nW_at hm] at gx
            cases gx
            have tk2 : (lvF ts (tgtE ts y)).take (m + 1) = (lvF ts (tgtE ts y)).take m ++ [(lvF ts (tgtE ts y)).getD m 0] := by
              rw [List.take_add_one, List.getElem?_eq_getElem hm]
              simp [List.getD, hm]
            have cl := tc.len
            rw [List.length_map, List.length_take] at cl
            have lvl := lvF_len ts (tgtE ts y)
            rw [tk2, List.map_append]
            generalize (lvF ts (tgtE ts y)).getD m 0 = ed at *
            refine ⟨rfl, ?_⟩
            refine ⟨_, rfl, _, rfl, (by show 1 ≤ sizeLine; decide), fun u hu => ?_⟩
            have su := same_upd (o := .tup [.int (ed : Int)]) hu
            have eu : upd H9 u (.tup [.int (ed : Int)]) u = some (.tup (nW [ed])) := upd_same
            generalize upd H9 u (.tup [.int (ed : Int)]) = H10 at *
            refine catA (su _ _ (s8 _ _ (s7 _ _ ea))) eu ?_ fun c H12 s12 ec => ?_
            · rw [nW_len, nW_len, wl]
              show i + 1 + 1 ≤ 1000
              omega
            rw [← nW_app] at ec
            have s13 := s8.trans (su.trans s12)
            have eB2 := s12 _ _ (su _ _ eB)
            refine ⟨_, eB2, by rw [List.length_map, cl]; exact small1000 (by omega), cs ++ [c], same_at s13 hB, by rw [upd_same, List.map_append]; rfl, ?_⟩
            exact TW.off eB2 ((tc.same (su.trans s12)).snoc ec)
          · rintro H8 ⟨cs, s8, eB, tc⟩
            rw [nW_len, List.take_length] at tc
            have s58 := s7.trans s8
            have cl := tc.len
            rw [List.length_map] at cl
            have xl : (extP (lvF ts) (tgtE ts) (pp ++ [y])) = (lvF ts (tgtE ts y)).map fun e => (pp ++ [y]) ++ [e] := by
              unfold extP
              rw [gl]
            rw [xl] at part ⊢
            rw [List.length_map] at part
            refine ⟨G, B, _, _, rfl, rfl, s58 _ _ eG, eB, ?_, fun R hR => ?_⟩
            · rw [List.length_map, List.length_map, tbl, cl, sizeLine_eq]
              omega
            have sR := same_upd (o := .lst (bs.map V.ref ++ cs.map V.ref)) hR
            refine ⟨_, R, bs ++ cs, rfl, s5.trans (s58.trans sR), (sH.trans s58).free hR, by rw [upd_same, List.map_append], ?_⟩
            exact ((tb.same s58).same sR).app (tc.same sR)
        · rintro σ H5 ⟨v5, G, bs, rfl, s5, nG, eG, tb⟩
          rw [List.length_map, tw.len, List.take_length] at tb
          exact ⟨_, rfl, _, _, _, G, bs, rfl, s2.trans (sG.trans s5), nG, eG, tb⟩
      · rintro σ H2 ⟨v3, v4, v5, Fd, as, rfl, s2, nF, eF, tw⟩
        have e : ((L : Int) - 1).toNat = L - 1 := by omega
        rw [e] at tw
        exact ⟨_, rfl, q Fd as H2 s2 nF eF tw⟩
end
end Lw
end
section
set_option Elab.async false
set_option linter.all false
set_option maxRecDepth 100000
/-! codes made by states drawn for shorter paths: the mathematics. -/
namespace Lw
open PySem L2
theorem nodup_sub {α : Type} [BEq α] [LawfulBEq α] : ∀ {xs ys : List α}, xs.Nodup → (∀ x ∈ xs, x ∈ ys) → xs.length ≤ ys.length
  | [], _, _, _ => Nat.zero_le _
  | x :: xs, ys, h, s => by
    obtain ⟨h1, h2⟩ := List.nodup_cons.mp h
    have m := s x List.mem_cons_self
    have := nodup_sub (ys := ys.erase x) h2 fun y hy => (List.mem_erase_of_ne (fun e => by subst e; exact h1 hy)).mpr (s y (List.mem_cons_of_mem _ hy))
    rw [List.length_erase_of_mem m] at this
    have pos := List.length_pos_of_mem m
    rw [List.length_cons]
    omega
/-- what gets a state: the states, or the paths with one edge less -/
def spots (ts : Es) (n L : Nat) : List (List Nat) := if L = 1 then (List.range n).map (fun s => [s]) else win ts (L - 1)
def ini (ts : Es) (L : Nat) (p : List Nat) : List Nat := if L = 1 then [srcE ts (p.headD 0)] else p.dropLast
def fin_ (ts : Es) (L : Nat) (p : List Nat) : List Nat := if L = 1 then [tgtE ts (p.headD 0)] else p.drop 1
section
variable {ts : Es} {n L : Nat}
theorem spots_nodup : (spots ts n L).Nodup := by
  unfold spots
  by_cases h : L = 1
  · rw [if_pos h, List.nodup_iff_pairwise_ne, List.pairwise_map]
    exact (List.nodup_iff_pairwise_ne.mp List.nodup_range).imp fun h z => h (by injection z)
  · rw [if_neg h]
    exact win_nodup _
theorem ini_mem (F : Full ts n) (l1 : 1 ≤ L) {p : List Nat} (h : p ∈ win ts L) : ini ts L p ∈ spots ts n L := by
  obtain ⟨wl, wk⟩ := (mem_win l1).mp h
  unfold ini spots
  by_cases e : L = 1
  · rw [if_pos e, if_pos e]
    match p, wl.trans e, wk with
    | [x], _, wk => exact List.mem_map.mpr ⟨_, List.mem_range.mpr (F.sr x wk), rfl⟩
  · rw [if_neg e, if_neg e]
    have := win_take (us := ts) (L := L - 1) (M := L) (by omega) (by omega) h
    rwa [show p.take (L - 1) = p.dropLast by rw [List.dropLast_eq_take, wl]] at this
theorem fin_mem (F : Full ts n) (l1 : 1 ≤ L) {p : List Nat} (h : p ∈ win ts L) : fin_ ts L p ∈ spots ts n L := by
  obtain ⟨wl, wk⟩ := (mem_win l1).mp h
  unfold fin_ spots
  by_cases e : L = 1
  · rw [if_pos e, if_pos e]
    match p, wl.trans e, wk with
    | [x], _, wk => exact List.mem_map.mpr ⟨_, List.mem_range.mpr (F.tg x wk), rfl⟩
  · rw [if_neg e, if_neg e]
    exact win_drop 1 (by omega) h
theorem ini_next (l1 : 1 ≤ L) {p : List Nat} {e : Nat} (h : p ∈ win ts L) (he : e ∈ lvF ts (tgtE ts (p.getLastD 0))) : ini ts L (p.drop 1 ++ [e]) = fin_ ts L p := by
  obtain ⟨wl, wk⟩ := (mem_win l1).mp h
  unfold ini fin_
  by_cases z : L = 1
  · rw [if_pos z, if_pos z]
    match p, wl.trans z, he with
    | [x], _, he => exact congrArg (fun k => [k]) (mem_lvF.mp he).2
  · rw [if_neg z, if_neg z, List.dropLast_concat]
theorem spot_ext (F : Full ts n) (l1 : 1 ≤ L) {s : List Nat} (h : s ∈ spots ts n L) : ∃ p ∈ win ts L, ini ts L p = s := by
  unfold spots at h
  unfold ini
  by_cases e : L = 1
  · rw [if_pos e] at h
    obtain ⟨x, hx, rfl⟩ := List.mem_map.mp h
    obtain ⟨y, hy, ey⟩ := F.lv x (List.mem_range.mp hx)
    refine ⟨[y], (mem_win l1).mpr ⟨e.symm, hy⟩, ?_⟩
    rw [if_pos e]
    exact congrArg (fun k => [k]) ey
  · rw [if_neg e] at h
    obtain ⟨wl, wk⟩ := (mem_win (by omega)).mp h
    have ne : s ≠ [] := fun z => by rw [z] at wl; change 0 = L - 1 at wl; omega
    have last : s.getLastD 0 < ts.length := by
      obtain ⟨d, y, rfl⟩ : ∃ d y, s = d ++ [y] := ⟨_, _, (List.dropLast_concat_getLast ne).symm⟩
      refine lnk_lt wk _ ?_
      rw [List.getLastD_concat]
      simp
    obtain ⟨y, hy, ey⟩ := F.lv _ (F.tg _ last)
    refine ⟨s ++ [y], (mem_win l1).mpr ⟨by rw [List.length_append, wl, List.length_singleton]; omega, lnk_snoc.mpr ⟨wk, hy, fun _ => ey⟩⟩, ?_⟩
    rw [if_neg e, List.dropLast_concat]
theorem spots_le (F : Full ts n) (l1 : 1 ≤ L) : (spots ts n L).length ≤ (win ts L).length := by
  have h : ((win ts L).map (ini ts L)).length = (win ts L).length := List.length_map _
  rw [← h]
  have sub : ∀ s ∈ spots ts n L, s ∈ (win ts L).map (ini ts L) := fun s hs => by
    obtain ⟨p, hp, e⟩ := spot_ext F l1 hs
    exact List.mem_map.mpr ⟨p, hp, e⟩
  exact nodup_sub spots_nodup sub
end
/-- the value drawn for a place of a list -/
def atOf (ws : List (List Nat)) (is : List Nat) (p : List Nat) : Nat := is.getD (ws.idxOf p) 0
theorem atOf_get {ws : List (List Nat)} {is : List Nat} (nd : ws.Nodup) {i : Nat} (h : i < ws.length) : atOf ws is ws[i] = is.getD i 0 := by
  unfold atOf
  rw [List.Nodup.idxOf_getElem nd]
theorem map_atOf {ws : List (List Nat)} {is : List Nat} (nd : ws.Nodup) (l : is.length = ws.length) : ws.map (atOf ws is) = is := by
  apply List.ext_getElem
  · rw [List.length_map, l]
  · intro i h1 h2
    rw [List.getElem_map, atOf_get nd]
    simp [List.getD, h2]
/-- the ends that a window's image must have -/
def endsP (ts : Es) (L : Nat) (gf : List Nat → Nat) (p : List Nat) : Int × Int := (((gf (ini ts L p) : Nat) : Int), ((gf (fin_ ts L p) : Nat) : Int))
theorem rule_codeD {ts eds : Es} {L : Nat} {gf : List Nat → Nat} {is : List Nat} (l1 : 1 ≤ L) (l4 : L ≤ 4) (few : (win ts L).length ≤ 600) (len : is.length = (win ts L).length)
    (h : ∀ i, i < is.length → (psOf eds)[is.getD i 0]? = some (endsP ts L gf ((win ts L).getD i []))) : CodeD ts eds L (atOf (win ts L) is) := by
  have nd := win_nodup (us := ts) L
  have key : ∀ p ∈ win ts L, (psOf eds)[atOf (win ts L) is p]? = some (endsP ts L gf p) := fun p hp => by
    obtain ⟨i, hi, rfl⟩ := List.mem_iff_getElem.mp hp
    have := h i (by omega)
    rw [atOf_get nd hi, this]
    simp [List.getD, hi]
  have src : ∀ p ∈ win ts L, srcE eds (atOf (win ts L) is p) = gf (ini ts L p) := fun p hp => by
    rw [srcE_ps, key p hp]
    exact Int.toNat_natCast _
  have tgt : ∀ p ∈ win ts L, tgtE eds (atOf (win ts L) is p) = gf (fin_ ts L p) := fun p hp => by
    rw [tgtE_ps, key p hp]
    exact Int.toNat_natCast _
  refine ⟨l1, l4, few, fun p hp => ?_, fun p hp e he => ?_⟩
  · have := (List.getElem?_eq_some_iff.mp (key p hp)).1
    unfold psOf at this
    rwa [List.length_map] at this
  · rw [src _ (win_next l1 hp he), tgt p hp, ini_next l1 hp he]
end Lw
end
section
set_option Elab.async false
set_option linter.all false
set_option maxRecDepth 100000
/-! dict(zip(ks, vs)), ks a list of tuples, vs as long a list -/
namespace DzT
open PySem PySem.W PySem.Spec PyProof.Rows L2
abbrev Row := Addr × List Key × V
def foldP (acc : List (List Key × V)) (L : List Row) : List (List Key × V) := L.foldl (fun kvs e => putK kvs e.2.1 e.2.2) acc
def withV (L : List Row) (us : List Value) : List (List Key × Addr × Value) := (L.zip us).map fun p => (p.1.2.1, p.1.1, p.2)
theorem foldP_le : ∀ (L : List Row) (acc : List (List Key × V)), (foldP acc L).length ≤ acc.length + L.length
  | [], acc => Nat.le_refl _
  | e :: L, acc => by
    have h1 := foldP_le L (putK acc e.2.1 e.2.2)
    have h2 := length_putK acc e.2.1 e.2.2
    show (foldP (putK acc e.2.1 e.2.2) L).length ≤ acc.length + (L.length + 1)
    omega
theorem kt_fold {H : Hp} : ∀ (L : List Row) (us : List Value) (acc : List (List Key × V)) (xs : List (List Key × Addr × Value)), KT H acc xs → Vals (L.map fun e => e.2.2) us → (∀ e ∈ L, H e.1 = some (.tup (e.2.1.map kV))) → KT H (foldP acc L) (storedAllH xs (withV L us))
  | [], us, acc, xs, r, _, _ => by
    unfold withV
    exact r
  | e :: L, _, acc, xs, r, .cons (l₂ := us) ru rs, h => kt_fold L us _ _ (r.put e.2.1 (h e (.head _)) ru) rs fun e he => h e (.tail _ he)
theorem withV_len {L : List Row} {us : List Value} (h : us.length = L.length) : (withV L us).length = L.length := by
  unfold withV
  rw [List.length_map, List.length_zip, h, Nat.min_self]
theorem withV_at {L : List Row} {us : List Value} {i : Nat} {e : Row} {u : Value} (h : L[i]? = some e) (h2 : us[i]? = some u) : (withV L us)[i]? = some (e.2.1, e.1, u) := by
  unfold withV
  have z : (L.zip us)[i]? = some (e, u) := List.getElem?_zip_eq_some.mpr ⟨h, h2⟩
  rw [List.getElem?_map, z]
  rfl
theorem withV_mem {L : List Row} {us : List Value} {x : List Key × Addr × Value} (h : x ∈ withV L us) : ∃ e ∈ L, x.1 = e.2.1 ∧ x.2.1 = e.1 := by
  obtain ⟨p, hp, rfl⟩ := List.mem_map.mp h
  exact ⟨p.1, (List.of_mem_zip hp).1, rfl, rfl⟩
def tDZip (K : PySem.W.Frag) (ta : TA) : TE := fun σ H Q => ta σ H fun vs H1 => ∃ (a b : Addr) (L : List Row), vs = [.ref a, .ref b] ∧ SqL K H1 a (L.map fun e => .ref e.1) ∧ SqL K H1 b (L.map fun e => e.2.2) ∧ (∀ e ∈ L, H1 e.1 = some (.tup (e.2.1.map kV))) ∧ L.length ≤ sizeLine ∧
  ∀ D, H1 D = none → Q (.ref D) (upd H1 D (.dT (foldP [] L)))
set_option maxHeartbeats 1000000 in
theorem pe_dzip {X : Cx} {e e2 : Expr} {ta : TA} {pd pz cpos pos : Pos} (hu : X.A.units + 3 < cLine) (calm : X.calm = true) (gd : Gl X "dict") (md : X.mg "dict" = none) (gz : Gl X "zip") (mz : X.mg "zip" = none) (ha : PA X [e, e2] ta)
    (hs : starEach [e, e2] X.env = (false, eval e X.env) :: starEach [e2] X.env := by rfl) (hpl : (backTo cpos (starEach [e2] X.env)).any (·.1) = false := by rfl)
    (ho : starEach [.Call (.Name "zip" pz) [e, e2] [] cpos] X.env = [(false, eval (.Call (.Name "zip" pz) [e, e2] [] cpos) X.env)] := by rfl) :
    PE X (.Call (.Name "dict" pd) [.Call (.Name "zip" pz) [e, e2] [] cpos] [] pos) (tDZip X.K ta) := by
  constructor
  intro pins s σ H Q I h
  refine Call_ (ld_blt I gd md (show bootBuiltins "dict" = some (.type "dict") by decide +kernel) (PyProof.Rows.callWith_type1 ?_ ho rfl))
  rw [ho]
  show wpAny _ _ (spliced ((false, eval (.Call (.Name "zip" pz) [e, e2] [] cpos) X.env) :: backTo pos [])) _ _ s
  refine Calls.spliced_cons ?_
  refine Call_ (ld_blt I gz mz PyProof.Rows.boot_zip (PyProof.Rows.callWith_type1 (wpAny_mono (ha.run cpos pins s σ H _ I h) ?_ fun _ _ z => z) hs hpl))
  rintro us s1 ⟨_, H1, I1, rv, a, b, L, rfl, qa, qb, keys, small, fin⟩
  obtain ⟨_, _, rfl, ra, rb⟩ := vals2 rv
  cases ra
  cases rb
  obtain ⟨its, r1, p1, _⟩ := I1.list qa
  obtain ⟨its2, r2, p2, _⟩ := I1.list qb
  have la : a < s1.heap.objs.size := p1.lt
  have lb : b < s1.heap.objs.size := p2.lt
  have len1 : its.length = L.length := by rw [← r1.length, List.length_map]
  have len2 : its2.length = L.length := by rw [← r2.length, List.length_map]
  refine call_zip_2 p1.isList p2.isList fun h2 hz hTI hTO h1 h2' hsz hk => Calls.spliced_nil ?_
  have I2 : Inv X pins σ H1 { s1 with heap := h2 } := I1.kept (t' := s1.toks) hk
  let n := s1.heap.objs.size
  have off : ∀ c ∈ [n + 4, n + 3, n, n + 1], FpOk X pins H1 c := fun c hc => by
    have le : s1.heap.objs.size ≤ c := by
      simp only [List.mem_cons, List.not_mem_nil, or_false] at hc
      rcases hc with z | z | z | z <;> rw [z] <;> first | exact Nat.le_add_right _ _ | exact Nat.le_refl _
    exact I1.fpOk le (I1.hok.fresh le)
  have AP := ktu_apart s1.heap.objs.size a b la lb
  have stay : KeysStay (tupleKind (mixKind X.prog X.w)) h2 h2.objs.size [n + 4, n + 3, n, n + 1] (withV L its2) := by
    intro h3 kp x hx
    obtain ⟨e, he, e1, e2⟩ := withV_mem hx
    have tr := keys e he
    obtain ⟨o, items, m, g1, g2, g3, g4⟩ := key_of I2.hok tr
    rw [e1, e2]
    refine ⟨o, items, m, kp _ _ (fun z => ?_) (fun z => ?_) g1, g2, g3, g4⟩
    · rw [I2.hok.fresh (Nat.le_of_eq z.symm)] at tr
      cases tr
    · rw [(off _ z).1] at tr
      cases tr
  refine call_dict_pairsH (knd := tupleKind (mixKind X.prog X.w)) (ps := withV L its2) (PairArg.zip _ _ _ _ _ _ _ AP its.toArray its2.toArray) (I.ok.hd calm) (show X.A.in1.in1.units < cLine from Nat.lt_of_le_of_lt (by show X.A.units + 1 + 1 ≤ X.A.units + 3; omega) hu) ⟨hz, hTI, ⟨_, _, hTO⟩, h1, h2', p1.isList.at fun o q => hk _ _ q, p2.isList.at fun o q => hk _ _ q⟩ ⟨?_, ?_⟩ stay ?_ ?_
  · rw [withV_len len2, List.size_toArray, List.size_toArray, len1, len2, Nat.min_self]
  · rintro i key v ⟨g1, g2⟩
    rw [List.getElem?_toArray] at g1 g2
    have lt : i < L.length := by rw [← len2]; exact (List.getElem?_eq_some_iff.mp g2).1
    obtain ⟨u, hu, ru⟩ := r1.get (x := .ref (L[i]).1) (by rw [List.getElem?_map, List.getElem?_eq_getElem lt]; rfl)
    rw [g1] at hu
    cases hu
    exact ⟨_, _, withV_at (List.getElem?_eq_getElem lt) g2, ru⟩
  · rw [List.size_toArray, List.size_toArray, len1, len2, Nat.min_self]
    exact small
  · intro h3 tk dd kp
    have nD : H1 h2.objs.size = none := I2.hok.fresh (Nat.le_refl _)
    have T := kt_fold L its2 [] [] .nil r2 keys
    obtain ⟨o, es, ep, g1, g2, g3, g4, _, g5⟩ := dd
    have low : (h2.objs.size == sysModules) = false := beq_eq_false_iff_ne.mpr (Nat.ne_of_gt I2.big)
    refine ⟨.ref h2.objs.size, upd H1 h2.objs.size (.dT (foldP [] L)), I2.turnedNew (ch := [n + 4, n + 3, n, n + 1]) (fun c ob hc q => kp c ob hc q) off (Nat.le_refl _) ⟨?_, low, _, T.keeps fun c ws ec => ?_, o, es, ep, g1, g2, g3, g4, g5⟩, rfl, fin _ nD⟩
    · have := foldP_le L []
      simp only [List.length_nil, Nat.zero_add] at this
      exact Nat.le_trans this small
    · rw [upd_ne (fun z => by rw [z, nD] at ec; cases ec)]
      exact ec
end DzT
end
section
set_option Elab.async false
set_option linter.all false
set_option maxRecDepth 100000
/-! set(xs), xs a list of ints; sorted of it -/
namespace SetL
open PySem PySem.Spec PyProof.Rows L2
/-- an empty set, as it is made -/
abbrev bare (w : World) : Obj := { cls := .type "set", dict := none, data := .set #[] 0 (.fresh 0 0 (!w.params.followText "set-order")) }
section
variable {P : Program} {w : World} {A : Around} {E : Value → Shared → Prop} {s : Shared}
/-- what its filling leaves -/
abbrev Filled (w : World) (s : Shared) (ns : List Int) : Value → Shared → Prop := fun r s2 => r = .none ∧ ∃ g tk c, s2 = { s with heap := g, toks := tk } ∧ SetR w g s.heap.objs.size (fun j => decide (j ∈ ns)) c ∧ c ≤ ns.length ∧ ∀ b o, s.heap.get? b = some o → g.get? b = some o
set_option maxHeartbeats 3200000 in
theorem fill {l : Addr} {items : Array Value} (ns : List Int) {R : Result → Shared → Prop} (calm : A.handled = none) (hl : s.heap.IsList l items) (are : IntsAre items.toList ns) (few : ns.length + 1 < scanBound)
    (fin : ∀ s2, Filled w s ns .none s2 → R (.ok (.ret .none)) s2) :
    wpAny (model P w) A.in1 (Builtin.«set.__init__» ⟨[.ref s.heap.objs.size, .ref l], []⟩) (GQ.FinOf P w A R) (fun e s' => R (.error e) s') { s with heap := s.heap.push (bare w) } := by
  have size : items.size = ns.length := by
    have q := IntsAre.length are
    rwa [Array.length_toList] at q
  have at0 : (s.heap.push (bare w)).get? s.heap.objs.size = some (bare w) := Heap.get?_push_size _ rfl
  obtain ⟨⟨cls, dic, dat, slo⟩, hol, hc, nl, hd⟩ := hl
  simp only at hc hd
  subst hc hd
  have hol2 : (s.heap.push (bare w)).get? l = some { cls := .type "list", dict := dic, data := .seq items nl, slots := slo } := Heap.get?_push_of_some _ hol
  have lst : (s.heap.push (bare w)).IsList l items := ⟨_, hol2, rfl, nl, rfl⟩
  have below : l < s.heap.objs.size := Heap.lt_size hol
  have q1 := F.sub_list_set
  have q2 := F.sub_list_frozenset
  have q3 : (Value.type "list" == Value.type "dict") = false := by decide
  unfold Builtin.«set.__init__» noKeywords Builtin.Frozenset.updateFrom
  generalize it : pyIter = PI
  wp_walk
  subst it
  refine wpAny_pyIter_list lst (wpAny_bind (wpAny_runValue ?_))
  have sz : (s.heap.push (bare w)).objs.size = s.heap.objs.size + 1 := Heap.size_push ..
  have apart : s.heap.objs.size ∉ [(s.heap.push (bare w)).objs.size, l] := by
    rw [sz]
    simp only [List.mem_cons, List.mem_singleton, List.not_mem_nil, or_false, not_or]
    exact ⟨Nat.ne_of_lt (Nat.lt_succ_self _), Nat.ne_of_gt below⟩
  have val : ∀ (i : Nat) (v : Value), items[i]? = some v → ∃ k t, ns[i]? = some k ∧ v = .int k t := by
    intro i v hv
    have hi : i < ns.length := size ▸ (Array.getElem?_eq_some_iff.mp hv).1
    obtain ⟨t, e⟩ := PyProof.Rows.IntsAre.int_at are i v (by rw [Array.getElem?_toList, hv])
    refine ⟨ns[i], t, List.getElem?_eq_getElem hi, ?_⟩
    rw [e, List.getD_eq_getElem?_getD, List.getElem?_eq_getElem hi] <;> rfl
  refine set_update_ints ((Walks.list (A := A.in1.in1) (by simp [calm]) _ l (by rw [sz]; exact Nat.ne_of_lt (Nat.lt_succ_of_lt below)) items).toS) s.heap.objs.size apart ns size few val (items.size - 0) 0 _ (by omega) (Nat.zero_le _) ?_ ?_ ?_
  · exact ⟨⟨_, Heap.get?_push_size _ rfl, rfl, rfl⟩, lst.push _⟩
  · exact ⟨0, Nat.le_refl 0, setR_new_at (Heap.get?_push_of_some _ at0)⟩
  · rintro ⟨g, g2, d2, tk2, os2⟩ c mv le full
    obtain rfl : g2 = s.gens := mv.gens
    obtain rfl : d2 = s.drawn := mv.drawn
    obtain rfl : os2 = s.os := mv.os
    refine (show wpAny _ _ _ _ _ _ from wpAny_pure (show wpAny _ _ (ret Value.none) _ _ _ from wpAny_pure (fin _ ⟨rfl, g, tk2, c, rfl, full, size ▸ le, fun b o e => ?_⟩)))
    have lb := Heap.lt_size e
    refine mv.heap b o ?_ (Heap.get?_push_of_some _ (Heap.get?_push_of_some _ e))
    rw [sz]
    simp only [List.mem_cons, List.mem_singleton, List.not_mem_nil, or_false, not_or]
    exact ⟨Nat.ne_of_lt lb, Nat.ne_of_lt (Nat.lt_succ_of_lt lb)⟩
set_option maxHeartbeats 3200000 in
theorem call_list {l : Addr} {items : Array Value} (ns : List Int) {Q : Value → Shared → Prop} (calm : A.handled = none) (hl : s.heap.IsList l items) (are : IntsAre items.toList ns) (few : ns.length + 1 < scanBound)
    (h : ∀ (g : Heap) (tk c : Nat), SetR w g s.heap.objs.size (fun j => decide (j ∈ ns)) c → c ≤ ns.length → (∀ b o, s.heap.get? b = some o → g.get? b = some o) → Q (.ref s.heap.objs.size) { s with heap := g, toks := tk }) :
    wpAny (model P w) A (call (.type "set") [.ref l]) Q E s := by
  obtain ⟨c, tl, mro⟩ := F.called_set.mro
  have a1 := F.called_set.made
  have a2 := F.called_set.sub
  have a3 := F.called_set.notType
  have a4 := F.called_set.canCreate
  have a5 := F.typeCall_set_1 (.ref l)
  refine wpAny_call (codeAny_of_tree (show wpAny _ _ (callAny (.type "set") _) _ _ _ from wpAny_pure ⟨Code.quiet_builtin _ (by decide +kernel), codeAny_builtin F.entry_type_call ?_⟩))
  rw [Around.under_plain (weight_type_call_type "set" [.ref l] []) rfl]
  repeat (any_goals (first | assumption | wp_step))
  refine codeAny_mono (code_set_led1 (.ref l) (E := E) (Q₁ := fun obj s1 => obj = .ref s.heap.objs.size ∧ s1 = { s with heap := s.heap.push (bare w) }) ⟨rfl, rfl⟩) ?_
  intro r s1 hr
  cases r with
  | error e => exact hr
  | ok fl =>
    cases fl with
    | next => exact hr.elim
    | brk => exact hr.elim
    | cont => exact hr.elim
    | ret obj =>
      obtain ⟨rfl, rfl⟩ := hr
      have isSet : Shared.TypeIs { s with heap := s.heap.push (bare w) } (.ref s.heap.objs.size) "set" := ⟨_, Heap.get?_push_size _ rfl, rfl⟩
      have b1 := F.called_set.init.lookup
      have b2 := F.called_set.init.bind (.ref s.heap.objs.size)
      repeat (any_goals (first | assumption | wp_step))
      refine codeAny_mono (codeAny_call_builtin (R := wants (Filled w s ns) E) F.called_set.init.plain F.entry_set_init (check_set_init_1 isSet (fill (R := wants (Filled w s ns) E) ns calm hl are few fun s2 z => z))) ?_
      intro r2 s2 hr2
      cases r2 with
      | error e => exact hr2
      | ok fl =>
        cases fl with
        | next => exact hr2.elim
        | brk => exact hr2.elim
        | cont => exact hr2.elim
        | ret v =>
          obtain ⟨rfl, g, tk, c', rfl, full, le, up⟩ := hr2
          repeat (any_goals (first | assumption | wp_step))
          exact h _ _ _ full le up
end
section
variable {X : Cx}
/-- set(xs) -/
def rSetL (K : PySem.W.Frag) (w : World) : List V → Hp → VK → Prop := fun vs H Q => ∃ (l : Addr) (ns : List Int), vs = [.ref l] ∧ SqL K H l (ns.map V.int) ∧ ns.length ≤ 60 ∧ ∀ (p : Addr) (c : Nat), H p = none → c ≤ ns.length → Q (.ref p) (upd H p (SetO w p (fun j => decide (j ∈ ns)) c))
theorem cr_setL (hc : X.calm = true) : CallR X (.type "set") (rSetL X.K X.w) := by
  rintro pins s σ H vs us Q I r ⟨l, ns, rfl, hq, few, q⟩
  rw [Vals.ref1 r]
  obtain ⟨its, rv, pl, _⟩ := I.list hq
  refine call_list ns (I.ok.hd hc) pl.isList (by simpa using RZ.intsAre_vals rv) (by unfold scanBound; omega) fun g tk c full le up => ?_
  have n0 := I.hok.fresh (Nat.le_refl s.heap.objs.size)
  exact ⟨.ref s.heap.objs.size, _, I.laid (t' := tk) up (Nat.le_refl _) (setO_new full), rfl, q _ c n0 le⟩
end
end SetL
end
section
set_option Elab.async false
set_option linter.all false
set_option maxRecDepth 100000
/-! what the law draws for a code: the mathematics, and what stands in the heap. -/
namespace Lw
open PySem L2
theorem TW.keep {b l : Addr} {ns : List Int} {H H' : Hp} (B : BagAt H b l ns) (k : KeepB b H H') : ∀ {as : List Addr} {st : List (List Nat)}, TW H as st → TW H' as st
  | [], [], _ => True.intro
  | a :: as, _ :: st, h => ⟨k _ _ (B.ne_tup h.1) h.1, TW.keep B k h.2⟩
theorem PlanAt.keepB {b l : Addr} {ns : List Int} {H H' : Hp} {p q : Addr} {n : Int} {ts : Es} (h : PlanAt H p q n ts) (B : BagAt H b l ns) (k : KeepB b H H') : PlanAt H' p q n ts :=
  ⟨k _ _ (B.ne_tup h.tp) h.tp, k _ _ (B.ne_vs h.ls) h.ls, h.ed.keep B k, h.va, h.n1⟩
/-- all but a list that grows -/
theorem TW.off2 {E : Addr} {H H' : Hp} {xs : List V} (e : H E = some (.lst xs)) (k : KeepB E H H') : ∀ {as : List Addr} {st : List (List Nat)}, TW H as st → TW H' as st
  | [], [], _ => True.intro
  | a :: as, _ :: st, h => ⟨k _ _ (fun z => by have := h.1; rw [z, e] at this; cases this) h.1, TW.off2 e k h.2⟩
theorem Ed.off2 {E : Addr} {H H' : Hp} {xs : List V} {ts : Es} (e : H E = some (.lst xs)) (k : KeepB E H H') (h : Ed H ts) : Ed H' ts := fun d hd => k _ _ (fun z => by have := h d hd; rw [z, e] at this; cases this) (h d hd)
theorem cut_end' {xs : List V} {v : V} : cutV (xs ++ [v]) none (some (-1)) = xs := by
  unfold cutV
  rw [HT.sIx_none]
  have e : HT.sIx (xs ++ [v]).length (xs ++ [v]).length (some (-1)) = xs.length := by
    have e2 : HT.sIx (xs ++ [v]).length (xs ++ [v]).length (some (-1)) = ((-1 : Int) + ((xs ++ [v]).length : Int)).toNat := rfl
    rw [e2, List.length_append]
    show ((-1 : Int) + ((xs.length + 1 : Nat) : Int)).toNat = xs.length
    omega
  rw [e]
  simp
/-! ### a dict of the spots -/
def rowsD (gf : List Nat → Nat) : List Addr → List (List Nat) → List DzT.Row
  | a :: as, s :: ss => (a, kN s, V.int ((gf s : Nat) : Int)) :: rowsD gf as ss
  | _, _ => []
theorem rowsD_a {gf : List Nat → Nat} {H : Hp} : ∀ {as : List Addr} {ss : List (List Nat)}, TW H as ss → (rowsD gf as ss).map (fun e => V.ref e.1) = as.map V.ref
  | [], [], _ => rfl
  | a :: as, s :: ss, h => congrArg (V.ref a :: ·) (rowsD_a h.2)
theorem rowsD_v {gf : List Nat → Nat} {H : Hp} : ∀ {as : List Addr} {ss : List (List Nat)}, TW H as ss → (rowsD gf as ss).map (fun e => e.2.2) = nW (ss.map gf)
  | [], [], _ => rfl
  | a :: as, s :: ss, h => congrArg (V.int ((gf s : Nat) : Int) :: ·) (rowsD_v h.2)
theorem rowsD_k {gf : List Nat → Nat} {H : Hp} : ∀ {as : List Addr} {ss : List (List Nat)}, TW H as ss → ∀ e ∈ rowsD gf as ss, H e.1 = some (.tup (e.2.1.map kV))
  | [], [], _, e, he => nomatch he
  | a :: as, s :: ss, h, e, he => by
    rcases List.mem_cons.mp he with z | z
    · subst z
      show H a = some (.tup ((kN s).map kV))
      rw [kN_V]
      exact h.1
    · exact rowsD_k h.2 e z
theorem rowsD_len {gf : List Nat → Nat} {H : Hp} : ∀ {as : List Addr} {ss : List (List Nat)}, TW H as ss → (rowsD gf as ss).length = ss.length
  | [], [], _ => rfl
  | a :: as, s :: ss, h => congrArg (· + 1) (rowsD_len h.2)
theorem rowsD_fold {gf : List Nat → Nat} {H : Hp} : ∀ {as : List Addr} {ss ps : List (List Nat)}, TW H as ss → (ps ++ ss).Nodup → DzT.foldP (tabN ps gf) (rowsD gf as ss) = tabN (ps ++ ss) gf
  | [], [], ps, _, _ => by rw [List.append_nil]; rfl
  | a :: as, s :: ss, ps, h, nd => by
    show DzT.foldP (putK (tabN ps gf) (kN s) (V.int ((gf s : Nat) : Int))) (rowsD gf as ss) = _
    have no : s ∉ ps := fun z => by
      have := (List.nodup_append.mp nd).2.2 s z s List.mem_cons_self
      exact this rfl
    have nd2 : ((ps ++ [s]) ++ ss).Nodup := by rw [List.append_assoc]; exact nd
    rw [tabN_put no, rowsD_fold h.2 nd2, List.append_assoc]
    rfl
/-! ### the states drawn for the spots -/
structure Drawn (ts : Es) (n L m : Nat) (gf : List Nat → Nat) : Prop where
  m1 : 1 ≤ m
  m3 : m ≤ 3
  lt : ∀ s ∈ spots ts n L, gf s < m
  all : ∀ j, j < m → ∃ s ∈ spots ts n L, gf s = j
theorem spots_ne1 {ts : Es} {n L : Nat} (F : Full ts n) (n1 : 0 < n) : ∀ (M : Nat), 1 ≤ M → spots ts n M ≠ []
  | 1, _, z => by
    unfold spots at z
    rw [if_pos rfl] at z
    have := congrArg List.length z
    rw [List.length_map, List.length_range] at this
    change n = 0 at this
    omega
  | M + 2, _, z => by
    cases e : spots ts n (M + 1) with
    | nil => exact spots_ne1 (L := L) F n1 (M + 1) (by omega) e
    | cons s r =>
      obtain ⟨p, hp, _⟩ := spot_ext (L := M + 1) F (by omega) (s := s) (by rw [e]; exact List.mem_cons_self)
      unfold spots at z
      rw [if_neg (by omega)] at z
      rw [show M + 2 - 1 = M + 1 by omega] at z
      rw [z] at hp
      cases hp
theorem drawn_of {ts : Es} {n L : Nat} {gs us : List Int} {sz : Int} (F : Full ts n) (n1 : 0 < n) (l1 : 1 ≤ L) (len : gs.length = (spots ts n L).length) (rg : ∀ g ∈ gs, 0 ≤ g ∧ g < sz) (h3 : sz ≤ 3)
    (pw : us.Pairwise (· < ·)) (mem : ∀ k : Int, k ∈ us ↔ decide (k ∈ gs) = true) : Drawn ts n L us.length (atOf (spots ts n L) (gs.map fun g => us.idxOf g)) := by
  have nd : us.Nodup := List.nodup_iff_pairwise_ne.mpr (pw.imp fun h => by omega)
  have mem : ∀ k : Int, k ∈ us ↔ k ∈ gs := fun k => by rw [mem k, decide_eq_true_iff]
  have sn := spots_nodup (ts := ts) (n := n) (L := L)
  have gl : (gs.map fun g => us.idxOf g).length = (spots ts n L).length := by rw [List.length_map, len]
  refine ⟨?_, ?_, fun s hs => ?_, fun j hj => ?_⟩
  · cases e : gs with
    | nil =>
      rw [e] at len
      exact absurd (List.eq_nil_of_length_eq_zero len.symm) (spots_ne1 (L := L) F n1 L l1)
    | cons g r => exact List.length_pos_of_mem ((mem g).mpr (by rw [e]; exact List.mem_cons_self))
  · refine nodup_sub (ys := [0, 1, 2]) nd fun x hx => ?_
    obtain ⟨a, c⟩ := rg x ((mem x).mp hx)
    simp only [List.mem_cons, List.not_mem_nil, or_false]
    omega
  · obtain ⟨i, hi, rfl⟩ := List.mem_iff_getElem.mp hs
    have hg : i < gs.length := by omega
    rw [atOf_get sn hi]
    simp only [List.getD, List.getElem?_map, List.getElem?_eq_getElem hg, Option.map_some, Option.getD_some]
    exact List.idxOf_lt_length_of_mem ((mem _).mpr (List.getElem_mem hg))
  · obtain ⟨i, hi, e⟩ := List.mem_iff_getElem.mp ((mem us[j]).mp (List.getElem_mem hj))
    refine ⟨(spots ts n L)[i], List.getElem_mem (by omega), ?_⟩
    rw [atOf_get sn (by omega)]
    simp only [List.getD, List.getElem?_map, List.getElem?_eq_getElem hi, Option.map_some, Option.getD_some]
    rw [e, List.Nodup.idxOf_getElem nd]
theorem Drawn.ends {ts : Es} {n L m : Nat} {gf : List Nat → Nat} (D : Drawn ts n L m gf) (F : Full ts n) (l1 : 1 ≤ L) {p : List Nat} (h : p ∈ win ts L) : 0 ≤ (endsP ts L gf p).1 ∧ (endsP ts L gf p).1 < m ∧ 0 ≤ (endsP ts L gf p).2 ∧ (endsP ts L gf p).2 < m := by
  have a := D.lt _ (ini_mem F l1 h)
  have c := D.lt _ (fin_mem F l1 h)
  unfold endsP
  refine ⟨?_, ?_, ?_, ?_⟩ <;> simp only <;> omega
/-! ### the pairs of ends, each once -/
def ksOf (es : Es) : List (Addr × List Int) := es.map fun e => (e.1, [e.2.1, e.2.2])
theorem ksOf_vs (es : Es) : (ksOf es).map (fun p => V.ref p.1) = vsOf es := by
  unfold ksOf vsOf
  rw [List.map_map]
  rfl
theorem ksOf_mem {es : Es} {p : Addr × List Int} (h : p ∈ ksOf es) : ∃ e ∈ es, p = (e.1, [e.2.1, e.2.2]) := by
  obtain ⟨e, he, rfl⟩ := List.mem_map.mp h
  exact ⟨e, he, rfl⟩
def toE (p : Addr × List Int) : Addr × Int × Int := (p.1, p.2.getD 0 0, p.2.getD 1 0)
theorem pairs_of {es : Es} {m : Nat} {LL L' : List (Addr × List Int)} (sub : ∀ p ∈ LL, p ∈ ksOf es) (all : ∀ p ∈ ksOf es, p.2 ∈ LL.map (·.2)) (pm : L'.Perm LL) (nd : (L'.map (·.2)).Nodup) (m3 : m ≤ 3)
    (rg : ∀ e ∈ es, 0 ≤ e.2.1 ∧ e.2.1 < m ∧ 0 ≤ e.2.2 ∧ e.2.2 < m) : ∃ pr : Es, vsOf pr = L'.map (fun q => V.ref q.1) ∧ (∀ e ∈ pr, e ∈ es) ∧ (∀ q ∈ psOf es, q ∈ psOf pr) ∧ pr.length ≤ 9 := by
  refine ⟨L'.map toE, ?_, fun e he => ?_, fun q hq => ?_, ?_⟩
  · unfold vsOf
    rw [List.map_map]
    rfl
  · obtain ⟨p, hp, rfl⟩ := List.mem_map.mp he
    obtain ⟨e2, he2, rfl⟩ := ksOf_mem (sub p (pm.mem_iff.mp hp))
    exact he2
  · obtain ⟨e, he, rfl⟩ := List.mem_map.mp hq
    obtain ⟨p, hp, e2⟩ := List.mem_map.mp (all (e.1, [e.2.1, e.2.2]) (List.mem_map.mpr ⟨e, he, rfl⟩))
    refine List.mem_map.mpr ⟨toE p, List.mem_map.mpr ⟨p, pm.mem_iff.mpr hp, rfl⟩, ?_⟩
    unfold toE
    have e2 : p.2 = [e.2.1, e.2.2] := e2
    rw [e2]
    rfl
  · have h := nodup_sub (xs := L'.map (·.2)) (ys := [[0, 0], [0, 1], [0, 2], [1, 0], [1, 1], [1, 2], [2, 0], [2, 1], [2, 2]]) nd fun x hx => by
      obtain ⟨p, hp, rfl⟩ := List.mem_map.mp hx
      obtain ⟨e, he, rfl⟩ := ksOf_mem (sub p (pm.mem_iff.mp hp))
      obtain ⟨a0, a1, b0, b1⟩ := rg e he
      have ha : e.2.1 = 0 ∨ e.2.1 = 1 ∨ e.2.1 = 2 := by omega
      have hb : e.2.2 = 0 ∨ e.2.2 = 1 ∨ e.2.2 = 2 := by omega
      show [e.2.1, e.2.2] ∈ _
      rcases ha with z | z | z <;> rcases hb with y | y | y <;> rw [z, y] <;> decide
    rw [List.length_map] at h ⊢
    exact h
theorem psOf_len (us : Es) : (psOf us).length = us.length := List.length_map _
theorem psOf_app (us ws : Es) : psOf (us ++ ws) = psOf us ++ psOf ws := List.map_append
theorem vsOf_app (us ws : Es) : vsOf (us ++ ws) = vsOf us ++ vsOf ws := List.map_append
end Lw
end
section
set_option Elab.async false
set_option linter.all false
set_option maxRecDepth 100000
/-! a code's parts drawn by the law. -/
namespace Lw
open PySem L2 PyProof.Rows
abbrev sRF : Stmt := top 47
abbrev NRF : List Str := ["_law_bag_here", "_law_source", "_law_wide", "_law_spots", "_law_size", "_law_goals", "_law_used", "_law_ends", "_law_path", "_law_source_state", "_law_target_state", "_law_edges", "_law_pair", "_law_k", "_law_images", "_law_state", "_law_spot", "_law_goal"]
/-- a code's parts as the law holds them -/
structure RuleAt (H : Hp) (r sp sq tp tq il : Addr) (n m : Nat) (ts eds : Es) (L : Nat) (im : List Nat → Nat) : Prop where
  ob : H r = some (.tup [.ref sp, .ref tp, .int (L : Int), .ref il])
  s : PlanAt H sp sq (n : Int) ts
  t : PlanAt H tp tq (m : Int) eds
  il : H il = some (.lst (nW ((win ts L).map im)))
  d : CodeD ts eds L im
  n8 : n ≤ 8
  m8 : m ≤ 8
  s24 : ts.length ≤ 24
  t24 : eds.length ≤ 24
def spRF : Sp := fun vs H Q _ => ∃ (b l : Addr) (ns : List Int) (sp sq : Addr) (n : Nat) (ts : Es) (L : Nat), vs = [.ref b, .ref sp, .int (L : Int)] ∧ BagAt H b l ns ∧ PlanAt H sp sq (n : Int) ts ∧ n ≤ 8 ∧ ts.length ≤ 24 ∧ 1 ≤ L ∧ L ≤ 4 ∧ (win ts L).length ≤ 60 ∧
  ∀ (r tp tq il : Addr) (m : Nat) (eds : Es) (im : List Nat → Nat) (H' : Hp), KeepB b H H' → BagAt H' b l ns → H r = none → H tq = none → H il = none → RuleAt H' r sp sq tp tq il n m ts eds L im → Q (.ref r) H'
abbrev scRF1 : Scope := { kind := .function, names := [(".0", .local), ("_law_pair", .cell), ("_law_of", .globalImplicit), ("range", .globalImplicit), ("len", .globalImplicit), ("_law_bag_here", .cell), ("_law_edges", .cell)], isGenerator := false, isCoroutine := false }
abbrev tLenR (K : PySem.W.Frag) (t : TE) : TE := tCB (fun xs H Q => ∃ p ys, xs = [V.ref p] ∧ (SqL K H p ys ∨ SqT K H p ys) ∧ Q (.int ys.length) H) (tCons t tNil)
abbrev tPk (K : PySem.W.Frag) : TE := tLc (iRng1 (tCons (tLenR K (tVar 11)) tNil)) (gName 13) (tTest (tOp (rEqD K) (tOp (rIxL K) (tVar 11) (tVar 13)) (tVar 12))) (tVar 13) [13]
/-- after the spots are drawn up -/
def RF1 (H : Hp) (b sp : Addr) (n L : Nat) (ts : Es) : L2.St → Hp → Prop := fun σ H' => ∃ (Sp : Addr) (as : List Addr), σ = [some (.ref b), some (.ref sp), some (.int (L : Int)), some (.ref Sp), none, none, none, none, none, none, none, none, none, none, none, none, none, none] ∧ Same H H' ∧ H Sp = none ∧ H' Sp = some (.lst (as.map V.ref)) ∧ TW H' as (spots ts n L)
def RF4 (H : Hp) (b l sp : Addr) (ns : List Int) (n L : Nat) (ts : Es) : L2.St → Hp → Prop := fun σ H' => ∃ (v4 : Option V) (Sp G U : Addr) (as : List Addr) (gs us : List Int) (sz : Int), σ = [some (.ref b), some (.ref sp), some (.int (L : Int)), some (.ref Sp), v4, some (.ref G), some (.ref U), none, none, none, none, none, none, none, none, none, none, none] ∧
  KeepB b H H' ∧ BagAt H' b l ns ∧ H' Sp = some (.lst (as.map V.ref)) ∧ TW H' as (spots ts n L) ∧ H' G = some (.lst (gs.map V.int)) ∧ gs.length = (spots ts n L).length ∧ (∀ g ∈ gs, 0 ≤ g ∧ g < sz) ∧ sz ≤ 3 ∧ H' U = some (.lst (us.map V.int)) ∧ U ≠ b ∧ us.Pairwise (· < ·) ∧ ∀ k : Int, k ∈ us ↔ decide (k ∈ gs) = true
def RF5 (H : Hp) (b l sp : Addr) (ns : List Int) (n L : Nat) (ts : Es) : L2.St → Hp → Prop := fun σ H' => ∃ (v3 v4 : Option V) (D U : Addr) (m : Nat) (us : List V) (gf : List Nat → Nat), σ = [some (.ref b), some (.ref sp), some (.int (L : Int)), v3, v4, some (.ref D), some (.ref U), none, none, none, none, none, none, none, none, none, none, none] ∧
  KeepB b H H' ∧ BagAt H' b l ns ∧ H' D = some (.dT (tabN (spots ts n L) gf)) ∧ H' U = some (.lst us) ∧ us.length = m ∧ U ≠ b ∧ Drawn ts n L m gf
def RF7 (H : Hp) (b l sp : Addr) (ns : List Int) (n L : Nat) (ts : Es) : L2.St → Hp → Prop := fun σ H' => ∃ (v3 v4 v5 v8 v9 v10 : Option V) (E U : Addr) (m : Nat) (us : List V) (gf : List Nat → Nat) (es : Es), σ = [some (.ref b), some (.ref sp), some (.int (L : Int)), v3, v4, v5, some (.ref U), some (.ref E), v8, v9, v10, none, none, none, none, none, none, none] ∧
  KeepB b H H' ∧ BagAt H' b l ns ∧ H' U = some (.lst us) ∧ us.length = m ∧ U ≠ b ∧ Drawn ts n L m gf ∧ H' E = some (.lst (vsOf es)) ∧ Ed H' es ∧ psOf es = (win ts L).map (endsP ts L gf)
def RF10 (H : Hp) (b l sp : Addr) (ns : List Int) (n L : Nat) (ts : Es) : L2.St → Hp → Prop := fun σ H' => ∃ (v3 v4 v5 v8 v9 v10 v12 v13 : Option V) (E U D : Addr) (m : Nat) (us : List V) (gf : List Nat → Nat) (es eds : Es), σ = [some (.ref b), some (.ref sp), some (.int (L : Int)), v3, v4, v5, some (.ref U), some (.ref E), v8, v9, v10, some (.ref D), v12, v13, none, none, none, none] ∧
  KeepB b H H' ∧ BagAt H' b l ns ∧ H' U = some (.lst us) ∧ us.length = m ∧ U ≠ b ∧ Drawn ts n L m gf ∧ H' E = some (.lst (vsOf es)) ∧ Ed H' es ∧ psOf es = (win ts L).map (endsP ts L gf) ∧
  H D = none ∧ H' D = some (.lst (vsOf eds)) ∧ Ed H' eds ∧ eds.length ≤ 24 ∧ (∀ e ∈ eds, 0 ≤ e.2.1 ∧ e.2.1 < m ∧ 0 ≤ e.2.2 ∧ e.2.2 < m) ∧ ∀ q ∈ psOf es, q ∈ psOf eds
section
variable {P : Program} {w : World} {K : PySem.W.Frag} {mg : Str → Option Value} {base : Heap} {f CG : Addr} {fd : FuncData} {k : Nat}
theorem scRF : FnScope NRF ["_law_bag_here", "_law_source", "_law_wide"] (defScope sRF) := ⟨rfl, rfl, rfl, by decide +kernel, rfl, by decide +kernel, by decide +kernel⟩
set_option maxHeartbeats 16000000 in
theorem ok_rf (F : Fun K "_law_rule_from" "_law_rule_from" sRF f fd) (T : Bi mg) (tSet : mg "set" = none) (tSo : mg "sorted" = none) (tDi : mg "dict" = none) (cU : C8.Cal P w K mg base 1 "_law_pull" spPull []) (cO : C8.Cal P w K mg base 2 "_law_of" (spOf K) []) (cP : C8.Cal P w K mg base 2 "_law_paths" spPths []) :
    FnOk P w K mg base CX0 (k + 3) f fd ["_law_bag_here", "_law_source", "_law_wide"] spRF := by
  refine F.ok scRF (fun vs H Q E h => ?_) (fun cdv A outer s H vs Q E hr h => ?_)
  · obtain ⟨b, l, ns, sp, sq, n, ts, L, rfl, _⟩ := h
    rfl
  · obtain ⟨b, l, ns, sp, sq, n, ts, L, rfl, B, PA, n8, m24, l1, l4, few, q⟩ := h
    refine ⟨_, C8.pss_cut (ps_set (i := 3) scRF.nd rfl (.inl rfl) (pe_ifExp (pt_cmpR op_eq (pv 2) pe_int (nomark _)) (pe_lc (own := [("_law_state", 15)]) (g := gName 15) (tt := tYes) (te := tTup (tCons (tVar 15) tNil)) rfl scRF.nd (pi_range1 (by rfl) T.range (pa_cons (pe_ix ix_tup (pv 1) pe_int (fun _ _ => rfl)) pa_nil)) (blkOk_by (N := NRF) (sc := defScope sRF) (by decide +kernel))
            (fun _ _ _ _ _ => by exact pg_name (i := 15) scRF.nd rfl (Or.inl rfl)) (fun _ _ _ _ _ => pts_nil) (fun _ _ _ _ _ => by exact pe_tup (pa_cons (pv 15) pa_nil)))
          (C8.pe_c cP hr (by omega) (by rfl) (pa_cons (pv 1) (pa_cons (pe_op op_sub (pv 2) pe_int) pa_nil)))))
      (pss_cons (ps_set (i := 4) scRF.nd rfl (.inr rfl) (pe_op op_add pe_int (C8.pe_c cU hr (by omega) (by rfl) (pa_cons (pv 0) (pa_cons pe_int pa_nil)))))
      (pss_cons (ps_setLc (i := 5) (own := [("_law_spot", 16)]) (g := gName 16) (tt := tYes) (te := tCall spPull [] E0 (tCons (tVar 0) (tCons (tVar 4) tNil))) rfl scRF.nd rfl rfl (sw_true rfl rfl rfl (by decide +kernel)) (pi_seqA (pv 3)) (blkOk_by (N := NRF) (sc := defScope sRF) (by decide +kernel))
            (fun _ _ _ _ _ => by exact pg_name (i := 16) scRF.nd rfl (Or.inl rfl)) (fun _ _ _ _ _ => pts_nil) (fun _ _ _ _ _ => by exact C8.pe_c cU hr (by omega) (by rfl) (pa_cons (pv 0) (pa_cons (pv 4) pa_nil))))
      (C8.pss_cut (ps_set (i := 6) scRF.nd rfl (.inr rfl) (pe_callB (cr_sortedSet rfl) (by rfl) tSo (by decide +kernel) (pa_cons (pe_callTy (SetL.cr_setL rfl) (by rfl) tSet (by decide +kernel) (pa_cons (pv 5) pa_nil)) pa_nil)))
      (C8.pss_cut (ps_set (i := 5) scRF.nd rfl (.inl rfl) (DzT.pe_dzip (Nat.lt_of_le_of_lt (Nat.add_le_add_left (by decide) _) hr.units) rfl (by rfl) tDi (by rfl) T.zip (pa_cons (pv 3) (pa_cons
            (pe_lc (own := [("_law_goal", 17)]) (g := gName 17) (tt := tYes) (te := tBM K "list" (rIndex K) (tVar 6) (tCons (tVar 17) tNil)) rfl scRF.nd (pi_seqA (pv 5)) (blkOk_by (N := NRF) (sc := defScope sRF) (by decide +kernel))
              (fun _ _ _ _ _ => by exact pg_name (i := 17) scRF.nd rfl (Or.inl rfl)) (fun _ _ _ _ _ => pts_nil) (fun _ _ _ _ _ => by exact pe_bm PySem.F.plainAttrs_list PySem.F.slot_list_index PySem.F.type_list_index mt_index (pv 6) (pa_cons (pv 17) pa_nil))) pa_nil))))
      (pss_cons (ps_set (i := 7) scRF.nd rfl (.inl rfl) (pe_lst pa_nil))
      (C8.pss_cut (ps_for PassesOwn.never rfl (pi_seqA (C8.pe_c cP hr (by omega) (by rfl) (pa_cons (pv 1) (pa_cons (pv 2) pa_nil)))) (pg_name (i := 8) scRF.nd rfl (.inl rfl))
        (pss_one (ps_if (pt_cmpR op_eq (pv 2) pe_int (nomark _))
          (pss_cons (ps_asg (pe_ix ix_list (pe_ix ix_tup (pv 1) pe_int (fun _ _ => rfl)) (pe_ix ix_tup (pv 8) pe_int (fun _ _ => rfl)) (fun _ _ => rfl)) (pg_tup rfl (pgs_cons (pg_name (i := 9) scRF.nd rfl (.inl rfl)) (pgs_cons (pg_name (i := 10) scRF.nd rfl (.inl rfl)) pgs_nil))))
          (pss_one (ps_expr (pe_bm PySem.F.plainAttrs_list PySem.F.slot_list_append PySem.F.type_list_append mt_append (pv 7) (pa_cons (pe_tup
            (pa_cons (pe_dget (Nat.lt_of_le_of_lt (Nat.add_le_add_left (by decide) _) hr.units) (pv 5) (pe_tup (pa_cons (pv 9) pa_nil)) (fun _ _ => rfl))
            (pa_cons (pe_dget (Nat.lt_of_le_of_lt (Nat.add_le_add_left (by decide) _) hr.units) (pv 5) (pe_tup (pa_cons (pv 10) pa_nil)) (fun _ _ => rfl)) pa_nil))) pa_nil)))))
          (pss_one (ps_expr (pe_bm PySem.F.plainAttrs_list PySem.F.slot_list_append PySem.F.type_list_append mt_append (pv 7) (pa_cons (pe_tup
            (pa_cons (pe_dget (Nat.lt_of_le_of_lt (Nat.add_le_add_left (by decide) _) hr.units) (pv 5) (pe_slice sl_tupA (pv 8) po_none (po_some (pe_un un_neg pe_int))) (fun _ _ => rfl))
            (pa_cons (pe_dget (Nat.lt_of_le_of_lt (Nat.add_le_add_left (by decide) _) hr.units) (pv 5) (pe_slice sl_tupA (pv 8) (po_some pe_int) po_none) (fun _ _ => rfl)) pa_nil))) pa_nil)))))))
      (pss_cons (ps_set (i := 11) scRF.nd rfl (.inr rfl) (pe_lst pa_nil))
      (pss_cons (ps_for PassesOwn.never rfl (pi_seqA (pe_callB (cr_sortedT rfl) (by rfl) tSo (by decide +kernel) (pa_cons (pe_callTy (cr_setOfT rfl (Nat.lt_of_le_of_lt (Nat.add_le_add_left (by decide) _) hr.units)) (by rfl) tSet (by decide +kernel) (pa_cons (pv 7) pa_nil)) pa_nil))) (pg_name (i := 12) scRF.nd rfl (.inl rfl))
        (pss_one (ps_set (i := 11) scRF.nd rfl (.inr rfl) (pe_op op_cat (pv 11) (pe_op op_rep (pe_lst (pa_cons (pv 12) pa_nil)) (pe_op op_add pe_int (C8.pe_c cU hr (by omega) (by rfl) (pa_cons (pv 0) (pa_cons pe_int pa_nil)))))))))
      (C8.pss_cut (ps_for PassesOwn.never rfl (pi_range1 (by rfl) T.range (pa_cons (pe_op op_fdiv (C8.pe_c cU hr (by omega) (by rfl) (pa_cons (pv 0) (pa_cons pe_int pa_nil))) pe_int) pa_nil)) (pg_name (i := 13) scRF.nd rfl (.inl rfl))
        (pss_one (ps_expr (pe_bm PySem.F.plainAttrs_list PySem.F.slot_list_append PySem.F.type_list_append mt_append (pv 11) (pa_cons (pe_tup
            (pa_cons (C8.pe_c cU hr (by omega) (by rfl) (pa_cons (pv 0) (pa_cons (pe_callB call_len_seq (by rfl) T.len PySem.boot_len (pa_cons (pv 6) pa_nil)) pa_nil)))
            (pa_cons (C8.pe_c cU hr (by omega) (by rfl) (pa_cons (pv 0) (pa_cons (pe_callB call_len_seq (by rfl) T.len PySem.boot_len (pa_cons (pv 6) pa_nil)) pa_nil))) pa_nil))) pa_nil)))))
      (pss_cons (ps_setLc (i := 14) (own := [("_law_pair", 12)]) (g := gName 12) (tt := tYes) (te := tCall (spOf K) [] E0 (tCons (tVar 0) (tCons (tPk K) tNil))) rfl scRF.nd rfl rfl (sw_true rfl rfl rfl (by decide +kernel)) (pi_seqA (pv 7)) (blkOk_by (N := NRF) (sc := defScope sRF) (by decide +kernel))
            (fun _ _ _ _ _ => by exact pg_name (i := 12) scRF.nd rfl (Or.inr rfl)) (fun _ _ _ _ _ => pts_nil) (fun _ _ _ _ _ => by exact C8.pe_c cO hr (by omega) (by rfl) (pa_cons (pv 0) (pa_cons
              (pe_lc (own := [("_law_k", 13)]) (g := gName 13) (tt := tTest (tOp (rEqD K) (tOp (rIxL K) (tVar 11) (tVar 13)) (tVar 12))) (te := tVar 13) rfl scRF.nd (pi_range1 (by rfl) T.range (pa_cons (pe_callB call_len_seq (by rfl) T.len PySem.boot_len (pa_cons (pv 11) pa_nil)) pa_nil)) (blkOk_by (N := NRF) (sc := scRF1) (by decide +kernel))
                (fun _ _ _ _ _ => by exact pg_name (i := 13) scRF.nd rfl (Or.inl rfl))
                (fun _ _ _ _ _ => by exact pts_one (pt_cmpR (op_eqD hr.units) (pe_ix ix_list (pv 11) (pv 13) (fun _ _ => rfl)) (pv 12) (nomark _)))
                (fun _ _ _ _ _ => by exact pv 13)) pa_nil))))
      (pss_one (ps_ret (pe_tup (pa_cons (pv 1) (pa_cons (pe_tup (pa_cons (pe_callB call_len_seq (by rfl) T.len PySem.boot_len (pa_cons (pv 6) pa_nil)) (pa_cons (pv 11) pa_nil))) (pa_cons (pv 2) (pa_cons (pv 14) pa_nil))))))))))))))))), ?_⟩
    have F := PA.full
    have n1 : 0 < n := by have := PA.n1; omega
    have wl : (spots ts n L).length ≤ 60 := Nat.le_trans (spots_le F l1) few
    have FU := PA.full
    have n1 : 0 < n := by have := PA.n1; omega
    have wl : (spots ts n L).length ≤ 60 := Nat.le_trans (spots_le FU l1) few
    refine ⟨RF1 H b sp n L ts, ?_, ?_⟩
    · refine ⟨_, rfl, rfl, _, rfl, ?_⟩
      by_cases hL : L = 1
      · refine if_t (decide_eq_true (by rw [hL]; rfl)) ?_
        refine ⟨_, rfl, sp, _, _, _, rfl, rfl, SqT.of PA.tp, rfl, (n : Int), rfl, by omega, by omega, fun D hD => ?_⟩
        refine lc_it (walk_range (lo := 0) (n := ((n : Nat) : Int).toNat)) (fun i H' => ∃ as : List Addr, Same H H' ∧ H' D = some (.lst (as.map V.ref)) ∧ TW H' as ((List.range i).map fun e => [e])) ⟨[], same_upd hD, upd_same, True.intro⟩ (fun _ _ _ _ => True.intro) ?_ ?_
        · rintro i z H1 H2 hi ⟨as, sm, eD, tw⟩ ⟨rfl, hz⟩
          rw [Int.toNat_natCast] at hi
          have hz : z = .int (i : Int) := by
            rw [hz]
            show V.int (0 + (i : Int)) = _
            rw [Int.zero_add]
          subst hz
          have al := tw.len
          rw [List.length_map, List.length_range] at al
          refine ⟨rfl, ?_⟩
          refine ⟨_, rfl, (by show 1 ≤ sizeLine; decide), fun u hu => ?_⟩
          have su := same_upd (o := .tup [.int (i : Int)]) hu
          have eD2 := su _ _ eD
          refine ⟨_, eD2, by rw [List.length_map, al]; exact small1000 (by omega), as ++ [u], same_at (sm.trans su) hD, by rw [upd_same, List.map_append]; rfl, ?_⟩
          rw [List.range_succ, List.map_append]
          exact TW.off eD2 ((tw.same su).snoc upd_same)
        · rintro H1 ⟨as, s1, eD, tw⟩
          rw [Int.toNat_natCast] at tw
          have sp1 : spots ts n L = (List.range n).map fun e => [e] := by unfold spots; rw [if_pos hL]
          exact ⟨D, as, rfl, s1, hD, eD, by rw [sp1]; exact tw⟩
      · refine if_f (decide_eq_false fun z => hL (by injection z with z; omega)) ?_
        have sp1 : spots ts n L = win ts (L - 1) := by unfold spots; rw [if_neg hL]
        refine ⟨_, rfl, _, rfl, _, _, rfl, rfl, sp, sq, n, ts, L - 1, by rw [show ((L - 1 : Nat) : Int) = (L : Int) - 1 by omega]; rfl, PA, m24, by omega, by omega, fun Fd as H' s' nF eF tw => ?_⟩
        exact ⟨Fd, as, rfl, s', nF, eF, by rw [sp1]; exact tw⟩
    rintro _ H1 ⟨Sp, as, rfl, s1, nS, eS, tw⟩
    have B1 := B.same s1
    have Sb : Sp ≠ b := B.ne_new nS
    have k1 : KeepB b H H1 := .of_same s1
    have al := tw.len
    -- size, goals
    refine ⟨_, rfl, b, l, ns, 3, rfl, B1, by omega, by omega, fun v o v0 v1 BO => ?_⟩
    refine ⟨_, _, rfl, rfl, ?_⟩
    have B2 := B1.upd BO
    have k2 : KeepB b H1 (upd H1 b o) := .updb
    have k02 := k1.trans k2
    have eS2 := k2 _ _ Sb eS
    have tw2 := TW.keep B1 k2 tw
    generalize upd H1 b o = H2 at *
    refine ⟨_, rfl, Sp, _, SqL, rfl, .inl rfl, SqL.of eS2, fun J wk => fun G hG => ?_⟩
    have Gb : G ≠ b := B2.ne_new hG
    refine lc_it wk (fun i H' => ∃ gs : List Int, gs.length = i ∧ KeepB b H2 H' ∧ BagAt H' b l ns ∧ H' G = some (.lst (gs.map V.int)) ∧ ∀ g ∈ gs, 0 ≤ g ∧ g < 1 + v)
      ⟨[], rfl, KeepB.rfl'.new hG, B2.new hG, upd_same, fun g hg => nomatch hg⟩ (fun i H' _ z => by obtain ⟨_, _, kp, _⟩ := z; exact SqL.of (kp _ _ Sb eS2)) ?_ ?_
    · rintro i x H3 H4 hi ⟨gs, hgs, kp, Bi, eG, rg⟩ ⟨rfl, gx⟩
      rw [List.length_map] at hi
      refine ⟨rfl, ?_⟩
      refine ⟨_, rfl, _, rfl, b, l, ns, _, rfl, Bi, by omega, by omega, fun g o2 g0 g1 BO2 => ?_⟩
      have eG2 : upd H4 b o2 G = some (.lst (gs.map V.int)) := by rw [upd_ne Gb]; exact eG
      refine ⟨_, eG2, by rw [List.length_map]; exact small1000 (by omega), gs ++ [g], by simp [hgs], (kp.trans .updb).at hG, ?_, by rw [upd_same, List.map_append]; rfl, fun y hy => ?_⟩
      · exact (Bi.upd BO2).off Gb (ne_of_none B2.sc hG).symm
      · rcases List.mem_append.mp hy with z | z
        · exact rg y z
        · rw [List.mem_singleton.mp z]
          exact ⟨g0, g1⟩
    rintro H3 ⟨gs, hgs, k3, B3, eG, rg⟩
    rw [List.length_map, al] at hgs
    have eS3 := k3 _ _ Sb eS2
    have tw3 := TW.keep B2 k3 tw2
    have k03 := k02.trans k3
    -- used
    refine ⟨RF4 H b l sp ns n L ts, ?_, ?_⟩
    · refine ⟨_, rfl, G, gs, rfl, SqL.of eG, by omega, fun p c hp hc => ?_⟩
      have s4 := same_upd (o := SetO w p (fun j => decide (j ∈ gs)) c) hp
      refine ⟨p, _, c, rfl, upd_same, by omega, fun us U pw mem ul hU => ?_⟩
      have s5 := same_upd (o := .lst (us.map V.int)) hU
      have B4 := B3.same s4
      have Ub : U ≠ b := B4.ne_new hU
      have s45 := s4.trans s5
      exact ⟨_, Sp, G, U, as, gs, us, 1 + v, rfl, k03.trans (.of_same s45), B4.same s5, s45 _ _ eS3, tw3.same s45, s45 _ _ eG, hgs, rg, by omega, upd_same, Ub, pw, mem⟩
    clear eG rg k3 B3 eS3 tw3 k03 hgs gs eS2 tw2 k02 k2 B2 hG eS tw s1 nS k1 B1 Sb al wk J
    rintro _ H5 ⟨v4, Sp, G, U, as, gs, us, sz, rfl, k05, B5, eS, tw, eG, hgs, rg, sz3, eU, Ub, pw, mem⟩
    -- goals
    have DR := drawn_of FU n1 l1 hgs rg sz3 pw mem
    have isl : (gs.map fun g => us.idxOf g).length = (spots ts n L).length := by rw [List.length_map, hgs]
    have mp := map_atOf (spots_nodup (ts := ts) (n := n) (L := L)) isl
    refine ⟨RF5 H b l sp ns n L ts, ?_, ?_⟩
    · refine ⟨_, rfl, _, rfl, G, _, SqL, rfl, .inl rfl, SqL.of eG, fun J2 wk2 => fun D2 hD2 => ?_⟩
      refine lc_it wk2 (fun i H' => Same H5 H' ∧ H' D2 = some (.lst (nW ((gs.map fun g => us.idxOf g).take i)))) ⟨same_upd hD2, upd_same⟩ (fun i H' _ z => SqL.of (z.1 _ _ eG)) ?_ ?_
      · rintro i x H6 H7 hi ⟨sm, eD⟩ ⟨rfl, gx⟩
        rw [List.length_map] at hi
        rw [List.getElem?_map, List.getElem?_eq_getElem hi] at gx
        cases gx
        have hm : gs[i] ∈ us := (mem _).mpr (decide_eq_true (List.getElem_mem hi))
        have jl := List.idxOf_lt_length_of_mem hm
        refine ⟨rfl, ?_⟩
        refine ⟨_, rfl, .inl ⟨rfl, _, SqL.of (sm _ _ eU)⟩, _, rfl, U, us.map V.int, .int gs[i], us.idxOf gs[i], .int gs[i], rfl, rfl, SqL.of (sm _ _ eU), rfl, ?_, ?_, ?_, ?_, ?_⟩
        · rw [List.all_eq_true]
          intro y hy
          obtain ⟨g, _, rfl⟩ := List.mem_map.mp hy
          rfl
        · rw [List.getElem?_map, List.getElem?_eq_getElem jl, List.getElem_idxOf jl]
          rfl
        · exact decide_eq_true rfl
        · intro m z' hm2 hz
          have ml : m < us.length := by omega
          rw [List.getElem?_map, List.getElem?_eq_getElem ml] at hz
          cases hz
          refine decide_eq_false fun z => ?_
          have nd : us.Nodup := List.nodup_iff_pairwise_ne.mpr (pw.imp fun h => by omega)
          rw [← z, List.Nodup.idxOf_getElem nd] at hm2
          exact Nat.lt_irrefl _ hm2
        · refine ⟨_, eD, ?_, same_at sm hD2, ?_⟩
          · rw [nW_len, List.length_take, List.length_map]
            exact small1000 (by omega)
          · rw [upd_same, List.take_add_one, List.getElem?_map, List.getElem?_eq_getElem hi]
            exact congrArg (fun l => some (HO.lst l)) (nW_snoc _ _).symm
      rintro H6 ⟨s6, eD⟩
      rw [List.length_map, List.take_of_length_le (by rw [List.length_map]; exact Nat.le_refl _), ← mp] at eD
      generalize atOf (spots ts n L) (gs.map fun g => us.idxOf g) = gf at *
      have tw6 := tw.same s6
      refine ⟨Sp, D2, rowsD gf as (spots ts n L), rfl, ?_, ?_, rowsD_k tw6, ?_, fun D hD => ?_⟩
      · rw [rowsD_a tw6]
        exact SqL.of (s6 _ _ eS)
      · rw [rowsD_v tw6]
        exact SqL.of eD
      · rw [rowsD_len tw6, sizeLine_eq]
        omega
      · have s7 := same_upd (o := .dT (DzT.foldP [] (rowsD gf as (spots ts n L)))) hD
        have e7 := rowsD_fold (gf := gf) (ps := []) tw6 spots_nodup
        refine ⟨_, _, D, U, _, us.map V.int, gf, rfl, k05.trans (.of_same (s6.trans s7)), B5.same (s6.trans s7), ?_, (s6.trans s7) _ _ eU, ?_, Ub, DR⟩
        · rw [upd_same]
          exact congrArg (fun l => some (HO.dT l)) e7
        · rw [List.length_map]
    clear DR isl mp tw eG eS rg hgs pw mem eU Ub k05 B5
    rintro _ H5 ⟨v3, v4, D, U, m, us, gf, rfl, k5, B5, eD, eU, ul, Ub, DR⟩
    have PA5 := PA.keepB B k5
    refine ⟨(by show 0 ≤ sizeLine; exact Nat.zero_le _), fun E hE => ?_⟩
    refine ⟨RF7 H b l sp ns n L ts, ?_, ?_⟩
    · have s0 := same_upd (o := .lst []) hE
      refine ⟨_, rfl, _, rfl, sp, sq, n, ts, L, rfl, PA5.same s0, m24, l1, l4, fun Fd fs H6 s6 nF eF tf => ?_⟩
      have eE : H6 E = some (.lst (vsOf [])) := s6 _ _ upd_same
      have s56 := s0.trans s6
      have FE : Fd ≠ E := fun z => by rw [z, upd_same] at nF; cases nF
      have eD6 := s56 _ _ eD
      have DE : D ≠ E := ne_of_none eD hE
      have PA6 := PA5.same s56
      have spE : sp ≠ E := ne_of_none PA5.tp hE
      have sqE : sq ≠ E := ne_of_none PA5.ls hE
      have fl := tf.len
      refine ⟨Fd, _, SqL, rfl, .inl rfl, SqL.of eF, fun J wk => ?_⟩
      refine for_it wk (fun j σ H' => ∃ (v8 v9 v10 : Option V) (es : Es), σ = [some (.ref b), some (.ref sp), some (.int (L : Int)), v3, v4, some (.ref D), some (.ref U), some (.ref E), v8, v9, v10, none, none, none, none, none, none, none] ∧ KeepB E H6 H' ∧ H' E = some (.lst (vsOf es)) ∧ Ed H' es ∧ psOf es = ((win ts L).take j).map (endsP ts L gf))
        ⟨none, none, none, [], rfl, KeepB.rfl', eE, .nil, rfl⟩ (fun j σ H' _ z => by obtain ⟨_, _, _, _, _, k, _⟩ := z; exact SqL.of (k _ _ FE eF)) ?_ ?_
      · rintro j x σ H7 H8 hj ⟨v8, v9, v10, es, rfl, kE, eE7, ed7, ps7⟩ ⟨rfl, gx⟩
        rw [List.length_map, fl] at hj
        obtain ⟨a, ha, ea⟩ := TW.at tf (List.getElem?_eq_getElem hj)
        rw [List.getElem?_map, ha] at gx
        cases gx
        have tk : (win ts L).take (j + 1) = (win ts L).take j ++ [(win ts L)[j]] := by
          rw [List.take_add_one, List.getElem?_eq_getElem hj]
          rfl
        have mem := List.getElem_mem hj
        obtain ⟨wl', wk'⟩ := (mem_win l1).mp mem
        have im := ini_mem FU l1 mem
        have fm := fin_mem FU l1 mem
        have esl : es.length ≤ 60 := by
          have := congrArg List.length ps7
          rw [psOf_len, List.length_map, List.length_take] at this
          omega
        have ea8 := kE _ _ (fun z => by rw [z, eE] at ea; cases ea) ea
        have eD8 := kE _ _ DE eD6
        have fin : ∀ (Hx : Hp) (t : Addr), Same H8 Hx → Hx t = none → KeepB E H6 (upd (upd Hx t (.tup [.int ((gf (ini ts L (win ts L)[j]) : Nat) : Int), .int ((gf (fin_ ts L (win ts L)[j]) : Nat) : Int)])) E (.lst (vsOf es ++ [.ref t]))) ∧
            (upd (upd Hx t (.tup [.int ((gf (ini ts L (win ts L)[j]) : Nat) : Int), .int ((gf (fin_ ts L (win ts L)[j]) : Nat) : Int)])) E (.lst (vsOf es ++ [.ref t]))) E = some (.lst (vsOf (es ++ [(t, endsP ts L gf (win ts L)[j])]))) ∧
            Ed (upd (upd Hx t (.tup [.int ((gf (ini ts L (win ts L)[j]) : Nat) : Int), .int ((gf (fin_ ts L (win ts L)[j]) : Nat) : Int)])) E (.lst (vsOf es ++ [.ref t]))) (es ++ [(t, endsP ts L gf (win ts L)[j])]) ∧
            psOf (es ++ [(t, endsP ts L gf (win ts L)[j])]) = ((win ts L).take (j + 1)).map (endsP ts L gf) := by
          intro Hx t sx nt
          have s9 := sx.trans (same_upd (o := .tup [.int ((gf (ini ts L (win ts L)[j]) : Nat) : Int), .int ((gf (fin_ ts L (win ts L)[j]) : Nat) : Int)]) nt)
          have et : upd Hx t (.tup [.int ((gf (ini ts L (win ts L)[j]) : Nat) : Int), .int ((gf (fin_ ts L (win ts L)[j]) : Nat) : Int)]) t = some (.tup [.int ((gf (ini ts L (win ts L)[j]) : Nat) : Int), .int ((gf (fin_ ts L (win ts L)[j]) : Nat) : Int)]) := upd_same
          have eE9 := s9 _ _ eE7
          generalize upd Hx t (.tup [.int ((gf (ini ts L (win ts L)[j]) : Nat) : Int), .int ((gf (fin_ ts L (win ts L)[j]) : Nat) : Int)]) = H9 at *
          refine ⟨(kE.trans (.of_same s9)).trans .updb, ?_, ?_, ?_⟩
          · rw [upd_same, vsOf_app]
            rfl
          · refine Ed.off2 eE9 .updb ((ed7.same s9).app (.one et))
          · rw [psOf_app, ps7, tk, List.map_append]
            rfl
        refine ⟨_, rfl, rfl, _, rfl, ?_⟩
        by_cases hL : L = 1
        · refine if_t (decide_eq_true (by rw [hL]; rfl)) ?_
          obtain ⟨y, hy⟩ : ∃ y, (win ts L)[j] = [y] := by
            match h : (win ts L)[j], wl'.trans hL with
            | [y], _ => exact ⟨y, rfl⟩
          have yl : y < ts.length := lnk_lt wk' y (by rw [hy]; exact List.mem_singleton.mpr rfl)
          have PA8 : PlanAt H8 sp sq (n : Int) ts := ⟨kE _ _ spE PA6.tp, kE _ _ sqE PA6.ls, Ed.off2 eE kE PA6.ed, PA6.va, PA6.n1⟩
          obtain ⟨t1, a1, b1, c1, d1⟩ := PA8.edL.read yl
          have ini1 : ini ts L (win ts L)[j] = [srcE ts y] := by unfold ini; rw [if_pos hL, hy]; rfl
          have fin1 : fin_ ts L (win ts L)[j] = [tgtE ts y] := by unfold fin_; rw [if_pos hL, hy]; rfl
          rw [ini1] at im fin
          rw [fin1] at fm fin
          rw [hy] at ea8
          refine ⟨_, rfl, sp, _, _, _, rfl, rfl, SqT.of PA8.tp, rfl, _, rfl, a, _, _, _, rfl, rfl, SqT.of ea8, rfl, sq, _, _, _, rfl, rfl, SqL.of PA8.ls, a1, ?_⟩
          refine ⟨t1, _, rfl, SqT.of b1, rfl, _, _, rfl, _, _, rfl, rfl, ?_⟩
          refine ⟨_, rfl, .inl ⟨rfl, _, SqL.of eE7⟩, ?_⟩
          refine ⟨_, rfl, _, rfl, (by show 1 ≤ sizeLine; decide), fun u hu => ?_⟩
          have s1 := same_upd (o := .tup [.int ((srcE ts y : Nat) : Int)]) hu
          have eu : upd H8 u (.tup [.int ((srcE ts y : Nat) : Int)]) u = some (.tup ((kN [srcE ts y]).map kV)) := by rw [upd_same, kN_V]; rfl
          refine ⟨D, _, rfl, (tabN_val (im := gf) im) ▸ DGet.t (s1 _ _ eD8) eu, ?_⟩
          refine ⟨_, rfl, _, rfl, (by show 1 ≤ sizeLine; decide), fun u2 hu2 => ?_⟩
          have s2 := s1.trans (same_upd (o := .tup [.int ((tgtE ts y : Nat) : Int)]) hu2)
          have eu2 : upd (upd H8 u (.tup [.int ((srcE ts y : Nat) : Int)])) u2 (.tup [.int ((tgtE ts y : Nat) : Int)]) u2 = some (.tup ((kN [tgtE ts y]).map kV)) := by rw [upd_same, kN_V]; rfl
          refine ⟨D, _, rfl, (tabN_val (im := gf) fm) ▸ DGet.t (s2 _ _ eD8) eu2, ?_⟩
          refine ⟨(by show 2 ≤ sizeLine; decide), fun t ht => ?_⟩
          obtain ⟨f1, f2, f3, f4⟩ := fin _ t s2 ht
          exact ⟨E, _, _, rfl, rfl, same_upd ht _ _ (s2 _ _ eE7), by rw [vsOf_len]; exact small1000 (by omega), _, _, _, _, rfl, f1, f2, f3, f4⟩
        · refine if_f (decide_eq_false fun z => hL (by injection z with z; omega)) ?_
          obtain ⟨pp, y, hy⟩ : ∃ pp y, (win ts L)[j] = pp ++ [y] := ⟨(win ts L)[j].dropLast, (win ts L)[j].getLast (fun z => by rw [z] at wl'; change 0 = L at wl'; omega), (List.dropLast_concat_getLast _).symm⟩
          have ini1 : ini ts L (win ts L)[j] = pp := by unfold ini; rw [if_neg hL, hy, List.dropLast_concat]
          have fin1 : fin_ ts L (win ts L)[j] = (pp ++ [y]).drop 1 := by unfold fin_; rw [if_neg hL, hy]
          rw [ini1] at im fin
          rw [fin1] at fm fin
          rw [hy] at ea8
          refine ⟨_, rfl, .inl ⟨rfl, _, SqL.of eE7⟩, ?_⟩
          have ea9 := ea8
          rw [nW_snoc] at ea9
          refine ⟨_, rfl, _, rfl, 1, rfl, -1, rfl, slA ea9 fun u H9 s9 eu => ?_⟩
          have eu : H9 u = some (.tup ((kN pp).map kV)) := by rw [eu, kN_V]; exact congrArg (fun l => some (HO.tup l)) cut_end'
          refine ⟨D, _, rfl, (tabN_val (im := gf) im) ▸ DGet.t (s9 _ _ eD8) eu, ?_⟩
          refine ⟨_, rfl, _, rfl, 1, rfl, ?_⟩
          dsimp only [tNoPart]
          refine slA (s9 _ _ ea8) fun u2 H10 s10 eu2 => ?_
          have eu2 : H10 u2 = some (.tup ((kN ((pp ++ [y]).drop 1)).map kV)) := by
            rw [eu2, show (some (1 : Int)) = some ((1 : Nat) : Int) from rfl, cut_hi' (by rw [nW_len, List.length_append]; exact Nat.le_add_left 1 _), nW_drop, kN_V]
          have s2 := s9.trans s10
          refine ⟨D, _, rfl, (tabN_val (im := gf) fm) ▸ DGet.t (s2 _ _ eD8) eu2, ?_⟩
          refine ⟨(by show 2 ≤ sizeLine; decide), fun t ht => ?_⟩
          obtain ⟨f1, f2, f3, f4⟩ := fin _ t s2 ht
          exact ⟨E, _, _, rfl, rfl, same_upd ht _ _ (s2 _ _ eE7), by rw [vsOf_len]; exact small1000 (by omega), _, _, _, _, rfl, f1, f2, f3, f4⟩
      · rintro σ H7 ⟨v8, v9, v10, es, rfl, kE, eE7, ed7, ps7⟩
        rw [List.length_map, fl, List.take_length] at ps7
        have s57 : Same H5 H7 := fun c o ec => kE _ _ (ne_of_none ec hE) (s56 _ _ ec)
        exact ⟨_, _, _, v8, v9, v10, E, U, m, us, gf, es, rfl, k5.trans (.of_same s57), B5.same s57, s57 _ _ eU, ul, Ub, DR, eE7, ed7, ps7⟩
    clear eD eU ul DR B5 k5 PA5
    rintro _ H5 ⟨v3, v4, v5, v8, v9, v10, E, U, m, us, gf, es, rfl, k5, B5, eU, ul, Ub, DR, eE, ed, ps⟩
    have esl : es.length ≤ 60 := by
      have := congrArg List.length ps
      rw [psOf_len, List.length_map] at this
      omega
    have erg : ∀ e ∈ es, 0 ≤ e.2.1 ∧ e.2.1 < m ∧ 0 ≤ e.2.2 ∧ e.2.2 < m := fun e he => by
      have : e.2 ∈ psOf es := List.mem_map.mpr ⟨e, he, rfl⟩
      rw [ps] at this
      obtain ⟨p, hp, e2⟩ := List.mem_map.mp this
      rw [← e2]
      exact DR.ends FU l1 hp
    have m1 := DR.m1
    have m3 := DR.m3
    have Eb : E ≠ b := B5.ne_vs eE
    -- edges
    refine ⟨(by show 0 ≤ sizeLine; exact Nat.zero_le _), fun D0 hD0 => ?_⟩
    have s0 := same_upd (o := .lst []) hD0
    have nD0 : H D0 = none := k5.free B5.ob.choose_spec.1 hD0
    have e0 : upd H5 D0 (.lst []) D0 = some (.lst (vsOf [])) := upd_same
    have B6 := B5.same s0
    have k6 : KeepB b H (upd H5 D0 (.lst [])) := k5.trans (.of_same s0)
    have eU6 := s0 _ _ eU
    have eE6 := s0 _ _ eE
    have ed6 := ed.same s0
    have UD0 := ne_of_none eU hD0
    have ED0 := ne_of_none eE hD0
    clear B5 k5 eU eE ed s0 hD0
    generalize upd H5 D0 (.lst []) = H6 at *
    refine ⟨_, rfl, E, ksOf es, rfl, by rw [ksOf_vs]; exact SqL.of eE6, fun p hp => ?_, by unfold ksOf; rw [List.length_map]; omega, fun a LL ha sub all => ?_⟩
    · obtain ⟨e, he, rfl⟩ := ksOf_mem hp
      exact SqT.of (ed6 e he)
    have sa := same_upd (o := SetTO P w a LL) ha
    refine ⟨a, LL, 2, 64, rfl, upd_same, fun p hp => ?_, by decide, fun p hp => ?_, fun L' q0 pm nd l64 pw hq0 => ?_⟩
    · obtain ⟨e, he, rfl⟩ := ksOf_mem (sub p hp)
      exact SqT.of (sa _ _ (ed6 e he))
    · obtain ⟨e, he, rfl⟩ := ksOf_mem (sub p hp)
      obtain ⟨a0, a1, b0, b1⟩ := erg e he
      refine ⟨rfl, fun x hx => ?_⟩
      rcases List.mem_cons.mp hx with z | z
      · rw [z]; exact ⟨a0, by omega⟩
      · rw [List.mem_singleton.mp z]; exact ⟨b0, by omega⟩
    obtain ⟨pr, hpr, sube, alle, pl⟩ := pairs_of sub all pm nd m3 erg
    have sq9 := same_upd (o := .lst (L'.map fun q => V.ref q.1)) hq0
    have sz := sa.trans sq9
    have B9 := B6.same sz
    have eq0 : upd (upd H6 a (SetTO P w a LL)) q0 (.lst (L'.map fun q => V.ref q.1)) q0 = some (.lst (vsOf pr)) := by rw [upd_same, hpr]
    have qb : q0 ≠ b := B9.ne_vs eq0
    refine ⟨q0, vsOf pr, SqL, rfl, .inl rfl, SqL.of eq0, fun J wk => ?_⟩
    refine for_it wk (fun i σ H' => ∃ (v12 : Option V) (D : Addr) (eds : Es), σ = [some (.ref b), some (.ref sp), some (.int (L : Int)), v3, v4, v5, some (.ref U), some (.ref E), v8, v9, v10, some (.ref D), v12, none, none, none, none, none] ∧
        KeepB b H H' ∧ BagAt H' b l ns ∧ H' U = some (.lst us) ∧ H' E = some (.lst (vsOf es)) ∧ Ed H' es ∧ H' q0 = some (.lst (vsOf pr)) ∧ Ed H' pr ∧ H D = none ∧ U ≠ D ∧ E ≠ D ∧ H' D = some (.lst (vsOf eds)) ∧ Ed H' eds ∧ eds.length ≤ 2 * i ∧ (∀ e ∈ eds, 0 ≤ e.2.1 ∧ e.2.1 < m ∧ 0 ≤ e.2.2 ∧ e.2.2 < m) ∧ ∀ x ∈ psOf (pr.take i), x ∈ psOf eds)
      ⟨none, D0, [], rfl, k6.trans (.of_same sz), B9, sz _ _ eU6, sz _ _ eE6, ed6.same sz, eq0, fun e he => (ed6.same sz) e (sube e he), nD0, UD0, ED0, sz _ _ e0, .nil, Nat.zero_le _, (by intro e he; cases he), (by intro x hx; rw [List.take_zero] at hx; cases hx)⟩
      (fun i σ H' _ z => by obtain ⟨_, _, _, _, _, _, _, _, _, e, _⟩ := z; exact SqL.of e) ?_ ?_
    · rintro i x σ H7 H8 hi ⟨v12, D, eds, rfl, k7, B7, eU7, eE7, ed7, eq7, edp, nD, UD, ED, eD, edd, el, rg, al⟩ ⟨rfl, gx⟩
      obtain ⟨e, he, rfl⟩ := vsOf_at gx
      have hi9 : i < 9 := by rw [vsOf_len] at hi; omega
      have hm := List.mem_of_getElem? he
      refine ⟨_, rfl, _, rfl, (by show 1 ≤ sizeLine; decide), fun l1 hl1 => ?_⟩
      have s1 := same_upd (o := .lst [.ref e.1]) hl1
      have e1 : upd H8 l1 (.lst [.ref e.1]) l1 = some (.lst [.ref e.1]) := upd_same
      have B8 := B7.same s1
      have l1b : l1 ≠ b := B7.ne_new hl1
      have eU8 := s1 _ _ eU7
      have eE8 := s1 _ _ eE7
      have ed8 := ed7.same s1
      have eq8 := s1 _ _ eq7
      have edp8 := edp.same s1
      have eD8 := s1 _ _ eD
      have edd8 := edd.same s1
      have k8 := k7.trans (.of_same s1)
      generalize upd H8 l1 (.lst [.ref e.1]) = H9 at *
      refine ⟨_, rfl, b, l, ns, 2, rfl, B8, by omega, by omega, fun v o v0 v1 BO => ?_⟩
      refine ⟨_, _, rfl, rfl, ?_⟩
      have Db : D ≠ b := B8.ne_vs eD8
      have kb : KeepB b H9 (upd H9 b o) := .updb
      have B10 := B8.upd BO
      have e10 := kb _ _ l1b e1
      have eU10 := kb _ _ Ub eU8
      have eE10 := kb _ _ Eb eE8
      have ed10 := ed8.keep B8 kb
      have eq10 := kb _ _ qb eq8
      have edp10 := edp8.keep B8 kb
      have eD10 := kb _ _ Db eD8
      have edd10 := edd8.keep B8 kb
      have k10 := k8.trans kb
      generalize upd H9 b o = H10 at *
      refine ⟨l1, 1 + v, _, rfl, rfl, e10, by omega, by omega, ?_, fun r hr => ?_⟩
      · show 1 * (1 + v).toNat ≤ sizeLine
        rw [sizeLine_eq]
        omega
      obtain ⟨rs, ers, hrs, rl⟩ : ∃ rs : Es, (List.replicate (1 + v).toNat [V.ref e.1]).flatten = vsOf rs ∧ (∀ x ∈ rs, x = e) ∧ e ∈ rs ∧ rs.length ≤ 2 := by
        rcases (show v = 0 ∨ v = 1 by omega) with z | z <;> subst z
        · exact ⟨[e], rfl, fun x hx => List.mem_singleton.mp hx, List.mem_singleton.mpr rfl, Nat.le_succ 1⟩
        · exact ⟨[e, e], rfl, fun x hx => by simpa using hx, List.mem_cons_self, Nat.le_refl _⟩
      rw [ers]
      have s2 := same_upd (o := .lst (vsOf rs)) hr
      refine ⟨D, r, _, _, rfl, rfl, s2 _ _ eD10, upd_same, ?_, fun R hR => ?_⟩
      · rw [vsOf_len, vsOf_len, sizeLine_eq]
        omega
      have s12 := s2.trans (same_upd (o := .lst (vsOf eds ++ vsOf rs)) hR)
      have eR : (upd (upd H10 r (.lst (vsOf rs))) R (.lst (vsOf eds ++ vsOf rs))) R = some (.lst (vsOf (eds ++ rs))) := by rw [upd_same, vsOf_app]
      refine ⟨_, R, eds ++ rs, rfl, k10.trans (.of_same s12), B10.same s12, s12 _ _ eU10, s12 _ _ eE10, ed10.same s12, s12 _ _ eq10, edp10.same s12, ?_, ne_of_none (s2 _ _ eU10) hR, ne_of_none (s2 _ _ eE10) hR, eR, ?_, ?_, fun d hd => ?_, fun x hx => ?_⟩
      · exact k10.free B10.ob.choose_spec.1 (s2.free hR)
      · refine (edd10.same s12).app fun d hd => ?_
        rw [hrs d hd]
        exact (edp10.same s12) e hm
      · rw [List.length_append]
        have := rl.2
        omega
      · rcases List.mem_append.mp hd with z | z
        · exact rg d z
        · rw [hrs d z]
          exact erg e (sube e hm)
      · rw [psOf_app]
        rw [show pr.take (i + 1) = pr.take i ++ [e] by rw [List.take_add_one, he]; rfl, psOf_app] at hx
        rcases List.mem_append.mp hx with z | z
        · exact List.mem_append.mpr (.inl (al x z))
        · refine List.mem_append.mpr (.inr ?_)
          rw [List.mem_singleton.mp z]
          exact List.mem_map.mpr ⟨e, rl.1, rfl⟩
    rintro σ H7 ⟨v12, D, eds, rfl, k7, B7, eU7, eE7, ed7, eq7, edp, nD, UD, ED, eD, edd, el, rg, al⟩
    rw [vsOf_len] at el al
    rw [List.take_length] at al
    have al' : ∀ x ∈ psOf es, x ∈ psOf eds := fun x hx => al x (alle x hx)
    clear al eq7 edp sube alle hpr eq0 qb wk B9 sz sq9 pw pm nd l64 hq0 sa all sub ha B6 k6 eU6 eE6 ed6 e0
    refine ⟨RF10 H b l sp ns n L ts, ?_, ?_⟩
    · refine ⟨_, rfl, b, l, ns, 4, rfl, B7, by omega, by omega, fun v o v0 v1 BO => ?_⟩
      refine ⟨_, _, rfl, rfl, ⟨by omega, by omega⟩, ?_⟩
      refine ⟨v / 3, rfl, by omega, by omega, ?_⟩
      have Db : D ≠ b := B7.ne_vs eD
      have kb : KeepB b H7 (upd H7 b o) := .updb
      have B8 := B7.upd BO
      have eU8 := kb _ _ Ub eU7
      have eE8 := kb _ _ Eb eE7
      have ed8 := ed7.keep B7 kb
      have eD8 := kb _ _ Db eD
      have edd8 := edd.keep B7 kb
      have k8 := k7.trans kb
      generalize upd H7 b o = H8 at *
      refine for_it (walk_range (lo := 0) (n := (v / 3).toNat)) (fun i σ H' => ∃ (v13 : Option V) (eds : Es), σ = [some (.ref b), some (.ref sp), some (.int (L : Int)), v3, v4, v5, some (.ref U), some (.ref E), v8, v9, v10, some (.ref D), v12, v13, none, none, none, none] ∧
          KeepB b H H' ∧ BagAt H' b l ns ∧ H' U = some (.lst us) ∧ H' E = some (.lst (vsOf es)) ∧ Ed H' es ∧ H' D = some (.lst (vsOf eds)) ∧ Ed H' eds ∧ eds.length ≤ 18 + i ∧ (∀ e ∈ eds, 0 ≤ e.2.1 ∧ e.2.1 < m ∧ 0 ≤ e.2.2 ∧ e.2.2 < m) ∧ ∀ x ∈ psOf es, x ∈ psOf eds)
        ⟨none, eds, rfl, k8, B8, eU8, eE8, ed8, eD8, edd8, by omega, rg, al'⟩ (fun _ _ _ _ _ => True.intro) ?_ ?_
      · rintro i x σ H9 H10 hi ⟨v13, eds, rfl, k9, B9, eU9, eE9, ed9, eD9, edd9, el9, rg9, al9⟩ ⟨rfl, hx⟩
        have hi : i < 6 := by omega
        refine ⟨_, rfl, .inl ⟨rfl, _, SqL.of eD9⟩, ?_⟩
        refine ⟨_, rfl, _, rfl, U, _, rfl, .inl (SqL.of eU9), b, l, ns, _, rfl, B9, by omega, by omega, fun x o1 x0 x1 BO1 => ?_⟩
        have kb1 : KeepB b H10 (upd H10 b o1) := .updb
        have B10 := B9.upd BO1
        have eU10 := kb1 _ _ Ub eU9
        refine ⟨_, rfl, _, rfl, U, _, rfl, .inl (SqL.of eU10), b, l, ns, _, rfl, B10, by omega, by omega, fun y o2 y0 y1 BO2 => ?_⟩
        have B11 := B10.upd BO2
        have kb2 : KeepB b H10 (upd (upd H10 b o1) b o2) := kb1.trans .updb
        have eU11 := kb2 _ _ Ub eU9
        have eE11 := kb2 _ _ Eb eE9
        have ed11 := ed9.keep B9 kb2
        have eD11 := kb2 _ _ Db eD9
        have edd11 := edd9.keep B9 kb2
        have k11 := k9.trans kb2
        generalize upd (upd H10 b o1) b o2 = H11 at *
        refine ⟨(by show 2 ≤ sizeLine; decide), fun t ht => ?_⟩
        have st := same_upd (o := .tup [.int x, .int y]) ht
        have et : upd H11 t (.tup [.int x, .int y]) t = some (.tup [.int x, .int y]) := upd_same
        have B12 := B11.same st
        have eU12 := st _ _ eU11
        have eE12 := st _ _ eE11
        have ed12 := ed11.same st
        have eD12 := st _ _ eD11
        have edd12 := edd11.same st
        have k12 := k11.trans (.of_same st)
        generalize upd H11 t (.tup [.int x, .int y]) = H12 at *
        have kD : KeepB D H12 (upd H12 D (.lst (vsOf eds ++ [.ref t]))) := .updb
        have lD : l ≠ D := ne_of_none B.sc nD
        refine ⟨D, _, _, rfl, rfl, eD12, by rw [vsOf_len]; exact small1000 (by omega), _, eds ++ [(t, x, y)], rfl, k12.at nD, B12.off Db lD.symm, kD _ _ UD eU12, kD _ _ ED eE12, Ed.off2 eD12 kD ed12, ?_, ?_, ?_, fun d hd => ?_, fun z hz => ?_⟩
        · rw [upd_same, vsOf_app]
          rfl
        · exact Ed.off2 eD12 kD (edd12.app (.one et))
        · rw [List.length_append, List.length_singleton]
          omega
        · rcases List.mem_append.mp hd with z | z
          · exact rg9 d z
          · rw [List.mem_singleton.mp z]
            rw [ul] at x1 y1
            exact ⟨x0, x1, y0, y1⟩
        · rw [psOf_app]
          exact List.mem_append.mpr (.inl (al9 z hz))
      · rintro σ H9 ⟨v13, eds, rfl, k9, B9, eU9, eE9, ed9, eD9, edd9, el9, rg9, al9⟩
        exact ⟨v3, v4, v5, v8, v9, v10, v12, v13, E, U, D, m, us, gf, es, eds, rfl, k9, B9, eU9, ul, Ub, DR, eE9, ed9, ps, nD, eD9, edd9, by omega, rg9, al9⟩
    clear al' eD edd el rg eU7 eE7 ed7 B7 k7 nD UD ED
    rintro _ H7 ⟨v3, v4, v5, v8, v9, v10, v12, v13, E, U, D, m, us, gf, es, eds, rfl, k7, B7, eU, ul, Ub, DR, eE, ed, ps, nD, eD, edd, el, rg, al⟩
    have esl : es.length = (win ts L).length := by
      have := congrArg List.length ps
      rwa [psOf_len, List.length_map] at this
    have Eb : E ≠ b := B7.ne_vs eE
    have Db : D ≠ b := B7.ne_vs eD
    refine ⟨_, rfl, E, vsOf es, SqL, rfl, .inl rfl, SqL.of eE, fun J wk => fun I hI => ?_⟩
    have Ib : I ≠ b := B7.ne_new hI
    refine lc_it wk (fun i H' => ∃ is : List Nat, is.length = i ∧ KeepB b H7 H' ∧ BagAt H' b l ns ∧ H' I = some (.lst (nW is)) ∧ ∀ j, j < is.length → (psOf eds)[is.getD j 0]? = (psOf es)[j]?)
      ⟨[], rfl, KeepB.rfl'.new hI, B7.new hI, upd_same, fun j hj => absurd hj (Nat.not_lt_zero j)⟩ (fun i H' _ z => by obtain ⟨_, _, k, _⟩ := z; exact SqL.of (k _ _ Eb eE)) ?_ ?_
    · rintro i x H8 H9 hi ⟨is, hl, k8, B8, eI, good⟩ ⟨rfl, gx⟩
      rw [vsOf_len] at hi
      obtain ⟨e, he, rfl⟩ := vsOf_at gx
      have hm := List.mem_of_getElem? he
      have heq : (psOf es)[i]? = some e.2 := by unfold psOf; rw [List.getElem?_map, he]; rfl
      have eD9 := k8 _ _ Db eD
      have edd9 := edd.keep B7 k8
      have ed9 := ed.keep B7 k8
      refine ⟨rfl, ?_⟩
      refine ⟨_, rfl, ?_⟩
      refine ⟨_, rfl, D, _, rfl, .inl (SqL.of eD9), _, rfl, by omega, by rw [vsOf_len]; omega, fun G hG => ?_⟩
      refine lc_it (walk_range (lo := 0) (n := ((vsOf eds).length : Int).toNat)) (fun j H' => Same H9 H' ∧ H' G = some (.lst (nW ((List.range j).filter fun k => decide ((psOf eds)[k]? = some e.2))))) ⟨same_upd hG, upd_same⟩ (fun _ _ _ _ => True.intro) ?_ ?_
      · rintro j x H10 H11 hj ⟨sm, eG⟩ ⟨rfl, hx⟩
        rw [Int.toNat_natCast, vsOf_len] at hj
        have hx : x = .int (j : Int) := by
          rw [hx]
          show V.int (0 + (j : Int)) = _
          rw [Int.zero_add]
        subst hx
        have hd : eds[j]? = some eds[j] := List.getElem?_eq_getElem hj
        have hdm := List.getElem_mem hj
        have hpj : (psOf eds)[j]? = some eds[j].2 := by unfold psOf; rw [List.getElem?_map, hd]; rfl
        refine ⟨rfl, ?_⟩
        refine ⟨_, rfl, _, rfl, D, _, _, .ref eds[j].1, rfl, rfl, SqL.of (sm _ _ eD9), atI_nat (by unfold vsOf; rw [List.getElem?_map, hd]; rfl), _, rfl, _, _, .tup (SqT.of (sm _ _ (edd9 _ hdm))) (.cons (.int _) (.cons (.int _) .nil)), .tup (SqT.of (sm _ _ (ed9 e hm))) (.cons (.int _) (.cons (.int _) .nil)), rfl, rfl, _, rfl, ?_⟩
        have ev : PyData.eqv (.tuple [.int eds[j].2.1, .int eds[j].2.2]) (.tuple [.int e.2.1, .int e.2.2]) = decide ((psOf eds)[j]? = some e.2) := by
          refine (eqv_ints [eds[j].2.1, eds[j].2.2] [e.2.1, e.2.2]).trans ?_
          rw [hpj]
          refine decide_eq_decide.mpr ⟨fun z => ?_, fun z => ?_⟩
          · have z1 := (List.cons.inj z).1
            have z2 := (List.cons.inj (List.cons.inj z).2).1
            exact congrArg some (Prod.ext z1 z2)
          · have z := Option.some.inj z
            rw [z]
        rw [ev]
        rw [List.range_succ, List.filter_append]
        by_cases hc : (psOf eds)[j]? = some e.2
        · refine if_t (decide_eq_true hc) ⟨_, rfl, _, eG, ?_, same_at sm hG, ?_⟩
          · rw [nW_len]
            refine small1000 ?_
            have := List.length_filter_le (fun k => decide ((psOf eds)[k]? = some e.2)) (List.range j)
            rw [List.length_range] at this
            omega
          · rw [upd_same, ← nW_snoc]
            rw [List.filter_cons, if_pos (decide_eq_true hc), List.filter_nil]
        · refine if_f (decide_eq_false hc) ⟨sm, ?_⟩
          rw [List.filter_cons, if_neg (by rw [decide_eq_false hc]; exact Bool.false_ne_true)]
          rw [eG, List.filter_nil, List.append_nil]
      · rintro H10 ⟨sm, eG⟩
        rw [Int.toNat_natCast, vsOf_len] at eG
        have B10 := B8.same sm
        have GI : I ≠ G := ne_of_none eI hG
        have Gb : G ≠ b := B8.ne_new hG
        have mem : e.2 ∈ psOf eds := al _ (List.mem_map.mpr ⟨e, hm, rfl⟩)
        obtain ⟨k, hk, ek⟩ := List.mem_iff_getElem.mp mem
        have hk2 := hk
        rw [psOf_len] at hk2
        refine ⟨b, l, G, ns, _, rfl, B10, SqL.of eG, Gb, ?_, ?_, fun j v o hv BO => ?_⟩
        · intro z
          have kin : k ∈ (List.range eds.length).filter fun k => decide ((psOf eds)[k]? = some e.2) := List.mem_filter.mpr ⟨List.mem_range.mpr hk2, decide_eq_true (by rw [List.getElem?_eq_getElem hk, ek])⟩
          have z1 := congrArg List.length z
          rw [nW_len] at z1
          have z2 := List.length_pos_of_mem kin
          rw [z1] at z2
          exact absurd z2 (Nat.lt_irrefl 0)
        · rw [nW_len]
          have := List.length_filter_le (fun k => decide ((psOf eds)[k]? = some e.2)) (List.range eds.length)
          rw [List.length_range] at this
          omega
        · obtain ⟨c, hc, rfl⟩ : ∃ c : Nat, (psOf eds)[c]? = some e.2 ∧ v = .int (c : Int) := by
            unfold nW at hv
            rw [List.getElem?_map] at hv
            cases g : ((List.range eds.length).filter fun k => decide ((psOf eds)[k]? = some e.2))[j]? with
            | none => rw [g] at hv; cases hv
            | some c =>
              rw [g] at hv
              have hv := Option.some.inj hv
              exact ⟨c, of_decide_eq_true (List.mem_filter.mp (List.mem_of_getElem? g)).2, hv.symm⟩
          have kb : KeepB b H10 (upd H10 b o) := .updb
          refine ⟨_, kb _ _ Ib (sm _ _ eI), by rw [nW_len, hl]; exact small1000 (by omega), is ++ [c], by simp [hl], ((k8.trans (.of_same sm)).trans kb).at hI, ?_, ?_, fun j hj => ?_⟩
          · exact (B10.upd BO).off Ib (ne_of_none B7.sc hI).symm
          · rw [upd_same, nW_snoc]
          · rw [List.length_append, List.length_singleton] at hj
            by_cases z : j < is.length
            · have := good j z
              rw [← this]
              simp [List.getD, List.getElem?_append_left z]
            · have z : j = is.length := by omega
              subst z
              rw [hl, heq, ← hc]
              simp [List.getD, hl]
    rintro H8 ⟨is, hl, k8, B8, eI, good⟩
    rw [vsOf_len, esl] at hl
    have eU8 := k8 _ _ Ub eU
    have eD8 := k8 _ _ Db eD
    have edd8 := edd.keep B7 k8
    have k08 := k7.trans k8
    refine ⟨_, rfl, _, rfl, U, _, rfl, .inl (SqL.of eU8), _, rfl, (by show 2 ≤ sizeLine; decide), fun T1 hT => ?_⟩
    refine ⟨_, rfl, _, rfl, (by show 4 ≤ sizeLine; decide), fun R hR => ?_⟩
    have s1 := same_upd (o := .tup [.int ((us.length : Nat) : Int), .ref D]) hT
    have s2 := same_upd (o := .tup [.ref sp, .ref T1, .int ((L : Nat) : Int), .ref I]) hR
    have s12 := s1.trans s2
    have nI : H I = none := k7.free B7.ob.choose_spec.1 hI
    have nR : H R = none := k08.free B8.ob.choose_spec.1 (s1.free hR)
    refine q R T1 D I m eds (atOf (win ts L) is) _ (k08.trans (.of_same s12)) (B8.same s12) nR nD nI ?_
    have wn := win_nodup (us := ts) L
    refine ⟨upd_same, (PA.keepB B k08).same s12, ⟨?_, s12 _ _ eD8, edd8.same s12, ⟨rg, fun k k0 k1 => ?_⟩, ?_⟩, ?_, ?_, n8, ?_, m24, el⟩
    · rw [s2 _ _ upd_same, ul]
    · obtain ⟨s, hs, es1⟩ := DR.all k.toNat (by omega)
      obtain ⟨p, hp, ep⟩ := spot_ext FU l1 hs
      have : endsP ts L gf p ∈ psOf es := by rw [ps]; exact List.mem_map.mpr ⟨p, hp, rfl⟩
      obtain ⟨e, he, ee⟩ := List.mem_map.mp (al _ this)
      refine ⟨e, he, ?_⟩
      have ee : e.2 = endsP ts L gf p := ee
      rw [ee]
      unfold endsP
      simp only
      rw [ep, es1]
      omega
    · have := DR.m1
      omega
    · rw [map_atOf wn hl]
      exact s12 _ _ eI
    · refine rule_codeD (gf := gf) l1 l4 (by omega) hl fun i hi => ?_
      rw [good i hi, ps, List.getElem?_map, List.getElem?_eq_getElem (by omega)]
      simp [List.getD, show i < (win ts L).length by omega]
    · have := DR.m3
      omega
end
end Lw
end
section
set_option Elab.async false
set_option linter.all false
set_option maxRecDepth 100000
/-! class Code: what one tells of itself. -/
namespace Lw
open PySem L2 PyProof.Rows
abbrev sCEq : Stmt := inClass (top 31) 4
abbrev sCLen : Stmt := inClass (top 31) 5
abbrev sCRepr : Stmt := inClass (top 31) 6
abbrev sCSrc : Stmt := inClass (top 31) 7
abbrev sCTgt : Stmt := inClass (top 31) 8
abbrev sCWid : Stmt := inClass (top 31) 9
abbrev sCImg : Stmt := inClass (top 31) 10
theorem nW_ints (s : List Nat) : nW s = (s.map fun k => ((k : Nat) : Int)).map V.int := by
  unfold nW
  rw [List.map_map]
  rfl
theorem dp_nW {K : PySem.W.Frag} {H : Hp} (s : List Nat) : DpAll K H (nW s) ((s.map fun k => ((k : Nat) : Int)).map PyData.int) := by
  rw [nW_ints]
  exact dp_ints _
theorem ints_inj {s t : List Nat} : (s.map fun k => ((k : Nat) : Int)) = (t.map fun k => ((k : Nat) : Int)) ↔ s = t :=
  ⟨fun h => (List.map_inj_right fun x y (z : ((x : Nat) : Int) = y) => by omega).mp h, fun h => by rw [h]⟩
theorem eqv_nW (s t : List Nat) : PyData.eqvAll ((s.map fun k => ((k : Nat) : Int)).map PyData.int) ((t.map fun k => ((k : Nat) : Int)).map PyData.int) = decide (s = t) := by
  rw [eqv_ints]
  exact decide_eq_decide.mpr ints_inj
/-- whether two codes are equal -/
def codeB (n n2 m m2 : Nat) (us us2 ws ws2 : Es) (L L2 : Nat) (im im2 : List Nat → Nat) : Bool :=
  decide (L = L2) && (decide ((win us L).map im = (win us2 L2).map im2) && ((decide ((n : Int) = n2) && decide (psOf us = psOf us2)) && (decide ((m : Int) = m2) && decide (psOf ws = psOf ws2))))
def spCEq (K : PySem.W.Frag) (C CG : Addr) : Sp := fun vs H Q _ => ∃ (c g1 g2 : Addr) (n m : Nat) (us ws : Es) (L : Nat) (im : List Nat → Nat) (y : V), vs = [.ref c, y] ∧ CodeAt C CG H c g1 g2 n m us ws L im ∧
  ((∃ (c2 h1 h2 : Addr) (n2 m2 : Nat) (us2 ws2 : Es) (L2 : Nat) (im2 : List Nat → Nat), y = .ref c2 ∧ CodeAt C CG H c2 h1 h2 n2 m2 us2 ws2 L2 im2 ∧ Q (.bl (codeB n n2 m m2 us us2 ws ws2 L L2 im im2)) H) ∨ ((∃ t, TyX K H y t ∧ PySem.W.kitOne K t (.ref C) = some false) ∧ Q (.bl false) H))
/-- what a code's text says -/
def codeText (L m : Int) : Str := (((("Code(width " : Str) ++ (toString L : Str)) ++ (", " : Str)) ++ (toString m : Str)) ++ (" images)" : Str)
abbrev CodeQ (C CG : Addr) (vs : List V) (H : Hp) (R : Addr → Addr → Addr → Nat → Nat → Es → Es → Nat → (List Nat → Nat) → Prop) : Prop := ∃ (c g1 g2 : Addr) (n m : Nat) (us ws : Es) (L : Nat) (im : List Nat → Nat), vs = [.ref c] ∧ CodeAt C CG H c g1 g2 n m us ws L im ∧ R c g1 g2 n m us ws L im
def spCLen (C CG : Addr) : Sp := fun vs H Q _ => CodeQ C CG vs H fun c g1 g2 n m us ws L im => Q (.int (((win us L).length : Nat) : Int)) H
def spCRepr (C CG : Addr) : Sp := fun vs H Q _ => CodeQ C CG vs H fun c g1 g2 n m us ws L im => Q (.str (codeText L (win us L).length)) H
def spCSrc (C CG : Addr) : Sp := fun vs H Q _ => CodeQ C CG vs H fun c g1 g2 n m us ws L im => Q (.ref g1) H
def spCTgt (C CG : Addr) : Sp := fun vs H Q _ => CodeQ C CG vs H fun c g1 g2 n m us ws L im => Q (.ref g2) H
def spCWid (C CG : Addr) : Sp := fun vs H Q _ => CodeQ C CG vs H fun c g1 g2 n m us ws L im => Q (.int (L : Int)) H
def spCImg (C CG : Addr) : Sp := fun vs H Q _ => CodeQ C CG vs H fun c g1 g2 n m us ws L im => ∀ p, H p = none → Q (.ref p) (upd H p (.lst (nW ((win us L).map im))))
theorem clookS (g1 g2 : Addr) (L : Nat) (it tb : Addr) : (cflds g1 g2 L it tb).lookup ("source_graph" : Str) = some (.ref g1) := by
  unfold cflds
  simp [List.lookup]
theorem clookT (g1 g2 : Addr) (L : Nat) (it tb : Addr) : (cflds g1 g2 L it tb).lookup ("target_graph" : Str) = some (.ref g2) := by
  have h1 : (("target_graph" : Str) == ("source_graph" : Str)) = false := by decide +kernel
  unfold cflds
  simp [List.lookup, h1]
theorem clookW (g1 g2 : Addr) (L : Nat) (it tb : Addr) : (cflds g1 g2 L it tb).lookup ("window_size" : Str) = some (.int (L : Int)) := by
  have h1 : (("window_size" : Str) == ("source_graph" : Str)) = false := by decide +kernel
  have h2 : (("window_size" : Str) == ("target_graph" : Str)) = false := by decide +kernel
  unfold cflds
  simp [List.lookup, h1, h2]
theorem clookI (g1 g2 : Addr) (L : Nat) (it tb : Addr) : (cflds g1 g2 L it tb).lookup ("image_edges" : Str) = some (.ref it) := by
  have h1 : (("image_edges" : Str) == ("source_graph" : Str)) = false := by decide +kernel
  have h2 : (("image_edges" : Str) == ("target_graph" : Str)) = false := by decide +kernel
  have h3 : (("image_edges" : Str) == ("window_size" : Str)) = false := by decide +kernel
  unfold cflds
  simp [List.lookup, h1, h2, h3]
theorem clookB (g1 g2 : Addr) (L : Nat) (it tb : Addr) : (cflds g1 g2 L it tb).lookup ("image_table" : Str) = some (.ref tb) := by
  have h1 : (("image_table" : Str) == ("source_graph" : Str)) = false := by decide +kernel
  have h2 : (("image_table" : Str) == ("target_graph" : Str)) = false := by decide +kernel
  have h3 : (("image_table" : Str) == ("window_size" : Str)) = false := by decide +kernel
  have h4 : (("image_table" : Str) == ("image_edges" : Str)) = false := by decide +kernel
  unfold cflds
  simp [List.lookup, h1, h2, h3, h4]
theorem clook_no (g1 g2 : Addr) (L : Nat) (it tb : Addr) {m : Str} (h : (["source_graph", "target_graph", "window_size", "image_edges", "image_table"] : List Str).all (fun x => (m == x) == false) = true) : (cflds g1 g2 L it tb).lookup m = none := by
  simp only [List.all_cons, List.all_nil, Bool.and_true, Bool.and_eq_true, beq_iff_eq] at h
  obtain ⟨h1, h2, h3, h4, h5⟩ := h
  unfold cflds
  simp only [List.lookup, h1, h2, h3, h4, h5]
section
variable {P : Program} {w : World} {K : PySem.W.Frag} {mg : Str → Option Value} {base : Heap} {f C CG : Addr} {mc : Value} {fd : FuncData} {k : Nat}
theorem scCEq : FnScope ["self", "other"] ["self", "other"] (defScope sCEq) := ⟨rfl, rfl, rfl, by decide +kernel, rfl, by decide +kernel, by decide +kernel⟩
theorem scCLen : FnScope ["self"] ["self"] (defScope sCLen) := ⟨rfl, rfl, rfl, by decide +kernel, rfl, by decide +kernel, by decide +kernel⟩
theorem scCRepr : FnScope ["self"] ["self"] (defScope sCRepr) := ⟨rfl, rfl, rfl, by decide +kernel, rfl, by decide +kernel, by decide +kernel⟩
theorem scCSrc : FnScope ["self"] ["self"] (defScope sCSrc) := ⟨rfl, rfl, rfl, by decide +kernel, rfl, by decide +kernel, by decide +kernel⟩
theorem scCTgt : FnScope ["self"] ["self"] (defScope sCTgt) := ⟨rfl, rfl, rfl, by decide +kernel, rfl, by decide +kernel, by decide +kernel⟩
theorem scCWid : FnScope ["self"] ["self"] (defScope sCWid) := ⟨rfl, rfl, rfl, by decide +kernel, rfl, by decide +kernel, by decide +kernel⟩
theorem scCImg : FnScope ["self"] ["self"] (defScope sCImg) := ⟨rfl, rfl, rfl, by decide +kernel, rfl, by decide +kernel, by decide +kernel⟩
theorem ok_csrc (F : Fun K "source" "Code.source" sCSrc f fd) (G : CTxt K mg C mc) : FnOk P w K mg base CX0 (k + 1) f fd ["self"] (spCSrc C CG) := by
  refine F.ok scCSrc (fun vs H Q E h => ?_) (fun cdv A outer s H vs Q E hr h => ?_)
  · obtain ⟨c, g1, g2, n, m, us, ws, L, im, rfl, _⟩ := h
    rfl
  · obtain ⟨c, g1, g2, n, m, us, ws, L, im, rfl, CA, q⟩ := h
    obtain ⟨dx, it, tb, h1, h2, h3⟩ := CA.ob
    exact ⟨_, pss_one (ps_ret (pe_fld (pv 0) rfl)), _, rfl, c, C, dx, _, _, rfl, h1, G.cl, G.nS, clookS .., q⟩
theorem ok_ctgt (F : Fun K "target" "Code.target" sCTgt f fd) (G : CTxt K mg C mc) : FnOk P w K mg base CX0 (k + 1) f fd ["self"] (spCTgt C CG) := by
  refine F.ok scCTgt (fun vs H Q E h => ?_) (fun cdv A outer s H vs Q E hr h => ?_)
  · obtain ⟨c, g1, g2, n, m, us, ws, L, im, rfl, _⟩ := h
    rfl
  · obtain ⟨c, g1, g2, n, m, us, ws, L, im, rfl, CA, q⟩ := h
    obtain ⟨dx, it, tb, h1, h2, h3⟩ := CA.ob
    exact ⟨_, pss_one (ps_ret (pe_fld (pv 0) rfl)), _, rfl, c, C, dx, _, _, rfl, h1, G.cl, G.nT, clookT .., q⟩
theorem ok_cwid (F : Fun K "width" "Code.width" sCWid f fd) (G : CTxt K mg C mc) : FnOk P w K mg base CX0 (k + 1) f fd ["self"] (spCWid C CG) := by
  refine F.ok scCWid (fun vs H Q E h => ?_) (fun cdv A outer s H vs Q E hr h => ?_)
  · obtain ⟨c, g1, g2, n, m, us, ws, L, im, rfl, _⟩ := h
    rfl
  · obtain ⟨c, g1, g2, n, m, us, ws, L, im, rfl, CA, q⟩ := h
    obtain ⟨dx, it, tb, h1, h2, h3⟩ := CA.ob
    exact ⟨_, pss_one (ps_ret (pe_fld (pv 0) rfl)), _, rfl, c, C, dx, _, _, rfl, h1, G.cl, G.nW, clookW .., q⟩
theorem ok_cimg (F : Fun K "images" "Code.images" sCImg f fd) (T : Bi mg) (G : CTxt K mg C mc) : FnOk P w K mg base CX0 (k + 1) f fd ["self"] (spCImg C CG) := by
  refine F.ok scCImg (fun vs H Q E h => ?_) (fun cdv A outer s H vs Q E hr h => ?_)
  · obtain ⟨c, g1, g2, n, m, us, ws, L, im, rfl, _⟩ := h
    rfl
  · obtain ⟨c, g1, g2, n, m, us, ws, L, im, rfl, CA, q⟩ := h
    obtain ⟨dx, it, tb, h1, h2, h3⟩ := CA.ob
    exact ⟨_, pss_one (ps_ret (pe_callTy call_list_of (by rfl) T.list (by decide +kernel) (pa_cons (pe_fld (pv 0) rfl) pa_nil))), _, rfl, c, C, dx, _, _, rfl, h1, G.cl, G.nI, clookI .., it, _, rfl, .inr (SqT.of h2), q⟩
theorem ok_clen (F : Fun K "__len__" "Code.__len__" sCLen f fd) (T : Bi mg) (G : CTxt K mg C mc) : FnOk P w K mg base CX0 (k + 1) f fd ["self"] (spCLen C CG) := by
  refine F.ok scCLen (fun vs H Q E h => ?_) (fun cdv A outer s H vs Q E hr h => ?_)
  · obtain ⟨c, g1, g2, n, m, us, ws, L, im, rfl, _⟩ := h
    rfl
  · obtain ⟨c, g1, g2, n, m, us, ws, L, im, rfl, CA, q⟩ := h
    obtain ⟨dx, it, tb, h1, h2, h3⟩ := CA.ob
    refine ⟨_, pss_one (ps_ret (pe_callB call_len_seq (by rfl) T.len PySem.boot_len (pa_cons (pe_fld (pv 0) rfl) pa_nil))), _, rfl, c, C, dx, _, _, rfl, h1, G.cl, G.nI, clookI .., it, _, rfl, .inr (SqT.of h2), ?_⟩
    rw [nW_len, List.length_map]
    exact q
theorem ok_crepr (F : Fun K "__repr__" "Code.__repr__" sCRepr f fd) (T : Bi mg) (G : CTxt K mg C mc) : FnOk P w K mg base CX0 (k + 1) f fd ["self"] (spCRepr C CG) := by
  refine F.ok scCRepr (fun vs H Q E h => ?_) (fun cdv A outer s H vs Q E hr h => ?_)
  · obtain ⟨c, g1, g2, n, m, us, ws, L, im, rfl, _⟩ := h
    rfl
  · obtain ⟨c, g1, g2, n, m, us, ws, L, im, rfl, CA, q⟩ := h
    obtain ⟨dx, it, tb, h1, h2, h3⟩ := CA.ob
    refine ⟨_, pss_one (ps_ret (pe_joined (.cons pe_str (.cons (pe_fmt (pe_fld (pv 0) rfl)) (.cons pe_str (.cons (pe_fmt (pe_callB call_len_seq (by rfl) T.len PySem.boot_len (pa_cons (pe_fld (pv 0) rfl) pa_nil))) (.cons pe_str .nil))))))), ?_⟩
    have hsz : ∀ m : Nat, m ≤ 1000 → m ≤ sizeLine := fun m h => Nat.le_of_lt (small1000 h)
    have l0 : (0 : Int) ≤ (L : Int) := by omega
    have l1 : (L : Int) < 1000 := by have := CA.d.l4; omega
    have k0 : (0 : Int) ≤ ((win us L).length : Int) := by omega
    have k1 : ((win us L).length : Int) < 1000 := by have := CA.d.few; omega
    have a1 := len_small l0 l1
    have a2 := len_small k0 k1
    have z1 : (Str.ofString "Code(width ").length = 11 := by decide +kernel
    have z2 : (Str.ofString ", ").length = 2 := by decide +kernel
    have z3 : (Str.ofString " images)").length = 8 := by decide +kernel
    have z0 : Str.empty ++ Str.ofString "Code(width " = Str.ofString "Code(width " := by decide +kernel
    have ln : (nW ((win us L).map im)).length = (win us L).length := by rw [nW_len, List.length_map]
    refine ⟨_, rfl, hsz _ (by rw [z0]; omega), _, rfl, c, C, dx, _, _, rfl, h1, G.cl, G.nW, clookW .., .inr ⟨(L : Int), rfl, log_small l0 l1, _, rfl, hsz _ ?_, ?_⟩⟩
    · rw [z0, len_app]; omega
    refine ⟨_, rfl, hsz _ ?_, ?_⟩
    · rw [z0, len_app, len_app]; omega
    refine ⟨_, rfl, c, C, dx, _, _, rfl, h1, G.cl, G.nI, clookI .., it, _, rfl, .inr (SqT.of h2), .inr ⟨_, rfl, ?_, _, rfl, hsz _ ?_, ?_⟩⟩
    · rw [ln]; exact log_small k0 k1
    · rw [ln, z0, len_app, len_app, len_app]; omega
    refine ⟨_, rfl, hsz _ ?_, ?_⟩
    · rw [ln, z0, len_app, len_app, len_app, len_app]; omega
    rw [ln, z0]
    exact q
set_option maxHeartbeats 4000000 in
theorem ok_ceq (F : Fun K "__eq__" "Code.__eq__" sCEq f fd) (T : Bi mg) (G : CTxt K mg C mc) (S : GIs K C) {fE : Addr} {fdE : FuncData} (FE : FnOk P w K mg base CX0 1 fE fdE ["self", "other"] (spGEq K CG)) (hE1 : PySem.W.findIn K (.ref CG) "__eq__" = some (some (.ref fE))) (hE2 : PySem.W.isFn K (.ref fE) = true) (bE : Binds K fdE ["self", "other"] []) :
    FnOk P w K mg base CX0 (k + 3) f fd ["self", "other"] (spCEq K C CG) := by
  refine F.ok scCEq (fun vs H Q E h => ?_) (fun cdv A outer s H vs Q E hr h => ?_)
  · obtain ⟨c, g1, g2, n, m, us, ws, L, im, y, rfl, _⟩ := h
    rfl
  · obtain ⟨c, g1, g2, n, m, us, ws, L, im, y, rfl, CA, hh⟩ := h
    obtain ⟨dx, it, tb, h1, h2, h3⟩ := CA.ob
    refine ⟨_, pss_one (ps_ret (pe_and (pe_callB call_isi (by rfl) T.isi (by decide +kernel) (pa_cons (pv 1) (pa_cons (pe_glob (v := .ref C) (by rfl) G.mgC rfl) pa_nil)))
      (pe_and (pe_cmpR op_eq (pe_fld (pv 0) rfl) (pe_fld (pv 1) rfl) (nomark _)) (pe_and (pe_cmpR (op_eqD hr.units) (pe_fld (pv 0) rfl) (pe_fld (pv 1) rfl) (nomark _))
      (pe_and (pe_cmpR (op_eqO (E := E0) FE hE1 hE2 bE pass0 (hr.mono (by omega))) (pe_fld (pv 0) rfl) (pe_fld (pv 1) rfl) (nomark _)) (pe_one (pe_cmpR (op_eqO (E := E0) FE hE1 hE2 bE pass0 (hr.mono (by omega))) (pe_fld (pv 0) rfl) (pe_fld (pv 1) rfl) (nomark _)))))))), ?_⟩
    rcases hh with ⟨c2, k1, k2, n2, m2, us2, ws2, L2, im2, rfl, CB, q⟩ | ⟨⟨ty, hty, hk⟩, q⟩
    · obtain ⟨dx2, it2, tb2, b1, b2, b3⟩ := CB.ob
      unfold codeB at q
      obtain ⟨⟨dg, tg, e1, e2⟩, eg⟩ := id CA.s.gr
      obtain ⟨⟨dg2, tg2, e12, e22⟩, eg2⟩ := id CB.s.gr
      obtain ⟨⟨dt, tt, f1, f2⟩, eg3⟩ := id CA.t.gr
      obtain ⟨⟨dt2, tt2, f12, f22⟩, eg4⟩ := id CB.t.gr
      refine ⟨_, rfl, _, _, _, _, true, rfl, .own _, .base (.ins b1 S.ins.cl S.ins.ha S.ins.hn S.ins.htk S.ins.hm), S.ins.me, true, rfl, iteT ?_⟩
      refine ⟨_, rfl, c, C, dx, _, _, rfl, h1, G.cl, G.nW, clookW .., _, rfl, c2, C, dx2, _, _, rfl, b1, G.cl, G.nW, clookW .., rfl, _, rfl, ?_⟩
      by_cases hL : L = L2
      · refine if_t (decide_eq_true (by rw [hL])) ?_
        rw [decide_eq_true hL, Bool.true_and] at q
        refine ⟨_, rfl, c, C, dx, _, _, rfl, h1, G.cl, G.nI, clookI .., _, rfl, c2, C, dx2, _, _, rfl, b1, G.cl, G.nI, clookI .., _, _, .tup (SqT.of h2) (dp_nW _), .tup (SqT.of b2) (dp_nW _), sh_ints _, sh_ints _, _, rfl, ?_⟩
        have ev := eqv_nW ((win us L).map im) ((win us2 L2).map im2)
        by_cases hI : (win us L).map im = (win us2 L2).map im2
        · rw [decide_eq_true hI] at ev
          refine if_t ev ?_
          rw [decide_eq_true hI, Bool.true_and] at q
          refine ⟨_, rfl, c, C, dx, _, _, rfl, h1, G.cl, G.nS, clookS .., _, rfl, c2, C, dx2, _, _, rfl, b1, G.cl, G.nS, clookS .., g1, k1, _, _, _, _, rfl, rfl, e1, e12, g1, _, us, _, rfl, CA.s.gr, .inl ⟨k1, _, us2, rfl, CB.s.gr, _, rfl, _, rfl, ?_⟩⟩
          by_cases hG : (decide ((n : Int) = n2) && decide (psOf us = psOf us2)) = true
          · refine if_t hG ?_
            rw [hG, Bool.true_and] at q
            exact ⟨_, rfl, c, C, dx, _, _, rfl, h1, G.cl, G.nT, clookT .., _, rfl, c2, C, dx2, _, _, rfl, b1, G.cl, G.nT, clookT .., g2, k2, _, _, _, _, rfl, rfl, f1, f12, g2, _, ws, _, rfl, CA.t.gr, .inl ⟨k2, _, ws2, rfl, CB.t.gr, _, rfl, q⟩⟩
          · have hG := Bool.eq_false_iff.mpr hG
            refine if_f hG ?_
            rw [hG, Bool.false_and] at q
            exact q
        · rw [decide_eq_false hI] at ev
          refine if_f ev ?_
          rw [decide_eq_false hI, Bool.false_and] at q
          exact q
      · refine if_f (decide_eq_false (fun z => hL (by injection z with z; omega))) ?_
        rw [decide_eq_false hL, Bool.false_and] at q
        exact q
    · exact ⟨_, rfl, _, _, _, _, false, rfl, .own _, hty, hk, false, rfl, iteF q⟩
end
end Lw
end
section
set_option Elab.async false
set_option linter.all false
set_option maxRecDepth 100000
set_option maxHeartbeats 1000000
/-! Classmethods whose promise is one of the second model; a class held by a local name, made. -/
namespace Sf
open PySem L2 PyProof.Rows ClX
section
variable {P : Program} {w : World} {A : Around} {R : Result → Shared → Prop} {s : Shared}
theorem method_S {q : Addr} {f self : Value} {us : List Value} (ho : s.heap.get? q = some (PySem.W.methodObj f self)) (h : codeAny (mp P w) A (.call f ⟨self :: us, []⟩) R s) : codeAny (mp P w) A (.call (.ref q) ⟨us, []⟩) R s := by
  refine codeAny_of_tree ?_
  show wpAny _ _ (callAny (.ref q) _) _ _ _
  refine PySem.W.nd_load ho ?_
  cases f <;> exact wpAny_pure ⟨rfl, h⟩
end
section
variable {X : Cx} {CX : CXT} {k i : Nat} {C p g f : Addr} {mc : Value} {fd : FuncData} {ps : List Str} {sp : Sp} {dvs : List V} {ds : List Value} {E : XK} {o e : Expr} {es : List Expr} {m x : Str} {pos apos npos : Pos} {ta : TE} {t : TA} {pl : Sem Bool}
theorem run_cmS {S : Nat → Prop} {pins : List (Addr × Obj)} {σ : L2.St} {H : Hp} {x : Shared} {q : Addr} {Q : VK} {us : List Value} {vs : List V} (F : FnS X.prog X.w X.K X.mg X.base CX k g fd ps sp) (hr : Room k X.A) (hb : Binds X.K fd ps ds) (hd : Vals dvs ds) (hx : Passes CX X E)
    (I : Inv X ((q, PySem.W.methodObj (.ref g) (.ref C)) :: pins) σ H x) (rv : Vals vs us) (hsp : sp (.ref C :: (vs ++ dvs)) H Q E) : wS X.prog X.w S X.A (call (.ref q) us) (EP X pins σ Q) X.xe x := by
  intro s hs
  have all : Vals (V.ref C :: (vs ++ dvs)) (Value.ref C :: (us ++ ds)) := .cons rfl (rv.append hd)
  have many : (Value.ref C :: us ++ ds).length = ps.length := all.length.symm.trans (F.len _ _ _ _ hsp)
  refine wpAny_call (codeAny_mono (method_S (by rw [hs.heap]; exact pin_at I) (F.run S X.A X.stack x H ⟨.ref C :: us, []⟩ (.ref C :: (us ++ ds)) _ Q E hr I.env0 (hb x (.ref C :: us) I.kIn many) all hsp s hs)) ?_)
  rintro r s' ⟨y, hy, z⟩
  match r, z with
  | .error e, z => exact ⟨y, hy, hx _ σ H x e y I z⟩
  | .ok .next, z => exact False.elim z
  | .ok .brk, z => exact False.elim z
  | .ok .cont, z => exact False.elim z
  | .ok (.ret u), z => exact ⟨y, hy, unpinE (I.after z)⟩
/-- e.m(..), e the class at C, m a classmethod -/
theorem qe_cmeth (he : QE X o ta) (r : CRead X.K C mc) (c : CMet X.K C mc m p g) (F : FnS X.prog X.w X.K X.mg X.base CX k g fd ps sp) (hr : Room k X.A) (hb : Binds X.K fd ps ds) (hd : Vals dvs ds) (hx : Passes CX X E) (ha : QA X (e :: es) t)
    (hst : starEach (e :: es) X.env = (false, eval e X.env) :: starEach es X.env := by rfl) (hpl : (backTo pos (starEach es X.env)).any (·.1) = false := by rfl)
    (ht : eval (.Call (.Attribute o m apos) (e :: es) [] pos) X.env = (do
      let ov ← eval o X.env
      standAt apos.atName
      let (f, first) ← holding [ov] (getMethod ov m pl)
      callWith pos f first (backTo pos (starEach (e :: es) X.env)) (backToKw pos (keywordEach [] X.env))) := by rfl) :
    QE X (.Call (.Attribute o m apos) (e :: es) [] pos) (tCMeth C (fun vs H Q E => sp (vs ++ dvs) H Q E) E ta t) := by
  refine ⟨fun S pins x σ H Q I q s hs => PySem.W.methodCall_KW (pl := pl) (wpAny_mono (he.run S pins x σ H _ I q s hs) (fun u s1 ⟨y, hy, v, H1, I1, rx, ex, q1⟩ => ?_) fun _ _ e => e) ht⟩
  subst ex
  obtain rfl : u = Value.ref C := rx
  refine wpAny_mono (wpAny_up hy (getmethcm_ok (E := fun _ _ => False) (Q := fun r z => r = (.ref y.heap.objs.size, []) ∧ Inv X ((y.heap.objs.size, PySem.W.methodObj (.ref g) (.ref C)) :: pins) σ H1 z) I1 r c fun z J => ⟨rfl, J⟩)) ?_ fun _ _ ⟨_, _, z⟩ => z.elim
  rintro _ s2 ⟨z, hz, rfl, J⟩
  have at_ := pin_at J
  have apart : y.heap.objs.size ≠ X.env.locals := (J.pin (y.heap.objs.size, PySem.W.methodObj (.ref g) (.ref C)) (List.mem_append_right _ List.mem_cons_self)).2.2.1
  have nws := news_at apart (base_none I1 (Nat.le_refl _)) at_
  rw [← hz.heap] at nws
  refine PySem.W.callWith_M (K := X.K) (h₀ := X.base) (first := []) J.ok.mod.kin nws List.mem_cons_self c.fi (wpAny_mono (ha.run pos S _ z σ H1 _ J q1 s2 hz) (fun us s3 ⟨y3, h3, vs, H2, I3, rv, q2⟩ => ?_) fun _ _ e => e) hst hpl
  exact ⟨⟨by rw [h3.heap]; exact pin_at I3, by rw [h3.heap]; exact I3.kIn⟩, run_cmS F hr hb hd hx I3 rv q2 s3 h3⟩
/-- a class in a slot, made -/
def tMakeS (i : Nat) (C : Addr) (sp : Sp) (dvs : List V) (E : XK) (t : TA) : TE := fun σ H Q => σ[i]? = some (some (.ref C)) ∧ tMake C sp dvs E t σ H Q
theorem qe_makeL (M : Mk X.K C f) (F : FnS X.prog X.w X.K X.mg X.base CX k f fd ps sp) (hr : Room (k + 1) X.A) (hN : X.N[i]? = some x) (hv : Vis X.env.scope x) (hb : Binds X.K fd ps ds) (hd : Vals dvs ds) (hx : Passes CX X E) (ha : QA X (e :: es) t)
    (d1 : (x == ("__debug__" : Str)) = false := by decide) (d2 : (x == ("__classdict__" : Str)) = false := by decide)
    (he : starEach (e :: es) X.env = (false, eval e X.env) :: starEach es X.env := by rfl) (hpl : (backTo pos (starEach es X.env)).any (·.1) = false := by rfl) : QE X (.Call (.Name x npos) (e :: es) [] pos) (tMakeS i C sp dvs E t) := by
  constructor
  rintro S pins x0 σ H Q I ⟨slot, q⟩ s hs
  refine wpAny_Call_Name_kw (wpAny_mono (wpAny_up hs ((pe_var (pos := npos) hN hv d1 d2).run pins x0 σ H (fun v G => v = .ref C ∧ G = H) I ⟨_, slot, rfl, rfl⟩)) ?_ fun _ _ e => e)
  rintro v s1 ⟨y, hy, _, G, I1, rv, rfl, eG⟩
  rw [eG] at I1
  cases rv
  refine PySem.W.callWith_K (h₀ := X.base) I.ok.mod.kin M.kp (wpAny_mono (ha.run pos S pins y σ H _ I1 q s1 hy) (fun us s2 ⟨y2, h2, vs, H1, I2, r2, q2⟩ => ⟨by rw [h2.heap]; exact I2.kIn, ?_⟩) fun _ _ e => e) he hpl
  exact run_makeS M F hr hb hd hx I2 r2 q2 s2 h2
end
end Sf
end
section
set_option Elab.async false
set_option linter.all false
set_option maxRecDepth 100000
/-! class Code: the identity. -/
namespace Lw
open PySem L2 PyProof.Rows
abbrev sCId : Stmt := inClass (top 31) 3
section
variable {K : PySem.W.Frag} {C CG : Addr}
/-- what is asked where a code is made, and what is there then -/
theorem mk_code {H1 : Hp} {g1 g2 il : Addr} {n m : Nat} {us ws : Es} {L : Nat} {im : List Nat → Nat} {Q : VK} {E : XK} (G1 : GrN CG H1 g1 n us) (G2 : GrN CG H1 g2 m ws) (F1 : Full us n) (F2 : Full ws m) (D : CodeD us ws L im) (hI : H1 il = some (.lst (nW ((win us L).map im))))
    (q : ∀ c H', Same H1 H' → H1 c = none → CodeAt C CG H' c g1 g2 n m us ws L im → Q (.ref c) H') : ∀ c dx, H1 c = none → H1 dx = none → dx ≠ c → spCInit C CG [.ref c, .ref g1, .ref g2, .int (L : Int), .ref il] (upd (upd H1 dx (.own c)) c (.ins C dx [])) (fun v H2 => v = .non ∧ Q (.ref c) H2) E := by
  intro c dx hc hdx ne
  have hc2 : upd H1 dx (.own c) c = none := by rw [upd_ne (Ne.symm ne)]; exact hc
  have s := (same_upd (o := .own c) hdx).trans (same_upd (o := .ins C dx []) hc2)
  exact ⟨c, dx, g1, g2, il, n, m, us, ws, L, im, rfl, upd_same, G1.same s, G2.same s, F1, F2, D, s _ _ hI, fun H' k CA => ⟨rfl, q c H' (fun x o e => k x o (ne_of_none e hc) (s _ _ e)) hc CA⟩⟩
end
theorem win_one (us : Es) : win us 1 = (List.range us.length).map fun e => [e] := rfl
theorem im_head (us : Es) : (win us 1).map (fun p => p.headD 0) = List.range us.length := by
  rw [win_one, List.map_map]
  exact List.map_id _
theorem codeD_id {us : Es} (m24 : us.length ≤ 24) : CodeD us us 1 fun p => p.headD 0 := by
  refine ⟨Nat.le_refl _, by decide, ?_, fun p hp => ?_, fun p hp e he => ?_⟩
  · rw [win_one, List.length_map, List.length_range]
    omega
  · rw [win_one] at hp
    obtain ⟨x, hx, rfl⟩ := List.mem_map.mp hp
    exact List.mem_range.mp hx
  · rw [win_one] at hp
    obtain ⟨x, hx, rfl⟩ := List.mem_map.mp hp
    exact (mem_lvF.mp he).2
def spCId (C CG : Addr) : Sp := fun vs H Q _ => ∃ (g : Addr) (n : Nat) (us : Es), vs = [.ref C, .ref g] ∧ GrN CG H g n us ∧ Full us n ∧ ∀ c H', Same H H' → H c = none → CodeAt C CG H' c g g n n us us 1 (fun p => p.headD 0) → Q (.ref c) H'
section
variable {P : Program} {w : World} {K : PySem.W.Frag} {mg : Str → Option Value} {base : Heap} {f C CG : Addr} {mc : Value} {fd : FuncData} {k : Nat}
theorem scCId : FnScope ["cls", "graph"] ["cls", "graph"] (defScope sCId) := ⟨rfl, rfl, rfl, by decide +kernel, rfl, by decide +kernel, by decide +kernel⟩
set_option maxHeartbeats 4000000 in
theorem ok_cid (F : Fun K "identity" "Code.identity" sCId f fd) (T : Bi mg) {fI : Addr} {fdI : FuncData} {psI : List Str} (M : Mk K C fI) (FI : Sf.FnS P w K mg base CX0 10 fI fdI psI (spCInit C CG)) (bI : Binds K fdI psI [])
    {fL : Addr} {fdL : FuncData} (FL : FnOk P w K mg base CX0 1 fL fdL ["self"] (spLen CG)) (aL : PySem.W.findIn K (.ref CG) "__len__" = some (some (.ref fL))) (iL : PySem.W.isFn K (.ref fL) = true) (bL : Binds K fdL ["self"] []) :
    Sf.FnS P w K mg base CX0 (k + 12) f fd ["cls", "graph"] (spCId C CG) := by
  refine Fun.okS F scCId (fun vs H Q E h => ?_) (fun cdv A outer s H vs Q E hr h => ?_)
  · obtain ⟨g, n, us, rfl, _⟩ := h
    rfl
  · obtain ⟨g, n, us, rfl, G, F1, q⟩ := h
    refine ⟨_, Sf.qss_one (Sf.qs_ret (Sf.qe_makeL (i := 0) M FI (hr.mono (by omega)) rfl (.inl rfl) bI .nil pass0 (Sf.PA.up (pa_cons (pv 1) (pa_cons (pv 1) (pa_cons pe_int (pa_cons (pe_listRg rfl (by rfl) T.list (prg_1 (by rfl) T.range (pe_callB (call_lenO (E := E0) FL aL iL bL pass0 (hr.mono (by omega))) (by rfl) T.len PySem.boot_len (pa_cons (pv 1) pa_nil)))) pa_nil))))))), ?_⟩
    obtain ⟨⟨dx, t, h1, h2⟩, ed⟩ := id G.gr
    have m24 := G.m24
    refine ⟨rfl, _, rfl, _, rfl, _, rfl, g, dx, _, rfl, h1, g, (n : Int), us, rfl, G.gr, _, rfl, ⟨by omega, by omega⟩, _, rfl, RgOk.of_le (by omega) (by omega) (by omega) (by omega), fun il hil => ?_⟩
    have s1 := same_upd (o := .lst (rgV 0 (us.length : Int))) hil
    have e1 : upd H il (.lst (rgV 0 (us.length : Int))) il = some (.lst (nW ((win us 1).map fun p => p.headD 0))) := by rw [upd_same, rgV_nW, im_head]
    generalize upd H il (.lst (rgV 0 (us.length : Int))) = H1 at *
    exact mk_code (L := 1) (G.same s1) (G.same s1) F1 F1 (codeD_id m24) e1 fun c H' s2 nc CA => q c H' (s1.trans s2) (s1.free nc) CA
end
end Lw
end
section
set_option Elab.async false
set_option linter.all false
set_option maxRecDepth 100000
/-! the law's own counts -/
namespace Lw
open PySem L2
abbrev sLPC : Stmt := top 45
def vecL (n : Nat) (x : Nat → Nat) : List V := (List.range n).map fun i => V.int ((x i : Nat) : Int)
theorem vecL_len (n : Nat) (x : Nat → Nat) : (vecL n x).length = n := by
  unfold vecL
  simp
theorem vecL_at {n : Nat} (x : Nat → Nat) {i : Nat} (h : i < n) : (vecL n x)[i]? = some (V.int ((x i : Nat) : Int)) := by
  unfold vecL
  rw [List.getElem?_map, List.getElem?_range h]
  rfl
theorem vecL_congr {n : Nat} {x y : Nat → Nat} (h : ∀ i, i < n → x i = y i) : vecL n x = vecL n y := by
  unfold vecL
  refine List.map_congr_left fun i hi => ?_
  rw [h i (List.mem_range.mp hi)]
theorem vecL_set {n : Nat} {x y : Nat → Nat} {s c : Nat} (hs : s < n) (h : ∀ i, i < n → y i = x i + (if i = s then c else 0)) : (vecL n x).set s (V.int (((x s : Nat) : Int) + ((c : Nat) : Int))) = vecL n y := by
  apply List.ext_getElem?
  intro i
  by_cases hi : i < n
  · rw [vecL_at y hi, h i hi]
    by_cases e : s = i
    · subst e
      rw [List.getElem?_set_self (by rw [vecL_len]; exact hs), if_pos rfl]
      congr 2
    · rw [List.getElem?_set_ne e, vecL_at x hi, if_neg (Ne.symm e), Nat.add_zero]
  · rw [List.getElem?_eq_none (by rw [List.length_set, vecL_len]; omega), List.getElem?_eq_none (by rw [vecL_len]; omega)]
theorem vecL_rep (n c : Nat) : (List.replicate n [V.int ((c : Nat) : Int)]).flatten = vecL n (fun _ => c) := by
  rw [List.flatten_replicate_singleton]
  unfold vecL
  rw [List.map_const', List.length_range]
theorem vecL_ints (n : Nat) (x : Nat → Nat) : vecL n x = ((List.range n).map fun i => ((x i : Nat) : Int)).map V.int := by
  unfold vecL
  rw [List.map_map]
  rfl
def spLPC : Sp := fun vs H Q _ => ∃ (p q : Addr) (n : Int) (ts : Es) (e : Nat), vs = [.ref p, .int (e : Int)] ∧ PlanAt H p q n ts ∧ n ≤ 8 ∧ e ≤ 2000 ∧ ∀ H', Same H H' → Q (.int ((sm n.toNat (fun i => sm n.toNat (fun j => pwE n ts e i j)) : Nat) : Int)) H'
theorem psOf_take {ts : Es} {m : Nat} {e : Addr × Int × Int} {s t : Nat} (h : ts[m]? = some e) (hs : e.2.1 = (s : Int)) (ht : e.2.2 = (t : Int)) : (psOf ts).take (m + 1) = (psOf ts).take m ++ [((s : Int), (t : Int))] := by
  rw [List.take_add_one, psOf_at h]
  show _ ++ [e.2] = _
  rw [← hs, ← ht]
theorem vsOf_at' {ts : Es} {i : Nat} {v : V} (h : (vsOf ts)[i]? = some v) : ∃ e, ts[i]? = some e ∧ v = .ref e.1 := by
  unfold vsOf at h
  rw [List.getElem?_map] at h
  obtain ⟨e, he, z⟩ := Option.map_eq_some_iff.mp h
  exact ⟨e, he, z.symm⟩
section
variable {P : Program} {w : World} {K : PySem.W.Frag} {mg : Str → Option Value} {base : Heap} {f : Addr} {fd : FuncData} {k : Nat}
theorem scLPC : FnScope ["_law_plan_here", "_law_size", "_law_here", "_law_turn", "_law_later", "_law_source", "_law_target"] ["_law_plan_here", "_law_size"] (defScope sLPC) := ⟨rfl, rfl, rfl, by decide +kernel, rfl, by decide +kernel, by decide +kernel⟩
set_option maxHeartbeats 8000000 in
theorem ok_lpc (F : Fun K "_law_path_count" "_law_path_count" sLPC f fd) (T : Bi mg) (tS : mg "sum" = none) : FnOk P w K mg base CX0 (k + 1) f fd ["_law_plan_here", "_law_size"] spLPC := by
  refine F.ok scLPC (fun vs H Q E h => ?_) (fun cdv A outer s H vs Q E hr h => ?_)
  · obtain ⟨p, q, n, ts, e, rfl, _⟩ := h
    rfl
  · obtain ⟨p, q0, n, ts, e, rfl, PA, n8, e2, q⟩ := h
    have n1 := PA.n1
    refine ⟨_, pss_cons (ps_set (i := 2) scLPC.nd rfl (.inl rfl) (pe_op op_rep (pe_lst (pa_cons pe_int pa_nil)) (pe_ix ix_tup (pv 0) pe_int (fun _ _ => rfl))))
      (pss_cons (ps_for PassesOwn.never rfl (pi_range1 (by rfl) T.range (pa_cons (pv 1) pa_nil)) (pg_name (i := 3) scLPC.nd rfl (.inl rfl))
        (pss_cons (ps_set (i := 4) scLPC.nd rfl (.inl rfl) (pe_op op_rep (pe_lst (pa_cons pe_int pa_nil)) (pe_ix ix_tup (pv 0) pe_int (fun _ _ => rfl))))
        (pss_cons (ps_for PassesOwn.never rfl (pi_seqA (pe_ix ix_tup (pv 0) pe_int (fun _ _ => rfl))) (pg_tup rfl (pgs_cons (pg_name (i := 5) scLPC.nd rfl (.inl rfl)) (pgs_cons (pg_name (i := 6) scLPC.nd rfl (.inl rfl)) pgs_nil)))
          (pss_one (ps_asg (pe_op op_add (pe_ix ix_list (pv 4) (pv 5) (fun _ _ => rfl)) (pe_ix ix_list (pv 2) (pv 6) (fun _ _ => rfl))) (pg_sub (pv 4) (pv 5) set_list))))
        (pss_one (ps_set (i := 2) scLPC.nd rfl (.inl rfl) (pv 4))))))
      (pss_one (ps_ret (pe_callB (cr_sum rfl) (by rfl) tS (by decide +kernel) (pa_cons (pv 2) pa_nil))))), ?_⟩
    refine ⟨(by show 1 ≤ sizeLine; decide), fun l0 hl0 => ?_⟩
    have s0 := same_upd (o := .lst [.int 1]) hl0
    refine ⟨_, rfl, p, _, _, _, rfl, rfl, SqT.of (s0 _ _ PA.tp), rfl, l0, n, _, rfl, rfl, upd_same, by omega, by omega, ?_, fun h0 hh0 => ?_⟩
    · show 1 * n.toNat ≤ sizeLine
      exact Nat.le_of_lt (small1000 (by omega))
    have s1 := s0.trans (same_upd (o := .lst (List.replicate n.toNat [V.int 1]).flatten) hh0)
    have e1 : upd (upd H l0 (.lst [.int 1])) h0 (.lst (List.replicate n.toNat [V.int 1]).flatten) h0 = some (.lst (vecL n.toNat fun i => sm n.toNat (fun j => pwE n ts 0 i j))) := by
      rw [upd_same]
      congr 2
      refine (vecL_rep n.toNat 1).trans (vecL_congr fun i hi => ?_)
      have := sm_one (n := n.toNat) (b := i) (fun _ => 1) hi
      refine this.symm.trans (sm_congr fun j _ => ?_)
      show (if j = i then 1 else 0) * 1 = (if i = j then 1 else 0)
      by_cases z : j = i
      · rw [if_pos z, if_pos z.symm]
      · rw [if_neg z, if_neg (Ne.symm z)]
    generalize upd (upd H l0 (.lst [.int 1])) h0 (.lst (List.replicate n.toNat [V.int 1]).flatten) = H1 at *
    refine ⟨_, rfl, (e : Int), rfl, by omega, by omega, ?_⟩
    refine for_it (walk_range (lo := 0) (n := ((e : Int)).toNat)) (fun i σ H' => ∃ (v3 v4 v5 v6 : Option V) (Hh : Addr), σ = [some (.ref p), some (.int (e : Int)), some (.ref Hh), v3, v4, v5, v6] ∧ Same H H' ∧ H' Hh = some (.lst (vecL n.toNat fun a => sm n.toNat (fun j => pwE n ts i a j))))
      ⟨none, none, none, none, h0, rfl, s1, e1⟩ (fun _ _ _ _ _ => True.intro) ?_ ?_
    · rintro i x σ H2 H3 hi ⟨v3, v4, v5, v6, Hh, rfl, s2, eh⟩ ⟨rfl, rfl⟩
      refine ⟨(by show 1 ≤ sizeLine; decide), fun l1 hl1 => ?_⟩
      have s3 := same_upd (o := .lst [.int 0]) hl1
      refine ⟨_, rfl, p, _, _, _, rfl, rfl, SqT.of (s3 _ _ (s2 _ _ PA.tp)), rfl, l1, n, _, rfl, rfl, upd_same, by omega, by omega, ?_, fun L hL => ?_⟩
      · show 1 * n.toNat ≤ sizeLine
        exact Nat.le_of_lt (small1000 (by omega))
      have s4 := s3.trans (same_upd (o := .lst (List.replicate n.toNat [V.int 0]).flatten) hL)
      have nL : H3 L = none := s3.free hL
      have e4 : upd (upd H3 l1 (.lst [.int 0])) L (.lst (List.replicate n.toNat [V.int 0]).flatten) L = some (.lst (vecL n.toNat fun a => sm n.toNat (fun j => cntN ((psOf ts).take 0) a j * sm n.toNat (fun b => pwE n ts i j b)))) := by
        rw [upd_same]
        congr 2
        exact (vecL_rep n.toNat 0).trans (vecL_congr fun a _ => (sm_none _ a).symm)
      generalize upd (upd H3 l1 (.lst [.int 0])) L (.lst (List.replicate n.toNat [V.int 0]).flatten) = H4 at *
      refine ⟨_, rfl, p, _, _, _, rfl, rfl, SqT.of (s4 _ _ (s2 _ _ PA.tp)), rfl, q0, vsOf ts, SqL, rfl, .inl rfl, SqL.of (s4 _ _ (s2 _ _ PA.ls)), fun J w => ?_⟩
      refine for_it w (fun m σ H' => ∃ v5 v6 : Option V, σ = [some (.ref p), some (.int (e : Int)), some (.ref Hh), some (.int (0 + (i : Int))), some (.ref L), v5, v6] ∧ Same H3 H' ∧ H' L = some (.lst (vecL n.toNat fun a => sm n.toNat (fun j => cntN ((psOf ts).take m) a j * sm n.toNat (fun b => pwE n ts i j b))))) ⟨_, _, rfl, s4, e4⟩ (fun m σ H' _ p => by obtain ⟨_, _, _, s, _⟩ := p; exact SqL.of (s _ _ (s2 _ _ PA.ls))) ?_ ?_
      · rintro m x σ H5 H6 hm ⟨v5, v6, rfl, s5, eL⟩ ⟨rfl, gx⟩
        obtain ⟨ed, he, rfl⟩ := vsOf_at' gx
        have mem := List.mem_of_getElem? he
        obtain ⟨r1, r2, r3, r4⟩ := PA.va.rg ed mem
        have ea : ed.2.1 = ((ed.2.1.toNat : Nat) : Int) := (Int.toNat_of_nonneg r1).symm
        have eb : ed.2.2 = ((ed.2.2.toNat : Nat) : Int) := (Int.toNat_of_nonneg r3).symm
        have ha : ed.2.1.toNat < n.toNat := by omega
        have hb : ed.2.2.toNat < n.toNat := by omega
        refine ⟨ed.1, _, rfl, SqT.of (s5 _ _ (s2 _ _ (PA.ed ed mem))), rfl, _, _, rfl, _, _, rfl, rfl, ?_⟩
        have eh5 := s5 _ _ eh
        refine ⟨_, rfl, _, rfl, L, _, _, V.int ((sm n.toNat (fun j => cntN ((psOf ts).take m) ed.2.1.toNat j * sm n.toNat (fun b => pwE n ts i j b)) : Nat) : Int), rfl, rfl, SqL.of eL, ?_, _, rfl, _, rfl, Hh, _, _, V.int ((sm n.toNat (fun b => pwE n ts i ed.2.2.toNat b) : Nat) : Int), rfl, rfl, SqL.of eh5, ?_, _, _, rfl, rfl, _, rfl, _, rfl, L, _, _, ed.2.1.toNat, rfl, rfl, eL, ?_, ?_⟩
        · rw [ea]
          exact atI_nat (vecL_at _ ha)
        · rw [eb]
          exact atI_nat (vecL_at _ hb)
        · rw [vecL_len]
          exact ixN_of r1 ha
        refine ⟨_, _, rfl, ?_, ?_⟩
        · intro c o ec
          rw [upd_ne (ne_of_none ec nL)]
          exact s5 _ _ ec
        · rw [upd_same]
          congr 2
          refine vecL_set ha fun a _ => ?_
          rw [psOf_take he ea eb, out_snoc _ _ hb]
      · rintro σ H5 ⟨v5, v6, rfl, s5, eL⟩
        have lv : (vsOf ts).length = (psOf ts).length := by
          unfold vsOf psOf
          rw [List.length_map, List.length_map]
        rw [lv, List.take_length] at eL
        refine ⟨_, rfl, _, _, _, _, L, rfl, s2.trans s5, ?_⟩
        rw [eL]
        congr 2
        exact vecL_congr fun a ha => vec_step _ i ha
    · rintro σ H2 ⟨v3, v4, v5, v6, Hh, rfl, s2, eh⟩
      rw [Int.toNat_natCast, vecL_ints] at eh
      refine ⟨_, rfl, Hh, _, rfl, SqL.of eh, ?_⟩
      rw [sm_int]
      exact q H2 s2
/-- .. as the number of windows -/
def spPC : Sp := fun vs H Q _ => ∃ (p q : Addr) (n : Nat) (ts : Es) (L : Nat), vs = [.ref p, .int (L : Int)] ∧ PlanAt H p q (n : Int) ts ∧ n ≤ 8 ∧ 1 ≤ L ∧ L ≤ 40 ∧ ∀ H', Same H H' → Q (.int (((win ts L).length : Nat) : Int)) H'
theorem lpc_pc {P : Program} {w : World} {K : PySem.W.Frag} {mg : Str → Option Value} {base : Heap} {k : Nat} {f : Addr} {fd : FuncData} {ps : List Str} (F : FnOk P w K mg base CX0 k f fd ps spLPC) : FnOk P w K mg base CX0 k f fd ps spPC := by
  have h : ∀ vs H Q E, spPC vs H Q E → spLPC vs H Q E := by
    rintro vs H Q E ⟨p, q, n, ts, L, rfl, PA, n8, l1, l40, go⟩
    refine ⟨p, q, n, ts, L, rfl, PA, by omega, by omega, fun H' s => ?_⟩
    rw [Int.toNat_natCast, ← win_cnt PA.rgN l1]
    exact go H' s
  exact ⟨fun vs H Q E z => F.len vs H Q E (h vs H Q E z), fun A outer s H args us vs Q E hr e0 hb rv z => F.run A outer s H args us vs Q E hr e0 hb rv (h _ _ _ _ z)⟩
end
end Lw
end
section
set_option autoImplicit false
set_option Elab.async false
set_option linter.all false
set_option maxRecDepth 100000
/-! a code's parts drawn by the law; a code made of them; the parts of a code. -/
namespace Lw
open PySem L2 PyProof.Rows
abbrev sLRule : Stmt := top 46
abbrev sLCode : Stmt := top 48
abbrev sLROf : Stmt := top 49
abbrev NLR : List Str := ["_law_bag_here", "_law_most", "_law_source", "_law_wide"]
abbrev NLC : List Str := ["_law_rule_here"]
abbrev NLRO : List Str := ["_law_code_here"]
def spLRule : Sp := fun vs H Q _ => ∃ (b l : Addr) (ns : List Int) (most : Nat), vs = [.ref b, .int (most : Int)] ∧ BagAt H b l ns ∧ 6 ≤ most ∧ most ≤ 60 ∧
  ∀ (r sp sq tp tq il : Addr) (n m : Nat) (ts eds : Es) (L : Nat) (im : List Nat → Nat) (H' : Hp), KeepB b H H' → BagAt H' b l ns → H r = none → H tq = none → H il = none → RuleAt H' r sp sq tp tq il n m ts eds L im → (win ts L).length ≤ most → Q (.ref r) H'
section
variable {P : Program} {w : World} {K : PySem.W.Frag} {mg : Str → Option Value} {base : Heap} {f C CG : Addr} {fd : FuncData} {k : Nat}
theorem scLRule : FnScope NLR ["_law_bag_here", "_law_most"] (defScope sLRule) := ⟨rfl, rfl, rfl, by decide +kernel, rfl, by decide +kernel, by decide +kernel⟩
set_option maxHeartbeats 8000000 in
theorem ok_lrule (F : Fun K "_law_rule" "_law_rule" sLRule f fd) (T : Bi mg) (cU : C8.Cal P w K mg base 1 "_law_pull" spPull []) (cPl : C8.Cal P w K mg base 2 "_law_plan" spPlan []) (cC : C8.Cal P w K mg base 1 "_law_path_count" spPC []) (cF : C8.Cal P w K mg base 3 "_law_rule_from" spRF []) :
    FnOk P w K mg base CX0 (k + 4) f fd ["_law_bag_here", "_law_most"] spLRule := by
  refine F.ok scLRule (fun vs H Q E h => ?_) (fun cdv A outer s H vs Q E hr h => ?_)
  · obtain ⟨b, l, ns, most, rfl, _⟩ := h
    rfl
  · obtain ⟨b, l, ns, most, rfl, B, m6, m60, q⟩ := h
    refine ⟨_, pss_cons (ps_par (i := 2) (j := 3) (by rfl) scLRule.nd rfl rfl (by decide) rfl rfl (pa_cons (C8.pe_c cPl hr (by omega) (by rfl) (pa_cons (pv 0) (pa_cons pe_int (pa_cons pe_int pa_nil)))) (pa_cons (pe_op op_add pe_int (C8.pe_c cU hr (by omega) (by rfl) (pa_cons (pv 0) (pa_cons pe_int pa_nil)))) pa_nil)) (by rfl))
      (pss_cons (ps_while PassesOwn.never (PW.pt (pw_and (pt_cmpR op_gt (C8.pe_c cC hr (by omega) (by rfl) (pa_cons (pv 2) (pa_cons (pv 3) pa_nil))) (pv 1) (nomark _)) (pw_and1 (pt_cmpR op_gt (pv 3) pe_int (nomark _)))))
        (pss_one (ps_set (i := 3) scLRule.nd rfl (.inl rfl) (pe_op op_sub (pv 3) pe_int))))
      (pss_one (ps_ret (C8.pe_c cF hr (by omega) (by rfl) (pa_cons (pv 0) (pa_cons (pv 2) (pa_cons (pv 3) pa_nil))))))), ?_⟩
    refine ⟨_, rfl, b, l, ns, 3, 6, rfl, B, by omega, by omega, by omega, fun p q0 n ts H1 k1 B1 np nq PA n3 t6 => ?_⟩
    refine ⟨_, rfl, b, l, ns, 3, rfl, B1, by omega, by omega, fun v o v0 v1 BO => ?_⟩
    refine ⟨_, _, rfl, rfl, ?_⟩
    obtain ⟨N, rfl⟩ : ∃ N : Nat, n = (N : Int) := ⟨n.toNat, by have := PA.n1; omega⟩
    obtain ⟨L0, hL0⟩ : ∃ L0 : Nat, 1 + v = (L0 : Int) := ⟨(1 + v).toNat, by omega⟩
    have k2 : KeepB b H (upd H1 b o) := k1.trans .updb
    have B2 := B1.upd BO
    have PA2 := PA.keepB B1 (.updb : KeepB b H1 (upd H1 b o))
    generalize upd H1 b o = H2 at *
    have w1 : (win ts 1).length = ts.length := by rw [win_one, List.length_map, List.length_range]
    refine ⟨_, _, rfl, ?_⟩
    refine ⟨fun m σ H' => ∃ L : Nat, m = L ∧ σ = [some (.ref b), some (.int (most : Int)), some (.ref p), some (.int (L : Int))] ∧ Same H2 H' ∧ 1 ≤ L ∧ L ≤ 3, ⟨L0, L0, rfl, by rw [← hL0]; rfl, fun _ _ z => z, by omega, by omega⟩, ?_⟩
    rintro m σ H' ⟨L, rfl, rfl, s2, l1, l3⟩
    have done : (win ts m).length ≤ most → ∀ H4, Same H' H4 → tRet (tCall spRF [] C8.E0 (tCons (tVar 0) (tCons (tVar 2) (tCons (tVar 3) tNil)))) { nx := fun _ H' => Q .non H', rt := Q } [some (.ref b), some (.int (most : Int)), some (.ref p), some (.int (m : Int))] H4 := fun hw H4 s4 => by
      have s24 := s2.trans s4
      have k4 : KeepB b H H4 := k2.trans (.of_same s24)
      refine ⟨_, rfl, _, rfl, _, rfl, b, l, ns, p, q0, N, ts, m, rfl, B2.same s24, PA2.same s24, by omega, by omega, l1, by omega, by omega, fun r tp tq il mm eds im H5 k5 B5 nr ntq nil_ RA => ?_⟩
      have fr : ∀ {x : Addr}, H4 x = none → H x = none := fun {x} z => k4.free (B2.same s24).ob.choose_spec.1 z
      exact q r p q0 tp tq il N mm ts eds m im H5 (k4.trans k5) B5 (fr nr) (fr ntq) (fr nil_) RA hw
    refine ⟨_, rfl, _, rfl, p, q0, N, ts, m, rfl, PA2.same s2, by omega, l1, by omega, fun H4 s4 => ?_⟩
    refine ⟨_, rfl, _, _, rfl, rfl, _, rfl, ?_⟩
    by_cases hc : most < (win ts m).length
    · refine if_t (decide_eq_true (by omega)) ?_
      refine ⟨_, rfl, _, _, rfl, rfl, _, rfl, ?_⟩
      by_cases h1 : 1 < m
      · have e : decide ((1 : Int) < (m : Int)) = true := decide_eq_true (by omega)
        refine if_t e ⟨fun σ' H'' => σ' = [some (.ref b), some (.int (most : Int)), some (.ref p), some (.int ((m - 1 : Nat) : Int))] ∧ Same H2 H'', ?_, ?_⟩
        · rintro σ' H'' ⟨rfl, s⟩
          exact ⟨m - 1, by omega, m - 1, rfl, rfl, s, by omega, by omega⟩
        · refine ⟨_, rfl, _, _, rfl, rfl, ?_, s2.trans s4⟩
          rw [show ((m - 1 : Nat) : Int) = (m : Int) - 1 by omega]
          rfl
      · have e : decide ((1 : Int) < (m : Int)) = false := decide_eq_false (by omega)
        refine if_f e ?_
        exact done (by rw [show m = 1 by omega, w1]; omega) H4 s4
    · refine if_f (decide_eq_false (by omega)) ?_
      refine if_f rfl ?_
      exact done (by omega) H4 s4
/-! ### a code of the parts -/
def spLCode (C CG : Addr) : Sp := fun vs H Q _ => ∃ (r sp sq tp tq il : Addr) (n m : Nat) (ts eds : Es) (L : Nat) (im : List Nat → Nat), vs = [.ref r] ∧ RuleAt H r sp sq tp tq il n m ts eds L im ∧
  ∀ (c g1 g2 : Addr) (us ws : Es) (H' : Hp), Same H H' → H c = none → psOf us = psOf ts → psOf ws = psOf eds → CodeAt C CG H' c g1 g2 n m us ws L im → Q (.ref c) H'
theorem RuleAt.same {H H' : Hp} {r sp sq tp tq il : Addr} {n m : Nat} {ts eds : Es} {L : Nat} {im : List Nat → Nat} (h : RuleAt H r sp sq tp tq il n m ts eds L im) (s : Same H H') : RuleAt H' r sp sq tp tq il n m ts eds L im :=
  ⟨s _ _ h.ob, h.s.same s, h.t.same s, s _ _ h.il, h.d, h.n8, h.m8, h.s24, h.t24⟩
theorem ps_rg {us ts : Es} {n : Int} (h : psOf us = psOf ts) (rg : ∀ e ∈ ts, 0 ≤ e.2.1 ∧ e.2.1 < n ∧ 0 ≤ e.2.2 ∧ e.2.2 < n) : ∀ e ∈ us, 0 ≤ e.2.1 ∧ e.2.1 < n ∧ 0 ≤ e.2.2 ∧ e.2.2 < n := fun e he => by
  have : e.2 ∈ psOf us := List.mem_map.mpr ⟨e, he, rfl⟩
  rw [h] at this
  obtain ⟨d, hd, ee⟩ := List.mem_map.mp this
  have ee : d.2 = e.2 := ee
  have := rg d hd
  rw [ee] at this
  exact this
theorem gr_of {H : Hp} {g p q : Addr} {n : Nat} {us ts : Es} {H' : Hp} (G : GraphAt CG H g (n : Int) us) (h : psOf us = psOf ts) (PA : PlanAt H' p q (n : Int) ts) (n8 : n ≤ 8) (m24 : ts.length ≤ 24) : GrN CG H g n us :=
  ⟨G, by have := PA.n1; omega, n8, by rw [ps_len h]; exact m24, ps_rg h PA.va.rg⟩
/-- the code at hand, of what was drawn -/
theorem mk_of {H H1 : Hp} {r sp sq tp tq il i2 g1 g2 : Addr} {n m : Nat} {ts eds us ws : Es} {L : Nat} {im : List Nat → Nat} {Q : VK} {E : XK} (RA : RuleAt H r sp sq tp tq il n m ts eds L im) (h1 : psOf us = psOf ts) (h2 : psOf ws = psOf eds) (G1 : GraphAt CG H1 g1 (n : Int) us) (G2 : GraphAt CG H1 g2 (m : Int) ws) (hI : H1 i2 = some (.lst (nW ((win ts L).map im))))
    (q : ∀ c H', Same H1 H' → H1 c = none → CodeAt C CG H' c g1 g2 n m us ws L im → Q (.ref c) H') : ∀ c dx, H1 c = none → H1 dx = none → dx ≠ c → spCInit C CG [.ref c, .ref g1, .ref g2, .int (L : Int), .ref i2] (upd (upd H1 dx (.own c)) c (.ins C dx [])) (fun v H2 => v = .non ∧ Q (.ref c) H2) E :=
  mk_code (gr_of G1 h1 RA.s RA.n8 RA.s24) (gr_of G2 h2 RA.t RA.m8 RA.t24) (ps_full h1.symm RA.s.full) (ps_full h2.symm RA.t.full) (RA.d.ps h1.symm h2.symm) (by rw [ps_win h1]; exact hI) q
theorem scLCode : FnScope NLC ["_law_rule_here"] (defScope sLCode) := ⟨rfl, rfl, rfl, by decide +kernel, rfl, by decide +kernel, by decide +kernel⟩
set_option maxHeartbeats 4000000 in
theorem ok_lcode (F : Fun K "_law_code" "_law_code" sLCode f fd) (T : Bi mg) (cG : C8.Cal P w K mg base 4 "_law_graph" (spGraph CG) []) (mC : Sf.Mak P w K mg base 10 "Code" C (spCInit C CG) []) :
    Sf.FnS P w K mg base CX0 (k + 12) f fd ["_law_rule_here"] (spLCode C CG) := by
  refine Fun.okS F scLCode (fun vs H Q E h => ?_) (fun cdv A outer s H vs Q E hr h => ?_)
  · obtain ⟨r, sp, sq, tp, tq, il, n, m, ts, eds, L, im, rfl, _⟩ := h
    rfl
  · obtain ⟨r, sp, sq, tp, tq, il, n, m, ts, eds, L, im, rfl, RA, q⟩ := h
    refine ⟨_, Sf.qss_one (Sf.qs_ret (Sf.qe_mk mC hr (by omega) (by rfl) (Sf.PA.up (pa_cons (C8.pe_c cG hr (by omega) (by rfl) (pa_cons (pe_ix ix_tup (pv 0) pe_int (fun _ _ => rfl)) pa_nil)) (pa_cons (C8.pe_c cG hr (by omega) (by rfl) (pa_cons (pe_ix ix_tup (pv 0) pe_int (fun _ _ => rfl)) pa_nil))
      (pa_cons (pe_ix ix_tup (pv 0) pe_int (fun _ _ => rfl)) (pa_cons (pe_callTy call_list_of (by rfl) T.list (by decide +kernel) (pa_cons (pe_ix ix_tup (pv 0) pe_int (fun _ _ => rfl)) pa_nil)) pa_nil))))))), ?_⟩
    refine ⟨_, rfl, r, _, _, _, rfl, rfl, SqT.of RA.ob, rfl, sp, sq, n, ts, rfl, RA.s, by have := RA.n8; omega, RA.s24, fun g1 us H1 h1 s1 ng1 G1 => ?_⟩
    have R1 := RA.same s1
    refine ⟨_, rfl, r, _, _, _, rfl, rfl, SqT.of R1.ob, rfl, tp, tq, m, eds, rfl, R1.t, by have := RA.m8; omega, RA.t24, fun g2 ws H2 h2 s2 ng2 G2 => ?_⟩
    have R2 := R1.same s2
    refine ⟨_, rfl, r, _, _, _, rfl, rfl, SqT.of R2.ob, rfl, ?_⟩
    refine ⟨_, rfl, r, _, _, _, rfl, rfl, SqT.of R2.ob, rfl, il, _, rfl, .inl (SqL.of R2.il), fun i2 hi2 => ?_⟩
    have s3 := same_upd (o := .lst (nW ((win ts L).map im))) hi2
    have s123 := (s1.trans s2).trans s3
    exact mk_of (E := E0) RA h1 h2 ((G1.same s2).same s3) (G2.same s3) upd_same fun c H' s4 nc CA => q c g1 g2 us ws H' (s123.trans s4) (s123.free nc) h1 h2 CA
/-! ### the parts of a code -/
def spLROf (C CG : Addr) : Sp := fun vs H Q _ => ∃ (c g1 g2 : Addr) (n m : Nat) (us ws : Es) (L : Nat) (im : List Nat → Nat), vs = [.ref c] ∧ CodeAt C CG H c g1 g2 n m us ws L im ∧
  ∀ (r sp sq tp tq il : Addr) (H' : Hp), Same H H' → H r = none → RuleAt H' r sp sq tp tq il n m us ws L im → Q (.ref r) H'
theorem scLROf : FnScope NLRO ["_law_code_here"] (defScope sLROf) := ⟨rfl, rfl, rfl, by decide +kernel, rfl, by decide +kernel, by decide +kernel⟩
set_option maxHeartbeats 4000000 in
theorem ok_lrof (F : Fun K "_law_rule_of" "_law_rule_of" sLROf f fd) (cPO : C8.Cal P w K mg base 3 "_law_plan_of" (spPlanOf CG) []) (pS : Prp P w K mg base 1 C "source" (spCSrc C CG)) (pT : Prp P w K mg base 1 C "target" (spCTgt C CG)) (pW : Prp P w K mg base 1 C "width" (spCWid C CG)) (mI : C8.Met P w K mg base 1 C "images" (spCImg C CG) []) :
    FnOk P w K mg base CX0 (k + 4) f fd ["_law_code_here"] (spLROf C CG) := by
  refine F.ok scLROf (fun vs H Q E h => ?_) (fun cdv A outer s H vs Q E hr h => ?_)
  · obtain ⟨c, g1, g2, n, m, us, ws, L, im, rfl, _⟩ := h
    rfl
  · obtain ⟨c, g1, g2, n, m, us, ws, L, im, rfl, CA, q⟩ := h
    refine ⟨_, pss_one (ps_ret (pe_tup (pa_cons (C8.pe_c cPO hr (by omega) (by rfl) (pa_cons (pe_pr pS hr (by omega) (pv 0)) pa_nil)) (pa_cons (C8.pe_c cPO hr (by omega) (by rfl) (pa_cons (pe_pr pT hr (by omega) (pv 0)) pa_nil)) (pa_cons (pe_pr pW hr (by omega) (pv 0)) (pa_cons (C8.pe_mt0 mI hr (by omega) (pv 0)) pa_nil)))))), ?_⟩
    obtain ⟨dx, it, tb, hc, _, _⟩ := id CA.ob
    refine ⟨_, rfl, c, dx, _, rfl, hc, c, g1, g2, n, m, us, ws, L, im, rfl, CA, g1, n, us, rfl, CA.s, CA.fs, fun sp sq H1 s1 nsp nsq P1 => ?_⟩
    have C1 := CA.same s1
    refine ⟨_, rfl, c, dx, _, rfl, s1 _ _ hc, c, g1, g2, n, m, us, ws, L, im, rfl, C1, g2, m, ws, rfl, C1.t, C1.ft, fun tp tq H2 s2 ntp ntq P2 => ?_⟩
    have C2 := C1.same s2
    have s12 := s1.trans s2
    refine ⟨_, rfl, c, dx, _, rfl, s12 _ _ hc, c, g1, g2, n, m, us, ws, L, im, rfl, C2, ?_⟩
    refine ⟨_, rfl, c, dx, _, rfl, s12 _ _ hc, clook_no _ _ _ _ _ (by decide +kernel), c, g1, g2, n, m, us, ws, L, im, rfl, C2, fun il hil => ?_⟩
    have s3 := same_upd (o := .lst (nW ((win us L).map im))) hil
    refine ⟨(by show 4 ≤ sizeLine; decide), fun r hr2 => ?_⟩
    have s4 := same_upd (o := .tup [.ref sp, .ref tp, .int (L : Int), .ref il]) hr2
    have s34 := s3.trans s4
    exact q r sp sq tp tq il _ (s12.trans s34) ((s12.trans s3).free hr2) ⟨upd_same, (P1.same s2).same s34, P2.same s34, s4 _ _ upd_same, CA.d, CA.s.n8, CA.t.n8, CA.s.m24, CA.t.m24⟩
end
end Lw
end
section
set_option Elab.async false
set_option linter.all false
set_option maxRecDepth 100000
namespace Lw
open PySem PySem.Spec PyProof.Rows L2
open AutoSeq1 (wpAny_loadPart')
section
variable {prog : Program} {w : World} {A : Around} {E : Value → Shared → Prop} {s : Shared} {a : Addr} {v : Value}
/-- the built-in == of v knows nothing of the object at a -/
def Declines (prog : Program) (w : World) (v : Value) (a : Addr) (s : Shared) : Prop := ∀ (A : Around) (E : Value → Shared → Prop), wpAny (model prog w) A (tryCompare v "__eq__" (.ref a)) (fun r s' => r = none ∧ s' = s) E s
theorem decl_by {T id : String} {B : Builtin} (hT : s.TypeIs v T) (slot : Slot T "__eq__" id) (entry : entryFor table id = some B) (args : argsOk id ⟨[v, .ref a], []⟩)
    (h : ∀ (A : Around) (R : Result → Shared → Prop), R (.ok (.ret .notImplemented)) s → wpAny (model prog w) A.in1 (B ⟨[v, .ref a], []⟩) (GQ.FinOf prog w A R) (fun e s' => R (.error e) s') s) : Declines prog w v a s := fun A E => by
  unfold tryCompare
  refine wpAny_bind (wpAny_callSpecialIfBound?_slot hT slot (GQ.call_here slot hT entry args (h A _ ?_)))
  exact wpAny_pure ⟨rfl, rfl⟩
theorem decl_none : Declines prog w .none a s := by
  refine decl_by (T := "NoneType") rfl PySem.F.slot_NoneType_eq PySem.F.entry_NoneType_eq (PySem.F.args_NoneType_eq_2 _ _) fun A R h => ?_
  obtain ⟨hp, g, d, tk, os⟩ := s
  unfold Builtin.«NoneType.__eq__»
  wp_walk
  exact h
variable {K : PySem.W.Frag} {C : Addr} {ox : Obj} {od : Option Obj}
theorem wp_inst_no {M : Model} {T : String} {Q : Bool → Shared → Prop} (kin : K.In s.heap) (J : PySem.W.InstAt s.heap a ox C od) (e : PySem.W.subIn K (.ref C) (.type T) = some false) (q : Q false s) : wpAny M A (isInstance (.ref a) (.type T)) Q E s := by
  unfold isInstance
  exact wpAny_bind (J.type.here ((PySem.W.looks_subIn kin e).here q))
theorem decl_list {l : Addr} (hT : s.TypeIs (.ref l) "list") (kin : K.In s.heap) (J : PySem.W.InstAt s.heap a ox C od) (e : PySem.W.subIn K (.ref C) (.type "list") = some false) : Declines prog w (.ref l) a s := by
  refine decl_by (T := "list") hT PySem.F.slot_list_eq PySem.F.entry_list_eq (PySem.F.args_list_eq_2 _ _) fun A R h => ?_
  obtain ⟨hp, g, d, tk, os⟩ := s
  wp_walk using wp_inst_no kin J e
  exact h
theorem decl_tuple {l : Addr} (hT : s.TypeIs (.ref l) "tuple") (kin : K.In s.heap) (J : PySem.W.InstAt s.heap a ox C od) (e : PySem.W.subIn K (.ref C) (.type "tuple") = some false) : Declines prog w (.ref l) a s := by
  refine decl_by (T := "tuple") hT PySem.F.slot_tuple_eq PySem.F.entry_tuple_eq (PySem.F.args_tuple_eq_2 _ _) fun A R h => ?_
  obtain ⟨hp, g, d, tk, os⟩ := s
  wp_walk using wp_inst_no kin J e
  exact h
theorem decl_int {i : Int} {t : Tok} {dx : Addr} (hob : s.heap.get? a = some (PySem.W.instObj C dx)) : Declines prog w (.int i t) a s := by
  refine decl_by (T := "int") rfl PySem.F.slot_int_eq PySem.F.entry_int_eq (PySem.F.args_int_eq_2 _ _) fun A R h => ?_
  obtain ⟨hp, g, d, tk, os⟩ := s
  wp_walk
  exact h
end
section
variable {X : Cx} {n : Nat} {A : Around} {pins : List (Addr × Obj)} {s : Shared} {σ : L2.St} {H : Hp} {CX : CXT} {C f : Addr} {fd : FuncData} {ps : List Str} {sp : Sp} {E : XK}
/-- v == the object at a, where v's own == declines: the object's own answers -/
theorem rc_back {a dx : Addr} {fs : List (Str × V)} {y : V} {v : Value} {T : String} {Q : VK} (F : FnOk X.prog X.w X.K X.mg X.base CX n f fd ps sp) (hs : PySem.W.findIn X.K (.ref C) "__eq__" = some (some (.ref f))) (hf : PySem.W.isFn X.K (.ref f) = true)
    (hb : Binds X.K fd ps []) (hx : Passes CX X E) (sb : L2.Sub X n A) (I : Inv X pins σ H s) (ha : H a = some (.ins C dx fs)) (ry : RelV y v) (hT : s.TypeIs v T) (hsub : PySem.W.subIn X.K (.ref C) (.type T) = some false) (hd : Declines X.prog X.w v a s)
    (hsp : sp [.ref a, y] H (fun v H' => ∃ b, v = .bl b ∧ Q (.bl b) H') E) : wpAny (model X.prog X.w) A (richCompare .Eq v (.ref a)) (fun u s' => ∃ b H', u = .bool b ∧ Inv X pins σ H' s' ∧ Q (.bl b) H') X.xe s := by
  obtain ⟨mA, J, _⟩ := ins_get I.hok ha
  obtain ⟨od, J, _⟩ := J.look
  have kin := I.kIn
  have run := run_own F hb hx sb I (.cons (show RelV (.ref a) (.ref a) from rfl) (.cons ry .nil)) hsp
  unfold richCompare
  rw [hT.oneThing_none]
  refine wpAny_holding (wpAny_bind (wpAny_cRoomFor sb.room.units0 ?_))
  refine wpAny_bind (wpAny_typeOf hT (wpAny_bind (J.type.here ?_)))
  rw [show (Value.type T != Value.ref C) = true from rfl]
  simp only [if_true]
  refine wpAny_bind ((PySem.W.looks_subIn kin hsub).here ?_)
  simp only [Bool.false_eq_true, if_false]
  refine wpAny_bind (wpAny_mono (hd A X.xe) (fun r s' z => ?_) fun _ _ e => e)
  obtain ⟨rfl, rfl⟩ := z
  simp only [Bool.not_false, if_true]
  have one : wpAny (model X.prog X.w) A (tryCompare (.ref a) (cmpInfo .Eq).2.2 v) (fun r s' => ∃ u, r = some u ∧ ∃ b H', u = .bool b ∧ Inv X pins σ H' s' ∧ Q (.bl b) H') X.xe s' := by
    unfold tryCompare
    refine wpAny_bind (PySem.W.ifBound_K kin J hs hf (wpAny_mono run (fun u s2 h => ?_) fun _ _ e => e))
    obtain ⟨b, H', rfl, I', q⟩ := back_bool h
    exact wpAny_pure ⟨_, rfl, b, H', rfl, I', q⟩
  refine wpAny_bind (wpAny_mono one (fun r s2 z => ?_) fun _ _ e => e)
  obtain ⟨u, rfl, hq⟩ := z
  exact wpAny_pure hq
theorem eqB_of {v : Value} {a : Addr} {Q : Bool → Shared → Prop} {Er : Value → Shared → Prop} {M : Model} (hne : (v == Value.ref a) = false) (hfl : ∀ b t, v ≠ .float b t) (h : wpAny M A (richCompare .Eq v (.ref a)) (fun u s' => ∃ b, u = .bool b ∧ Q b s') Er s) : wpAny M A (eqBool v (.ref a)) Q Er s := by
  unfold eqBool
  refine wpAny_holding ?_
  rw [hne]
  simp only [Bool.false_eq_true, if_false]
  have fin : wpAny M A (richCompare .Eq v (.ref a) >>= fun r => truthOfDropped r) Q Er s := wpAny_bind (wpAny_mono h (fun u s' z => by
    obtain ⟨b, rfl, q⟩ := z
    exact wpAny_truthy_bool q) fun _ _ e => e)
  cases v with
  | float b t => exact absurd rfl (hfl b t)
  | _ => exact fin
end
end Lw
end
section
set_option Elab.async false
set_option linter.all false
set_option maxRecDepth 100000
namespace Lw
open PySem PySem.Spec PyProof.Rows L2
open AutoSeq1 (wpAny_loadPart')
open MeetsSeq MeetsSeq2 MeetsSeq3 SeqRoads2
section
variable {prog : Program} {w : World} {A : Around} {R : Result → Shared → Prop}
/-- in over a list, where no item answers True, and each answer keeps I -/
def InI (prog : Program) (w : World) (A : Around) (Er : Value → Shared → Prop) (l : Addr) (x : Value) (N : Nat) (I : Shared → Prop) : Prop :=
  ∀ s, I s → ∃ (items : Array Value) (n : Nat), s.heap.get? l = some { cls := .type "list", data := .seq items n } ∧ items.size = N ∧ ∀ (i : Nat) (h : i < items.size), wpAny (model prog w) A.in1 (eqBool items[i] x) (fun r s' => r = false ∧ I s') Er s
theorem in_loopF (l : Addr) (x : Value) (N : Nat) (I : Shared → Prop) (hl : InI prog w A (fun e s' => R (.error e) s') l x N I) (fin : ∀ s, I s → R (.ok (.ret (.bool false))) s) (k : Nat) :
    ∀ i : Nat, N - i = k → ∀ s, I s → wpAny (model prog w) A.in1 (Builtin.«list.__contains__.loop» ⟨[.ref l, x, rawInt i], []⟩) (GQ.FinOf prog w A R) (fun e s' => R (.error e) s') s := by
  induction k with
  | zero =>
    intro i hk s h
    obtain ⟨items, n, hl1, hsz, _⟩ := hl _ h
    have hR := fin s h
    obtain ⟨hp, g, d, tk, os⟩ := s
    wp_walk using wpAny_loadPart' hl1
    have hi : items[((i : Nat) : Int).toNat]? = none := by simp; omega
    rw [hi]
    wp_walk
    exact hR
  | succ k ih =>
    intro i hk s h
    obtain ⟨items, n, hl1, hsz, he⟩ := hl _ h
    have hlt : i < items.size := by omega
    have ht := he i hlt
    obtain ⟨hp, g, d, tk, os⟩ := s
    wp_walk using wpAny_loadPart' hl1
    have hi : items[((i : Nat) : Int).toNat]? = some items[i] := by simp [hlt]
    have hc : ((i : Int) + 1) = ((i + 1 : Nat) : Int) := by omega
    rw [hi]
    refine wpAny_bind (wpAny_mono ht (fun r s2 h2 => ?_) fun _ _ x => x)
    obtain ⟨hr, h2⟩ := h2
    subst hr
    have hrec := ih (i + 1) (by omega) s2 h2
    obtain ⟨hp2, g2, d2, tk2, os2⟩ := s2
    wp_walk
    rw [hc]
    exact ⟨plainId_quiet plain_contains_loop _, codeAny_builtin entry_contains_loop (by
      rw [Around.under_plainId plain_contains_loop _]
      exact hrec)⟩
theorem in_listF (l : Addr) (x : Value) (N : Nat) (I : Shared → Prop) (hl : InI prog w A (fun e s' => R (.error e) s') l x N I) (fin : ∀ s, I s → R (.ok (.ret (.bool false))) s) {s : Shared} (h : I s) :
    wpAny (model prog w) A.in1 (Builtin.«list.__contains__» ⟨[.ref l, x], []⟩) (GQ.FinOf prog w A R) (fun e s' => R (.error e) s') s := by
  obtain ⟨items, n, hl1, hsz, he⟩ := hl _ h
  have hrec := in_loopF (A := A) (R := R) l x N I hl fin _ 0 rfl s h
  obtain ⟨hp, g, d, tk, os⟩ := s
  wp_walk using wpAny_loadPart' hl1
  exact ⟨plainId_quiet plain_contains_loop _, codeAny_builtin entry_contains_loop (by
    rw [Around.under_plainId plain_contains_loop _]
    exact hrec)⟩
end
theorem vals_at : ∀ {xs : List V} {us : List Value}, Vals xs us → ∀ (i : Nat) (h : i < us.length), ∃ x, x ∈ xs ∧ RelV x us[i]
  | _, _, .cons r rs, 0, _ => ⟨_, List.mem_cons_self, r⟩
  | _, _, .cons r rs, i + 1, h => by
    obtain ⟨x, hx, rx⟩ := vals_at rs i (by simpa using h)
    exact ⟨x, List.mem_cons_of_mem _ hx, rx⟩
section
variable {X : Cx} {n : Nat} {CX : CXT} {C f : Addr} {fd : FuncData} {ps : List Str} {sp : Sp} {E : XK}
/-- what a thing in the list may be: None, an int, a list, a tuple -/
def Odd (H : Hp) (y : V) : Prop := y = .non ∨ (∃ i, y = .int i) ∨ (∃ p xs, y = .ref p ∧ H p = some (.lst xs)) ∨ ∃ p xs, y = .ref p ∧ H p = some (.tup xs)
/-- what the class must not be -/
structure NoSub (K : PySem.W.Frag) (C : Addr) : Prop where
  non : PySem.W.subIn K (.ref C) (.type "NoneType") = some false
  int : PySem.W.subIn K (.ref C) (.type "int") = some false
  lst : PySem.W.subIn K (.ref C) (.type "list") = some false
  tup : PySem.W.subIn K (.ref C) (.type "tuple") = some false
/-- the object at a in a list of things of other kinds: its own == answers False of each and changes nothing -/
def rInO (C : Addr) (sp : Sp) (E : XK) : R2 := fun x y H Q => ∃ (a l dx : Addr) (fs : List (Str × V)) (ys : List V), x = .ref a ∧ y = .ref l ∧ H a = some (.ins C dx fs) ∧ H l = some (.lst ys) ∧ (∀ y ∈ ys, Odd H y ∧ sp [.ref a, y] H (fun v H' => v = .bl false ∧ H' = H) E) ∧ Q (.bl false) H
theorem op_inO (F : FnOk X.prog X.w X.K X.mg X.base CX n f fd ps sp) (hs : PySem.W.findIn X.K (.ref C) "__eq__" = some (some (.ref f))) (hf : PySem.W.isFn X.K (.ref f) = true) (ns : NoSub X.K C) (hb : Binds X.K fd ps []) (hx : Passes CX X E) (hr : Room (n + 1) X.A)
    (hmono : ∀ vs H (Q Q' : VK) E, (∀ v H', Q v H' → Q' v H') → sp vs H Q E → sp vs H Q' E) :
    OpR X (compareOp .In) (rInO C sp E) := by
  intro pins s σ H x y v u Q I rx ry h
  obtain ⟨a, l, dx, fs, ys, rfl, rfl, ha, hl, hys, q⟩ := h
  cases rx
  cases ry
  obtain ⟨hz, its, nn, rv, hl0⟩ := (show ObjOk X.prog X.w H s.heap l (.lst ys) from I.hok l _ hl)
  have sub1 := L2.Sub.in1 (X := X) (n := n) (A := X.A) ⟨hr, rfl⟩
  show wpAny (model X.prog X.w) X.A (do return Value.bool (← contains (.ref l) (.ref a))) _ _ s
  have hT : s.TypeIs (.ref l) "list" := ⟨_, hl0, rfl⟩
  refine wpAny_bind (wpAny_contains_slot hT PySem.F.slot_list_contains (GQ.call_here PySem.F.slot_list_contains hT PySem.F.entry_list_contains (PySem.F.args_list_contains_2 _ _) ?_))
  refine in_listF l (.ref a) ys.length (fun s' => Inv X pins σ H s') (fun s' I' => ?_) (fun s' I' => ?_) I
  · obtain ⟨hz', its', nn', rv', hl'⟩ := (show ObjOk X.prog X.w H s'.heap l (.lst ys) from I'.hok l _ hl)
    refine ⟨its'.toArray, nn', hl', by simpa using rv'.length.symm, fun i hi => ?_⟩
    obtain ⟨y, hy, ry⟩ := vals_at rv' i (by simpa using hi)
    obtain ⟨odd, hsp⟩ := hys y hy
    have hsp2 : sp [.ref a, y] H (fun v H' => ∃ b, v = .bl b ∧ ((fun v H' => v = .bl false ∧ H' = H) : VK) (.bl b) H') E := hmono _ _ _ _ _ (fun v H' h => ⟨false, h.1, rfl, h.2⟩) hsp
    have ei : its'.toArray[i] = its'[i]'(by simpa using hi) := by simp
    rw [ei]
    obtain ⟨mA, Jm, _⟩ := ins_get I'.hok ha
    have hob := Jm.1
    obtain ⟨od, J, _⟩ := Jm.look
    have fin : ∀ {v : Value} {T : String}, RelV y v → s'.TypeIs v T → PySem.W.subIn X.K (.ref C) (.type T) = some false → Declines X.prog X.w v a s' → (v == Value.ref a) = false → (∀ b t, v ≠ .float b t) →
        wpAny (model X.prog X.w) X.A.in1 (eqBool v (.ref a)) (fun r s' => r = false ∧ Inv X pins σ H s') (fun e s' => wants (fun r s' => wpAny (model X.prog X.w) X.A (truthy r) (fun b s' => wpAny (model X.prog X.w) X.A (pure (Value.bool b)) (EP X pins σ Q) X.xe s') X.xe s') X.xe (.error e) s') s' := by
      intro v T rv hT' hsub hd hne hfl
      refine eqB_of hne hfl (wpAny_mono (rc_back (Q := fun v H' => v = .bl false ∧ H' = H) F hs hf hb hx sub1 I' ha rv hT' hsub hd hsp2) (fun u s2 h => ?_) fun _ _ e => e)
      obtain ⟨b, H', rfl, I2, e1, rfl⟩ := h
      injection e1 with e1
      subst e1
      exact ⟨false, rfl, rfl, I2⟩
    rcases odd with rfl | ⟨j, rfl⟩ | ⟨p, xs, rfl, hp⟩ | ⟨p, xs, rfl, hp⟩
    · have e1 : its'[i]'(by simpa using hi) = Value.none := ry
      rw [e1]
      exact fin (T := "NoneType") rfl rfl ns.non decl_none rfl (fun b t z => nomatch z)
    · obtain ⟨t, e1⟩ := ry
      rw [e1]
      exact fin (T := "int") ⟨t, rfl⟩ rfl ns.int (decl_int hob) rfl (fun b t z => nomatch z)
    · have e1 : its'[i]'(by simpa using hi) = Value.ref p := ry
      rw [e1]
      obtain ⟨_, _, _, _, hpo⟩ := (show ObjOk X.prog X.w H s'.heap p (.lst xs) from I'.hok p _ hp)
      have pa : p ≠ a := fun z => by
        rw [z, ha] at hp
        cases hp
      exact fin (T := "list") rfl ⟨_, hpo, rfl⟩ ns.lst (decl_list ⟨_, hpo, rfl⟩ I'.kIn J ns.lst) (by simpa using pa) (fun b t z => nomatch z)
    · have e1 : its'[i]'(by simpa using hi) = Value.ref p := ry
      rw [e1]
      obtain ⟨_, _, _, o, hpo, hpc, _⟩ := (show ObjOk X.prog X.w H s'.heap p (.tup xs) from I'.hok p _ hp)
      have pa : p ≠ a := fun z => by
        rw [z, ha] at hp
        cases hp
      exact fin (T := "tuple") rfl ⟨_, hpo, hpc⟩ ns.tup (decl_tuple ⟨_, hpo, hpc⟩ I'.kIn J ns.tup) (by simpa using pa) (fun b t z => nomatch z)
  · exact wpAny_truthy_bool (wpAny_pure ⟨.bl false, H, I', rfl, q⟩)
end
end Lw
end
section
set_option Elab.async false
set_option linter.all false
set_option maxRecDepth 100000
/-! a code's parts, compared. -/
namespace Lw
open PySem L2 PyProof.Rows
def zI (zs : List Nat) : List PyData := (zs.map fun k => ((k : Nat) : Int)).map PyData.int
theorem zI_lay : ∀ zs : List Nat, PyData.canLayAll0 (zI zs) = true
  | [] => rfl
  | z :: zs => by
    show (true && PyData.canLayAll0 (zI zs)) = true
    rw [zI_lay zs]
    rfl
theorem zI_depth : ∀ zs : List Nat, PyData.depthAll (zI zs) ≤ 0
  | [] => Nat.le_refl _
  | z :: zs => by
    show max 0 (PyData.depthAll (zI zs)) ≤ 0
    exact Nat.max_le.mpr ⟨Nat.le_refl _, zI_depth zs⟩
theorem shZ (zs : List Nat) : SeqAt.shaped (.list (zI zs)) = true := by
  show (PyData.canLayAll0 (zI zs) && decide (PyData.depthAll (zI zs) + 1 ≤ 64)) = true
  rw [zI_lay, decide_eq_true (by have := zI_depth zs; omega)]
  rfl
def dPl (n : Nat) (ts : Es) : PyData := .tuple [.int (n : Int), .list (dEs ts)]
def dRule (n m : Nat) (ts eds : Es) (L : Nat) (zs : List Nat) : PyData := .tuple [dPl n ts, dPl m eds, .int (L : Int), .list (zI zs)]
theorem eqv_pl (n n2 : Nat) (ts ts2 : Es) : PyData.eqv (dPl n2 ts2) (dPl n ts) = (decide ((n2 : Int) = n) && decide (psOf ts2 = psOf ts)) := by
  show ((((n2 : Nat) : Int) == ((n : Nat) : Int)) && (PyData.eqvAll (dEs ts2) (dEs ts) && true)) = _
  rw [eqv_es, Bool.and_true]
  by_cases h : ((n2 : Nat) : Int) = n <;> simp [h]
/-- equal parts -/
def ruleB (n2 n m2 m : Nat) (ts2 ts eds2 eds : Es) (L2 L : Nat) (zs2 zs : List Nat) : Bool :=
  (decide ((n2 : Int) = n) && decide (psOf ts2 = psOf ts)) && ((decide ((m2 : Int) = m) && decide (psOf eds2 = psOf eds)) && (decide ((L2 : Int) = L) && decide (zs2 = zs)))
theorem eqv_rule (n2 n m2 m : Nat) (ts2 ts eds2 eds : Es) (L2 L : Nat) (zs2 zs : List Nat) : PyData.eqv (dRule n2 m2 ts2 eds2 L2 zs2) (dRule n m ts eds L zs) = ruleB n2 n m2 m ts2 ts eds2 eds L2 L zs2 zs := by
  show (PyData.eqv (dPl n2 ts2) (dPl n ts) && (PyData.eqv (dPl m2 eds2) (dPl m eds) && ((((L2 : Nat) : Int) == ((L : Nat) : Int)) && (PyData.eqvAll (zI zs2) (zI zs) && true)))) = _
  rw [eqv_pl, eqv_pl, Bool.and_true]
  have h := eqv_nW zs2 zs
  have h : PyData.eqvAll (zI zs2) (zI zs) = decide (zs2 = zs) := h
  rw [h]
  unfold ruleB
  by_cases e : ((L2 : Nat) : Int) = L <;> simp [e]
theorem dPl_lay (n : Nat) (ts : Es) : PyData.canLay0 (dPl n ts) = true := by
  show (true && (PyData.canLayAll0 (dEs ts) && true)) = true
  rw [dEs_lay]
  rfl
theorem dPl_depth (n : Nat) (ts : Es) : PyData.depth (dPl n ts) ≤ 3 := by
  show max 0 (max (PyData.depthAll (dEs ts) + 1) 0) + 1 ≤ 3
  have := dEs_depth ts
  omega
theorem shR (n m : Nat) (ts eds : Es) (L : Nat) (zs : List Nat) : SeqAt.shaped (dRule n m ts eds L zs) = true := by
  show ((PyData.canLay0 (dPl n ts) && (PyData.canLay0 (dPl m eds) && (true && (PyData.canLayAll0 (zI zs) && true)))) && decide (max (PyData.depth (dPl n ts)) (max (PyData.depth (dPl m eds)) (max 0 (max (PyData.depthAll (zI zs) + 1) 0))) + 1 ≤ 64)) = true
  have a := dPl_depth n ts
  have b := dPl_depth m eds
  have c := zI_depth zs
  rw [dPl_lay, dPl_lay, zI_lay, decide_eq_true (by omega)]
  rfl
theorem dp_pl {K : PySem.W.Frag} {H : Hp} {p q : Addr} {n : Nat} {ts : Es} (h : PlanAt H p q (n : Int) ts) : Dp K H (.ref p) (dPl n ts) :=
  .tup (SqT.of h.tp) (.cons (.int _) (.cons (.lst (SqL.of h.ls) (dEs_at h.ed)) .nil))
theorem dp_zs {K : PySem.W.Frag} {H : Hp} {l : Addr} {zs : List Nat} (h : H l = some (.lst (nW zs))) : Dp K H (.ref l) (.list (zI zs)) := .lst (SqL.of h) (dp_nW zs)
theorem dp_rule {K : PySem.W.Frag} {H : Hp} {r sp sq tp tq il : Addr} {n m : Nat} {ts eds : Es} {L : Nat} {im : List Nat → Nat} (h : RuleAt H r sp sq tp tq il n m ts eds L im) : Dp K H (.ref r) (dRule n m ts eds L ((win ts L).map im)) :=
  .tup (SqT.of h.ob) (.cons (dp_pl h.s) (.cons (dp_pl h.t) (.cons (.int _) (.cons (dp_zs h.il) .nil))))
/-- two codes of drawn parts are equal where the parts are -/
theorem code_rule {n2 n m2 m : Nat} {ts2 ts eds2 eds us us2 ws ws2 : Es} {L2 L : Nat} {im2 im : List Nat → Nat} (h1 : psOf us = psOf ts) (h2 : psOf ws = psOf eds) (h3 : psOf us2 = psOf ts2) (h4 : psOf ws2 = psOf eds2) :
    codeB n n2 m m2 us us2 ws ws2 L L2 im im2 = ruleB n2 n m2 m ts2 ts eds2 eds L2 L ((win ts2 L2).map im2) ((win ts L).map im) := by
  unfold codeB ruleB
  rw [ps_win h1, ps_win h3, h1, h2, h3, h4]
  rw [decide_eq_decide.mpr (show ((L2 : Int) = L) ↔ L = L2 from ⟨fun h => by omega, fun h => by omega⟩), decide_eq_decide.mpr (⟨Eq.symm, Eq.symm⟩ : (win ts2 L2).map im2 = (win ts L).map im ↔ (win ts L).map im = (win ts2 L2).map im2),
    decide_eq_decide.mpr (⟨Eq.symm, Eq.symm⟩ : psOf ts2 = psOf ts ↔ psOf ts = psOf ts2), decide_eq_decide.mpr (⟨Eq.symm, Eq.symm⟩ : psOf eds2 = psOf eds ↔ psOf eds = psOf eds2),
    decide_eq_decide.mpr (⟨Eq.symm, Eq.symm⟩ : ((n2 : Int) = n) ↔ (n : Int) = n2), decide_eq_decide.mpr (⟨Eq.symm, Eq.symm⟩ : ((m2 : Int) = m) ↔ (m : Int) = m2)]
  have key : ∀ a b c d e f : Bool, (c && (d && ((a && e) && (b && f)))) = ((a && e) && ((b && f) && (c && d))) := by decide
  exact key _ _ _ _ _ _
theorem ruleB_self (n m : Nat) (ts eds : Es) (L : Nat) (zs : List Nat) : ruleB n n m m ts ts eds eds L L zs zs = true := by
  unfold ruleB
  simp
/-! ### .. and like -/
theorem at_ps {us ts : Es} (he : psOf us = psOf ts) {i : Nat} {x y : Addr × Int × Int} (hx : us[i]? = some x) (hy : ts[i]? = some y) : x.2 = y.2 := by
  have h1 : (psOf us)[i]? = some x.2 := by unfold psOf; rw [List.getElem?_map, hx]; rfl
  have h2 : (psOf ts)[i]? = some y.2 := by unfold psOf; rw [List.getElem?_map, hy]; rfl
  rw [he, h2] at h1
  exact (Option.some.inj h1).symm
theorem lk_ed {H : Hp} {us ts : Es} {e q : Addr} {k : Nat} (h1 : Ed H us) (h2 : Ed H ts) (he : psOf us = psOf ts) (e1 : H e = some (.lst (vsOf us))) (e2 : H q = some (.lst (vsOf ts))) (hl : us.length ≤ 1000) : Lk H (k + 3) (.ref e) (.ref q) := by
  have hl2 : us.length = ts.length := ps_len he
  refine .inr (.inl ⟨e, q, _, _, rfl, rfl, e1, e2, by rw [vsOf_len, vsOf_len, hl2], by rw [vsOf_len]; exact hl, fun i u v hu hv => ?_⟩)
  obtain ⟨x, hx, rfl⟩ := vsOf_at' hu
  obtain ⟨y, hy, rfl⟩ := vsOf_at' hv
  have exy := at_ps he hx hy
  have m1 := h1 x (List.mem_of_getElem? hx)
  have m2 := h2 y (List.mem_of_getElem? hy)
  rw [← exy] at m2
  refine .inr (.inr ⟨x.1, y.1, _, _, rfl, rfl, m1, m2, rfl, (by show 2 ≤ 1000; decide), fun j u v hu hv => ?_⟩)
  rw [hu] at hv
  have e3 := Option.some.inj hv
  subst e3
  refine .inl ⟨rfl, ?_⟩
  have := List.mem_of_getElem? hu
  simp only [List.mem_cons, List.not_mem_nil, or_false] at this
  rcases this with rfl | rfl <;> rfl
theorem lk_pl {H : Hp} {us ts : Es} {p q p2 q2 : Addr} {n : Int} {k : Nat} (h1 : PlanAt H p q n us) (h2 : PlanAt H p2 q2 n ts) (he : psOf us = psOf ts) (hl : us.length ≤ 24) : Lk H (k + 4) (.ref p) (.ref p2) := by
  refine .inr (.inr ⟨p, p2, _, _, rfl, rfl, h1.tp, h2.tp, rfl, (by show 2 ≤ 1000; decide), fun j u v hu hv => ?_⟩)
  match j, hu, hv with
  | 0, hu, hv =>
    cases hu; cases hv
    exact .inl ⟨rfl, rfl⟩
  | 1, hu, hv =>
    cases hu; cases hv
    exact lk_ed h1.ed h2.ed he h1.ls h2.ls (by omega)
  | j + 2, hu, hv => cases hu
theorem lk_zs {H : Hp} {l l2 : Addr} {zs : List Nat} {k : Nat} (h1 : H l = some (.lst (nW zs))) (h2 : H l2 = some (.lst (nW zs))) (hl : zs.length ≤ 1000) : Lk H (k + 2) (.ref l) (.ref l2) := by
  refine .inr (.inl ⟨l, l2, _, _, rfl, rfl, h1, h2, rfl, by rw [nW_len]; exact hl, fun i u v hu hv => ?_⟩)
  rw [hu] at hv
  have e3 := Option.some.inj hv
  subst e3
  refine .inl ⟨rfl, ?_⟩
  obtain ⟨c, _, rfl⟩ := List.mem_map.mp (List.mem_of_getElem? hu)
  rfl
theorem lk_rule {H : Hp} {us ws ts eds : Es} {r sp sq tp tq il r2 sp2 sq2 tp2 tq2 il2 : Addr} {n m : Int} {L : Int} {zs : List Nat} {k : Nat} (e1 : H r = some (.tup [.ref sp, .ref tp, .int L, .ref il])) (e2 : H r2 = some (.tup [.ref sp2, .ref tp2, .int L, .ref il2]))
    (a1 : PlanAt H sp sq n us) (a2 : PlanAt H sp2 sq2 n ts) (b1 : PlanAt H tp tq m ws) (b2 : PlanAt H tp2 tq2 m eds) (h1 : psOf us = psOf ts) (h2 : psOf ws = psOf eds) (l1 : us.length ≤ 24) (l2 : ws.length ≤ 24) (c1 : H il = some (.lst (nW zs))) (c2 : H il2 = some (.lst (nW zs))) (hl : zs.length ≤ 1000) : Lk H (k + 5) (.ref r) (.ref r2) := by
  refine .inr (.inr ⟨r, r2, _, _, rfl, rfl, e1, e2, rfl, (by show 4 ≤ 1000; decide), fun j u v hu hv => ?_⟩)
  match j, hu, hv with
  | 0, hu, hv =>
    cases hu; cases hv
    exact lk_pl a1 a2 h1 l1
  | 1, hu, hv =>
    cases hu; cases hv
    exact lk_pl b1 b2 h2 l2
  | 2, hu, hv =>
    cases hu; cases hv
    exact .inl ⟨rfl, rfl⟩
  | 3, hu, hv =>
    cases hu; cases hv
    exact lk_zs c1 c2 hl
  | j + 4, hu, hv => cases hu
theorem lk_r3 {H : Hp} {Fa Du r r2 : Addr} {m : Int} {z : Str} {k : Nat} (h1 : H Fa = some (.lst [.ref r, .int m, .str z])) (h2 : H Du = some (.lst [.ref r2, .int m, .str z])) (h : Lk H (k + 5) (.ref r) (.ref r2)) : Lk H (k + 6) (.ref Fa) (.ref Du) := by
  refine .inr (.inl ⟨Fa, Du, _, _, rfl, rfl, h1, h2, rfl, (by show 3 ≤ 1000; decide), fun j u v hu hv => ?_⟩)
  match j, hu, hv with
  | 0, hu, hv =>
    cases hu; cases hv
    exact h
  | 1, hu, hv =>
    cases hu; cases hv
    exact .inl ⟨rfl, rfl⟩
  | 2, hu, hv =>
    cases hu; cases hv
    exact .inl ⟨rfl, rfl⟩
  | j + 3, hu, hv => cases hu
theorem lk_b3 {H : Hp} {Fa Du : Addr} {x y z : Bool} {k : Nat} (h1 : H Fa = some (.lst [.bl x, .bl y, .bl z])) (h2 : H Du = some (.lst [.bl x, .bl y, .bl z])) : Lk H (k + 2) (.ref Fa) (.ref Du) := by
  refine .inr (.inl ⟨Fa, Du, _, _, rfl, rfl, h1, h2, rfl, (by show 3 ≤ 1000; decide), fun j u v hu hv => ?_⟩)
  match j, hu, hv with
  | 0, hu, hv =>
    cases hu; cases hv
    exact .inl ⟨rfl, rfl⟩
  | 1, hu, hv =>
    cases hu; cases hv
    exact .inl ⟨rfl, rfl⟩
  | 2, hu, hv =>
    cases hu; cases hv
    exact .inl ⟨rfl, rfl⟩
  | j + 3, hu, hv => cases hu
theorem spCEq_mono {K : PySem.W.Frag} {C CG : Addr} (vs : List V) (H : Hp) (Q Q' : VK) (E : XK) (h : ∀ v H', Q v H' → Q' v H') (s : spCEq K C CG vs H Q E) : spCEq K C CG vs H Q' E := by
  obtain ⟨c, g1, g2, n, m, us, ws, L, im, y, e, CA, s⟩ := s
  refine ⟨c, g1, g2, n, m, us, ws, L, im, y, e, CA, ?_⟩
  rcases s with ⟨c2, h1, h2, n2, m2, us2, ws2, L2, im2, e2, C2, q⟩ | ⟨t, q⟩
  · exact .inl ⟨c2, h1, h2, n2, m2, us2, ws2, L2, im2, e2, C2, h _ _ q⟩
  · exact .inr ⟨t, h _ _ q⟩
end Lw
end
section
set_option autoImplicit false
set_option Elab.async false
set_option linter.all false
set_option maxRecDepth 100000
/-! a turn's things: the bag, drawn parts, the code of them. -/
namespace Lw
open PySem L2 PyProof.Rows
theorem BagAt.ne_nW {H : Hp} {b l c : Addr} {ns : List Int} {zs : List Nat} (B : BagAt H b l ns) (h : H c = some (.lst (nW zs))) : c ≠ b := fun e => by
  obtain ⟨o, ho, i, r, s, rfl, _⟩ := B.ob
  rw [e, ho] at h
  have h : [V.ref l, .int (i : Int), .int r, .int s] = nW zs := by injection h with h; injection h
  cases zs with
  | nil => cases h
  | cons z zs =>
    have := (List.cons.inj h).1
    cases this
theorem RuleAt.keep {H H' : Hp} {b l : Addr} {ns : List Int} {r sp sq tp tq il : Addr} {n m : Nat} {ts eds : Es} {L : Nat} {im : List Nat → Nat} (h : RuleAt H r sp sq tp tq il n m ts eds L im) (B : BagAt H b l ns) (k : KeepB b H H') : RuleAt H' r sp sq tp tq il n m ts eds L im :=
  ⟨k _ _ (B.ne_tup h.ob) h.ob, h.s.keepB B k, h.t.keepB B k, k _ _ (B.ne_nW h.il) h.il, h.d, h.n8, h.m8, h.s24, h.t24⟩
theorem PlanAt.offl {H H' : Hp} {p q b : Addr} {n : Int} {ts : Es} {xs : List V} (h : PlanAt H p q n ts) (hb : H b = some (.lst xs)) (k : KeepB b H H') (nq : q ≠ b) : PlanAt H' p q n ts :=
  ⟨off_lst hb k h.tp nofun, k _ _ nq h.ls, Ed.off2 hb k h.ed, h.va, h.n1⟩
theorem RuleAt.off {H H' : Hp} {b : Addr} {r sp sq tp tq il : Addr} {n m : Nat} {ts eds : Es} {L : Nat} {im : List Nat → Nat} {xs : List V} (h : RuleAt H r sp sq tp tq il n m ts eds L im) (hb : H b = some (.lst xs)) (k : KeepB b H H') (n1 : sq ≠ b) (n2 : tq ≠ b) (n3 : il ≠ b) : RuleAt H' r sp sq tp tq il n m ts eds L im :=
  ⟨off_lst hb k h.ob nofun, h.s.offl hb k n1, h.t.offl hb k n2, k _ _ n3 h.il, h.d, h.n8, h.m8, h.s24, h.t24⟩
theorem CodeAt.keep {C CG : Addr} {H H' : Hp} {c g1 g2 b l : Addr} {ns : List Int} {n m : Nat} {us ws : Es} {L : Nat} {im : List Nat → Nat} (h : CodeAt C CG H c g1 g2 n m us ws L im) (B : BagAt H b l ns) (k : KeepB b H H') : CodeAt C CG H' c g1 g2 n m us ws L im := by
  obtain ⟨xs, hb⟩ := B.at_b
  exact h.off hb k
/-- where a code is made of drawn parts, whatever is asked behind it -/
theorem init_of {C CG : Addr} {H H1 : Hp} {r sp sq tp tq il i2 g1 g2 c dx : Addr} {n m : Nat} {ts eds us ws : Es} {L : Nat} {im : List Nat → Nat} {Q : VK} {E : XK} (RA : RuleAt H r sp sq tp tq il n m ts eds L im) (h1 : psOf us = psOf ts) (h2 : psOf ws = psOf eds) (G1 : GraphAt CG H1 g1 (n : Int) us) (G2 : GraphAt CG H1 g2 (m : Int) ws) (hI : H1 i2 = some (.lst (nW ((win ts L).map im))))
    (hc : H1 c = none) (hdx : H1 dx = none) (ne : dx ≠ c) (q : ∀ H', Same H1 H' → CodeAt C CG H' c g1 g2 n m us ws L im → Q .non H') : spCInit C CG [.ref c, .ref g1, .ref g2, .int (L : Int), .ref i2] (upd (upd H1 dx (.own c)) c (.ins C dx [])) Q E := by
  have hc2 : upd H1 dx (.own c) c = none := by rw [upd_ne (Ne.symm ne)]; exact hc
  have s := (same_upd (o := .own c) hdx).trans (same_upd (o := .ins C dx []) hc2)
  exact ⟨c, dx, g1, g2, i2, n, m, us, ws, L, im, rfl, upd_same, (gr_of G1 h1 RA.s RA.n8 RA.s24).same s, (gr_of G2 h2 RA.t RA.m8 RA.t24).same s, ps_full h1.symm RA.s.full, ps_full h2.symm RA.t.full, RA.d.ps h1.symm h2.symm, s _ _ (by rw [ps_win h1]; exact hI), fun H' k CA => q H' (fun x o e => k x o (ne_of_none e hc) (s _ _ e)) CA⟩
structure TP where
  (sp sq tp tq il g1 g2 : Addr)
  (n m : Nat)
  (ts eds us ws : Es)
  (L : Nat)
  (im : List Nat → Nat)
structure Tn (C CG b l : Addr) (ns : List Int) (r c : Addr) (p : TP) (H : Hp) : Prop where
  bag : BagAt H b l ns
  ru : RuleAt H r p.sp p.sq p.tp p.tq p.il p.n p.m p.ts p.eds p.L p.im
  co : CodeAt C CG H c p.g1 p.g2 p.n p.m p.us p.ws p.L p.im
  e1 : psOf p.us = psOf p.ts
  e2 : psOf p.ws = psOf p.eds
section
variable {C CG b l r c : Addr} {ns : List Int} {p : TP} {H H' : Hp}
theorem Tn.same (h : Tn C CG b l ns r c p H) (s : Same H H') : Tn C CG b l ns r c p H' := ⟨h.bag.same s, h.ru.same s, h.co.same s, h.e1, h.e2⟩
theorem Tn.keep (h : Tn C CG b l ns r c p H) (k : KeepB b H H') (B : BagAt H' b l ns) : Tn C CG b l ns r c p H' := ⟨B, h.ru.keep h.bag k, h.co.keep h.bag k, h.e1, h.e2⟩
/-- where a list that is no part of it changes -/
theorem Tn.off {d : Addr} {xs : List V} {o : HO} (h : Tn C CG b l ns r c p H) (hd : H d = some (.lst xs)) (db : d ≠ b) (dl : d ≠ l) (n1 : p.sq ≠ d) (n2 : p.tq ≠ d) (n3 : p.il ≠ d) : Tn C CG b l ns r c p (upd H d o) :=
  ⟨h.bag.off db dl, h.ru.off hd .updb n1 n2 n3, h.co.off hd .updb, h.e1, h.e2⟩
/-- .. a list made after all of it -/
theorem Tn.offN {H0 : Hp} {d : Addr} {xs : List V} {o : HO} (h : Tn C CG b l ns r c p H) (h0 : Tn C CG b l ns r c p H0) (nd : H0 d = none) (hd : H d = some (.lst xs)) : Tn C CG b l ns r c p (upd H d o) :=
  h.off hd (h0.bag.ne_new nd) (ne_of_none h0.bag.sc nd).symm (ne_of_none h0.ru.s.ls nd) (ne_of_none h0.ru.t.ls nd) (ne_of_none h0.ru.il nd)
theorem Tn.wins (h : Tn C CG b l ns r c p H) : (win p.us p.L).map p.im = (win p.ts p.L).map p.im := by rw [ps_win h.e1]
end
end Lw
end
section
set_option autoImplicit false
set_option Elab.async false
set_option linter.all false
set_option maxRecDepth 100000
/-! Graph.leaving as the numbers of the edges. -/
namespace Lw
open PySem L2
theorem sel_lv {n : Nat} {us : Es} (rg : ∀ e ∈ us, 0 ≤ e.2.1 ∧ e.2.1 < n ∧ 0 ≤ e.2.2 ∧ e.2.2 < n) (i : Nat) : (sel (fstIs (i : Int)) (psOf us) us.length).map V.int = nW (lvF us i) := by
  unfold sel nW lvF
  rw [List.map_map]
  have e : ((List.range us.length).filter fun j => ((psOf us)[j]?.map (fstIs (i : Int))).getD false) = (List.range us.length).filter fun e => srcE us e == i := by
    refine List.filter_congr fun j hj => ?_
    have hj := List.mem_range.mp hj
    have hg : us[j]? = some us[j] := List.getElem?_eq_getElem hj
    have hp : (psOf us)[j]? = some us[j].2 := by unfold psOf; rw [List.getElem?_map, hg]; rfl
    rw [hp]
    show decide (us[j].2.1 = (i : Int)) = (srcE us j == i)
    rw [(e_src rg hg).1]
    by_cases h : srcE us j = i
    · rw [h]; simp
    · rw [decide_eq_false (by omega), beq_eq_false_iff_ne.mpr h]
  rw [e]
  rfl
theorem lv_of {P : Program} {w : World} {K : PySem.W.Frag} {mg : Str → Option Value} {base : Heap} {k : Nat} {f C : Addr} {fd : FuncData} {ps : List Str} (F : FnOk P w K mg base CX0 k f fd ps (spAll C fstIs)) : FnOk P w K mg base CX0 k f fd ps (spLv C) := by
  have h : ∀ vs H Q E, spLv C vs H Q E → spAll C fstIs vs H Q E := by
    rintro vs H Q E ⟨g, n, us, i, rfl, G, hi, go⟩
    refine ⟨g, n, us, i, rfl, G.gr, by omega, by omega, by have := G.m24; omega, fun p H' s np e => go p H' s np ?_⟩
    rw [e, sel_lv G.rg]
  exact ⟨fun vs H Q E z => F.len vs H Q E (h vs H Q E z), fun A outer s H args us vs Q E hr e0 hb rv z => F.run A outer s H args us vs Q E hr e0 hb rv (h _ _ _ _ z)⟩
end Lw
end
section
set_option autoImplicit false
set_option Elab.async false
set_option linter.all false
set_option maxRecDepth 100000
/-! the law: its term. -/
namespace Lw
open PySem L2 PyProof.Rows
abbrev sLaw : Stmt := top 50
abbrev NLaw : List Str := ["_law_script", "_law_bag_here", "_law_turn", "_law_rule_here", "_law_handed", "_law_code_here", "_law_again", "_law_images", "_law_shown", "_law_one", "_law_two", "_law_other", "_law_found", "_law_plain", "_law_size"]
theorem scLaw : FnScope NLaw ["_law_script"] (defScope sLaw) := ⟨rfl, rfl, rfl, by decide +kernel, rfl, by decide +kernel, by decide +kernel⟩
def spLaw (K : PySem.W.Frag) : Sp := fun vs H Q _ => ∃ (a : Addr) (ns : List Int), vs = [.ref a] ∧ SqL K H a (ns.map V.int) ∧ ns.length ≤ 63 ∧ ∀ H', Q (.bl true) H'
/-- what asks of the class Code's own == : the built-in kinds are not of it -/
structure CIs (K : PySem.W.Frag) (C : Addr) : Prop where
  non : PySem.W.kitOne K (.type "NoneType") (.ref C) = some false
  int : PySem.W.kitOne K (.type "int") (.ref C) = some false
  lst : PySem.W.kitOne K (.type "list") (.ref C) = some false
  tup : PySem.W.kitOne K (.type "tuple") (.ref C) = some false
/-- the defs and the classes that the law calls -/
structure Lib (P : Program) (w : World) (K : PySem.W.Frag) (mg : Str → Option Value) (base : Heap) (C CG : Addr) (mc : Value) : Prop where
  T : Bi mg
  G : CTxt K mg C mc
  S : CIs K C
  ns : NoSub K C
  repr : mg "repr" = none
  bag : C8.Cal P w K mg base 1 "_law_bag" (spBag K) []
  of : C8.Cal P w K mg base 2 "_law_of" (spOf K) []
  rule : C8.Cal P w K mg base 4 "_law_rule" spLRule []
  rfrom : C8.Cal P w K mg base 3 "_law_rule_from" spRF []
  like : C8.Cal P w K mg base 7 "_law_like" (spLike 6) []
  graph : C8.Cal P w K mg base 4 "_law_graph" (spGraph CG) []
  code : Sf.Cal P w K mg base 12 "_law_code" (spLCode C CG) []
  rof : C8.Cal P w K mg base 4 "_law_rule_of" (spLROf C CG) []
  mak : Sf.Mak P w K mg base 10 "Code" C (spCInit C CG) []
  images : C8.Met P w K mg base 1 C "images" (spCImg C CG) []
  target : Prp P w K mg base 1 C "target" (spCTgt C CG)
  len : ∃ f fd, PySem.W.findIn K (.ref C) "__len__" = some (some (.ref f)) ∧ PySem.W.isFn K (.ref f) = true ∧ FnOk P w K mg base CX0 1 f fd ["self"] (spCLen C CG) ∧ Binds K fd ["self"] []
  rep : ∃ f fd, PySem.W.findIn K (.ref C) "__repr__" = some (some (.ref f)) ∧ PySem.W.isFn K (.ref f) = true ∧ FnOk P w K mg base CX0 1 f fd ["self"] (spCRepr C CG) ∧ Binds K fd ["self"] []
  eq : ∃ f fd, PySem.W.findIn K (.ref C) "__eq__" = some (some (.ref f)) ∧ PySem.W.isFn K (.ref f) = true ∧ FnOk P w K mg base CX0 3 f fd ["self", "other"] (spCEq K C CG) ∧ Binds K fd ["self", "other"] []
  ne : PySem.W.findIn K (.ref C) "__ne__" = some (some (.builtin "object.__ne__"))
  cls : ∃ nm q N bs hdct sn sub ab col dd k0 k1 k2 k3 k5 newId, K.lookup C = some (excClassObj nm q C N bs [.type "object"] hdct sn sub ab col dd k0 k1 k2 k3 k5 newId)
  idn : ∃ p g fd, ClX.CMet K C mc "identity" p g ∧ Sf.FnS P w K mg base CX0 12 g fd ["cls", "graph"] (spCId C CG) ∧ Binds K fd ["cls", "graph"] []
  con : ∃ u, Con K C "MAX_WIDTH" (.int 4) u
section
variable {P : Program} {w : World} {K : PySem.W.Frag} {mg : Str → Option Value} {base : Heap}
set_option maxHeartbeats 32000000 in
theorem ok_law {f C CG : Addr} {mc : Value} {fd : FuncData} (F : Fun K "law" "law" sLaw f fd) (L : Lib P w K mg base C CG mc) : Sf.FnS P w K mg base CX0 14 f fd ["_law_script"] (spLaw K) := by
  refine Fun.okS F scLaw (fun vs H Q E h => ?_) (fun cdv A outer s H vs Q E hr h => ?_)
  · obtain ⟨a, ns, rfl, _⟩ := h
    rfl
  · obtain ⟨a, ns, rfl, hS, hln, q⟩ := h
    obtain ⟨fL, fdL, hL1, hL2, FL, bL⟩ := L.len
    obtain ⟨fR, fdR, hR1, hR2, FR, bR⟩ := L.rep
    obtain ⟨fE, fdE, hE1, hE2, FE, bE⟩ := L.eq
    obtain ⟨pI, gI, fdI, cmI, FI, bI⟩ := L.idn
    obtain ⟨nm, qn, N, bs, hdct, sn, sub, ab, col, dd, k0, k1, k2, k3, k5, newId, hcls⟩ := L.cls
    have T := L.T
    have hr2 : Room 2 _ := hr.mono (by decide)
    have hr3 : Room 3 _ := hr.mono (by decide)
    have hr4 : Room 4 _ := hr.mono (by decide)
    have hr12 : Room 12 _ := hr.mono (by decide)
    refine ⟨_, Sf.qss_cons (Sf.PS.up (ps_set (i := 1) scLaw.nd rfl (Or.inl rfl) (C8.pe_c L.bag hr (by decide) (by rfl) (pa_cons (pv 0) pa_nil))))
      (Sf.qss_cons (Sf.qs_for PassesOwn.never rfl (pi_range1 (by rfl) T.range (pa_cons pe_int pa_nil)) (pg_name (i := 2) scLaw.nd rfl (Or.inl rfl))
        (Sf.qss_cut (Sf.PS.up (ps_set (i := 3) scLaw.nd rfl (Or.inl rfl) (C8.pe_c L.rule hr (by decide) (by rfl) (pa_cons (pv 1) (pa_cons pe_int pa_nil)))))
        (Sf.qss_cons (Sf.PS.up (ps_set (i := 4) scLaw.nd rfl (Or.inl rfl) (pe_callTy call_list_of (by rfl) T.list (by decide +kernel) (pa_cons (pe_ix ix_tup (pv 3) pe_int (fun _ _ => rfl)) pa_nil))))
        (Sf.qss_cons (Sf.qs_set (i := 5) scLaw.nd rfl (Or.inl rfl) (Sf.qe_mk L.mak hr (by decide) (by rfl) (Sf.PA.up (pa_cons (C8.pe_c L.graph hr (by decide) (by rfl) (pa_cons (pe_ix ix_tup (pv 3) pe_int (fun _ _ => rfl)) pa_nil)) (pa_cons (C8.pe_c L.graph hr (by decide) (by rfl) (pa_cons (pe_ix ix_tup (pv 3) pe_int (fun _ _ => rfl)) pa_nil))
            (pa_cons (pe_ix ix_tup (pv 3) pe_int (fun _ _ => rfl)) (pa_cons (pv 4) pa_nil)))))))
        (Sf.qss_cut (Sf.PS.up (ps_expr (pe_bm0 PySem.F.plainAttrs_list PySem.F.slot_list_clear PySem.F.type_list_clear mt_clear (pv 4))))
        (Sf.qss_cut (Sf.PS.up (ps_for PassesOwn.never rfl (pi_range1 (by rfl) T.range (pa_cons pe_int pa_nil)) (pg_name (i := 6) scLaw.nd rfl (Or.inl rfl))
          (pss_cons (ps_set (i := 7) scLaw.nd rfl (Or.inl rfl) (C8.pe_mt0 L.images hr (by decide) (pv 5)))
          (pss_cons (ps_set (i := 8) scLaw.nd rfl (Or.inl rfl) (pe_op op_add_str (pe_op op_add_str (pe_op op_add_str (pe_op op_add_str pe_str (pe_callTy call_str_int (by rfl) T.str (by decide +kernel) (pa_cons (pe_ix ix_tup (pv 3) pe_int (fun _ _ => rfl)) pa_nil))) pe_str) (pe_callTy call_str_int (by rfl) T.str (by decide +kernel) (pa_cons (pe_callB call_len_seq (by rfl) T.len PySem.boot_len (pa_cons (pe_ix ix_tup (pv 3) pe_int (fun _ _ => rfl)) pa_nil)) pa_nil))) pe_str))
          (pss_cons (ps_if (pt_not (pt_val (C8.pe_c L.like hr (by decide) (by rfl) (pa_cons (pe_lst (pa_cons (C8.pe_c L.rof hr (by decide) (by rfl) (pa_cons (pv 5) pa_nil)) (pa_cons (pe_callB (call_lenO (E := E0) FL hL1 hL2 bL pass0 hr2) (by rfl) T.len PySem.boot_len (pa_cons (pv 5) pa_nil)) (pa_cons (pe_callB (call_reprO (E := E0) FR hR1 hR2 bR pass0 hr2) (by rfl) L.repr (by decide +kernel) (pa_cons (pv 5) pa_nil)) pa_nil))))
              (pa_cons (pe_lst (pa_cons (pv 3) (pa_cons (pe_callB call_len_seq (by rfl) T.len PySem.boot_len (pa_cons (pe_ix ix_tup (pv 3) pe_int (fun _ _ => rfl)) pa_nil)) (pa_cons (pv 8) pa_nil)))) pa_nil))))) (pss_one (ps_ret pe_bl)) pss_nil)
          (pss_one (ps_expr (pe_bm PySem.F.plainAttrs_list PySem.F.slot_list_append PySem.F.type_list_append mt_append (pv 7) (pa_cons pe_int pa_nil)))))))))
        (Sf.qss_cons (Sf.PS.up (ps_par (i := 9) (j := 10) (by rfl) scLaw.nd rfl rfl (by decide) rfl rfl (pa_cons (C8.pe_mt0 L.images hr (by decide) (pv 5)) (pa_cons (C8.pe_mt0 L.images hr (by decide) (pv 5)) pa_nil)) (by rfl)))
        (Sf.qss_cons (Sf.PS.up (ps_expr (pe_bm0 PySem.F.plainAttrs_list PySem.F.slot_list_clear PySem.F.type_list_clear mt_clear (pv 9))))
        (Sf.qss_cut (Sf.PS.up (ps_if (pt_cmpR (op_neD hr.units) (pv 10) (pe_ix ix_tup (pv 3) pe_int (fun _ _ => rfl)) (nomark _)) (pss_one (ps_ret pe_bl)) pss_nil))
        (Sf.qss_cut (Sf.PS.up (ps_set (i := 11) scLaw.nd rfl (Or.inl rfl) (C8.pe_c L.of hr (by decide) (by rfl) (pa_cons (pv 1) (pa_cons (pe_lst (pa_cons (C8.pe_c L.rule hr (by decide) (by rfl) (pa_cons (pv 1) (pa_cons pe_int pa_nil))) (pa_cons (pv 3)
            (pa_cons (C8.pe_c L.rfrom hr (by decide) (by rfl) (pa_cons (pv 1) (pa_cons (pe_ix ix_tup (pv 3) pe_int (fun _ _ => rfl)) (pa_cons pe_int pa_nil)))) pa_nil)))) pa_nil)))))
        (Sf.qss_cut (Sf.qs_set (i := 12) scLaw.nd rfl (Or.inl rfl) (Sf.qe_lst (Sf.qa_cons (Sf.qe_cmp (op_eqO FE hE1 hE2 bE pass0 hr3) (Sf.PE.up (pv 5)) (Sf.qe_c L.code hr (by decide) (by rfl) (Sf.PA.up (pa_cons (pv 11) pa_nil))) (nomark _))
            (Sf.qa_cons (Sf.qe_cmp (op_neO FE hE1 hE2 L.ne hcls bE pass0 hr4) (Sf.PE.up (pv 5)) (Sf.qe_c L.code hr (by decide) (by rfl) (Sf.PA.up (pa_cons (pv 11) pa_nil))) (nomark _))
            (Sf.qa_cons (Sf.qe_cmp (op_eqO FE hE1 hE2 bE pass0 hr3) (Sf.PE.up (pv 5)) (Sf.qe_c L.code hr (by decide) (by rfl) (Sf.PA.up (pa_cons (pv 3) pa_nil))) (nomark _)) (Sf.PA.up pa_nil))))))
        (Sf.qss_cut (Sf.PS.up (ps_if (PW.pt (pw_or (pt_not (pt_val (C8.pe_c L.like hr (by decide) (by rfl) (pa_cons (pv 12) (pa_cons (pe_lst (pa_cons (pe_cmpR (op_eqD hr.units) (pv 11) (pv 3) (nomark _)) (pa_cons (pe_cmpR (op_neD hr.units) (pv 11) (pv 3) (nomark _)) (pa_cons pe_bl pa_nil)))) pa_nil)))))
            (pw_or1 (pt_cmpR (op_inO FE hE1 hE2 L.ns bE pass0 hr4 spCEq_mono) (pv 5) (pe_lst (pa_cons pe_non (pa_cons (pv 3) (pa_cons (pe_ix ix_tup (pv 3) pe_int (fun _ _ => rfl)) (pa_cons pe_int pa_nil))))) (by rfl))))) (pss_one (ps_ret pe_bl)) pss_nil))
        (Sf.qss_cut (Sf.qs_set (i := 13) scLaw.nd rfl (Or.inl rfl) (Sf.qe_cmeth (Sf.PE.up (pe_glob (v := .ref C) (by rfl) L.G.mgC rfl)) L.G.rd cmI FI hr12 bI .nil pass0 (Sf.PA.up (pa_cons (pe_pr L.target hr (by decide) (pv 5)) pa_nil))))
        (Sf.qss_cons (Sf.PS.up (ps_set (i := 14) scLaw.nd rfl (Or.inl rfl) (pe_callB call_len_seq (by rfl) T.len PySem.boot_len (pa_cons (pe_ix ix_tup (pe_ix ix_tup (pv 3) pe_int (fun _ _ => rfl)) pe_int (fun _ _ => rfl)) pa_nil))))
        (Sf.qss_one (Sf.PS.up (ps_if (pt_not (pt_val (C8.pe_c L.like hr (by decide) (by rfl) (pa_cons (C8.pe_c L.rof hr (by decide) (by rfl) (pa_cons (pv 13) pa_nil)) (pa_cons (pe_tup (pa_cons (pe_ix ix_tup (pv 3) pe_int (fun _ _ => rfl)) (pa_cons (pe_ix ix_tup (pv 3) pe_int (fun _ _ => rfl)) (pa_cons pe_int (pa_cons (pe_listRg rfl (by rfl) T.list (prg_1 (by rfl) T.range (pv 14))) pa_nil))))) pa_nil))))) (pss_one (ps_ret pe_bl)) pss_nil)))))))))))))))))
      (Sf.qss_one (Sf.PS.up (ps_ret (pe_and (pe_cmpR (op_eqD hr.units) (pe_lst (pa_cons (ClX.pe_cval (pe_glob (v := .ref C) (by rfl) L.G.mgC rfl)) (pa_cons (ClX.pe_cval (pe_glob (v := .ref C) (by rfl) L.G.mgC rfl)) pa_nil))) (pe_lst (pa_cons pe_int (pa_cons pe_int pa_nil))) (nomark _)) (pe_one (pe_cmpR op_eq (pe_con (pv 5) rfl) pe_int (nomark _)))))))), ?_⟩
    have four : ∀ m : Nat, m ≤ 1000 → m ≤ sizeLine := fun m h => Nat.le_of_lt (small1000 h)
    -- the bag
    refine ⟨_, rfl, a, ns, rfl, hS, hln, fun b l H1 s1 nb nl B => ?_⟩
    refine ⟨5, rfl, by decide, by decide, ?_⟩
    refine for_it (walk_range (lo := 0) (n := (5 : Int).toNat)) (fun i σ H' => ∃ v2 v3 v4 v5 v6 v7 v8 v9 v10 v11 v12 v13 v14 : Option V, σ = [some (.ref a), some (.ref b), v2, v3, v4, v5, v6, v7, v8, v9, v10, v11, v12, v13, v14] ∧ BagAt H' b l ns ∧
        (0 < i → ∃ (c r : Addr) (p : TP), v5 = some (.ref c) ∧ Tn C CG b l ns r c p H'))
      ⟨none, none, none, none, none, none, none, none, none, none, none, none, none, rfl, B, fun z => absurd z (Nat.lt_irrefl 0)⟩ (fun _ _ _ _ _ => True.intro) ?_ ?_
    · rintro i x σ H2 H' hi ⟨v2, v3, v4, v5, v6, v7, v8, v9, v10, v11, v12, v13, v14, rfl, B2, hOld⟩ ⟨rfl, rfl⟩
      clear s1 nb nl B hOld
      -- the rule
      refine ⟨fun σ H' => ∃ (v2 : Option V) (r sp sq tp tq il : Addr) (n m : Nat) (ts eds : Es) (L : Nat) (im : List Nat → Nat), σ = [some (.ref a), some (.ref b), v2, some (.ref r), v4, v5, v6, v7, v8, v9, v10, v11, v12, v13, v14] ∧ BagAt H' b l ns ∧ RuleAt H' r sp sq tp tq il n m ts eds L im, ?_, ?_⟩
      · exact ⟨_, rfl, b, l, ns, 60, rfl, B2, by decide, by decide, fun r sp sq tp tq il n m ts eds L im H5 kp B5 nr ntq nil_ RA few => ⟨_, r, sp, sq, tp, tq, il, n, m, ts, eds, L, im, rfl, B5, RA⟩⟩
      clear v2 v3
      rintro _ H3 ⟨v2, r, sp, sq, tp, tq, il, n, m, ts, eds, W, im, rfl, B3, R3⟩
      -- handed, code
      refine ⟨_, rfl, r, _, _, _, rfl, rfl, SqT.of R3.ob, rfl, il, _, rfl, .inl (SqL.of R3.il), fun hd hhd => ?_⟩
      have s4 := same_upd (o := .lst (nW ((win ts W).map im))) hhd
      have e4 : upd H3 hd (.lst (nW ((win ts W).map im))) hd = some (.lst (nW ((win ts W).map im))) := upd_same
      have R4 := R3.same s4
      have nd := B3.ne_new hhd
      refine ⟨_, rfl, r, _, _, _, rfl, rfl, SqT.of R4.ob, rfl, sp, sq, n, ts, rfl, R4.s, by have := R4.n8; omega, R4.s24, fun g1 us H5 h1 s5 ng1 G1 => ?_⟩
      have R5 := R4.same s5
      refine ⟨_, rfl, r, _, _, _, rfl, rfl, SqT.of R5.ob, rfl, tp, tq, m, eds, rfl, R5.t, by have := R5.m8; omega, R5.t24, fun g2 ws H6 h2 s6 ng2 G2 => ?_⟩
      have R6 := R5.same s6
      have s46 := (s4.trans s5).trans s6
      refine ⟨_, rfl, r, _, _, _, rfl, rfl, SqT.of R6.ob, rfl, _, rfl, ?_⟩
      intro c dx nc hdx ne
      refine init_of R6 h1 h2 (G1.same s6) G2 (s6 _ _ (s5 _ _ e4)) nc hdx ne fun H7 s7 CA => ⟨rfl, ?_⟩
      have s47 := s46.trans s7
      have T7 : Tn C CG b l ns r c ⟨sp, sq, tp, tq, il, g1, g2, n, m, ts, eds, us, ws, W, im⟩ H7 := ⟨B3.same s47, R6.same s7, CA, h1, h2⟩
      -- handed.clear()
      refine ⟨fun σ H' => ∃ (v4 : Option V) (c : Addr) (p : TP), σ = [some (.ref a), some (.ref b), v2, some (.ref r), v4, some (.ref c), v6, v7, v8, v9, v10, v11, v12, v13, v14] ∧ Tn C CG b l ns r c p H', ?_, ?_⟩
      · have e7 := s7 _ _ (s6 _ _ (s5 _ _ e4))
        refine ⟨_, rfl, .inl ⟨rfl, _, SqL.of e7⟩, hd, _, rfl, rfl, e7, ?_⟩
        exact ⟨_, c, _, rfl, T7.off e7 nd (ne_of_none B3.sc hhd).symm (ne_of_none R3.s.ls hhd) (ne_of_none R3.t.ls hhd) (ne_of_none R3.il hhd)⟩
      clear T7 s47 CA s7 ne hdx nc dx s46 G2 ng2 s6 h2 G1 ng1 s5 h1 R6 R5 R4 e4 s4 nd hhd hd R3 B3 B2 hi
      clear v4 v5
      rintro _ H4 ⟨v4, c, p, rfl, T4⟩
      -- the inner loop
      refine ⟨fun σ H' => ∃ (v6 v7 v8 : Option V), σ = [some (.ref a), some (.ref b), v2, some (.ref r), v4, some (.ref c), v6, v7, v8, v9, v10, v11, v12, v13, v14] ∧ Tn C CG b l ns r c p H', ?_, ?_⟩
      · refine ⟨2, rfl, by decide, by decide, ?_⟩
        refine for_it (walk_range (lo := 0) (n := (2 : Int).toNat)) (fun _ σ H' => ∃ (v6 v7 v8 : Option V), σ = [some (.ref a), some (.ref b), v2, some (.ref r), v4, some (.ref c), v6, v7, v8, v9, v10, v11, v12, v13, v14] ∧ Tn C CG b l ns r c p H')
          ⟨_, _, _, rfl, T4⟩ (fun _ _ _ _ _ => True.intro) ?_ (fun σ H' h => h)
        rintro i2 x σ H2 Hb hi2 ⟨v6, v7, v8, rfl, Tb⟩ ⟨rfl, rfl⟩
        obtain ⟨dx, it, tb, hc, _, _⟩ := id Tb.co.ob
        -- images
        refine ⟨_, rfl, c, dx, _, rfl, hc, clook_no _ _ _ _ _ (by decide +kernel), c, p.g1, p.g2, p.n, p.m, p.us, p.ws, p.L, p.im, rfl, Tb.co, fun e he => ?_⟩
        have s1 := same_upd (o := .lst (nW ((win p.us p.L).map p.im))) he
        have T1 := Tb.same s1
        have e1 : upd Hb e (.lst (nW ((win p.us p.L).map p.im))) e = some (.lst (nW ((win p.us p.L).map p.im))) := upd_same
        have hc1 := s1 _ _ hc
        generalize upd Hb e (.lst (nW ((win p.us p.L).map p.im))) = H2 at *
        have few : (win p.ts p.L).length ≤ 600 := T1.ru.d.few
        have L4 : p.L ≤ 4 := T1.ru.d.l4
        -- shown
        have a1 := len_small (n := ((p.L : Nat) : Int)) (by omega) (by omega)
        have a2 := len_small (n := (((win p.ts p.L).length : Nat) : Int)) (by omega) (by omega)
        have z1 : (Str.ofString "Code(width ").length = 11 := by decide +kernel
        have z2 : (Str.ofString ", ").length = 2 := by decide +kernel
        have z3 : (Str.ofString " images)").length = 8 := by decide +kernel
        have zl : (nW ((win p.ts p.L).map p.im)).length = (win p.ts p.L).length := by rw [nW_len, List.length_map]
        refine ⟨_, rfl, r, _, _, _, rfl, rfl, SqT.of T1.ru.ob, rfl, _, rfl, log_small (by omega) (by omega), _, _, rfl, rfl, four _ (by omega), _, _, rfl, rfl, four _ (by rw [len_app]; omega), ?_⟩
        refine ⟨_, rfl, r, _, _, _, rfl, rfl, SqT.of T1.ru.ob, rfl, p.il, _, rfl, .inl (SqL.of T1.ru.il), _, rfl, ?_, _, _, rfl, rfl, four _ ?_, _, _, rfl, rfl, four _ ?_, ?_⟩
        · rw [zl]; exact log_small (by omega) (by omega)
        · rw [zl, len_app, len_app]; omega
        · rw [zl, len_app, len_app, len_app]; omega
        rw [zl]
        -- like
        refine ⟨_, rfl, c, p.g1, p.g2, p.n, p.m, p.us, p.ws, p.L, p.im, rfl, T1.co, fun r2 sp2 sq2 tp2 tq2 il2 H3 s3 nr2 R2 => ?_⟩
        have T3 := T1.same s3
        have hc3 := s3 _ _ hc1
        refine ⟨_, rfl, c, dx, _, rfl, hc3, c, p.g1, p.g2, p.n, p.m, p.us, p.ws, p.L, p.im, rfl, T3.co, _, rfl, ⟨by omega, ?_⟩, ?_⟩
        · rw [ps_win T1.e1]; omega
        refine ⟨_, rfl, c, dx, _, rfl, hc3, c, p.g1, p.g2, p.n, p.m, p.us, p.ws, p.L, p.im, rfl, T3.co, _, rfl, ?_⟩
        rw [ps_win T1.e1]
        refine ⟨four 3 (by decide), fun Fa hF => ?_⟩
        have s4 := same_upd (o := .lst [.ref r2, .int (((win p.ts p.L).length : Nat) : Int), .str (codeText p.L (win p.ts p.L).length)]) hF
        have F4 : upd H3 Fa (.lst [.ref r2, .int (((win p.ts p.L).length : Nat) : Int), .str (codeText p.L (win p.ts p.L).length)]) Fa = some (.lst [.ref r2, .int (((win p.ts p.L).length : Nat) : Int), .str (codeText p.L (win p.ts p.L).length)]) := upd_same
        have R4 := R2.same s4
        have T4' := T3.same s4
        have e4 := s4 _ _ (s3 _ _ e1)
        generalize upd H3 Fa (.lst [.ref r2, .int (((win p.ts p.L).length : Nat) : Int), .str (codeText p.L (win p.ts p.L).length)]) = H4' at *
        refine ⟨_, rfl, _, rfl, r, _, _, _, rfl, rfl, SqT.of T4'.ru.ob, rfl, p.il, _, rfl, .inl (SqL.of T4'.ru.il), _, rfl, four 3 (by decide), fun Du hDu => ?_⟩
        rw [zl]
        have s5 := same_upd (o := .lst [.ref r, .int (((win p.ts p.L).length : Nat) : Int), .str (codeText p.L (win p.ts p.L).length)]) hDu
        have T5 := T4'.same s5
        have R5 := R4.same s5
        refine ⟨_, _, rfl, ?_, fun Hc sc => ⟨true, rfl, if_f rfl ?_⟩⟩
        · refine lk_r3 (k := 0) (s5 _ _ F4) upd_same (lk_rule R5.ob T5.ru.ob R5.s T5.ru.s R5.t T5.ru.t T5.e1 T5.e2 R5.s24 R5.t24 (zs := (win p.ts p.L).map p.im) ?_ T5.ru.il (by rw [List.length_map]; omega))
          rw [← T5.wins]
          exact R5.il
        · have ec := sc _ _ (s5 _ _ e4)
          refine ⟨_, rfl, .inl ⟨rfl, _, SqL.of ec⟩, e, _, _, rfl, rfl, ec, by rw [nW_len, List.length_map, ps_win T1.e1]; exact small1000 (by omega), ?_⟩
          exact ⟨_, _, _, rfl, (T5.same sc).offN Tb he ec⟩
      clear T4
      clear v6 v7 v8 H4
      rintro _ H4 ⟨v6, v7, v8, rfl, Tb⟩
      obtain ⟨dx, it, tb, hc, _, _⟩ := id Tb.co.ob
      -- one, two
      refine ⟨_, rfl, c, dx, _, rfl, hc, clook_no _ _ _ _ _ (by decide +kernel), c, p.g1, p.g2, p.n, p.m, p.us, p.ws, p.L, p.im, rfl, Tb.co, fun e1 he1 => ?_⟩
      have s1 := same_upd (o := .lst (nW ((win p.us p.L).map p.im))) he1
      have T1 := Tb.same s1
      refine ⟨_, rfl, c, dx, _, rfl, s1 _ _ hc, clook_no _ _ _ _ _ (by decide +kernel), c, p.g1, p.g2, p.n, p.m, p.us, p.ws, p.L, p.im, rfl, T1.co, fun e2 he2 => ?_⟩
      have s2 := same_upd (o := .lst (nW ((win p.us p.L).map p.im))) he2
      have x1 := s2 _ _ (show upd H4 e1 (.lst (nW ((win p.us p.L).map p.im))) e1 = some (.lst (nW ((win p.us p.L).map p.im))) from upd_same)
      have T2 := T1.same s2
      have e21 : e2 ≠ e1 := fun z => by
        rw [z, upd_same] at he2
        cases he2
      refine ⟨_, _, rfl, ?_⟩
      refine ⟨_, rfl, .inl ⟨rfl, _, SqL.of x1⟩, e1, _, rfl, rfl, x1, ?_⟩
      have T3 := T2.offN (o := .lst []) Tb he1 x1
      have x2 : upd (upd (upd H4 e1 (.lst (nW ((win p.us p.L).map p.im)))) e2 (.lst (nW ((win p.us p.L).map p.im)))) e1 (.lst []) e2 = some (.lst (nW ((win p.us p.L).map p.im))) := by
        rw [upd_ne e21]
        exact upd_same
      generalize upd (upd (upd H4 e1 (.lst (nW ((win p.us p.L).map p.im)))) e2 (.lst (nW ((win p.us p.L).map p.im)))) e1 (.lst []) = H3 at *
      refine ⟨fun σ H' => ∃ (v6 v7 v8 v9 v10 : Option V), σ = [some (.ref a), some (.ref b), v2, some (.ref r), v4, some (.ref c), v6, v7, v8, v9, v10, v11, v12, v13, v14] ∧ Tn C CG b l ns r c p H', ?_, ?_⟩
      · refine ⟨_, rfl, _, rfl, r, _, _, _, rfl, rfl, SqT.of T3.ru.ob, rfl, _, _, dp_zs x2, dp_zs T3.ru.il, shZ _, shZ _, _, rfl, ?_⟩
        refine if_f ?_ ⟨_, _, _, _, _, rfl, T3⟩
        show (!PyData.eqvAll (zI ((win p.us p.L).map p.im)) (zI ((win p.ts p.L).map p.im))) = false
        have z := eqv_nW ((win p.us p.L).map p.im) ((win p.ts p.L).map p.im)
        have z : PyData.eqvAll (zI ((win p.us p.L).map p.im)) (zI ((win p.ts p.L).map p.im)) = _ := z
        rw [z, decide_eq_true T3.wins]
        rfl

      rintro _ H3 ⟨v6, v7, v8, v9, v10, rfl, T3⟩
      -- other
      refine ⟨fun σ H' => ∃ (v11 : Option V) (r2 sp2 sq2 tp2 tq2 il2 : Addr) (n2 m2 : Nat) (ts2 eds2 : Es) (L2 : Nat) (im2 : List Nat → Nat), σ = [some (.ref a), some (.ref b), v2, some (.ref r), v4, some (.ref c), v6, v7, v8, v9, v10, some (.ref r2), v12, v13, v14] ∧ Tn C CG b l ns r c p H' ∧ RuleAt H' r2 sp2 sq2 tp2 tq2 il2 n2 m2 ts2 eds2 L2 im2, ?_, ?_⟩
      · refine ⟨_, rfl, _, rfl, b, l, ns, 20, rfl, T3.bag, by decide, by decide, fun r1 sp1 sq1 tp1 tq1 il1 n1 m1 ts1 eds1 L1 im1 H4 k4 B4 nr1 ntq1 nil1 R1 few1 => ?_⟩
        have T4 := T3.keep k4 B4
        have m24 : p.ts.length ≤ 24 := T4.ru.s24
        refine ⟨_, rfl, _, rfl, _, rfl, r, _, _, _, rfl, rfl, SqT.of T4.ru.ob, rfl, b, l, ns, p.sp, p.sq, p.n, p.ts, 1, rfl, B4, T4.ru.s, T4.ru.n8, m24, by decide, by decide, by rw [win_one, List.length_map, List.length_range]; omega, fun r3 tp3 tq3 il3 m3 eds3 im3 H5 k5 B5 nr3 ntq3 nil3 R3 => ?_⟩
        have T5 := T4.keep k5 B5
        have R15 := R1.keep B4 k5
        refine ⟨four 3 (by decide), fun ol hol => ?_⟩
        have s6 := same_upd (o := .lst [.ref r1, .ref r, .ref r3]) hol
        have T6 := T5.same s6
        have o6 : upd H5 ol (.lst [.ref r1, .ref r, .ref r3]) ol = some (.lst [.ref r1, .ref r, .ref r3]) := upd_same
        have ob : ol ≠ b := T5.bag.ne_new hol
        have R16 := R15.same s6
        have R36 := R3.same s6
        generalize upd H5 ol (.lst [.ref r1, .ref r, .ref r3]) = H6 at *
        refine ⟨b, l, ol, ns, _, rfl, T6.bag, SqL.of o6, ob, by simp, (by show 3 ≤ 1000; decide), fun j v o hj BO => ?_⟩
        have T7 := T6.keep (.updb (o := o)) (T6.bag.upd BO)
        have hm := List.mem_of_getElem? hj
        simp only [List.mem_cons, List.not_mem_nil, or_false] at hm
        rcases hm with rfl | rfl | rfl
        · exact ⟨none, r1, _, _, _, _, _, _, _, _, _, _, _, rfl, T7, R16.keep T6.bag .updb⟩
        · exact ⟨none, r, _, _, _, _, _, _, _, _, _, _, _, rfl, T7, T7.ru⟩
        · exact ⟨none, r3, _, _, _, _, _, _, _, _, _, _, _, rfl, T7, R36.keep T6.bag .updb⟩
      rintro _ H4 ⟨_, r2, sp2, sq2, tp2, tq2, il2, n2, m2, ts2, eds2, L2, im2, rfl, T4, R4⟩
      obtain ⟨sm, hsm⟩ : ∃ sm : Bool, ruleB n2 p.n m2 p.m ts2 p.ts eds2 p.eds L2 p.L ((win ts2 L2).map im2) ((win p.ts p.L).map p.im) = sm := ⟨_, rfl⟩
      -- found
      refine ⟨fun σ H' => ∃ (Fa : Addr), σ = [some (.ref a), some (.ref b), v2, some (.ref r), v4, some (.ref c), v6, v7, v8, v9, v10, some (.ref r2), some (.ref Fa), v13, v14] ∧ Same H4 H' ∧ H' Fa = some (.lst [.bl sm, .bl (!sm), .bl true]), ?_, ?_⟩
      · obtain ⟨dx, it, tb, hc, _, _⟩ := id T4.co.ob
        refine ⟨_, rfl, _, rfl, r2, sp2, sq2, tp2, tq2, il2, n2, m2, ts2, eds2, L2, im2, rfl, R4, fun c5 g5 h5 us5 ws5 H5 s5 nc5 a5 b5 C5 => ?_⟩
        obtain ⟨dx5, it5, tb5, hc5, _, _⟩ := id C5.ob
        have T5 := T4.same s5
        refine ⟨c, c5, dx, dx5, _, _, rfl, rfl, s5 _ _ hc, hc5, c, p.g1, p.g2, p.n, p.m, p.us, p.ws, p.L, p.im, _, rfl, T5.co, .inl ⟨c5, g5, h5, n2, m2, us5, ws5, L2, im2, rfl, C5, _, rfl, ?_⟩⟩
        rw [code_rule T4.e1 T4.e2 a5 b5, hsm]
        refine ⟨_, rfl, _, rfl, r2, sp2, sq2, tp2, tq2, il2, n2, m2, ts2, eds2, L2, im2, rfl, R4.same s5, fun c6 g6 h6 us6 ws6 H6 s6 nc6 a6 b6 C6 => ?_⟩
        obtain ⟨dx6, it6, tb6, hc6, _, _⟩ := id C6.ob
        have s56 := s5.trans s6
        have T6 := T4.same s56
        refine ⟨c, c6, dx, dx6, _, _, rfl, rfl, s56 _ _ hc, hc6, c, p.g1, p.g2, p.n, p.m, p.us, p.ws, p.L, p.im, _, rfl, T6.co, .inl ⟨c6, g6, h6, n2, m2, us6, ws6, L2, im2, rfl, C6, _, rfl, ?_⟩⟩
        rw [code_rule T4.e1 T4.e2 a6 b6, hsm]
        refine ⟨_, rfl, _, rfl, r, p.sp, p.sq, p.tp, p.tq, p.il, p.n, p.m, p.ts, p.eds, p.L, p.im, rfl, T6.ru, fun c7 g7 h7 us7 ws7 H7 s7 nc7 a7 b7 C7 => ?_⟩
        obtain ⟨dx7, it7, tb7, hc7, _, _⟩ := id C7.ob
        have s57 := s56.trans s7
        have T7 := T4.same s57
        refine ⟨c, c7, dx, dx7, _, _, rfl, rfl, s57 _ _ hc, hc7, c, p.g1, p.g2, p.n, p.m, p.us, p.ws, p.L, p.im, _, rfl, T7.co, .inl ⟨c7, g7, h7, p.n, p.m, us7, ws7, p.L, p.im, rfl, C7, _, rfl, ?_⟩⟩
        rw [code_rule T4.e1 T4.e2 a7 b7, ruleB_self]
        refine ⟨four 3 (by decide), fun Fa hF => ?_⟩
        exact ⟨Fa, rfl, s57.trans (same_upd hF), upd_same⟩
      rintro _ H5 ⟨Fa, rfl, s5, F5⟩
      have T5 := T4.same s5
      have R5 := R4.same s5
      -- the test
      refine ⟨fun σ H' => σ = [some (.ref a), some (.ref b), v2, some (.ref r), v4, some (.ref c), v6, v7, v8, v9, v10, some (.ref r2), some (.ref Fa), v13, v14] ∧ Tn C CG b l ns r c p H', ?_, ?_⟩
      · refine ⟨_, rfl, _, rfl, _, rfl, _, _, dp_rule R5, dp_rule T5.ru, shR _ _ _ _ _ _, shR _ _ _ _ _ _, ?_⟩
        refine ⟨_, rfl, _, rfl, _, _, dp_rule R5, dp_rule T5.ru, shR _ _ _ _ _ _, shR _ _ _ _ _ _, ?_⟩
        rw [eqv_rule, hsm]
        refine ⟨four 3 (by decide), fun Du hDu => ?_⟩
        have s6 := same_upd (o := .lst [.bl sm, .bl (!sm), .bl true]) hDu
        refine ⟨_, _, rfl, lk_b3 (k := 4) (s6 _ _ F5) upd_same, fun Hc sc => ⟨true, rfl, if_f rfl ?_⟩⟩
        have T6 := T5.same (s6.trans sc)
        refine ⟨_, rfl, _, rfl, _, rfl, r, _, _, _, rfl, rfl, SqT.of T6.ru.ob, rfl, four 4 (by decide), fun Li hLi => ?_⟩
        have s7 := same_upd (o := .lst [.non, .ref r, .ref p.il, .int 0]) hLi
        have L7 : upd Hc Li (.lst [.non, .ref r, .ref p.il, .int 0]) Li = some (.lst [.non, .ref r, .ref p.il, .int 0]) := upd_same
        have T7 := T6.same s7
        generalize upd Hc Li (.lst [.non, .ref r, .ref p.il, .int 0]) = H7 at *
        obtain ⟨dx, it, tb, hc, _, _⟩ := id T7.co.ob
        have odd : ∀ (y : V) (ty : Value), TyX K H7 y ty → PySem.W.kitOne K ty (.ref C) = some false → spCEq K C CG [.ref c, y] H7 (fun v H' => v = .bl false ∧ H' = H7) E0 := fun y ty h1 h2 => ⟨c, p.g1, p.g2, p.n, p.m, p.us, p.ws, p.L, p.im, y, rfl, T7.co, .inr ⟨⟨ty, h1, h2⟩, rfl, rfl⟩⟩
        refine ⟨c, Li, dx, _, _, rfl, rfl, hc, L7, fun y hy => ?_, _, rfl, if_f rfl ?_⟩
        · simp only [List.mem_cons, List.not_mem_nil, or_false] at hy
          rcases hy with rfl | rfl | rfl | rfl
          · exact ⟨.inl rfl, odd _ _ (.base .non) L.S.non⟩
          · exact ⟨.inr (.inr (.inr ⟨r, _, rfl, T7.ru.ob⟩)), odd _ _ (.base (.tup T7.ru.ob)) L.S.tup⟩
          · exact ⟨.inr (.inr (.inl ⟨p.il, _, rfl, T7.ru.il⟩)), odd _ _ (.base (.lst T7.ru.il)) L.S.lst⟩
          · exact ⟨.inr (.inl ⟨0, rfl⟩), odd _ _ (.base (.int 0)) L.S.int⟩
        · exact ⟨rfl, T7⟩
      clear R5 T5 F5 s5 R4 T4 hsm
      rintro _ H6 ⟨rfl, T6⟩
      -- plain
      refine ⟨fun σ H' => ∃ (d : Addr), σ = [some (.ref a), some (.ref b), v2, some (.ref r), v4, some (.ref c), v6, v7, v8, v9, v10, some (.ref r2), some (.ref Fa), some (.ref d), v14] ∧ Tn C CG b l ns r c p H' ∧ CodeAt C CG H' d p.g2 p.g2 p.m p.m p.ws p.ws 1 (fun q => q.headD 0), ?_, ?_⟩
      · obtain ⟨dx, it, tb, hc, _, _⟩ := id T6.co.ob
        refine ⟨rfl, _, rfl, c, dx, _, rfl, hc, c, p.g1, p.g2, p.n, p.m, p.us, p.ws, p.L, p.im, rfl, T6.co, p.g2, p.m, p.ws, rfl, T6.co.t, T6.co.ft, fun d H7 s7 nd C7 => ?_⟩
        exact ⟨d, rfl, T6.same s7, C7⟩
      rintro _ H7 ⟨d, rfl, T7, C7⟩
      -- size
      refine ⟨_, rfl, r, _, _, _, rfl, rfl, SqT.of T7.ru.ob, rfl, p.tp, _, _, _, rfl, rfl, SqT.of T7.ru.t.tp, rfl, p.tq, _, rfl, .inl (SqL.of T7.ru.t.ls), ?_⟩
      rw [vsOf_len]
      have m24 : p.eds.length ≤ 24 := T7.ru.t24
      refine ⟨_, rfl, d, p.g2, p.g2, p.m, p.m, p.ws, p.ws, 1, _, rfl, C7, fun r8 sp8 sq8 tp8 tq8 il8 H8 s8 nr8 R8 => ?_⟩
      have T8 := T7.same s8
      refine ⟨_, rfl, r, _, _, _, rfl, rfl, SqT.of T8.ru.ob, rfl, _, rfl, r, _, _, _, rfl, rfl, SqT.of T8.ru.ob, rfl, _, rfl, _, rfl, RgOk.of_le (by omega) (by omega) (by omega) (by omega), fun il9 hil9 => ?_⟩
      have s9 := same_upd (o := .lst (rgV 0 ((p.eds.length : Nat) : Int))) hil9
      have e9 : upd H8 il9 (.lst (rgV 0 ((p.eds.length : Nat) : Int))) il9 = some (.lst (nW (List.range p.eds.length))) := by rw [upd_same, rgV_nW]
      have T9 := T8.same s9
      have R9 := R8.same s9
      generalize upd H8 il9 (.lst (rgV 0 ((p.eds.length : Nat) : Int))) = H9 at *
      refine ⟨four 4 (by decide), fun Du hDu => ?_⟩
      have s10 := same_upd (o := .tup [.ref p.tp, .ref p.tp, .int 1, .ref il9]) hDu
      have T10 := T9.same s10
      have R10 := R9.same s10
      refine ⟨_, _, rfl, ?_, fun Hc sc => ⟨true, rfl, if_f rfl ?_⟩⟩
      · have wl : p.ws.length = p.eds.length := ps_len T10.e2
        refine lk_rule (k := 1) R10.ob upd_same R10.s T10.ru.t R10.t T10.ru.t T10.e2 T10.e2 R10.s24 R10.t24 (zs := List.range p.eds.length) ?_ (s10 _ _ e9) (by rw [List.length_range]; omega)
        have z := R10.il
        rw [im_head, wl] at z
        exact z
      · have Tc := T10.same sc
        exact ⟨_, _, _, _, _, _, _, _, _, _, _, _, _, rfl, Tc.bag, fun _ => ⟨c, r, p, rfl, Tc⟩⟩
    · rintro σ H' ⟨v2, v3, v4, v5, v6, v7, v8, v9, v10, v11, v12, v13, v14, rfl, B2, hg⟩
      obtain ⟨c, r, p, rfl, T2⟩ := hg (by decide)
      obtain ⟨dx, it, tb, hc, _, _⟩ := id T2.co.ob
      obtain ⟨u4, hv4⟩ := L.G.v4
      obtain ⟨u600, hv600⟩ := L.G.v600
      obtain ⟨uc, hcon⟩ := L.con
      refine ⟨C, mc, _, _, rfl, L.G.rd, hv4, C, mc, _, _, rfl, L.G.rd, hv600, four 2 (by decide), fun l1 hl1 => ⟨four 2 (by decide), fun l2 hl2 => ?_⟩⟩
      have s1 := same_upd (o := .lst [.int 4, .int 600]) hl1
      have s2 := same_upd (o := .lst [.int 4, .int 600]) hl2
      refine ⟨_, _, .lst (SqL.of (s2 _ _ upd_same)) (.cons (.int 4) (.cons (.int 600) .nil)), .lst (SqL.of upd_same) (.cons (.int 4) (.cons (.int 600) .nil)), by decide +kernel, by decide +kernel, _, rfl, ?_⟩
      refine if_t (by decide +kernel) ?_
      refine ⟨_, rfl, c, C, dx, _, _, _, rfl, s2 _ _ (s1 _ _ hc), L.G.cl, hcon, clook_no _ _ _ _ _ (by decide +kernel), rfl, ?_⟩
      rw [decide_eq_true rfl]
      exact q _
end
end Lw
end
section
set_option Elab.async false
set_option linter.all false
set_option maxRecDepth 100000
set_option maxHeartbeats 1000000
/-! From the second model to the statement. -/
noncomputable section
namespace Sf
open PySem PySem.W PySem.Calls PyProof.Rows
theorem sq_refl {s : Shared} (h : s.gens = #[]) : SQ s s := ⟨rfl, rfl, rfl, rfl, rfl, fun i => by rw [h]; exact .none⟩
theorem sr_refl {Z : Nat → Prop} {s : Shared} (h : s.gens = #[]) : SR Z s s := ⟨rfl, rfl, rfl, rfl, rfl, fun i => by rw [h]; exact .none⟩
/-- a thread of the second model that ends well, run by the scheduler -/
theorem thread_S {P : Program} {w : World} {t : Sem Fin} {s : Shared} {R : Result → Shared → Prop} (hz : s.asleep) (hg : s.gens = #[])
    (h : wpAny (mp P w) callerA t (fun fin s' => ∃ f, fin = .done f ∧ (R (.ok f) s' ∧ NM s') ∧ leftWithCleanup s'.gens = false) (fun e s' => (R (.error e) s' ∧ NM s') ∧ leftWithCleanup s'.gens = false) s) :
    ∃ n r xE sE, schedN (denote table) P w n (.single s ⟨t, .builtin "claim.caller" {}, default, []⟩) = .halted (outcomeOf r) xE ∧ xE.heap = sE.heap ∧ xE.os = sE.os ∧ xE.heap.life = s.heap.life ∧ R r sE := by
  obtain ⟨n, r, sE, hn, hR, hm⟩ := (wp_iff_halts (M := mp P w) (c := .builtin "claim.caller" {}) t (fun r s' => R r s' ∧ NM s') default s).mp
    (wp_of_wpAny_done (R := fun r s' => (R r s' ∧ NM s') ∧ leftWithCleanup s'.gens = false) caller_in h default)
  obtain ⟨N, xE, h1, h2, h3⟩ := sim n s t _ default [] s t [] r sE (sq_refl hg) (.same rfl t) .nil hn hm hz
  exact ⟨N, r, xE, sE, h1, h2.heap.symm, h2.os.symm, h3, hR⟩
/-- what is wanted at the end of the call -/
def Fine (c : ClaimW) (s : Shared) (args : List WData) (vs : List Value) (s₁ : Shared) (kept : Heap → Prop) (r : Result) (s' : Shared) : Prop := c.Ends s args vs s₁ r s' ∧ s'.os = s.os ∧ AllBare s'.gens ∧ kept s'.heap ∧ NM s'
theorem callFrom_S {c : ClaimW} {tree : List Value → Sem Fin} {w : World} {s : Shared} {free : Addr → Prop} {gens : Prop} {kept : Heap → Prop} (hz : s.asleep) (hgens : s.gens = #[])
    (spec : ∀ args, c.pre args = true → WData.layableAll args = true → ∀ ord : List DictEntry → List DictEntry, (∀ l, (ord l).Perm l) → ∃ vs s₁, layAllW c.records (classAt s.heap) w.params ord args s = some (vs, s₁) ∧
      wpAny (mp c.prog w) callerA (tree vs) (fun fin s' => ∃ f, fin = .done f ∧ Fine c s args vs s₁ kept (.ok f) s') (fun e s' => Fine c s args vs s₁ kept (.error e) s') s₁) :
    c.CallFrom (fun vs => ⟨tree vs, .builtin "claim.caller" {}, default, []⟩) w free gens kept s := by
  intro args hpre hlay ord hord
  obtain ⟨vs, s₁, hl, h⟩ := spec args hpre hlay ord hord
  obtain ⟨g1, _, _, lf1⟩ := layAllW_rest _ _ _ hl
  obtain ⟨n, r, xE, sE, hs, eh, eo, el, q1, q2, q3⟩ := thread_S (P := c.prog) (w := w) (t := tree vs) (s := s₁) (R := fun r s' => c.Ends s args vs s₁ r s' ∧ s'.os = s.os ∧ kept s'.heap) (Shared.asleep_of_life lf1 hz) (g1.trans hgens)
    (wpAny_mono h (fun fin s' ⟨f, ef, a1, a2, a3, a4, a5⟩ => ⟨f, ef, ⟨⟨a1, a2, a4⟩, a5⟩, leftWithCleanup_false_of_bare a3⟩) fun e s' ⟨a1, a2, a3, a4, a5⟩ => ⟨⟨⟨a1, a2, a4⟩, a5⟩, leftWithCleanup_false_of_bare a3⟩)
  have q1 := q1.congr eh
  refine ⟨vs, s₁, hl, n, _, xE, hs, ?_, (fun _ i x e => by rw [hgens] at e; simp at e), (by rw [eh]; exact q3), congrArg Life.seen (el.trans lf1), Shared.rest_eq (eo.trans q2)⟩
  rcases q1 with ⟨v, rfl, d1, d2, d3, d4, d5⟩ | ⟨e, ob, cls, rfl, d1, d2, d3, d4, d5⟩
  · exact .inl ⟨v, rfl, d1, d2, d3, fun b o y _ => d4 b o y, d5⟩
  · exact .inr ⟨e, ob, cls, rfl, d1, d2, d3, d4, fun b o y _ => d5 b o y⟩
/-- what the law's call promises, in the second model -/
abbrev WalkS (q : Program) (loose : List Str) (XP : (Str → Option Value) → Heap → Prop) (YP : World → Heap → Prop) (r : RowW) (d : DefRec) (kwd : List (Str × Expr)) : Prop :=
  ∀ (w : World) (s₀ s₁ : Shared) (mg mb : Str → Option Value), Ground q loose r.records XP w s₀ mg mb s₁.heap → YP w s₁.heap → ∀ (a : Addr) (o : Obj) (pm cd doc dV kV : Value), s₁.heap.get? a = some o →
    o.data = .func { docDef d.name d.params d.body d.scope pm cd doc with defaults := dV, kwdefaults := kV } → s₁.heap.CodeRec cd d.name → Dflts mg s₁.heap d.params kwd dV kV → mg d.name = some (.ref a) → s₁.gens = #[] →
    ∀ (args : List WData) (vals : List Value) (as : List Addr), r.claim.pre args = true → WData.layableAll args = true → ReadsAllW r.records (classAt s₀.heap) s₁.heap vals args as → WellAll w.params s₁.heap vals args → (∀ a ∈ as, (a == sysModules) = false) →
      wpAny (mp r.prog w) callerA (PySem.call (.ref a) vals) (fun v s' => GoodWG r.claim (classAt s₀.heap) (ExcName.means s₀.heap) args s₁ (.ok (.ret v)) s' ∧ NM s')
        (fun e s' => GoodWG r.claim (classAt s₀.heap) (ExcName.means s₀.heap) args s₁ (.error e) s' ∧ NM s') s₁
end Sf
end
end
section
set_option Elab.async false
set_option linter.all false
set_option maxRecDepth 100000
set_option maxHeartbeats 1000000
/-! The head over the second model. -/
noncomputable section
namespace Sf
open PySem PySem.W PySem.Calls PyProof.Rows HandSHeadRun
/-- the run of the top, and the law's promise in the second model -/
theorem head_S {r : OpenRow} {q : Program} {H : Hook} {ob : SharedT → H.α} {M : Nat} {loose : List PySem.Str} {d : DefRec} {kwd : List (PySem.Str × PySem.Expr)} (ho : ∀ s : SharedT, ob s = H.obs s.abs)
    (e : opening r.prog = plainProg r.prog.main.scope.names) (f : ∀ s, fenceModules? r.prog s = some s) (run : ∀ w, RunEq r q H ob M loose w)
    (hdef : defOf q r.name = some (d, kwd)) (hp : r.prog.theDef r.name = some (d.params, d.body, d.scope)) (hk : kwWritten? d.params.kwonlyargs d.params.kw_defaults = some kwd)
    (hwr : (!r.writes || r.records.isEmpty) = true) (k1 : r.wellSaid = true) (ok : (chainsOk q && opensWell r.prog && (frees r.toRowW && r.within.isEmpty)) = true) (hb : r.prog.bare) (hw : r.toRowW.promised)
    (call : WalkS q loose (XL q []) H.says r.toRowW d kwd) : r.Holds := by
  have left : LeftO r.prog q loose (fun s => xlAt q [] s && recOk r.toRowW.records s) H.obs H.val (M + 600) true :=
    left_one (M := M) e (Nat.ble_eq_true_of_le (by omega)) f (Nat.ble_eq_true_of_le (by omega)) fun w os => by
      have eo : ob = fun s => H.obs s.abs := funext ho
      have z := run w os
      rw [eo] at z
      simp only [endQ_eq, seenQ_eq]
      exact z
  simp only [Bool.and_eq_true] at ok
  obtain ⟨⟨hch, hop⟩, hfr, hwi⟩ := ok
  obtain ⟨hsame, hu, ha, hap, hm⟩ := frees_parts hfr
  have both : ∀ s : Shared, (xlAt q [] s && recOk r.toRowW.records s) = true → XL q [] (s.heap.nsMap mainGlobals) s.heap ∧ RecFacts r.records s.heap := fun s z => ⟨xl_of s (Bool.and_eq_true_iff.mp z).1, recFacts_of (Bool.and_eq_true_iff.mp z).2⟩
  refine ⟨k1, hw, ⟨hb, hop, by show r.toRowW.makers.map _ = []; rw [hm]; rfl⟩, hw.witness, fun w => ⟨(left.behind (fun s z => (both s z).1) hch w).1, fun s' hs' => ?_⟩⟩
  obtain ⟨s₀, hf, hg0, s, hT, hz, hgn, hg, G, y⟩ := (left.behind (XP := fun mg h => XL q [] mg h ∧ RecFacts r.records h) both hch w).2 s' hs'
  have T := hT
  have G0 : Ground q loose [] (XL q []) w s (s.heap.nsMap mainGlobals) (s.heap.nsMap builtinsNs) s.heap := ⟨G.T, G.B, G.D, G.TE, G.TD, G.W, G.X.1, G.cls, G.has, G.apart, G.once, G.K⟩
  have rf := G.X.2
  have gn : s.gens = #[] := Array.eq_empty_of_size_eq_zero (beq_iff_eq.mp hgn)
  refine ⟨s₀, hf, hg0, s, hT, fun n hn => ?_, rf.1, rf.2.1, callFrom_S (c := r.claim) hz gn fun args hpre hlay ord hord => ?_⟩
  · obtain rfl : n = r.name := by split at hn <;> simp_all
    exact pinned_of_view hg G0 hdef hp hk
  have GR : Ground q loose r.records (XL q []) w s _ _ s.heap := rf.ground G0
  obtain ⟨⟨vs, s₁⟩, hl⟩ := Option.isSome_iff_exists.mp (layAllW_isSome (P := w.params) (ord := ord) GR.has args r.args s (pre_splitW hpre).1)
  have kp := layAllW_keeps _ _ _ hl
  obtain ⟨g1, _, z1, _⟩ := layAllW_rest _ _ _ hl
  obtain ⟨as, hrd, hin, hold⟩ := reads_layAllW hord _ _ _ hl hlay s₁.heap (fun _ _ e => e)
  have L : Laid r.records w s s₁ args vs as := ⟨⟨ord, hord, hl⟩, hrd, hin, hold, kp, g1.trans gn, z1⟩
  have G1 := GR.keeps XL.keeps kp
  obtain ⟨a, o, pm, cd, doc, dV, kV, h1, h2, h3, h4, h5⟩ := G1.fn hdef
  have hname := defOf_name hdef
  have hx := call w s s₁ _ _ G1 (H.keeps _ _ _ (H.of w s y) kp) a o pm cd doc dV kV h2 h3 h4 h5 (hname ▸ h1) L.gens args vs as hpre hlay L.reads L.well (L.low GR.low)
  have fine : ∀ (rr : Result) (s' : Shared), GoodWG r.claim (classAt s.heap) (ExcName.means s.heap) args s₁ rr s' ∧ NM s' → Fine r.claim s args vs s₁ (fun h' => r.writes = true → namesKept r.claim.prog r.keeps s.heap h' ∧ ∀ x ∈ r.claim.records, ∀ a, classAt s.heap x.1 = some a → recordClass h' a x.1 (x.2.map (·.1)) = true) rr s' := fun rr s' ⟨g, nm⟩ =>
    have z := g.laid (c := r.claim) hsame (List.isEmpty_iff.mp hwi) (ident_freeW hu ha hap) L
    ⟨z.1, z.2.1, z.2.2, fun q => ⟨namesKept_of T hg r.keeps kp g.2.1.old, noTable hwr q⟩, nm⟩
  refine ⟨vs, s₁, hl, ?_⟩
  refine wpAny_bind (wpAny_nsGet G1.T.g ?_)
  rw [h1]
  exact wpAny_bind (wpAny_mono hx (fun v s' g => wpAny_pure ⟨_, rfl, fine _ _ g⟩) fun e s' g => fine _ _ g)
end Sf
end
end
section
set_option Elab.async false
set_option linter.all false
set_option maxRecDepth 100000
set_option maxHeartbeats 1000000
/-! The law's promise, from the promise of its def in the second model. -/
noncomputable section
namespace Sf
open PySem PySem.W L2 PyProof.Rows
theorem bare_sr {S : Nat → Prop} {x s : Shared} (h : SR S x s) (hb : AllBare x.gens) : AllBare s.gens := fun y hy => by
  obtain ⟨i, hi, e⟩ := Array.mem_iff_getElem.mp hy
  have q := h.gens i
  rw [show s.gens[i]? = some y by rw [Array.getElem?_eq_getElem hi, e]] at q
  generalize hz : x.gens[i]? = z at q
  cases q with
  | some q =>
    have b := hb _ (Array.mem_of_getElem? hz)
    cases q <;> exact b
section
variable {P : Program} {w : World} {K : PySem.W.Frag} {a : Addr} {vs : List Value} {ns : List Int} {s : Shared}
/-- the script, tracked (or one of the module's own objects) -/
theorem script_at (KX : K.In s.heap) (ha : s.heap.get? a = some { cls := .type "list", data := .seq vs.toArray }) (hi : IntsAre vs ns) (hl : ns.length ≤ sizeLine) :
    ∃ H : Hp, Only H ∧ SqL K H a (ns.map V.int) ∧ HOk P w H s.heap ∧ ∀ b u, H b = some u → b = a ∧ K.lookup a = none := by
  have rv := vals_ints hi
  cases hk : K.lookup a with
  | some o =>
    have e := KX a o hk
    rw [ha] at e
    cases e
    refine ⟨fun _ => none, fun _ => .inl rfl, .inr ⟨_, vs.toArray, _, hk, rfl, rfl, rfl, ?_, by simpa using rv⟩, fun b u z => (nomatch z), fun b u z => (nomatch z)⟩
    rw [List.size_toArray, hi.length]; exact hl
  | none =>
    let H : Hp := fun b => if b = a then some (.frz { cls := .type "list", data := .seq vs.toArray } (.lst (ns.map V.int))) else none
    have at_ : H a = some (.frz { cls := .type "list", data := .seq vs.toArray } (.lst (ns.map V.int))) := if_pos rfl
    have off : ∀ {b}, b ≠ a → H b = none := fun hb => if_neg hb
    have one : ∀ b u, H b = some u → b = a ∧ u = .frz { cls := .type "list", data := .seq vs.toArray } (.lst (ns.map V.int)) := fun b u z => by
      by_cases hb : b = a
      · subst hb; rw [at_] at z; cases z; exact ⟨rfl, rfl⟩
      · rw [off hb] at z; cases z
    refine ⟨H, fun b => ?_, .inl (.inr ⟨_, at_⟩), fun b u z => ?_, fun b u z => ⟨(one b u z).1, rfl⟩⟩
    · by_cases hb : b = a
      · subst hb; exact .inr ⟨_, _, at_⟩
      · exact .inl (off hb)
    · obtain ⟨rfl, rfl⟩ := one b u z
      exact ⟨ha, by rw [List.length_map]; exact hl, vs, _, rv, ha⟩
theorem env_at {mg mb : Str → Option Value} {H : Hp} (KX : K.In s.heap) (hns : s.heap.Ns mainGlobals mg) (hb : s.heap.Ns builtinsNs mb) (hbb : ∀ x : Str, x ≠ "__name__" → mb x = bootBuiltins x) (hlim : s.heap.NoLimit) (hg : s.gens = #[])
    (ha : s.heap.get? a = some { cls := .type "list", data := .seq vs.toArray }) (hok : HOk P w H s.heap) (hA : ∀ b u, H b = some u → b = a ∧ K.lookup a = none) : Env0 P w K mg (hidT s.heap H) callerA [] s H := by
  have free : ∀ {b o es ep}, s.heap.get? b = some o → o.data = .dict es ep → H b = none := fun {b o es ep} e d => by
    cases q : H b with
    | none => rfl
    | some u =>
      rw [(hA b u q).1, ha] at e
      cases e
      cases (show Data.seq vs.toArray _ = Data.dict es ep from d)
  have nsK : ∀ {b : Addr} {m : Str → Option Value}, s.heap.Ns b m → (hidT s.heap H).Ns b m := fun {b m} ⟨o, es, ep, e, d, r⟩ => ⟨o, es, ep, hidT_get e (free e d), d, r⟩
  refine ⟨rfl, ⟨fun b o e => hidT_get (KX b o e) ?_, nsK hns, ⟨mb, nsK hb, hbb⟩, hlim.imp fun mc z => ⟨nsK z.1, z.2⟩⟩, fun b o e => of_hidT e, Nat.le_of_eq (hidT_size _ _), trivial, fun b hb => (nomatch (show b ∈ ([] : List Addr) from hb)), hok, .of_eq hg⟩
  cases q : H b with
  | none => rfl
  | some u =>
    obtain ⟨h1, h2⟩ := hA b u q
    rw [h1, h2] at e; cases e
/-- the law's call in the second model -/
theorem law_S {mg mb : Str → Option Value} {CX : CXT} {k : Nat} {fa : Addr} {fd : FuncData} {x : Str} {sp : Sp} (KX : K.In s.heap) (hns : s.heap.Ns mainGlobals mg) (hb : s.heap.Ns builtinsNs mb) (hbb : ∀ x : Str, x ≠ "__name__" → mb x = bootBuiltins x) (hlim : s.heap.NoLimit) (hg : s.gens = #[])
    (ha : s.heap.get? a = some { cls := .type "list", data := .seq vs.toArray }) (hi : IntsAre vs ns) (hl : ns.length ≤ sizeLine) (hr : Room k callerA)
    (F : ∀ base : Heap, K.In base → base.Ns mainGlobals mg → FnS P w K mg base CX k fa fd [x] sp) (hbind : ∀ (s : Shared) (u : Value), BindsTo s fd ⟨[u], []⟩ [(x, u)])
    (hsp : ∀ H : Hp, Only H → SqL K H a (ns.map V.int) → sp [.ref a] H (fun v _ => v = .bl true) fun _ _ _ => False) (hCX : ∀ H e s', CX [] H s (fun _ _ _ => False) e s' → False) :
    codeAny (mp P w) callerA (.call (.ref fa) ⟨[.ref a], []⟩) (fun r s' => r = .ok (.ret (.bool true)) ∧ OldK s.heap s'.heap ∧ s'.os = s.os ∧ AllBare s'.gens ∧ NM s') s := by
  obtain ⟨H, hO, hS, hok, hA⟩ := script_at (P := P) (w := w) KX ha hi hl
  have e0 := env_at (P := P) (w := w) KX hns hb hbb hlim hg ha hok hA
  refine codeAny_mono ((F _ e0.mod.kin e0.mod.glob).run N0 callerA [] s H ⟨[.ref a], []⟩ [.ref a] [.ref a] _ _ hr e0 (hbind s (.ref a)) (.cons rfl .nil) (hsp H hO hS) s (sr_refl hg)) fun r s' ⟨y, hy, h⟩ => ?_
  match r, h with
  | .error e, h => exact (hCX H e y h).elim
  | .ok .next, h => exact False.elim h
  | .ok .brk, h => exact False.elim h
  | .ok .cont, h => exact False.elim h
  | .ok (.ret u), ⟨v, H', os, bare, un, hok', r', q⟩ =>
    have q : v = .bl true := q
    subst q
    obtain rfl : u = Value.bool true := r'
    refine ⟨rfl, OldK.of_keep fun b o e => ?_, hy.os.trans os, bare_sr hy bare, hy.nm⟩
    rw [hy.heap]
    rcases hO b with z | ⟨ob, xs, z⟩
    · exact un.keep b o e z (by intro z; exact absurd (show b ∈ ([] : List Addr) from z) (by simp)) (by simp)
    · have e1 := (hok b _ z).1
      have e2 := (hok' b _ (un.frzs b ob _ z)).1
      rw [e] at e1; cases e1
      exact e2
end
/-- the goal of the head (case hc), from the promise of the law's def -/
theorem walk_S {l : PySem.W.OpenLaw} {n k : Nat} {q : Program} {loose : List Str} {XP : (Str → Option Value) → Heap → Prop} {YP : World → Heap → Prop} {d : DefRec} {K : Params → PySem.W.Frag} {CX : World → CXT} {sp : World → Sp} {x : Str}
    (hn : l.most = some n) (hn2 : n ≤ sizeLine) (hdf : d.params.defaults = []) (hr : Room k callerA) (hY : ∀ (w : World) (h : Heap), YP w h → (K w.params).In h)
    (F : ∀ (w : World) (mg : Str → Option Value) (fa : Addr) (h : Heap), (K w.params).In h → h.Ns mainGlobals mg → mg d.name = some (.ref fa) →
      ∃ fd : FuncData, (∀ (s : Shared) (u : Value), BindsTo s fd ⟨[u], []⟩ [(x, u)]) ∧ ∀ base : Heap, (K w.params).In base → base.Ns mainGlobals mg → FnS l.prog w (K w.params) mg base (CX w) k fa fd [x] (sp w))
    (hsp : ∀ (w : World) (H : Hp) (a : Addr) (ns : List Int), ns.length ≤ n → Only H → SqL (K w.params) H a (ns.map V.int) → sp w [.ref a] H (fun v _ => v = .bl true) fun _ _ _ => False)
    (hCX : ∀ (w : World) (H : Hp) (s : Shared) (e : Value) (s' : Shared), CX w [] H s (fun _ _ _ => False) e s' → False) : WalkS q loose XP YP l.row.toRowW d [] := by
  intro w s₀ s₁ mg mb G Y fa o pm cd doc dV kV ho hd hcd hD hmg hg args vals as hpre hlay hrd hwl hlo
  have KX := hY w _ Y
  obtain ⟨a, vs, ns, rfl, rfl, hobj, hints, hlen⟩ := Att.script_of hn hpre hwl
  obtain ⟨fd, hbd, hF⟩ := F w mg fa _ KX G.T.g hmg
  refine wpAny_call (codeAny_mono (law_S KX G.T.g G.T.b G.T.builtins G.T.nolimit hg hobj hints (Nat.le_trans hlen hn2) hr hF hbd (fun H hO hS => hsp w H a ns hlen hO hS) fun H e s' => hCX w H s₁ e s') fun r s' ⟨er, h2, h3, h4, h5⟩ => ?_)
  subst er
  exact ⟨⟨.inl ⟨.bool true, .bool true, [], rfl, fun _ => rfl, .bool true, Att.post_true l _, fun _ => ⟨List.Pairwise.nil, fun _ hm => (nomatch hm)⟩⟩, h2, h3, h4⟩, h5⟩
end Sf
end
end
section
set_option Elab.async false
set_option linter.all false
set_option maxRecDepth 100000
namespace Lw
open PySem L2
theorem exm_own {K : PySem.W.Frag} {C S : Addr} (h1 : PySem.W.subIn K (.ref S) (.type "BaseException") = some true) (h2 : PySem.W.isClsIn K S = true) (h3 : PySem.W.typeIn K (.ref S) = some (.type "type")) (h4 : PySem.W.subIn K (.ref C) (.ref S) = some true) :
    PySem.W.exmOne K (.ref C) (.ref S) = some true := by
  have e1 : (PySem.W.subIn K (.ref S) (.type "BaseException") == some true) = true := by rw [h1] <;> rfl
  have e2 : ((PySem.W.clsIn K S).isSome && PySem.W.typeIn K (.ref S) == some (.type "type")) = true := by
    have h2' : (PySem.W.clsIn K S).isSome = true := h2
    rw [h2', h3] <;> rfl
  show (if (PySem.W.subIn K (.ref S) (.type "BaseException") == some true) = true then (if ((PySem.W.clsIn K S).isSome && PySem.W.typeIn K (.ref S) == some (.type "type")) = true then PySem.W.subIn K (.ref C) (.ref S) else none) else none) = some true
  rw [if_pos e1, if_pos e2]
  exact h4
theorem hd_at {K : PySem.W.Frag} {c P : Addr} (e : PySem.W.codeHdIn K c P = true) : ∃ (e : Value) (dd : Option Addr) (vs : Array Value) (sl : Array (Option Value)), K.lookup c = some ⟨e, dd, .fields vs, sl⟩ ∧ vs[11]? = some (.ref P) := by
  unfold PySem.W.codeHdIn at e
  split at e
  · rename_i vs _ hk
    simp only [Bool.and_eq_true] at e
    obtain ⟨⟨⟨⟨⟨e1, _⟩, _⟩, _⟩, _⟩, _⟩ := e
    split at e1
    · rename_i P' h11
      have hP : P' = P := beq_iff_eq.mp e1
      subst hP
      exact ⟨_, _, _, _, hk, h11⟩
    · cases e1
  · cases e
theorem kit_no {K : PySem.W.Frag} {C : Addr} {T : String} (h1 : PySem.W.isClsIn K C = true) (h2 : PySem.W.typeIn K (.ref C) = some (.type "type")) (h3 : PySem.W.subIn K (.type T) (.ref C) = some false) : PySem.W.kitOne K (.type T) (.ref C) = some false := by
  have e1 : ((PySem.W.clsIn K C).isSome && PySem.W.typeIn K (.ref C) == some (.type "type")) = true := by
    have h1' : (PySem.W.clsIn K C).isSome = true := h1
    rw [h1', h2]
    rfl
  show (if (Value.type T == Value.ref C) = true then some true else if ((PySem.W.clsIn K C).isSome && PySem.W.typeIn K (.ref C) == some (.type "type")) = true then PySem.W.subIn K (.type T) (.ref C) else none) = some false
  rw [if_neg (show ¬ ((Value.type T == Value.ref C) = true) from Bool.false_ne_true), if_pos e1]
  exact h3
theorem kit_me {K : PySem.W.Frag} {C : Addr} : PySem.W.kitOne K (.ref C) (.ref C) = some true := by
  unfold PySem.W.kitOne
  simp
set_option maxHeartbeats 4000000 in
theorem all_mk {l : PySem.W.OpenLaw} {w : World} {K : PySem.W.Frag} {h : Heap} {mg : Str → Option Value} {fa C f_bag f_pull f_of f_plan f_like f_check f_init f_graph f_cnt f_eds f_cst f_lea f_len f_eq p_st f_st CK f_cl f_pr f_pw f_cp f_wt f_wk f_pa f_ckw f_ckp f_cki f_ckf f_ki f_keq f_kln f_krp p_ksr f_ksr p_ktg f_ktg p_kwd f_kwd f_kim p_kid f_kid f_po f_aft f_pths f_lpc f_rf f_lru f_lco f_lro f_law : Addr} (X : K.In h) (G : h.Ns mainGlobals mg) (hfa : mg "law" = some (.ref fa))
    {t8 t24 : Tok}
    {od_bag an_bag : Option Addr} {sl_bag : Array (Option Value)} {oc_bag kV_bag dc_bag pm_bag cd_bag ct_bag : Value}
    {od_pull an_pull : Option Addr} {sl_pull : Array (Option Value)} {oc_pull kV_pull dc_pull pm_pull cd_pull ct_pull : Value}
    {od_of an_of : Option Addr} {sl_of : Array (Option Value)} {oc_of kV_of dc_of pm_of cd_of ct_of : Value}
    {od_plan an_plan : Option Addr} {sl_plan : Array (Option Value)} {oc_plan kV_plan dc_plan pm_plan cd_plan ct_plan : Value}
    {od_like an_like : Option Addr} {sl_like : Array (Option Value)} {oc_like kV_like dc_like pm_like cd_like ct_like : Value}
    {od_check an_check : Option Addr} {sl_check : Array (Option Value)} {oc_check kV_check dc_check pm_check cd_check ct_check : Value}
    {od_init an_init : Option Addr} {sl_init : Array (Option Value)} {oc_init kV_init dc_init pm_init cd_init ct_init : Value}
    {od_graph an_graph : Option Addr} {sl_graph : Array (Option Value)} {oc_graph kV_graph dc_graph pm_graph cd_graph ct_graph : Value}
    {od_cnt an_cnt : Option Addr} {sl_cnt : Array (Option Value)} {oc_cnt kV_cnt dc_cnt pm_cnt cd_cnt ct_cnt : Value}
    {od_eds an_eds : Option Addr} {sl_eds : Array (Option Value)} {oc_eds kV_eds dc_eds pm_eds cd_eds ct_eds : Value}
    {od_cst an_cst : Option Addr} {sl_cst : Array (Option Value)} {oc_cst kV_cst dc_cst pm_cst cd_cst ct_cst : Value}
    {od_lea an_lea : Option Addr} {sl_lea : Array (Option Value)} {oc_lea kV_lea dc_lea pm_lea cd_lea ct_lea : Value}
    {od_len an_len : Option Addr} {sl_len : Array (Option Value)} {oc_len kV_len dc_len pm_len cd_len ct_len : Value}
    {od_eq an_eq : Option Addr} {sl_eq : Array (Option Value)} {oc_eq kV_eq dc_eq pm_eq cd_eq ct_eq : Value}
    {re_st : List Value}
    {od_st an_st : Option Addr} {sl_st : Array (Option Value)} {oc_st kV_st dc_st pm_st cd_st ct_st : Value}
    {tk4 tk600 tk4i : Tok}
    {nmc qc : Str} {Nc : Addr} {bsc : List Value} {hdc : Bool} {snc : List Str} {subc : List Value} {abc : Bool} {colc : Option Bool} {ddc : Option Addr} {mk0 mk1 mk2 mk3 mk5 : Option Value} {newIdc : String}
    {t40 t2000 : Tok}
    {od_cl an_cl : Option Addr} {sl_cl : Array (Option Value)} {oc_cl kV_cl dc_cl pm_cl cd_cl ct_cl : Value}
    {od_pr an_pr : Option Addr} {sl_pr : Array (Option Value)} {oc_pr kV_pr dc_pr pm_pr cd_pr ct_pr : Value}
    {od_pw an_pw : Option Addr} {sl_pw : Array (Option Value)} {oc_pw kV_pw dc_pw pm_pw cd_pw ct_pw : Value}
    {od_cp an_cp : Option Addr} {sl_cp : Array (Option Value)} {oc_cp kV_cp dc_cp pm_cp cd_cp ct_cp : Value}
    {od_wt an_wt : Option Addr} {sl_wt : Array (Option Value)} {oc_wt kV_wt dc_wt pm_wt cd_wt ct_wt : Value}
    {od_wk an_wk : Option Addr} {sl_wk : Array (Option Value)} {oc_wk kV_wk dc_wk pm_wk cd_wk ct_wk : Value}
    {od_pa an_pa : Option Addr} {sl_pa : Array (Option Value)} {oc_pa kV_pa dc_pa pm_pa cd_pa ct_pa : Value}
    {od_ckw an_ckw : Option Addr} {sl_ckw : Array (Option Value)} {oc_ckw kV_ckw dc_ckw pm_ckw cd_ckw ct_ckw : Value}
    {od_ckp an_ckp : Option Addr} {sl_ckp : Array (Option Value)} {oc_ckp kV_ckp dc_ckp pm_ckp cd_ckp ct_ckp : Value}
    {od_cki an_cki : Option Addr} {sl_cki : Array (Option Value)} {oc_cki kV_cki dc_cki pm_cki cd_cki ct_cki : Value}
    {od_ckf an_ckf : Option Addr} {sl_ckf : Array (Option Value)} {oc_ckf kV_ckf dc_ckf pm_ckf cd_ckf ct_ckf : Value}
    {od_ki an_ki : Option Addr} {sl_ki : Array (Option Value)} {oc_ki kV_ki dc_ki pm_ki cd_ki ct_ki : Value}
    {od_keq an_keq : Option Addr} {sl_keq : Array (Option Value)} {oc_keq kV_keq dc_keq pm_keq cd_keq ct_keq : Value}
    {od_kln an_kln : Option Addr} {sl_kln : Array (Option Value)} {oc_kln kV_kln dc_kln pm_kln cd_kln ct_kln : Value}
    {od_krp an_krp : Option Addr} {sl_krp : Array (Option Value)} {oc_krp kV_krp dc_krp pm_krp cd_krp ct_krp : Value}
    {re_ksr : List Value}
    {od_ksr an_ksr : Option Addr} {sl_ksr : Array (Option Value)} {oc_ksr kV_ksr dc_ksr pm_ksr cd_ksr ct_ksr : Value}
    {re_ktg : List Value}
    {od_ktg an_ktg : Option Addr} {sl_ktg : Array (Option Value)} {oc_ktg kV_ktg dc_ktg pm_ktg cd_ktg ct_ktg : Value}
    {re_kwd : List Value}
    {od_kwd an_kwd : Option Addr} {sl_kwd : Array (Option Value)} {oc_kwd kV_kwd dc_kwd pm_kwd cd_kwd ct_kwd : Value}
    {od_kim an_kim : Option Addr} {sl_kim : Array (Option Value)} {oc_kim kV_kim dc_kim pm_kim cd_kim ct_kim : Value}
    {re_kid : List Value}
    {od_kid an_kid : Option Addr} {sl_kid : Array (Option Value)} {oc_kid kV_kid dc_kid pm_kid cd_kid ct_kid : Value}
    {od_po an_po : Option Addr} {sl_po : Array (Option Value)} {oc_po kV_po dc_po pm_po cd_po ct_po : Value}
    {od_aft an_aft : Option Addr} {sl_aft : Array (Option Value)} {oc_aft kV_aft dc_aft pm_aft cd_aft ct_aft : Value}
    {od_pths an_pths : Option Addr} {sl_pths : Array (Option Value)} {oc_pths kV_pths dc_pths pm_pths cd_pths ct_pths : Value}
    {od_lpc an_lpc : Option Addr} {sl_lpc : Array (Option Value)} {oc_lpc kV_lpc dc_lpc pm_lpc cd_lpc ct_lpc : Value}
    {od_rf an_rf : Option Addr} {sl_rf : Array (Option Value)} {oc_rf kV_rf dc_rf pm_rf cd_rf ct_rf : Value}
    {od_lru an_lru : Option Addr} {sl_lru : Array (Option Value)} {oc_lru kV_lru dc_lru pm_lru cd_lru ct_lru : Value}
    {od_lco an_lco : Option Addr} {sl_lco : Array (Option Value)} {oc_lco kV_lco dc_lco pm_lco cd_lco ct_lco : Value}
    {od_lro an_lro : Option Addr} {sl_lro : Array (Option Value)} {oc_lro kV_lro dc_lro pm_lro cd_lro ct_lro : Value}
    {od_law an_law : Option Addr} {sl_law : Array (Option Value)} {oc_law kV_law dc_law pm_law cd_law ct_law : Value}
    (z_len : PySem.W.nsIn K mainGlobals "len" = some none)
    (z_list : PySem.W.nsIn K mainGlobals "list" = some none)
    (z_tuple : PySem.W.nsIn K mainGlobals "tuple" = some none)
    (z_bool : PySem.W.nsIn K mainGlobals "bool" = some none)
    (z_int : PySem.W.nsIn K mainGlobals "int" = some none)
    (z_str : PySem.W.nsIn K mainGlobals "str" = some none)
    (z_isinstance : PySem.W.nsIn K mainGlobals "isinstance" = some none)
    (z_all : PySem.W.nsIn K mainGlobals "all" = some none)
    (z_zip : PySem.W.nsIn K mainGlobals "zip" = some none)
    (z_range : PySem.W.nsIn K mainGlobals "range" = some none)
    (z_enumerate : PySem.W.nsIn K mainGlobals "enumerate" = some none)
    (z_sum : PySem.W.nsIn K mainGlobals "sum" = some none)
    (z_reversed : PySem.W.nsIn K mainGlobals "reversed" = some none)
    (z_repr : PySem.W.nsIn K mainGlobals "repr" = some none)
    (z_set : PySem.W.nsIn K mainGlobals "set" = some none)
    (z_sorted : PySem.W.nsIn K mainGlobals "sorted" = some none)
    (z_dict : PySem.W.nsIn K mainGlobals "dict" = some none)
    (aC : PySem.W.nsIn K mainGlobals "Graph" = some (some (.ref C)))
    (gpg : PySem.W.plainGet K C Str.empty = true)
    (ghd : PySem.W.hasDictIn K C = true)
    (gpo : PySem.W.plainOver K C = true)
    (gsa : PySem.W.findIn K (.ref C) "__setattr__" = some (some (.builtin "object.__setattr__")))
    (gmk : PySem.W.makesIn K C = true)
    (gkc : PySem.W.keepIn K (.ref C) = true)
    (gnS : PySem.W.findIn K (.ref C) "state_count" = some none)
    (gnE : PySem.W.findIn K (.ref C) "edge_pairs" = some none)
    (grd : PySem.W.readsIn K C (.type "type") = true)
    (gga : PySem.W.specialIn K (.ref C) "__getattribute__" = some (some (.builtin "type.__getattribute__")))
    (gv8 : PySem.W.findCls K (.ref C) (.type "type") "MAX_STATES" = some (.val (.int 8 t8)))
    (gv24 : PySem.W.findCls K (.ref C) (.type "type") "MAX_EDGES" = some (.val (.int 24 t24)))
    (iha : PySem.W.findIn K (.ref C) "__class__" = some (some (.builtin "object.__class__")))
    (ihn : PySem.W.specialIn K (.builtin "object.__class__") "__get__" = some (some (.builtin "getset_descriptor.__get__")))
    (ihtk : PySem.W.takesIn K (.builtin "object.__class__") = some true)
    (ihm : PySem.W.mroIn K C (.type "object") = some true)
    (iCl : PySem.W.isClsIn K C = true)
    (tyC : PySem.W.typeIn K (.ref C) = some (.type "type"))
    (qn : PySem.W.subIn K (.type "NoneType") (.ref C) = some false)
    (qi : PySem.W.subIn K (.type "int") (.ref C) = some false)
    (ql : PySem.W.subIn K (.type "list") (.ref C) = some false)
    (qt : PySem.W.subIn K (.type "tuple") (.ref C) = some false)
    (a_bag : PySem.W.nsIn K mainGlobals "_law_bag" = some (some (.ref f_bag)))
    (l_bag : K.lookup f_bag = some ⟨oc_bag, od_bag, .func (PySem.W.fnOf "_law_bag" "_law_bag" (defArgs sBag) (defBody sBag) (defScope sBag) .none kV_bag dc_bag pm_bag an_bag cd_bag ct_bag), sl_bag⟩)
    (c_bag : PySem.W.codeIn K cd_bag "_law_bag" = true)
    (k_bag : PySem.W.keepIn K (.ref f_bag) = true)
    (a_pull : PySem.W.nsIn K mainGlobals "_law_pull" = some (some (.ref f_pull)))
    (l_pull : K.lookup f_pull = some ⟨oc_pull, od_pull, .func (PySem.W.fnOf "_law_pull" "_law_pull" (defArgs sPull) (defBody sPull) (defScope sPull) .none kV_pull dc_pull pm_pull an_pull cd_pull ct_pull), sl_pull⟩)
    (c_pull : PySem.W.codeIn K cd_pull "_law_pull" = true)
    (k_pull : PySem.W.keepIn K (.ref f_pull) = true)
    (a_of : PySem.W.nsIn K mainGlobals "_law_of" = some (some (.ref f_of)))
    (l_of : K.lookup f_of = some ⟨oc_of, od_of, .func (PySem.W.fnOf "_law_of" "_law_of" (defArgs sOf) (defBody sOf) (defScope sOf) .none kV_of dc_of pm_of an_of cd_of ct_of), sl_of⟩)
    (c_of : PySem.W.codeIn K cd_of "_law_of" = true)
    (k_of : PySem.W.keepIn K (.ref f_of) = true)
    (a_plan : PySem.W.nsIn K mainGlobals "_law_plan" = some (some (.ref f_plan)))
    (l_plan : K.lookup f_plan = some ⟨oc_plan, od_plan, .func (PySem.W.fnOf "_law_plan" "_law_plan" (defArgs sPlan) (defBody sPlan) (defScope sPlan) .none kV_plan dc_plan pm_plan an_plan cd_plan ct_plan), sl_plan⟩)
    (c_plan : PySem.W.codeIn K cd_plan "_law_plan" = true)
    (k_plan : PySem.W.keepIn K (.ref f_plan) = true)
    (a_like : PySem.W.nsIn K mainGlobals "_law_like" = some (some (.ref f_like)))
    (l_like : K.lookup f_like = some ⟨oc_like, od_like, .func (PySem.W.fnOf "_law_like" "_law_like" (defArgs sLike) (defBody sLike) (defScope sLike) .none kV_like dc_like pm_like an_like cd_like ct_like), sl_like⟩)
    (c_like : PySem.W.codeIn K cd_like "_law_like" = true)
    (k_like : PySem.W.keepIn K (.ref f_like) = true)
    (a_check : PySem.W.nsIn K mainGlobals "check_edges" = some (some (.ref f_check)))
    (l_check : K.lookup f_check = some ⟨oc_check, od_check, .func (PySem.W.fnOf "check_edges" "check_edges" (defArgs sCheck) (defBody sCheck) (defScope sCheck) .none kV_check dc_check pm_check an_check cd_check ct_check), sl_check⟩)
    (c_check : PySem.W.codeIn K cd_check "check_edges" = true)
    (k_check : PySem.W.keepIn K (.ref f_check) = true)
    (a_init : PySem.W.findIn K (.ref C) "__init__" = some (some (.ref f_init)))
    (i_init : PySem.W.isFn K (.ref f_init) = true)
    (l_init : K.lookup f_init = some ⟨oc_init, od_init, .func (PySem.W.fnOf "__init__" "Graph.__init__" (defArgs sInit) (defBody sInit) (defScope sInit) .none kV_init dc_init pm_init an_init cd_init ct_init), sl_init⟩)
    (c_init : PySem.W.codeIn K cd_init "Graph.__init__" = true)
    (k_init : PySem.W.keepIn K (.ref f_init) = true)
    (a_graph : PySem.W.nsIn K mainGlobals "_law_graph" = some (some (.ref f_graph)))
    (l_graph : K.lookup f_graph = some ⟨oc_graph, od_graph, .func (PySem.W.fnOf "_law_graph" "_law_graph" (defArgs sGraph) (defBody sGraph) (defScope sGraph) .none kV_graph dc_graph pm_graph an_graph cd_graph ct_graph), sl_graph⟩)
    (c_graph : PySem.W.codeIn K cd_graph "_law_graph" = true)
    (k_graph : PySem.W.keepIn K (.ref f_graph) = true)
    (a_cnt : PySem.W.findIn K (.ref C) "counts" = some (some (.ref f_cnt)))
    (i_cnt : PySem.W.isFn K (.ref f_cnt) = true)
    (l_cnt : K.lookup f_cnt = some ⟨oc_cnt, od_cnt, .func (PySem.W.fnOf "counts" "Graph.counts" (defArgs sCounts) (defBody sCounts) (defScope sCounts) .none kV_cnt dc_cnt pm_cnt an_cnt cd_cnt ct_cnt), sl_cnt⟩)
    (c_cnt : PySem.W.codeIn K cd_cnt "Graph.counts" = true)
    (k_cnt : PySem.W.keepIn K (.ref f_cnt) = true)
    (a_eds : PySem.W.findIn K (.ref C) "edges" = some (some (.ref f_eds)))
    (i_eds : PySem.W.isFn K (.ref f_eds) = true)
    (l_eds : K.lookup f_eds = some ⟨oc_eds, od_eds, .func (PySem.W.fnOf "edges" "Graph.edges" (defArgs sEdges) (defBody sEdges) (defScope sEdges) .none kV_eds dc_eds pm_eds an_eds cd_eds ct_eds), sl_eds⟩)
    (c_eds : PySem.W.codeIn K cd_eds "Graph.edges" = true)
    (k_eds : PySem.W.keepIn K (.ref f_eds) = true)
    (a_cst : PySem.W.findIn K (.ref C) "check_state" = some (some (.ref f_cst)))
    (i_cst : PySem.W.isFn K (.ref f_cst) = true)
    (l_cst : K.lookup f_cst = some ⟨oc_cst, od_cst, .func (PySem.W.fnOf "check_state" "Graph.check_state" (defArgs sCheckState) (defBody sCheckState) (defScope sCheckState) .none kV_cst dc_cst pm_cst an_cst cd_cst ct_cst), sl_cst⟩)
    (c_cst : PySem.W.codeIn K cd_cst "Graph.check_state" = true)
    (k_cst : PySem.W.keepIn K (.ref f_cst) = true)
    (a_lea : PySem.W.findIn K (.ref C) "leaving" = some (some (.ref f_lea)))
    (i_lea : PySem.W.isFn K (.ref f_lea) = true)
    (l_lea : K.lookup f_lea = some ⟨oc_lea, od_lea, .func (PySem.W.fnOf "leaving" "Graph.leaving" (defArgs sLeaving) (defBody sLeaving) (defScope sLeaving) .none kV_lea dc_lea pm_lea an_lea cd_lea ct_lea), sl_lea⟩)
    (c_lea : PySem.W.codeIn K cd_lea "Graph.leaving" = true)
    (k_lea : PySem.W.keepIn K (.ref f_lea) = true)
    (a_len : PySem.W.findIn K (.ref C) "__len__" = some (some (.ref f_len)))
    (i_len : PySem.W.isFn K (.ref f_len) = true)
    (l_len : K.lookup f_len = some ⟨oc_len, od_len, .func (PySem.W.fnOf "__len__" "Graph.__len__" (defArgs sLen) (defBody sLen) (defScope sLen) .none kV_len dc_len pm_len an_len cd_len ct_len), sl_len⟩)
    (c_len : PySem.W.codeIn K cd_len "Graph.__len__" = true)
    (k_len : PySem.W.keepIn K (.ref f_len) = true)
    (a_eq : PySem.W.findIn K (.ref C) "__eq__" = some (some (.ref f_eq)))
    (i_eq : PySem.W.isFn K (.ref f_eq) = true)
    (l_eq : K.lookup f_eq = some ⟨oc_eq, od_eq, .func (PySem.W.fnOf "__eq__" "Graph.__eq__" (defArgs sEq) (defBody sEq) (defScope sEq) .none kV_eq dc_eq pm_eq an_eq cd_eq ct_eq), sl_eq⟩)
    (c_eq : PySem.W.codeIn K cd_eq "Graph.__eq__" = true)
    (k_eq : PySem.W.keepIn K (.ref f_eq) = true)
    (a_st : PySem.W.findIn K (.ref C) "states" = some (some (.ref p_st)))
    (g_st : PySem.W.specialIn K (.ref p_st) "__get__" = some (some (.builtin "property.__get__")))
    (t_st : PySem.W.takesIn K (.ref p_st) = some true)
    (r_st : PySem.W.recIn K p_st "property" = some (.ref f_st :: re_st))
    (l_st : K.lookup f_st = some ⟨oc_st, od_st, .func (PySem.W.fnOf "states" "Graph.states" (defArgs sStates) (defBody sStates) (defScope sStates) .none kV_st dc_st pm_st an_st cd_st ct_st), sl_st⟩)
    (c_st : PySem.W.codeIn K cd_st "Graph.states" = true)
    (k_st : PySem.W.keepIn K (.ref f_st) = true)
    (aCK : PySem.W.nsIn K mainGlobals "Code" = some (some (.ref CK)))
    (pgK : PySem.W.plainGet K CK Str.empty = true)
    (hdK : PySem.W.hasDictIn K CK = true)
    (poK : PySem.W.plainOver K CK = true)
    (saK : PySem.W.findIn K (.ref CK) "__setattr__" = some (some (.builtin "object.__setattr__")))
    (mkK : PySem.W.makesIn K CK = true)
    (kcK : PySem.W.keepIn K (.ref CK) = true)
    (haK : PySem.W.findIn K (.ref CK) "__class__" = some (some (.builtin "object.__class__")))
    (hmK : PySem.W.mroIn K CK (.type "object") = some true)
    (nsource_graph_K : PySem.W.findIn K (.ref CK) "source_graph" = some none)
    (ntarget_graph_K : PySem.W.findIn K (.ref CK) "target_graph" = some none)
    (nwindow_size_K : PySem.W.findIn K (.ref CK) "window_size" = some none)
    (nimage_edges_K : PySem.W.findIn K (.ref CK) "image_edges" = some none)
    (nimage_table_K : PySem.W.findIn K (.ref CK) "image_table" = some none)
    (krd : PySem.W.readsIn K CK (.type "type") = true)
    (kga : PySem.W.specialIn K (.ref CK) "__getattribute__" = some (some (.builtin "type.__getattribute__")))
    (kv4 : PySem.W.findCls K (.ref CK) (.type "type") "MAX_WIDTH" = some (.val (.int 4 tk4)))
    (kv6 : PySem.W.findCls K (.ref CK) (.type "type") "MAX_PATHS" = some (.val (.int 600 tk600)))
    (kCl : PySem.W.isClsIn K CK = true)
    (ktC : PySem.W.typeIn K (.ref CK) = some (.type "type"))
    (kqn : PySem.W.subIn K (.type "NoneType") (.ref CK) = some false)
    (kqi : PySem.W.subIn K (.type "int") (.ref CK) = some false)
    (kql : PySem.W.subIn K (.type "list") (.ref CK) = some false)
    (kqt : PySem.W.subIn K (.type "tuple") (.ref CK) = some false)
    (kun : PySem.W.subIn K (.ref CK) (.type "NoneType") = some false)
    (kui : PySem.W.subIn K (.ref CK) (.type "int") = some false)
    (kul : PySem.W.subIn K (.ref CK) (.type "list") = some false)
    (kut : PySem.W.subIn K (.ref CK) (.type "tuple") = some false)
    (kne : PySem.W.findIn K (.ref CK) "__ne__" = some (some (.builtin "object.__ne__")))
    (kxL : K.lookup CK = some (excClassObj nmc qc CK Nc bsc [.type "object"] hdc snc subc abc colc ddc mk0 mk1 mk2 mk3 mk5 newIdc))
    (kcn : PySem.W.findIn K (.ref CK) "MAX_WIDTH" = some (some (.int 4 tk4i)))
    (kcg : PySem.W.specialIn K (.int 4 tk4i) "__get__" = some none)
    (aML : PySem.W.nsIn K mainGlobals "MAX_LENGTH" = some (some (.int 40 t40)))
    (aMC : PySem.W.nsIn K mainGlobals "MAX_COUNTED" = some (some (.int 2000 t2000)))
    (a_cl : PySem.W.nsIn K mainGlobals "check_length" = some (some (.ref f_cl)))
    (l_cl : K.lookup f_cl = some ⟨oc_cl, od_cl, .func (PySem.W.fnOf "check_length" "check_length" (defArgs sCl) (defBody sCl) (defScope sCl) .none kV_cl dc_cl pm_cl an_cl cd_cl ct_cl), sl_cl⟩)
    (c_cl : PySem.W.codeIn K cd_cl "check_length" = true)
    (k_cl : PySem.W.keepIn K (.ref f_cl) = true)
    (a_pr : PySem.W.nsIn K mainGlobals "product" = some (some (.ref f_pr)))
    (l_pr : K.lookup f_pr = some ⟨oc_pr, od_pr, .func (PySem.W.fnOf "product" "product" (defArgs sProd) (defBody sProd) (defScope sProd) .none kV_pr dc_pr pm_pr an_pr cd_pr ct_pr), sl_pr⟩)
    (c_pr : PySem.W.codeIn K cd_pr "product" = true)
    (k_pr : PySem.W.keepIn K (.ref f_pr) = true)
    (a_pw : PySem.W.nsIn K mainGlobals "power" = some (some (.ref f_pw)))
    (l_pw : K.lookup f_pw = some ⟨oc_pw, od_pw, .func (PySem.W.fnOf "power" "power" (defArgs sPow) (defBody sPow) (defScope sPow) .none kV_pw dc_pw pm_pw an_pw cd_pw ct_pw), sl_pw⟩)
    (c_pw : PySem.W.codeIn K cd_pw "power" = true)
    (k_pw : PySem.W.keepIn K (.ref f_pw) = true)
    (a_cp : PySem.W.nsIn K mainGlobals "count_paths" = some (some (.ref f_cp)))
    (l_cp : K.lookup f_cp = some ⟨oc_cp, od_cp, .func (PySem.W.fnOf "count_paths" "count_paths" (defArgs sCP) (defBody sCP) (defScope sCP) .none kV_cp dc_cp pm_cp an_cp cd_cp ct_cp), sl_cp⟩)
    (c_cp : PySem.W.codeIn K cd_cp "count_paths" = true)
    (k_cp : PySem.W.keepIn K (.ref f_cp) = true)
    (a_wt : PySem.W.nsIn K mainGlobals "ways_to" = some (some (.ref f_wt)))
    (l_wt : K.lookup f_wt = some ⟨oc_wt, od_wt, .func (PySem.W.fnOf "ways_to" "ways_to" (defArgs sWaysTo) (defBody sWaysTo) (defScope sWaysTo) .none kV_wt dc_wt pm_wt an_wt cd_wt ct_wt), sl_wt⟩)
    (c_wt : PySem.W.codeIn K cd_wt "ways_to" = true)
    (k_wt : PySem.W.keepIn K (.ref f_wt) = true)
    (a_wk : PySem.W.nsIn K mainGlobals "walks" = some (some (.ref f_wk)))
    (l_wk : K.lookup f_wk = some ⟨oc_wk, od_wk, .func (PySem.W.fnOf "walks" "walks" (defArgs sWalks) (defBody sWalks) (defScope sWalks) .none kV_wk dc_wk pm_wk an_wk cd_wk ct_wk), sl_wk⟩)
    (c_wk : PySem.W.codeIn K cd_wk "walks" = true)
    (k_wk : PySem.W.keepIn K (.ref f_wk) = true)
    (a_pa : PySem.W.nsIn K mainGlobals "paths" = some (some (.ref f_pa)))
    (l_pa : K.lookup f_pa = some ⟨oc_pa, od_pa, .func (PySem.W.fnOf "paths" "paths" (defArgs sPaths) (defBody sPaths) (defScope sPaths) .none kV_pa dc_pa pm_pa an_pa cd_pa ct_pa), sl_pa⟩)
    (c_pa : PySem.W.codeIn K cd_pa "paths" = true)
    (k_pa : PySem.W.keepIn K (.ref f_pa) = true)
    (a_ckw : PySem.W.nsIn K mainGlobals "check_width" = some (some (.ref f_ckw)))
    (l_ckw : K.lookup f_ckw = some ⟨oc_ckw, od_ckw, .func (PySem.W.fnOf "check_width" "check_width" (defArgs sCkW) (defBody sCkW) (defScope sCkW) .none kV_ckw dc_ckw pm_ckw an_ckw cd_ckw ct_ckw), sl_ckw⟩)
    (c_ckw : PySem.W.codeIn K cd_ckw "check_width" = true)
    (k_ckw : PySem.W.keepIn K (.ref f_ckw) = true)
    (a_ckp : PySem.W.nsIn K mainGlobals "check_paths" = some (some (.ref f_ckp)))
    (l_ckp : K.lookup f_ckp = some ⟨oc_ckp, od_ckp, .func (PySem.W.fnOf "check_paths" "check_paths" (defArgs sCkP) (defBody sCkP) (defScope sCkP) .none kV_ckp dc_ckp pm_ckp an_ckp cd_ckp ct_ckp), sl_ckp⟩)
    (c_ckp : PySem.W.codeIn K cd_ckp "check_paths" = true)
    (k_ckp : PySem.W.keepIn K (.ref f_ckp) = true)
    (a_cki : PySem.W.nsIn K mainGlobals "check_images" = some (some (.ref f_cki)))
    (l_cki : K.lookup f_cki = some ⟨oc_cki, od_cki, .func (PySem.W.fnOf "check_images" "check_images" (defArgs sCkI) (defBody sCkI) (defScope sCkI) .none kV_cki dc_cki pm_cki an_cki cd_cki ct_cki), sl_cki⟩)
    (c_cki : PySem.W.codeIn K cd_cki "check_images" = true)
    (k_cki : PySem.W.keepIn K (.ref f_cki) = true)
    (a_ckf : PySem.W.nsIn K mainGlobals "check_following" = some (some (.ref f_ckf)))
    (l_ckf : K.lookup f_ckf = some ⟨oc_ckf, od_ckf, .func (PySem.W.fnOf "check_following" "check_following" (defArgs sCkF) (defBody sCkF) (defScope sCkF) .none kV_ckf dc_ckf pm_ckf an_ckf cd_ckf ct_ckf), sl_ckf⟩)
    (c_ckf : PySem.W.codeIn K cd_ckf "check_following" = true)
    (k_ckf : PySem.W.keepIn K (.ref f_ckf) = true)
    (a_ki : PySem.W.findIn K (.ref CK) "__init__" = some (some (.ref f_ki)))
    (i_ki : PySem.W.isFn K (.ref f_ki) = true)
    (l_ki : K.lookup f_ki = some ⟨oc_ki, od_ki, .func (PySem.W.fnOf "__init__" "Code.__init__" (defArgs sCInit) (defBody sCInit) (defScope sCInit) .none kV_ki dc_ki pm_ki an_ki cd_ki ct_ki), sl_ki⟩)
    (c_ki : PySem.W.codeIn K cd_ki "Code.__init__" = true)
    (k_ki : PySem.W.keepIn K (.ref f_ki) = true)
    (a_keq : PySem.W.findIn K (.ref CK) "__eq__" = some (some (.ref f_keq)))
    (i_keq : PySem.W.isFn K (.ref f_keq) = true)
    (l_keq : K.lookup f_keq = some ⟨oc_keq, od_keq, .func (PySem.W.fnOf "__eq__" "Code.__eq__" (defArgs sCEq) (defBody sCEq) (defScope sCEq) .none kV_keq dc_keq pm_keq an_keq cd_keq ct_keq), sl_keq⟩)
    (c_keq : PySem.W.codeIn K cd_keq "Code.__eq__" = true)
    (k_keq : PySem.W.keepIn K (.ref f_keq) = true)
    (a_kln : PySem.W.findIn K (.ref CK) "__len__" = some (some (.ref f_kln)))
    (i_kln : PySem.W.isFn K (.ref f_kln) = true)
    (l_kln : K.lookup f_kln = some ⟨oc_kln, od_kln, .func (PySem.W.fnOf "__len__" "Code.__len__" (defArgs sCLen) (defBody sCLen) (defScope sCLen) .none kV_kln dc_kln pm_kln an_kln cd_kln ct_kln), sl_kln⟩)
    (c_kln : PySem.W.codeIn K cd_kln "Code.__len__" = true)
    (k_kln : PySem.W.keepIn K (.ref f_kln) = true)
    (a_krp : PySem.W.findIn K (.ref CK) "__repr__" = some (some (.ref f_krp)))
    (i_krp : PySem.W.isFn K (.ref f_krp) = true)
    (l_krp : K.lookup f_krp = some ⟨oc_krp, od_krp, .func (PySem.W.fnOf "__repr__" "Code.__repr__" (defArgs sCRepr) (defBody sCRepr) (defScope sCRepr) .none kV_krp dc_krp pm_krp an_krp cd_krp ct_krp), sl_krp⟩)
    (c_krp : PySem.W.codeIn K cd_krp "Code.__repr__" = true)
    (k_krp : PySem.W.keepIn K (.ref f_krp) = true)
    (a_ksr : PySem.W.findIn K (.ref CK) "source" = some (some (.ref p_ksr)))
    (g_ksr : PySem.W.specialIn K (.ref p_ksr) "__get__" = some (some (.builtin "property.__get__")))
    (t_ksr : PySem.W.takesIn K (.ref p_ksr) = some true)
    (r_ksr : PySem.W.recIn K p_ksr "property" = some (.ref f_ksr :: re_ksr))
    (l_ksr : K.lookup f_ksr = some ⟨oc_ksr, od_ksr, .func (PySem.W.fnOf "source" "Code.source" (defArgs sCSrc) (defBody sCSrc) (defScope sCSrc) .none kV_ksr dc_ksr pm_ksr an_ksr cd_ksr ct_ksr), sl_ksr⟩)
    (c_ksr : PySem.W.codeIn K cd_ksr "Code.source" = true)
    (k_ksr : PySem.W.keepIn K (.ref f_ksr) = true)
    (a_ktg : PySem.W.findIn K (.ref CK) "target" = some (some (.ref p_ktg)))
    (g_ktg : PySem.W.specialIn K (.ref p_ktg) "__get__" = some (some (.builtin "property.__get__")))
    (t_ktg : PySem.W.takesIn K (.ref p_ktg) = some true)
    (r_ktg : PySem.W.recIn K p_ktg "property" = some (.ref f_ktg :: re_ktg))
    (l_ktg : K.lookup f_ktg = some ⟨oc_ktg, od_ktg, .func (PySem.W.fnOf "target" "Code.target" (defArgs sCTgt) (defBody sCTgt) (defScope sCTgt) .none kV_ktg dc_ktg pm_ktg an_ktg cd_ktg ct_ktg), sl_ktg⟩)
    (c_ktg : PySem.W.codeIn K cd_ktg "Code.target" = true)
    (k_ktg : PySem.W.keepIn K (.ref f_ktg) = true)
    (a_kwd : PySem.W.findIn K (.ref CK) "width" = some (some (.ref p_kwd)))
    (g_kwd : PySem.W.specialIn K (.ref p_kwd) "__get__" = some (some (.builtin "property.__get__")))
    (t_kwd : PySem.W.takesIn K (.ref p_kwd) = some true)
    (r_kwd : PySem.W.recIn K p_kwd "property" = some (.ref f_kwd :: re_kwd))
    (l_kwd : K.lookup f_kwd = some ⟨oc_kwd, od_kwd, .func (PySem.W.fnOf "width" "Code.width" (defArgs sCWid) (defBody sCWid) (defScope sCWid) .none kV_kwd dc_kwd pm_kwd an_kwd cd_kwd ct_kwd), sl_kwd⟩)
    (c_kwd : PySem.W.codeIn K cd_kwd "Code.width" = true)
    (k_kwd : PySem.W.keepIn K (.ref f_kwd) = true)
    (a_kim : PySem.W.findIn K (.ref CK) "images" = some (some (.ref f_kim)))
    (i_kim : PySem.W.isFn K (.ref f_kim) = true)
    (l_kim : K.lookup f_kim = some ⟨oc_kim, od_kim, .func (PySem.W.fnOf "images" "Code.images" (defArgs sCImg) (defBody sCImg) (defScope sCImg) .none kV_kim dc_kim pm_kim an_kim cd_kim ct_kim), sl_kim⟩)
    (c_kim : PySem.W.codeIn K cd_kim "Code.images" = true)
    (k_kim : PySem.W.keepIn K (.ref f_kim) = true)
    (a_kid : PySem.W.findCls K (.ref CK) (.type "type") "identity" = some (.get (.builtin "classmethod.__get__") (.ref p_kid) .none (.ref CK)))
    (r_kid : PySem.W.recIn K p_kid "classmethod" = some (.ref f_kid :: re_kid))
    (i_kid : PySem.W.fnIn K f_kid = true)
    (l_kid : K.lookup f_kid = some ⟨oc_kid, od_kid, .func (PySem.W.fnOf "identity" "Code.identity" (defArgs sCId) (defBody sCId) (defScope sCId) .none kV_kid dc_kid pm_kid an_kid cd_kid ct_kid), sl_kid⟩)
    (c_kid : PySem.W.codeIn K cd_kid "Code.identity" = true)
    (k_kid : PySem.W.keepIn K (.ref f_kid) = true)
    (a_po : PySem.W.nsIn K mainGlobals "_law_plan_of" = some (some (.ref f_po)))
    (l_po : K.lookup f_po = some ⟨oc_po, od_po, .func (PySem.W.fnOf "_law_plan_of" "_law_plan_of" (defArgs sPlanOf) (defBody sPlanOf) (defScope sPlanOf) .none kV_po dc_po pm_po an_po cd_po ct_po), sl_po⟩)
    (c_po : PySem.W.codeIn K cd_po "_law_plan_of" = true)
    (k_po : PySem.W.keepIn K (.ref f_po) = true)
    (a_aft : PySem.W.nsIn K mainGlobals "_law_after" = some (some (.ref f_aft)))
    (l_aft : K.lookup f_aft = some ⟨oc_aft, od_aft, .func (PySem.W.fnOf "_law_after" "_law_after" (defArgs sAft) (defBody sAft) (defScope sAft) .none kV_aft dc_aft pm_aft an_aft cd_aft ct_aft), sl_aft⟩)
    (c_aft : PySem.W.codeIn K cd_aft "_law_after" = true)
    (k_aft : PySem.W.keepIn K (.ref f_aft) = true)
    (a_pths : PySem.W.nsIn K mainGlobals "_law_paths" = some (some (.ref f_pths)))
    (l_pths : K.lookup f_pths = some ⟨oc_pths, od_pths, .func (PySem.W.fnOf "_law_paths" "_law_paths" (defArgs sPths) (defBody sPths) (defScope sPths) .none kV_pths dc_pths pm_pths an_pths cd_pths ct_pths), sl_pths⟩)
    (c_pths : PySem.W.codeIn K cd_pths "_law_paths" = true)
    (k_pths : PySem.W.keepIn K (.ref f_pths) = true)
    (a_lpc : PySem.W.nsIn K mainGlobals "_law_path_count" = some (some (.ref f_lpc)))
    (l_lpc : K.lookup f_lpc = some ⟨oc_lpc, od_lpc, .func (PySem.W.fnOf "_law_path_count" "_law_path_count" (defArgs sLPC) (defBody sLPC) (defScope sLPC) .none kV_lpc dc_lpc pm_lpc an_lpc cd_lpc ct_lpc), sl_lpc⟩)
    (c_lpc : PySem.W.codeIn K cd_lpc "_law_path_count" = true)
    (k_lpc : PySem.W.keepIn K (.ref f_lpc) = true)
    (a_rf : PySem.W.nsIn K mainGlobals "_law_rule_from" = some (some (.ref f_rf)))
    (l_rf : K.lookup f_rf = some ⟨oc_rf, od_rf, .func (PySem.W.fnOf "_law_rule_from" "_law_rule_from" (defArgs sRF) (defBody sRF) (defScope sRF) .none kV_rf dc_rf pm_rf an_rf cd_rf ct_rf), sl_rf⟩)
    (c_rf : PySem.W.codeIn K cd_rf "_law_rule_from" = true)
    (k_rf : PySem.W.keepIn K (.ref f_rf) = true)
    (a_lru : PySem.W.nsIn K mainGlobals "_law_rule" = some (some (.ref f_lru)))
    (l_lru : K.lookup f_lru = some ⟨oc_lru, od_lru, .func (PySem.W.fnOf "_law_rule" "_law_rule" (defArgs sLRule) (defBody sLRule) (defScope sLRule) .none kV_lru dc_lru pm_lru an_lru cd_lru ct_lru), sl_lru⟩)
    (c_lru : PySem.W.codeIn K cd_lru "_law_rule" = true)
    (k_lru : PySem.W.keepIn K (.ref f_lru) = true)
    (a_lco : PySem.W.nsIn K mainGlobals "_law_code" = some (some (.ref f_lco)))
    (l_lco : K.lookup f_lco = some ⟨oc_lco, od_lco, .func (PySem.W.fnOf "_law_code" "_law_code" (defArgs sLCode) (defBody sLCode) (defScope sLCode) .none kV_lco dc_lco pm_lco an_lco cd_lco ct_lco), sl_lco⟩)
    (c_lco : PySem.W.codeIn K cd_lco "_law_code" = true)
    (k_lco : PySem.W.keepIn K (.ref f_lco) = true)
    (a_lro : PySem.W.nsIn K mainGlobals "_law_rule_of" = some (some (.ref f_lro)))
    (l_lro : K.lookup f_lro = some ⟨oc_lro, od_lro, .func (PySem.W.fnOf "_law_rule_of" "_law_rule_of" (defArgs sLROf) (defBody sLROf) (defScope sLROf) .none kV_lro dc_lro pm_lro an_lro cd_lro ct_lro), sl_lro⟩)
    (c_lro : PySem.W.codeIn K cd_lro "_law_rule_of" = true)
    (k_lro : PySem.W.keepIn K (.ref f_lro) = true)
    (a_law : PySem.W.nsIn K mainGlobals "law" = some (some (.ref f_law)))
    (l_law : K.lookup f_law = some ⟨oc_law, od_law, .func (PySem.W.fnOf "law" "law" (defArgs sLaw) (defBody sLaw) (defScope sLaw) .none kV_law dc_law pm_law an_law cd_law ct_law), sl_law⟩)
    (c_law : PySem.W.codeIn K cd_law "law" = true)
    (k_law : PySem.W.keepIn K (.ref f_law) = true) :
    ∃ fd : FuncData, (∀ (s : Shared) (v : Value), BindsTo s fd ⟨[v], []⟩ [("_law_script", v)]) ∧ ∀ base : Heap, K.In base → base.Ns mainGlobals mg → Sf.FnS l.prog w K mg base CX0 14 fa fd ["_law_script"] (spLaw K) := by
  have e := hfa.symm.trans (PySem.W.mg_of X G a_law)
  cases e
  have T : Bi mg := ⟨PySem.W.mg_none_of X G z_len, PySem.W.mg_none_of X G z_list, PySem.W.mg_none_of X G z_tuple, PySem.W.mg_none_of X G z_bool, PySem.W.mg_none_of X G z_int, PySem.W.mg_none_of X G z_str, PySem.W.mg_none_of X G z_isinstance, PySem.W.mg_none_of X G z_all, PySem.W.mg_none_of X G z_zip, PySem.W.mg_none_of X G z_range⟩
  have cl : Cls K C := ⟨gpg, ghd, gpo, gsa⟩
  have GT : GTxt K mg C (.type "type") := ⟨cl, gnS, gnE, PySem.W.mg_of X G aC, ⟨grd, gga⟩, ⟨_, gv8, ⟨_, rfl⟩⟩, ⟨_, gv24, ⟨_, rfl⟩⟩, PySem.W.mg_none_of X G z_enumerate⟩
  have GI : C8.InsC K C := ⟨cl, iha, ihn, ihtk, ihm, kit_me⟩
  have GS : GIs K C := ⟨GI, kit_no iCl tyC qn, kit_no iCl tyC qi, kit_no iCl tyC ql, kit_no iCl tyC qt⟩
  have F_bag := fun_mk (st := sBag) l_bag c_bag k_bag
  have b_bag := F_bag.binds (ps := ["_law_script"]) fun _ _ _ _ _ _ us hl => match us, hl with | [_], _ => rfl
  have F_pull := fun_mk (st := sPull) l_pull c_pull k_pull
  have b_pull := F_pull.binds (ps := ["_law_bag_here", "_law_many"]) fun _ _ _ _ _ _ us hl => match us, hl with | [_, _], _ => rfl
  have F_of := fun_mk (st := sOf) l_of c_of k_of
  have b_of := F_of.binds (ps := ["_law_bag_here", "_law_things"]) fun _ _ _ _ _ _ us hl => match us, hl with | [_, _], _ => rfl
  have F_plan := fun_mk (st := sPlan) l_plan c_plan k_plan
  have b_plan := F_plan.binds (ps := ["_law_bag_here", "_law_most", "_law_many"]) fun _ _ _ _ _ _ us hl => match us, hl with | [_, _, _], _ => rfl
  have F_like := fun_mk (st := sLike) l_like c_like k_like
  have b_like := F_like.binds (ps := ["_law_found", "_law_due"]) fun _ _ _ _ _ _ us hl => match us, hl with | [_, _], _ => rfl
  have F_check := fun_mk (st := sCheck) l_check c_check k_check
  have b_check := F_check.binds (ps := ["states", "edges"]) fun _ _ _ _ _ _ us hl => match us, hl with | [_, _], _ => rfl
  have F_init := fun_mk (st := sInit) l_init c_init k_init
  have b_init := F_init.binds (ps := ["self", "states", "edges"]) fun _ _ _ _ _ _ us hl => match us, hl with | [_, _, _], _ => rfl
  have F_graph := fun_mk (st := sGraph) l_graph c_graph k_graph
  have b_graph := F_graph.binds (ps := ["_law_plan_here"]) fun _ _ _ _ _ _ us hl => match us, hl with | [_], _ => rfl
  have F_cnt := fun_mk (st := sCounts) l_cnt c_cnt k_cnt
  have b_cnt := F_cnt.binds (ps := ["self"]) fun _ _ _ _ _ _ us hl => match us, hl with | [_], _ => rfl
  have F_eds := fun_mk (st := sEdges) l_eds c_eds k_eds
  have b_eds := F_eds.binds (ps := ["self"]) fun _ _ _ _ _ _ us hl => match us, hl with | [_], _ => rfl
  have F_cst := fun_mk (st := sCheckState) l_cst c_cst k_cst
  have b_cst := F_cst.binds (ps := ["self", "state"]) fun _ _ _ _ _ _ us hl => match us, hl with | [_, _], _ => rfl
  have F_lea := fun_mk (st := sLeaving) l_lea c_lea k_lea
  have b_lea := F_lea.binds (ps := ["self", "state"]) fun _ _ _ _ _ _ us hl => match us, hl with | [_, _], _ => rfl
  have F_len := fun_mk (st := sLen) l_len c_len k_len
  have b_len := F_len.binds (ps := ["self"]) fun _ _ _ _ _ _ us hl => match us, hl with | [_], _ => rfl
  have F_eq := fun_mk (st := sEq) l_eq c_eq k_eq
  have b_eq := F_eq.binds (ps := ["self", "other"]) fun _ _ _ _ _ _ us hl => match us, hl with | [_, _], _ => rfl
  have F_st := fun_mk (st := sStates) l_st c_st k_st
  have b_st := F_st.binds (ps := ["self"]) fun _ _ _ _ _ _ us hl => match us, hl with | [_], _ => rfl
  have clK : Cls K CK := ⟨pgK, hdK, poK, saK⟩
  have inK : C8.InsC K CK := ⟨clK, haK, ihn, ihtk, hmK, kit_me⟩
  have GC : CTxt K mg CK (.type "type") := ⟨clK, nsource_graph_K, ntarget_graph_K, nwindow_size_K, nimage_edges_K, nimage_table_K, PySem.W.mg_of X G aCK, ⟨krd, kga⟩, ⟨_, kv4, ⟨_, rfl⟩⟩, ⟨_, kv6, ⟨_, rfl⟩⟩⟩
  have GSK : GIs K CK := ⟨inK, kit_no kCl ktC kqn, kit_no kCl ktC kqi, kit_no kCl ktC kql, kit_no kCl ktC kqt⟩
  have F_cl := fun_mk (st := sCl) l_cl c_cl k_cl
  have b_cl := F_cl.binds (ps := ["length", "limit"]) fun _ _ _ _ _ _ us hl => match us, hl with | [_, _], _ => rfl
  have F_pr := fun_mk (st := sProd) l_pr c_pr k_pr
  have b_pr := F_pr.binds (ps := ["one", "other"]) fun _ _ _ _ _ _ us hl => match us, hl with | [_, _], _ => rfl
  have F_pw := fun_mk (st := sPow) l_pw c_pw k_pw
  have b_pw := F_pw.binds (ps := ["table", "exponent"]) fun _ _ _ _ _ _ us hl => match us, hl with | [_, _], _ => rfl
  have F_cp := fun_mk (st := sCP) l_cp c_cp k_cp
  have b_cp := F_cp.binds (ps := ["graph", "length"]) fun _ _ _ _ _ _ us hl => match us, hl with | [_, _], _ => rfl
  have F_wt := fun_mk (st := sWaysTo) l_wt c_wt k_wt
  have b_wt := F_wt.binds (ps := ["graph", "length", "ends"]) fun _ _ _ _ _ _ us hl => match us, hl with | [_, _, _], _ => rfl
  have F_wk := fun_mk (st := sWalks) l_wk c_wk k_wk
  have b_wk := F_wk.binds (ps := ["edges", "ways", "first"]) fun _ _ _ _ _ _ us hl => match us, hl with | [_, _, _], _ => rfl
  have F_pa := fun_mk (st := sPaths) l_pa c_pa k_pa
  have b_pa := F_pa.binds (ps := ["graph", "length"]) fun _ _ _ _ _ _ us hl => match us, hl with | [_, _], _ => rfl
  have F_ckw := fun_mk (st := sCkW) l_ckw c_ckw k_ckw
  have b_ckw := F_ckw.binds (ps := ["width", "lowest"]) fun _ _ _ _ _ _ us hl => match us, hl with | [_, _], _ => rfl
  have F_ckp := fun_mk (st := sCkP) l_ckp c_ckp k_ckp
  have b_ckp := F_ckp.binds (ps := ["graph", "width"]) fun _ _ _ _ _ _ us hl => match us, hl with | [_, _], _ => rfl
  have F_cki := fun_mk (st := sCkI) l_cki c_cki k_cki
  have b_cki := F_cki.binds (ps := ["target", "images"]) fun _ _ _ _ _ _ us hl => match us, hl with | [_, _], _ => rfl
  have F_ckf := fun_mk (st := sCkF) l_ckf c_ckf k_ckf
  have b_ckf := F_ckf.binds (ps := ["source", "target", "table"]) fun _ _ _ _ _ _ us hl => match us, hl with | [_, _, _], _ => rfl
  have F_ki := fun_mk (st := sCInit) l_ki c_ki k_ki
  have b_ki := F_ki.binds (ps := ["self", "source", "target", "width", "images"]) fun _ _ _ _ _ _ us hl => match us, hl with | [_, _, _, _, _], _ => rfl
  have F_keq := fun_mk (st := sCEq) l_keq c_keq k_keq
  have b_keq := F_keq.binds (ps := ["self", "other"]) fun _ _ _ _ _ _ us hl => match us, hl with | [_, _], _ => rfl
  have F_kln := fun_mk (st := sCLen) l_kln c_kln k_kln
  have b_kln := F_kln.binds (ps := ["self"]) fun _ _ _ _ _ _ us hl => match us, hl with | [_], _ => rfl
  have F_krp := fun_mk (st := sCRepr) l_krp c_krp k_krp
  have b_krp := F_krp.binds (ps := ["self"]) fun _ _ _ _ _ _ us hl => match us, hl with | [_], _ => rfl
  have F_ksr := fun_mk (st := sCSrc) l_ksr c_ksr k_ksr
  have b_ksr := F_ksr.binds (ps := ["self"]) fun _ _ _ _ _ _ us hl => match us, hl with | [_], _ => rfl
  have F_ktg := fun_mk (st := sCTgt) l_ktg c_ktg k_ktg
  have b_ktg := F_ktg.binds (ps := ["self"]) fun _ _ _ _ _ _ us hl => match us, hl with | [_], _ => rfl
  have F_kwd := fun_mk (st := sCWid) l_kwd c_kwd k_kwd
  have b_kwd := F_kwd.binds (ps := ["self"]) fun _ _ _ _ _ _ us hl => match us, hl with | [_], _ => rfl
  have F_kim := fun_mk (st := sCImg) l_kim c_kim k_kim
  have b_kim := F_kim.binds (ps := ["self"]) fun _ _ _ _ _ _ us hl => match us, hl with | [_], _ => rfl
  have F_kid := fun_mk (st := sCId) l_kid c_kid k_kid
  have b_kid := F_kid.binds (ps := ["cls", "graph"]) fun _ _ _ _ _ _ us hl => match us, hl with | [_, _], _ => rfl
  have F_po := fun_mk (st := sPlanOf) l_po c_po k_po
  have b_po := F_po.binds (ps := ["_law_graph_here"]) fun _ _ _ _ _ _ us hl => match us, hl with | [_], _ => rfl
  have F_aft := fun_mk (st := sAft) l_aft c_aft k_aft
  have b_aft := F_aft.binds (ps := ["_law_plan_here", "_law_edge"]) fun _ _ _ _ _ _ us hl => match us, hl with | [_, _], _ => rfl
  have F_pths := fun_mk (st := sPths) l_pths c_pths k_pths
  have b_pths := F_pths.binds (ps := ["_law_plan_here", "_law_size"]) fun _ _ _ _ _ _ us hl => match us, hl with | [_, _], _ => rfl
  have F_lpc := fun_mk (st := sLPC) l_lpc c_lpc k_lpc
  have b_lpc := F_lpc.binds (ps := ["_law_plan_here", "_law_size"]) fun _ _ _ _ _ _ us hl => match us, hl with | [_, _], _ => rfl
  have F_rf := fun_mk (st := sRF) l_rf c_rf k_rf
  have b_rf := F_rf.binds (ps := ["_law_bag_here", "_law_source", "_law_wide"]) fun _ _ _ _ _ _ us hl => match us, hl with | [_, _, _], _ => rfl
  have F_lru := fun_mk (st := sLRule) l_lru c_lru k_lru
  have b_lru := F_lru.binds (ps := ["_law_bag_here", "_law_most"]) fun _ _ _ _ _ _ us hl => match us, hl with | [_, _], _ => rfl
  have F_lco := fun_mk (st := sLCode) l_lco c_lco k_lco
  have b_lco := F_lco.binds (ps := ["_law_rule_here"]) fun _ _ _ _ _ _ us hl => match us, hl with | [_], _ => rfl
  have F_lro := fun_mk (st := sLROf) l_lro c_lro k_lro
  have b_lro := F_lro.binds (ps := ["_law_code_here"]) fun _ _ _ _ _ _ us hl => match us, hl with | [_], _ => rfl
  have F_law := fun_mk (st := sLaw) l_law c_law k_law
  have b_law := F_law.binds (ps := ["_law_script"]) fun _ _ _ _ _ _ us hl => match us, hl with | [_], _ => rfl
  refine ⟨PySem.W.fnOf "law" "law" (defArgs sLaw) (defBody sLaw) (defScope sLaw) .none kV_law dc_law pm_law an_law cd_law ct_law, fun s v => .of_eq rfl, fun base _ _ => ?_⟩
  have cal_bag : C8.Cal l.prog w K mg base 1 "_law_bag" (spBag K) [] := ⟨f_bag, _, _, [], ok_bag (k := 0) F_bag T, PySem.W.mg_of X G a_bag, k_bag, b_bag, .nil⟩
  have cal_pull : C8.Cal l.prog w K mg base 1 "_law_pull" spPull [] := ⟨f_pull, _, _, [], ok_pull (k := 0) F_pull T.len, PySem.W.mg_of X G a_pull, k_pull, b_pull, .nil⟩
  have cal_of : C8.Cal l.prog w K mg base 2 "_law_of" (spOf K) [] := ⟨f_of, _, _, [], ok_of (k := 0) F_of T cal_pull, PySem.W.mg_of X G a_of, k_of, b_of, .nil⟩
  have cal_plan : C8.Cal l.prog w K mg base 2 "_law_plan" spPlan [] := ⟨f_plan, _, _, [], ok_plan (k := 0) F_plan T cal_pull, PySem.W.mg_of X G a_plan, k_plan, b_plan, .nil⟩
  have cal_like : C8.Cal l.prog w K mg base 1 "_law_like" (spLike 0) [] := ⟨f_like, _, _, [], like0 (k := 0) F_like, PySem.W.mg_of X G a_like, k_like, b_like, .nil⟩
  have cal_like : C8.Cal l.prog w K mg base 2 "_law_like" (spLike 1) [] := ⟨f_like, _, _, [], ok_like (n := 1) (k := 0) F_like T (fun _ => cal_like), PySem.W.mg_of X G a_like, k_like, b_like, .nil⟩
  have cal_like : C8.Cal l.prog w K mg base 3 "_law_like" (spLike 2) [] := ⟨f_like, _, _, [], ok_like (n := 2) (k := 1) F_like T (fun _ => cal_like), PySem.W.mg_of X G a_like, k_like, b_like, .nil⟩
  have cal_like : C8.Cal l.prog w K mg base 4 "_law_like" (spLike 3) [] := ⟨f_like, _, _, [], ok_like (n := 3) (k := 2) F_like T (fun _ => cal_like), PySem.W.mg_of X G a_like, k_like, b_like, .nil⟩
  have cal_like : C8.Cal l.prog w K mg base 5 "_law_like" (spLike 4) [] := ⟨f_like, _, _, [], ok_like (n := 4) (k := 3) F_like T (fun _ => cal_like), PySem.W.mg_of X G a_like, k_like, b_like, .nil⟩
  have cal_like : C8.Cal l.prog w K mg base 6 "_law_like" (spLike 5) [] := ⟨f_like, _, _, [], ok_like (n := 5) (k := 4) F_like T (fun _ => cal_like), PySem.W.mg_of X G a_like, k_like, b_like, .nil⟩
  have cal_like : C8.Cal l.prog w K mg base 7 "_law_like" (spLike 6) [] := ⟨f_like, _, _, [], ok_like (n := 6) (k := 5) F_like T (fun _ => cal_like), PySem.W.mg_of X G a_like, k_like, b_like, .nil⟩
  have cal_check : C8.Cal l.prog w K mg base 1 "check_edges" (spCheck K) [] := ⟨f_check, _, _, [], ok_check (k := 0) F_check T GT, PySem.W.mg_of X G a_check, k_check, b_check, .nil⟩
  have mG : C8.Mak l.prog w K mg base 2 "Graph" C (spInit C) [] := ⟨f_init, _, _, [], ⟨gmk, a_init, i_init, gkc⟩, ok_init (k := 0) F_init T GT cal_check, PySem.W.mg_of X G aC, b_init, .nil⟩
  have cal_graph : C8.Cal l.prog w K mg base 4 "_law_graph" (spGraph C) [] := ⟨f_graph, _, _, [], ok_graph (k := 0) F_graph T mG, PySem.W.mg_of X G a_graph, k_graph, b_graph, .nil⟩
  have m_cnt : C8.Met l.prog w K mg base 1 C "counts" (spCounts C) [] := ⟨f_cnt, _, _, [], cl, ⟨a_cnt, i_cnt, k_cnt⟩, ok_counts (k := 0) F_cnt T GT, b_cnt, .nil⟩
  have m_eds : C8.Met l.prog w K mg base 1 C "edges" (spEdges C) [] := ⟨f_eds, _, _, [], cl, ⟨a_eds, i_eds, k_eds⟩, ok_edges (k := 0) F_eds T GT, b_eds, .nil⟩
  have m_cst : C8.Met l.prog w K mg base 1 C "check_state" (spState0 C) [] := ⟨f_cst, _, _, [], cl, ⟨a_cst, i_cst, k_cst⟩, ok_state0 (k := 0) F_cst GT, b_cst, .nil⟩
  have m_lea : C8.Met l.prog w K mg base 2 C "leaving" (spLv C) [] := ⟨f_lea, _, _, [], cl, ⟨a_lea, i_lea, k_lea⟩, lv_of (ok_leaving0 (k := 0) F_lea GT m_cst), b_lea, .nil⟩
  have pr_st : Prp l.prog w K mg base 1 C "states" (spStates C) := ⟨p_st, f_st, _, cl, ⟨a_st, g_st, t_st, ⟨_, r_st⟩⟩, ok_states (k := 0) F_st GT, b_st⟩
  have cal_cl : C8.Cal l.prog w K mg base 1 "check_length" spCl [] := ⟨f_cl, _, _, [], ok_cl (k := 0) F_cl, PySem.W.mg_of X G a_cl, k_cl, b_cl, .nil⟩
  have cal_pr : C8.Cal l.prog w K mg base 1 "product" spProd [] := ⟨f_pr, _, _, [], ok_prod (k := 0) F_pr T (PySem.W.mg_none_of X G z_sum), PySem.W.mg_of X G a_pr, k_pr, b_pr, .nil⟩
  have cal_pw : C8.Cal l.prog w K mg base 2 "power" spPow [] := ⟨f_pw, _, _, [], ok_pow (k := 0) F_pw T (PySem.W.mg_none_of X G z_reversed) cal_pr, PySem.W.mg_of X G a_pw, k_pw, b_pw, .nil⟩
  have cal_cp : C8.Cal l.prog w K mg base 3 "count_paths" (spCP C) [] := ⟨f_cp, _, _, [], ok_cp (k := 0) F_cp (PySem.W.mg_of X G aMC) (PySem.W.mg_none_of X G z_sum) cal_cl cal_pw m_cnt, PySem.W.mg_of X G a_cp, k_cp, b_cp, .nil⟩
  have cal_wt : C8.Cal l.prog w K mg base 5 "ways_to" (spWaysTo C) [] := ⟨f_wt, _, _, [], ok_waysTo (k := 2) F_wt T m_eds pr_st m_lea, PySem.W.mg_of X G a_wt, k_wt, b_wt, .nil⟩
  have cal_wk : CalG l.prog w K mg base 1 True "walks" spWalks := ⟨f_wk, _, _, ok_walks (k := 0) F_wk T (PySem.W.mg_none_of X G z_reversed), PySem.W.mg_of X G a_wk, k_wk, b_wk⟩
  have cal_pa : CalG l.prog w K mg base 6 False "paths" (spPaths C) := ⟨f_pa, _, _, ok_paths (k := 0) F_pa T T.list (PySem.W.mg_of X G aML) cal_cl m_eds pr_st cal_wt cal_wk, PySem.W.mg_of X G a_pa, k_pa, b_pa⟩
  have cal_ckw : C8.Cal l.prog w K mg base 1 "check_width" spCkW [] := ⟨f_ckw, _, _, [], ok_ckW (k := 0) F_ckw GC, PySem.W.mg_of X G a_ckw, k_ckw, b_ckw, .nil⟩
  have cal_ckp : C8.Cal l.prog w K mg base 4 "check_paths" (spCkP C) [] := ⟨f_ckp, _, _, [], ok_ckP (k := 0) F_ckp GC cal_cp, PySem.W.mg_of X G a_ckp, k_ckp, b_ckp, .nil⟩
  have cal_cki : C8.Cal l.prog w K mg base 3 "check_images" (spCkI C) [] := ⟨f_cki, _, _, [], ok_ckI (k := 0) F_cki T (PySem.W.mg_none_of X G z_enumerate) (ok_len (k := 0) F_len T GT) a_len i_len b_len, PySem.W.mg_of X G a_cki, k_cki, b_cki, .nil⟩
  have cal_ckf : C8.Cal l.prog w K mg base 3 "check_following" (spCkF C) [] := ⟨f_ckf, _, _, [], ok_ckF (k := 0) F_ckf T (PySem.W.mg_none_of X G z_enumerate) m_eds m_lea, PySem.W.mg_of X G a_ckf, k_ckf, b_ckf, .nil⟩
  have o_ki := ok_cinit (P := l.prog) (w := w) (base := base) (k := 0) F_ki T GC cal_ckw cal_ckp cal_cki cal_ckf cal_pa
  have mC : Sf.Mak l.prog w K mg base 10 "Code" CK (spCInit CK C) [] := ⟨f_ki, _, _, [], ⟨mkK, a_ki, i_ki, kcK⟩, o_ki, PySem.W.mg_of X G aCK, b_ki, .nil⟩
  have pr_ksr : Prp l.prog w K mg base 1 CK "source" (spCSrc CK C) := ⟨p_ksr, f_ksr, _, clK, ⟨a_ksr, g_ksr, t_ksr, ⟨_, r_ksr⟩⟩, ok_csrc (k := 0) F_ksr GC, b_ksr⟩
  have pr_ktg : Prp l.prog w K mg base 1 CK "target" (spCTgt CK C) := ⟨p_ktg, f_ktg, _, clK, ⟨a_ktg, g_ktg, t_ktg, ⟨_, r_ktg⟩⟩, ok_ctgt (k := 0) F_ktg GC, b_ktg⟩
  have pr_kwd : Prp l.prog w K mg base 1 CK "width" (spCWid CK C) := ⟨p_kwd, f_kwd, _, clK, ⟨a_kwd, g_kwd, t_kwd, ⟨_, r_kwd⟩⟩, ok_cwid (k := 0) F_kwd GC, b_kwd⟩
  have m_kim : C8.Met l.prog w K mg base 1 CK "images" (spCImg CK C) [] := ⟨f_kim, _, _, [], clK, ⟨a_kim, i_kim, k_kim⟩, ok_cimg (k := 0) F_kim T GC, b_kim, .nil⟩
  have cal_po : C8.Cal l.prog w K mg base 3 "_law_plan_of" (spPlanOf C) [] := ⟨f_po, _, _, [], ok_planOf (k := 0) F_po m_eds pr_st, PySem.W.mg_of X G a_po, k_po, b_po, .nil⟩
  have cal_aft : C8.Cal l.prog w K mg base 1 "_law_after" spAft [] := ⟨f_aft, _, _, [], ok_aft (k := 0) F_aft T, PySem.W.mg_of X G a_aft, k_aft, b_aft, .nil⟩
  have cal_pths : C8.Cal l.prog w K mg base 2 "_law_paths" spPths [] := ⟨f_pths, _, _, [], ok_pths (k := 0) F_pths T cal_aft, PySem.W.mg_of X G a_pths, k_pths, b_pths, .nil⟩
  have cal_lpc : C8.Cal l.prog w K mg base 1 "_law_path_count" spPC [] := ⟨f_lpc, _, _, [], lpc_pc (ok_lpc (k := 0) F_lpc T (PySem.W.mg_none_of X G z_sum)), PySem.W.mg_of X G a_lpc, k_lpc, b_lpc, .nil⟩
  have cal_rf : C8.Cal l.prog w K mg base 3 "_law_rule_from" spRF [] := ⟨f_rf, _, _, [], ok_rf (k := 0) F_rf T (PySem.W.mg_none_of X G z_set) (PySem.W.mg_none_of X G z_sorted) (PySem.W.mg_none_of X G z_dict) cal_pull cal_of cal_pths, PySem.W.mg_of X G a_rf, k_rf, b_rf, .nil⟩
  have cal_lru : C8.Cal l.prog w K mg base 4 "_law_rule" spLRule [] := ⟨f_lru, _, _, [], ok_lrule (k := 0) F_lru T cal_pull cal_plan cal_lpc cal_rf, PySem.W.mg_of X G a_lru, k_lru, b_lru, .nil⟩
  have cal_lco : Sf.Cal l.prog w K mg base 12 "_law_code" (spLCode CK C) [] := ⟨f_lco, _, _, [], ok_lcode (k := 0) F_lco T cal_graph mC, PySem.W.mg_of X G a_lco, k_lco, b_lco, .nil⟩
  have cal_lro : C8.Cal l.prog w K mg base 4 "_law_rule_of" (spLROf CK C) [] := ⟨f_lro, _, _, [], ok_lrof (k := 0) F_lro cal_po pr_ksr pr_ktg pr_kwd m_kim, PySem.W.mg_of X G a_lro, k_lro, b_lro, .nil⟩
  have nn := kit_no kCl ktC kqn
  exact ok_law F_law (C := CK) (CG := C) (mc := .type "type") ⟨T, GC, ⟨GSK.non, GSK.int, GSK.lst, GSK.tup⟩, ⟨kun, kui, kul, kut⟩, (PySem.W.mg_none_of X G z_repr), cal_bag, cal_of, cal_lru, cal_rf, cal_like, cal_graph, cal_lco, cal_lro, mC, m_kim, pr_ktg,
    ⟨f_kln, _, a_kln, i_kln, ok_clen (k := 0) F_kln T GC, b_kln⟩, ⟨f_krp, _, a_krp, i_krp, ok_crepr (k := 0) F_krp T GC, b_krp⟩, ⟨f_keq, _, a_keq, i_keq, ok_ceq (k := 0) F_keq T GC GSK (ok_eq (k := 0) F_eq T GT GS) a_eq i_eq b_eq, b_keq⟩, kne,
    ⟨_, _, _, _, _, _, _, _, _, _, _, _, _, _, _, _, kxL⟩, ⟨p_kid, f_kid, _, ⟨a_kid, ⟨_, r_kid⟩, i_kid⟩, ok_cid (k := 0) F_kid T ⟨mkK, a_ki, i_ki, kcK⟩ o_ki b_ki (ok_len (k := 0) F_len T GT) a_len i_len b_len, b_kid⟩, ⟨_, kcn, ⟨_, rfl⟩, kcg, by decide +kernel⟩⟩
theorem walkS {l : PySem.W.OpenLaw} {q : Program} {loose : List Str} {XP : (Str → Option Value) → Heap → Prop} {YP : World → Heap → Prop} {d : DefRec} {K : Params → PySem.W.Frag} (hn : l.most = some 63) (hdf : d.params.defaults = [])
    (hY : ∀ (w : World) (h : Heap), YP w h → (K w.params).In h)
    (F : ∀ (w : World) (mg : Str → Option Value) (fa : Addr) (h : Heap), (K w.params).In h → h.Ns mainGlobals mg → mg d.name = some (.ref fa) →
      ∃ fd : FuncData, (∀ (s : Shared) (u : Value), BindsTo s fd ⟨[u], []⟩ [("_law_script", u)]) ∧ ∀ base : Heap, (K w.params).In base → base.Ns mainGlobals mg → Sf.FnS l.prog w (K w.params) mg base CX0 14 fa fd ["_law_script"] (spLaw (K w.params))) :
    Sf.WalkS q loose XP YP l.row.toRowW d [] :=
  Sf.walk_S (n := 63) (k := 14) (x := "_law_script") (CX := fun _ => CX0) (sp := fun w => spLaw (K w.params)) hn (by decide) hdf ⟨rfl, by decide, by decide⟩ hY F (fun _ _ a ns hl _ hS => ⟨a, ns, rfl, hS, hl, fun _ => rfl⟩) fun _ _ _ _ _ z => z
end Lw
end
section
open PySem PySem.W PyProof.Rows
set_option Elab.async false
namespace Lw
def hn0 : List PySem.Str := ["_wall", "__name__", "WindowError", "InvalidGraph", "LimitExceeded", "OutOfRange", "InvalidRow", "InvalidWidth", "InvalidCode", "InvalidLength", "MAX_LENGTH", "MAX_COUNTED", "first_break", "check_length", "ways_to", "walks", "paths", "product", "power", "count_paths", "check_row", "turned", "shortest_cycle", "normal_row", "check_width", "check_paths", "check_images", "check_following", "Code", "check_edges"]
def hn1 : List PySem.Str := ["Graph", "_law_bag", "_law_pull", "_law_of", "_law_like", "_law_plan", "_law_graph", "_law_plan_of", "_law_after", "_law_paths", "_law_path_count", "_law_rule", "_law_rule_from", "_law_code", "_law_rule_of"]
def hnames : List PySem.Str := hn0 ++ hn1
end Lw
local macro_rules
  | `(tactic| o_headL ($f $K $A $E)) => `(tactic| refine Sf.head_S (r := (OpenLaw.row PySem.Challenge.rw_windowkin_k10_codes_and_their_parts)) (q := view (OpenLaw.row PySem.Challenge.rw_windowkin_k10_codes_and_their_parts).prog [50]) (H := $f $K $A $E) (ob := fun s => List.map (HandSHeadRun.getT s) $A) (M := 9000) (loose := Lw.hnames) (d := HandSHeadRun.topDef (OpenLaw.row PySem.Challenge.rw_windowkin_k10_codes_and_their_parts).prog 50) (kwd := []) (fun s => List.map_congr_left fun a _ => HandSHeadRun.getT_eq s a) (by kernel_rfl) (fun s => by kernel_rfl) (fun w => by intro os; kernel_rfl) (by kernel_rfl) (by kernel_rfl) (by kernel_rfl) (by rfl) (by first | assumption | decide +kernel) (by decide +kernel) ⟨rfl, rfl, rfl, rfl, rfl, by decide +kernel⟩ ?_ ?_)
set_option maxRecDepth 100000 in
set_option maxHeartbeats 0 in
theorem PySem.Challenge.cw_windowkin_k10_codes_and_their_parts_holds : PySem.Challenge.rw_windowkin_k10_codes_and_their_parts.Holds := by
  w_on; o_law; k_headL
  · w_witness2
  k_fill
  refine Lw.walkS (l := PySem.Challenge.rw_windowkin_k10_codes_and_their_parts) rfl (by kernel_rfl) (fun w h Y => PySem.W.kIn_of Y) ?F
  case F =>
    intro w mg fa h KX G hmg0
    have hmg : mg ("law" : PySem.Str) = some (.ref fa) := by
      have e : (HandSHeadRun.topDef (OpenLaw.row PySem.Challenge.rw_windowkin_k10_codes_and_their_parts).prog 50).name = ("law" : PySem.Str) := by kernel_rfl
      rw [← e]
      exact hmg0
    refine' Lw.all_mk KX G hmg ?z_len ?z_list ?z_tuple ?z_bool ?z_int ?z_str ?z_isinstance ?z_all ?z_zip ?z_range ?z_enumerate ?z_sum ?z_reversed ?z_repr ?z_set ?z_sorted ?z_dict ?aC ?gpg ?ghd ?gpo ?gsa ?gmk ?gkc ?gnS ?gnE ?grd ?gga ?gv8 ?gv24 ?iha ?ihn ?ihtk ?ihm ?iCl ?tyC ?qn ?qi ?ql ?qt ?a_bag ?l_bag ?c_bag ?k_bag ?a_pull ?l_pull ?c_pull ?k_pull ?a_of ?l_of ?c_of ?k_of ?a_plan ?l_plan ?c_plan ?k_plan ?a_like ?l_like ?c_like ?k_like ?a_check ?l_check ?c_check ?k_check ?a_init ?i_init ?l_init ?c_init ?k_init ?a_graph ?l_graph ?c_graph ?k_graph ?a_cnt ?i_cnt ?l_cnt ?c_cnt ?k_cnt ?a_eds ?i_eds ?l_eds ?c_eds ?k_eds ?a_cst ?i_cst ?l_cst ?c_cst ?k_cst ?a_lea ?i_lea ?l_lea ?c_lea ?k_lea ?a_len ?i_len ?l_len ?c_len ?k_len ?a_eq ?i_eq ?l_eq ?c_eq ?k_eq ?a_st ?g_st ?t_st ?r_st ?l_st ?c_st ?k_st ?aCK ?pgK ?hdK ?poK ?saK ?mkK ?kcK ?haK ?hmK ?nsource_graph_K ?ntarget_graph_K ?nwindow_size_K ?nimage_edges_K ?nimage_table_K ?krd ?kga ?kv4 ?kv6 ?kCl ?ktC ?kqn ?kqi ?kql ?kqt ?kun ?kui ?kul ?kut ?kne ?kxL ?kcn ?kcg ?aML ?aMC ?a_cl ?l_cl ?c_cl ?k_cl ?a_pr ?l_pr ?c_pr ?k_pr ?a_pw ?l_pw ?c_pw ?k_pw ?a_cp ?l_cp ?c_cp ?k_cp ?a_wt ?l_wt ?c_wt ?k_wt ?a_wk ?l_wk ?c_wk ?k_wk ?a_pa ?l_pa ?c_pa ?k_pa ?a_ckw ?l_ckw ?c_ckw ?k_ckw ?a_ckp ?l_ckp ?c_ckp ?k_ckp ?a_cki ?l_cki ?c_cki ?k_cki ?a_ckf ?l_ckf ?c_ckf ?k_ckf ?a_ki ?i_ki ?l_ki ?c_ki ?k_ki ?a_keq ?i_keq ?l_keq ?c_keq ?k_keq ?a_kln ?i_kln ?l_kln ?c_kln ?k_kln ?a_krp ?i_krp ?l_krp ?c_krp ?k_krp ?a_ksr ?g_ksr ?t_ksr ?r_ksr ?l_ksr ?c_ksr ?k_ksr ?a_ktg ?g_ktg ?t_ktg ?r_ktg ?l_ktg ?c_ktg ?k_ktg ?a_kwd ?g_kwd ?t_kwd ?r_kwd ?l_kwd ?c_kwd ?k_kwd ?a_kim ?i_kim ?l_kim ?c_kim ?k_kim ?a_kid ?r_kid ?i_kid ?l_kid ?c_kid ?k_kid ?a_po ?l_po ?c_po ?k_po ?a_aft ?l_aft ?c_aft ?k_aft ?a_pths ?l_pths ?c_pths ?k_pths ?a_lpc ?l_lpc ?c_lpc ?k_lpc ?a_rf ?l_rf ?c_rf ?k_rf ?a_lru ?l_lru ?c_lru ?k_lru ?a_lco ?l_lco ?c_lco ?k_lco ?a_lro ?l_lro ?c_lro ?k_lro ?a_law ?l_law ?c_law ?k_law
    (case z_len => k_is)
    (case z_list => k_is)
    (case z_tuple => k_is)
    (case z_bool => k_is)
    (case z_int => k_is)
    (case z_str => k_is)
    (case z_isinstance => k_is)
    (case z_all => k_is)
    (case z_zip => k_is)
    (case z_range => k_is)
    (case z_enumerate => k_is)
    (case z_sum => k_is)
    (case z_reversed => k_is)
    (case z_repr => k_is)
    (case z_set => k_is)
    (case z_sorted => k_is)
    (case z_dict => k_is)
    (case aC => k_is)
    (case gpg => k_is)
    (case ghd => k_is)
    (case gpo => k_is)
    (case gsa => k_is)
    (case gmk => k_is)
    (case gkc => k_is)
    (case gnS => k_is)
    (case gnE => k_is)
    (case grd => k_is)
    (case gga => k_is)
    (case gv8 => k_is)
    (case gv24 => k_is)
    (case iha => k_is)
    (case ihn => k_is)
    (case ihtk => k_is)
    (case ihm => k_is)
    (case iCl => k_is)
    (case tyC => k_is)
    (case qn => k_is)
    (case qi => k_is)
    (case ql => k_is)
    (case qt => k_is)
    (case a_bag => k_is)
    (case l_bag => k_is)
    (case c_bag => k_is)
    (case k_bag => k_is)
    (case a_pull => k_is)
    (case l_pull => k_is)
    (case c_pull => k_is)
    (case k_pull => k_is)
    (case a_of => k_is)
    (case l_of => k_is)
    (case c_of => k_is)
    (case k_of => k_is)
    (case a_plan => k_is)
    (case l_plan => k_is)
    (case c_plan => k_is)
    (case k_plan => k_is)
    (case a_like => k_is)
    (case l_like => k_is)
    (case c_like => k_is)
    (case k_like => k_is)
    (case a_check => k_is)
    (case l_check => k_is)
    (case c_check => k_is)
    (case k_check => k_is)
    (case a_init => k_is)
    (case i_init => k_is)
    (case l_init => k_is)
    (case c_init => k_is)
    (case k_init => k_is)
    (case a_graph => k_is)
    (case l_graph => k_is)
    (case c_graph => k_is)
    (case k_graph => k_is)
    (case a_cnt => k_is)
    (case i_cnt => k_is)
    (case l_cnt => k_is)
    (case c_cnt => k_is)
    (case k_cnt => k_is)
    (case a_eds => k_is)
    (case i_eds => k_is)
    (case l_eds => k_is)
    (case c_eds => k_is)
    (case k_eds => k_is)
    (case a_cst => k_is)
    (case i_cst => k_is)
    (case l_cst => k_is)
    (case c_cst => k_is)
    (case k_cst => k_is)
    (case a_lea => k_is)
    (case i_lea => k_is)
    (case l_lea => k_is)
    (case c_lea => k_is)
    (case k_lea => k_is)
    (case a_len => k_is)
    (case i_len => k_is)
    (case l_len => k_is)
    (case c_len => k_is)
    (case k_len => k_is)
    (case a_eq => k_is)
    (case i_eq => k_is)
    (case l_eq => k_is)
    (case c_eq => k_is)
    (case k_eq => k_is)
    (case a_st => k_is)
    (case g_st => k_is)
    (case t_st => k_is)
    (case r_st => k_is)
    (case l_st => k_is)
    (case c_st => k_is)
    (case k_st => k_is)
    (case aCK => k_is)
    (case pgK => k_is)
    (case hdK => k_is)
    (case poK => k_is)
    (case saK => k_is)
    (case mkK => k_is)
    (case kcK => k_is)
    (case haK => k_is)
    (case hmK => k_is)
    (case nsource_graph_K => k_is)
    (case ntarget_graph_K => k_is)
    (case nwindow_size_K => k_is)
    (case nimage_edges_K => k_is)
    (case nimage_table_K => k_is)
    (case krd => k_is)
    (case kga => k_is)
    (case kv4 => k_is)
    (case kv6 => k_is)
    (case kCl => k_is)
    (case ktC => k_is)
    (case kqn => k_is)
    (case kqi => k_is)
    (case kql => k_is)
    (case kqt => k_is)
    (case kun => k_is)
    (case kui => k_is)
    (case kul => k_is)
    (case kut => k_is)
    (case kne => k_is)
    (case kxL => k_is)
    (case kcn => k_is)
    (case kcg => k_is)
    (case aML => k_is)
    (case aMC => k_is)
    (case a_cl => k_is)
    (case l_cl => k_is)
    (case c_cl => k_is)
    (case k_cl => k_is)
    (case a_pr => k_is)
    (case l_pr => k_is)
    (case c_pr => k_is)
    (case k_pr => k_is)
    (case a_pw => k_is)
    (case l_pw => k_is)
    (case c_pw => k_is)
    (case k_pw => k_is)
    (case a_cp => k_is)
    (case l_cp => k_is)
    (case c_cp => k_is)
    (case k_cp => k_is)
    (case a_wt => k_is)
    (case l_wt => k_is)
    (case c_wt => k_is)
    (case k_wt => k_is)
    (case a_wk => k_is)
    (case l_wk => k_is)
    (case c_wk => k_is)
    (case k_wk => k_is)
    (case a_pa => k_is)
    (case l_pa => k_is)
    (case c_pa => k_is)
    (case k_pa => k_is)
    (case a_ckw => k_is)
    (case l_ckw => k_is)
    (case c_ckw => k_is)
    (case k_ckw => k_is)
    (case a_ckp => k_is)
    (case l_ckp => k_is)
    (case c_ckp => k_is)
    (case k_ckp => k_is)
    (case a_cki => k_is)
    (case l_cki => k_is)
    (case c_cki => k_is)
    (case k_cki => k_is)
    (case a_ckf => k_is)
    (case l_ckf => k_is)
    (case c_ckf => k_is)
    (case k_ckf => k_is)
    (case a_ki => k_is)
    (case i_ki => k_is)
    (case l_ki => k_is)
    (case c_ki => k_is)
    (case k_ki => k_is)
    (case a_keq => k_is)
    (case i_keq => k_is)
    (case l_keq => k_is)
    (case c_keq => k_is)
    (case k_keq => k_is)
    (case a_kln => k_is)
    (case i_kln => k_is)
    (case l_kln => k_is)
    (case c_kln => k_is)
    (case k_kln => k_is)
    (case a_krp => k_is)
    (case i_krp => k_is)
    (case l_krp => k_is)
    (case c_krp => k_is)
    (case k_krp => k_is)
    (case a_ksr => k_is)
    (case g_ksr => k_is)
    (case t_ksr => k_is)
    (case r_ksr => k_is)
    (case l_ksr => k_is)
    (case c_ksr => k_is)
    (case k_ksr => k_is)
    (case a_ktg => k_is)
    (case g_ktg => k_is)
    (case t_ktg => k_is)
    (case r_ktg => k_is)
    (case l_ktg => k_is)
    (case c_ktg => k_is)
    (case k_ktg => k_is)
    (case a_kwd => k_is)
    (case g_kwd => k_is)
    (case t_kwd => k_is)
    (case r_kwd => k_is)
    (case l_kwd => k_is)
    (case c_kwd => k_is)
    (case k_kwd => k_is)
    (case a_kim => k_is)
    (case i_kim => k_is)
    (case l_kim => k_is)
    (case c_kim => k_is)
    (case k_kim => k_is)
    (case a_kid => k_is)
    (case r_kid => k_is)
    (case i_kid => k_is)
    (case l_kid => k_is)
    (case c_kid => k_is)
    (case k_kid => k_is)
    (case a_po => k_is)
    (case l_po => k_is)
    (case c_po => k_is)
    (case k_po => k_is)
    (case a_aft => k_is)
    (case l_aft => k_is)
    (case c_aft => k_is)
    (case k_aft => k_is)
    (case a_pths => k_is)
    (case l_pths => k_is)
    (case c_pths => k_is)
    (case k_pths => k_is)
    (case a_lpc => k_is)
    (case l_lpc => k_is)
    (case c_lpc => k_is)
    (case k_lpc => k_is)
    (case a_rf => k_is)
    (case l_rf => k_is)
    (case c_rf => k_is)
    (case k_rf => k_is)
    (case a_lru => k_is)
    (case l_lru => k_is)
    (case c_lru => k_is)
    (case k_lru => k_is)
    (case a_lco => k_is)
    (case l_lco => k_is)
    (case c_lco => k_is)
    (case k_lco => k_is)
    (case a_lro => k_is)
    (case l_lro => k_is)
    (case c_lro => k_is)
    (case k_lro => k_is)
    (case a_law => k_is)
    (case l_law => k_is)
    (case c_law => k_is)
    (case k_law => k_is)
end
