import PyProof.Rows.All
import Wide.All
import OpenK.AllK
import Wide.FinOn
import HandS.ForMost
import HandS.Wide
import HandS.Codes
import PySem.Challenge.RW_windowkin_k06_numbers_of_paths
import HandS.IsInst
import HandS.Walk
import HandS.Zip
import KE.GoesMore
import HandS.ClsMeth
import HandS.Property
import HandS.FStr
import HandS.Exc
import HandS.ExcOwn
import HandS.WordsExc
import HandS.ExcInit
import HandS.Defaults
import HandS.TryOnly
import HandS.Lambda
import HandS.HotCalls
import HandS.ExcField
import PyProof.ZipIter
import PyProof.ListNew
import KE.KStar
import KE.KDictZip
import HandS.Star
import HandS.List
import KE.GoesZip
import KE.GoesEnum
import HandS.Nested
import KE.KDflt
import HandS.NestedHot
import HandS.ExcCtx
import HandS.CallLocal
import HandS.WideBits
import HandS.RevRange
import HandS.Conv
import HandS.EndOwn
import KE.KNestM
set_option Elab.async false
set_option linter.all false
set_option maxRecDepth 100000
namespace Lw
open PySem L2
def top (i : Nat) : Stmt := PySem.Challenge.pw_windowkin_k06_numbers_of_paths.main.body.getD i (.Pass ⟨0, 0, 0, 0⟩)
abbrev sBag : Stmt := top 19
abbrev sPull : Stmt := top 20
abbrev sOf : Stmt := top 21
/-! ### heaps -/
theorem same_upd {H : Hp} {p : Addr} {o : HO} (h : H p = none) : Same H (upd H p o) := fun b x e => by
  rw [upd_ne (ne_of_none e h)]
  exact e
theorem upd_upd {H : Hp} {p : Addr} {o o' : HO} : upd (upd H p o) p o' = upd H p o' := by
  funext c
  by_cases e : c = p
  · subst e
    rw [upd_same, upd_same]
  · rw [upd_ne e, upd_ne e, upd_ne e]
theorem upd_self {H : Hp} {p : Addr} {o : HO} (h : H p = some o) : upd H p o = H := by
  funext c
  by_cases e : c = p
  · subst e
    rw [upd_same, h]
  · rw [upd_ne e]
/-! ### the bag: the script's own list at l, a place, a rest, a salt -/
def BagO (l : Addr) (ns : List Int) (o : HO) : Prop := ∃ (i : Nat) (r s : Int), o = .lst [.ref l, .int (i : Int), .int r, .int s] ∧ i ≤ ns.length ∧ 0 ≤ r ∧ 0 ≤ s ∧ s < 2147483563
structure BagAt (H : Hp) (b l : Addr) (ns : List Int) : Prop where
  ob : ∃ o, H b = some o ∧ BagO l ns o
  sc : H l = some (.lst (ns.map V.int))
  ln : ns.length ≤ 63
theorem BagAt.ne {H : Hp} {b l : Addr} {ns : List Int} (h : BagAt H b l ns) : l ≠ b := fun e => by
  obtain ⟨o, ho, i, r, s, rfl, _⟩ := h.ob
  have h2 := h.sc
  rw [e, ho] at h2
  cases ns with
  | nil => cases h2
  | cons x r => cases h2
theorem BagAt.upd {H : Hp} {b l : Addr} {ns : List Int} {o : HO} (h : BagAt H b l ns) (ho : BagO l ns o) : BagAt (upd H b o) b l ns :=
  ⟨⟨o, upd_same, ho⟩, by rw [upd_ne h.ne]; exact h.sc, h.ln⟩
/-- the bag where all that was tracked stands -/
theorem BagAt.same {H H' : Hp} {b l : Addr} {ns : List Int} (h : BagAt H b l ns) (e : Same H H') : BagAt H' b l ns :=
  ⟨h.ob.imp fun _ z => ⟨e _ _ z.1, z.2⟩, e _ _ h.sc, h.ln⟩
def spPull : Sp := fun vs H Q _ => ∃ (b l : Addr) (ns : List Int) (m : Int), vs = [.ref b, .int m] ∧ BagAt H b l ns ∧ 0 < m ∧ m < 2 ^ 100 ∧
  ∀ (v : Int) (o : HO), 0 ≤ v → v < m → BagO l ns o → Q (.int v) (upd H b o)
def spBag (K : PySem.W.Frag) : Sp := fun vs H Q _ => ∃ (a : Addr) (ns : List Int), vs = [.ref a] ∧ SqL K H a (ns.map V.int) ∧ ns.length ≤ 63 ∧
  ∀ (b l : Addr) (H' : Hp), Same H H' → H b = none → H l = none → BagAt H' b l ns → Q (.ref b) H'
section
variable {P : Program} {w : World} {K : PySem.W.Frag} {mg : Str → Option Value} {base : Heap}
/-! ### _law_pull -/
theorem scPull : FnScope ["_law_bag_here", "_law_many", "_law_cell", "_law_got", "_law_seed"] ["_law_bag_here", "_law_many"] (defScope sPull) := ⟨rfl, rfl, rfl, by decide +kernel, rfl, by decide +kernel, by decide +kernel⟩
theorem at0 {x : V} {r : List V} : atI (x :: r) 0 = some x := by
  have h := atI_nat (xs := x :: r) (j := 0) (v := x) rfl
  exact h
theorem at1 {x y : V} {r : List V} : atI (x :: y :: r) 1 = some y := by
  have h := atI_nat (xs := x :: y :: r) (j := 1) (v := y) rfl
  exact h
theorem at2 {x y z : V} {r : List V} : atI (x :: y :: z :: r) 2 = some z := by
  have h := atI_nat (xs := x :: y :: z :: r) (j := 2) (v := z) rfl
  exact h
theorem at3 {x y z u : V} {r : List V} : atI (x :: y :: z :: u :: r) 3 = some u := by
  have h := atI_nat (xs := x :: y :: z :: u :: r) (j := 3) (v := u) rfl
  exact h
set_option maxHeartbeats 4000000 in
theorem ok_pull {f : Addr} {fd : FuncData} {k : Nat} (F : Fun K "_law_pull" "_law_pull" sPull f fd) (mlen : mg "len" = none) : FnOk P w K mg base CX0 (k + 1) f fd ["_law_bag_here", "_law_many"] spPull := by
  refine F.ok scPull (fun vs H Q E h => ?_) (fun cdv A outer s H vs Q E hr h => ?_)
  · obtain ⟨b, l, ns, m, rfl, _⟩ := h
    rfl
  · obtain ⟨b, l, ns, m, rfl, B, hm, hm2, q⟩ := h
    refine ⟨_, C8.pss_cut (ps_if (PW.pt (pw_and (pt_cmpR op_eq (pe_ix ix_list (pv 0) pe_int (fun _ _ => rfl)) pe_int (nomark _))
        (pw_and1 (pt_cmpR op_lt (pe_ix ix_list (pv 0) pe_int (fun _ _ => rfl)) (pe_callB call_len_seq (by rfl) mlen PySem.boot_len (pa_cons (pe_ix ix_list (pv 0) pe_int (fun _ _ => rfl)) pa_nil)) (nomark _)))))
        (pss_cons (ps_set (i := 2) scPull.nd rfl (Or.inl rfl) (pe_ix ix_list (pe_ix ix_list (pv 0) pe_int (fun _ _ => rfl)) (pe_ix ix_list (pv 0) pe_int (fun _ _ => rfl)) (fun _ _ => rfl)))
        (pss_cons (ps_asg (pe_op op_add (pe_ix ix_list (pv 0) pe_int (fun _ _ => rfl)) pe_int) (pg_sub (pv 0) pe_int set_list))
        (pss_one (ps_if (pt_cmpR op_ge (pv 2) (pe_op op_pow pe_int pe_int) (nomark _))
          (pss_one (ps_asg (pe_op op_sub (pv 2) (pe_op op_pow pe_int pe_int)) (pg_sub (pv 0) pe_int set_list)))
          (pss_one (ps_asg (pe_op op_mod (pe_op op_add (pe_op op_add (pe_op op_mul (pe_ix ix_list (pv 0) pe_int (fun _ _ => rfl)) pe_int) (pe_op op_mul (pe_op op_mod (pv 2) pe_int) pe_int)) pe_int) pe_int) (pg_sub (pv 0) pe_int set_list)))))))
        pss_nil)
      (pss_cons (ps_if (pt_cmpR op_gt (pe_ix ix_list (pv 0) pe_int (fun _ _ => rfl)) pe_int (nomark _))
        (pss_cons (ps_set (i := 3) scPull.nd rfl (Or.inl rfl) (pe_op op_mod (pe_ix ix_list (pv 0) pe_int (fun _ _ => rfl)) (pv 1)))
        (pss_cons (ps_asg (pe_op op_fdivW (pe_ix ix_list (pv 0) pe_int (fun _ _ => rfl)) (pv 1)) (pg_sub (pv 0) pe_int set_list))
        (pss_one (ps_ret (pv 3))))) pss_nil)
      (pss_cons (ps_set (i := 4) scPull.nd rfl (Or.inl rfl) (pe_ix ix_list (pv 0) pe_int (fun _ _ => rfl)))
      (pss_cons (ps_asg (pe_op op_mod (pe_op op_add (pe_op op_add (pe_op op_mul (pe_op op_mul (pv 4) (pv 4)) pe_int) (pe_op op_mul (pv 4) pe_int)) pe_int) pe_int) (pg_sub (pv 0) pe_int set_list))
      (pss_one (ps_ret (pe_op op_mod (pe_op op_add (pe_op op_fdiv (pe_ix ix_list (pv 0) pe_int (fun _ _ => rfl)) pe_int) (pe_op op_mul (pe_op op_mod (pe_ix ix_list (pv 0) pe_int (fun _ _ => rfl)) pe_int) pe_int)) (pv 1))))))), ?_⟩
    obtain ⟨o, ho, i, r, sa, rfl, hi, hr0, hs0, hs1⟩ := B.ob
    refine ⟨fun σ H' => ∃ (v2 : Option V) (o : HO), σ = [some (.ref b), some (.int m), v2, none, none] ∧ H' = upd H b o ∧ BagO l ns o, ?_, ?_⟩
    · refine ⟨_, rfl, b, _, _, _, rfl, rfl, SqL.of ho, at2, rfl, _, rfl, ?_⟩
      have stay : H = upd H b (.lst [.ref l, .int (i : Int), .int r, .int sa]) := (upd_self ho).symm
      refine ite2 (fun c => ?_) (fun c => ?_)
      · have c0 : r = 0 := by
          have c1 := of_decide_eq_true c
          injection c1
        subst c0
        refine ⟨_, rfl, b, _, _, _, rfl, rfl, SqL.of ho, at1, _, rfl, b, _, _, _, rfl, rfl, SqL.of ho, at0, l, _, rfl, .inl (SqL.of B.sc), _, _, rfl, rfl, _, rfl, ?_⟩
        rw [List.length_map]
        refine ite2 (fun c => ?_) (fun c => ?_)
        · have c1 : (i : Int) < (ns.length : Int) := of_decide_eq_true c
          have c2 : i < ns.length := by omega
          have g1 : (ns.map V.int)[i]? = some (.int ns[i]) := by
            rw [List.getElem?_map, List.getElem?_eq_getElem c2]
            rfl
          refine ⟨_, rfl, b, _, _, _, rfl, rfl, SqL.of ho, at0, _, rfl, b, _, _, _, rfl, rfl, SqL.of ho, at1, l, _, _, _, rfl, rfl, SqL.of B.sc, atI_nat g1, ?_⟩
          refine ⟨_, rfl, b, _, _, _, rfl, rfl, SqL.of ho, at1, _, _, rfl, rfl, _, rfl, b, _, _, 1, rfl, rfl, ho, rfl, ?_⟩
          refine ⟨_, rfl, _, _, rfl, rfl, ⟨by decide, by decide, by decide⟩, _, _, rfl, rfl, _, rfl, ?_⟩
          refine ite2 (fun c => ?_) (fun c => ?_)
          · have c3 : (10 : Int) ^ (18 : Int).toNat ≤ ns[i] := of_decide_eq_true c
            refine ⟨_, rfl, _, _, rfl, rfl, ⟨by decide, by decide, by decide⟩, _, _, rfl, rfl, _, rfl, b, _, _, 2, rfl, rfl, upd_same, rfl, ?_⟩
            refine ⟨_, _, rfl, upd_upd, i + 1, ns[i] - 10 ^ (18 : Int).toNat, sa, by rfl, by omega, by omega, hs0, hs1⟩
          · refine ⟨_, rfl, b, _, _, _, rfl, rfl, SqL.of upd_same, at3, _, _, rfl, rfl, .inl ⟨by omega, by omega⟩, _, rfl, _, _, rfl, rfl, (by show (0 : Int) < 2147483563; decide), _, _, rfl, rfl, .inl ⟨by omega, by omega⟩, _, _, rfl, rfl, _, _, rfl, rfl, _, _, rfl, rfl, (by show (0 : Int) < 2147483563; decide), _, rfl, b, _, _, 3, rfl, rfl, upd_same, rfl, ?_⟩
            refine ⟨_, _, rfl, upd_upd, i + 1, 0, _, by rfl, by omega, by omega, ?_, ?_⟩
            · exact Int.emod_nonneg _ (by decide)
            · exact Int.emod_lt_of_pos _ (by decide)
        · refine ⟨none, _, rfl, stay, i, 0, sa, rfl, hi, by omega, hs0, hs1⟩
      · refine iteF ?_
        exact ⟨none, _, rfl, stay, i, r, sa, rfl, hi, hr0, hs0, hs1⟩
    · rintro σ H' ⟨v2, o, rfl, rfl, i, r, sa, rfl, hi, hr0, hs0, hs1⟩
      refine ⟨_, rfl, b, _, _, _, rfl, rfl, SqL.of upd_same, at2, _, _, rfl, rfl, _, rfl, ?_⟩
      refine ite2 (fun c => ?_) (fun c => ?_)
      · have c1 : 0 < r := of_decide_eq_true c
        refine ⟨_, rfl, b, _, _, _, rfl, rfl, SqL.of upd_same, at2, _, rfl, _, _, rfl, rfl, hm, ?_⟩
        refine ⟨_, rfl, b, _, _, _, rfl, rfl, SqL.of upd_same, at2, _, rfl, _, _, rfl, rfl, wide_div hm (b := 100) (by omega) (by decide) (by decide), _, rfl, b, _, _, 2, rfl, rfl, upd_same, rfl, ?_⟩
        refine ⟨_, rfl, ?_⟩
        rw [upd_upd]
        refine q _ _ (Int.emod_nonneg _ (by omega)) (Int.emod_lt_of_pos _ hm) ⟨i, r / m, sa, rfl, hi, Int.ediv_nonneg hr0 (by omega), hs0, hs1⟩
      · refine ⟨_, rfl, b, _, _, _, rfl, rfl, SqL.of upd_same, at3, ?_⟩
        have hq : sa * sa < 2 ^ 64 := by
          have : sa * sa ≤ sa * 2147483563 := Int.mul_le_mul_of_nonneg_left (by omega) hs0
          omega
        have hq0 : 0 ≤ sa * sa := Int.mul_nonneg hs0 hs0
        refine ⟨_, rfl, _, rfl, _, _, rfl, rfl, .inl ⟨by omega, by omega⟩, _, _, rfl, rfl, .inl ⟨by omega, by omega⟩, _, rfl, _, _, rfl, rfl, .inl ⟨by omega, by omega⟩, _, _, rfl, rfl, _, _, rfl, rfl, _, _, rfl, rfl, (by show (0 : Int) < 2147483563; decide), _, rfl, b, _, _, 3, rfl, rfl, upd_same, rfl, ?_⟩
        rw [upd_upd]
        obtain ⟨x, hx⟩ : ∃ x : Int, (sa * sa * 3 + sa * 16807 + 1013904223) % 2147483563 = x := ⟨_, rfl⟩
        have x0 : 0 ≤ x := hx ▸ Int.emod_nonneg _ (by decide)
        have x1 : x < 2147483563 := hx ▸ Int.emod_lt_of_pos _ (by decide)
        refine ⟨_, rfl, b, _, _, _, rfl, rfl, SqL.of upd_same, at3, _, _, rfl, rfl, ⟨by decide, by decide⟩, _, rfl, b, _, _, _, rfl, rfl, SqL.of upd_same, at3, _, _, rfl, rfl, (by show (0 : Int) < 8191; decide), _, _, rfl, rfl, .inl ⟨by omega, by omega⟩, _, _, rfl, rfl, _, rfl, _, _, rfl, rfl, hm, ?_⟩
        exact q _ _ (Int.emod_nonneg _ (by omega)) (Int.emod_lt_of_pos _ hm) ⟨i, r, x, by rw [← hx]; rfl, hi, hr0, x0, x1⟩
end
end Lw
set_option Elab.async false
set_option linter.all false
set_option maxRecDepth 100000
namespace Lw
open PySem L2
abbrev sLike : Stmt := top 22
/-- the built-in names that the law's helpers ask for -/
structure Bi (mg : Str → Option Value) : Prop where
  len : mg "len" = none
  list : mg "list" = none
  tuple : mg "tuple" = none
  bool : mg "bool" = none
  int : mg "int" = none
  str : mg "str" = none
  isi : mg "isinstance" = none
  all : mg "all" = none
  zip : mg "zip" = none
  range : mg "range" = none
def spOf (K : PySem.W.Frag) : Sp := fun vs H Q _ => ∃ (b l t : Addr) (ns : List Int) (xs : List V), vs = [.ref b, .ref t] ∧ BagAt H b l ns ∧ SqL K H t xs ∧ t ≠ b ∧ xs ≠ [] ∧ xs.length ≤ 1000 ∧
  ∀ (i : Nat) (v : V) (o : HO), xs[i]? = some v → BagO l ns o → Q v (upd H b o)
theorem if_t {c : Bool} {A B : Prop} (hc : c = true) (h : A) : if c = true then A else B := by
  rw [if_pos hc]
  exact h
theorem if_f {c : Bool} {A B : Prop} (hc : c = false) (h : B) : if c = true then A else B := by
  rw [hc, if_neg Bool.false_ne_true]
  exact h
theorem cut_all {xs : List V} (h : xs.length ≤ 63) : cutV xs none (some 63) = xs := by
  unfold cutV
  rw [HT.sIx_none, show HT.sIx xs.length xs.length (some 63) = min 63 xs.length from HT.sIx_nat xs.length xs.length 63, Nat.min_eq_right h]
  simp
section
variable {P : Program} {w : World} {K : PySem.W.Frag} {mg : Str → Option Value} {base : Heap}
theorem SqL.upd_ne {H : Hp} {a b : Addr} {xs : List V} {o : HO} (h : SqL K H a xs) (e : a ≠ b) : SqL K (upd H b o) a xs := by
  unfold SqL Rd at h ⊢
  rw [L2.upd_ne e]
  exact h
/-! ### _law_bag -/
theorem scBag : FnScope ["_law_script", "_law_salt", "_law_cell"] ["_law_script"] (defScope sBag) := ⟨rfl, rfl, rfl, by decide +kernel, rfl, by decide +kernel, by decide +kernel⟩
set_option maxHeartbeats 4000000 in
theorem ok_bag {f : Addr} {fd : FuncData} {k : Nat} (F : Fun K "_law_bag" "_law_bag" sBag f fd) (T : Bi mg) : FnOk P w K mg base CX0 (k + 1) f fd ["_law_script"] (spBag K) := by
  refine F.ok scBag (fun vs H Q E h => ?_) (fun cdv A outer s H vs Q E hr h => ?_)
  · obtain ⟨b, ns, rfl, _⟩ := h
    rfl
  · obtain ⟨a, ns, rfl, hS, hl, q⟩ := h
    refine ⟨_, pss_cons (ps_set (i := 1) scBag.nd rfl (Or.inl rfl) pe_int)
      (pss_cons (ps_for PassesOwn.never rfl (pi_list (pe_slice sl_list (pv 0) po_none (po_some pe_int))) (pg_name (i := 2) scBag.nd rfl (Or.inl rfl))
        (pss_one (ps_set (i := 1) scBag.nd rfl (Or.inl rfl) (pe_op op_mod (pe_op op_add (pe_op op_add (pe_op op_mul (pv 1) pe_int) (pe_op op_mod (pv 2) pe_int)) pe_int) pe_int))))
      (pss_one (ps_ret (pe_lst (pa_cons (pe_callTy call_list_of (by rfl) T.list (by decide +kernel) (pa_cons (pe_slice sl_list (pv 0) po_none (po_some pe_int)) pa_nil)) (pa_cons pe_int (pa_cons pe_int (pa_cons (pv 1) pa_nil)))))))), ?_⟩
    have hl' : (ns.map V.int).length ≤ 63 := by rw [List.length_map]; exact hl
    refine ⟨_, rfl, _, rfl, a, _, rfl, hS, fun p hp => ?_⟩
    rw [cut_all hl']
    have s1 : Same H (upd H p (.lst (ns.map V.int))) := same_upd hp
    refine ⟨p, rfl, ⟨_, SqL.of upd_same⟩, for_list (K := K) (a := p) (xs := ns.map V.int) (fun i σ H' => ∃ (v : Option V) (sa : Int), σ = [some (.ref a), some (.int sa), v] ∧ H' = upd H p (.lst (ns.map V.int)) ∧ 0 ≤ sa ∧ sa < 2147483563)
      ⟨none, 3803, rfl, rfl, by decide, by decide⟩ (fun i σ H' _ ⟨_, _, _, e, _⟩ => by subst e; exact SqL.of upd_same) ?_ ?_⟩
    · rintro i y σ H' hi ⟨v, sa, rfl, rfl, h0, h1⟩
      obtain ⟨z, rfl⟩ : ∃ z, y = V.int z := by
        rw [List.getElem?_map] at hi
        cases e : ns[i]? with
        | none =>
          rw [e] at hi
          cases hi
        | some z =>
          rw [e] at hi
          exact ⟨z, (Option.some.inj hi).symm⟩
      refine ⟨_, rfl, _, _, rfl, rfl, .inl ⟨by omega, by omega⟩, _, rfl, _, _, rfl, rfl, (by show (0 : Int) < 2147483563; decide), _, _, rfl, rfl, _, _, rfl, rfl, _, _, rfl, rfl, (by show (0 : Int) < 2147483563; decide), ?_⟩
      exact ⟨_, _, rfl, rfl, Int.emod_nonneg _ (by decide), Int.emod_lt_of_pos _ (by decide)⟩
    · rintro σ H' ⟨v, sa, rfl, rfl, h0, h1⟩
      refine ⟨_, rfl, _, rfl, a, _, rfl, s1.seq hS, fun p2 hp2 => ?_⟩
      rw [cut_all hl']
      refine ⟨p2, _, rfl, .inl (SqL.of upd_same), fun l hl2 => ?_⟩
      have s2 := s1.trans (same_upd (o := .lst (ns.map V.int)) hp2)
      have s3 := s2.trans (same_upd (o := .lst (ns.map V.int)) hl2)
      refine ⟨_, rfl, (by show 4 ≤ sizeLine; decide), fun b hb => ?_⟩
      have nl : H l = none := s2.free hl2
      have nb : H b = none := s3.free hb
      have lb : l ≠ b := fun e => by
        rw [← e, upd_same] at hb
        cases hb
      refine q b l _ (s3.trans (same_upd hb)) nb nl ⟨⟨_, upd_same, 0, 0, sa, rfl, Nat.zero_le _, by decide, h0, h1⟩, ?_, hl⟩
      rw [upd_ne lb, upd_same]
/-! ### _law_of -/
theorem scOf : FnScope ["_law_bag_here", "_law_things"] ["_law_bag_here", "_law_things"] (defScope sOf) := ⟨rfl, rfl, rfl, by decide +kernel, rfl, by decide +kernel, by decide +kernel⟩
set_option maxHeartbeats 4000000 in
theorem ok_of {f : Addr} {fd : FuncData} {k : Nat} (F : Fun K "_law_of" "_law_of" sOf f fd) (T : Bi mg) (cP : C8.Cal P w K mg base 1 "_law_pull" spPull []) : FnOk P w K mg base CX0 (k + 2) f fd ["_law_bag_here", "_law_things"] (spOf K) := by
  refine F.ok scOf (fun vs H Q E h => ?_) (fun cdv A outer s H vs Q E hr h => ?_)
  · obtain ⟨b, l, t, ns, xs, rfl, _⟩ := h
    rfl
  · obtain ⟨b, l, t, ns, xs, rfl, B, hS, ne, nn, hl, q⟩ := h
    refine ⟨_, pss_one (ps_ret (pe_ix ix_list (pv 1) (C8.pe_c cP hr (Nat.le_add_left 1 k) (by rfl) (pa_cons (pv 0) (pa_cons (pe_callB call_len_seq (by rfl) T.len PySem.boot_len (pa_cons (pv 1) pa_nil)) pa_nil))) (fun _ _ => rfl))), ?_⟩
    have l0 : 0 < xs.length := List.length_pos_iff.mpr nn
    refine ⟨_, rfl, _, rfl, _, rfl, t, xs, rfl, .inl hS, b, l, ns, _, rfl, B, by omega, by omega, fun v o v0 v1 BO => ?_⟩
    have hv : v.toNat < xs.length := by omega
    have hvv : ((v.toNat : Nat) : Int) = v := Int.toNat_of_nonneg v0
    have g : atI xs v = some xs[v.toNat] := by
      have := atI_nat (xs := xs) (j := v.toNat) (v := xs[v.toNat]) (List.getElem?_eq_getElem hv)
      rw [hvv] at this
      exact this
    exact ⟨t, xs, v, _, rfl, rfl, SqL.upd_ne hS ne, g, q v.toNat _ o (List.getElem?_eq_getElem hv) BO⟩
/-! ### _law_like of like things is True -/
def atomV : V → Bool
  | .non => true
  | .bl _ => true
  | .int _ => true
  | .str _ => true
  | _ => false
def Lk (H : Hp) : Nat → V → V → Prop
  | 0, _, _ => False
  | n + 1, x, y => (x = y ∧ atomV x = true) ∨
    (∃ (a b : Addr) (xs ys : List V), x = .ref a ∧ y = .ref b ∧ H a = some (.lst xs) ∧ H b = some (.lst ys) ∧ xs.length = ys.length ∧ xs.length ≤ 1000 ∧ ∀ (i : Nat) u v, xs[i]? = some u → ys[i]? = some v → Lk H n u v) ∨
    (∃ (a b : Addr) (xs ys : List V), x = .ref a ∧ y = .ref b ∧ H a = some (.tup xs) ∧ H b = some (.tup ys) ∧ xs.length = ys.length ∧ xs.length ≤ 1000 ∧ ∀ (i : Nat) u v, xs[i]? = some u → ys[i]? = some v → Lk H n u v)
theorem Lk.same {H H' : Hp} (s : Same H H') : ∀ (n : Nat) (x y : V), Lk H n x y → Lk H' n x y
  | 0, _, _, h => h
  | n + 1, x, y, h => by
    rcases h with h | ⟨a, b, xs, ys, e1, e2, e3, e4, e5, e6, h⟩ | ⟨a, b, xs, ys, e1, e2, e3, e4, e5, e6, h⟩
    · exact .inl h
    · exact .inr (.inl ⟨a, b, xs, ys, e1, e2, s _ _ e3, s _ _ e4, e5, e6, fun i u v h1 h2 => Lk.same s n u v (h i u v h1 h2)⟩)
    · exact .inr (.inr ⟨a, b, xs, ys, e1, e2, s _ _ e3, s _ _ e4, e5, e6, fun i u v h1 h2 => Lk.same s n u v (h i u v h1 h2)⟩)
def spLike (n : Nat) : Sp := fun vs H Q _ => ∃ x y, vs = [x, y] ∧ Lk H n x y ∧ ∀ H', Same H H' → Q (.bl true) H'
theorem scLike : FnScope ["_law_found", "_law_due", "_law_one", "_law_other"] ["_law_found", "_law_due"] (defScope sLike) := ⟨rfl, rfl, rfl, by decide +kernel, rfl, by decide +kernel, by decide +kernel⟩
theorem walk_zipT {a b : Addr} {xs ys : List V} {n : Nat} (hn : n = min xs.length ys.length) : Walk (RZ.ItzT K a b) n (fun H => SqT K H a xs ∧ SqT K H b ys) (YPair (fun i => xs[i]?) (fun i => ys[i]?)) := by
  subst hn
  refine ⟨fun i H hi q => ?_, fun H q => ?_, fun i H x H' hi q y => ?_⟩
  · have h1 : i < xs.length := by omega
    have h2 : i < ys.length := by omega
    exact ⟨xs, ys, xs[i], ys[i], q.1, q.2, by simp [h1], by simp [h2]⟩
  · exact ⟨xs, ys, q.1, q.2, by omega⟩
  · obtain ⟨T, u, v, e1, e2, e3, g1, g2⟩ := y
    exact ⟨T, u, v, e1, e2, e3, g1 xs q.1, g2 ys q.2⟩
/-- what the law asks of an atom: its type's name -/
def tyV : V → String
  | .non => "NoneType"
  | .bl _ => "bool"
  | .int _ => "int"
  | .str _ => "str"
  | _ => "none"
theorem tyV_of {H : Hp} {x : V} (h : atomV x = true) : TyX K H x (.type (tyV x)) := by
  cases x with
  | non => exact .base .non
  | bl b => exact .base (.bl b)
  | int i => exact .base (.int i)
  | str z => exact .base (.str z)
  | _ => cases h
theorem tyV_cases {x : V} (h : atomV x = true) : tyV x = "NoneType" ∨ tyV x = "bool" ∨ tyV x = "int" ∨ tyV x = "str" := by
  cases x with
  | non => exact .inl rfl
  | bl b => exact .inr (.inl rfl)
  | int i => exact .inr (.inr (.inl rfl))
  | str z => exact .inr (.inr (.inr rfl))
  | _ => cases h
/-- isinstance of an atom: some answer, by the type alone -/
def isB (x : V) (T : String) : Bool := (kitB (tyV x) T).getD false
theorem isB_of {x : V} {T : String} (h : atomV x = true) (hT : T = "list" ∨ T = "tuple" ∨ T = "bool" ∨ T = "int" ∨ T = "str") : PySem.W.kitOne K (.type (tyV x)) (.type T) = some (isB x T) := by
  refine kit_ty ?_
  unfold isB
  rcases tyV_cases h with e | e | e | e <;> rw [e] <;> rcases hT with e | e | e | e | e <;> rw [e] <;> decide +kernel
theorem isB_no {x : V} (h : atomV x = true) : PySem.W.kitAny K (.type (tyV x)) [.type "list", .type "tuple"] = some false := by
  rcases tyV_cases h with e | e | e | e <;> rw [e]
  all_goals
    refine kitAny_cons (b := false) (kit_ty (by decide +kernel)) (fun _ => ?_) (fun z => by cases z)
    refine kitAny_cons (b := false) (kit_ty (by decide +kernel)) (fun _ => rfl) (fun z => by cases z)
theorem all_true (n : Nat) : (List.replicate n true).all id = true := by
  rw [List.all_replicate]
  simp
theorem like0 {f : Addr} {fd : FuncData} {k : Nat} (F : Fun K "_law_like" "_law_like" sLike f fd) : FnOk P w K mg base CX0 (k + 1) f fd ["_law_found", "_law_due"] (spLike 0) := by
  refine F.ok scLike (fun vs H Q E h => ?_) (fun cdv A outer s H vs Q E hr h => ?_)
  · obtain ⟨x, y, rfl, _⟩ := h
    rfl
  · obtain ⟨x, y, rfl, L, q⟩ := h
    exact L.elim
set_option maxHeartbeats 8000000 in
theorem ok_like {f : Addr} {fd : FuncData} {n k : Nat} (F : Fun K "_law_like" "_law_like" sLike f fd) (T : Bi mg) (c : 0 < n → C8.Cal P w K mg base (k + 1) "_law_like" (spLike (n - 1)) []) : FnOk P w K mg base CX0 (k + 2) f fd ["_law_found", "_law_due"] (spLike n) := by
  refine F.ok scLike (fun vs H Q E h => ?_) (fun cdv A outer s H vs Q E hr h => ?_)
  · obtain ⟨x, y, rfl, _⟩ := h
    rfl
  · obtain ⟨x, y, rfl, L, q⟩ := h
    cases n with
    | zero => exact L.elim
    | succ n =>
      have cc := c (Nat.succ_pos n)
      refine ⟨_, pss_cons (ps_if (pt_val (pe_callB call_isiT (by rfl) T.isi (by decide +kernel) (pa_cons (pv 1) (pa_cons (pe_tup (pa_cons (pe_bltn (v := .ty "list") (by rfl) T.list (by decide +kernel) rfl) (pa_cons (pe_bltn (v := .ty "tuple") (by rfl) T.tuple (by decide +kernel) rfl) pa_nil))) pa_nil))))
          (pss_cons (ps_if (PW.pt (pw_or (pt_cmpR op_ne (pe_callB call_isi (by rfl) T.isi (by decide +kernel) (pa_cons (pv 0) (pa_cons (pe_bltn (v := .ty "list") (by rfl) T.list (by decide +kernel) rfl) pa_nil))) (pe_callB call_isi (by rfl) T.isi (by decide +kernel) (pa_cons (pv 1) (pa_cons (pe_bltn (v := .ty "list") (by rfl) T.list (by decide +kernel) rfl) pa_nil))) (nomark _))
              (pw_or1 (pt_cmpR op_ne (pe_callB call_isi (by rfl) T.isi (by decide +kernel) (pa_cons (pv 0) (pa_cons (pe_bltn (v := .ty "tuple") (by rfl) T.tuple (by decide +kernel) rfl) pa_nil))) (pe_callB call_isi (by rfl) T.isi (by decide +kernel) (pa_cons (pv 1) (pa_cons (pe_bltn (v := .ty "tuple") (by rfl) T.tuple (by decide +kernel) rfl) pa_nil))) (nomark _))))) (pss_one (ps_ret pe_bl)) pss_nil)
          (pss_one (ps_ret (pe_and (pe_cmpR op_eq (pe_callB call_len_seq (by rfl) T.len PySem.boot_len (pa_cons (pv 0) pa_nil)) (pe_callB call_len_seq (by rfl) T.len PySem.boot_len (pa_cons (pv 1) pa_nil)) (nomark _))
            (pe_one (pe_callB (cr_all rfl) (by rfl) T.all (by decide +kernel) (pa_cons
              (pe_lc (own := [("_law_one", 2), ("_law_other", 3)]) (g := gTup K 2 (gCons (gName 2) (gCons (gName 3) gNil))) (tt := tYes) (te := tCall (spLike n) [] E0 (tCons (tVar 2) (tCons (tVar 3) tNil))) rfl scLike.nd (RZ.pi_zipA (by rfl) T.zip (pa_cons (pv 0) (pa_cons (pv 1) pa_nil)))
                (blkOk_by (N := ["_law_found", "_law_due", "_law_one", "_law_other"]) (sc := defScope sLike) (by decide +kernel))
                (fun _ _ _ _ _ => by exact pg_tup rfl (pgs_cons (pg_name (i := 2) scLike.nd rfl (Or.inl rfl)) (pgs_cons (pg_name (i := 3) scLike.nd rfl (Or.inl rfl)) pgs_nil)))
                (fun _ _ _ _ _ => pts_nil)
                (fun _ _ _ _ _ => by exact C8.pe_c cc hr (Nat.le_refl _) (by rfl) (pa_cons (pv 2) (pa_cons (pv 3) pa_nil)))) pa_nil))))))) pss_nil)
        (pss_cons (ps_if (PW.pt (pw_or (pt_cmpR op_isN (pv 0) pe_non (nomark _)) (pw_or1 (pt_cmpR op_isN (pv 1) pe_non (nomark _))))) (pss_one (ps_ret (pe_and (pe_cmpR op_isN (pv 0) pe_non (nomark _)) (pe_one (pe_cmpR op_isN (pv 1) pe_non (nomark _)))))) pss_nil)
        (pss_cons (ps_if (PW.pt (pw_or (pt_cmpR op_ne (pe_callB call_isi (by rfl) T.isi (by decide +kernel) (pa_cons (pv 0) (pa_cons (pe_bltn (v := .ty "bool") (by rfl) T.bool (by decide +kernel) rfl) pa_nil))) (pe_callB call_isi (by rfl) T.isi (by decide +kernel) (pa_cons (pv 1) (pa_cons (pe_bltn (v := .ty "bool") (by rfl) T.bool (by decide +kernel) rfl) pa_nil))) (nomark _))
              (pw_or1 (pt_cmpR op_ne (pe_callB call_isi (by rfl) T.isi (by decide +kernel) (pa_cons (pv 0) (pa_cons (pe_bltn (v := .ty "int") (by rfl) T.int (by decide +kernel) rfl) pa_nil))) (pe_callB call_isi (by rfl) T.isi (by decide +kernel) (pa_cons (pv 1) (pa_cons (pe_bltn (v := .ty "int") (by rfl) T.int (by decide +kernel) rfl) pa_nil))) (nomark _))))) (pss_one (ps_ret pe_bl)) pss_nil)
        (pss_one (ps_ret (pe_and (pe_cmpR op_eq (pe_callB call_isi (by rfl) T.isi (by decide +kernel) (pa_cons (pv 0) (pa_cons (pe_bltn (v := .ty "str") (by rfl) T.str (by decide +kernel) rfl) pa_nil))) (pe_callB call_isi (by rfl) T.isi (by decide +kernel) (pa_cons (pv 1) (pa_cons (pe_bltn (v := .ty "str") (by rfl) T.str (by decide +kernel) rfl) pa_nil))) (nomark _)) (pe_one (pe_cmpR op_eq (pv 0) (pv 1) (nomark _)))))))), ?_⟩
      rcases L with ⟨rfl, ha⟩ | ⟨a, b, xs, ys, rfl, rfl, ea, eb, hl, h1000, hp⟩ | ⟨a, b, xs, ys, rfl, rfl, ea, eb, hl, h1000, hp⟩
      · refine ⟨_, rfl, (by show 2 ≤ sizeLine; decide), fun t ht => ?_⟩
        have s1 := same_upd (o := .tup [.ty "list", .ty "tuple"]) ht
        refine ⟨x, t, _, _, _, _, rfl, upd_same, .cons (.ty _) (.cons (.ty _) .nil), tyV_of ha, isB_no ha, false, rfl, ?_⟩
        refine iteF ?_
        refine ⟨_, rfl, rfl, _, rfl, ?_⟩
        by_cases hx : x = .non
        · subst hx
          refine if_t (decide_eq_true rfl) (iteT ?_)
          exact ⟨_, rfl, rfl, _, rfl, if_t (decide_eq_true rfl) ⟨_, rfl, rfl, q _ s1⟩⟩
        · refine if_f (decide_eq_false hx) ⟨_, rfl, rfl, _, rfl, if_f (decide_eq_false hx) ?_⟩
          refine ⟨_, rfl, x, _, _, _, _, rfl, .ty _, tyV_of ha, isB_of ha (by simp), _, rfl, x, _, _, _, _, rfl, .ty _, tyV_of ha, isB_of ha (by simp), rfl, _, rfl, ?_⟩
          refine if_f (by simp) ?_
          refine ⟨_, rfl, x, _, _, _, _, rfl, .ty _, tyV_of ha, isB_of ha (by simp), _, rfl, x, _, _, _, _, rfl, .ty _, tyV_of ha, isB_of ha (by simp), rfl, _, rfl, ?_⟩
          refine if_f (by simp) ?_
          refine ⟨_, rfl, x, _, _, _, _, rfl, .ty _, tyV_of ha, isB_of ha (by simp), _, rfl, x, _, _, _, _, rfl, .ty _, tyV_of ha, isB_of ha (by simp), rfl, _, rfl, ?_⟩
          refine if_t (by simp) ?_
          refine ⟨_, rfl, _, rfl, ?_, ?_⟩
          · cases x <;> first | rfl | (cases ha)
          · rw [decide_eq_true rfl]
            exact q _ s1
      · refine ⟨_, rfl, (by show 2 ≤ sizeLine; decide), fun t ht => ?_⟩
        have s1 := same_upd (o := .tup [.ty "list", .ty "tuple"]) ht
        have ea1 := s1 _ _ ea
        have eb1 := s1 _ _ eb
        refine ⟨.ref b, t, _, _, _, _, rfl, upd_same, .cons (.ty _) (.cons (.ty _) .nil), .base (.lst eb1), kitAny_cons (b := true) (kit_ty (by decide +kernel)) (fun z => by cases z) (fun _ => rfl), true, rfl, ?_⟩
        refine iteT ?_
        refine ⟨_, rfl, _, _, _, _, true, rfl, .ty _, .base (.lst ea1), kit_ty (by decide +kernel), _, rfl, _, _, _, _, true, rfl, .ty _, .base (.lst eb1), kit_ty (by decide +kernel), rfl, _, rfl, ?_⟩
        refine if_f (by simp) ?_
        refine ⟨_, rfl, _, _, _, _, false, rfl, .ty _, .base (.lst ea1), kit_ty (by decide +kernel), _, rfl, _, _, _, _, false, rfl, .ty _, .base (.lst eb1), kit_ty (by decide +kernel), rfl, _, rfl, ?_⟩
        refine if_f (by simp) ?_
        refine ⟨_, rfl, a, xs, rfl, .inl (SqL.of ea1), _, rfl, b, ys, rfl, .inl (SqL.of eb1), rfl, _, rfl, ?_⟩
        refine if_t (by rw [hl]; exact decide_eq_true rfl) ?_
        refine ⟨_, rfl, _, rfl, a, b, xs, ys, rfl, .inl ⟨SqL.of ea1, SqL.of eb1, fun D hD => ?_⟩⟩
        have s2 := s1.trans (same_upd (o := .lst []) hD)
        refine lc_it (walk_zip (K := K) (a := a) (b := b) (xs := xs) (ys := ys) (n := xs.length) (by omega)) (fun i H' => Same H H' ∧ H' D = some (.lst ((List.replicate i true).map V.bl))) ⟨s2, upd_same⟩ (fun i H' _ p => ⟨SqL.of (p.1 _ _ ea), SqL.of (p.1 _ _ eb)⟩) ?_ ?_
        · rintro i v H1 H' hi ⟨sm, eD⟩ ⟨T, x, y, rfl, hT, rfl, gx, gy⟩
          have s3 := sm.trans (same_upd (o := .tup [x, y]) hT)
          refine ⟨T, _, rfl, SqT.of upd_same, rfl, _, _, rfl, _, _, rfl, rfl, rfl, ?_⟩
          refine ⟨_, rfl, _, rfl, x, y, rfl, Lk.same s3 n _ _ (hp i x y gx gy), fun H4 s4 => ?_⟩
          have eD4 : H4 D = some (.lst ((List.replicate i true).map V.bl)) := s4 _ _ (by rw [upd_ne (ne_of_none eD hT)]; exact eD)
          have nD : H D = none := s1.free hD
          refine ⟨_, eD4, ?_, ?_, ?_⟩
          · rw [List.length_map, List.length_replicate]
            exact small1000 (by omega)
          · intro c o ec
            rw [upd_ne (ne_of_none ec nD)]
            exact s4 _ _ (s3 _ _ ec)
          · rw [upd_same, List.replicate_succ', List.map_append]
            rfl
        · rintro H' ⟨sm, eD⟩
          refine ⟨D, List.replicate xs.length true, rfl, SqL.of eD, ?_⟩
          rw [all_true]
          exact q H' sm
      · refine ⟨_, rfl, (by show 2 ≤ sizeLine; decide), fun t ht => ?_⟩
        have s1 := same_upd (o := .tup [.ty "list", .ty "tuple"]) ht
        have ea1 := s1 _ _ ea
        have eb1 := s1 _ _ eb
        refine ⟨.ref b, t, _, _, _, _, rfl, upd_same, .cons (.ty _) (.cons (.ty _) .nil), .base (.tup eb1), kitAny_cons (b := false) (kit_ty (by decide +kernel)) (fun _ => kitAny_cons (b := true) (kit_ty (by decide +kernel)) (fun z => by cases z) (fun _ => rfl)) (fun z => by cases z), true, rfl, ?_⟩
        refine iteT ?_
        refine ⟨_, rfl, _, _, _, _, false, rfl, .ty _, .base (.tup ea1), kit_ty (by decide +kernel), _, rfl, _, _, _, _, false, rfl, .ty _, .base (.tup eb1), kit_ty (by decide +kernel), rfl, _, rfl, ?_⟩
        refine if_f (by simp) ?_
        refine ⟨_, rfl, _, _, _, _, true, rfl, .ty _, .base (.tup ea1), kit_ty (by decide +kernel), _, rfl, _, _, _, _, true, rfl, .ty _, .base (.tup eb1), kit_ty (by decide +kernel), rfl, _, rfl, ?_⟩
        refine if_f (by simp) ?_
        refine ⟨_, rfl, a, xs, rfl, .inr (SqT.of ea1), _, rfl, b, ys, rfl, .inr (SqT.of eb1), rfl, _, rfl, ?_⟩
        refine if_t (by rw [hl]; exact decide_eq_true rfl) ?_
        refine ⟨_, rfl, _, rfl, a, b, xs, ys, rfl, .inr ⟨SqT.of ea1, SqT.of eb1, fun D hD => ?_⟩⟩
        have s2 := s1.trans (same_upd (o := .lst []) hD)
        refine lc_it (walk_zipT (K := K) (a := a) (b := b) (xs := xs) (ys := ys) (n := xs.length) (by omega)) (fun i H' => Same H H' ∧ H' D = some (.lst ((List.replicate i true).map V.bl))) ⟨s2, upd_same⟩ (fun i H' _ p => ⟨SqT.of (p.1 _ _ ea), SqT.of (p.1 _ _ eb)⟩) ?_ ?_
        · rintro i v H1 H' hi ⟨sm, eD⟩ ⟨T, x, y, rfl, hT, rfl, gx, gy⟩
          have s3 := sm.trans (same_upd (o := .tup [x, y]) hT)
          refine ⟨T, _, rfl, SqT.of upd_same, rfl, _, _, rfl, _, _, rfl, rfl, rfl, ?_⟩
          refine ⟨_, rfl, _, rfl, x, y, rfl, Lk.same s3 n _ _ (hp i x y gx gy), fun H4 s4 => ?_⟩
          have eD4 : H4 D = some (.lst ((List.replicate i true).map V.bl)) := s4 _ _ (by rw [upd_ne (ne_of_none eD hT)]; exact eD)
          have nD : H D = none := s1.free hD
          refine ⟨_, eD4, ?_, ?_, ?_⟩
          · rw [List.length_map, List.length_replicate]
            exact small1000 (by omega)
          · intro c o ec
            rw [upd_ne (ne_of_none ec nD)]
            exact s4 _ _ (s3 _ _ ec)
          · rw [upd_same, List.replicate_succ', List.map_append]
            rfl
        · rintro H' ⟨sm, eD⟩
          refine ⟨D, List.replicate xs.length true, rfl, SqL.of eD, ?_⟩
          rw [all_true]
          exact q H' sm
end
end Lw
set_option Elab.async false
set_option linter.all false
set_option maxRecDepth 100000
namespace Lw
open PySem L2
abbrev sPlan : Stmt := top 25
/-! ### edges: their tuples' places, and their two ends -/
abbrev Es := List (Addr × Int × Int)
def Ed (H : Hp) (ts : Es) : Prop := ∀ e ∈ ts, H e.1 = some (.tup [.int e.2.1, .int e.2.2])
def vsOf (ts : Es) : List V := ts.map fun e => .ref e.1
def psOf (ts : Es) : List (Int × Int) := ts.map (·.2)
/-- all that stood, but at b, stands -/
def KeepB (b : Addr) (H H' : Hp) : Prop := ∀ c o, c ≠ b → H c = some o → H' c = some o
theorem KeepB.rfl' {b : Addr} {H : Hp} : KeepB b H H := fun _ _ _ e => e
theorem KeepB.trans {b : Addr} {H H1 H2 : Hp} (x : KeepB b H H1) (y : KeepB b H1 H2) : KeepB b H H2 := fun c o n e => y c o n (x c o n e)
theorem KeepB.of_same {b : Addr} {H H' : Hp} (s : Same H H') : KeepB b H H' := fun c o _ e => s c o e
theorem KeepB.updb {b : Addr} {H : Hp} {o : HO} : KeepB b H (upd H b o) := fun c o n e => by
  rw [upd_ne n]
  exact e
theorem KeepB.new {b p : Addr} {H H' : Hp} {o : HO} (x : KeepB b H H') (n : H' p = none) : KeepB b H (upd H' p o) := x.trans (.of_same (same_upd n))
/-- a store at what was not there at first -/
theorem KeepB.at {b p : Addr} {H H' : Hp} {o : HO} (x : KeepB b H H') (n : H p = none) : KeepB b H (upd H' p o) := fun c o' nb e => by
  rw [upd_ne (ne_of_none e n)]
  exact x c o' nb e
theorem KeepB.free {b p : Addr} {H H' : Hp} {ob : HO} (x : KeepB b H H') (hb : H' b = some ob) (n : H' p = none) : H p = none := by
  cases e : H p with
  | none => rfl
  | some o =>
    have np : p ≠ b := fun z => by
      rw [z, hb] at n
      cases n
    rw [x p o np e] at n
    cases n
theorem BagAt.at_b {H : Hp} {b l : Addr} {ns : List Int} (B : BagAt H b l ns) : ∃ xs, H b = some (.lst xs) := by
  obtain ⟨o, ho, i, r, s, rfl, _⟩ := B.ob
  exact ⟨_, ho⟩
theorem BagAt.ne_tup {H : Hp} {b l c : Addr} {ns : List Int} {xs : List V} (B : BagAt H b l ns) (h : H c = some (.tup xs)) : c ≠ b := fun e => by
  obtain ⟨ys, hb⟩ := B.at_b
  rw [e, hb] at h
  cases h
theorem BagAt.ne_ins {H : Hp} {b l c C dx : Addr} {ns : List Int} {fs : List (Str × V)} (B : BagAt H b l ns) (h : H c = some (.ins C dx fs)) : c ≠ b := fun e => by
  obtain ⟨ys, hb⟩ := B.at_b
  rw [e, hb] at h
  cases h
theorem BagAt.ne_new {H : Hp} {b l c : Addr} {ns : List Int} (B : BagAt H b l ns) (h : H c = none) : c ≠ b := fun e => by
  obtain ⟨ys, hb⟩ := B.at_b
  rw [e, hb] at h
  cases h
theorem vsOf_cons_ne {l : Addr} {ts : Es} {i : Nat} {r s : Int} : vsOf ts ≠ [.ref l, .int (i : Int), .int r, .int s] := fun e => by
  have h : (vsOf ts)[1]? = some (V.int (i : Int)) := by rw [e]; rfl
  unfold vsOf at h
  rw [List.getElem?_map] at h
  cases g : ts[1]? with
  | none => rw [g] at h; cases h
  | some x => rw [g] at h; cases h
theorem BagAt.ne_vs {H : Hp} {b l c : Addr} {ns : List Int} {ts : Es} (B : BagAt H b l ns) (h : H c = some (.lst (vsOf ts))) : c ≠ b := fun e => by
  obtain ⟨o, ho, i, r, s, rfl, _⟩ := B.ob
  rw [e, ho] at h
  injection h with h
  injection h with h
  exact vsOf_cons_ne h.symm
theorem Ed.keep {H H' : Hp} {b l : Addr} {ns : List Int} {ts : Es} (h : Ed H ts) (B : BagAt H b l ns) (k : KeepB b H H') : Ed H' ts := fun e he => k _ _ (B.ne_tup (h e he)) (h e he)
theorem Ed.same {H H' : Hp} {ts : Es} (h : Ed H ts) (k : Same H H') : Ed H' ts := fun e he => k _ _ (h e he)
theorem Ed.app {H : Hp} {ts us : Es} (h : Ed H ts) (h2 : Ed H us) : Ed H (ts ++ us) := fun e he => (List.mem_append.mp he).elim (h e) (h2 e)
theorem Ed.nil {H : Hp} : Ed H [] := fun e he => nomatch he
theorem Ed.one {H : Hp} {t : Addr} {x y : Int} (h : H t = some (.tup [.int x, .int y])) : Ed H [(t, x, y)] := fun e he => by
  have z := List.mem_singleton.mp he
  subst z
  exact h
/-- the bag where all but the bag stands -/
theorem BagAt.new {H : Hp} {b l p : Addr} {ns : List Int} {o : HO} (B : BagAt H b l ns) (n : H p = none) : BagAt (L2.upd H p o) b l ns := B.same (same_upd n)
theorem BagAt.off {H : Hp} {b l p : Addr} {ns : List Int} {o : HO} (B : BagAt H b l ns) (nb : p ≠ b) (nl : p ≠ l) : BagAt (L2.upd H p o) b l ns := by
  obtain ⟨ob, hob, hB⟩ := B.ob
  exact ⟨⟨ob, by rw [upd_ne nb.symm]; exact hob, hB⟩, by rw [upd_ne nl.symm]; exact B.sc, B.ln⟩
structure Valid (n : Int) (ts : Es) : Prop where
  rg : ∀ e ∈ ts, 0 ≤ e.2.1 ∧ e.2.1 < n ∧ 0 ≤ e.2.2 ∧ e.2.2 < n
  sr : ∀ k : Int, 0 ≤ k → k < n → ∃ e ∈ ts, e.2.1 = k
structure PlanAt (H : Hp) (p q : Addr) (n : Int) (ts : Es) : Prop where
  tp : H p = some (.tup [.int n, .ref q])
  ls : H q = some (.lst (vsOf ts))
  ed : Ed H ts
  va : Valid n ts
  n1 : 1 ≤ n
def spPlan : Sp := fun vs H Q _ => ∃ (b l : Addr) (ns : List Int) (most many : Int), vs = [.ref b, .int most, .int many] ∧ BagAt H b l ns ∧ 1 ≤ most ∧ most ≤ many ∧ many ≤ 100 ∧
  ∀ (p q : Addr) (n : Int) (ts : Es) (H' : Hp), KeepB b H H' → BagAt H' b l ns → H p = none → H q = none → PlanAt H' p q n ts → n ≤ most → (ts.length : Int) ≤ many → Q (.ref p) H'
theorem cut_lo {xs : List V} {k : Nat} (h : k ≤ xs.length) : cutV xs none (some (k : Int)) = xs.take k := by
  unfold cutV
  rw [HT.sIx_none, HT.sIx_nat, Nat.min_eq_left h]
  simp
theorem cut_hi {xs : List V} {k : Nat} (h : k ≤ xs.length) : cutV xs (some (k : Int)) none = xs.drop k := by
  unfold cutV
  rw [HT.sIx_none, HT.sIx_nat, Nat.min_eq_left h]
  rw [List.take_of_length_le]
  rw [List.length_drop]
  exact Nat.le_refl _
section
variable {P : Program} {w : World} {K : PySem.W.Frag} {mg : Str → Option Value} {base : Heap}
theorem scPlan : FnScope ["_law_bag_here", "_law_most", "_law_many", "_law_size", "_law_pairs", "_law_k", "_law_at", "_law_state"] ["_law_bag_here", "_law_most", "_law_many"] (defScope sPlan) := ⟨rfl, rfl, rfl, by decide +kernel, rfl, by decide +kernel, by decide +kernel⟩
set_option maxHeartbeats 8000000 in
theorem ok_plan {f : Addr} {fd : FuncData} {k : Nat} (F : Fun K "_law_plan" "_law_plan" sPlan f fd) (T : Bi mg) (cP : C8.Cal P w K mg base 1 "_law_pull" spPull []) : FnOk P w K mg base CX0 (k + 2) f fd ["_law_bag_here", "_law_most", "_law_many"] spPlan := by
  refine F.ok scPlan (fun vs H Q E h => ?_) (fun cdv A outer s H vs Q E hr h => ?_)
  · obtain ⟨b, l, ns, m1, m2, rfl, _⟩ := h
    rfl
  · obtain ⟨b, l, ns, most, many, rfl, B, hm1, hm2, hm3, q⟩ := h
    have hk : 1 ≤ k + 1 := Nat.le_add_left 1 k
    refine ⟨_, pss_cons (ps_set (i := 3) scPlan.nd rfl (Or.inr rfl) (pe_op op_add pe_int (C8.pe_c cP hr hk (by rfl) (pa_cons (pv 0) (pa_cons (pv 1) pa_nil)))))
      (pss_cons (ps_setLc (i := 4) (own := [("_law_state", 7)]) (g := gName 7) (tt := tYes) (te := tTup (tCons (tVar 7) (tCons (tCall spPull [] E0 (tCons (tVar 0) (tCons (tVar 3) tNil))) tNil))) rfl scPlan.nd rfl rfl (sw_true rfl rfl rfl (by decide +kernel))
          (pi_range1 (by rfl) T.range (pa_cons (pv 3) pa_nil))
          (blkOk_by (N := ["_law_bag_here", "_law_most", "_law_many", "_law_size", "_law_pairs", "_law_k", "_law_at", "_law_state"]) (sc := defScope sPlan) (by decide +kernel))
          (fun _ _ _ _ _ => by exact pg_name (i := 7) scPlan.nd rfl (Or.inl rfl))
          (fun _ _ _ _ _ => pts_nil)
          (fun _ _ _ _ _ => by exact pe_tup (pa_cons (pv 7) (pa_cons (C8.pe_c cP hr hk (by rfl) (pa_cons (pv 0) (pa_cons (pv 3) pa_nil))) pa_nil))))
      (pss_cons (ps_for PassesOwn.never rfl (pi_range1 (by rfl) T.range (pa_cons (C8.pe_c cP hr hk (by rfl) (pa_cons (pv 0) (pa_cons (pe_op op_add (pe_op op_sub (pv 2) (pv 3)) pe_int) pa_nil))) pa_nil)) (pg_name (i := 5) scPlan.nd rfl (Or.inl rfl))
        (pss_cons (ps_set (i := 6) scPlan.nd rfl (Or.inl rfl) (C8.pe_c cP hr hk (by rfl) (pa_cons (pv 0) (pa_cons (pe_op op_add (pe_callB call_len_seq (by rfl) T.len PySem.boot_len (pa_cons (pv 4) pa_nil)) pe_int) pa_nil))))
        (pss_one (ps_set (i := 4) scPlan.nd rfl (Or.inl rfl) (pe_op op_cat (pe_op op_cat (pe_slice sl_list (pv 4) po_none (po_some (pv 6)))
          (pe_lst (pa_cons (pe_tup (pa_cons (C8.pe_c cP hr hk (by rfl) (pa_cons (pv 0) (pa_cons (pv 3) pa_nil))) (pa_cons (C8.pe_c cP hr hk (by rfl) (pa_cons (pv 0) (pa_cons (pv 3) pa_nil))) pa_nil))) pa_nil)))
          (pe_slice sl_list (pv 4) (po_some (pv 6)) po_none))))))
      (pss_one (ps_ret (pe_tup (pa_cons (pv 3) (pa_cons (pv 4) pa_nil))))))), ?_⟩
    -- size
    refine ⟨_, rfl, _, rfl, b, l, ns, most, rfl, B, by omega, by omega, fun v o v0 v1 BO => ?_⟩
    refine ⟨_, _, rfl, rfl, ?_⟩
    have B1 := B.upd BO
    have k1 : KeepB b H (upd H b o) := .updb
    have hv0 : 0 ≤ 1 + v := by omega
    -- pairs: the comprehension
    refine ⟨_, rfl, 1 + v, rfl, by omega, by omega, fun D hD => ?_⟩
    have hbD : D ≠ b := B1.ne_new hD
    have nD : H D = none := by
      rw [upd_ne hbD] at hD
      exact hD
    refine lc_it (walk_range (lo := 0) (n := (1 + v).toNat)) (fun i H' => ∃ ts : Es, ts.length = i ∧ KeepB b H H' ∧ BagAt H' b l ns ∧ H' D = some (.lst (vsOf ts)) ∧ Ed H' ts ∧ ∀ (j : Nat) (e : Addr × Int × Int), ts[j]? = some e → e.2.1 = (j : Int) ∧ 0 ≤ e.2.2 ∧ e.2.2 < 1 + v)
      ⟨[], rfl, k1.new hD, B1.new hD, upd_same, .nil, fun j e he => by simp at he⟩ (fun _ _ _ _ => True.intro) ?_ ?_
    · rintro i x H1 H' hi ⟨ts, hts, kp, Bi, eD, ed, hj⟩ ⟨rfl, rfl⟩
      refine ⟨rfl, ?_⟩
      refine ⟨_, rfl, _, rfl, _, rfl, b, l, ns, _, rfl, Bi, by omega, by omega, fun v2 o2 v20 v21 BO2 => ?_⟩
      refine ⟨(by show 2 ≤ sizeLine; decide), fun t ht => ?_⟩
      have B2 := Bi.upd BO2
      have B3 := B2.new (o := .tup [.int (0 + (i : Int)), .int v2]) ht
      have ed3 : Ed (upd (upd H' b o2) t (.tup [.int (0 + (i : Int)), .int v2])) ts := (ed.keep Bi .updb).same (same_upd ht)
      have eD2 : upd H' b o2 D = some (.lst (vsOf ts)) := by
        rw [upd_ne hbD]
        exact eD
      have tD : D ≠ t := ne_of_none eD2 ht
      refine ⟨vsOf ts, by rw [upd_ne tD]; exact eD2, ?_, ts ++ [(t, (i : Int), v2)], by simp [hts], ?_, ?_, ?_, ?_, ?_⟩
      · unfold vsOf
        rw [List.length_map]
        exact small1000 (by omega)
      · exact ((kp.trans .updb).new ht).at nD
      · exact B3.off hbD (ne_of_none B.sc nD).symm
      · rw [upd_same]
        unfold vsOf
        rw [List.map_append]
        rfl
      · refine Ed.app (fun e he => ?_) (.one ?_)
        · have h1 := ed3 e he
          rw [upd_ne (fun z => ?_)]
          · exact h1
          · rw [z, upd_ne tD, eD2] at h1
            cases h1
        · rw [upd_ne (Ne.symm tD), upd_same]
          show some (HO.tup [V.int (0 + (i : Int)), V.int v2]) = _
          rw [Int.zero_add]
      · intro j e he
        by_cases hlt : j < ts.length
        · rw [List.getElem?_append_left hlt] at he
          exact hj j e he
        · rw [List.getElem?_append_right (by omega)] at he
          cases hz : j - ts.length with
          | zero =>
            rw [hz] at he
            have z : (t, (i : Int), v2) = e := Option.some.inj he
            subst z
            exact ⟨by show (i : Int) = (j : Int); omega, v20, v21⟩
          | succ m =>
            rw [hz] at he
            cases he
    · rintro H1 ⟨ts, hts, kp, Bi, eD, ed, hj⟩
      have va : Valid (1 + v) ts := by
        refine ⟨fun e he => ?_, fun k k0 k1 => ?_⟩
        · obtain ⟨j, hjl, hje⟩ := List.getElem_of_mem he
          have h1 := hj j e (by rw [List.getElem?_eq_getElem hjl, hje])
          exact ⟨by omega, by omega, h1.2.1, h1.2.2⟩
        · have hk' : k.toNat < ts.length := by omega
          have h1 := hj k.toNat ts[k.toNat] (List.getElem?_eq_getElem hk')
          exact ⟨ts[k.toNat], List.getElem_mem hk', by rw [h1.1]; omega⟩
      -- the loop
      have ln1 : (ts.length : Int) = 1 + v := by omega
      refine ⟨_, rfl, _, rfl, _, rfl, _, _, rfl, rfl, _, _, rfl, rfl, b, l, ns, _, rfl, Bi, by omega, by omega, fun r o2 r0 r1 BO2 => ?_⟩
      refine ⟨r, rfl, by omega, by omega, ?_⟩
      refine for_it (walk_range (lo := 0) (n := r.toNat)) (fun i σ H' => ∃ (us : Es) (qa : Addr) (v5 v6 v7 : Option V), σ = [some (.ref b), some (.int most), some (.int many), some (.int (1 + v)), some (.ref qa), v5, v6, v7] ∧
          (us.length : Int) = 1 + v + (i : Int) ∧ KeepB b H H' ∧ BagAt H' b l ns ∧ H qa = none ∧ H' qa = some (.lst (vsOf us)) ∧ Ed H' us ∧ Valid (1 + v) us)
        ⟨ts, D, none, none, none, rfl, by omega, kp.trans .updb, Bi.upd BO2, nD, by rw [upd_ne hbD]; exact eD, ed.keep Bi .updb, va⟩ (fun _ _ _ _ _ => True.intro) ?_ ?_
      · rintro i x σ H2 H' hi ⟨us, qa, v5, v6, v7, rfl, hus, kp2, B2, nq, eq, ed2, va2⟩ ⟨rfl, rfl⟩
        have qb : qa ≠ b := B2.ne_vs eq
        -- at = pull(bag, len(pairs) + 1)
        refine ⟨_, rfl, _, rfl, qa, _, rfl, .inl (SqL.of eq), _, _, rfl, rfl, b, l, ns, _, rfl, B2, ?_, ?_, fun at_ o3 a0 a1 BO3 => ?_⟩
        · show (0 : Int) < ((vsOf us).length : Int) + 1
          omega
        · show ((vsOf us).length : Int) + 1 < 2 ^ 100
          unfold vsOf
          rw [List.length_map]
          omega
        have a1' : at_ < (us.length : Int) + 1 := by
          have z : at_ < ((vsOf us).length : Int) + 1 := a1
          unfold vsOf at z
          rw [List.length_map] at z
          exact z
        have hat : ((at_.toNat : Nat) : Int) = at_ := Int.toNat_of_nonneg a0
        have hatl : at_.toNat ≤ (vsOf us).length := by
          unfold vsOf
          rw [List.length_map]
          omega
        have B3 := B2.upd BO3
        have eq3 : upd H' b o3 qa = some (.lst (vsOf us)) := by
          rw [upd_ne qb]
          exact eq
        have ed3 : Ed (upd H' b o3) us := ed2.keep B2 .updb
        have kp3 : KeepB b H (upd H' b o3) := kp2.trans .updb
        generalize upd H' b o3 = H3 at *
        -- pairs[:at]
        refine ⟨_, rfl, _, rfl, at_, rfl, qa, _, rfl, SqL.of eq3, fun p1 hp1 => ?_⟩
        rw [← hat, cut_lo hatl]
        have B4 := B3.new (o := .lst ((vsOf us).take at_.toNat)) hp1
        have kp4 := kp3.new (o := .lst ((vsOf us).take at_.toNat)) hp1
        have s4 := same_upd (o := .lst ((vsOf us).take at_.toNat)) hp1
        have eq4 := s4 _ _ eq3
        have ed4 := ed3.same s4
        have e14 : upd H3 p1 (.lst ((vsOf us).take at_.toNat)) p1 = some (.lst ((vsOf us).take at_.toNat)) := upd_same
        generalize upd H3 p1 (.lst ((vsOf us).take at_.toNat)) = H4 at *
        -- the new edge
        refine ⟨_, rfl, _, rfl, b, l, ns, _, rfl, B4, by omega, by omega, fun x1 o5 x10 x11 BO5 => ?_⟩
        have B5 := B4.upd BO5
        have p1b : p1 ≠ b := B3.ne_new hp1
        refine ⟨_, rfl, _, rfl, b, l, ns, _, rfl, B5, by omega, by omega, fun x2 o6 x20 x21 BO6 => ?_⟩
        have B6 := B5.upd BO6
        have kp6 : KeepB b H4 (upd (upd H4 b o5) b o6) := KeepB.updb.trans .updb
        have ed6 := ed4.keep B4 kp6
        have eq6 := kp6 _ _ qb eq4
        have e16 := kp6 _ _ p1b e14
        have kp6' := kp4.trans kp6
        generalize upd (upd H4 b o5) b o6 = H6 at *
        refine ⟨(by show 2 ≤ sizeLine; decide), fun t ht => ?_⟩
        have s7 := same_upd (o := .tup [.int x1, .int x2]) ht
        have B7 := B6.same s7
        have e7 : upd H6 t (.tup [.int x1, .int x2]) t = some (.tup [.int x1, .int x2]) := upd_same
        have kp7 := kp6'.trans (.of_same s7)
        have eq7 := s7 _ _ eq6
        have e17 := s7 _ _ e16
        have ed7 := ed6.same s7
        generalize upd H6 t (.tup [.int x1, .int x2]) = H7 at *
        refine ⟨(by show 1 ≤ sizeLine; decide), fun p2 hp2 => ?_⟩
        have s8 := same_upd (o := .lst [.ref t]) hp2
        have e8 : upd H7 p2 (.lst [.ref t]) p2 = some (.lst [.ref t]) := upd_same
        have B8 := B7.same s8
        have kp8 := kp7.trans (.of_same s8)
        have eq8 := s8 _ _ eq7
        have e18 := s8 _ _ e17
        have et8 := s8 _ _ e7
        have ed8 := ed7.same s8
        generalize upd H7 p2 (.lst [.ref t]) = H8 at *
        have hsz : ∀ m : Nat, m ≤ 1000 → m ≤ sizeLine := fun m h => Nat.le_of_lt (small1000 h)
        have lus : us.length ≤ 200 := by omega
        have lvs : (vsOf us).length = us.length := by
          unfold vsOf
          rw [List.length_map]
        refine ⟨p1, p2, _, _, rfl, rfl, e18, e8, hsz _ (by simp; omega), fun p3 hp3 => ?_⟩
        have s9 := same_upd (o := .lst ((vsOf us).take at_.toNat ++ [.ref t])) hp3
        have e9 : upd H8 p3 (.lst ((vsOf us).take at_.toNat ++ [.ref t])) p3 = some (.lst ((vsOf us).take at_.toNat ++ [.ref t])) := upd_same
        have B9 := B8.same s9
        have kp9 := kp8.trans (.of_same s9)
        have eq9 := s9 _ _ eq8
        have et9 := s9 _ _ et8
        have ed9 := ed8.same s9
        generalize upd H8 p3 (.lst ((vsOf us).take at_.toNat ++ [.ref t])) = H9 at *
        refine ⟨_, rfl, _, rfl, _, rfl, qa, _, rfl, SqL.of eq9, fun p4 hp4 => ?_⟩
        rw [cut_hi hatl]
        have s10 := same_upd (o := .lst ((vsOf us).drop at_.toNat)) hp4
        have e10 : upd H9 p4 (.lst ((vsOf us).drop at_.toNat)) p4 = some (.lst ((vsOf us).drop at_.toNat)) := upd_same
        have B10 := B9.same s10
        have kp10 := kp9.trans (.of_same s10)
        have e910 := s10 _ _ e9
        have et10 := s10 _ _ et9
        have ed10 := ed9.same s10
        generalize upd H9 p4 (.lst ((vsOf us).drop at_.toNat)) = H10 at *
        refine ⟨p3, p4, _, _, rfl, rfl, e910, e10, hsz _ (by simp; omega), fun p5 hp5 => ?_⟩
        have s11 := same_upd (o := .lst ((vsOf us).take at_.toNat ++ [.ref t] ++ (vsOf us).drop at_.toNat)) hp5
        obtain ⟨yb, hyb⟩ := B10.at_b
        refine ⟨us.take at_.toNat ++ [(t, x1, x2)] ++ us.drop at_.toNat, p5, _, _, _, rfl, ?_, kp10.trans (.of_same s11), B10.same s11, kp10.free hyb hp5, ?_, ?_, ?_⟩
        · simp
          omega
        · rw [upd_same]
          unfold vsOf
          rw [List.map_append, List.map_append, List.map_take, List.map_drop]
          rfl
        · have f1 : Ed H10 (us.take at_.toNat) := fun e he => ed10 e (List.mem_of_mem_take he)
          have f2 : Ed H10 (us.drop at_.toNat) := fun e he => ed10 e (List.mem_of_mem_drop he)
          exact Ed.same (Ed.app (Ed.app f1 (.one et10)) f2) s11
        · refine ⟨fun e he => ?_, fun kk k0 k1 => ?_⟩
          · rw [List.mem_append, List.mem_append] at he
            rcases he with (he | he) | he
            · exact va2.rg e (List.mem_of_mem_take he)
            · have z := List.mem_singleton.mp he
              subst z
              exact ⟨x10, x11, x20, x21⟩
            · exact va2.rg e (List.mem_of_mem_drop he)
          · obtain ⟨e, he, hk2⟩ := va2.sr kk k0 k1
            refine ⟨e, ?_, hk2⟩
            rw [← List.take_append_drop at_.toNat us, List.mem_append] at he
            rw [List.mem_append, List.mem_append]
            exact he.elim (fun z => .inl (.inl z)) .inr
      · rintro σ H2 ⟨us, qa, v5, v6, v7, rfl, hus, kp2, B2, nq, eq, ed2, va2⟩
        refine ⟨_, rfl, _, rfl, (by show 2 ≤ sizeLine; decide), fun p hp => ?_⟩
        obtain ⟨yb, hyb⟩ := B2.at_b
        have s1 := same_upd (o := .tup [.int (1 + v), .ref qa]) hp
        exact q p qa (1 + v) us _ (kp2.trans (.of_same s1)) (B2.same s1) (kp2.free hyb hp) nq ⟨upd_same, s1 _ _ eq, ed2.same s1, va2, by omega⟩ (by omega) (by omega)
end
end Lw
set_option Elab.async false
set_option linter.all false
set_option maxRecDepth 100000
/-! enumerate(t) of a tuple; enumerate and for over what is a list or a tuple -/
namespace Lw
open PySem PySem.Spec PyProof.Rows L2
/-- the two objects that enumerate(t) makes: the tuple's iterator, the counter over it -/
abbrev itO (l : Addr) : Obj := { cls := .type "tuple_iterator", data := .fields #[.ref l, .int 0 0] }
abbrev enO (i : Addr) : Obj := { cls := .type "enumerate", data := .fields #[.none, .bool false, .ref i, rawInt 0, .none, .none] }
theorem enumT_new (l : Addr) (o : Obj) (items : Array Value) (n : Nat) (hc : o.cls = .type "tuple") (hd : o.data = .seq items n) :
    Meets (Builtin.«enumerate.__new__» ⟨[.type "enumerate", .ref l], []⟩) (fun _ R s => s.heap.get? l = some o ∧
      R (.ok (.ret (.ref (s.heap.push (itO l)).objs.size))) { s with heap := (s.heap.push (itO l)).push (enO s.heap.objs.size) }) := by
  obtain ⟨oc, dct, dt, sl⟩ := o
  dsimp only at hc hd
  subst hc hd
  refine .of_wp fun P w A R s hyp => ?_
  rcases s with ⟨h, gn, dr, tk, os⟩
  rcases hyp with ⟨hl, fin⟩
  have sub := sub_enumerate
  have isT : Heap.IsTuple (Shared.heap ⟨h, gn, dr, tk, os⟩) l items := ⟨_, hl, rfl, n, rfl⟩
  wp_walk using AutoSeq1.wpAny_loadPart' hl
  refine wpAny_stack_any fun st => wpAny_pure ?_
  split
  next c _ _ _ _ _ => cases (c == Value.type "enumerate") <;> (wp_walk using AutoSeq1.wpAny_loadPart' hl, wpAny_pyIter_tuple isT) <;> exact ⟨_, rfl, fin⟩
  next => (wp_walk using AutoSeq1.wpAny_loadPart' hl, wpAny_pyIter_tuple isT) <;> exact ⟨_, rfl, fin⟩
theorem enumT_call {P : Program} {w : World} {A : Around} {E : Value → Shared → Prop} {s : Shared} {l : Addr} {items : Array Value} {Q : Value → Shared → Prop} (hL : s.heap.IsTuple l items)
    (h : IsEnum ((s.heap.push (itO l)).push (enO s.heap.objs.size)) (s.heap.objs.size + 1) s.heap.objs.size 0 .none → Heap.IsTupleIter ((s.heap.push (itO l)).push (enO s.heap.objs.size)) s.heap.objs.size l 0 →
      Q (.ref (s.heap.objs.size + 1)) { s with heap := (s.heap.push (itO l)).push (enO s.heap.objs.size) }) :
    wpAny (model P w) A (call (.type "enumerate") [.ref l]) Q E s := by
  obtain ⟨o, get, cls, n, dat⟩ := hL
  have size1 : (s.heap.push (itO l)).objs.size = s.heap.objs.size + 1 := Heap.size_push ..
  have en : IsEnum ((s.heap.push (itO l)).push (enO s.heap.objs.size)) (s.heap.objs.size + 1) s.heap.objs.size 0 .none := by
    rw [← size1]
    exact Heap.get?_push_size _ rfl
  have it : Heap.IsTupleIter ((s.heap.push (itO l)).push (enO s.heap.objs.size)) s.heap.objs.size l 0 := ⟨itO l, Heap.get?_push_of_some _ (Heap.get?_push_size _ rfl), rfl, rfl⟩
  refine callType_new F.called_enumerate (by decide) (F.typeCall_enumerate_1 _) (F.newCall_enumerate_1 _) (F.args_object_init_2 · _) F.entry_enumerate_new (enumT_new l o items n cls dat) ⟨get, ?_⟩
  rw [size1]
  exact ⟨⟨_, en, rfl⟩, h en it⟩
/-- the turns of enumerate(t): a new pair of the number and the item -/
def IteT (K : PySem.W.Frag) (a : Addr) : It where
  go i H := ∃ (xs : List V) (x : V), SqT K H a xs ∧ xs[i]? = some x
  yld i H v H' := ∃ T x, v = .ref T ∧ H T = none ∧ H' = upd H T (.tup [.int (i : Nat), x]) ∧ ∀ xs, SqT K H a xs → xs[i]? = some x
  stop i H := ∃ xs : List V, SqT K H a xs ∧ xs.length ≤ i
/-- the state of the walk at turn i -/
structure EnAt (a e it : Addr) (i : Nat) (h : Heap) : Prop where
  en : ∃ old, IsEnum h e it ((i : Nat) : Int) old
  itr : h.IsTupleIter it a i
  ne : e ≠ it ∧ e ≠ a
theorem two {e it b : Addr} (h : b ∈ [e, it]) : b = e ∨ b = it := by
  simp only [List.mem_cons, List.not_mem_nil, or_false] at h
  exact h
theorem EnAt.keep {a e it : Addr} {i : Nat} {h h' : Heap} (z : EnAt a e it i h) (k : ∀ b ∈ [e, it], ∀ o, h.get? b = some o → h'.get? b = some o) : EnAt a e it i h' := by
  obtain ⟨old, he⟩ := z.en
  exact ⟨⟨old, k e (.head _) _ he⟩, z.itr.at (k it (.tail _ (.head _))), z.ne⟩
theorem enumT_item {X : Cx} {elts : List Expr} {kk : Nat} {tpos : Pos} {a e it : Addr} (ai : a ≠ it) (calm : X.calm = true) {i : Nat} {pins : List (Addr × Obj)} {s : Shared} {σ : L2.St} {H : Hp} {E : Value → Shared → Prop} (I : Inv X pins σ H s)
    (off : ∀ b ∈ [e, it], FpOk X pins H b) (z : EnAt a e it i s.heap) {xs : List V} {x : V} (hq : SqT X.K H a xs) (hx : xs[i]? = some x) :
    wpAny (model X.prog X.w) X.A (pyNext (.ref e)) (fun r s1 => ∃ u, r = some u ∧ wpAny (model X.prog X.w) X.A (letOwnedTupleGo (.Tuple elts kk tpos) (.ref e) u)
      (fun _ s2 => ∃ y H', Inv X pins σ H' s2 ∧ RelV y u ∧ (IteT X.K a).yld i H y H' ∧ EnAt a e it (i + 1) s2.heap ∧ ∀ b ∈ [e, it], H' b = none) E s1) E s := by
  obtain ⟨old, he⟩ := z.en
  obtain ⟨its, vals, tup, _⟩ := I.tuple hq
  obtain ⟨u, hu, ru⟩ := vals.get hx
  have eb := Heap.lt_size he
  have ib : it < s.heap.objs.size := z.itr.elim fun _ q => Heap.lt_size q.1
  have hi : i < its.toArray.size := by
    rw [List.size_toArray]
    exact (List.getElem?_eq_some_iff.mp hu).1
  have out : e ∉ [it, a] := fun m => (two m).elim z.ne.1 z.ne.2
  refine wpAny_pyNext_enum_itemD (Draws.tuple (A := X.A.in1) (show X.A.in1.handled = none from I.ok.hd calm) it a ai its.toArray) he ⟨z.itr, tup⟩ hi z.ne.1 out ?_
  intro y h' tk hy eo st new _ stay
  obtain rfl : y = u := by
    rw [List.getElem?_toArray, hu] at hy
    exact (Option.some.inj hy).symm
  refine ⟨_, rfl, wpAny_letOwnedTupleGo_enum (s := { s with heap := h', toks := tk + 1 }) eo fun h2 en2 sb => ?_⟩
  have new2 : h2.get? s.heap.objs.size = some { cls := .type "tuple", data := .seq #[.int i tk, y] } := by
    rw [sb.2 _ (Nat.ne_of_gt eb)]
    exact new
  have okN : ObjOk X.prog X.w (upd H s.heap.objs.size (.tup [.int (i : Nat), x])) h2 s.heap.objs.size (.tup [.int (i : Nat), x]) := ⟨by show 2 ≤ sizeLine; decide, _, .cons ⟨_, rfl⟩ (.cons ru .nil), _, new2, rfl, _, rfl⟩
  have rest : ∀ b o, b ∉ [e, it] → s.heap.get? b = some o → h2.get? b = some o := by
    intro b o nb hb
    have be : b ≠ e := fun q => nb (q ▸ .head _)
    have bi : b ≠ it := fun q => nb (q ▸ .tail _ (.head _))
    rw [sb.2 b be]
    exact stay b o be bi hb
  refine ⟨.ref s.heap.objs.size, _, I.turnedNew (ch := [e, it]) rest off (Nat.le_refl _) okN, rfl, ⟨_, x, rfl, I.hok.fresh (Nat.le_refl _), rfl, fun ys hys => I.tuple_inj hys hq ▸ hx⟩, ⟨⟨y, ?_⟩, ?_, z.ne⟩, ?_⟩
  · rw [Int.natCast_succ]
    exact en2
  · exact st.1.at fun o q => by rw [sb.2 it z.ne.1.symm]; exact q
  · intro b hb
    have lt : b < s.heap.objs.size := (two hb).elim (fun q => q ▸ eb) (fun q => q ▸ ib)
    rw [upd_ne (Nat.ne_of_lt lt)]
    exact (off b hb).1
/-- the tuple's iterator at its end -/
theorem over {P : Program} {w : World} {A : Around} (calm : A.handled = none) {it a : Addr} {items : Array Value} {i : Nat} (hi : items.size ≤ i) : Draws P w A it [it, a] i (fun _ _ => True) (fun j h => j = i ∧ h.IsTupleIter it a i ∧ h.IsTuple a items) where
  live _ _ z := z.2.1.elim fun o q => ⟨o, q.1⟩
  frame _ _ _ z k := ⟨z.1, z.2.1.at (k it (.head _)), z.2.2.at (k a (.tail _ (.head _)))⟩
  item j _ _ _ lt z _ := absurd z.1 (Nat.ne_of_lt lt)
  done _ _ _ z h := wpAny_nextOf_tuple_end calm z.2.1 z.2.2 (Array.getElem?_eq_none hi) h
theorem enumT_turn {P : Program} {w : World} {K : PySem.W.Frag} {elts : List Expr} {kk : Nat} {tpos : Pos} {a e it : Addr} (ai : a ≠ it) : Turn P w K (.Tuple elts kk tpos) (IteT K a) [e, it] e (EnAt a e it) where
  mem := .head _
  obj i h z b hb := by
    obtain ⟨old, he⟩ := z.en
    obtain ⟨o, ho, _, hd⟩ := z.itr
    rcases two hb with rfl | rfl
    · exact ⟨_, he, nofun⟩
    · exact ⟨o, ho, by rw [hd]; nofun⟩
  keep i h h' z k := z.keep k
  item := by
    rintro X rfl rfl rfl calm i pins s σ H E I off z ⟨xs, x, hq, hx⟩
    exact enumT_item ai calm I off z hq hx
  done := by
    rintro X rfl rfl rfl calm i pins s σ H E I off z ⟨xs, hq, hx⟩
    obtain ⟨old, he⟩ := z.en
    obtain ⟨its, vals, tup, _⟩ := I.tuple hq
    obtain ⟨f0, f1, _, f3, f4, f5⟩ := off it (.tail _ (.head _))
    have len := vals.length
    refine wpAny_pyNext_enum_endD (over (A := X.A.in1) (show X.A.in1.handled = none from I.ok.hd calm) (items := its.toArray) (by rw [List.size_toArray]; omega)) he ⟨rfl, z.itr, tup⟩ fun h' up => ⟨rfl, I.turned (t' := s.toks) (fun b o hb q => up b o hb q) f0 f1 f3 f4 f5⟩
  self A i s Q E z h := z.en.elim fun _ he => wpAny_pyIter_enum he h
theorem walk_enumT {K : PySem.W.Frag} {a : Addr} {xs : List V} : Walk (IteT K a) xs.length (fun H => SqT K H a xs) (YPair (fun i => some (.int (i : Nat))) (fun i => xs[i]?)) := by
  constructor
  · intro i H hi hq
    exact ⟨xs, xs[i], hq, List.getElem?_eq_getElem hi⟩
  · intro H hq
    exact ⟨xs, hq, Nat.le_refl _⟩
  · rintro i H _ _ hi hq ⟨T, x, rfl, nT, rfl, at_⟩
    exact ⟨T, _, x, rfl, nT, rfl, rfl, at_ xs hq⟩
/-! ### a list or a tuple -/
abbrev SqF := PySem.W.Frag → Hp → Addr → List V → Prop
/-- enumerate(e) -/
def iEnumA (K : PySem.W.Frag) (ta : TA) : TI := fun σ H R => ta σ H fun vs H1 => ∃ (a : Addr) (xs : List V) (S : SqF), vs = [.ref a] ∧ (S = SqL ∨ S = SqT) ∧ S K H1 a xs ∧
  ∀ J, Walk J xs.length (fun H => S K H a xs) (YPair (fun i => some (.int (i : Nat))) (fun i => xs[i]?)) → R J H1
/-- e itself -/
def iSeqA (K : PySem.W.Frag) (tl : TE) : TI := fun σ H R => tl σ H fun x H1 => ∃ (a : Addr) (xs : List V) (S : SqF), x = .ref a ∧ (S = SqL ∨ S = SqT) ∧ S K H1 a xs ∧ ∀ J, Walk J xs.length (fun H => S K H a xs) (YAt xs) → R J H1
section
variable {X : Cx}
/-- new addresses are nobody's -/
theorem new_ok {pins : List (Addr × Obj)} {s : Shared} {σ : L2.St} {H : Hp} {b : Addr} (I : Inv X pins σ H s) (h : s.heap.objs.size ≤ b) : FpOk X pins H b := I.fpOk h (I.hok.fresh h)
theorem pi_enumA {e : Expr} {ta : TA} {p pos tpos : Pos} {elts : List Expr} {kk : Nat} (hg : Gl X "enumerate") (hm : X.mg "enumerate" = none) (ha : PA X [e] ta) (hs : starEach [e] X.env = [(false, eval e X.env)] := by rfl) :
    PI X (.Tuple elts kk tpos) (.Call (.Name "enumerate" p) [e] [] pos) (iEnumA X.K ta) := by
  constructor
  intro pins s σ H R I h
  refine Call_ (ld_blt I hg hm boot_enumerate (PyProof.Rows.callWith_type1 (wpAny_mono (ha.run pos pins s σ H _ I h) ?_ fun _ _ z => z) hs rfl))
  rintro us s1 ⟨_, H1, I1, vals, a, xs, S, rfl, hS, hq, go⟩
  obtain ⟨_, rfl, rfl⟩ : ∃ u, us = [u] ∧ u = Value.ref a := by
    match us, vals with
    | [u], .cons r .nil => exact ⟨u, rfl, r⟩
  have free : ∀ b ∈ [s1.heap.objs.size + 1, s1.heap.objs.size], FpOk X pins H1 b := fun b hb => new_ok I1 ((two hb).elim (fun q => q ▸ Nat.le_succ _) (fun q => q ▸ Nat.le_refl _))
  rcases hS with rfl | rfl
  · obtain ⟨its, rv, lst, _⟩ := I1.list hq
    refine call_enumerate_list lst.isList fun g en it _ up => wpAny_pyIter_enum en ?_
    exact ⟨_, [s1.heap.objs.size + 1, s1.heap.objs.size], _, Ite X.K a, H1, rfl, I1.kept (t' := s1.toks) up, turn_enum a _ _, ⟨⟨.none, en⟩, it, Nat.succ_ne_self _⟩, free, go _ walk_enum⟩
  · obtain ⟨its, rv, tup, _⟩ := I1.tuple hq
    have old : a < s1.heap.objs.size := tup.elim fun _ q => Heap.lt_size q.1
    refine enumT_call (items := its.toArray) tup fun en it => wpAny_pyIter_enum en ?_
    refine ⟨_, [s1.heap.objs.size + 1, s1.heap.objs.size], _, IteT X.K a, H1, rfl, I1.kept (t' := s1.toks) fun b o q => Heap.get?_push_of_some _ (Heap.get?_push_of_some _ q), enumT_turn (Nat.ne_of_lt old), ⟨⟨.none, en⟩, it, Nat.succ_ne_self _, ?_⟩, free, go _ walk_enumT⟩
    exact fun q => absurd old (Nat.not_lt.mpr (q ▸ Nat.le_succ _))
theorem pi_seqA {tg l : Expr} {tl : TE} (hl : PE X l tl) : PI X tg l (iSeqA X.K tl) := by
  constructor
  intro pins s σ H R I h
  refine wpAny_mono (hl.run pins s σ H _ I h) ?_ fun _ _ z => z
  rintro v s1 ⟨_, H1, I1, rv, a, xs, S, rfl, hS, hq, go⟩
  cases rv
  have free : ∀ b ∈ [s1.heap.objs.size], FpOk X pins H1 b := fun b hb => new_ok I1 (List.mem_singleton.mp hb ▸ Nat.le_refl _)
  have keep : ∀ o : Obj, Inv X pins σ H1 { s1 with heap := s1.heap.push o } := fun o => I1.kept (t' := s1.toks) fun b o' q => Heap.get?_push_of_some _ q
  rcases hS with rfl | rfl
  · obtain ⟨its, r, lst, _⟩ := I1.list hq
    exact wpAny_pyIter_list lst.isList ⟨_, _, _, Itl X.K a, H1, rfl, keep _, turn_list a _, ⟨_, Heap.get?_push_size _ rfl, rfl, rfl⟩, free, go _ walk_list⟩
  · obtain ⟨its, r, tup, _⟩ := I1.tuple hq
    exact wpAny_pyIter_tuple (items := its.toArray) tup ⟨_, _, _, Itt X.K a, H1, rfl, keep _, turn_tuple a _, ⟨_, Heap.get?_push_size _ rfl, rfl, rfl⟩, free, go _ walk_tup⟩
end
end Lw
set_option Elab.async false
set_option linter.all false
set_option maxRecDepth 100000
namespace Lw
open PySem L2
abbrev sCheck : Stmt := top 16
abbrev sInit : Stmt := inClass (top 17) 2
/-- what the walk asks of the class Graph -/
structure GTxt (K : PySem.W.Frag) (mg : Str → Option Value) (C : Addr) (mc : Value) : Prop where
  cl : Cls K C
  nS : NoAttr K C "state_count"
  nE : NoAttr K C "edge_pairs"
  mgG : mg "Graph" = some (.ref C)
  rd : ClX.CRead K C mc
  v8 : ∃ u, ClX.CVal K C mc "MAX_STATES" (.int 8) u
  v24 : ∃ u, ClX.CVal K C mc "MAX_EDGES" (.int 24) u
  enum : mg "enumerate" = none
def flds (n : Int) (t : Addr) : List (Str × V) := [("state_count", V.int n), ("edge_pairs", V.ref t)]
def spCheck (K : PySem.W.Frag) : Sp := fun vs H Q _ => ∃ (n : Int) (e : Addr) (ts : Es) (S : SqF), vs = [.int n, .ref e] ∧ (S = SqL ∨ S = SqT) ∧ S K H e (vsOf ts) ∧ Ed H ts ∧ Valid n ts ∧ 1 ≤ n ∧ n ≤ 100 ∧ ts.length ≤ 100 ∧ ∀ H', Same H H' → Q .non H'
structure GraphAt (C : Addr) (H : Hp) (g : Addr) (n : Int) (us : Es) : Prop where
  ob : ∃ dx t, H g = some (.ins C dx (flds n t)) ∧ H t = some (.tup (vsOf us))
  ed : Ed H us
def spInit (C : Addr) : Sp := fun vs H Q _ => ∃ (g dx e : Addr) (n : Int) (ts : Es) (mk : List V → HO), vs = [.ref g, .int n, .ref e] ∧ H g = some (.ins C dx []) ∧ (mk = HO.lst ∨ mk = HO.tup) ∧ H e = some (mk (vsOf ts)) ∧ Ed H ts ∧ Valid n ts ∧ 1 ≤ n ∧ n ≤ 8 ∧ ts.length ≤ 24 ∧
  ∀ (us : Es) (H' : Hp), psOf us = psOf ts → KeepB g H H' → GraphAt C H' g n us → Q .non H'
theorem sq_same {K : PySem.W.Frag} {S : SqF} {H H' : Hp} {e : Addr} {xs : List V} (hS : S = SqL ∨ S = SqT) (h : S K H e xs) (s : Same H H') : S K H' e xs := by
  rcases hS with rfl | rfl
  · exact s.seq h
  · rcases h with (h | ⟨o, h⟩) | h
    · exact .inl (.inl (s _ _ h))
    · exact .inl (.inr ⟨o, s _ _ h⟩)
    · exact .inr h
theorem vsOf_len (ts : Es) : (vsOf ts).length = ts.length := by
  unfold vsOf
  rw [List.length_map]
theorem vsOf_at {ts : Es} {i : Nat} {v : V} (h : (vsOf ts)[i]? = some v) : ∃ e, ts[i]? = some e ∧ v = .ref e.1 := by
  unfold vsOf at h
  rw [List.getElem?_map] at h
  cases g : ts[i]? with
  | none =>
    rw [g] at h
    cases h
  | some e =>
    rw [g] at h
    exact ⟨e, rfl, (Option.some.inj h).symm⟩
section
variable {P : Program} {w : World} {K : PySem.W.Frag} {mg : Str → Option Value} {base : Heap}
theorem scCheck : FnScope ["states", "edges", "place", "source", "target", "sources", "state"] ["states", "edges"] (defScope sCheck) := ⟨rfl, rfl, rfl, by decide +kernel, rfl, by decide +kernel, by decide +kernel⟩
theorem inV_yes {k : Int} {ks : List Int} (h : k ∈ ks) : inV (.int k) (ks.map V.int) = true := by
  unfold inV
  rw [List.any_map, List.any_eq_true]
  exact ⟨k, h, by simp [eqV]⟩
theorem flat_ints (ks : List Int) : (ks.map V.int).all flatV = true := by
  rw [List.all_map, List.all_eq_true]
  intro x _
  rfl
set_option maxHeartbeats 8000000 in
theorem ok_check {f C : Addr} {mc : Value} {fd : FuncData} {k : Nat} (F : Fun K "check_edges" "check_edges" sCheck f fd) (T : Bi mg) (G : GTxt K mg C mc) : FnOk P w K mg base CX0 (k + 1) f fd ["states", "edges"] (spCheck K) := by
  refine F.ok scCheck (fun vs H Q E h => ?_) (fun cdv A outer s H vs Q E hr h => ?_)
  · obtain ⟨n, e, ts, S, rfl, _⟩ := h
    rfl
  · obtain ⟨n, e, ts, S, rfl, hS, hq, ed, va, n1, n8, hl, q⟩ := h
    refine ⟨_, pss_cons (ps_for PassesOwn.never rfl (pi_enumA (by rfl) G.enum (pa_cons (pv 1) pa_nil))
          (pg_tup rfl (pgs_cons (pg_name (i := 2) scCheck.nd rfl (.inl rfl)) (pgs_cons (pg_tup rfl (pgs_cons (pg_name (i := 3) scCheck.nd rfl (.inl rfl)) (pgs_cons (pg_name (i := 4) scCheck.nd rfl (.inl rfl)) pgs_nil))) pgs_nil)))
        (pss_one (ps_if (pt_not (PW.pt (pw_and (pt_chain op_le op_lt pe_int (pv 3) (pv 0)) (pw_and1 (pt_chain op_le op_lt pe_int (pv 4) (pv 0)))))) (pss_one ps_never) pss_nil)))
      (pss_cons (ps_setLc (i := 5) (own := [("source", 3), ("target", 4)]) (g := gTup K 2 (gCons (gName 3) (gCons (gName 4) gNil))) (tt := tYes) (te := tVar 3) rfl scCheck.nd rfl rfl (sw_true rfl rfl rfl (by decide +kernel))
          (pi_seqA (pv 1))
          (blkOk_by (N := ["states", "edges", "place", "source", "target", "sources", "state"]) (sc := defScope sCheck) (by decide +kernel))
          (fun _ _ _ _ _ => by exact pg_tup rfl (pgs_cons (pg_name (i := 3) scCheck.nd rfl (Or.inl rfl)) (pgs_cons (pg_name (i := 4) scCheck.nd rfl (Or.inl rfl)) pgs_nil)))
          (fun _ _ _ _ _ => pts_nil)
          (fun _ _ _ _ _ => by exact pv 3))
      (pss_one (ps_for PassesOwn.never rfl (pi_range1 (by rfl) T.range (pa_cons (pv 0) pa_nil)) (pg_name (i := 6) scCheck.nd rfl (Or.inl rfl))
        (pss_one (ps_if (pt_cmpR op_notIn_seq (pv 6) (pv 5) (by rfl)) (pss_one ps_never) pss_nil))))), ?_⟩
    have gsz : ∀ m : Nat, m ≤ 1000 → m < sizeLine := fun m h => small1000 h
    -- for place, (source, target) in enumerate(edges)
    refine ⟨_, rfl, e, vsOf ts, S, rfl, hS, hq, fun J w => ?_⟩
    refine for_it w (fun i σ H' => ∃ v2 v3 v4 : Option V, σ = [some (.int n), some (.ref e), v2, v3, v4, none, none] ∧ Same H H') ⟨none, none, none, rfl, fun _ _ z => z⟩ (fun i σ H' _ p => by obtain ⟨_, _, _, _, s⟩ := p; exact sq_same hS hq s) ?_ ?_
    · rintro i x σ H1 H' hi ⟨v2, v3, v4, rfl, sm⟩ ⟨Ta, x, y, rfl, hT, rfl, gx, gy⟩
      obtain ⟨ee, hee, rfl⟩ := vsOf_at gy
      have ex : x = .int (i : Nat) := (Option.some.inj gx).symm
      subst ex
      have s1 := sm.trans (same_upd (o := .tup [.int (i : Nat), .ref ee.1]) hT)
      have mem : ee ∈ ts := List.mem_of_getElem? hee
      have r := va.rg ee mem
      refine ⟨Ta, _, rfl, SqT.of upd_same, rfl, _, _, rfl, _, _, rfl, ⟨ee.1, _, rfl, SqT.of (s1 _ _ (ed ee mem)), rfl, _, _, rfl, _, _, rfl, rfl, ?_⟩⟩
      refine ⟨rfl, ?_⟩
      refine ⟨_, rfl, _, _, rfl, rfl, _, rfl, if_t (decide_eq_true r.1) ⟨_, rfl, _, _, rfl, rfl, ?_⟩⟩
      refine ⟨_, rfl, if_t (decide_eq_true r.2.1) ?_⟩
      refine ⟨_, rfl, _, _, rfl, rfl, _, rfl, if_t (decide_eq_true r.2.2.1) ⟨_, rfl, _, _, rfl, rfl, ?_⟩⟩
      refine ⟨_, rfl, ?_⟩
      refine if_f (by rw [decide_eq_true r.2.2.2]; rfl) ?_
      exact ⟨_, _, _, rfl, s1⟩
    · rintro σ H1 ⟨v2, v3, v4, rfl, sm⟩
      -- sources
      refine ⟨_, rfl, e, vsOf ts, S, rfl, hS, sq_same hS hq sm, fun J w => fun D hD => ?_⟩
      have nD : H D = none := sm.free hD
      refine lc_it w (fun i H' => Same H H' ∧ H' D = some (.lst ((ts.take i).map fun e => V.int e.2.1))) ⟨sm.trans (same_upd hD), upd_same⟩ (fun i H' _ p => sq_same hS hq p.1) ?_ ?_
      · rintro i x H2 H' hi ⟨sm2, eD⟩ ⟨rfl, gx⟩
        obtain ⟨ee, hee, rfl⟩ := vsOf_at gx
        have mem : ee ∈ ts := List.mem_of_getElem? hee
        refine ⟨ee.1, _, rfl, SqT.of (sm2 _ _ (ed ee mem)), rfl, _, _, rfl, _, _, rfl, rfl, rfl, ?_⟩
        refine ⟨_, rfl, _, eD, ?_, ?_, ?_⟩
        · rw [List.length_map, List.length_take]
          exact gsz _ (by omega)
        · intro c o ec
          rw [upd_ne (ne_of_none ec nD)]
          exact sm2 _ _ ec
        · rw [upd_same, List.take_add_one, hee, List.map_append]
          rfl
      · rintro H2 ⟨sm2, eD⟩
        rw [vsOf_len, List.take_length] at eD
        refine ⟨_, rfl, n, rfl, by omega, by omega, ?_⟩
        refine for_it (walk_range (lo := 0) (n := n.toNat)) (fun i σ H' => ∃ v2 v3 v4 v6 : Option V, σ = [some (.int n), some (.ref e), v2, v3, v4, some (.ref D), v6] ∧ Same H H' ∧ H' D = some (.lst (ts.map fun e => V.int e.2.1))) ⟨_, _, _, _, rfl, sm2, eD⟩ (fun _ _ _ _ _ => True.intro) ?_ ?_
        · rintro i x σ H3 H' hi ⟨v2, v3, v4, v6, rfl, sm3, eD3⟩ ⟨rfl, rfl⟩
          obtain ⟨ee, hee, hk⟩ := va.sr (i : Int) (by omega) (by omega)
          have e1 : (ts.map fun e => V.int e.2.1) = (ts.map fun e => e.2.1).map V.int := by
            rw [List.map_map]
            rfl
          have e2 : inV (.int (0 + (i : Int))) (ts.map fun e => V.int e.2.1) = true := by
            rw [e1, Int.zero_add, ← hk]
            exact inV_yes (List.mem_map_of_mem (f := fun e : Addr × Int × Int => e.2.1) hee)
          refine ⟨_, rfl, _, rfl, D, _, rfl, .inl (SqL.of eD3), rfl, by rw [e1]; exact flat_ints _, _, rfl, ?_⟩
          refine if_f (by rw [e2]; rfl) ?_
          exact ⟨_, _, _, _, rfl, sm3, eD3⟩
        · rintro σ H3 ⟨v2, v3, v4, v6, rfl, sm3, eD3⟩
          exact q H3 sm3
end
end Lw
set_option Elab.async false
set_option linter.all false
set_option maxRecDepth 100000
namespace Lw
open PySem L2
abbrev sEq : Stmt := inClass (top 17) 4
abbrev sLen : Stmt := inClass (top 17) 5
abbrev sRepr : Stmt := inClass (top 17) 6
abbrev sStates : Stmt := inClass (top 17) 7
abbrev sEdges : Stmt := inClass (top 17) 8
/-! ### edges as data -/
def dEs (ts : Es) : List PyData := ts.map fun e => .tuple [.int e.2.1, .int e.2.2]
theorem dEs_at {K : PySem.W.Frag} {H : Hp} : ∀ {ts : Es}, Ed H ts → DpAll K H (vsOf ts) (dEs ts)
  | [], _ => .nil
  | e :: ts, h => .cons (.tup (SqT.of (h e List.mem_cons_self)) (.cons (.int _) (.cons (.int _) .nil))) (dEs_at (ts := ts) fun x hx => h x (List.mem_cons_of_mem _ hx))
theorem dEs_lay : ∀ ts : Es, PyData.canLayAll0 (dEs ts) = true
  | [] => rfl
  | e :: ts => by
    show (true && PyData.canLayAll0 (dEs ts)) = true
    rw [dEs_lay ts]
    rfl
theorem dEs_depth : ∀ ts : Es, PyData.depthAll (dEs ts) ≤ 1
  | [] => Nat.zero_le _
  | e :: ts => by
    show max 1 (PyData.depthAll (dEs ts)) ≤ 1
    exact Nat.max_le.mpr ⟨Nat.le_refl _, dEs_depth ts⟩
theorem shT (ts : Es) : SeqAt.shaped (.tuple (dEs ts)) = true := by
  show (PyData.canLayAll0 (dEs ts) && decide (PyData.depthAll (dEs ts) + 1 ≤ 64)) = true
  rw [dEs_lay, decide_eq_true (by have := dEs_depth ts; omega)]
  rfl
theorem shL (ts : Es) : SeqAt.shaped (.list (dEs ts)) = true := by
  show (PyData.canLayAll0 (dEs ts) && decide (PyData.depthAll (dEs ts) + 1 ≤ 64)) = true
  rw [dEs_lay, decide_eq_true (by have := dEs_depth ts; omega)]
  rfl
theorem eqv_es : ∀ us ts : Es, PyData.eqvAll (dEs us) (dEs ts) = decide (psOf us = psOf ts)
  | [], [] => rfl
  | [], e :: ts => rfl
  | e :: us, [] => rfl
  | e :: us, f :: ts => by
    have ih := eqv_es us ts
    show ((e.2.1 == f.2.1 && (e.2.2 == f.2.2 && true)) && PyData.eqvAll (dEs us) (dEs ts)) = decide (e.2 :: psOf us = f.2 :: psOf ts)
    rw [ih]
    obtain ⟨a, x, y⟩ := e
    obtain ⟨b, z, u⟩ := f
    by_cases h1 : x = z <;> by_cases h2 : y = u <;> by_cases h3 : psOf us = psOf ts <;> simp [h1, h2, h3]
/-! ### the object -/
theorem ks : ¬ (("state_count" : Str) = "edge_pairs") := by decide +kernel
theorem flds_put1 (n : Int) : putF "state_count" (.int n) [] = ([("state_count", V.int n)] : List (Str × V)) := rfl
theorem flds_put2 (n : Int) (t : Addr) : putF "edge_pairs" (.ref t) ([("state_count", V.int n)] : List (Str × V)) = flds n t := by
  show (if ("state_count" : Str) = "edge_pairs" then _ else (("state_count" : Str), V.int n) :: putF "edge_pairs" (.ref t) []) = flds n t
  rw [if_neg ks]
  rfl
theorem look_s (n : Int) (t : Addr) : (flds n t).lookup ("state_count" : Str) = some (.int n) := by
  unfold flds
  simp [List.lookup]
theorem look_e (n : Int) (t : Addr) : (flds n t).lookup ("edge_pairs" : Str) = some (.ref t) := by
  unfold flds
  have h : (("edge_pairs" : Str) == ("state_count" : Str)) = false := by decide +kernel
  simp [List.lookup, h]
theorem look_no (n : Int) (t : Addr) {m : Str} (h1 : (m == ("state_count" : Str)) = false) (h2 : (m == ("edge_pairs" : Str)) = false) : (flds n t).lookup m = none := by
  unfold flds
  simp [List.lookup, h1, h2]
theorem sq_or {K : PySem.W.Frag} {S : SqF} {H : Hp} {e : Addr} {xs : List V} (hS : S = SqL ∨ S = SqT) (h : S K H e xs) : SqL K H e xs ∨ SqT K H e xs := by
  rcases hS with rfl | rfl
  · exact .inl h
  · exact .inr h
def grText (n m : Int) : Str := ((((("Graph(" : Str) ++ (toString n : Str)) ++ (" states, " : Str)) ++ (toString m : Str)) ++ (" edges)" : Str))
def spLen (C : Addr) : Sp := fun vs H Q _ => ∃ (g : Addr) (n : Int) (us : Es), vs = [.ref g] ∧ GraphAt C H g n us ∧ Q (.int us.length) H
def spStates (C : Addr) : Sp := fun vs H Q _ => ∃ (g : Addr) (n : Int) (us : Es), vs = [.ref g] ∧ GraphAt C H g n us ∧ Q (.int n) H
def spRepr (C : Addr) : Sp := fun vs H Q _ => ∃ (g : Addr) (n : Int) (us : Es), vs = [.ref g] ∧ GraphAt C H g n us ∧ 0 ≤ n ∧ n < 1000 ∧ us.length < 1000 ∧ Q (.str (grText n us.length)) H
def spEdges (C : Addr) : Sp := fun vs H Q _ => ∃ (g : Addr) (n : Int) (us : Es), vs = [.ref g] ∧ GraphAt C H g n us ∧ ∀ p, H p = none → Q (.ref p) (upd H p (.lst (vsOf us)))
section
variable {P : Program} {w : World} {K : PySem.W.Frag} {mg : Str → Option Value} {base : Heap}
theorem scInit : FnScope ["self", "states", "edges", "source", "target"] ["self", "states", "edges"] (defScope sInit) := ⟨rfl, rfl, rfl, by decide +kernel, rfl, by decide +kernel, by decide +kernel⟩
set_option maxHeartbeats 8000000 in
theorem ok_init {f C : Addr} {mc : Value} {fd : FuncData} {k : Nat} (F : Fun K "__init__" "Graph.__init__" sInit f fd) (T : Bi mg) (G : GTxt K mg C mc) (cC : C8.Cal P w K mg base 1 "check_edges" (spCheck K) []) : FnOk P w K mg base CX0 (k + 2) f fd ["self", "states", "edges"] (spInit C) := by
  refine F.ok scInit (fun vs H Q E h => ?_) (fun cdv A outer s H vs Q E hr h => ?_)
  · obtain ⟨g, dx, e, n, ts, mk, rfl, _⟩ := h
    rfl
  · obtain ⟨g, dx, e, n, ts, mk, rfl, hg, hmk, he, ed, va, n1, n8, hl, q⟩ := h
    have ge : e ≠ g := by
      rintro rfl
      rw [hg] at he
      rcases hmk with rfl | rfl <;> cases he
    obtain ⟨S, hS, hq0⟩ : ∃ S : SqF, (S = SqL ∨ S = SqT) ∧ ∀ H', H' e = some (mk (vsOf ts)) → S K H' e (vsOf ts) := by
      rcases hmk with rfl | rfl
      · exact ⟨SqL, .inl rfl, fun H' h => SqL.of h⟩
      · exact ⟨SqT, .inr rfl, fun H' h => SqT.of h⟩
    have hq := hq0 H he
    have hk : 1 ≤ k + 1 := Nat.le_add_left 1 k
    refine ⟨_, pss_cons (ps_if (pt_cmpR op_lt (pv 1) pe_int (nomark _)) (pss_one ps_never) pss_nil)
      (pss_cons (ps_if (pt_cmpR op_gt (pv 1) (ClX.pe_cval (pe_glob (v := .ref C) (by rfl) G.mgG rfl)) (nomark _)) (pss_one ps_never) pss_nil)
      (pss_cons (ps_if (pt_cmpR op_gt (pe_callB call_len_seq (by rfl) T.len PySem.boot_len (pa_cons (pv 2) pa_nil)) (ClX.pe_cval (pe_glob (v := .ref C) (by rfl) G.mgG rfl)) (nomark _)) (pss_one ps_never) pss_nil)
      (pss_cons (ps_expr (C8.pe_c cC hr hk (by rfl) (pa_cons (pv 1) (pa_cons (pv 2) pa_nil))))
      (pss_cons (ps_fld (pv 0) (pv 1) rfl)
      (pss_one (ps_fld (pv 0) (pe_callTy call_tuple_of (by rfl) T.tuple (by decide +kernel) (pa_cons
        (pe_lc (own := [("source", 3), ("target", 4)]) (g := gTup K 2 (gCons (gName 3) (gCons (gName 4) gNil))) (tt := tYes) (te := tTup (tCons (tVar 3) (tCons (tVar 4) tNil))) rfl scInit.nd (pi_seqA (pv 2))
          (blkOk_by (N := ["self", "states", "edges", "source", "target"]) (sc := defScope sInit) (by decide +kernel))
          (fun _ _ _ _ _ => by exact pg_tup rfl (pgs_cons (pg_name (i := 3) scInit.nd rfl (Or.inl rfl)) (pgs_cons (pg_name (i := 4) scInit.nd rfl (Or.inl rfl)) pgs_nil)))
          (fun _ _ _ _ _ => pts_nil)
          (fun _ _ _ _ _ => by exact pe_tup (pa_cons (pv 3) (pa_cons (pv 4) pa_nil)))) pa_nil)) rfl)))))), ?_⟩
    obtain ⟨u8, hv8⟩ := G.v8
    obtain ⟨u24, hv24⟩ := G.v24
    refine ⟨_, rfl, _, _, rfl, rfl, _, rfl, if_f (decide_eq_false (by omega)) ?_⟩
    refine ⟨_, rfl, C, mc, _, _, rfl, G.rd, hv8, _, _, rfl, rfl, _, rfl, if_f (decide_eq_false (by omega)) ?_⟩
    refine ⟨_, rfl, e, _, rfl, sq_or hS hq, C, mc, _, _, rfl, G.rd, hv24, _, _, rfl, rfl, _, rfl, if_f (decide_eq_false (by rw [vsOf_len]; omega)) ?_⟩
    refine ⟨_, rfl, _, rfl, n, e, ts, S, rfl, hS, hq, ed, va, n1, by omega, by omega, fun H1 s1 => ?_⟩
    refine ⟨_, rfl, _, rfl, g, C, dx, [], rfl, s1 _ _ hg, G.cl, G.nS, (by show 0 < 1000; decide), ?_⟩
    rw [flds_put1]
    have k2 : KeepB g H (upd H1 g (.ins C dx [("state_count", V.int n)])) := KeepB.trans (.of_same s1) .updb
    have g2 : upd H1 g (.ins C dx [("state_count", V.int n)]) g = some (.ins C dx [("state_count", V.int n)]) := upd_same
    generalize upd H1 g (.ins C dx [("state_count", V.int n)]) = H2 at *
    refine ⟨_, rfl, e, vsOf ts, S, rfl, hS, hq0 _ (k2 _ _ ge he), fun J w => fun D hD => ?_⟩
    have nDg : D ≠ g := fun z => by
      rw [z, g2] at hD
      cases hD
    have nD : H D = none := k2.free g2 hD
    refine lc_it w (fun i H' => ∃ us : Es, psOf us = psOf (ts.take i) ∧ KeepB g H H' ∧ H' g = some (.ins C dx [("state_count", V.int n)]) ∧ H' D = some (.lst (vsOf us)) ∧ Ed H' us)
      ⟨[], rfl, k2.new hD, by rw [upd_ne nDg.symm]; exact g2, upd_same, .nil⟩ (fun i H' _ p => by obtain ⟨us, _, k3, _⟩ := p; exact hq0 _ (k3 _ _ ge he)) ?_ ?_
    · rintro i x H3 H' hi ⟨us, hus, k3, g3, eD, ed3⟩ ⟨rfl, gx⟩
      obtain ⟨ee, hee, rfl⟩ := vsOf_at gx
      have mem : ee ∈ ts := List.mem_of_getElem? hee
      have eg : ee.1 ≠ g := fun z => by
        have h := ed ee mem
        rw [z, hg] at h
        cases h
      refine ⟨ee.1, _, rfl, SqT.of (k3 _ _ eg (ed ee mem)), rfl, _, _, rfl, _, _, rfl, rfl, rfl, ?_⟩
      refine ⟨_, rfl, _, rfl, (by show 2 ≤ sizeLine; decide), fun t ht => ?_⟩
      have s4 := same_upd (o := .tup [.int ee.2.1, .int ee.2.2]) ht
      have tD : D ≠ t := ne_of_none eD ht
      refine ⟨_, s4 _ _ eD, ?_, us ++ [(t, ee.2)], ?_, ?_, ?_, ?_, ?_⟩
      · have h1 : us.length = (ts.take i).length := by
          have := congrArg List.length hus
          unfold psOf at this
          simpa using this
        rw [vsOf_len, h1, List.length_take]
        exact small1000 (by omega)
      · unfold psOf at hus ⊢
        rw [List.map_append, hus, List.take_add_one, hee, List.map_append]
        rfl
      · exact (k3.new ht).at nD
      · rw [upd_ne nDg.symm]
        exact s4 _ _ g3
      · rw [upd_same]
        unfold vsOf
        rw [List.map_append]
        rfl
      · refine Ed.app (fun x hx => ?_) (.one ?_)
        · have h := s4 _ _ (ed3 x hx)
          rw [upd_ne (fun z => ?_)]
          · exact h
          · rw [z, s4 _ _ eD] at h
            cases h
        · rw [upd_ne (Ne.symm tD), upd_same]
    · rintro H3 ⟨us, hus, k3, g3, eD, ed3⟩
      rw [vsOf_len, List.take_length] at hus
      refine ⟨D, _, rfl, .inl ⟨SqL.of eD, fun t ht => ?_⟩⟩
      have s4 := same_upd (o := .tup (vsOf us)) ht
      have tg : t ≠ g := (ne_of_none g3 ht).symm
      refine ⟨_, rfl, g, C, dx, _, rfl, s4 _ _ g3, G.cl, G.nE, (by show 1 < 1000; decide), ?_⟩
      rw [flds_put2]
      refine q us _ hus ((k3.trans (.of_same s4)).trans .updb) ⟨⟨dx, t, upd_same, by rw [upd_ne tg]; exact upd_same⟩, fun x hx => ?_⟩
      have h := s4 _ _ (ed3 x hx)
      rw [upd_ne (fun z => ?_)]
      · exact h
      · rw [z, s4 _ _ g3] at h
        cases h
/-! ### the small ones -/
theorem scLen : FnScope ["self"] ["self"] (defScope sLen) := ⟨rfl, rfl, rfl, by decide +kernel, rfl, by decide +kernel, by decide +kernel⟩
theorem ok_len {f C : Addr} {mc : Value} {fd : FuncData} {k : Nat} (F : Fun K "__len__" "Graph.__len__" sLen f fd) (T : Bi mg) (G : GTxt K mg C mc) : FnOk P w K mg base CX0 (k + 1) f fd ["self"] (spLen C) := by
  refine F.ok scLen (fun vs H Q E h => ?_) (fun cdv A outer s H vs Q E hr h => ?_)
  · obtain ⟨g, n, us, rfl, _⟩ := h
    rfl
  · obtain ⟨g, n, us, rfl, ⟨⟨dx, t, h1, h2⟩, ed⟩, q⟩ := h
    refine ⟨_, pss_one (ps_ret (pe_callB call_len_seq (by rfl) T.len PySem.boot_len (pa_cons (pe_fld (pv 0) rfl) pa_nil))), ?_⟩
    refine ⟨_, rfl, g, C, dx, _, _, rfl, h1, G.cl, G.nE, look_e _ _, t, _, rfl, .inr (SqT.of h2), ?_⟩
    rw [vsOf_len]
    exact q
theorem scStates : FnScope ["self"] ["self"] (defScope sStates) := ⟨rfl, rfl, rfl, by decide +kernel, rfl, by decide +kernel, by decide +kernel⟩
theorem ok_states {f C : Addr} {mc : Value} {fd : FuncData} {k : Nat} (F : Fun K "states" "Graph.states" sStates f fd) (G : GTxt K mg C mc) : FnOk P w K mg base CX0 (k + 1) f fd ["self"] (spStates C) := by
  refine F.ok scStates (fun vs H Q E h => ?_) (fun cdv A outer s H vs Q E hr h => ?_)
  · obtain ⟨g, n, us, rfl, _⟩ := h
    rfl
  · obtain ⟨g, n, us, rfl, ⟨⟨dx, t, h1, h2⟩, ed⟩, q⟩ := h
    exact ⟨_, pss_one (ps_ret (pe_fld (pv 0) rfl)), _, rfl, g, C, dx, _, _, rfl, h1, G.cl, G.nS, look_s _ _, q⟩
theorem scEdges : FnScope ["self"] ["self"] (defScope sEdges) := ⟨rfl, rfl, rfl, by decide +kernel, rfl, by decide +kernel, by decide +kernel⟩
theorem ok_edges {f C : Addr} {mc : Value} {fd : FuncData} {k : Nat} (F : Fun K "edges" "Graph.edges" sEdges f fd) (T : Bi mg) (G : GTxt K mg C mc) : FnOk P w K mg base CX0 (k + 1) f fd ["self"] (spEdges C) := by
  refine F.ok scEdges (fun vs H Q E h => ?_) (fun cdv A outer s H vs Q E hr h => ?_)
  · obtain ⟨g, n, us, rfl, _⟩ := h
    rfl
  · obtain ⟨g, n, us, rfl, ⟨⟨dx, t, h1, h2⟩, ed⟩, q⟩ := h
    exact ⟨_, pss_one (ps_ret (pe_callTy call_list_of (by rfl) T.list (by decide +kernel) (pa_cons (pe_fld (pv 0) rfl) pa_nil))), _, rfl, g, C, dx, _, _, rfl, h1, G.cl, G.nE, look_e _ _, t, _, rfl, .inr (SqT.of h2), q⟩
theorem scRepr : FnScope ["self"] ["self"] (defScope sRepr) := ⟨rfl, rfl, rfl, by decide +kernel, rfl, by decide +kernel, by decide +kernel⟩
theorem log_small {n : Int} (h0 : 0 ≤ n) (h1 : n < 1000) : n.natAbs.log2 < 1920 := by
  have h : n.natAbs < 2 ^ 10 := by omega
  by_cases hz : n.natAbs = 0
  · rw [hz]
    decide
  · have := (Nat.log2_lt hz).mpr h
    omega
theorem len_small {n : Int} (h0 : 0 ≤ n) (h1 : n < 1000) : (Str.ofString (toString n)).length ≤ 3 := PyProof.Rows.toString_length_le h0 (by decide) (by omega)
theorem len_app (x y : Str) : (x ++ y).length = x.length + y.length := by
  show (x.cps ++ y.cps).size = x.cps.size + y.cps.size
  exact Array.size_append
theorem ok_repr {f C : Addr} {mc : Value} {fd : FuncData} {k : Nat} (F : Fun K "__repr__" "Graph.__repr__" sRepr f fd) (T : Bi mg) (G : GTxt K mg C mc) : FnOk P w K mg base CX0 (k + 1) f fd ["self"] (spRepr C) := by
  refine F.ok scRepr (fun vs H Q E h => ?_) (fun cdv A outer s H vs Q E hr h => ?_)
  · obtain ⟨g, n, us, rfl, _⟩ := h
    rfl
  · obtain ⟨g, n, us, rfl, ⟨⟨dx, t, h1, h2⟩, ed⟩, n0, n1, hl, q⟩ := h
    refine ⟨_, pss_one (ps_ret (pe_joined (.cons pe_str (.cons (pe_fmt (pe_fld (pv 0) rfl)) (.cons pe_str (.cons (pe_fmt (pe_callB call_len_seq (by rfl) T.len PySem.boot_len (pa_cons (pe_fld (pv 0) rfl) pa_nil))) (.cons pe_str .nil))))))), ?_⟩
    have hsz : ∀ m : Nat, m ≤ 1000 → m ≤ sizeLine := fun m h => Nat.le_of_lt (small1000 h)
    have l0 : (0 : Int) ≤ (us.length : Int) := by omega
    have l1 : (us.length : Int) < 1000 := by omega
    have a1 := len_small n0 n1
    have a2 := len_small l0 l1
    have z1 : (Str.ofString "Graph(").length = 6 := by decide +kernel
    have z2 : (Str.ofString " states, ").length = 9 := by decide +kernel
    have z3 : (Str.ofString " edges)").length = 7 := by decide +kernel
    have z0 : Str.empty ++ Str.ofString "Graph(" = Str.ofString "Graph(" := by decide +kernel
    refine ⟨_, rfl, hsz _ (by rw [z0]; omega), _, rfl, g, C, dx, _, _, rfl, h1, G.cl, G.nS, look_s _ _, .inr ⟨n, rfl, log_small n0 n1, _, rfl, hsz _ ?_, ?_⟩⟩
    · rw [z0, len_app]; omega
    refine ⟨_, rfl, hsz _ ?_, ?_⟩
    · rw [z0, len_app, len_app]; omega
    refine ⟨_, rfl, g, C, dx, _, _, rfl, h1, G.cl, G.nE, look_e _ _, t, _, rfl, .inr (SqT.of h2), .inr ⟨_, rfl, ?_, _, rfl, hsz _ ?_, ?_⟩⟩
    · rw [vsOf_len]; exact log_small l0 l1
    · rw [vsOf_len, z0, len_app, len_app, len_app]; omega
    refine ⟨_, rfl, hsz _ ?_, ?_⟩
    · rw [vsOf_len, z0, len_app, len_app, len_app, len_app]; omega
    rw [vsOf_len, z0]
    exact q
end
end Lw
set_option Elab.async false
set_option linter.all false
set_option maxRecDepth 100000
namespace Lw
open PySem L2
/-- what isinstance asks of the class, and that the built-in kinds are not of it -/
structure GIs (K : PySem.W.Frag) (C : Addr) : Prop where
  ins : C8.InsC K C
  non : PySem.W.kitOne K (.type "NoneType") (.ref C) = some false
  int : PySem.W.kitOne K (.type "int") (.ref C) = some false
  lst : PySem.W.kitOne K (.type "list") (.ref C) = some false
  tup : PySem.W.kitOne K (.type "tuple") (.ref C) = some false
def spGEq (K : PySem.W.Frag) (C : Addr) : Sp := fun vs H Q _ => ∃ (g : Addr) (n : Int) (us : Es) (y : V), vs = [.ref g, y] ∧ GraphAt C H g n us ∧
  ((∃ (g2 : Addr) (n2 : Int) (us2 : Es), y = .ref g2 ∧ GraphAt C H g2 n2 us2 ∧ Q (.bl (decide (n = n2) && decide (psOf us = psOf us2))) H) ∨ ((∃ t, TyX K H y t ∧ PySem.W.kitOne K t (.ref C) = some false) ∧ Q (.bl false) H))
theorem spGEq_mono {K : PySem.W.Frag} {C : Addr} (vs : List V) (H : Hp) (Q Q' : VK) (E : XK) (h : ∀ v H', Q v H' → Q' v H') (s : spGEq K C vs H Q E) : spGEq K C vs H Q' E := by
  obtain ⟨g, n, us, y, e, G, s⟩ := s
  rcases s with ⟨g2, n2, us2, e2, G2, q⟩ | ⟨t, q⟩
  · exact ⟨g, n, us, y, e, G, .inl ⟨g2, n2, us2, e2, G2, h _ _ q⟩⟩
  · exact ⟨g, n, us, y, e, G, .inr ⟨t, h _ _ q⟩⟩
theorem GraphAt.same {C : Addr} {H H' : Hp} {g : Addr} {n : Int} {us : Es} (h : GraphAt C H g n us) (s : Same H H') : GraphAt C H' g n us := by
  obtain ⟨⟨dx, t, h1, h2⟩, ed⟩ := h
  exact ⟨⟨dx, t, s _ _ h1, s _ _ h2⟩, ed.same s⟩
theorem PlanAt.same {H H' : Hp} {p q : Addr} {n : Int} {ts : Es} (h : PlanAt H p q n ts) (s : Same H H') : PlanAt H' p q n ts := ⟨s _ _ h.tp, s _ _ h.ls, h.ed.same s, h.va, h.n1⟩
section
variable {P : Program} {w : World} {K : PySem.W.Frag} {mg : Str → Option Value} {base : Heap}
theorem scEq : FnScope ["self", "other"] ["self", "other"] (defScope sEq) := ⟨rfl, rfl, rfl, by decide +kernel, rfl, by decide +kernel, by decide +kernel⟩
set_option maxHeartbeats 4000000 in
theorem ok_eq {f C : Addr} {mc : Value} {fd : FuncData} {k : Nat} (F : Fun K "__eq__" "Graph.__eq__" sEq f fd) (T : Bi mg) (G : GTxt K mg C mc) (S : GIs K C) : FnOk P w K mg base CX0 (k + 1) f fd ["self", "other"] (spGEq K C) := by
  refine F.ok scEq (fun vs H Q E h => ?_) (fun cdv A outer s H vs Q E hr h => ?_)
  · obtain ⟨g, n, us, y, rfl, _⟩ := h
    rfl
  · obtain ⟨g, n, us, y, rfl, ⟨⟨dx, t, h1, h2⟩, ed⟩, hh⟩ := h
    refine ⟨_, pss_one (ps_ret (pe_and (pe_callB call_isi (by rfl) T.isi (by decide +kernel) (pa_cons (pv 1) (pa_cons (pe_glob (v := .ref C) (by rfl) G.mgG rfl) pa_nil)))
      (pe_and (pe_cmpR op_eq (pe_fld (pv 0) rfl) (pe_fld (pv 1) rfl) (nomark _)) (pe_one (pe_cmpR (op_eqD hr.units) (pe_fld (pv 0) rfl) (pe_fld (pv 1) rfl) (nomark _)))))), ?_⟩
    rcases hh with ⟨g2, n2, us2, rfl, ⟨⟨dx2, t2, h12, h22⟩, ed2⟩, q⟩ | ⟨⟨ty, hty, hk⟩, q⟩
    · refine ⟨_, rfl, _, _, _, _, true, rfl, .own _, .base (.ins h12 S.ins.cl S.ins.ha S.ins.hn S.ins.htk S.ins.hm), S.ins.me, true, rfl, iteT ?_⟩
      refine ⟨_, rfl, g, C, dx, _, _, rfl, h1, G.cl, G.nS, look_s _ _, _, rfl, g2, C, dx2, _, _, rfl, h12, G.cl, G.nS, look_s _ _, rfl, _, rfl, ?_⟩
      by_cases hn : n = n2
      · refine if_t (decide_eq_true (by rw [hn])) ?_
        refine ⟨_, rfl, g, C, dx, _, _, rfl, h1, G.cl, G.nE, look_e _ _, _, rfl, g2, C, dx2, _, _, rfl, h12, G.cl, G.nE, look_e _ _, _, _, .tup (SqT.of h2) (dEs_at ed), .tup (SqT.of h22) (dEs_at ed2), shT _, shT _, ?_⟩
        rw [decide_eq_true hn, Bool.true_and, ← eqv_es] at q
        exact q
      · refine if_f (decide_eq_false (fun z => hn (by injection z))) ?_
        rw [decide_eq_false hn, Bool.false_and] at q
        exact q
    · exact ⟨_, rfl, _, _, _, _, false, rfl, .own _, hty, hk, false, rfl, iteF q⟩
end
end Lw
set_option Elab.async false
set_option linter.all false
set_option maxRecDepth 100000
namespace Lw
open PySem L2
abbrev sGraph : Stmt := top 26
def spGraph (C : Addr) : Sp := fun vs H Q _ => ∃ (p q : Addr) (n : Int) (ts : Es), vs = [.ref p] ∧ PlanAt H p q n ts ∧ n ≤ 8 ∧ ts.length ≤ 24 ∧ ∀ (g : Addr) (us : Es) (H' : Hp), psOf us = psOf ts → Same H H' → H g = none → GraphAt C H' g n us → Q (.ref g) H'
section
variable {P : Program} {w : World} {K : PySem.W.Frag} {mg : Str → Option Value} {base : Heap}
theorem scGraph : FnScope ["_law_plan_here"] ["_law_plan_here"] (defScope sGraph) := ⟨rfl, rfl, rfl, by decide +kernel, rfl, by decide +kernel, by decide +kernel⟩
theorem at0t {x y : V} : atI [x, y] 0 = some x := at0
set_option maxHeartbeats 4000000 in
theorem ok_graph {f C : Addr} {fd : FuncData} {k : Nat} (F : Fun K "_law_graph" "_law_graph" sGraph f fd) (T : Bi mg) (cG : C8.Mak P w K mg base 2 "Graph" C (spInit C) []) : FnOk P w K mg base CX0 (k + 4) f fd ["_law_plan_here"] (spGraph C) := by
  refine F.ok scGraph (fun vs H Q E h => ?_) (fun cdv A outer s H vs Q E hr h => ?_)
  · obtain ⟨p, q, n, ts, rfl, _⟩ := h
    rfl
  · obtain ⟨p, q0, n, ts, rfl, PA, n8, l24, q⟩ := h
    refine ⟨_, pss_one (ps_ret (C8.pe_mk cG hr (by omega) (by rfl) (pa_cons (pe_ix ix_tup (pv 0) pe_int (fun _ _ => rfl)) (pa_cons (pe_callTy call_list_of (by rfl) T.list (by decide +kernel) (pa_cons (pe_ix ix_tup (pv 0) pe_int (fun _ _ => rfl)) pa_nil)) pa_nil)))), ?_⟩
    refine ⟨_, rfl, p, _, _, _, rfl, rfl, SqT.of PA.tp, at0, _, rfl, p, _, _, _, rfl, rfl, SqT.of PA.tp, at1, q0, _, rfl, .inl (SqL.of PA.ls), fun e he => ?_⟩
    have s1 := same_upd (o := .lst (vsOf ts)) he
    intro g dx hg hdx nex
    have s2 := s1.trans ((same_upd (o := .own g) hdx))
    have hg2 : upd (upd H e (.lst (vsOf ts))) dx (.own g) g = none := by
      rw [upd_ne (Ne.symm nex)]
      exact hg
    have s3 := s2.trans (same_upd (o := .ins C dx []) hg2)
    have ng : H g = none := s1.free hg
    have e3 : upd (upd (upd H e (.lst (vsOf ts))) dx (.own g)) g (.ins C dx []) e = some (.lst (vsOf ts)) := same_upd hg2 _ _ (same_upd hdx _ _ upd_same)
    refine ⟨g, dx, e, n, ts, HO.lst, rfl, upd_same, .inl rfl, e3, PA.ed.same s3, PA.va, PA.n1, n8, l24, fun us H' hus kp G => ⟨rfl, ?_⟩⟩
    exact q g us H' hus (fun c o ec => kp c o (ne_of_none ec ng) (s3 c o ec)) ng G
end
end Lw
set_option Elab.async false
set_option linter.all false
set_option maxRecDepth 100000
/-! the own errors: a base over ValueError with a word, and errors of one field over it -/
namespace Lw
open PySem PySem.Spec PyProof.Rows L2
section
variable {X : Cx} {CX : CXT} {k : Nat} {C f : Addr} {mc : Value} {fd : FuncData} {ps : List Str} {sp : Sp} {ds : List Value} {dvs : List V} {E : XK} {x m : Str} {e : Expr} {es : List Expr} {ta : TA} {p1 p2 pos : Pos}
/-- C.m(e, ..), m a plain def of the class C -/
theorem pe_clsfn {pl : Sem Bool} (hg : Gl X x) (hm : X.mg x = some (.ref C)) (r : ClX.CRead X.K C mc) (kv : ClX.CVal X.K C mc m (.ref f) (.ref f)) (hk : PySem.W.keepIn X.K (.ref f) = true)
    (F : FnOk X.prog X.w X.K X.mg X.base CX k f fd ps sp) (hr : Room k X.A) (hb : Binds X.K fd ps ds) (hd : Vals dvs ds) (hx : Passes CX X E) (ha : PA X (e :: es) ta)
    (hc : eval (.Call (.Attribute (.Name x p1) m p2) (e :: es) [] pos) X.env = (do
      let ov ← eval (.Name x p1) X.env
      standAt p2.atName
      let (f, first) ← holding [ov] (getMethod ov m pl)
      callWith pos f first (backTo pos (starEach (e :: es) X.env)) (backToKw pos (keywordEach [] X.env))) := by rfl)
    (hdb : (x == ("__debug__" : Str)) = false := by decide) (he : starEach (e :: es) X.env = (false, eval e X.env) :: starEach es X.env := by rfl) (hpl : (backTo pos (starEach es X.env)).any (·.1) = false := by rfl) :
    PE X (.Call (.Attribute (.Name x p1) m p2) (e :: es) [] pos) (tCall sp dvs E ta) := by
  refine ⟨fun pins s σ H Q I h => ?_⟩
  refine PySem.W.methodCall_KW (ld_glob I hg hm ?_ hdb) hc
  refine PySem.W.method_cls I.kIn r.ga (ClX.getcval_ok I r kv fun s' I' => ?_)
  refine PySem.W.callWith_K (h₀ := X.base) I.ok.mod.kin hk (thn (ha.run pos pins s' σ H _ I' h) fun us s2 ⟨vs, H2, I2, rv, q⟩ => ⟨I2.kIn, ?_⟩) he hpl
  exact run_fn F hr hb hd hx I2 rv q
end
abbrev sWin : Stmt := inClass (top 2) 0
/-- a fresh error of the class at C, its dict at d with these fields -/
def spWin (K : PySem.W.Frag) : Sp := fun vs H Q _ => ∃ (a C : Addr) (wd told : Str), vs = [.ref a, .str wd, .str told] ∧ OexC K C ∧ PySem.W.findIn K (.ref C) "word" = some none ∧ H a = some (exo a C none) ∧
  ∀ d, H d = none → d ≠ a → Q .non (upd (upd H d (exd d [("word", .str wd)])) a (exo a C (some d)))
/-- the fields of an error -/
def erF (fld wd : Str) (n : Int) : List (Str × V) := [(fld, .int n), ("word", .str wd)]
theorem er_w {fld wd : Str} {n : Int} (h : (("word" : Str) == fld) = false) : (erF fld wd n).lookup ("word" : Str) = some (.str wd) := by
  simp [erF, List.lookup, h]
theorem er_n {fld wd : Str} {n : Int} : (erF fld wd n).lookup fld = some (.int n) := by
  simp [erF, List.lookup]
def spErr (C : Addr) (fld wd : Str) : Sp := fun vs H Q _ => ∃ (a : Addr) (n : Int), vs = [.ref a, .int n] ∧ n.natAbs < 10 ^ 100 ∧ H a = some (exo a C none) ∧
  ∀ d, H d = none → d ≠ a → Q .non (upd (upd (upd H d (exd d [("word", .str wd)])) a (exo a C (some d))) d (exd d (erF fld wd n)))
/-- an own error that can be raised by its name -/
structure ErrIn (P : Program) (w : World) (K : PySem.W.Frag) (mg : Str → Option Value) (base : Heap) (x : Str) (C : Addr) (fld wd : Str) : Prop where
  O : OexC K C
  mx : mg x = some (.ref C)
  ini : ∃ (fI : Addr) (fd : FuncData), PySem.W.findIn K (.ref C) "__init__" = some (some (.ref fI)) ∧ PySem.W.typeIn K (.ref fI) = some (.type "function") ∧ FnOk P w K mg base CX0 2 fI fd ["self", fld] (spErr C fld wd) ∧ Binds K fd ["self", fld] []
/-- what raising such an error asks, once its argument is read -/
theorem er_tail {H : Hp} {C : Addr} {n : Int} {fld wd : Str} {E : XK} (hn : n.natAbs < 10 ^ 100) (k : ∀ d, H d = none → E (.ref C) (some d) (upd H d (.xd (erF fld wd n)))) :
    [V.int n].length ≤ 1000 ∧ ∀ a, H a = none → spErr C fld wd (.ref a :: ([V.int n] ++ [])) (upd H a (exo a C none))
      (fun v H2 => v = .non ∧ ∃ (d : Addr) (fs : List (Str × V)), H2 a = some (exo a C (some d)) ∧ H2 d = some (exd d fs) ∧ H d = none ∧ E (.ref C) (some d) (upd (del H2 a) d (.xd fs))) (fun _ _ _ => False) := by
  refine ⟨by show 1 ≤ 1000; decide, fun a na => ⟨a, n, rfl, hn, upd_same, fun d hd ne => ⟨rfl, d, _, ?_, upd_same, ?_, ?_⟩⟩⟩
  · rw [upd_ne ne.symm]
    exact upd_same
  · rw [upd_ne ne] at hd
    exact hd
  · have hd' : H d = none := by
      rw [upd_ne ne] at hd
      exact hd
    have e : upd (del (upd (upd (upd (upd H a (exo a C none)) d (exd d [("word", .str wd)])) a (exo a C (some d))) d (exd d (erF fld wd n))) a) d (.xd (erF fld wd n)) = upd H d (.xd (erF fld wd n)) := by
      funext x
      by_cases e1 : x = d
      · subst e1
        rw [upd_same, upd_same]
      · rw [upd_ne e1, upd_ne e1]
        by_cases e2 : x = a
        · subst e2
          rw [del_same, na]
        · rw [del_ne e2, upd_ne e1, upd_ne e2, upd_ne e1, upd_ne e2]
    rw [e]
    exact k d hd'
theorem ps_raiseE {X : Cx} {W : WX} {x : Str} {C : Addr} {fld wd : Str} {j : Nat} {e : Expr} {ta : TA} {p pos pos2 : Pos} (hc : X.calm = true) (tk : Takes X W) (R : ErrIn X.prog X.w X.K X.mg X.base x C fld wd) (hr : Room j X.A) (hj : 3 ≤ j) (hg : Gl X x) (ha : PA X [e] ta)
    (hdb : (x == ("__debug__" : Str)) = false := by decide) (he : starEach [e] X.env = (false, eval e X.env) :: starEach [] X.env := by rfl) (hpl : (backTo pos (starEach [] X.env)).any (·.1) = false := by rfl) :
    PS X (.Raise (some (.Call (.Name x p) [e] [] pos)) none pos2) (fun _ σ H => tMkO C (spErr C fld wd) [] ta σ H fun cls d H' => W cls d σ H') := by
  obtain ⟨fI, fd, h1, h2, F, b⟩ := R.ini
  exact ps_raise hc tk (pmk_oex R.O h1 h2 F (hr.mono hj) b .nil pass0 hg R.mx ha hdb he hpl)
section
variable {P : Program} {w : World} {K : PySem.W.Frag} {mg : Str → Option Value} {base : Heap}
theorem scWin : FnScope ["self", "word", "told"] ["self", "word", "told"] (defScope sWin) := ⟨rfl, rfl, rfl, by decide +kernel, rfl, by decide +kernel, by decide +kernel⟩
theorem ok_win {f : Addr} {fd : FuncData} {k : Nat} {dvs : List V} (F : FunD K "__init__" "WindowError.__init__" (defArgs sWin) (defBody sWin) (defScope sWin) dvs [] f fd) (mVE : mg "ValueError" = none)
    (vV : PySem.W.findCls K (.type "ValueError") (.type "type") "__init__" = some (.val (.builtin "ValueError.__init__"))) : FnOk P w K mg base CX0 (k + 1) f fd ["self", "word", "told"] (spWin K) := by
  refine F.ok scWin (fun vs H Q E h => ?_) (fun cdv A outer s H vs Q E hr h => ?_)
  · obtain ⟨a, C, wd, told, rfl, _⟩ := h
    rfl
  · obtain ⟨a, C, wd, told, rfl, T, nw, ha, q⟩ := h
    refine ⟨_, pss_cons (ps_expr (pe_veinit (by rfl) mVE vV (pa_cons (pv 0) (pa_cons (pv 2) pa_nil)))) (pss_one (ps_ost (pv 0) (pv 1))), ?_⟩
    refine ⟨_, rfl, _, rfl, a, C, _, rfl, (by show 1 ≤ 1000; decide), T, ha, ?_⟩
    exact ⟨_, rfl, _, rfl, a, C, rfl, T, nw, .inl ⟨ha, fun d hd ne => q d hd ne⟩⟩
theorem log_big {n : Int} (h : n.natAbs < 10 ^ 100) : n.natAbs.log2 < 1920 := by
  by_cases hz : n.natAbs = 0
  · rw [hz]
    decide
  · exact (Nat.log2_lt hz).mpr (Nat.lt_trans h (by decide +kernel))
theorem len_app0 (x y : Str) : (x ++ y).length = x.length + y.length := by
  show (x.cps ++ y.cps).size = x.cps.size + y.cps.size
  exact Array.size_append
end
end Lw
set_option Elab.async false
set_option linter.all false
set_option maxRecDepth 100000
/-! try .. except C as n: .., with any clauses behind, where all that the body raises is of C -/
namespace Lw
open PySem PySem.Spec PyProof.Rows L2
section
variable {X : Cx} {pins : List (Addr × Obj)} {σ : L2.St} {H : Hp}
/-- an error on the ground: its object, the frame's state, and the state of a suite that handles it -/
theorem ground {a : Addr} {cls : Value} {d : Option Addr} {B h : Heap} {sI s' : Shared} (fo : X.env.frame = some X.env.locals) (J : Inv X pins σ H sI)
    (old : ∀ b o, sI.heap.get? b = some o → b ∉ frs X.stack → B.get? b = some o) (up : sI.heap.UpToSlots h) (os : s'.os = sI.os) (bare : AllBare s'.gens) (na : H a = none)
    (fl : HandSPX.FlyingZ B (X.env :: X.outer) a (Zc cls d) h) :
    ∃ oe, h.get? a = some oe ∧ Zc cls d oe ∧ (∃ vs, oe.data = .fields vs) ∧ Inv X pins σ H { s' with heap := h } ∧ Inv (X.suite a ((a, oe) :: (X.pn ++ pins))) [] σ H { s' with heap := h } := by
  obtain ⟨oe, vs, get, z, dat⟩ := fl.there
  have K : Inv X pins σ H { s' with heap := h } := J.landed old fl.1 up os bare
  have off : a ∉ frs (X.env :: X.outer) := by
    intro m
    obtain ⟨_, o, ho, no⟩ := fl.2.2.1.mem m
    have e : oe = o := Option.some.inj (get.symm.trans ho)
    exact no vs (e ▸ dat)
  refine ⟨oe, get, z, ⟨vs, dat⟩, K, K.suite get dat na (fun e => off ?_) (fun m => off ?_)⟩
  · refine List.mem_filterMap.mpr ⟨X.env, .head _, ?_⟩
    rw [fo, ← e]
  · obtain ⟨en, hen, hfr⟩ := List.mem_filterMap.mp m
    exact List.mem_filterMap.mpr ⟨en, .tail _ hen, hfr⟩
/-- what becomes of an error that leaves the body -/
abbrev Lands (X : Cx) (pins : List (Addr × Obj)) (D : Ends) (hds : List ExceptHandler) : Value → Shared → Prop := fun e s1 =>
  wpAny (model X.prog X.w) X.A (noteFrame e X.env) (fun _ s2 => wpAny (model X.prog X.w) X.A (setFlight e none) (fun _ s3 => wpAny (model X.prog X.w) X.A (handleBy e X.env hds) (SP X pins D) X.xe s3) X.xe s2) X.xe s1
/-- the ends of the suite: its name goes -/
abbrev without (D : Ends) (i : Nat) : Ends := { nx := fun τ G => D.nx (τ.set i none) G, rt := D.rt, bk := fun τ G => D.bk (τ.set i none) G, ct := fun τ G => D.ct (τ.set i none) G }
def wFirst (K : PySem.W.Frag) (c : Value) (i : Nat) (ts : Addr → Value → Option Addr → TS) (D : Ends) : WX := fun cls d τ G =>
  PySem.W.exmOne K cls c = some true ∧ ∀ a, G a = none → ts a cls d (without D i) (τ.set i (some (.ref a))) G
theorem SP.back {P' : Cx} {ps : List (Addr × Obj)} {D : Ends} {f : Flow} {s : Shared} (h : SP P' ps D f s) (k : ∀ {τ G}, Inv P' ps τ G s → Inv X pins τ G s) : SP X pins D f s := by
  match f, h with
  | .next, ⟨τ, G, J, q⟩ => exact ⟨τ, G, k J, q⟩
  | .brk, ⟨τ, G, J, q⟩ => exact ⟨τ, G, k J, q⟩
  | .cont, ⟨τ, G, J, q⟩ => exact ⟨τ, G, k J, q⟩
  | .ret u, ⟨v, τ, G, J, r, q⟩ => exact ⟨v, τ, G, k J, r, q⟩
end
section
variable {X : Cx} {x n : Str} {c : Value} {i : Nat} {body suite : List Stmt} {b0 : Stmt} {np pos pos' : Pos} {tb : WX → TS} {ts : Addr → Value → Option Addr → TS} {more : List ExceptHandler}
theorem ps_try_first (so : X.stack = X.env :: X.outer) (fo : X.env.frame = some X.env.locals) (nd : X.N.Nodup) (hi : X.N[i]? = some n) (loc : X.env.kindOf n = some .local) (nam : Names X x c)
    (inBody : ∀ (W : WX) (pn : List (Addr × Obj)) (xe : Value → Shared → Prop), Takes (X.tr pn xe) W → PassesOwn (model X.prog X.w) X.A X.env xe →
      PSs (X.tr pn xe) body (tb W))
    (inSuite : ∀ (a : Addr) (oe : Obj) (cls : Value) (d : Option Addr) (pn : List (Addr × Obj)), Zc cls d oe → (∃ vs, oe.data = .fields vs) →
      PSs (X.suite a ((a, oe) :: pn)) (b0 :: suite) (ts a cls d)) :
    PS X (.Try body (.ExceptHandler (some (.Name x np)) (some n) (b0 :: suite) pos' :: more) [] [] pos) (fun D σ H => tb (wFirst X.K c i ts D) D σ H) := by
  constructor
  intro pins s σ H D I h
  have frames : X.A.frames = some (X.env :: X.outer) := I.ok.frames.trans (congrArg some so)
  refine wpAny_Try_except (wpAny_mono ((inBody (wFirst X.K c i ts D) (X.pn ++ pins) (Lands X pins D (.ExceptHandler (some (.Name x np)) (some n) (b0 :: suite) pos' :: more)) ?_ PassesOwn.looking).run [] s σ H D (I.toTry _) h) ?_ fun _ _ z => z)
  · -- an error leaves the body: it lands, it is of c, the suite runs
    rintro _ s' ⟨a, B, sI, ps, τ, G, cls, d, rfl, J0, old, up, sky, na, os, bare, hit, run⟩
    have J : Inv X pins τ G sI := J0.ofTry I.ok
    refine Sky.land Zc.steady frames fo (show Sky B (X.env :: X.outer) a (Zc cls d) X.env.locals s'.heap from so ▸ sky) fun g fl up1 => ?_
    obtain ⟨oe, get, z, _, K, S⟩ := ground fo J old (up.trans up1) os bare na fl
    have isC : PySem.W.Looks (model X.prog X.w) g (typeOf (.ref a)) cls := fun A' Q' E' t keep q => wpAny_typeOf_ref (keep _ _ get) (z.1.symm ▸ q)
    refine wpAny_handleBy_cons (codeAny_handlers_test ?_) nofun
    have ask : ∀ {Q E : Value → Shared → Prop}, Q c { s' with heap := g } → wpAny (model X.prog X.w) (X.A.mark (some (.ref a))) (eval (.Name x np) X.env) Q E { s' with heap := g } := by
      intro Q' E' q
      rcases nam.2.2 with m | ⟨m, bt, ne⟩
      · exact ld_glob (X := X.suite a ((a, oe) :: (X.pn ++ pins))) S nam.1 m q nam.2.1
      · exact ld_blt (X := X.suite a ((a, oe) :: (X.pn ++ pins))) S nam.1 m bt q ne nam.2.1
    refine ask ((PySem.W.exm_one (M := model X.prog X.w) K.kIn isC hit).here (codeAny_handlers_suite_as (HandSPX.lands_againZ fl fun g2 fl2 up2 => ?_)))
    obtain ⟨oe2, _, z2, flds, _, S2⟩ := ground fo J old ((up.trans up1).trans up2) os bare na fl2
    refine store_ok (X := X.suite a ((a, oe2) :: (X.pn ++ pins))) (v := .ref a) S2 nd hi (.inl loc) rfl (fun s5 S5 => ?_) (.inr loc)
    refine wpAny_mono ((inSuite a oe2 cls d (X.pn ++ pins) z2 flds).run [] s5 _ G _ S5 (run a na)) ?_ fun _ _ z => z.elim
    have gone : ∀ {τ6 G6 s6} {Q : Shared → Prop}, Inv (X.suite a ((a, oe2) :: (X.pn ++ pins))) [] τ6 G6 s6 → (∀ s7, Inv X pins (τ6.set i none) G6 s7 → Q s7) → wpAny (model X.prog X.w) X.A (do bindName X.env n .none; unbindBehindTheSuite X.env n pos') (fun _ s7 => Q s7) X.xe s6 :=
      fun S6 after => gone_ok (S6.unsuite I.ok) nd hi loc after
    intro f s6 fin
    match f, fin with
    | .next, ⟨τ6, G6, S6, q⟩ => exact gone S6 fun s7 J7 => ⟨_, _, J7, q⟩
    | .brk, ⟨τ6, G6, S6, q⟩ => exact gone S6 fun s7 J7 => ⟨_, _, J7, q⟩
    | .cont, ⟨τ6, G6, S6, q⟩ => exact gone S6 fun s7 J7 => ⟨_, _, J7, q⟩
    | .ret u, ⟨v, τ6, G6, S6, r, q⟩ => exact gone S6 fun s7 J7 => ⟨_, _, _, J7, r, q⟩
  · -- the body ends by itself
    intro f s1 fin
    have fin := SP.back (X := X) (pins := pins) fin fun J => J.ofTry I.ok
    match f, fin with
    | .next, fin => exact wpAny_execs_nil fin
    | .brk, fin => exact fin
    | .cont, fin => exact fin
    | .ret u, fin => exact fin
end
end Lw
set_option Elab.async false
set_option linter.all false
set_option maxRecDepth 100000
/-! a def that raises nothing, called while an error is handled: p is the handled one, of which Z is known -/
namespace Lw
open PySem PySem.Spec PyProof.Rows L2
structure FnC (P : Program) (w : World) (K : PySem.W.Frag) (mg : Str → Option Value) (base : Heap) (k : Nat) (f : Addr) (fd : FuncData) (ps : List Str) (Z : Addr × Obj → Prop) (sp : Sp) : Prop where
  len : ∀ vs H Q E, sp vs H Q E → vs.length = ps.length
  run : ∀ (A : Around) (outer : List Env) (s : Shared) (H : Hp) (args : Args) (us : List Value) (vs : List V) (Q : VK) (E : XK) (p : Addr × Obj), L2H.RoomH k A → Z p → L2H.PinOk outer H s p → Env0 P w K mg base A outer s H → BindsTo s fd args (ps.zip us) → Vals vs us → sp vs H Q E →
    codeAny (model P w) A (.call (.ref f) args) (CR CX0 outer P w H s Q E) s
theorem fn_ofC {P : Program} {w : World} {K : PySem.W.Frag} {mg : Str → Option Value} {base : Heap} {k : Nat} {x qual : Str} {st : Stmt} {f : Addr} {fd : FuncData} {N ps : List Str} {Z : Addr × Obj → Prop} {sp : Sp} (F : Fun K x qual st f fd) (S : FnScope N ps (defScope st))
    (len : ∀ vs H Q E, sp vs H Q E → vs.length = ps.length)
    (hbody : ∀ (cdv : Value) (A : Around) (outer : List Env) (s : Shared) (H : Hp) (vs : List V) (Q : VK) (E : XK) (p : Addr × Obj), Z p → L2H.RoomH k (A.deeper (envOfC qual (defScope st) s.heap.objs.size f cdv)) → sp vs H Q E →
      ∃ t, PSs (L2H.cxH CX0 P w K mg base N qual (defScope st) f cdv A outer s H E p) (defBody st) t ∧ t { nx := fun _ H' => Q .non H', rt := Q } (L2.start N vs) H) : FnC P w K mg base (k + 1) f fd ps Z sp := by
  obtain ⟨oc, od, kV, doc, pm, an, cdv, ct, osl, rfl, lk, hcd⟩ := F.ex
  refine ⟨len, fun A outer s H args us vs Q E p hr hz hpin e0 hb r hsp => ?_⟩
  have hl := len _ _ _ _ hsp
  have up : ∀ b o, base.get? b = some o → s.heap.get? b = some o := fun b o e => (e0.bs b o e).1
  have KX : K.In s.heap := e0.mod.kin.keeps up
  refine codeAny_call_function hr.depth (KX _ _ lk) rfl S.co S.gen rfl (PySem.W.codeRec_of KX hcd) (hb _ _ _ _ ?_)
  refine wpAny_newFunctionEnv_cells S.kind (fun y hy => ?_) fun env he s1 x => ?_
  · exact (S.par y.1 (List.of_mem_zip hy).1).imp id fun q => ⟨q, PySem.W.cellsFrom_some _ _ _ (.inl q)⟩
  · subst he
    refine ⟨(e0.mod.nolimit.keeps up).keeps x.toInCall.keep, codeAny_func ?_⟩
    obtain ⟨t, ht, hq⟩ := hbody cdv A outer s H vs Q E p hz (hr.deeper _) hsp
    refine wpAny_mono (ht.run [] s1 (L2.start N vs) H _ (L2H.inv_startH S hpin e0 hl r x) hq) (fun fl s' hs => ?_) fun e s' hs => hs
    cases fl with
    | ret u =>
      obtain ⟨v, σ', H', J, rv, q⟩ := hs
      exact ⟨v, H', J.os, J.bare, J.base, J.hok, rv, q⟩
    | next =>
      obtain ⟨σ', H', J, q⟩ := hs
      exact ⟨.non, H', J.os, J.bare, J.base, J.hok, rfl, q⟩
    | brk => exact hs.elim fun _ z => z.elim fun _ z => z.2.elim
    | cont => exact hs.elim fun _ z => z.elim fun _ z => z.2.elim
section
variable {X : Cx} {k : Nat} {f : Addr} {fd : FuncData} {ps : List Str} {Z : Addr × Obj → Prop} {sp : Sp} {x : Str} {q pos : Pos} {e : Expr} {es : List Expr} {ta : TA} {p : Addr × Obj}
theorem pe_callC (F : FnC X.prog X.w X.K X.mg X.base k f fd ps Z sp) (hr : L2H.RoomH k X.A) (hp : p ∈ X.pn) (hz : Z p) (hg : Gl X x) (hm : X.mg x = some (.ref f)) (hk : PySem.W.keepIn X.K (.ref f) = true) (hb : Binds X.K fd ps [])
    (ha : PA X (e :: es) ta) (hdb : (x == ("__debug__" : Str)) = false := by decide) (he : starEach (e :: es) X.env = (false, eval e X.env) :: starEach es X.env := by rfl) (hpl : (backTo pos (starEach es X.env)).any (·.1) = false := by rfl) :
    PE X (.Call (.Name x q) (e :: es) [] pos) (tCall sp [] E0 ta) := by
  refine ⟨fun pins s σ H Q I h => wpAny_Call_Name_kw (ld_glob I hg hm ?_ hdb)⟩
  refine PySem.W.callWith_K (h₀ := X.base) I.ok.mod.kin hk (thn (ha.run pos pins s σ H _ I h) fun us s1 ⟨vs, H1, I1, r, q⟩ => ⟨I1.kIn, ?_⟩) he hpl
  replace q : sp (vs ++ []) H1 Q E0 := q
  rw [List.append_nil] at q
  have b := hb s1 us I1.kIn (by rw [List.append_nil, ← r.length]; exact F.len _ _ _ _ q)
  rw [List.append_nil] at b
  have P1 := I1.pin p (List.mem_append_left _ hp)
  refine wpAny_call (codeAny_mono (F.run X.A X.stack s1 H1 ⟨us, []⟩ us vs Q E0 p hr hz ⟨P1.1, P1.2.1, fun hm => (List.mem_cons.mp (I1.stkSub p.1 hm)).elim P1.2.2.1 P1.2.2.2.1, P1.2.2.2.2⟩ I1.env0 b r q) fun r s' hq => ?_)
  cases r with
  | error e => exact (show False from hq).elim
  | ok fl =>
    cases fl with
    | ret u => exact I1.after hq
    | next => exact False.elim hq
    | brk => exact False.elim hq
    | cont => exact False.elim hq
/-- a field of the handled error, wherever it is pinned -/
theorem pe_xfP {a C : Addr} {oe : Obj} {dd : Addr} {te : TE} {n : Str} (T : XfC X.K C) (hno : PySem.W.findIn X.K (.ref C) n = some none) (hz : Zc (.ref C) (some dd) oe) (hf : ∃ vs, oe.data = .fields vs) (hp : (a, oe) ∈ X.pn) (he : PE X e te)
    (hb : attributeBase e n X.env (eval e X.env) = eval e X.env := by rfl) :
    PE X (.Attribute e n pos) (fun σ H Q => te σ H fun y H1 => y = .ref a ∧ ∃ (fs : List (Str × V)) (v : V), H1 dd = some (.xd fs) ∧ fs.lookup n = some v ∧ Q v H1) := by
  refine ⟨fun pins s σ H Q I h => attr_of hb (thn (he.run pins s σ H _ I h) fun u s1 hh => ?_)⟩
  obtain ⟨y, H1, I1, ry, rfl, fs, v, ed, l, q⟩ := hh
  obtain rfl : u = Value.ref a := ry
  obtain ⟨ha, _⟩ := I1.pin (a, oe) (List.mem_append_left _ hp)
  obtain ⟨vs, hd⟩ := hf
  obtain ⟨mA, hns, hr⟩ := (show ObjOk X.prog X.w H1 s1.heap dd (.xd fs) from I1.hok dd _ ed)
  obtain ⟨od, ho, hl⟩ := lookIn_ns hns
  obtain ⟨u, hu, ru⟩ := RelO.some_of (v := v) (o := mA n) (by rw [← l]; exact hr n)
  have J : PySem.W.InstAt s1.heap a oe C (some od) := ⟨ha, hz.1, by unfold PySem.W.notCls; rw [hd] <;> rfl, by rw [hz.2]; exact ho⟩
  exact HandSPX.exc_get I1.kIn J T.ga T.gg T.exC (PySem.W.findObj_own T.hdC hno rfl (by rw [hl, hu])) (handed_of ru) ⟨v, H1, I1.tok _, ru, q⟩
end
end Lw
set_option Elab.async false
set_option linter.all false
set_option maxRecDepth 100000
namespace Lw
open PySem PySem.Spec PyProof.Rows L2
abbrev sField : Stmt := top 23
abbrev sTried : Stmt := top 24
/-- the handled error at a: of the class at C, its dict at dd -/
def Zh (C a dd : Addr) : Addr × Obj → Prop := fun p => p.1 = a ∧ Zc (.ref C) (some dd) p.2 ∧ ∃ vs, p.2.data = .fields vs
def spField (a dd : Addr) (fld wd : Str) : Sp := fun vs H Q _ => ∃ n : Int, vs = [.ref a] ∧ H dd = some (.xd (erF fld wd n)) ∧ ∀ H', Same H H' → Q (.int n) H'
theorem same_new {H : Hp} {p : Addr} {o : HO} (h : H p = none) : Same H (upd H p o) := fun b x e => by
  rw [upd_ne (ne_of_none e h)]
  exact e
theorem ifT {c : Bool} {A B : Prop} (hc : c = true) (h : A) : if c = true then A else B := by
  rw [if_pos hc]
  exact h
theorem ifF {c : Bool} {A B : Prop} (hc : c = false) (h : B) : if c = true then A else B := by
  rw [if_neg (by rw [hc]; exact Bool.false_ne_true)]
  exact h
section
variable {P : Program} {w : World} {K : PySem.W.Frag} {mg : Str → Option Value} {base : Heap}
theorem scField : FnScope ["_law_e", "_law_fields", "_law_word", "_law_ask"] ["_law_e"] (defScope sField) := ⟨rfl, rfl, rfl, by decide +kernel, rfl, by decide +kernel, by decide +kernel⟩

abbrev sInvalidLength : Stmt := inClass (top 6) 0
theorem scInvalidLength : FnScope ["self", "length"] ["self", "length"] (defScope sInvalidLength) := ⟨rfl, rfl, rfl, by decide +kernel, rfl, by decide +kernel, by decide +kernel⟩
theorem ok_invalidlength {f C CW fW : Addr} {mc : Value} {fd fdW : FuncData} {k : Nat} (F : Fun K "__init__" "InvalidLength.__init__" sInvalidLength f fd) (T : OexC K C) (nw : PySem.W.findIn K (.ref C) "word" = some none) (nn : PySem.W.findIn K (.ref C) "length" = some none)
    (gW : mg "WindowError" = some (.ref CW)) (rW : ClX.CRead K CW mc) (vW : ClX.CVal K CW mc "__init__" (.ref fW) (.ref fW)) (kW : PySem.W.keepIn K (.ref fW) = true) (FW : FnOk P w K mg base CX0 1 fW fdW ["self", "word", "told"] (spWin K)) (bW : Binds K fdW ["self", "word", "told"] []) :
    FnOk P w K mg base CX0 (k + 2) f fd ["self", "length"] (spErr C "length" "invalidlength") := by
  refine F.ok scInvalidLength (fun vs H Q E h => ?_) (fun cdv A outer s H vs Q E hr h => ?_)
  · obtain ⟨a, n, rfl, _⟩ := h
    rfl
  · obtain ⟨a, n, rfl, hn, ha, q⟩ := h
    refine ⟨_, pss_cons (ps_expr (pe_clsfn (by rfl) gW rW vW kW FW (hr.mono (Nat.le_add_left 1 k)) bW .nil pass0 (pa_cons (pv 0) (pa_cons pe_str (pa_cons (pe_joined (.cons pe_str (.cons (pe_fmt (pv 1)) .nil))) pa_nil))))) (pss_one (ps_ost (pv 0) (pv 1))), ?_⟩
    have z0 : (Str.empty ++ Str.ofString "no length: ").length = 11 := by decide +kernel
    have zn := int_text_len_1921 (log_big hn)
    have hsz : ∀ m : Nat, m ≤ 3000 → m ≤ sizeLine := fun m h => Nat.le_trans h (by rw [sizeLine_eq]; decide)
    refine ⟨_, rfl, _, rfl, hsz _ (by rw [z0]; decide), _, rfl, .inr ⟨n, rfl, log_big hn, _, rfl, hsz _ (by rw [len_app0, z0]; omega), ?_⟩⟩
    refine ⟨a, C, _, _, rfl, T, nw, ha, fun d hd ne => ?_⟩
    have ed : upd (upd H d (exd d [("word", .str "invalidlength")])) a (exo a C (some d)) d = some (exd d [("word", .str "invalidlength")]) := by
      rw [upd_ne ne]
      exact upd_same
    exact ⟨_, rfl, _, rfl, a, C, rfl, T, nn, .inr ⟨d, _, upd_same, ed, (by show 1 ≤ 900; decide), q d hd ne⟩⟩

end
end Lw
set_option Elab.async false
set_option linter.all false
set_option maxRecDepth 100000
namespace Lw
open PySem PySem.Spec PyProof.Rows L2
/-- an error that `_law_tried` tells: its word and its field -/
structure ErOk (P : Program) (w : World) (K : PySem.W.Frag) (mg : Str → Option Value) (base : Heap) (CW fF : Addr) (fdF : FuncData) (C : Addr) (fld wd : Str) : Prop where
  ex : PySem.W.exmOne K (.ref C) (.ref CW) = some true
  T : XfC K C
  nw : PySem.W.findIn K (.ref C) "word" = some none
  nf : (("word" : Str) == fld) = false
  FF : ∀ a dd, FnC P w K mg base 1 fF fdF ["_law_e"] (Zh C a dd) (spField a dd fld wd)
/-- what `_law_tried` makes of what it calls: ('', value), or the word and the field of an own error -/
def Tried (Er : Addr → Str → Str → Prop) : (XK → Hp → VK → Prop) → Hp → VK → Prop := fun tl H Q =>
  tl (fun cls d H' => ∃ (C dd : Addr) (fld wd : Str) (n : Int), Er C fld wd ∧ cls = .ref C ∧ d = some dd ∧ H' dd = some (.xd (erF fld wd n)) ∧ ∀ H2 p, Same H' H2 → H' p = none → H2 p = some (.tup [.str wd, .int n]) → Q (.ref p) H2) H
    (fun v H' => [V.str "", v].length ≤ sizeLine ∧ ∀ p, H' p = none → Q (.ref p) (upd H' p (.tup [.str "", v])))
section
variable {X : Cx}
theorem scTried : FnScope ["_law_ask", "_law_e"] ["_law_ask"] (defScope sTried) := ⟨rfl, rfl, rfl, by decide +kernel, rfl, by decide +kernel, by decide +kernel⟩
set_option maxHeartbeats 4000000 in
theorem tried_gives {q : Str} {g CW fF : Addr} {cdg : Value} {fdF : FuncData} (hr : Room 2 X.A) (gW : X.mg "WindowError" = some (.ref CW))
    (gF : X.mg "_law_field" = some (.ref fF)) (kF : PySem.W.keepIn X.K (.ref fF) = true) (bF : L2.Binds X.K fdF ["_law_e"] []) :
    LamX.GivesTo X ["_law_ask", "_law_e"] "_law_tried" (defScope sTried) g cdg (defBody sTried) "_law_ask" q (Tried (ErOk X.prog X.w X.K X.mg X.base CW fF fdF)) := by
  intro f c' s H Q tl act hc h
  have two : 2 ≤ sizeLine := by decide
  refine ⟨_, pss_one (ps_try_first (X := (cxOf C8.CX0 X.prog X.w X.K X.mg X.base ["_law_ask", "_law_e"] "_law_tried" (defScope sTried) g cdg X.A X.stack s H C8.E0).nox) (i := 1) (c := .ref CW)
      (tb := fun W D σ H => ∃ Ech : XK, (∀ cls d σ' H', Ech cls d H' → W cls d σ' H') ∧ σ[0]? = some (some (.ref f)) ∧ H c' = some (LamX.CodeO c' q) ∧ tl Ech H (fun v H' => [V.str "", v].length ≤ sizeLine ∧ ∀ p, H' p = none → D.rt (.ref p) (upd H' p (.tup [.str "", v]))))
      (ts := fun a cls d D σ H => ∃ (C dd : Addr) (fld wd : Str), ErOk X.prog X.w X.K X.mg X.base CW fF fdF C fld wd ∧ cls = .ref C ∧ d = some dd ∧ (∃ σ0 : L2.St, σ = σ0.set 1 (some (.ref a))) ∧ ∃ n : Int, H dd = some (.xd (erF fld wd n)) ∧ ∀ H2 p, Same H H2 → H p = none → H2 p = some (.tup [.str wd, .int n]) → D.rt (.ref p) H2)
      rfl rfl scTried.nd rfl rfl ⟨rfl, by decide, .inl gW⟩ (fun W pn xe tk _ => ?_) (fun a oe cls d pn hz hf => ?_)), ?_⟩
  · refine ⟨fun pins s' σ H' D I h' => ?_⟩
    obtain ⟨Ech, hW, h1, h2, h3⟩ := h'
    exact (pss_one (ps_ret (pe_tup (pa_cons pe_str (pa_cons (act W pn xe Ech _ _ tk hW) pa_nil))))).run pins s' σ H' D I ⟨h1, h2, h3⟩
  · refine ⟨fun pins s' σ H' D I h' => ?_⟩
    obtain ⟨C, dd, fld, wd, ok, rfl, rfl, ⟨σ0, rfl⟩, n, h2, h3⟩ := h'
    have h1 : (σ0.set 1 (some (.ref a)))[1]? = some (some (V.ref a)) := by
      have l2 : (σ0.set 1 (some (.ref a))).length = 2 := I.len
      rw [List.length_set] at l2
      rw [List.getElem?_set_self (by omega)]
    have hrm : L2H.RoomH 1 ((cxOf C8.CX0 X.prog X.w X.K X.mg X.base ["_law_ask", "_law_e"] "_law_tried" (defScope sTried) g cdg X.A X.stack s H C8.E0).nox.suite a ((a, oe) :: pn)).A := ⟨by have := hr.dp; show X.A.depth + 1 + 3 * 1 + 5 < _; omega, by have := hr.un; show X.A.units + 3 + 16 * 1 + 200 < _; omega⟩
    refine (pss_one (ps_ret (pe_tup (pa_cons (pe_xfP (X := ((cxOf C8.CX0 X.prog X.w X.K X.mg X.base ["_law_ask", "_law_e"] "_law_tried" (defScope sTried) g cdg X.A X.stack s H C8.E0).nox.suite a ((a, oe) :: pn))) ok.T ok.nw hz hf List.mem_cons_self (pv 1)) (pa_cons (pe_callC (X := ((cxOf C8.CX0 X.prog X.w X.K X.mg X.base ["_law_ask", "_law_e"] "_law_tried" (defScope sTried) g cdg X.A X.stack s H C8.E0).nox.suite a ((a, oe) :: pn))) (p := (a, oe)) (ok.FF a dd) hrm List.mem_cons_self ⟨rfl, hz, hf⟩ (by rfl) gF kF bF (pa_cons (pv 1) pa_nil)) pa_nil))))).run pins s' _ H' D I ?_
    refine ⟨_, h1, rfl, _, _, h2, er_w ok.nf, _, h1, n, rfl, h2, fun H2 s2 => ⟨two, fun p hp => ?_⟩⟩
    exact h3 _ p (s2.trans (same_new hp)) (s2.free hp) upd_same
  · exact ⟨_, fun cls d σ' H' ⟨C, dd, fld, wd, n, ok, e1, e2, e3, e4⟩ => ⟨by rw [e1]; exact ok.ex, fun a na => ⟨C, dd, fld, wd, ok, e1, e2, ⟨σ', rfl⟩, n, e3, e4⟩⟩, rfl, hc, h⟩
end
end Lw
set_option Elab.async false
set_option linter.all false
set_option maxRecDepth 100000
namespace Lw
open PySem L2
/-- a def that may raise, called by its name -/
structure CalX (P : Program) (w : World) (K : PySem.W.Frag) (mg : Str → Option Value) (base : Heap) (k : Nat) (x : Str) (sp : Sp) : Prop where
  ex : ∃ (f : Addr) (fd : FuncData) (ps : List Str), FnOk P w K mg base (L2.CX P w) k f fd ps sp ∧ mg x = some (.ref f) ∧ PySem.W.keepIn K (.ref f) = true ∧ Binds K fd ps []
theorem pe_cX {X : Cx} {W : WX} {E : XK} {k j : Nat} {x : Str} {sp : Sp} {e : Expr} {es : List Expr} {t : TA} {p pos : Pos} (c : CalX X.prog X.w X.K X.mg X.base k x sp) (tk : Takes X W) (hW : ∀ cls d σ H, E cls d H → W cls d σ H) (hr : Room j X.A) (hk : k ≤ j) (hg : Gl X x) (ha : PA X (e :: es) t)
    (hdb : (x == ("__debug__" : Str)) = false := by decide) (he : starEach (e :: es) X.env = (false, eval e X.env) :: starEach es X.env := by rfl) (hpl : (backTo pos (starEach es X.env)).any (·.1) = false := by rfl) :
    PE X (.Call (.Name x p) (e :: es) [] pos) (tCall sp [] E t) := by
  obtain ⟨f, fd, ps, F, hm, kp, b⟩ := c.ex
  exact pe_call F (hr.mono hk) hg hm kp b .nil (passes_call tk hW) ha hdb he hpl
/-- a class whose making may raise -/
structure MakX (P : Program) (w : World) (K : PySem.W.Frag) (mg : Str → Option Value) (base : Heap) (k : Nat) (C : Addr) (sp : Sp) : Prop where
  ex : ∃ (f : Addr) (fd : FuncData) (ps : List Str), Mk K C f ∧ FnOk P w K mg base (L2.CX P w) k f fd ps sp ∧ Binds K fd ps []
end Lw
set_option Elab.async false
set_option linter.all false
set_option maxRecDepth 100000
/-! zip over any number of lists, at the library's level -/
namespace ZN
open PySem
section
variable {M : Model} {A : Around} {E : Value → Shared → Prop}
/-- a loop that never leaves early: what it carries is known by the number of turns -/
theorem loop {α β : Type} {f : α → β → Sem (ForInStep β)} {l : List α} (g : Nat → β) (Inv : Nat → Shared → Prop) {Q : β → Shared → Prop}
    (step : ∀ (j : Nat) (a : α) (s : Shared), l[j]? = some a → Inv j s → wpAny M A (f a (g j)) (fun r s' => r = .yield (g (j + 1)) ∧ Inv (j + 1) s') E s)
    (fin : ∀ s', Inv l.length s' → Q (g l.length) s') : ∀ (post : List α) (j : Nat) (s : Shared), l.drop j = post → j ≤ l.length → Inv j s → wpAny M A (forIn post (g j) f) Q E s := by
  intro post
  induction post with
  | nil =>
    intro j s hd hj inv
    have e : j = l.length := Nat.le_antisymm hj (List.drop_eq_nil_iff.mp hd)
    subst e
    exact wpAny_pure (fin s inv)
  | cons a post ih =>
    intro j s hd hj inv
    have hlt : j < l.length := by
      refine Nat.lt_of_le_of_ne hj fun z => ?_
      rw [z, List.drop_length] at hd
      cases hd
    have ha : l[j]? = some a := by
      have := List.getElem?_drop (xs := l) (i := j) (j := 0)
      rw [hd] at this
      simpa using this.symm
    have hn : l.drop (j + 1) = post := by
      have := congrArg (List.drop 1) hd
      simpa [List.drop_drop] using this
    rw [List.forIn_cons]
    refine wpAny_bind (wpAny_mono (step j a s ha inv) (fun r s' h => ?_) fun _ _ e => e)
    obtain ⟨rfl, inv'⟩ := h
    exact ih (j + 1) s' hn hlt inv'
end
/-- the zip object, as it stands -/
def ZipAt (h : Heap) (z TI TO : Addr) (own : Value) (b : Bool) : Prop := h.get? z = some { cls := .type "zip", dict := none, data := .fields #[own, .bool b, .bool false, .ref TI, .ref TO], slots := #[] }
def TupAt (h : Heap) (T : Addr) (vs : Array Value) : Prop := h.get? T = some { cls := .type "tuple", data := .seq vs }
/-- an iterator, its list, the list's items -/
abbrev Rw := Addr × Addr × Array Value
def refs (qs : List Rw) : Array Value := (qs.map fun q => Value.ref q.1).toArray
/-- the first j iterators one further -/
def Rws (h : Heap) (qs : List Rw) (k j : Nat) : Prop := ∀ (i : Nat) (q : Rw), qs[i]? = some q → h.IsListIter q.1 q.2.1 (if i < j then k + 1 else k) ∧ h.IsList q.2.1 q.2.2
structure Apart (z TI TO : Addr) (qs : List Rw) : Prop where
  zT : z ≠ TO
  iz : z ≠ TI
  iT : TO ≠ TI
  q1 : ∀ q ∈ qs, q.1 ≠ z ∧ q.1 ≠ TO ∧ q.1 ≠ TI
  q2 : ∀ q ∈ qs, q.2.1 ≠ z ∧ q.2.1 ≠ TO
  nd : ∀ (i j : Nat) (p q : Rw), qs[i]? = some p → qs[j]? = some q → i ≠ j → p.1 ≠ q.1
  nl : ∀ p ∈ qs, ∀ q ∈ qs, q.2.1 ≠ p.1
/-- the column at k -/
def Col (qs : List Rw) (k : Nat) (xs : List Value) : Prop := xs.length = qs.length ∧ ∀ (i : Nat) (q : Rw) (x : Value), qs[i]? = some q → xs[i]? = some x → q.2.2[k]? = some x
theorem Rws.ext {h h' : Heap} {qs : List Rw} {k j : Nat} (r : Rws h qs k j) (e : ∀ q ∈ qs, ∀ o, h.get? q.1 = some o → h'.get? q.1 = some o) (e2 : ∀ q ∈ qs, ∀ o, h.get? q.2.1 = some o → h'.get? q.2.1 = some o) : Rws h' qs k j := fun i q hq => by
  have m := List.mem_of_getElem? hq
  obtain ⟨⟨o, h1, h2⟩, ⟨ol, h3, h4⟩⟩ := r i q hq
  exact ⟨⟨o, e q m _ h1, h2⟩, ⟨ol, e2 q m _ h3, h4⟩⟩
section
variable {prog : Program} {w : World} {A : Around} {E : Value → Shared → Prop} {s : Shared} {z TI TO : Addr} {qs : List Rw} {k : Nat} {own : Value} {b : Bool}
theorem put {T : Addr} {vs : Array Value} {x : Value} {i : Nat} {Q : Unit → Shared → Prop} (hT : TupAt s.heap T vs) (hz : vs.size ≤ sizeLine)
    (h : ∀ h', TupAt h' T (vs.setIfInBounds i x) → Heap.SameBut T s.heap h' → Q () { s with heap := h' }) : wpAny (model prog w) A (updateSeq T (·.setIfInBounds i x)) Q E s := by
  refine wpAny_updateSeq hT rfl (h _ ?_ (Heap.SameBut.update ..)) (by simpa using hz) (by simp; omega)
  unfold TupAt
  rw [Heap.get?_update_self _ hT rfl]
  simp [Obj.mapSeq]
/-- one iterator of the first j moves on -/
theorem Rws.step {h h' : Heap} {j : Nat} {q : Rw} (S : Apart z TI TO qs) (r : Rws h qs k j) (hq : qs[j]? = some q) (it : h'.IsListIter q.1 q.2.1 (k + 1)) (sb : Heap.SameBut q.1 h h') : Rws h' qs k (j + 1) := fun i p hp => by
  have mq := List.mem_of_getElem? hq
  have mp := List.mem_of_getElem? hp
  obtain ⟨h1, ⟨ol, h3, h4⟩⟩ := r i p hp
  refine ⟨?_, ⟨ol, sb.extBut _ _ (S.nl q mq p mp) h3, h4⟩⟩
  by_cases e : i = j
  · subst e
    rw [hq] at hp
    cases hp
    rw [if_pos (Nat.lt_succ_self _)]
    exact it
  · obtain ⟨o, g1, g2⟩ := h1
    have e2 : (if i < j + 1 then k + 1 else k) = (if i < j then k + 1 else k) := by
      by_cases l : i < j
      · rw [if_pos l, if_pos (by omega)]
      · rw [if_neg l, if_neg (by omega)]
    rw [e2]
    exact ⟨o, sb.extBut _ _ (S.nd i j p q hp hq e) g1, g2⟩
/-- what is not the zip's own -/
def Out (z TO : Addr) (qs : List Rw) (c : Addr) : Prop := c ≠ z ∧ c ≠ TO ∧ ∀ q ∈ qs, c ≠ q.1
theorem col_at {xs : List Value} {q : Rw} {j : Nat} (C : Col qs k xs) (hq : qs[j]? = some q) : ∃ x, xs[j]? = some x ∧ q.2.2[k]? = some x := by
  have hj : j < xs.length := by
    rw [C.1]
    exact (List.getElem?_eq_some_iff.mp hq).1
  exact ⟨xs[j], List.getElem?_eq_getElem hj, C.2 j q _ hq (List.getElem?_eq_getElem hj)⟩
theorem Rws.done {h : Heap} (r : Rws h qs k qs.length) : Rws h qs (k + 1) 0 := fun i q hq => by
  have hi := (List.getElem?_eq_some_iff.mp hq).1
  have := r i q hq
  rw [if_pos hi] at this
  rw [if_neg (Nat.not_lt_zero i)]
  exact this
theorem refs_at {j : Nat} {v : Value} (h : (refs qs).toList[j]? = some v) : ∃ q, qs[j]? = some q ∧ v = .ref q.1 := by
  unfold refs at h
  simp only [List.toList_toArray, List.getElem?_map] at h
  obtain ⟨q, hq, rfl⟩ := Option.map_eq_some_iff.mp h
  exact ⟨q, hq, rfl⟩
theorem refs_len : (refs qs).toList.length = qs.length := by
  unfold refs
  simp
set_option maxHeartbeats 3200000 in
theorem next_free {xs : List Value} {vs : Array Value} {Q : Value → Shared → Prop} (S : Apart z TI TO qs) (hz : ZipAt s.heap z TI TO .none b) (hn : qs ≠ []) (h64 : qs.length ≤ 64)
    (hTI : TupAt s.heap TI (refs qs)) (hTO : TupAt s.heap TO vs) (hv : vs.size = qs.length) (R : Rws s.heap qs k 0) (C : Col qs k xs)
    (hQ : ∀ h', ZipAt h' z TI TO (rawInt s.heap.objs.size) false → TupAt h' TI (refs qs) → Rws h' qs (k + 1) 0 → TupAt h' s.heap.objs.size xs.toArray → h'.objs.size = s.heap.objs.size + 1 →
      (∀ c o, Out z TO qs c → s.heap.get? c = some o → h'.get? c = some o) → Q (.ref s.heap.objs.size) { s with heap := h' }) :
    wpAny (model prog w) A (Builtin.«zip.__next__» ⟨[.ref z], []⟩) (fun fin s' => ∃ v, fin = .done (.ret v) ∧ Q v s') E s := by
  show wpAny _ _ (field (.ref z) 2 >>= _) _ _ _
  refine wpAny_bind (wpAny_field hz rfl (x := .bool false) rfl ?_)
  show wpAny _ _ (field (.ref z) 3 >>= _) _ _ _
  refine wpAny_bind (wpAny_field hz rfl (x := .ref TI) rfl ?_)
  refine wpAny_bind (wpAny_seqItems hTI rfl ?_)
  have ne : (refs qs).isEmpty = false := by
    unfold refs
    cases qs with
    | nil => exact absurd rfl hn
    | cons => rfl
  dsimp only
  rw [ne, if_neg Bool.false_ne_true]
  refine wpAny_bind ?_
  unfold Builtin.SmallTypes.ownedTupleIsFree
  refine wpAny_bind (wpAny_field hz rfl (x := .none) rfl (wpAny_pure ?_))
  rw [if_pos rfl]
  refine wpAny_bind (wpAny_rule (wpAny_bind (wpAny_field hz rfl (x := .ref TO) rfl ?_)))
  refine wpAny_bind (wpAny_setField_rec hz (by simp) fun h1 hz1 sb1 => ?_)
  replace hz1 : ZipAt h1 z TI TO .ellipsis b := hz1
  replace sb1 : Heap.SameBut z s.heap h1 := sb1
  refine wpAny_bind ?_
  refine loop (l := (refs qs).toList.zipIdx) (fun _ => (none, ())) (fun j s' => ∃ h' ys, s' = { s with heap := h' } ∧ ZipAt h' z TI TO .ellipsis b ∧ TupAt h' TI (refs qs) ∧ TupAt h' TO ys ∧ ys.size = qs.length ∧ (∀ i x, i < j → xs[i]? = some x → ys[i]? = some x) ∧ Rws h' qs k j ∧ h'.objs.size = s.heap.objs.size ∧ ∀ c o, Out z TO qs c → s.heap.get? c = some o → h'.get? c = some o) ?_ ?_ _ 0 _ rfl (Nat.zero_le _) ?_
  · rintro j ⟨v, j2⟩ s' hj ⟨h2, ys, rfl, z2, t2, o2, sz, low, r2, sz2, out2⟩
    obtain ⟨e1, e2⟩ : (refs qs).toList[j]? = some v ∧ j2 = j := by
      rw [List.getElem?_zipIdx] at hj
      cases g : (refs qs).toList[j]? with
      | none =>
        rw [g] at hj
        cases hj
      | some u =>
        rw [g] at hj
        have := Option.some.inj hj
        simp only [Prod.mk.injEq] at this
        exact ⟨congrArg some this.1, by omega⟩
    subst e2
    obtain ⟨q, hq, rfl⟩ := refs_at e1
    have mq := List.mem_of_getElem? hq
    obtain ⟨x, hx, hxk⟩ := col_at C hq
    have hjl := (List.getElem?_eq_some_iff.mp hq).1
    obtain ⟨it, ls⟩ := r2 j2 q hq
    rw [if_neg (Nat.lt_irrefl _)] at it
    refine wpAny_bind (wpAny_onRaise ?_)
    show wpAny _ _ (Builtin.SmallTypes.nextOf (.ref q.1) >>= _) _ _ _
    refine wpAny_bind (wpAny_nextOf_list_item (s := { s with heap := h2 }) it ls hxk fun h3 it3 sb3 => wpAny_pure ?_)
    replace sb3 : Heap.SameBut q.1 h2 h3 := sb3
    obtain ⟨nz, nT, nI⟩ := S.q1 q mq
    have o3 : TupAt h3 TO ys := sb3.extBut _ _ (Ne.symm nT) o2
    dsimp only
    refine wpAny_bind (wpAny_seqItems (s := { s with heap := h3 }) o3 rfl ?_)
    dsimp only
    refine wpAny_bind (put (s := { s with heap := h3 }) o3 (by rw [sz]; exact Nat.le_trans h64 (by decide)) fun h4 o4 sb4 => ?_)
    replace sb4 : Heap.SameBut TO h3 h4 := sb4
    refine wpAny_bind (wpAny_letGo (wpAny_pure ⟨rfl, h4, _, rfl, ?_, ?_, o4, ?_, ?_, ?_, ?_, ?_⟩))
    · exact sb4.extBut _ _ S.zT (sb3.extBut _ _ (Ne.symm nz) z2)
    · exact sb4.extBut _ _ (Ne.symm S.iT) (sb3.extBut _ _ (Ne.symm nI) t2)
    · rw [Array.size_setIfInBounds]
      exact sz
    · intro i y hi hy
      by_cases e : i = j2
      · subst e
        rw [hx] at hy
        cases hy
        rw [Array.getElem?_setIfInBounds_self_of_lt (by omega)]
      · rw [Array.getElem?_setIfInBounds_ne (Ne.symm e)]
        exact low i y (by omega) hy
    · refine (r2.step S hq it3 sb3).ext (fun p mp o e => ?_) (fun p mp o e => ?_)
      · exact sb4.extBut _ _ (S.q1 p mp).2.1 e
      · exact sb4.extBut _ _ (S.q2 p mp).2 e
    · rw [sb4.1, sb3.1, sz2]
    · intro c o hc e
      exact sb4.extBut _ _ hc.2.1 (sb3.extBut _ _ (hc.2.2 q mq) (out2 c o hc e))
  · rintro s' ⟨h2, ys, rfl, z2, t2, o2, sz, low, r2, sz2, out2⟩
    rw [List.length_zipIdx, refs_len] at low r2
    have ey : ys = xs.toArray := by
      apply Array.ext_getElem?
      intro i
      by_cases hi : i < qs.length
      · have hx : i < xs.length := by rw [C.1]; exact hi
        have := low i xs[i] hi (List.getElem?_eq_getElem hx)
        rw [this]
        simp [hx]
      · rw [Array.getElem?_eq_none (by omega), Array.getElem?_eq_none (by simp [C.1]; omega)]
    subst ey
    dsimp only
    refine wpAny_bind (wpAny_seqItems (s := { s with heap := h2 }) o2 rfl ?_)
    dsimp only
    refine wpAny_bind (wpAny_newTuple ?_)
    refine wpAny_bind ?_
    unfold Builtin.SmallTypes.ownedTupleHandOut
    have z3 : ZipAt (h2.push { cls := .type "tuple", data := .seq xs.toArray.toList.toArray }) z TI TO .ellipsis b := Heap.get?_push_of_some _ z2
    refine wpAny_bind (wpAny_setField_rec (s := { s with heap := h2.push { cls := .type "tuple", data := .seq xs.toArray.toList.toArray } }) z3 (by simp) fun h4 z4 sb4 => ?_)
    replace z4 : ZipAt h4 z TI TO (rawInt h2.objs.size) b := z4
    replace sb4 : Heap.SameBut z (h2.push { cls := .type "tuple", data := .seq xs.toArray.toList.toArray }) h4 := sb4
    refine wpAny_setField_rec (s := { s with heap := h4 }) z4 (by simp) fun h5 z5 sb5 => ?_
    replace z5 : ZipAt h5 z TI TO (rawInt h2.objs.size) false := z5
    replace sb5 : Heap.SameBut z h4 h5 := sb5
    have zlt : z < h2.objs.size := Heap.lt_size z2
    have up : ∀ c o, c ≠ z → h2.get? c = some o → h5.get? c = some o := fun c o n e => sb5.extBut _ _ n (sb4.extBut _ _ n (Heap.get?_push_of_some _ e))
    have tn : TupAt h5 h2.objs.size xs.toArray := by
      have : TupAt (h2.push { cls := .type "tuple", data := .seq xs.toArray.toList.toArray }) h2.objs.size xs.toArray := Heap.get?_push_size _ rfl
      exact sb5.extBut _ _ (Nat.ne_of_gt zlt) (sb4.extBut _ _ (Nat.ne_of_gt zlt) this)
    have s5 : h5.objs.size = h2.objs.size + 1 := by rw [sb5.1, sb4.1, Heap.size_push]
    rw [sz2] at z5 tn s5
    refine wpAny_pure ⟨_, rfl, ?_⟩
    show Q (.ref h2.objs.size) _
    rw [sz2]
    refine hQ h5 z5 (up _ _ (Ne.symm S.iz) t2) (r2.done.ext (fun p mp o e => up _ _ (S.q1 p mp).1 e) fun p mp o e => up _ _ (S.q2 p mp).1 e) tn s5 fun c o hc e => up c o hc.1 (out2 c o hc e)
  · refine ⟨h1, vs, rfl, hz1, sb1.extBut _ _ (Ne.symm S.iz) hTI, sb1.extBut _ _ (Ne.symm S.zT) hTO, hv, fun i x hi => absurd hi (Nat.not_lt_zero i), ?_, sb1.1, fun c o hc e => sb1.extBut _ _ hc.1 e⟩
    exact R.ext (fun p mp o e => sb1.extBut _ _ (S.q1 p mp).1 e) fun p mp o e => sb1.extBut _ _ (S.q2 p mp).1 e
end
end ZN
set_option Elab.async false
set_option linter.all false
set_option maxRecDepth 100000
namespace ZN
open PySem
section
variable {prog : Program} {w : World} {A : Around} {E : Value → Shared → Prop} {s : Shared} {z TI TO T : Addr} {qs : List Rw} {k : Nat} {b : Bool} {oT : Obj}
set_option maxHeartbeats 3200000 in
theorem next_held {xs : List Value} {Q : Value → Shared → Prop} (S : Apart z TI TO qs) (hz : ZipAt s.heap z TI TO (rawInt T) b) (hT : s.heap.get? T = some oT) (hn : qs ≠ []) (h64 : qs.length ≤ 64)
    (hTI : TupAt s.heap TI (refs qs)) (R : Rws s.heap qs k 0) (C : Col qs k xs)
    (hQ : ∀ h', ZipAt h' z TI TO (rawInt T) true → TupAt h' TI (refs qs) → Rws h' qs (k + 1) 0 → TupAt h' s.heap.objs.size xs.toArray → h'.objs.size = s.heap.objs.size + 1 →
      (∀ c o, Out z TO qs c → s.heap.get? c = some o → h'.get? c = some o) → Q (.ref s.heap.objs.size) { s with heap := h' }) :
    wpAny (model prog w) A (Builtin.«zip.__next__» ⟨[.ref z], []⟩) (fun fin s' => ∃ v, fin = .done (.ret v) ∧ Q v s') E s := by
  show wpAny _ _ (field (.ref z) 2 >>= _) _ _ _
  refine wpAny_bind (wpAny_field hz rfl (x := .bool false) rfl ?_)
  show wpAny _ _ (field (.ref z) 3 >>= _) _ _ _
  refine wpAny_bind (wpAny_field hz rfl (x := .ref TI) rfl ?_)
  refine wpAny_bind (wpAny_seqItems hTI rfl ?_)
  have ne : (refs qs).isEmpty = false := by
    unfold refs
    cases qs with
    | nil => exact absurd rfl hn
    | cons => rfl
  dsimp only
  rw [ne, if_neg Bool.false_ne_true]
  refine wpAny_bind (wpAny_tupleHeld_zip hz hT fun h1 hz1 sb1 => ?_)
  replace hz1 : ZipAt h1 z TI TO (rawInt T) true := hz1
  replace sb1 : Heap.SameBut z s.heap h1 := sb1
  rw [if_neg Bool.false_ne_true]
  refine wpAny_bind ?_
  rw [← Array.forIn_toList]
  refine loop (l := (refs qs).toList) (fun j => (none, (xs.take j).toArray)) (fun j s' => ∃ h', s' = { s with heap := h' } ∧ ZipAt h' z TI TO (rawInt T) true ∧ TupAt h' TI (refs qs) ∧ Rws h' qs k j ∧ h'.objs.size = s.heap.objs.size ∧ ∀ c o, Out z TO qs c → s.heap.get? c = some o → h'.get? c = some o) ?_ ?_ _ 0 _ rfl (Nat.zero_le _) ?_
  · rintro j v s' hj ⟨h2, rfl, z2, t2, r2, sz2, out2⟩
    obtain ⟨q, hq, rfl⟩ := refs_at hj
    have mq := List.mem_of_getElem? hq
    obtain ⟨x, hx, hxk⟩ := col_at C hq
    obtain ⟨it, ls⟩ := r2 j q hq
    rw [if_neg (Nat.lt_irrefl _)] at it
    refine wpAny_bind (wpAny_holding ?_)
    show wpAny _ _ (Builtin.SmallTypes.nextOf (.ref q.1) >>= _) _ _ _
    refine wpAny_bind (wpAny_nextOf_list_item (s := { s with heap := h2 }) it ls hxk fun h3 it3 sb3 => wpAny_pure ?_)
    replace sb3 : Heap.SameBut q.1 h2 h3 := sb3
    obtain ⟨nz, nT, nI⟩ := S.q1 q mq
    refine wpAny_pure ⟨?_, h3, rfl, ?_, ?_, r2.step S hq it3 sb3, ?_, ?_⟩
    · rw [List.take_add_one, hx]
      simp
    · exact sb3.extBut _ _ (Ne.symm nz) z2
    · exact sb3.extBut _ _ (Ne.symm nI) t2
    · rw [sb3.1, sz2]
    · intro c o hc e
      exact sb3.extBut _ _ (hc.2.2 q mq) (out2 c o hc e)
  · rintro s' ⟨h2, rfl, z2, t2, r2, sz2, out2⟩
    rw [refs_len] at r2
    rw [refs_len, ← C.1, List.take_length]
    dsimp only
    have hs : xs.length ≤ sizeLine := by
      rw [C.1]
      exact Nat.le_trans h64 (by decide)
    refine wpAny_bind (wpAny_newTuple ?_ (by simpa using hs))
    refine wpAny_pure ⟨_, rfl, ?_⟩
    show Q (.ref h2.objs.size) { s with heap := h2.push { cls := .type "tuple", data := .seq xs.toArray.toList.toArray } }
    have tn : TupAt (h2.push { cls := .type "tuple", data := .seq xs.toArray.toList.toArray }) h2.objs.size xs.toArray := Heap.get?_push_size _ rfl
    have s5 : (h2.push { cls := .type "tuple", data := .seq xs.toArray.toList.toArray }).objs.size = h2.objs.size + 1 := Heap.size_push ..
    rw [sz2] at tn s5
    rw [sz2]
    exact hQ _ (Heap.get?_push_of_some _ z2) (Heap.get?_push_of_some _ t2) (r2.done.ext (fun p mp o e => Heap.get?_push_of_some _ e) fun p mp o e => Heap.get?_push_of_some _ e) tn s5 fun c o hc e => Heap.get?_push_of_some _ (out2 c o hc e)
  · refine ⟨h1, rfl, hz1, sb1.extBut _ _ (Ne.symm S.iz) hTI, ?_, sb1.1, fun c o hc e => sb1.extBut _ _ hc.1 e⟩
    exact R.ext (fun p mp o e => sb1.extBut _ _ (S.q1 p mp).1 e) fun p mp o e => sb1.extBut _ _ (S.q2 p mp).1 e
set_option maxHeartbeats 3200000 in
theorem end_held {Q : Fin → Shared → Prop} (hh : A.handled = none) (S : Apart z TI TO qs) (hz : ZipAt s.heap z TI TO (rawInt T) b) (hT : s.heap.get? T = some oT) (hn : qs ≠ [])
    (hTI : TupAt s.heap TI (refs qs)) (R : Rws s.heap qs k 0) (hk : ∀ q ∈ qs, q.2.2[k]? = none)
    (hE : ∀ h' e, (∀ c o, Out z TO qs c → s.heap.get? c = some o → h'.get? c = some o) → (∃ o, h'.get? e = some o ∧ o.cls = .type "StopIteration") → E (.ref e) { s with heap := h' }) :
    wpAny (model prog w) A (Builtin.«zip.__next__» ⟨[.ref z], []⟩) Q E s := by
  show wpAny _ _ (field (.ref z) 2 >>= _) _ _ _
  refine wpAny_bind (wpAny_field hz rfl (x := .bool false) rfl ?_)
  show wpAny _ _ (field (.ref z) 3 >>= _) _ _ _
  refine wpAny_bind (wpAny_field hz rfl (x := .ref TI) rfl ?_)
  refine wpAny_bind (wpAny_seqItems hTI rfl ?_)
  have ne : (refs qs).isEmpty = false := by
    unfold refs
    cases qs with
    | nil => exact absurd rfl hn
    | cons => rfl
  dsimp only
  rw [ne, if_neg Bool.false_ne_true]
  refine wpAny_bind (wpAny_tupleHeld_zip hz hT fun h1 hz1 sb1 => ?_)
  replace sb1 : Heap.SameBut z s.heap h1 := sb1
  rw [if_neg Bool.false_ne_true]
  refine wpAny_bind ?_
  rw [← Array.forIn_toList]
  cases qs with
  | nil => exact absurd rfl hn
  | cons q qs =>
    have R1 : Rws h1 (q :: qs) k 0 := R.ext (fun p mp o e => sb1.extBut _ _ (S.q1 p mp).1 e) fun p mp o e => sb1.extBut _ _ (S.q2 p mp).1 e
    obtain ⟨it, ls⟩ := R1 0 q rfl
    rw [if_neg (Nat.lt_irrefl _)] at it
    have el : (refs (q :: qs)).toList = .ref q.1 :: (refs qs).toList := by
      unfold refs
      simp
    rw [el, List.forIn_cons]
    refine wpAny_bind (wpAny_bind (wpAny_holding ?_))
    show wpAny _ _ (Builtin.SmallTypes.nextOf (.ref q.1) >>= _) _ _ _
    refine wpAny_bind (wpAny_nextOf_list_end (s := { s with heap := h1 }) hh it ls (hk q List.mem_cons_self) fun h2 e ex he => ?_)
    replace ex : Heap.ExtBut q.1 h1 h2 := ex
    exact hE h2 e (fun c o hc x => ex _ _ (hc.2.2 q List.mem_cons_self) (sb1.extBut _ _ hc.1 x)) he
/-! ### next of the zip -/
theorem py_free {xs : List Value} {vs : Array Value} {Q : Option Value → Shared → Prop} (S : Apart z TI TO qs) (hz : ZipAt s.heap z TI TO .none b) (hn : qs ≠ []) (h64 : qs.length ≤ 64)
    (hTI : TupAt s.heap TI (refs qs)) (hTO : TupAt s.heap TO vs) (hv : vs.size = qs.length) (R : Rws s.heap qs k 0) (C : Col qs k xs)
    (hQ : ∀ h', ZipAt h' z TI TO (rawInt s.heap.objs.size) false → TupAt h' TI (refs qs) → Rws h' qs (k + 1) 0 → TupAt h' s.heap.objs.size xs.toArray → h'.objs.size = s.heap.objs.size + 1 →
      (∀ c o, Out z TO qs c → s.heap.get? c = some o → h'.get? c = some o) → Q (some (.ref s.heap.objs.size)) { s with heap := h' }) : wpAny (model prog w) A (pyNext (.ref z)) Q E s := by
  have ty : s.TypeIs (.ref z) "zip" := ⟨_, hz, rfl⟩
  unfold pyNext
  exact wpAny_bind (wpAny_attempt (wpAny_callSpecial?_slot (name := Str.ofString "__next__") ty F.slot_zip_next (wpAny_call_entry F.slot_zip_next ty F.entry_zip_next (next_free S hz hn h64 hTI hTO hv R C fun h' a b c d e f => wpAny_pure (hQ h' a b c d e f)) (F.args_zip_next_1 _))))
theorem py_held {xs : List Value} {Q : Option Value → Shared → Prop} (S : Apart z TI TO qs) (hz : ZipAt s.heap z TI TO (rawInt T) b) (hT : s.heap.get? T = some oT) (hn : qs ≠ []) (h64 : qs.length ≤ 64)
    (hTI : TupAt s.heap TI (refs qs)) (R : Rws s.heap qs k 0) (C : Col qs k xs)
    (hQ : ∀ h', ZipAt h' z TI TO (rawInt T) true → TupAt h' TI (refs qs) → Rws h' qs (k + 1) 0 → TupAt h' s.heap.objs.size xs.toArray → h'.objs.size = s.heap.objs.size + 1 →
      (∀ c o, Out z TO qs c → s.heap.get? c = some o → h'.get? c = some o) → Q (some (.ref s.heap.objs.size)) { s with heap := h' }) : wpAny (model prog w) A (pyNext (.ref z)) Q E s := by
  have ty : s.TypeIs (.ref z) "zip" := ⟨_, hz, rfl⟩
  unfold pyNext
  exact wpAny_bind (wpAny_attempt (wpAny_callSpecial?_slot (name := Str.ofString "__next__") ty F.slot_zip_next (wpAny_call_entry F.slot_zip_next ty F.entry_zip_next (next_held S hz hT hn h64 hTI R C fun h' a b c d e f => wpAny_pure (hQ h' a b c d e f)) (F.args_zip_next_1 _))))
theorem py_end {Q : Option Value → Shared → Prop} (hh : A.handled = none) (S : Apart z TI TO qs) (hz : ZipAt s.heap z TI TO (rawInt T) b) (hT : s.heap.get? T = some oT) (hn : qs ≠ []) (hTI : TupAt s.heap TI (refs qs)) (R : Rws s.heap qs k 0) (hk : ∀ q ∈ qs, q.2.2[k]? = none)
    (hQ : ∀ h', (∀ c o, Out z TO qs c → s.heap.get? c = some o → h'.get? c = some o) → Q none { s with heap := h' }) : wpAny (model prog w) A (pyNext (.ref z)) Q E s := by
  have ty : s.TypeIs (.ref z) "zip" := ⟨_, hz, rfl⟩
  unfold pyNext
  refine wpAny_bind (wpAny_attempt (wpAny_callSpecial?_slot (name := Str.ofString "__next__") ty F.slot_zip_next (wpAny_call_entry F.slot_zip_next ty F.entry_zip_next (end_held hh S hz hT hn hTI R hk fun h' e ke he => ?_) (F.args_zip_next_1 _))))
  obtain ⟨o, ho, hc⟩ := he
  exact wpAny_bind (wpAny_isInstance (T := "StopIteration") (b := true) ⟨o, ho, hc⟩ isSubtype_stop (wpAny_pure (hQ _ ke)))
end
end ZN
set_option Elab.async false
set_option linter.all false
set_option maxRecDepth 100000
namespace ZN
open PySem
/-- while the list at S is filled from the zip: i columns are in it -/
structure LI (g : Heap) (S z TI TO : Addr) (qs : List Rw) (cols : List (List Value)) (h : Heap) (i : Nat) (Ts : List Addr) : Prop where
  ls : ∃ c : Nat, h.get? S = some { cls := .type "list", dict := none, data := .seq (Ts.map Value.ref).toArray c, slots := #[] }
  len : Ts.length = i
  tup : ∀ (j : Nat) (T : Addr) (xs : List Value), Ts[j]? = some T → cols[j]? = some xs → TupAt h T xs.toArray
  new : ∀ T ∈ Ts, g.objs.size ≤ T ∧ T < h.objs.size ∧ T ≠ S
  nd : Ts.Nodup
  zp : (i = 0 ∧ ZipAt h z TI TO .none false ∧ ∃ vs, TupAt h TO vs ∧ vs.size = qs.length) ∨ (0 < i ∧ ∃ (T0 : Addr) (b : Bool), Ts[0]? = some T0 ∧ ZipAt h z TI TO (rawInt T0) b)
  ti : TupAt h TI (refs qs)
  rw : Rws h qs i 0
  out : ∀ a o, Out z TO qs a → a ≠ S → g.get? a = some o → h.get? a = some o
  sz : g.objs.size ≤ h.objs.size
/-- the zip's own cells lie below, the list's cell apart -/
structure Low (g : Heap) (S z TI TO : Addr) (qs : List Rw) : Prop where
  lz : z < g.objs.size
  lI : TI < g.objs.size
  lO : TO < g.objs.size
  q1 : ∀ q ∈ qs, q.1 < g.objs.size
  Sz : S ≠ z
  ST : S ≠ TI
  SO : S ≠ TO
  S1 : ∀ q ∈ qs, S ≠ q.1
  S2 : ∀ q ∈ qs, S ≠ q.2.1
theorem Low.out {g : Heap} {S z TI TO : Addr} {qs : List Rw} (L : Low g S z TI TO qs) {T : Addr} (h : g.objs.size ≤ T) : Out z TO qs T := ⟨Nat.ne_of_gt (Nat.lt_of_lt_of_le L.lz h), Nat.ne_of_gt (Nat.lt_of_lt_of_le L.lO h), fun q mq => Nat.ne_of_gt (Nat.lt_of_lt_of_le (L.q1 q mq) h)⟩
section
variable {prog : Program} {w : World} {A : Around} {R : Result → Shared → Prop} {s0 : Shared} {g : Heap} {S z TI TO : Addr} {qs : List Rw} {cols : List (List Value)}
/-- one more column, and the list that takes it -/
theorem LI.more {h h1 : Heap} {i c : Nat} {Ts : List Addr} {xs : List Value} (Ap : Apart z TI TO qs) (L : Low g S z TI TO qs) (I : LI g S z TI TO qs cols h i Ts) (hx : cols[i]? = some xs) (hS1 : h1.get? S = some { cls := .type "list", dict := none, data := .seq (Ts.map Value.ref).toArray c, slots := #[] })
    (zp : ∃ (T0 : Addr) (b : Bool), (Ts ++ [h.objs.size])[0]? = some T0 ∧ ZipAt h1 z TI TO (rawInt T0) b) (ti : TupAt h1 TI (refs qs)) (rw1 : Rws h1 qs (i + 1) 0) (tn : TupAt h1 h.objs.size xs.toArray) (s1 : h1.objs.size = h.objs.size + 1) (out : ∀ c o, Out z TO qs c → h.get? c = some o → h1.get? c = some o) :
    LI g S z TI TO qs cols (h1.update S (Obj.mapSeq (·.push (.ref h.objs.size)))) (i + 1) (Ts ++ [h.objs.size]) := by
  have Sl : S < h.objs.size := by
    obtain ⟨c0, e0⟩ := I.ls
    exact Heap.lt_size e0
  have oth : ∀ b o, b ≠ S → h1.get? b = some o → (h1.update S (Obj.mapSeq (·.push (.ref h.objs.size)))).get? b = some o := fun b o hb e => (Heap.get?_update_other _ _ (Ne.symm hb)).trans e
  have usz : (h1.update S (Obj.mapSeq (·.push (.ref h.objs.size)))).objs.size = h1.objs.size := (Heap.SameBut.update (h := h1) (a := S) (f := Obj.mapSeq (·.push (.ref h.objs.size)))).1
  refine ⟨?_, by rw [List.length_append, I.len]; rfl, ?_, ?_, ?_, .inr ⟨Nat.succ_pos i, ?_⟩, oth _ _ (Ne.symm L.ST) ti, ?_, ?_, ?_⟩
  · have ea : (Ts.map Value.ref).toArray.push (.ref h.objs.size) = ((Ts ++ [h.objs.size]).map Value.ref).toArray := by simp
    have e := Heap.get?_update_self (Obj.mapSeq (·.push (.ref h.objs.size))) hS1 rfl
    obtain ⟨c2, hc2⟩ : ∃ c2, Obj.mapSeq (·.push (.ref h.objs.size)) { cls := Value.type "list", dict := none, data := .seq (Ts.map Value.ref).toArray c, slots := #[] } = { cls := Value.type "list", dict := none, data := .seq ((Ts.map Value.ref).toArray.push (.ref h.objs.size)) c2, slots := #[] } := ⟨_, rfl⟩
    rw [hc2, ea] at e
    exact ⟨c2, e⟩
  · intro j T ys hT hy
    by_cases hj : j < Ts.length
    · rw [List.getElem?_append_left hj] at hT
      have m := I.new T (List.mem_of_getElem? hT)
      exact oth _ _ m.2.2 (out _ _ (L.out m.1) (I.tup j T ys hT hy))
    · rw [List.getElem?_append_right (by omega)] at hT
      have hj2 : j - Ts.length = 0 := by
        by_cases e : j - Ts.length = 0
        · exact e
        · obtain ⟨n, hn⟩ : ∃ n, j - Ts.length = n + 1 := ⟨j - Ts.length - 1, by omega⟩
          rw [hn] at hT
          cases hT
      rw [hj2] at hT
      have ej : j = i := by
        have := I.len
        omega
      subst ej
      rw [hx] at hy
      cases hy
      have := Option.some.inj hT
      rw [← this]
      exact oth _ _ (Nat.ne_of_gt Sl) tn
  · intro T hT
    rcases List.mem_append.mp hT with hT | hT
    · obtain ⟨n1, n2, n3⟩ := I.new T hT
      exact ⟨n1, Nat.lt_of_lt_of_eq (show T < h.objs.size + 1 by exact Nat.lt_succ_of_lt n2) (usz.trans s1).symm, n3⟩
    · rw [List.mem_singleton.mp hT]
      exact ⟨I.sz, Nat.lt_of_lt_of_eq (Nat.lt_succ_self _) (usz.trans s1).symm, Nat.ne_of_gt Sl⟩
  · refine List.nodup_append.mpr ⟨I.nd, by simp, fun a ha b hb => ?_⟩
    rw [List.mem_singleton.mp hb]
    exact Nat.ne_of_lt (I.new a ha).2.1
  · obtain ⟨T0, b, e1, e2⟩ := zp
    exact ⟨T0, b, e1, oth _ _ (Ne.symm L.Sz) e2⟩
  · exact rw1.ext (fun p mp o e => oth _ _ (Ne.symm (L.S1 p mp)) e) fun p mp o e => oth _ _ (Ne.symm (L.S2 p mp)) e
  · intro a o ha hs e
    exact oth _ _ hs (out _ _ ha (I.out a o ha hs e))
  · rw [usz, s1]
    have := I.sz
    omega
set_option maxHeartbeats 3200000 in
theorem fill_loop (hh : A.handled = none) (Ap : Apart z TI TO qs) (L : Low g S z TI TO qs) (hn : qs ≠ []) (h64 : qs.length ≤ 64) (hm : cols.length ≤ 64) (hm1 : 1 ≤ cols.length) (HC : ∀ (i : Nat) (xs : List Value), cols[i]? = some xs → Col qs i xs) (HE : ∀ q ∈ qs, q.2.2[cols.length]? = none) (res : Value)
    (fin : ∀ h' Ts, LI g S z TI TO qs cols h' cols.length Ts → ∀ h2, (∀ a o, Out z TO qs a → h'.get? a = some o → h2.get? a = some o) → R (.ok (.ret res)) { s0 with heap := h2 }) :
    ∀ (r i : Nat) (h : Heap) (Ts : List Addr), cols.length - i = r → i ≤ cols.length → LI g S z TI TO qs cols h i Ts → codeAny (model prog w) A (.builtin "list.extend.loop" ⟨[.ref S, .ref z, res], []⟩) R { s0 with heap := h } := by
  intro r
  induction r with
  | zero =>
    intro i h Ts hr hi I
    have e : i = cols.length := by omega
    subst e
    refine codeAny_builtin F.entry_extend_loop ?_
    rw [Around.under_plainId F.plain_extend_loop _]
    show wpAny _ A.in1 (pyNext (.ref z) >>= _) _ _ _
    rcases I.zp with ⟨e, _⟩ | ⟨_, T0, b, e1, e2⟩
    · omega
    have hx0 : ∃ xs, cols[0]? = some xs := ⟨_, List.getElem?_eq_getElem (by omega)⟩
    obtain ⟨xs0, hx0⟩ := hx0
    refine wpAny_bind (py_end (s := { s0 with heap := h }) (A := A.in1) hh Ap e2 (I.tup 0 T0 xs0 e1 hx0) hn I.ti I.rw HE fun h2 out => ?_)
    exact wpAny_pure (fin h Ts I h2 out)
  | succ r ih =>
    intro i h Ts hr hi I
    have hlt : i < cols.length := by omega
    obtain ⟨xs, hx⟩ : ∃ xs, cols[i]? = some xs := ⟨_, List.getElem?_eq_getElem hlt⟩
    refine codeAny_builtin F.entry_extend_loop ?_
    rw [Around.under_plainId F.plain_extend_loop _]
    show wpAny _ A.in1 (pyNext (.ref z) >>= _) _ _ _
    have SO : Out z TO qs S := ⟨L.Sz, L.SO, L.S1⟩
    have go : ∀ h1, (∃ (T0 : Addr) (b : Bool), (Ts ++ [h.objs.size])[0]? = some T0 ∧ ZipAt h1 z TI TO (rawInt T0) b) → TupAt h1 TI (refs qs) → Rws h1 qs (i + 1) 0 → TupAt h1 h.objs.size xs.toArray → h1.objs.size = h.objs.size + 1 → (∀ c o, Out z TO qs c → h.get? c = some o → h1.get? c = some o) →
        wpAny (model prog w) A.in1 (updateSeq S (·.push (.ref h.objs.size)) >>= fun _ => again (.builtin "list.extend.loop" ⟨[.ref S, .ref z, res], []⟩)) (fun fin s' => match fin with | .done f => R (.ok f) s' | .again c' => c'.quiet = true ∧ codeAny (model prog w) A c' R s') (fun e s' => R (.error e) s') { s0 with heap := h1 } := by
      intro h1 zp ti rw1 tn s1 out
      obtain ⟨c0, hS0⟩ := I.ls
      have hS1 := out _ _ SO hS0
      refine wpAny_bind (wpAny_updateSeq (s := { s0 with heap := h1 }) hS1 rfl (wpAny_pure ⟨plainId_quiet F.plain_extend_loop _, ?_⟩) ?_ ?_)
      · exact ih (i + 1) _ _ (by omega) hlt (I.more Ap L hx hS1 zp ti rw1 tn s1 out)
      · have := I.len
        simp only [List.size_toArray, List.length_map]
        exact Nat.le_trans (show Ts.length ≤ 64 by omega) (by decide)
      · have := I.len
        simp only [List.size_toArray, List.length_map, Array.size_push]
        exact Nat.le_trans (show Ts.length + 1 ≤ 65 by omega) (by decide)
    rcases I.zp with ⟨e, z0, vs, o0, v0⟩ | ⟨_, T0, b, e1, e2⟩
    · refine wpAny_bind (py_free (s := { s0 with heap := h }) (A := A.in1) Ap z0 hn h64 I.ti o0 v0 I.rw (HC i xs hx) fun h1 a1 a2 a3 a4 a5 a6 => ?_)
      refine go h1 ⟨h.objs.size, false, ?_, a1⟩ a2 a3 a4 a5 a6
      have : Ts = [] := List.length_eq_zero_iff.mp (I.len.trans e)
      rw [this]
      rfl
    · have hx0 : ∃ xs, cols[0]? = some xs := ⟨_, List.getElem?_eq_getElem (by omega)⟩
      obtain ⟨xs0, hx0⟩ := hx0
      refine wpAny_bind (py_held (s := { s0 with heap := h }) (A := A.in1) Ap e2 (I.tup 0 T0 xs0 e1 hx0) hn h64 I.ti I.rw (HC i xs hx) fun h1 a1 a2 a3 a4 a5 a6 => ?_)
      refine go h1 ⟨T0, true, ?_, a1⟩ a2 a3 a4 a5 a6
      rw [List.getElem?_append_left (List.getElem?_eq_some_iff.mp e1).1]
      exact e1
end
end ZN
set_option Elab.async false
set_option linter.all false
set_option maxRecDepth 100000
namespace ZN
open PySem
theorem tc_zip {us : List Value} (h1 : us ≠ []) (h8 : us.length ≤ 8) : checkTypeCall "zip" ⟨us, []⟩ = pure () := by
  match us, h1, h8 with
  | [_], _, _ => kernel_rfl
  | [_, _], _, _ => kernel_rfl
  | [_, _, _], _, _ => kernel_rfl
  | [_, _, _, _], _, _ => kernel_rfl
  | [_, _, _, _, _], _, _ => kernel_rfl
  | [_, _, _, _, _, _], _, _ => kernel_rfl
  | [_, _, _, _, _, _, _], _, _ => kernel_rfl
  | [_, _, _, _, _, _, _, _], _, _ => kernel_rfl
  | _ :: _ :: _ :: _ :: _ :: _ :: _ :: _ :: _ :: _, _, h => simp at h
theorem tn_zip {us : List Value} (h1 : us ≠ []) (h8 : us.length ≤ 8) : checkBuiltinCall "zip.__new__" ⟨.type "zip" :: us, []⟩ = pure () := by
  match us, h1, h8 with
  | [_], _, _ => kernel_rfl
  | [_, _], _, _ => kernel_rfl
  | [_, _, _], _, _ => kernel_rfl
  | [_, _, _, _], _, _ => kernel_rfl
  | [_, _, _, _, _], _, _ => kernel_rfl
  | [_, _, _, _, _, _], _, _ => kernel_rfl
  | [_, _, _, _, _, _, _], _, _ => kernel_rfl
  | [_, _, _, _, _, _, _, _], _, _ => kernel_rfl
  | _ :: _ :: _ :: _ :: _ :: _ :: _ :: _ :: _ :: _, _, h => simp at h
theorem ti_zip {obj : Value} {us : List Value} (h1 : us ≠ []) (h8 : us.length ≤ 8) : argsOk "object.__init__" ⟨obj :: us, []⟩ := by
  unfold argsOk
  match us, h1, h8 with
  | [_], _, _ => kernel_rfl
  | [_, _], _, _ => kernel_rfl
  | [_, _, _], _, _ => kernel_rfl
  | [_, _, _, _], _, _ => kernel_rfl
  | [_, _, _, _, _], _, _ => kernel_rfl
  | [_, _, _, _, _, _], _, _ => kernel_rfl
  | [_, _, _, _, _, _, _], _, _ => kernel_rfl
  | [_, _, _, _, _, _, _, _], _, _ => kernel_rfl
  | _ :: _ :: _ :: _ :: _ :: _ :: _ :: _ :: _ :: _, _, h => simp at h
section
variable {prog : Program} {w : World} {A : Around} {E : Value → Shared → Prop} {s : Shared}
def made (n0 n : Nat) : Array Value := ((List.range n).map fun i => Value.ref (n0 + i)).toArray
set_option maxHeartbeats 1600000 in
theorem iters {ls : List Addr} {Q : List Value → Shared → Prop} (hl : ∀ l ∈ ls, ∃ items, s.heap.IsList l items)
    (hQ : ∀ h', h'.objs.size = s.heap.objs.size + ls.length → (∀ (i : Nat) (l : Addr), ls[i]? = some l → h'.IsListIter (s.heap.objs.size + i) l 0) → (∀ c o, s.heap.get? c = some o → h'.get? c = some o) → Q (made s.heap.objs.size ls.length).toList { s with heap := h' }) :
    wpAny (model prog w) A (Builtin.SmallTypes.iterAll (ls.map Value.ref)) Q E s := by
  unfold Builtin.SmallTypes.iterAll
  refine wpAny_bind ?_
  refine loop (l := ls.map Value.ref) (fun j => made s.heap.objs.size j) (fun j s' => ∃ h', s' = { s with heap := h' } ∧ h'.objs.size = s.heap.objs.size + j ∧ (∀ (i : Nat) (l : Addr), i < j → ls[i]? = some l → h'.IsListIter (s.heap.objs.size + i) l 0) ∧ ∀ c o, s.heap.get? c = some o → h'.get? c = some o) ?_ ?_ _ 0 _ rfl (Nat.zero_le _) ⟨s.heap, rfl, rfl, fun i l h => absurd h (Nat.not_lt_zero i), fun c o e => e⟩
  · rintro j v s' hj ⟨h1, rfl, z1, i1, k1⟩
    rw [List.getElem?_map] at hj
    obtain ⟨l, hlj, rfl⟩ := Option.map_eq_some_iff.mp hj
    obtain ⟨items, ⟨ol, hol, hc, hd⟩⟩ := hl l (List.mem_of_getElem? hlj)
    refine wpAny_bind (wpAny_holding (wpAny_pyIter_list (s := { s with heap := h1 }) ⟨ol, k1 _ _ hol, hc, hd⟩ ?_))
    refine wpAny_pure ⟨?_, _, rfl, ?_, ?_, ?_⟩
    · show ForInStep.yield ((made s.heap.objs.size j).push (.ref h1.objs.size)) = .yield (made s.heap.objs.size (j + 1))
      rw [z1]
      unfold made
      rw [List.range_succ, List.map_append]
      simp
    · show (h1.push _).objs.size = _
      rw [Heap.size_push, z1]
      omega
    · intro i l2 hi hl2
      by_cases e : i = j
      · subst e
        rw [hlj] at hl2
        cases hl2
        rw [← z1]
        exact ⟨_, Heap.get?_push_size _ rfl, rfl, rfl⟩
      · obtain ⟨o, a1, a2⟩ := i1 i l2 (by omega) hl2
        exact ⟨o, Heap.get?_push_of_some _ a1, a2⟩
    · intro c o e
      exact Heap.get?_push_of_some _ (k1 c o e)
  · rintro s' ⟨h1, rfl, z1, i1, k1⟩
    rw [List.length_map] at z1 i1 ⊢
    refine wpAny_pure (hQ h1 z1 (fun i l h => i1 i l (List.getElem?_eq_some_iff.mp h).1 h) k1)
set_option maxHeartbeats 1600000 in
theorem new_zip {ls : List Addr} (h8 : ls.length ≤ 8) : Meets (Builtin.«zip.__new__» ⟨.type "zip" :: ls.map Value.ref, []⟩) (fun _ R s => (∀ l ∈ ls, ∃ items, s.heap.IsList l items) ∧
      ∀ h', ZipAt h' (s.heap.objs.size + ls.length + 2) (s.heap.objs.size + ls.length) (s.heap.objs.size + ls.length + 1) .none false → TupAt h' (s.heap.objs.size + ls.length) (made s.heap.objs.size ls.length) → (∃ vs, TupAt h' (s.heap.objs.size + ls.length + 1) vs ∧ vs.size = ls.length) →
        (∀ (i : Nat) (l : Addr), ls[i]? = some l → h'.IsListIter (s.heap.objs.size + i) l 0) → h'.objs.size = s.heap.objs.size + ls.length + 3 → (∀ c o, s.heap.get? c = some o → h'.get? c = some o) →
        R (.ok (.ret (.ref (s.heap.objs.size + ls.length + 2)))) { s with heap := h' }) :=
  .of_wp fun prog w A R s h => by
    obtain ⟨hl, h⟩ := h
    have hsub := sub_zip
    unfold Builtin.«zip.__new__»
    generalize hI : Builtin.SmallTypes.iterAll = IA
    wp_walk
    subst hI
    refine iters hl fun h1 z1 i1 k1 => ?_
    have ml : (made s.heap.objs.size ls.length).toList.length = ls.length := by
      unfold made
      simp
    have b1 : (made s.heap.objs.size ls.length).toList.length ≤ sizeLine := by
      rw [ml]
      exact Nat.le_trans h8 (by decide)
    refine wpAny_bind (wpAny_newTuple ?_ b1)
    refine wpAny_bind (wpAny_newTuple ?_ (by rw [List.length_map]; exact b1))
    refine wpAny_bind ?_
    unfold Builtin.SmallTypes.newRecord
    refine wpAny_newObj_type ?_ (by unfold Builtin.SmallTypes.ownedTupleFields; first | size_fits | (simp [sizeOk]; done) | (unfold sizeOk; simp))
    refine wpAny_pure ⟨_, rfl, ?_⟩
    have e2 : (h1.push { cls := .type "tuple", data := .seq (made s.heap.objs.size ls.length).toList.toArray }).objs.size = s.heap.objs.size + ls.length + 1 := by rw [Heap.size_push, z1]
    have t2 : (h1.push { cls := .type "tuple", data := .seq (made s.heap.objs.size ls.length).toList.toArray }).get? h1.objs.size = some { cls := .type "tuple", data := .seq (made s.heap.objs.size ls.length) } := Heap.get?_push_size _ rfl
    rw [z1] at t2
    have k2 : ∀ c o, s.heap.get? c = some o → (h1.push { cls := .type "tuple", data := .seq (made s.heap.objs.size ls.length).toList.toArray }).get? c = some o := fun c o e => Heap.get?_push_of_some _ (k1 c o e)
    have i2 : ∀ (i : Nat) (l : Addr), ls[i]? = some l → (h1.push { cls := .type "tuple", data := .seq (made s.heap.objs.size ls.length).toList.toArray }).IsListIter (s.heap.objs.size + i) l 0 := fun i l e => by
      obtain ⟨o, a1, a2⟩ := i1 i l e
      exact ⟨o, Heap.get?_push_of_some _ a1, a2⟩
    show R (.ok (.ret (.ref ((h1.push { cls := .type "tuple", data := .seq (made s.heap.objs.size ls.length).toList.toArray }).push { cls := .type "tuple", data := .seq ((made s.heap.objs.size ls.length).toList.map fun _ => Value.none).toArray }).objs.size))) { s with heap := ((h1.push { cls := .type "tuple", data := .seq (made s.heap.objs.size ls.length).toList.toArray }).push { cls := .type "tuple", data := .seq ((made s.heap.objs.size ls.length).toList.map fun _ => Value.none).toArray }).push { cls := .type "zip", data := .fields #[.none, .bool false, .bool false, .ref h1.objs.size, .ref (h1.push { cls := .type "tuple", data := .seq (made s.heap.objs.size ls.length).toList.toArray }).objs.size] } }
    rw [z1]
    generalize h1.push { cls := .type "tuple", data := .seq (made s.heap.objs.size ls.length).toList.toArray } = h2 at *
    have e3 : (h2.push { cls := .type "tuple", data := .seq ((made s.heap.objs.size ls.length).toList.map fun _ => Value.none).toArray }).objs.size = s.heap.objs.size + ls.length + 2 := by rw [Heap.size_push, e2]
    have t3 : (h2.push { cls := .type "tuple", data := .seq ((made s.heap.objs.size ls.length).toList.map fun _ => Value.none).toArray }).get? h2.objs.size = some { cls := .type "tuple", data := .seq ((made s.heap.objs.size ls.length).toList.map fun _ => Value.none).toArray } := Heap.get?_push_size _ rfl
    rw [e2] at t3
    rw [e2]
    have k3 : ∀ c o, h2.get? c = some o → (h2.push { cls := .type "tuple", data := .seq ((made s.heap.objs.size ls.length).toList.map fun _ => Value.none).toArray }).get? c = some o := fun c o e => Heap.get?_push_of_some _ e
    generalize h2.push { cls := .type "tuple", data := .seq ((made s.heap.objs.size ls.length).toList.map fun _ => Value.none).toArray } = h3 at *
    have z4 : (h3.push { cls := .type "zip", data := .fields #[.none, .bool false, .bool false, .ref (s.heap.objs.size + ls.length), .ref (s.heap.objs.size + ls.length + 1)] }).get? h3.objs.size = some { cls := .type "zip", data := .fields #[.none, .bool false, .bool false, .ref (s.heap.objs.size + ls.length), .ref (s.heap.objs.size + ls.length + 1)] } := Heap.get?_push_size _ rfl
    rw [e3] at z4
    rw [e3]
    refine h _ z4 (Heap.get?_push_of_some _ (k3 _ _ t2)) ⟨_, Heap.get?_push_of_some _ t3, ?_⟩ (fun i l e => ?_) (by rw [Heap.size_push, e3]) fun c o e => Heap.get?_push_of_some _ (k3 _ _ (k2 c o e))
    · rw [List.size_toArray, List.length_map, ml]
    · obtain ⟨o, a1, a2⟩ := i2 i l e
      exact ⟨o, Heap.get?_push_of_some _ (k3 _ _ a1), a2⟩
/-- zip(*rows) -/
theorem call_zip {ls : List Addr} {Q : Value → Shared → Prop} (hn : ls ≠ []) (h8 : ls.length ≤ 8) (hl : ∀ l ∈ ls, ∃ items, s.heap.IsList l items)
    (h : ∀ h', ZipAt h' (s.heap.objs.size + ls.length + 2) (s.heap.objs.size + ls.length) (s.heap.objs.size + ls.length + 1) .none false → TupAt h' (s.heap.objs.size + ls.length) (made s.heap.objs.size ls.length) → (∃ vs, TupAt h' (s.heap.objs.size + ls.length + 1) vs ∧ vs.size = ls.length) →
        (∀ (i : Nat) (l : Addr), ls[i]? = some l → h'.IsListIter (s.heap.objs.size + i) l 0) → h'.objs.size = s.heap.objs.size + ls.length + 3 → (∀ c o, s.heap.get? c = some o → h'.get? c = some o) →
        Q (.ref (s.heap.objs.size + ls.length + 2)) { s with heap := h' }) : wpAny (model prog w) A (call (.type "zip") (ls.map Value.ref)) Q E s := by
  have h1 : ls.map Value.ref ≠ [] := by simpa using hn
  have h2 : (ls.map Value.ref).length ≤ 8 := by rw [List.length_map]; exact h8
  refine callType_new F.called_zip (by decide) (tc_zip h1 h2) (tn_zip h1 h2) (fun obj => ti_zip h1 h2) F.entry_zip_new (new_zip h8) ⟨hl, fun h' a b c d e f => ?_⟩
  exact ⟨⟨_, a, rfl⟩, h h' a b c d e f⟩
end
end ZN
set_option Elab.async false
set_option linter.all false
set_option maxRecDepth 100000
namespace ZN
open PySem
theorem zip_no_len : typeLookup (.type "zip") "__len__" = pure none := by rw [typeLookup_type, builtinLookup_eq_fast]; kernel_rfl
theorem zip_no_hint : typeLookup (.type "zip") "__length_hint__" = pure none := by rw [typeLookup_type, builtinLookup_eq_fast]; kernel_rfl
/-- what is asked of the rows and the columns -/
structure Tab (qs : List Rw) (cols : List (List Value)) : Prop where
  n1 : qs ≠ []
  n64 : qs.length ≤ 64
  m1 : 1 ≤ cols.length
  m64 : cols.length ≤ 64
  col : ∀ (i : Nat) (xs : List Value), cols[i]? = some xs → Col qs i xs
  fin : ∀ q ∈ qs, q.2.2[cols.length]? = none
section
variable {prog : Program} {w : World} {A : Around} {R : Result → Shared → Prop} {s0 : Shared} {g : Heap} {S z TI TO : Addr} {qs : List Rw} {cols : List (List Value)}
set_option maxHeartbeats 3200000 in
theorem extend (hh : A.handled = none) (Ap : Apart z TI TO qs) (L : Low g S z TI TO qs) (t : Tab qs cols) {h : Heap} {c0 : Nat} (hS : h.get? S = some { cls := .type "list", data := .seq #[] c0 }) (hz : ZipAt h z TI TO .none false) (hO : ∃ vs, TupAt h TO vs ∧ vs.size = qs.length) (hI : TupAt h TI (refs qs)) (hR : Rws h qs 0 0)
    (out : ∀ a o, Out z TO qs a → a ≠ S → g.get? a = some o → h.get? a = some o) (sz : g.objs.size ≤ h.objs.size)
    (fin : ∀ h' Ts, LI g S z TI TO qs cols h' cols.length Ts → ∀ h2, (∀ a o, Out z TO qs a → h'.get? a = some o → h2.get? a = some o) → R (.ok (.ret .none)) { s0 with heap := h2 }) :
    wpAny (model prog w) A.in1 (Builtin.List.listExtendWith (.ref S) (.ref z) .none) (fun fin s' => match fin with | .done f => R (.ok f) s' | .again c' => c'.quiet = true ∧ codeAny (model prog w) A c' R s') (fun e s' => R (.error e) s') { s0 with heap := h } := by
  have ty : Shared.TypeIs { s0 with heap := h } (.ref z) "zip" := ⟨_, hz, rfl⟩
  unfold Builtin.List.listExtendWith
  refine wpAny_bind (wpAny_typeOf ty ?_)
  have d1 : Builtin.List.listSameRef (.ref S) (.ref z) = false := by simp [Builtin.List.listSameRef, L.Sz]
  have d2 : (Value.type "zip" == Value.type "list") = false := by decide
  have d3 : (Value.type "zip" == Value.type "tuple") = false := by decide
  simp only [d1, d2, d3, Bool.or_false, Bool.false_eq_true, if_false]
  refine wpAny_bind (wpAny_pyIter_zip (s := { s0 with heap := h }) hz ?_)
  refine wpAny_bind (wpAny_holding ?_)
  unfold Builtin.List.listLengthHint
  refine wpAny_bind (wpAny_specialOf ty zip_no_len ?_)
  show wpAny _ A.in1 (specialOf (Value.ref z) (Str.ofString "__length_hint__") >>= _) _ _ _
  refine wpAny_bind (wpAny_specialOf ty zip_no_hint (wpAny_pure ?_))
  show wpAny _ A.in1 (rule "list.extend.makes-room" >>= fun _ => Builtin.List.listTouch (.ref S) >>= fun _ => again (.builtin "list.extend.loop" ⟨[.ref S, .ref z, .none], []⟩)) _ _ _
  refine wpAny_bind (wpAny_rule (wpAny_bind ?_))
  show wpAny _ A.in1 (updateSeq S (·.push .none) >>= fun _ => updateSeq S (·.pop)) _ _ _
  refine wpAny_bind (wpAny_updateSeq (s := { s0 with heap := h }) hS rfl ?_)
  have hS2 := Heap.get?_update_self (Obj.mapSeq (·.push Value.none)) hS rfl
  refine wpAny_updateSeq (hz := by seq_fits) hS2 rfl ?_
  have hS3 := Heap.get?_update_self (Obj.mapSeq (·.pop)) hS2 rfl
  have oth : ∀ b o, b ≠ S → h.get? b = some o → ((h.update S (Obj.mapSeq (·.push Value.none))).update S (Obj.mapSeq (·.pop))).get? b = some o := fun b o hb e => (Heap.get?_update_other _ _ (Ne.symm hb)).trans ((Heap.get?_update_other _ _ (Ne.symm hb)).trans e)
  have usz : ((h.update S (Obj.mapSeq (·.push Value.none))).update S (Obj.mapSeq (·.pop))).objs.size = h.objs.size := ((Heap.SameBut.update (h := h.update S (Obj.mapSeq (·.push Value.none))) (a := S) (f := Obj.mapSeq (·.pop))).1).trans (Heap.SameBut.update (h := h) (a := S) (f := Obj.mapSeq (·.push Value.none))).1
  refine wpAny_pure ⟨plainId_quiet F.plain_extend_loop _, ?_⟩
  refine fill_loop hh Ap L t.n1 t.n64 t.m64 t.m1 t.col t.fin .none fin cols.length 0 _ [] rfl (Nat.zero_le _) ?_
  obtain ⟨vs, o1, o2⟩ := hO
  refine ⟨⟨_, hS3⟩, rfl, fun j T xs hT => (by cases hT), fun T hT => (by cases hT), List.nodup_nil, .inl ⟨rfl, oth _ _ (Ne.symm L.Sz) hz, vs, oth _ _ (Ne.symm L.SO) o1, o2⟩, oth _ _ (Ne.symm L.ST) hI, ?_, fun a o ha hs e => oth _ _ hs (out a o ha hs e), by rw [usz]; exact sz⟩
  exact hR.ext (fun p mp o e => oth _ _ (Ne.symm (L.S1 p mp)) e) fun p mp o e => oth _ _ (Ne.symm (L.S2 p mp)) e
end
section
variable {prog : Program} {w : World} {A : Around} {E : Value → Shared → Prop} {s : Shared} {z TI TO : Addr} {qs : List Rw} {cols : List (List Value)}
set_option maxHeartbeats 3200000 in
theorem call_list {Q : Value → Shared → Prop} (hh : A.handled = none) (Ap : Apart z TI TO qs) (t : Tab qs cols) (hz : ZipAt s.heap z TI TO .none false) (hO : ∃ vs, TupAt s.heap TO vs ∧ vs.size = qs.length) (hI : TupAt s.heap TI (refs qs)) (hR : Rws s.heap qs 0 0)
    (hQ : ∀ (h' : Heap) (Ts : List Addr) (c : Nat), h'.get? s.heap.objs.size = some { cls := .type "list", dict := none, data := .seq (Ts.map Value.ref).toArray c, slots := #[] } → Ts.length = cols.length → (∀ (j : Nat) (T : Addr) (xs : List Value), Ts[j]? = some T → cols[j]? = some xs → TupAt h' T xs.toArray) →
      (∀ T ∈ Ts, s.heap.objs.size < T) → Ts.Nodup → (∀ a o, Out z TO qs a → s.heap.get? a = some o → h'.get? a = some o) → Q (.ref s.heap.objs.size) { s with heap := h' }) :
    wpAny (model prog w) A (call (.type "list") [.ref z]) Q E s := by
  have lt : ∀ {a o}, s.heap.get? a = some o → a < s.heap.objs.size := fun e => Heap.lt_size e
  obtain ⟨vs, o1, o2⟩ := hO
  have q1 : ∀ q ∈ qs, q.1 < s.heap.objs.size ∧ q.2.1 < s.heap.objs.size := fun q mq => by
    obtain ⟨i, hi, e⟩ := List.getElem_of_mem mq
    obtain ⟨⟨o, a1, _⟩, ⟨ol, b1, _⟩⟩ := hR i q (by rw [List.getElem?_eq_getElem hi, e])
    exact ⟨lt a1, lt b1⟩
  have L : Low s.heap s.heap.objs.size z TI TO qs := ⟨lt hz, lt hI, lt o1, fun q mq => (q1 q mq).1, Nat.ne_of_gt (lt hz), Nat.ne_of_gt (lt hI), Nat.ne_of_gt (lt o1), fun q mq => Nat.ne_of_gt (q1 q mq).1, fun q mq => Nat.ne_of_gt (q1 q mq).2⟩
  refine callType_codes (Q₁ := fun obj s₁ => obj = .ref s.heap.objs.size ∧ s₁ = { s with heap := s.heap.push { cls := .type "list", data := .seq #[] } }) F.called_list (F.typeCall_list_1 _) F.entry_list_init (code_list_new _ ⟨rfl, rfl⟩) fun obj s1 e1 => ?_
  obtain ⟨rfl, rfl⟩ := e1
  have hS : (s.heap.push { cls := .type "list", data := .seq #[] }).get? s.heap.objs.size = some { cls := .type "list", data := .seq #[] } := Heap.get?_push_size _ rfl
  have up : ∀ b o, s.heap.get? b = some o → (s.heap.push { cls := .type "list", data := .seq #[] }).get? b = some o := fun b o e => Heap.get?_push_of_some _ e
  have s1 : s.heap.objs.size ≤ (s.heap.push { cls := .type "list", data := .seq #[] }).objs.size := by
    rw [Heap.size_push]
    exact Nat.le_succ _
  refine ⟨⟨_, hS, rfl⟩, F.args_list_init_2 _ _, ?_⟩
  generalize s.heap.push { cls := .type "list", data := .seq #[] } = h1 at *
  show wpAny _ A.in1.in1 (do let old ← Builtin.List.listItems (.ref s.heap.objs.size); Builtin.List.listUpdate (.ref s.heap.objs.size) (fun _ => #[]); letGo old.toList.reverse; Builtin.List.listExtendWith (.ref s.heap.objs.size) (.ref z) .none) _ _ _
  refine wpAny_bind ?_
  unfold Builtin.List.listItems
  refine wpAny_bind (wpAny_seqItems (s := { s with heap := h1 }) hS rfl (wpAny_pure ?_))
  show wpAny _ A.in1.in1 (updateSeq s.heap.objs.size (fun _ => #[]) >>= fun _ => letGo (#[] : Array Value).toList.reverse >>= fun _ => Builtin.List.listExtendWith (.ref s.heap.objs.size) (.ref z) .none) _ _ _
  refine wpAny_bind (wpAny_updateSeq (s := { s with heap := h1 }) hS rfl ?_)
  have hS2 := Heap.get?_update_self (Obj.mapSeq (fun _ => (#[] : Array Value))) hS rfl
  have oth : ∀ b o, b ≠ s.heap.objs.size → h1.get? b = some o → (h1.update s.heap.objs.size (Obj.mapSeq (fun _ => (#[] : Array Value)))).get? b = some o := fun b o hb e => (Heap.get?_update_other _ _ (Ne.symm hb)).trans e
  have usz : (h1.update s.heap.objs.size (Obj.mapSeq (fun _ => (#[] : Array Value)))).objs.size = h1.objs.size := (Heap.SameBut.update (h := h1) (a := s.heap.objs.size) (f := Obj.mapSeq (fun _ => (#[] : Array Value)))).1
  refine wpAny_bind (wpAny_letGo ?_)
  refine extend (A := A.in1) (s0 := s) hh Ap L t hS2 (oth _ _ (Ne.symm L.Sz) (up _ _ hz)) ⟨vs, oth _ _ (Ne.symm L.SO) (up _ _ o1), o2⟩ (oth _ _ (Ne.symm L.ST) (up _ _ hI)) ?_ (fun a o ha hs e => oth _ _ hs (up _ _ e)) (by rw [usz]; exact s1) fun h' Ts li h2 k2 => ?_
  · exact hR.ext (fun p mp o e => oth _ _ (Ne.symm (L.S1 p mp)) (up _ _ e)) fun p mp o e => oth _ _ (Ne.symm (L.S2 p mp)) (up _ _ e)
  · have SO : Out z TO qs s.heap.objs.size := ⟨L.Sz, L.SO, L.S1⟩
    obtain ⟨c, e⟩ := li.ls
    refine ⟨rfl, hQ h2 Ts c (k2 _ _ SO e) li.len (fun j T xs hT hx => ?_) (fun T hT => ?_) li.nd fun a o ha e => ?_⟩
    · exact k2 _ _ (L.out (li.new T (List.mem_of_getElem? hT)).1) (li.tup j T xs hT hx)
    · obtain ⟨n1, _, n3⟩ := li.new T hT
      exact Nat.lt_of_le_of_ne n1 (Ne.symm n3)
    · have hs : a ≠ s.heap.objs.size := Nat.ne_of_lt (lt e)
      exact k2 _ _ ha (li.out a o ha hs e)
end
end ZN
set_option Elab.async false
set_option linter.all false
set_option maxRecDepth 100000
/-! list(zip(*rows)) -/
namespace ZN
open PySem PySem.Spec PyProof.Rows L2
/-! ### several new objects, tracked at once -/
section
variable {X : Cx} {pins : List (Addr × Obj)} {σ : L2.St} {H H2 : Hp} {s : Shared} {h' : Heap}
theorem un_all {fs ex : List Addr} {g : Heap} (k : ∀ b u, g.get? b = some u → h'.get? b = some u) (sm : ∀ b o, H b = some o → H2 b = some o) (hi : ∀ b o, H b = none → H2 b = some o → g.objs.size ≤ b) : Un fs ex H H2 g h' where
  keep := fun b u q _ _ _ => k b u q
  slot := fun b u q _ _ _ => ⟨u.slots, k b u q⟩
  free := fun b u q n _ => by
    cases e : H2 b with
    | none => rfl
    | some o => exact absurd (hi b o n e) (Nat.not_le_of_lt (Heap.lt_size q))
  there := fun b u q _ => ⟨u, k b u q⟩
  tups := fun b xs q => sm _ _ q
  frzs := fun b u xs q => sm _ _ q
  tbls := fun b ps q => ⟨#[], by rw [sm _ _ q]; simp⟩
theorem hok_all {P : Program} {w : World} {g : Heap} (x : HOk P w H g) (k : ∀ b u, g.get? b = some u → h'.get? b = some u) (sm : ∀ b o, H b = some o → H2 b = some o) (new : ∀ b o, H b = none → H2 b = some o → ObjOk P w H2 h' b o) : HOk P w H2 h' := fun b o e => by
  cases q : H b with
  | none => exact new b o q e
  | some u =>
    have : u = o := by
      have := sm _ _ q
      rw [e] at this
      exact (Option.some.inj this).symm
    subst this
    exact (x b u q).stay (fun c v _ z => k c v z) (fun c z => sm _ _ z) fun c xs z => sm _ _ z
theorem laidAll (I : Inv X pins σ H s) (k : ∀ b u, s.heap.get? b = some u → h'.get? b = some u) (sm : ∀ b o, H b = some o → H2 b = some o) (hi : ∀ b o, H b = none → H2 b = some o → s.heap.objs.size ≤ b) (new : ∀ b o, H b = none → H2 b = some o → ObjOk X.prog X.w H2 h' b o) : Inv X pins σ H2 { s with heap := h' } :=
  I.call (ch := []) (g' := s.gens) (t' := s.toks) (d' := s.drawn) (un_all k sm hi) (hok_all I.hok k sm new) I.bare fun _ z => nomatch z
end
/-! ### lists of rows -/
def mkq : Nat → List Addr → List (Array Value) → List Rw
  | n, l :: ls, a :: as => (n, l, a) :: mkq (n + 1) ls as
  | _, _, _ => []
theorem mkq_len : ∀ (n : Nat) (ls : List Addr) (as : List (Array Value)), as.length = ls.length → (mkq n ls as).length = ls.length
  | _, [], [], _ => rfl
  | n, l :: ls, a :: as, h => by
    show (mkq (n + 1) ls as).length + 1 = ls.length + 1
    rw [mkq_len (n + 1) ls as (by simpa using h)]
theorem mkq_at : ∀ (n : Nat) (ls : List Addr) (as : List (Array Value)) (i : Nat) (q : Rw), (mkq n ls as)[i]? = some q → @Eq Nat q.1 (n + i) ∧ ls[i]? = some q.2.1 ∧ as[i]? = some q.2.2
  | n, l :: ls, a :: as, 0, q, h => by
    have := Option.some.inj h
    rw [← this]
    exact ⟨rfl, rfl, rfl⟩
  | n, l :: ls, a :: as, i + 1, q, h => by
    obtain ⟨h1, h2, h3⟩ := mkq_at (n + 1) ls as i q h
    exact ⟨h1.trans (by rw [Nat.add_assoc, Nat.add_comm 1 i]), h2, h3⟩
  | _, [], _, _, _, h => by simp [mkq] at h
  | _, _ :: _, [], _, _, h => by simp [mkq] at h
theorem refs_mkq (n : Nat) (ls : List Addr) (as : List (Array Value)) (h : as.length = ls.length) : refs (mkq n ls as) = made n ls.length := by
  unfold refs made
  congr 1
  apply List.ext_getElem?
  intro i
  rw [List.getElem?_map, List.getElem?_map]
  by_cases hi : i < ls.length
  · obtain ⟨q, hq⟩ : ∃ q, (mkq n ls as)[i]? = some q := ⟨_, List.getElem?_eq_getElem (by rw [mkq_len n ls as h]; exact hi)⟩
    rw [hq, List.getElem?_range hi]
    show some (Value.ref q.1) = some (Value.ref (n + i))
    rw [(mkq_at n ls as i q hq).1]
  · rw [List.getElem?_eq_none (by rw [mkq_len n ls as h]; omega), List.getElem?_eq_none (by rw [List.length_range]; omega)]
    rfl
/-- the rows' items, as they stand in the heap -/
theorem arrs {X : Cx} {pins : List (Addr × Obj)} {σ : L2.St} {H : Hp} {s : Shared} (I : Inv X pins σ H s) : ∀ (ls : List Addr) (rows : List (List V)), rows.length = ls.length → (∀ (i : Nat) (l : Addr) (r : List V), ls[i]? = some l → rows[i]? = some r → SqL X.K H l r) →
    ∃ as : List (Array Value), as.length = ls.length ∧ ∀ (i : Nat) (l : Addr) (r : List V) (a : Array Value), ls[i]? = some l → rows[i]? = some r → as[i]? = some a → s.heap.IsList l a ∧ Vals r a.toList
  | [], [], _, _ => ⟨[], rfl, fun i l r a h => by cases h⟩
  | l :: ls, r :: rows, h, hs => by
    obtain ⟨as, e, k⟩ := arrs I ls rows (by simpa using h) fun i l r h1 h2 => hs (i + 1) l r h1 h2
    obtain ⟨its, rv, pl, _⟩ := I.list (hs 0 l r rfl rfl)
    refine ⟨its.toArray :: as, by simp [e], fun i l2 r2 a h1 h2 h3 => ?_⟩
    cases i with
    | zero =>
      cases h1
      cases h2
      cases h3
      exact ⟨pl.isList, by simpa using rv⟩
    | succ i => exact k i l2 r2 a h1 h2 h3
theorem vals_refs : ∀ (ls : List Addr) (us : List Value), Vals (ls.map V.ref) us → us = ls.map Value.ref
  | [], us, h => by
    cases h
    rfl
  | l :: ls, us, h => by
    cases h with
    | cons h1 h2 =>
      have e1 : _ = Value.ref l := h1
      rw [e1, vals_refs ls _ h2]
      rfl
theorem vals_of : ∀ (xs : List V) (us : List Value), xs.length = us.length → (∀ (i : Nat) (x : V) (u : Value), xs[i]? = some x → us[i]? = some u → RelV x u) → Vals xs us
  | [], [], _, _ => .nil
  | x :: xs, u :: us, h, k => .cons (k 0 x u rfl rfl) (vals_of xs us (by simpa using h) fun i y v h1 h2 => k (i + 1) y v h1 h2)
theorem vals_get {r : List V} {us : List Value} (h : Vals r us) : ∀ (k : Nat) (x : V), r[k]? = some x → ∃ u, us[k]? = some u ∧ RelV x u := by
  induction h with
  | nil =>
    intro k x e
    cases e
  | cons h1 h2 ih =>
    intro k x e
    cases k with
    | zero =>
      cases e
      exact ⟨_, rfl, h1⟩
    | succ k => exact ih k x e
def tZipS (K : PySem.W.Frag) (te : TE) : TE := fun σ H Q => te σ H fun x H1 => ∃ (a : Addr) (ls : List Addr) (rows : List (List V)) (m : Nat), x = .ref a ∧ SqL K H1 a (ls.map V.ref) ∧ rows.length = ls.length ∧ (∀ (i : Nat) (l : Addr) (r : List V), ls[i]? = some l → rows[i]? = some r → SqL K H1 l r) ∧ (∀ r ∈ rows, r.length = m) ∧
  ls ≠ [] ∧ ls.length ≤ 8 ∧ 1 ≤ m ∧ m ≤ 64 ∧ ∀ (p : Addr) (Ts : List Addr) (H2 : Hp), (∀ b o, H1 b = some o → H2 b = some o) → H1 p = none → H2 p = some (.lst (Ts.map V.ref)) → Ts.length = m → (∀ (j : Nat) (T : Addr), Ts[j]? = some T → H1 T = none ∧ H2 T = some (.tup (rows.map fun r => r.getD j .non))) → Q (.ref p) H2
/-- H with new objects -/
def putAll (H : Hp) (p : Addr) (o : HO) (ks : List (Addr × HO)) : Hp := fun b => if b = p then some o else match ks.lookup b with | some u => some u | none => H b
theorem lookup_zip : ∀ (Ts : List Addr) (os : List HO) (j : Nat) (T : Addr) (o : HO), Ts.Nodup → Ts[j]? = some T → os[j]? = some o → (Ts.zip os).lookup T = some o
  | t :: Ts, u :: os, 0, T, o, nd, h1, h2 => by
    cases h1
    cases h2
    simp
  | t :: Ts, u :: os, j + 1, T, o, nd, h1, h2 => by
    have ne : T ≠ t := fun z => (List.nodup_cons.mp nd).1 (z ▸ List.mem_of_getElem? h1)
    show (match T == t with | true => some u | false => (Ts.zip os).lookup T) = some o
    rw [beq_eq_false_iff_ne.mpr ne]
    exact lookup_zip Ts os j T o (List.nodup_cons.mp nd).2 h1 h2
theorem lookup_in : ∀ (Ts : List Addr) (os : List HO) (b : Addr) (o : HO), (Ts.zip os).lookup b = some o → ∃ j : Nat, Ts[j]? = some b ∧ os[j]? = some o
  | [], _, b, o, h => by simp at h
  | _ :: _, [], b, o, h => by simp at h
  | t :: Ts, u :: os, b, o, h => by
    have h : (match b == t with | true => some u | false => (Ts.zip os).lookup b) = some o := h
    cases e : b == t with
    | true =>
      rw [e] at h
      cases h
      exact ⟨0, by rw [eq_of_beq e]; rfl, rfl⟩
    | false =>
      rw [e] at h
      obtain ⟨j, h1, h2⟩ := lookup_in Ts os b o h
      exact ⟨j + 1, h1, h2⟩
section
variable {X : Cx} {e : Expr} {te : TE} {p1 p2 p3 p4 p5 : Pos}
set_option maxHeartbeats 6400000 in
theorem pe_listZip (hc : X.calm = true) (hgl : Gl X "list") (hml : X.mg "list" = none) (hgz : Gl X "zip") (hmz : X.mg "zip" = none) (he : PE X e te)
    (h1 : starEach [.Call (.Name "zip" p2) [.Starred e p3] [] p4] X.env = [(false, eval (.Call (.Name "zip" p2) [.Starred e p3] [] p4) X.env)] := by rfl) (h2 : starEach [.Starred e p3] X.env = [(true, eval e X.env)] := by rfl) :
    PE X (.Call (.Name "list" p1) [.Call (.Name "zip" p2) [.Starred e p3] [] p4] [] p5) (tZipS X.K te) := by
  refine ⟨fun pins s σ H Q I h => ?_⟩
  refine wpAny_Call_Name_kw (ld_blt I hgl hml (u := .type "list") (by decide +kernel) ?_)
  refine PyProof.Rows.callWith_type1 ?_ h1 rfl
  rw [h1]
  show wpAny _ _ (spliced ((false, eval (.Call (.Name "zip" p2) [.Starred e p3] [] p4) X.env) :: backTo p5 (starEach [] X.env))) _ _ s
  refine Calls.spliced_cons ?_
  refine wpAny_Call_Name_kw (ld_blt I hgz hmz (u := .type "zip") (by decide +kernel) ?_)
  rw [h2]
  refine PySem.W.ks_call (P := fun _ => True) rfl (fun _ _ => ⟨.machine, .inr (.inl rfl), PySem.W.Looks.of_pure rfl⟩) (PySem.W.ks_lone ?_)
  refine thn (he.run pins s σ H _ I h) fun v s1 hv => ?_
  obtain ⟨y, H1, I1, ry, a, ls, rows, m, ey, hx, rl, rs, rm, n0, n8, m1, m64, q⟩ := hv
  subst ey
  obtain rfl : v = Value.ref a := ry
  refine StX.star_any I1 (.inr hx) fun us s2 I2 rv => ⟨True.intro, ?_⟩
  rw [vals_refs ls us rv]
  show wpAny _ _ (call (.type "zip") (ls.map Value.ref)) _ _ s2
  obtain ⟨as, al, ai⟩ := arrs I2 ls rows rl rs
  have rat : ∀ (i : Nat) (l : Addr), ls[i]? = some l → ∃ r a, rows[i]? = some r ∧ as[i]? = some a := fun i l hl => by
    have hi := (List.getElem?_eq_some_iff.mp hl).1
    exact ⟨_, _, List.getElem?_eq_getElem (by omega), List.getElem?_eq_getElem (by omega)⟩
  refine call_zip n0 n8 (fun l hl => ?_) fun h' zz zI zO it sz k => ?_
  · obtain ⟨i, hi, e⟩ := List.getElem_of_mem hl
    obtain ⟨r, a2, hr, ha⟩ := rat i l (by rw [List.getElem?_eq_getElem hi, e])
    exact ⟨_, (ai i l r a2 (by rw [List.getElem?_eq_getElem hi, e]) hr ha).1⟩
  -- the list of it
  refine PyProof.Rows.spliced_none ?_
  have hq : ∀ (i : Nat) (q : Rw), (mkq s2.heap.objs.size ls as)[i]? = some q → @Eq Nat q.1 (s2.heap.objs.size + i) ∧ ls[i]? = some q.2.1 ∧ as[i]? = some q.2.2 := mkq_at _ ls as
  have low : ∀ l ∈ ls, l < s2.heap.objs.size := fun l hl => by
    obtain ⟨i, hi, e⟩ := List.getElem_of_mem hl
    have e2 : ls[i]? = some l := by rw [List.getElem?_eq_getElem hi, e]
    obtain ⟨r, a2, hr, ha⟩ := rat i l e2
    obtain ⟨o, ho, _⟩ := (ai i l r a2 e2 hr ha).1
    exact Heap.lt_size ho
  have qm : ∀ q ∈ mkq s2.heap.objs.size ls as, ∃ i : Nat, i < ls.length ∧ @Eq Nat q.1 (s2.heap.objs.size + i) ∧ @LT.lt Nat _ q.2.1 s2.heap.objs.size := fun q mq => by
    obtain ⟨i, hi, e⟩ := List.getElem_of_mem mq
    obtain ⟨e1, e2, e3⟩ := hq i q (by rw [List.getElem?_eq_getElem hi, e])
    exact ⟨i, (List.getElem?_eq_some_iff.mp e2).1, e1, low _ (List.mem_of_getElem? e2)⟩
  have Ap : Apart (s2.heap.objs.size + ls.length + 2) (s2.heap.objs.size + ls.length) (s2.heap.objs.size + ls.length + 1) (mkq s2.heap.objs.size ls as) := by
    refine ⟨by change @Ne Nat _ _; omega, by change @Ne Nat _ _; omega, by change @Ne Nat _ _; omega, fun q mq => ?_, fun q mq => ?_, fun i j p q hp hq2 ne => ?_, fun p mp q mq => ?_⟩
    · obtain ⟨i, i1, i2, i3⟩ := qm q mq
      refine ⟨?_, ?_, ?_⟩ <;> (change @Ne Nat _ _; omega)
    · obtain ⟨i, i1, i2, i3⟩ := qm q mq
      refine ⟨?_, ?_⟩ <;> (change @Ne Nat _ _; omega)
    · have a1 := (hq i p hp).1
      have a2 := (hq j q hq2).1
      change @Ne Nat _ _
      omega
    · obtain ⟨i, i1, i2, i3⟩ := qm p mp
      obtain ⟨j, j1, j2, j3⟩ := qm q mq
      change @Ne Nat _ _
      omega
  have vk : ∀ (i : Nat) (l : Addr) (r : List V) (a : Array Value), ls[i]? = some l → rows[i]? = some r → as[i]? = some a → Vals r a.toList ∧ a.size = m := fun i l r a2 x1 x2 x3 => by
    obtain ⟨_, v⟩ := ai i l r a2 x1 x2 x3
    refine ⟨v, ?_⟩
    have := v.length
    rw [rm r (List.mem_of_getElem? x2)] at this
    simpa using this.symm
  have asz : ∀ (i : Nat) (a : Array Value), as[i]? = some a → a.size = m := fun i a2 x3 => by
    have hi := (List.getElem?_eq_some_iff.mp x3).1
    exact (vk i _ _ a2 (List.getElem?_eq_getElem (by omega)) (List.getElem?_eq_getElem (by omega)) x3).2
  have T : Tab (mkq s2.heap.objs.size ls as) ((List.range m).map fun k => as.map fun a => a.getD k .none) := by
    refine ⟨fun z => ?_, ?_, by simp; exact m1, by simp; exact m64, fun i xs hx => ?_, fun q mq => ?_⟩
    · have := mkq_len s2.heap.objs.size ls as al
      rw [z] at this
      exact n0 (List.length_eq_zero_iff.mp this.symm)
    · rw [mkq_len _ _ _ al]
      omega
    · rw [List.getElem?_map] at hx
      obtain ⟨k2, hk2, rfl⟩ := Option.map_eq_some_iff.mp hx
      have hk : i < m := by
        have := (List.getElem?_eq_some_iff.mp hk2).1
        simpa using this
      rw [List.getElem?_range hk] at hk2
      cases hk2
      refine ⟨by rw [List.length_map, mkq_len _ _ _ al, al], fun j q x hj hx => ?_⟩
      obtain ⟨_, _, e3⟩ := hq j q hj
      rw [List.getElem?_map, e3] at hx
      have := Option.some.inj hx
      have sz2 := asz j _ e3
      rw [← this]
      simp [Array.getD, sz2, hk]
    · obtain ⟨i, hi, e⟩ := List.getElem_of_mem mq
      obtain ⟨_, _, e3⟩ := hq i q (by rw [List.getElem?_eq_getElem hi, e])
      have := asz i _ e3
      simp [this]
  have R0 : Rws h' (mkq s2.heap.objs.size ls as) 0 0 := fun i q hi => by
    obtain ⟨e1, e2, e3⟩ := hq i q hi
    obtain ⟨r, a2, hr, ha⟩ := rat i _ e2
    rw [if_neg (Nat.not_lt_zero i), e1]
    refine ⟨it i _ e2, ?_⟩
    rw [ha] at e3
    cases e3
    obtain ⟨o, ho, hh⟩ := (ai i _ r _ e2 hr ha).1
    exact ⟨o, k _ _ ho, hh⟩
  refine call_list (s := { s2 with heap := h' }) (I2.ok.hd hc) Ap T zz ?_ ?_ R0 fun h3 Ts c e1 e2 e3 e4 e5 e6 => ?_
  · obtain ⟨vs, v1, v2⟩ := zO
    exact ⟨vs, v1, by rw [v2, mkq_len _ _ _ al]⟩
  · rw [refs_mkq _ _ _ al]
    exact zI
  -- the tracked heap
  rw [List.length_map, List.length_range] at e2
  have hsz : h'.objs.size = s2.heap.objs.size + ls.length + 3 := sz
  have kk : ∀ b u, s2.heap.get? b = some u → h3.get? b = some u := fun b u eb => by
    have lt : @LT.lt Nat _ b s2.heap.objs.size := Heap.lt_size eb
    refine e6 b u ⟨by change @Ne Nat _ _; omega, by change @Ne Nat _ _; omega, fun q mq => ?_⟩ (k b u eb)
    obtain ⟨i, _, i2, _⟩ := qm q mq
    change @Ne Nat _ _
    omega
  have fresh : ∀ b, s2.heap.objs.size ≤ b → H1 b = none := fun b hb => I2.hok.fresh hb
  have nS : h'.objs.size ∉ Ts := fun z => Nat.lt_irrefl _ (e4 _ z)
  have in3 : ∀ (j : Nat) (T : Addr), Ts[j]? = some T → ∃ hj : j < m, TupAt h3 T (as.map fun a => a.getD j .none).toArray := fun j T hT => by
    have hj : j < m := by
      have := (List.getElem?_eq_some_iff.mp hT).1
      omega
    refine ⟨hj, e3 j T _ hT ?_⟩
    rw [List.getElem?_map, List.getElem?_range hj]
    rfl
  have vcol : ∀ j, j < m → Vals (rows.map fun r => r.getD j .non) (as.map fun a => a.getD j .none) := fun j hj => by
    refine vals_of _ _ (by rw [List.length_map, List.length_map, rl, al]) fun i x u hx hu => ?_
    rw [List.getElem?_map] at hx hu
    obtain ⟨r, hr, rfl⟩ := Option.map_eq_some_iff.mp hx
    obtain ⟨a2, ha, rfl⟩ := Option.map_eq_some_iff.mp hu
    have hi := (List.getElem?_eq_some_iff.mp hr).1
    obtain ⟨v, sz2⟩ := vk i _ r a2 (List.getElem?_eq_getElem (by omega)) hr ha
    have hl := rm r (List.mem_of_getElem? hr)
    obtain ⟨u, hu2, ru⟩ := vals_get v j r[j] (List.getElem?_eq_getElem (by omega))
    have g1 : r.getD j .non = r[j] := by simp [List.getD, show j < r.length by omega]
    have g2 : a2.getD j .none = u := by
      rw [Array.getElem?_toList] at hu2
      simp [Array.getD, show j < a2.size by omega]
      rw [Array.getElem?_eq_getElem (by omega)] at hu2
      exact Option.some.inj hu2
    rw [g1, g2]
    exact ru
  refine ⟨.ref h'.objs.size, putAll H1 h'.objs.size (.lst (Ts.map V.ref)) (Ts.zip ((List.range m).map fun j => HO.tup (rows.map fun r => r.getD j .non))), ?_, rfl, ?_⟩
  · have base : ∀ b o, H1 b = none → putAll H1 h'.objs.size (.lst (Ts.map V.ref)) (Ts.zip ((List.range m).map fun j => HO.tup (rows.map fun r => r.getD j .non))) b = some o → (b = h'.objs.size ∧ o = .lst (Ts.map V.ref)) ∨ ∃ j, j < m ∧ Ts[j]? = some b ∧ o = .tup (rows.map fun r => r.getD j .non) := fun b o hb e => by
      unfold putAll at e
      by_cases eb : b = h'.objs.size
      · rw [if_pos eb] at e
        exact .inl ⟨eb, (Option.some.inj e).symm⟩
      · rw [if_neg eb] at e
        cases lk : (Ts.zip ((List.range m).map fun j => HO.tup (rows.map fun r => r.getD j .non))).lookup b with
        | none =>
          rw [lk, hb] at e
          cases e
        | some u =>
          rw [lk] at e
          obtain ⟨j, j1, j2⟩ := lookup_in _ _ _ _ lk
          rw [List.getElem?_map] at j2
          obtain ⟨k2, hk2, rfl⟩ := Option.map_eq_some_iff.mp j2
          have hj : j < m := by
            have := (List.getElem?_eq_some_iff.mp hk2).1
            simpa using this
          rw [List.getElem?_range hj] at hk2
          cases hk2
          exact .inr ⟨j, hj, j1, (Option.some.inj e).symm⟩
    refine laidAll (s := s2) (h' := h3) I2 kk (fun b o eb => ?_) (fun b o hb e => ?_) fun b o hb e => ?_
    · unfold putAll
      have lt : b < s2.heap.objs.size := Nat.lt_of_not_le fun z => by
        rw [fresh b z] at eb
        cases eb
      rw [if_neg (show ¬ b = h'.objs.size from fun z => by have z : @Eq Nat b h'.objs.size := z; have lt : @LT.lt Nat _ b s2.heap.objs.size := lt; omega)]
      cases lk : (Ts.zip ((List.range m).map fun j => HO.tup (rows.map fun r => r.getD j .non))).lookup b with
      | none => exact eb
      | some u =>
        obtain ⟨j, j1, _⟩ := lookup_in _ _ _ _ lk
        have g4 : @LT.lt Nat _ h'.objs.size b := e4 b (List.mem_of_getElem? j1)
        have lt : @LT.lt Nat _ b s2.heap.objs.size := lt
        omega
    · rcases base b o hb e with ⟨z, _⟩ | ⟨j, _, z, _⟩
      · have z : @Eq Nat b h'.objs.size := z
        show @LE.le Nat _ _ _
        omega
      · have g4 : @LT.lt Nat _ h'.objs.size b := e4 b (List.mem_of_getElem? z)
        show @LE.le Nat _ _ _
        omega
    · rcases base b o hb e with ⟨z, zo⟩ | ⟨j, hj, z, zo⟩
      · rw [z, zo]
        refine ⟨?_, Ts.map Value.ref, c, ?_, e1⟩
        · rw [List.length_map, e2]
          exact Nat.le_trans m64 (by decide)
        · refine vals_of _ _ (by rw [List.length_map, List.length_map]) fun i x u hx hu => ?_
          rw [List.getElem?_map] at hx hu
          obtain ⟨t1, ht1, rfl⟩ := Option.map_eq_some_iff.mp hx
          obtain ⟨t2, ht2, rfl⟩ := Option.map_eq_some_iff.mp hu
          rw [ht1] at ht2
          cases ht2
          exact rfl
      · rw [zo]
        obtain ⟨_, tt⟩ := in3 j b z
        refine ⟨?_, as.map fun a => a.getD j .none, vcol j hj, ⟨_, tt, rfl, _, rfl⟩⟩
        rw [List.length_map, rl]
        exact Nat.le_trans n8 (by decide)
  · refine q _ Ts _ (fun b o eb => ?_) (fresh _ (by omega)) (by unfold putAll; rw [if_pos rfl]) e2 fun j T hT => ?_
    · unfold putAll
      have lt : b < s2.heap.objs.size := Nat.lt_of_not_le fun z => by
        rw [fresh b z] at eb
        cases eb
      rw [if_neg (show ¬ b = h'.objs.size from fun z => by have z : @Eq Nat b h'.objs.size := z; have lt : @LT.lt Nat _ b s2.heap.objs.size := lt; omega)]
      cases lk : (Ts.zip ((List.range m).map fun j => HO.tup (rows.map fun r => r.getD j .non))).lookup b with
      | none => exact eb
      | some u =>
        obtain ⟨j, j1, _⟩ := lookup_in _ _ _ _ lk
        have g4 : @LT.lt Nat _ h'.objs.size b := e4 b (List.mem_of_getElem? j1)
        have lt : @LT.lt Nat _ b s2.heap.objs.size := lt
        omega
    · have lt : @LT.lt Nat _ h'.objs.size T := e4 T (List.mem_of_getElem? hT)
      obtain ⟨hj, _⟩ := in3 j T hT
      refine ⟨fresh _ (by omega), ?_⟩
      unfold putAll
      rw [if_neg (show ¬ T = h'.objs.size from fun z => by have z : @Eq Nat T h'.objs.size := z; omega), lookup_zip Ts _ j T (.tup (rows.map fun r => r.getD j .non)) e5 hT (by rw [List.getElem?_map, List.getElem?_range hj]; rfl)]
end
end ZN
set_option Elab.async false
set_option linter.all false
set_option maxRecDepth 100000
/-! zip(xs, t), xs a list and t a tuple of one length -/
namespace ZM
open PySem PySem.Spec PyProof.Rows L2 Lw
def ItM (K : PySem.W.Frag) (a b : Addr) : It where
  go i H := ∃ (xs ys : List V) (x y : V), SqL K H a xs ∧ SqT K H b ys ∧ xs[i]? = some x ∧ ys[i]? = some y
  yld i H v H' := ∃ T x y, v = .ref T ∧ H T = none ∧ H' = upd H T (.tup [x, y]) ∧ (∀ xs, SqL K H a xs → xs[i]? = some x) ∧ ∀ ys, SqT K H b ys → ys[i]? = some y
  stop i H := ∃ xs ys : List V, SqL K H a xs ∧ SqT K H b ys ∧ xs.length = i ∧ ys.length = i
theorem walk_mix {K : PySem.W.Frag} {a b : Addr} {xs ys : List V} {n : Nat} (h1 : xs.length = n) (h2 : ys.length = n) : Walk (ItM K a b) n (fun H => SqL K H a xs ∧ SqT K H b ys) (YPair (fun i => xs[i]?) (fun i => ys[i]?)) := by
  constructor
  · rintro i H hi ⟨q1, q2⟩
    exact ⟨xs, ys, xs[i], ys[i], q1, q2, List.getElem?_eq_getElem (by omega), List.getElem?_eq_getElem (by omega)⟩
  · rintro H ⟨q1, q2⟩
    exact ⟨xs, ys, q1, q2, h1, h2⟩
  · rintro i H _ _ hi ⟨q1, q2⟩ ⟨T, x, y, rfl, nT, rfl, g1, g2⟩
    exact ⟨T, x, y, rfl, nT, rfl, g1 xs q1, g2 ys q2⟩
/-- where the walk stands -/
structure At (z TI TO i1 i2 a b : Addr) (i : Nat) (h : Heap) : Prop where
  zp : IsZip h z TI TO .none
  ti : IsTupOf2 h TI (.ref i1) (.ref i2)
  to : ∃ x y, IsTupOf2 h TO x y
  l : h.IsListIter i1 a i
  t : h.IsTupleIter i2 b i
theorem five {z TI TO i1 i2 c : Addr} (h : c ∈ [z, TI, TO, i1, i2]) : c = z ∨ c = TI ∨ c = TO ∨ c = i1 ∨ c = i2 := by
  simpa using h
theorem turn_mix {P : Program} {w : World} {K : PySem.W.Frag} {elts : List Expr} {kk : Nat} {tpos : Pos} {a b z TI TO i1 i2 : Addr} (S : ZipSep2 z TI TO i1 i2 [i1, a] [i2, b]) (n1 : a ≠ i1) (n2 : b ≠ i2) :
    Turn P w K (.Tuple elts kk tpos) (ItM K a b) [z, TI, TO, i1, i2] z (At z TI TO i1 i2 a b) where
  mem := .head _
  obj i h st c hc := by
    obtain ⟨o1, e1, _, d1⟩ := st.l
    obtain ⟨o2, e2, _, d2⟩ := st.t
    obtain ⟨x, y, eO⟩ := st.to
    rcases five hc with rfl | rfl | rfl | rfl | rfl
    · exact ⟨_, st.zp, nofun⟩
    · exact ⟨_, st.ti, nofun⟩
    · exact ⟨_, eO, nofun⟩
    · exact ⟨o1, e1, by rw [d1]; nofun⟩
    · exact ⟨o2, e2, by rw [d2]; nofun⟩
  keep i h h' st k := by
    obtain ⟨x, y, eO⟩ := st.to
    exact ⟨k z (by simp) _ st.zp, k TI (by simp) _ st.ti, ⟨x, y, k TO (by simp) _ eO⟩, st.l.at fun o q => k i1 (by simp) o q, st.t.at fun o q => k i2 (by simp) o q⟩
  item := by
    rintro X rfl rfl rfl calm i pins s σ H E I off st ⟨xs, ys, x, y, hx, hy, gx, gy⟩
    obtain ⟨us, r1, pl, _⟩ := I.list hx
    obtain ⟨vs, r2, pt, _⟩ := I.tuple hy
    obtain ⟨u, hu, ru⟩ := r1.get gx
    obtain ⟨v, hv, rv⟩ := r2.get gy
    obtain ⟨x0, y0, eO⟩ := st.to
    have hh : X.A.in1.handled = none := I.ok.hd calm
    have l1 : i < us.toArray.size := by rw [List.size_toArray]; exact (List.getElem?_eq_some_iff.mp hu).1
    have l2 : i < vs.toArray.size := by rw [List.size_toArray]; exact (List.getElem?_eq_some_iff.mp hv).1
    have zl : z < s.heap.objs.size := Heap.lt_size st.zp
    refine wpAny_pyNext_zipD2_item S (Draws.list hh i1 a n1 us.toArray) (Draws.tuple hh i2 b n2 vs.toArray) st.zp st.ti eO ⟨st.l, pl.isList⟩ ⟨st.t, pt⟩ l1 l2 fun u' v' h' tk hu' hv' z' O' s1 s2 new _ keep => ?_
    obtain rfl : u' = u := by
      rw [List.getElem?_toArray, hu] at hu'
      exact (Option.some.inj hu').symm
    obtain rfl : v' = v := by
      rw [List.getElem?_toArray, hv] at hv'
      exact (Option.some.inj hv').symm
    refine ⟨_, rfl, wpAny_letOwnedTupleGo_zip (s := { s with heap := h', toks := tk }) z' fun h2 z2 sb => ?_⟩
    have new2 : h2.get? s.heap.objs.size = some { cls := .type "tuple", data := .seq #[u', v'] } := (sb.2 _ (Nat.ne_of_gt zl)).trans new
    have okN : ObjOk X.prog X.w (upd H s.heap.objs.size (.tup [x, y])) h2 s.heap.objs.size (.tup [x, y]) := ⟨by show 2 ≤ sizeLine; decide, _, .cons ru (.cons rv .nil), _, new2, rfl, _, rfl⟩
    have rest : ∀ c o, c ∉ [z, TI, TO, i1, i2] → s.heap.get? c = some o → h2.get? c = some o := fun c o nc e => by
      have c1 : c ≠ z := fun q => nc (by simp [q])
      rw [sb.2 c c1]
      exact keep c o c1 (fun q => nc (by simp [q])) (fun q => nc (by simp [q])) (fun q => nc (by simp [q])) e
    refine ⟨.ref s.heap.objs.size, _, I.turnedNew (ch := [z, TI, TO, i1, i2]) rest off (Nat.le_refl _) okN, rfl, ⟨_, x, y, rfl, I.hok.fresh (Nat.le_refl _), rfl, fun ys hys => I.list_inj hys hx ▸ gx, fun ys hys => I.tuple_inj hys hy ▸ gy⟩, ⟨z2, ?_, ⟨u', v', ?_⟩, ?_, ?_⟩, fun c hc => ?_⟩
    · exact (sb.2 _ S.TIz).trans (keep _ _ S.TIz S.TITO S.TIi1 S.TIi2 st.ti)
    · exact (sb.2 _ S.TOz).trans O'
    · exact s1.1.at fun o q => (sb.2 _ (Ne.symm S.zi1)).trans q
    · exact s2.1.at fun o q => (sb.2 _ (Ne.symm S.zi2)).trans q
    · have lt : c < s.heap.objs.size := by
        obtain ⟨o1, e1, _⟩ := st.l
        obtain ⟨o2, e2, _⟩ := st.t
        rcases five hc with rfl | rfl | rfl | rfl | rfl
        · exact zl
        · exact Heap.lt_size st.ti
        · exact Heap.lt_size eO
        · exact Heap.lt_size e1
        · exact Heap.lt_size e2
      rw [upd_ne (Nat.ne_of_lt lt)]
      exact (off c hc).1
  done := by
    rintro X rfl rfl rfl calm i pins s σ H E I off st ⟨xs, ys, hx, hy, e1, e2⟩
    obtain ⟨us, r1, pl, _⟩ := I.list hx
    obtain ⟨vs, r2, pt, _⟩ := I.tuple hy
    obtain ⟨x0, y0, eO⟩ := st.to
    have hh : X.A.in1.handled = none := I.ok.hd calm
    have l1 := r1.length
    have l2 := r2.length
    have m1 : us.toArray.size = i := by rw [List.size_toArray]; omega
    have m2 : vs.toArray.size = i := by rw [List.size_toArray]; omega
    refine wpAny_pyNext_zipD2_end S (Draws.list hh i1 a n1 us.toArray) (Draws.tuple hh i2 b n2 vs.toArray) st.zp st.ti eO ⟨st.l, pl.isList⟩ ⟨st.t, pt⟩ (by omega) (by omega) (.inl m1.symm) fun h' tk keep => ⟨rfl, ?_⟩
    exact I.turnedL (t' := tk) (ch := [z, TI, TO, i1, i2]) (fun c o nc e => keep c o (fun q => nc (by simp [q])) (fun q => nc (by simp [q])) (fun q => nc (by simp [q])) (fun q => nc (by simp [q])) e) off
  self A i s Q E st h := wpAny_pyIter_zip st.zp h
def iZipM (K : PySem.W.Frag) (ta : TA) : TI := fun σ H R => ta σ H fun vs H1 => ∃ (a b : Addr) (xs ys : List V), vs = [.ref a, .ref b] ∧ SqL K H1 a xs ∧ SqT K H1 b ys ∧ R (ItM K a b) H1
theorem pi_zipM {X : Cx} {e e2 : Expr} {ta : TA} {p pos tpos : Pos} {elts : List Expr} {kk : Nat} (hg : Gl X "zip") (hm : X.mg "zip" = none) (ha : PA X [e, e2] ta)
    (hs : starEach [e, e2] X.env = (false, eval e X.env) :: starEach [e2] X.env := by rfl) (hpl : (backTo pos (starEach [e2] X.env)).any (·.1) = false := by rfl) :
    PI X (.Tuple elts kk tpos) (.Call (.Name "zip" p) [e, e2] [] pos) (iZipM X.K ta) := by
  constructor
  intro pins s σ H R I h
  refine Call_ (ld_blt I hg hm PyProof.Rows.boot_zip (PyProof.Rows.callWith_type1 (wpAny_mono (ha.run pos pins s σ H _ I h) ?_ fun _ _ z => z) hs hpl))
  rintro us s1 ⟨_, H1, I1, vals, a, b, xs, ys, rfl, hx, hy, go⟩
  obtain rfl : us = [.ref a, .ref b] := by
    match us, vals with
    | [u, v], .cons r1 (.cons r2 .nil) =>
      have e1 : u = .ref a := r1
      have e2 : v = .ref b := r2
      rw [e1, e2]
  obtain ⟨ws, r1, pl, _⟩ := I1.list hx
  obtain ⟨vs, r2, pt, _⟩ := I1.tuple hy
  have la : a < s1.heap.objs.size := pl.lt
  have lb : b < s1.heap.objs.size := by
    obtain ⟨o, ho, _⟩ := id pt
    exact Heap.lt_size ho
  refine zip_begins2 (begins_list a ws.toArray) (begins_tuple b vs.toArray) pl.isList pt fun h' z tI tO g1 g2 _ up => wpAny_pyIter_zip z ?_
  have S : ZipSep2 (s1.heap.objs.size + 4) (s1.heap.objs.size + 2) (s1.heap.objs.size + 3) s1.heap.objs.size (s1.heap.objs.size + 1) [s1.heap.objs.size, a] [s1.heap.objs.size + 1, b] := zip_sep2 (fun c hc => by rw [List.mem_singleton.mp hc]; exact la) (fun c hc => by rw [List.mem_singleton.mp hc]; exact lb)
  refine ⟨s1.heap.objs.size + 4, [s1.heap.objs.size + 4, s1.heap.objs.size + 2, s1.heap.objs.size + 3, s1.heap.objs.size, s1.heap.objs.size + 1], _, ItM X.K a b, H1, rfl, I1.kept (t' := s1.toks) up, turn_mix S (Nat.ne_of_lt la) (Nat.ne_of_lt (Nat.lt_succ_of_lt lb)), ⟨z, tI, ⟨_, _, tO⟩, ⟨_, g1, rfl, rfl⟩, ⟨_, g2, rfl, rfl⟩⟩, fun c hc => ?_, go⟩
  have le : s1.heap.objs.size ≤ c := by
    rcases five hc with rfl | rfl | rfl | rfl | rfl
    · exact Nat.le_add_right _ _
    · exact Nat.le_add_right _ _
    · exact Nat.le_add_right _ _
    · exact Nat.le_refl _
    · exact Nat.le_add_right _ _
  exact new_ok I1 le
end ZM
set_option Elab.async false
set_option linter.all false
set_option maxRecDepth 100000
namespace Lw
open PySem L2
theorem same_at {H H' : Hp} {p : Addr} {o : HO} (s : Same H H') (n : H p = none) : Same H (upd H' p o) := fun c o' e => by
  rw [upd_ne (ne_of_none e n)]
  exact s c o' e
/-! ### tables of code objects -/
def Tq (Pt : Addr) (qn : Str) : List (Addr × Str) := [(Pt, qn)]
theorem tabs_keep {T : List (Addr × Str)} {H H' : Hp} {b l : Addr} {ns : List Int} (t : LamX.Tabs T H) (B : BagAt H b l ns) (k : KeepB b H H') : LamX.Tabs T H' := fun p hp => by
  obtain ⟨ps, h1, h2, h3⟩ := t p hp
  obtain ⟨ys, hb⟩ := B.at_b
  refine ⟨ps, k _ _ (fun e => by rw [e, hb] at h1; cases h1) h1, h2, fun pos cv hc => ?_⟩
  obtain ⟨c, e1, e2⟩ := h3 pos cv hc
  exact ⟨c, e1, k _ _ (fun e => by rw [e, hb] at e2; cases e2) e2⟩
theorem BagAt.extN {H H' : Hp} {b l : Addr} {ns : List Int} (B : BagAt H b l ns) (e : LamX.ExtN H H') : BagAt H' b l ns := by
  obtain ⟨o, ho, hB⟩ := B.ob
  obtain ⟨i, r, s, rfl, h2⟩ := id hB
  exact ⟨⟨_, e _ _ ho (fun ps z => by cases z), hB⟩, e _ _ B.sc (fun ps z => by cases z), B.ln⟩
theorem Ed.extN {H H' : Hp} {ts : Es} (h : Ed H ts) (e : LamX.ExtN H H') : Ed H' ts := fun x hx => e _ _ (h x hx) (fun ps z => by cases z)
theorem PlanAt.extN {H H' : Hp} {p q : Addr} {n : Int} {ts : Es} (h : PlanAt H p q n ts) (e : LamX.ExtN H H') : PlanAt H' p q n ts := ⟨e _ _ h.tp (fun ps z => by cases z), e _ _ h.ls (fun ps z => by cases z), h.ed.extN e, h.va, h.n1⟩
theorem GraphAt.extN {C : Addr} {H H' : Hp} {g : Addr} {n : Int} {us : Es} (h : GraphAt C H g n us) (e : LamX.ExtN H H') : GraphAt C H' g n us := by
  obtain ⟨⟨dx, t, h1, h2⟩, ed⟩ := h
  exact ⟨⟨dx, t, e _ _ h1 (fun ps z => by cases z), e _ _ h2 (fun ps z => by cases z)⟩, ed.extN e⟩
theorem GraphAt.keep {C : Addr} {H H' : Hp} {g b l : Addr} {ns : List Int} {n : Int} {us : Es} (h : GraphAt C H g n us) (B : BagAt H b l ns) (k : KeepB b H H') : GraphAt C H' g n us := by
  obtain ⟨⟨dx, t, h1, h2⟩, ed⟩ := h
  exact ⟨⟨dx, t, k _ _ (B.ne_ins h1) h1, k _ _ (B.ne_tup h2) h2⟩, ed.keep B k⟩
theorem PlanAt.keep {H H' : Hp} {p q b l : Addr} {ns : List Int} {n : Int} {ts : Es} (h : PlanAt H p q n ts) (B : BagAt H b l ns) (k : KeepB b H H') : PlanAt H' p q n ts := ⟨k _ _ (B.ne_tup h.tp) h.tp, k _ _ (B.ne_vs h.ls) h.ls, h.ed.keep B k, h.va, h.n1⟩
end Lw
set_option Elab.async false
set_option linter.all false
set_option maxRecDepth 100000
/-! g(lambda a=n: body), where g calls what it gets without arguments. The function's cells by the library's module on nested defs, what g does with it by its GivesTo. -/
namespace LamD
open PySem PySem.Spec PyProof.Rows L2
/-- the table at P bears one code object more -/
theorem grow {T : List (Addr × Str)} {H : Hp} {P c : Addr} {q : Str} {ps : Array Value} {pos : Pos} (hT : LamX.Tabs T H) (hq : ∀ r ∈ T, r.1 = P → r.2 = q) (hP : H P = some (.tbl ps)) (ok : TriplesOk ps.toList) (nc : H c = none) :
    LamX.ExtN H (upd (upd H P (.tbl (ps ++ #[rawInt pos.line, rawInt pos.col, .ref c]))) c (LamX.CodeO c q)) ∧
      LamX.Tabs T (upd (upd H P (.tbl (ps ++ #[rawInt pos.line, rawInt pos.col, .ref c]))) c (LamX.CodeO c q)) := by
  have nPc : P ≠ c := ne_of_none hP nc
  have ext : LamX.ExtN H (upd (upd H P (.tbl (ps ++ #[rawInt pos.line, rawInt pos.col, .ref c]))) c (LamX.CodeO c q)) := by
    intro b o hb no
    have bP : b ≠ P := by
      rintro rfl
      rw [hP] at hb
      exact no ps (Option.some.inj hb).symm
    rw [upd_ne (ne_of_none hb nc), upd_ne bP, hb]
  refine ⟨ext, ?_⟩
  intro r hr
  obtain ⟨ps', g1, g2, g3⟩ := hT r hr
  have old : ∀ (p : Pos) (v : Value), codeAmong p ps'.toList = some v → ∃ d, v = .ref d ∧ upd (upd H P (.tbl (ps ++ #[rawInt pos.line, rawInt pos.col, .ref c]))) c (LamX.CodeO c q) d = some (LamX.CodeO d r.2) := by
    intro p v hv
    obtain ⟨d, ed, hd⟩ := g3 p v hv
    exact ⟨d, ed, ext d _ hd LamX.codeO_ne⟩
  by_cases e : r.1 = P
  · have eps : ps' = ps := by
      rw [e, hP] at g1
      injection g1 with g1
      injection g1 with g1
      exact g1.symm
    subst eps
    refine ⟨ps' ++ #[rawInt pos.line, rawInt pos.col, .ref c], ?_, ?_, ?_⟩
    · rw [e, upd_ne nPc, upd_same]
    · rw [Array.toList_append]
      exact PySem.TriplesOk_snoc _ _ _ _ ok
    · intro p v hv
      rw [Array.toList_append] at hv
      cases LamX.among_app _ ok hv with
      | inl h => exact old p v h
      | inr h => exact ⟨c, h, by rw [upd_same, hq r hr e]⟩
  · exact ⟨ps', by rw [upd_ne (ne_of_none g1 nc), upd_ne e, g1], g2, old⟩
/-- what stands once the lambda is made: the function at f, its default at t, its code object at c -/
structure Made (X : Cx) (pins : List (Addr × Obj)) (σ : L2.St) (T : List (Addr × Str)) (params : Arguments) (body : Expr) (scope : Scope) (H H1 : Hp) (f t c : Addr) (u : Value) (s : Shared) : Prop where
  inv : Inv X pins σ H1 s
  ext : LamX.ExtN H H1
  tab : LamX.Tabs T H1
  fn : ∃ doc pm ctv, s.heap.get? f = some (PySem.W.kdv_obj "<lambda>" (X.env.qual ++ "<lambda>") params (.expr body) scope (cloFrom X.env.cells scope.names []) (.ref t) doc pm c ctv)
  dft : s.heap.get? t = some (PySem.W.kdv_tup [u])
  nf : H1 f = none ∧ f ∉ frs X.stack
  nt : H1 t = none ∧ t ∉ frs X.stack
  code : H1 c = some (LamX.CodeO c (X.env.qual ++ "<lambda>"))
section
variable {X : Cx} {pins : List (Addr × Obj)} {σ : L2.St} {H : Hp} {s : Shared}
theorem new_off {a : Addr} (I : Inv X pins σ H s) (h : s.heap.objs.size ≤ a) : a ∉ frs X.stack := by
  intro z
  cases List.mem_cons.mp (I.stkSub _ z) with
  | inl e => exact absurd (e ▸ I.lt) (Nat.not_lt.mpr h)
  | inr e => exact I.nofs h e
theorem made {T : List (Addr × Str)} {c P : Addr} {params : Arguments} {body e : Expr} {scope : Scope} {n : Int} {pos : Pos} {Q : Value → Shared → Prop} (I : Inv X pins σ H s) (TB : LamX.TabB X.base X.mg c P) (hcode : X.env.code = .ref c)
    (hm : (P, X.env.qual ++ "<lambda>") ∈ T) (hq : ∀ r ∈ T, r.1 = P → r.2 = X.env.qual ++ "<lambda>") (hT : LamX.Tabs T H) (hd : params.defaults = [e]) (hk : params.kw_defaults = []) (he : PE X e (tC (.int n)))
    (hc : closureFor scope X.env = pure (cloFrom X.env.cells scope.names [])) (h : ∀ f t c' u H1 s', RelV (.int n) u → Made X pins σ T params body scope H H1 f t c' u s' → Q (.ref f) s') :
    wpAny (model X.prog X.w) X.A (eval (.Lambda params body scope pos) X.env) Q X.xe s := by
  refine PySem.W.kdv_lam (hd ▸ rfl) hk ?_
  rw [hd]
  refine PySem.W.kdv_all1 (wpAny_mono (he.run pins s σ H (fun v H' => v = .int n ∧ H' = H) I ⟨rfl, rfl⟩) ?_ fun _ _ z => z)
  rintro u s0 ⟨_, H0, J0, ru, rfl, eH⟩
  rw [eH] at J0
  refine PySem.W.kdv_all0 ?_
  rw [makeFunction_eq]
  simp only [List.zip_nil_right, List.filterMap_nil, List.isEmpty_nil, List.isEmpty_cons, Bool.false_eq_true, if_true, if_false, pure_bind]
  refine wpAny_bind (wpAny_newTextTuple ?_)
  have J : Inv X pins σ H { s0 with heap := s0.heap.push (PySem.W.kdv_tup [u]) } := J0.kept (t' := s0.toks) (fun b o z => Heap.get?_push_of_some _ z)
  have at_t : (s0.heap.push (PySem.W.kdv_tup [u])).get? s0.heap.objs.size = some (PySem.W.kdv_tup [u]) := Heap.get?_push_size _ rfl
  have nt : H s0.heap.objs.size = none ∧ s0.heap.objs.size ∉ frs X.stack := ⟨J0.hok.fresh (Nat.le_refl _), new_off J0 (Nat.le_refl _)⟩
  have lt_t : s0.heap.objs.size < (s0.heap.push (PySem.W.kdv_tup [u])).objs.size := by
    rw [Heap.size_push]
    exact Nat.lt_succ_self _
  generalize s0.heap.push (PySem.W.kdv_tup [u]) = g, s0.heap.objs.size = t at J at_t nt lt_t ⊢
  obtain ⟨ps, hP, ok, known⟩ := hT _ hm
  have objP : g.get? P = some { cls := .none, data := .fields ps } := J.hok P _ hP
  have glob := J.mod.glob.keeps J.bk
  have head := TB.code.keeps J.bk
  have blt := TB.bm.keeps J.bk
  match z : codeAmong pos ps.toList with
  | some v =>
    obtain ⟨d, rfl, hd'⟩ := known pos v z
    refine PySem.W.kdv_makeTailHit (mg := X.mg) hc J.ok.glob glob hcode head objP ok z blt fun ctv doc g' tk up le => ?_
    refine h g'.objs.size t d u H _ ru ⟨J.kept fun b o q => Heap.get?_push_of_some _ (up b o q), LamX.ExtN.refl _, hT, ⟨_, _, _, Heap.get?_push_size _ rfl⟩, Heap.get?_push_of_some _ (up _ _ at_t), ⟨J.hok.fresh le, new_off J le⟩, nt, hd'⟩
  | none =>
    refine PySem.W.kdv_makeTail (mg := X.mg) hc J.ok.glob glob hcode head objP ok z TB.gP blt fun d ctv doc g' tk up ge lt rec tab => ?_
    obtain ⟨_, od, vs, tq, eq, get, dat, nam⟩ := rec
    injection eq with eq
    subst eq
    have nd : H d = none := J.hok.fresh ge
    have le : g.objs.size ≤ g'.objs.size := Nat.le_of_lt (Nat.lt_of_le_of_lt ge lt)
    obtain ⟨ext, tabs⟩ := grow (pos := pos) hT hq hP ok nd
    have J2 := LamX.inv_table (t' := tk) (h' := g'.push (PySem.W.kdv_obj "<lambda>" (X.env.qual ++ "<lambda>") params (.expr body) scope (cloFrom X.env.cells scope.names []) (.ref t) doc ((X.mg "__name__").getD .none) d ctv)) J hP
      (fun b o q r => Heap.get?_push_of_some _ (up b o q r)) (Heap.get?_push_of_some _ tab) ge ⟨od, vs, tq, Heap.get?_push_of_some _ get, dat, nam⟩
    have offP : ∀ b, H b = none → b ≠ P := fun b q r => by
      rw [r, hP] at q
      cases q
    have none' : ∀ b, H b = none → b ≠ d → upd (upd H P (.tbl (ps ++ #[rawInt pos.line, rawInt pos.col, .ref d]))) d (LamX.CodeO d (X.env.qual ++ "<lambda>")) b = none := fun b q r => by
      rw [upd_ne r, upd_ne (offP b q), q]
    refine h g'.objs.size t d u _ _ ru ⟨J2, ext, tabs, ⟨_, _, _, Heap.get?_push_size _ rfl⟩, Heap.get?_push_of_some _ (up _ _ (offP t nt.1) at_t), ⟨none' _ (J.hok.fresh le) (Nat.ne_of_gt lt), new_off J le⟩, ⟨none' _ nt.1 (Nat.ne_of_lt (Nat.lt_of_lt_of_le lt_t ge)), nt.2⟩, upd_same⟩
/-- cells of the maker stand while others run -/
theorem cells_on {F : List Addr} {H H' : Hp} {h h' : Heap} {cl : List (Str × Addr)} {fr : List Str} {ws : List (Option V)} (C : NdefX.CellsAt cl fr ws h H) (un : Un F [] H H' h h') : NdefX.CellsAt cl fr ws h' H' := by
  have keep : ∀ y a v, cl.lookup y = some a → h.IsCell a v → h'.IsCell a v := by
    rintro y a v hy ⟨o, ho, hv⟩
    obtain ⟨sl, hs⟩ := un.any ho (C.all y a hy).1 (by simp)
    exact ⟨_, hs, hv⟩
  refine ⟨C.len, ?_, C.inj, ?_⟩
  · intro y a hy
    obtain ⟨na, v, o, ho, hv⟩ := C.all y a hy
    exact ⟨un.free a o ho na (by simp), v, keep y a v hy ⟨o, ho, hv⟩⟩
  · intro i y hi
    obtain ⟨a, ha, hv⟩ := C.has i y hi
    refine ⟨a, ha, fun v hw => ?_⟩
    obtain ⟨u, ru, hu⟩ := hv v hw
    exact ⟨u, ru, keep y a _ ha hu⟩
end
/-- the lambda as a nested def's record; its body is an expression, which the record does not hold -/
abbrev rec (X : Cx) (params : Arguments) (scope : Scope) (c : Addr) : NdefX.NF := ⟨"<lambda>", X.env.qual ++ "<lambda>", params, [], scope, cloFrom X.env.cells scope.names [], c⟩
/-- g(lambda a=n: body): N names the lambda's own slots, a first, then what it captures; js: where these stand with the maker -/
def tLamD (T : List (Addr × Str)) (TT : (XK → Hp → VK → Prop) → Hp → VK → Prop) (N : List Str) (n : Int) (js : List Nat) (t : XK → TE) : TE := fun σ H Q =>
  LamX.Tabs T H ∧ ∀ H1, LamX.ExtN H H1 → LamX.Tabs T H1 → TT (fun E H' Q' => t E (NdefX.startF N [.int n] (js.map (NdefX.slotAt σ))) H' Q') H1 Q
section
variable {X : Cx}
theorem pe_lamD {T : List (Addr × Str)} {TT : (XK → Hp → VK → Prop) → Hp → VK → Prop} {x a al : Str} {g c P : Addr} {k : Nat} {n : Int} {pg : Arguments} {bg : List Stmt} {sg : Scope} {dV kV doc pm cdv ct oc : Value} {an od : Option Addr} {osl : Array (Option Value)} {Ng N fr : List Str} {js : List Nat}
    {params : Arguments} {body e : Expr} {scope : Scope} {t : XK → TE} {p lpos pos : Pos}
    (hg : Gl X x) (hm : X.mg x = some (.ref g)) (hk : PySem.W.keepIn X.K (.ref g) = true)
    (lk : X.K.lookup g = some ⟨oc, od, .func (PySem.W.fnOf x x pg bg sg dV kV doc pm an cdv ct), osl⟩)
    (hcg : PySem.W.codeIn X.K cdv x = true) (hb : L2.Binds X.K (PySem.W.fnOf x x pg bg sg dV kV doc pm an cdv ct) [a] [])
    (Sg : FnScope Ng [a] sg) (hNg : Ng[0]? = some a) (hva : Vis sg a)
    (gives : LamX.GivesTo X Ng x sg g cdv bg a (X.env.qual ++ "<lambda>") TT) (TB : LamX.TabB X.base X.mg c P)
    (hcode : X.env.code = .ref c) (hmT : (P, X.env.qual ++ "<lambda>") ∈ T) (hqT : ∀ r ∈ T, r.1 = P → r.2 = X.env.qual ++ "<lambda>") (hr : Room (k + 2) X.A)
    (S : NdefX.NScope N [al] fr scope) (df : NdefX.ndefB X.env.scope scope fr = true) (hjs : js.map (fun j => X.N[j]?) = fr.map some)
    (hdf : params.defaults = [e]) (hk0 : params.kw_defaults = []) (he : PE X e (tC (.int n)))
    (hbind : ∀ (s : Shared) (q : Str) (cl : List (Str × Addr)) (t : Addr) (u doc pm cv ctv : Value), s.heap.get? t = some (PySem.W.kdv_tup [u]) → BindsTo s (PySem.W.kdv_fn "<lambda>" q params (.expr body) scope cl (.ref t) doc pm cv ctv) ⟨[], []⟩ [(al, u)])
    (hbody : ∀ (A : Around) (outer : List Env) (s : Shared) (H : Hp) (E : XK) (f c' : Addr), Room k (A.deeper (NdefX.envF (rec X params scope c') f s.heap.objs.size)) → PE (NdefX.ncx (L2.CX X.prog X.w) X.prog X.w X.K X.mg X.base N (rec X params scope c') f A outer s H E) body (t E))
    (d1 : (x == ("__debug__" : Str)) = false := by decide) (d2 : (a == ("__debug__" : Str)) = false := by decide) (d3 : (a == ("__classdict__" : Str)) = false := by decide) :
    PE X (.Call (.Name x p) [.Lambda params body scope lpos] [] pos) (tLamD T TT N n js t) := by
  constructor
  rintro pins s σ H Q I ⟨hT, hQ⟩
  have fre := NdefX.ndef_free df
  have cap := NdefX.Caps.made I.ok fre (NdefX.ndef_fr df) hjs
  have clo : closureFor scope X.env = pure (cloFrom X.env.cells scope.names []) := closure_ok fun y hy hk => (fre y hy hk).elim (fun z => I.ok.has _ (.inl z)) (fun z => I.ok.has _ (.inr z))
  refine wpAny_Call_Name_kw (ld_glob I hg hm (PySem.W.callWith_K (h₀ := X.base) I.ok.mod.kin hk ?_ rfl rfl) d1)
  refine Calls.spliced_cons (made I TB hcode hmT hqT hT hdf hk0 he clo fun f t0 c' u H1 s' ru M => ?_)
  refine Calls.spliced_nil (And.intro M.inv.kIn ?_)
  have cells := NdefX.cells_of M.inv cap
  obtain ⟨doc', pm', ctv, hf⟩ := M.fn
  have run : codeAny (model X.prog X.w) X.A (.call (.ref g) ⟨[.ref f], []⟩) (CR C8.CX0 X.stack X.prog X.w H1 s' Q C8.E0) s' := by
    refine LamX.run_ofS (vs := [.ref f]) lk hcg Sg hr M.inv.env0 (hb s' [.ref f] M.inv.kIn rfl) (.cons rfl .nil) rfl fun room => ?_
    refine Exists.elim (gives f c' s' H1 Q _ (fun W pn xe E p1 p2 tk hW => ?_) M.code (hQ H1 M.ext M.tab)) fun tt h => ⟨tt, h.1.nox, h.2⟩
    -- a() in g: the function at f is still there, and so are its default and its cells
    constructor
    rintro pz sz σz Hz Qz Iz ⟨slot, hcz, ht⟩
    refine wpAny_Call_Name_kw (wpAny_mono ((pe_var (pos := p1) hNg hva d2 d3).run pz sz σz Hz (fun v H' => v = .ref f ∧ H' = Hz) Iz ⟨_, slot, rfl, rfl⟩) ?_ fun _ _ z => z)
    rintro v s1 ⟨_, H', I1, rv, rfl, eH⟩
    rw [eH] at I1
    cases rv
    have nin : ∀ b : Addr, b ∉ ([] : List Addr) := fun b => List.not_mem_nil
    have fat := I1.base.keep f _ hf M.nf.1 M.nf.2 (nin f)
    have tat := I1.base.keep t0 _ M.dft M.nt.1 M.nt.2 (nin t0)
    refine PySem.W.callWith_F0 ⟨_, _, _, _, fat⟩ (wpAny_call (codeAny_mono (R := CR (L2.CX X.prog X.w) (envOfC x sg s'.heap.objs.size g cdv :: X.stack) X.prog X.w Hz s1 Qz E) ?_ fun r s2 hq => ?_))
    · obtain ⟨⟨oc2, vs2, t2, q1, q2, q3⟩, _⟩ := I1.hok c' _ hcz
      refine PySem.W.kla_callFunE room.depth fat rfl S.co S.gen rfl ⟨c', oc2, vs2, t2, rfl, q1, q2, q3⟩ (hbind s1 _ _ _ _ _ _ _ _ tat _ _ _ _ ?_)
      refine wpAny_newFunctionEnv S.nocell (fun y hy => (List.mem_singleton.mp hy) ▸ S.par _ (List.mem_singleton.mpr rfl)) (fun h2 ns sb => ⟨I1.nolimit.fresh _ sb, ?_⟩) S.kind
      have up : ∀ b o, s1.heap.get? b = some o → h2.get? b = some o := fun b o q => sb.extBut b o (Nat.ne_of_lt (Heap.lt_size q)) (Heap.get?_push_of_some _ q)
      have J := NdefX.inv_startN (CX := L2.CX X.prog X.w) (f := f) (F := rec X params scope c') (E := E) (h₁ := h2) (tk := s1.toks + 1) (us := [u]) (vs := [.int n]) S room.hd I1.env0 rfl (.cons ru .nil) (cells_on cells I1.base) ns up
      refine PySem.W.kla_codeExpr (wpAny_mono ((hbody _ _ s1 Hz E f c' (room.deeper _)).run [] _ _ Hz Qz J ht) ?_ fun _ _ z => z)
      rintro v s3 ⟨w, H3, J3, rw, qw⟩
      exact ⟨w, H3, J3.os, J3.bare, J3.base, J3.hok, rw, qw⟩
    · match r, hq with
      | .error e, hq => exact passes_call tk hW pz σz Hz s1 e s2 I1 hq
      | .ok (.ret v), hq => exact I1.after hq
  refine wpAny_call (codeAny_mono run fun r s2 hq => ?_)
  match r, hq with
  | .ok (.ret v), hq => exact M.inv.after hq
end
end LamD
set_option Elab.async false
set_option linter.all false
set_option maxRecDepth 100000
/-! A lambda as a value: made by one statement, kept in a list, called by another one, also while an error is handled. -/
namespace LamV
open PySem PySem.Spec PyProof.Rows L2
/-- a lambda's words, what it captured, its defaults, its code object -/
structure LR where
  qual : Str
  params : Arguments
  body : Expr
  scope : Scope
  cl : List (Str × Addr)
  dV : Value
  c : Addr
abbrev LR.fd (L : LR) (doc pm ctv : Value) : FuncData := PySem.W.kdv_fn "<lambda>" L.qual L.params (.expr L.body) L.scope L.cl L.dV doc pm (.ref L.c) ctv
/-- the lambda L lies at f -/
def LamO (f : Addr) (L : LR) : HO := .ext fun h => ∃ doc pm ctv, h.get? f = some { cls := .type "function", data := .func (L.fd doc pm ctv) }
/-- a tuple of defaults at t: one int -/
def DfO (t : Addr) (n : Int) : HO := .ext fun h => ∃ u, RelV (.int n) u ∧ h.get? t = some (PySem.W.kdv_tup [u])
/-- the lambda that a row of X makes -/
abbrev lamOf (X : Cx) (params : Arguments) (body : Expr) (scope : Scope) (dV : Value) (c : Addr) : LR := ⟨X.env.qual ++ "<lambda>", params, body, scope, cloFrom X.env.cells scope.names [], dV, c⟩
section
variable {X : Cx} {pins : List (Addr × Obj)} {σ : L2.St} {H : Hp} {s : Shared}
theorem inv_obj {φ : Heap → Prop} {o : Obj} {tk : Nat} (I : Inv X pins σ H s) (now : φ (s.heap.push o)) (on : ∀ g g' : Heap, φ g → (∀ o, g.get? s.heap.objs.size = some o → g'.get? s.heap.objs.size = some o) → φ g') (fr : o.isFreed = false := by rfl) :
    Inv X pins σ (upd H s.heap.objs.size (.ext φ)) { s with heap := s.heap.push o, toks := tk } := by
  refine I.laid (fun b u e => Heap.get?_push_of_some _ e) (Nat.le_refl _) ?_
  exact ⟨now, ⟨o, Heap.get?_push_size _ fr⟩, on⟩
theorem tabs_new {T : List (Addr × Str)} {a : Addr} {o : HO} (hT : LamX.Tabs T H) (n : H a = none) : LamX.Tabs T (upd H a o) := hT.ext fun b x e => (upd_ne (ne_of_none e n)).trans e
theorem ext_new {H0 : Hp} {a : Addr} {o : HO} (x : LamX.ExtN H0 H) (n : H a = none) : LamX.ExtN H0 (upd H a o) := fun b y e z => by
  have q := x b y e z
  rw [upd_ne (ne_of_none q n), q]
/-- the function's object is laid -/
theorem tail {T : List (Addr × Str)} {c P : Addr} {params : Arguments} {body : Expr} {scope : Scope} {dV : Value} {pos : Pos} {ln : Nat} {Q : Value → Shared → Prop} (I : Inv X pins σ H s) (TB : LamX.TabB X.base X.mg c P) (hcode : X.env.code = .ref c)
    (hm : (P, X.env.qual ++ "<lambda>") ∈ T) (hq : ∀ r ∈ T, r.1 = P → r.2 = X.env.qual ++ "<lambda>") (hT : LamX.Tabs T H) (hc : closureFor scope X.env = pure (cloFrom X.env.cells scope.names []))
    (h : ∀ f c' H1 s', Inv X pins σ H1 s' → LamX.ExtN H H1 → LamX.Tabs T H1 → H1 f = some (LamO f (lamOf X params body scope dV c')) → H1 c' = some (LamX.CodeO c' (X.env.qual ++ "<lambda>")) → Q (.ref f) s') :
    wpAny (model X.prog X.w) X.A (makeTail "<lambda>" (X.env.qual ++ "<lambda>") params (.expr body) scope X.env dV .none none pos ln) Q X.xe s := by
  obtain ⟨ps, hP, ok, known⟩ := hT _ hm
  have objP : s.heap.get? P = some { cls := .none, data := .fields ps } := I.hok P _ hP
  match z : codeAmong pos ps.toList with
  | some v =>
    obtain ⟨d, rfl, hd⟩ := known pos v z
    refine PySem.W.kdv_makeTailHit (mg := X.mg) hc I.ok.glob (I.mod.glob.keeps I.bk) hcode (TB.code.keeps I.bk) objP ok z (TB.bm.keeps I.bk) fun ctv doc g' tk up le => ?_
    have J : Inv X pins σ H { s with heap := g', toks := tk } := I.kept up
    have nf := J.hok.fresh (Nat.le_refl g'.objs.size)
    refine h _ d _ _ (inv_obj (φ := fun h => ∃ doc pm ctv, h.get? g'.objs.size = some { cls := .type "function", data := .func ((lamOf X params body scope dV d).fd doc pm ctv) }) (tk := tk) J ⟨doc, _, ctv, Heap.get?_push_size _ rfl⟩ fun g g2 ⟨a1, a2, a3, q⟩ st => ⟨a1, a2, a3, st _ q⟩) (ext_new (LamX.ExtN.refl _) nf) (tabs_new hT nf) upd_same ?_
    exact (upd_ne (ne_of_none hd nf)).trans hd
  | none =>
    refine PySem.W.kdv_makeTail (mg := X.mg) hc I.ok.glob (I.mod.glob.keeps I.bk) hcode (TB.code.keeps I.bk) objP ok z TB.gP (TB.bm.keeps I.bk) fun d ctv doc g' tk up ge lt rec tab => ?_
    obtain ⟨_, od, vs, tq, eq, get, dat, nam⟩ := rec
    injection eq with eq
    subst eq
    have nd : H d = none := I.hok.fresh ge
    obtain ⟨ext, tabs⟩ := LamD.grow (pos := pos) hT hq hP ok nd
    have J := LamX.inv_table (t' := tk) (h' := g') I hP (fun b o q r => up b o q r) tab ge ⟨od, vs, tq, get, dat, nam⟩
    have nf := J.hok.fresh (Nat.le_refl g'.objs.size)
    refine h _ d _ _ (inv_obj (φ := fun h => ∃ doc pm ctv, h.get? g'.objs.size = some { cls := .type "function", data := .func ((lamOf X params body scope dV d).fd doc pm ctv) }) (tk := tk) J ⟨doc, _, ctv, Heap.get?_push_size _ rfl⟩ fun g g2 ⟨a1, a2, a3, q⟩ st => ⟨a1, a2, a3, st _ q⟩) (ext_new ext nf) (tabs_new tabs nf) upd_same ?_
    exact (upd_ne (Nat.ne_of_lt lt)).trans upd_same
end
/-- «lambda: body», «lambda a=n: body» -/
def tLam (T : List (Addr × Str)) (qn : Str) (D : Value → Hp → Prop) (R : Value → Addr → LR) : TE := fun _ H Q => LamX.Tabs T H ∧ ∀ f dV c' H1, LamX.ExtN H H1 → LamX.Tabs T H1 → D dV H1 → H1 f = some (LamO f (R dV c')) → H1 c' = some (LamX.CodeO c' qn) → Q (.ref f) H1
def dNo : Value → Hp → Prop := fun v _ => v = .none
def dInt (n : Int) : Value → Hp → Prop := fun v H => ∃ t, v = .ref t ∧ H t = some (DfO t n)
section
variable {X : Cx}
theorem pe_lamNo {T : List (Addr × Str)} {c P : Addr} {params : Arguments} {body : Expr} {scope : Scope} {pos : Pos} (TB : LamX.TabB X.base X.mg c P) (hcode : X.env.code = .ref c) (hm : (P, X.env.qual ++ "<lambda>") ∈ T) (hq : ∀ r ∈ T, r.1 = P → r.2 = X.env.qual ++ "<lambda>")
    (df : NdefX.ndefB X.env.scope scope [] = true) (hd : defaultsOf params X.env = ([], [])) : PE X (.Lambda params body scope pos) (tLam T (X.env.qual ++ "<lambda>") dNo (lamOf X params body scope)) := by
  refine ⟨fun pins s σ H Q I hh => ?_⟩
  obtain ⟨hT, hh⟩ := hh
  have fre := NdefX.ndef_free df
  have clo : closureFor scope X.env = pure (cloFrom X.env.cells scope.names []) := closure_ok fun y hy hk => (fre y hy hk).elim (fun z => I.ok.has _ (.inl z)) (fun z => I.ok.has _ (.inr z))
  refine PySem.W.kla_eval hd ?_
  rw [makeFunction_eq]
  simp only [List.zip_nil_right, List.filterMap_nil, List.isEmpty_nil, if_true, pure_bind]
  refine tail I TB hcode hm hq hT clo fun f c' H1 s' I1 x1 t1 e1 e2 => ⟨.ref f, H1, I1, rfl, hh f .none c' H1 x1 t1 rfl e1 e2⟩
theorem pe_lamInt {T : List (Addr × Str)} {c P : Addr} {params : Arguments} {body e : Expr} {scope : Scope} {n : Int} {pos : Pos} (TB : LamX.TabB X.base X.mg c P) (hcode : X.env.code = .ref c) (hm : (P, X.env.qual ++ "<lambda>") ∈ T) (hq : ∀ r ∈ T, r.1 = P → r.2 = X.env.qual ++ "<lambda>")
    (df : NdefX.ndefB X.env.scope scope [] = true) (hd : params.defaults = [e]) (hk : params.kw_defaults = []) (he : PE X e (tC (.int n))) : PE X (.Lambda params body scope pos) (tLam T (X.env.qual ++ "<lambda>") (dInt n) (lamOf X params body scope)) := by
  refine ⟨fun pins s σ H Q I hh => ?_⟩
  obtain ⟨hT, hh⟩ := hh
  have fre := NdefX.ndef_free df
  have clo : closureFor scope X.env = pure (cloFrom X.env.cells scope.names []) := closure_ok fun y hy hk => (fre y hy hk).elim (fun z => I.ok.has _ (.inl z)) (fun z => I.ok.has _ (.inr z))
  refine PySem.W.kdv_lam (hd ▸ rfl) hk ?_
  rw [hd]
  refine PySem.W.kdv_all1 (wpAny_mono (he.run pins s σ H (fun v H' => v = .int n ∧ H' = H) I ⟨rfl, rfl⟩) ?_ fun _ _ z => z)
  rintro u s0 ⟨_, H0, J0, ru, rfl, eH⟩
  rw [eH] at J0
  refine PySem.W.kdv_all0 ?_
  rw [makeFunction_eq]
  simp only [List.zip_nil_right, List.filterMap_nil, List.isEmpty_nil, List.isEmpty_cons, Bool.false_eq_true, if_true, if_false, pure_bind]
  refine wpAny_bind (wpAny_newTextTuple ?_)
  have nt := J0.hok.fresh (Nat.le_refl s0.heap.objs.size)
  have J := inv_obj (φ := fun h => ∃ u, RelV (.int n) u ∧ h.get? s0.heap.objs.size = some (PySem.W.kdv_tup [u])) (o := PySem.W.kdv_tup [u]) (tk := s0.toks) J0 ⟨u, ru, Heap.get?_push_size _ rfl⟩ fun g g2 ⟨a, b, q⟩ st => ⟨a, b, st _ q⟩
  refine tail J TB hcode hm hq (tabs_new hT nt) clo fun f c' H1 s' I1 x1 t1 e1 e2 => ⟨.ref f, H1, I1, rfl, hh f _ c' H1 (fun b o q z => x1 b o ((upd_ne (ne_of_none q nt)).trans q) z) t1 ⟨_, rfl, x1 _ _ upd_same fun ps z => by cases z⟩ e1 e2⟩
/-- «x()», x a name that holds a lambda of this frame, while an error is handled -/
def tAsk (qn : Str) (D : Value → Hp → Prop) (R : Value → Addr → LR) (i : Nat) (N : List Str) (vs : List V) (js : List Nat) (te : TE) : TE := fun σ H Q => ∃ f dV c', σ[i]? = some (some (.ref f)) ∧ H f = some (LamO f (R dV c')) ∧ D dV H ∧ H c' = some (LamX.CodeO c' qn) ∧ te (NdefX.startF N vs (js.map (NdefX.slotAt σ))) H Q
theorem pe_ask {D : Value → Hp → Prop} {x : Str} {i k : Nat} {N ps fr : List Str} {vs : List V} {js : List Nat} {params : Arguments} {body : Expr} {scope : Scope} {te : TE} {p0 : Addr × Obj} {p pos : Pos} (hp : p0 ∈ X.pn) (hN : X.N[i]? = some x) (hv : Vis X.env.scope x) (hr : L2H.RoomH (k + 1) X.A)
    (S : NdefX.NScope N ps fr scope) (df : NdefX.ndefB X.env.scope scope fr = true) (hjs : js.map (fun j => X.N[j]?) = fr.map some) (hl : vs.length = ps.length)
    (bind : ∀ (s : Shared) (H : Hp) (dV : Value) (q : Str) (cl : List (Str × Addr)) (doc pm cv ctv : Value), HOk X.prog X.w H s.heap → D dV H → ∃ us, Vals vs us ∧ BindsTo s (PySem.W.kdv_fn "<lambda>" q params (.expr body) scope cl dV doc pm cv ctv) ⟨[], []⟩ (ps.zip us))
    (hbody : ∀ (A : Around) (outer : List Env) (s : Shared) (H : Hp) (f c' : Addr), L2H.RoomH k (A.deeper (NdefX.envF (LamD.rec X params scope c') f s.heap.objs.size)) → PE (NdefX.ncxH C8.CX0 X.prog X.w X.K X.mg X.base N (LamD.rec X params scope c') f A outer s H C8.E0 p0) body te)
    (d2 : (x == ("__debug__" : Str)) = false := by decide) (d3 : (x == ("__classdict__" : Str)) = false := by decide) :
    PE X (.Call (.Name x p) [] [] pos) (tAsk (X.env.qual ++ "<lambda>") D (lamOf X params body scope) i N vs js te) := by
  constructor
  rintro pins s σ H Q I ⟨f, dV, c', slot, hf, hD, hcz, ht⟩
  refine wpAny_Call_Name_kw (wpAny_mono ((pe_var (pos := p) hN hv d2 d3).run pins s σ H (fun v H' => v = .ref f ∧ H' = H) I ⟨_, slot, rfl, rfl⟩) ?_ fun _ _ z => z)
  rintro v s1 ⟨_, H', I1, rv, rfl, eH⟩
  rw [eH] at I1
  cases rv
  have cap := NdefX.Caps.made I1.ok (NdefX.ndef_free df) (NdefX.ndef_fr df) hjs
  have cells := NdefX.cells_of I1 cap
  obtain ⟨⟨doc, pm, ctv, fat⟩, _, _⟩ := I1.hok f _ hf
  obtain ⟨us, ru, bd⟩ := bind s1 H dV (X.env.qual ++ "<lambda>") (cloFrom X.env.cells scope.names []) doc pm (.ref c') ctv I1.hok hD
  have P1 := I1.pin p0 (List.mem_append_left _ hp)
  have hpin : L2H.PinOk X.stack H s1 p0 := ⟨P1.1, P1.2.1, fun hm => (List.mem_cons.mp (I1.stkSub p0.1 hm)).elim P1.2.2.1 P1.2.2.2.1, P1.2.2.2.2⟩
  refine PySem.W.callWith_F0 ⟨_, _, _, _, fat⟩ (wpAny_call (codeAny_mono (R := CR C8.CX0 X.stack X.prog X.w H s1 Q C8.E0) ?_ fun r s2 hq => ?_))
  · obtain ⟨⟨oc2, vs2, t2, q1, q2, q3⟩, _⟩ := I1.hok c' _ hcz
    refine PySem.W.kla_callFunE hr.depth fat rfl S.co S.gen rfl ⟨c', oc2, vs2, t2, rfl, q1, q2, q3⟩ (bd _ _ _ _ ?_)
    refine wpAny_newFunctionEnv S.nocell (fun y hy => S.par _ (List.of_mem_zip hy).1) (fun h2 ns sb => ⟨I1.nolimit.fresh _ sb, ?_⟩) S.kind
    have up : ∀ b o, s1.heap.get? b = some o → h2.get? b = some o := fun b o q => sb.extBut b o (Nat.ne_of_lt (Heap.lt_size q)) (Heap.get?_push_of_some _ q)
    have J := NdefX.inv_startNH (CX := C8.CX0) (f := f) (F := LamD.rec X params scope c') (E := C8.E0) (h₁ := h2) (tk := s1.toks + (ps.zip us).length) (us := us) (vs := vs) S hpin I1.env0 hl ru cells ns up
    refine PySem.W.kla_codeExpr (wpAny_mono ((hbody _ _ s1 H f c' (hr.deeper _)).run [] _ _ H Q J ht) ?_ fun _ _ z => z)
    rintro v s3 ⟨w, H3, J3, rw, qw⟩
    exact ⟨w, H3, J3.os, J3.bare, J3.base, J3.hok, rw, qw⟩
  · match r, hq with
    | .error e, hq => exact (show False from hq).elim
    | .ok (.ret v), hq => exact I1.after hq
end
end LamV
set_option Elab.async false
set_option linter.all false
set_option maxRecDepth 100000
set_option maxHeartbeats 2000000
/-! While an error is handled: a tuple is unpacked, a list is walked. -/
namespace HTup
open PySem PySem.Spec PyProof.Rows
section
variable {prog : Program} {w : World} {A : Around} {E : Value → Shared → Prop} {s : Shared}
/-- an address that holds a short record is not the handled error's -/
theorem hot_ne {x1 it : Addr} {h : Heap} {o : Obj} {u v : Value} (hot : HotX.HotAt A x1 h) (ho : h.get? it = some o) (hd : o.data = .fields #[u, v]) : x1 ≠ it := by
  rintro rfl
  obtain ⟨_, o1, vs, g, d, c⟩ := hot
  rw [ho] at g
  cases g
  rw [hd] at d
  cases d
  cases c
theorem hot_upd {x1 it : Addr} {h : Heap} {f : Obj → Obj} (hot : HotX.HotAt A x1 h) (ne : x1 ≠ it) : HotX.HotAt A x1 (h.update it f) := by
  obtain ⟨hh, o1, vs, g, d, c⟩ := hot
  exact ⟨hh, o1, vs, (Heap.get?_update_other _ _ ne.symm).trans g, d, c⟩
theorem hot_push {x1 : Addr} {h : Heap} {o : Obj} (hot : HotX.HotAt A x1 h) : HotX.HotAt A x1 (h.push o) := by
  obtain ⟨hh, o1, vs, g, d, c⟩ := hot
  exact ⟨hh, o1, vs, Heap.get?_push_of_some _ g, d, c⟩
theorem hot_lt {x1 : Addr} {h : Heap} (hot : HotX.HotAt A x1 h) : x1 < h.objs.size := by
  obtain ⟨hh, o1, vs, g, d, c⟩ := hot
  exact Heap.lt_size g
theorem tup_over {it t x1 : Addr} {i : Nat} {items : Array Value} {Q : Option Value → Shared → Prop} (hot : HotX.HotAt A x1 s.heap) (hit : IsTupIter s.heap it t i) (ht : IsTup s.heap t items) (hx : items[i]? = none)
    (hQ : ∀ g, Heap.ExtBut it s.heap g → Q none { s with heap := g }) : wpAny (model prog w) A (pyNext (.ref it)) Q E s := by
  obtain ⟨o, ho, hc, hd⟩ := id hit
  obtain ⟨ol, hol, _, nl, hdl⟩ := ht
  have ne := hot_ne hot ho hd
  unfold pyNext
  refine wpAny_bind (wpAny_attempt (wpAny_callSpecial?_slot (name := Str.ofString "__next__") hit.typeIs slot_tupleiter_next (wpAny_call_entry slot_tupleiter_next hit.typeIs entry_tupleiter_next (show wpAny _ _ (field (.ref it) 0 >>= _) _ _ s from wpAny_bind (wpAny_field ho hd (x := .ref t) rfl ?_)) (args_tupleiter_next _))))
  show wpAny _ _ (if (Value.ref t == Value.none) = true then _ else _) _ _ s
  rw [if_neg (show ¬ ((Value.ref t == Value.none) = true) from nofun)]
  refine (show wpAny _ _ (field (.ref it) 1 >>= _) _ _ s from wpAny_bind (wpAny_field ho hd (x := .int i 0) rfl (show wpAny _ _ (seqItems? (.ref t) >>= _) _ _ s from wpAny_bind (wpAny_seqItems hol hdl ?_))))
  simp only [Int.toNat_natCast, hx]
  refine wpAny_bind (wpAny_rule (wpAny_bind (wpAny_setField ho hd (by simp) (show wpAny _ _ (newExc (.type "StopIteration") [] >>= _) _ _ _ from wpAny_bind ?_))))
  simp only [newExc, newTuple]
  refine wpAny_bind (wpAny_newObj_type (wpAny_bind (m := firstArgMember _ _) (wpAny_of_eq (a := Value.none) (by first | rfl | (simp only [firstArgMember]; rfl)) (wpAny_newObj_type ?_ (by size_fits)))) (by size_fits))
  refine HotX.raiseNew_hot (x1 := x1) ?_ (Nat.ne_of_lt ?_) (Heap.get?_push_size _ rfl) rfl (by first | (simp; done) | (simp; omega)) ?_
  · exact hot_push (hot_push (hot_upd hot ne))
  · exact hot_lt (hot_push (hot_upd hot ne))
  refine wpAny_bind (wpAny_isInstance (T := "StopIteration") (b := true) ⟨_, Heap.get?_update_self _ (Heap.get?_push_size _ rfl) rfl, rfl⟩ isSubtype_stop (wpAny_pure (hQ _ fun b o' q r => ?_)))
  rw [Heap.get?_update_other _ _ (Nat.ne_of_gt ?_)]
  · exact (((Heap.SameBut.update ..).extBut.push _).push _) b o' q r
  · exact Heap.lt_size (((Heap.SameBut.update ..).extBut.push _) b o' q r)
theorem list_over {it l x1 : Addr} {i : Nat} {items : Array Value} {Q : Option Value → Shared → Prop} (hot : HotX.HotAt A x1 s.heap) (hit : s.heap.IsListIter it l i) (hl : s.heap.IsList l items) (hx : items[i]? = none)
    (hQ : ∀ g, Heap.ExtBut it s.heap g → Q none { s with heap := g }) : wpAny (model prog w) A (pyNext (.ref it)) Q E s := by
  obtain ⟨o, ho, hc, hd⟩ := id hit
  obtain ⟨ol, hol, _, nl, hdl⟩ := hl
  have ne := hot_ne hot ho hd
  unfold pyNext
  refine wpAny_bind (wpAny_attempt (wpAny_callSpecial?_slot (name := Str.ofString "__next__") hit.typeIs slot_listiter_next (wpAny_call_entry slot_listiter_next hit.typeIs entry_listiter_next (show wpAny _ _ (field (.ref it) 0 >>= _) _ _ s from wpAny_bind (wpAny_field ho hd (x := .ref l) rfl ?_)) (args_listiter_next _))))
  show wpAny _ _ (if (Value.ref l == Value.none) = true then _ else _) _ _ s
  rw [if_neg (show ¬ ((Value.ref l == Value.none) = true) from nofun)]
  refine (show wpAny _ _ (field (.ref it) 1 >>= _) _ _ s from wpAny_bind (wpAny_field ho hd (x := .int i 0) rfl (show wpAny _ _ (seqItems? (.ref l) >>= _) _ _ s from wpAny_bind (wpAny_seqItems hol hdl ?_))))
  simp only [Int.toNat_natCast, hx]
  refine wpAny_bind (wpAny_rule (wpAny_bind (wpAny_setField ho hd (by simp) (show wpAny _ _ (newExc (.type "StopIteration") [] >>= _) _ _ _ from wpAny_bind ?_))))
  simp only [newExc, newTuple]
  refine wpAny_bind (wpAny_newObj_type (wpAny_bind (m := firstArgMember _ _) (wpAny_of_eq (a := Value.none) (by first | rfl | (simp only [firstArgMember]; rfl)) (wpAny_newObj_type ?_ (by size_fits)))) (by size_fits))
  refine HotX.raiseNew_hot (x1 := x1) ?_ (Nat.ne_of_lt ?_) (Heap.get?_push_size _ rfl) rfl (by first | (simp; done) | (simp; omega)) ?_
  · exact hot_push (hot_push (hot_upd hot ne))
  · exact hot_lt (hot_push (hot_upd hot ne))
  refine wpAny_bind (wpAny_isInstance (T := "StopIteration") (b := true) ⟨_, Heap.get?_update_self _ (Heap.get?_push_size _ rfl) rfl, rfl⟩ isSubtype_stop (wpAny_pure (hQ _ fun b o' q r => ?_)))
  rw [Heap.get?_update_other _ _ (Nat.ne_of_gt ?_)]
  · exact (((Heap.SameBut.update ..).extBut.push _).push _) b o' q r
  · exact Heap.lt_size (((Heap.SameBut.update ..).extBut.push _) b o' q r)
/-- a tuple falls into its items -/
theorem apart {t x1 : Addr} {items : Array Value} {Q : List Value → Shared → Prop} (hot : HotX.HotAt A x1 s.heap) (ht : IsTup s.heap t items)
    (hQ : ∀ g, Heap.ExtBut s.heap.objs.size s.heap g → Q items.toList { s with heap := g }) : wpAny (model prog w) A (unpackItems (.ref t) items.size none) Q E s := by
  have ne : t ≠ s.heap.objs.size := by
    obtain ⟨o, ho, _⟩ := ht
    exact Nat.ne_of_lt (Heap.lt_size ho)
  unfold unpackItems
  refine wpAny_bind ?_
  unfold notIterableAtAll
  refine wpAny_bind (wpAny_specialOf ht.typeIs slot_tuple_iter.lookup (wpAny_pure ?_))
  rw [if_neg (by simp)]
  refine wpAny_bind (wpAny_holding (iter_tuple ht (wpAny_bind (wpAny_holding (draw_tuple ne items.size 0 _ _ ⟨_, Heap.get?_push_size _ rfl, rfl, rfl⟩ (ht.push _) (by omega) fun g1 it1 sb => ?_)))))
  have all : (items.toList.drop 0).take items.size = items.toList := List.take_of_length_le (by simp)
  rw [all, if_neg (by simp)]
  have hot1 : HotX.HotAt A x1 g1 := by
    obtain ⟨hh, o1, vs, g, d, c⟩ := hot
    exact ⟨hh, o1, vs, sb.extBut _ _ (Nat.ne_of_lt (Heap.lt_size g)) (Heap.get?_push_of_some _ g), d, c⟩
  refine wpAny_bind (wpAny_holding (tup_over (x1 := x1) hot1 it1 ((ht.push _).extBut sb.extBut ne) (by simp) fun g2 e2 => ?_))
  simp only [Option.isSome_none, Bool.false_eq_true, if_false]
  exact wpAny_pure (hQ g2 fun b o q r => e2 b o q (sb.extBut b o q (Heap.get?_push_of_some _ r)))
end
open L2 L2H
section
variable {X : Cx}
theorem pg_tupH {es : List Expr} {k n : Nat} {t : TGs} {pos : Pos} (hc : HotC X) (h : PGs X es t) (hn : (assignEach es X.env).length = n := by rfl) (hst : (assignEach es X.env).findIdx? (·.1) = none := by rfl) : PG X (.Tuple es k pos) (gTup X.K n t) := by
  constructor
  rintro pins s σ H v u Q I r ⟨a, xs, rfl, hq, hl, hw⟩
  cases r
  obtain ⟨its, rv, ht, hz⟩ := I.tuple hq
  obtain ⟨x1, hot⟩ := hc.at I
  rw [assign_Tuple]
  refine wpAny_bind (wpAny_standAt ?_)
  unfold unpack
  rw [show (assignEach es X.env).length = its.toArray.size by simp [hn, ← hl, rv.length], hst]
  refine wpAny_bind (wpAny_holding (apart hot ht fun g e => ?_))
  have J : Inv X pins σ H { s with heap := g } := I.kept (t' := s.toks) fun b o q => e b o (Nat.ne_of_lt (Heap.lt_size q)) q
  exact h.run pins _ σ H xs _ Q J (by simpa using rv) hw
theorem turn_listH {P : Program} {w : World} {K : PySem.W.Frag} {tg : Expr} (a it : Addr) : TurnH P w K tg (Itl K a) [it] it (fun i h => h.IsListIter it a i) := by
  have T := turn_list (P := P) (w := w) (K := K) (tg := tg) a it
  refine ⟨T.mem, T.obj, T.keep, ?_, ?_, T.self⟩
  · rintro X rfl rfl rfl hc i pins s σ H E I hf st ⟨xs, x, hq, hx⟩
    obtain ⟨its, rv, p, hz⟩ := I.list hq
    obtain ⟨u, hu, ru⟩ := rv.get hx
    obtain ⟨f0, f1, f2, f3, f4, f5⟩ := hf it List.mem_cons_self
    refine wpAny_pyNext_list_item st p.isList (x := u) (by simpa using hu) fun g st' sb => ⟨u, rfl, ?_⟩
    obtain ⟨o, e, c, d⟩ := id st'
    refine go_of (s := { s with heap := g }) e c d (by decide) ⟨x, H, I.turned (t' := s.toks) (fun b o hb e => (sb.2 b hb).trans e) f0 f1 f3 f4 f5, ru, ⟨rfl, fun ys hy => ?_⟩, st', fun b hb => (hf b hb).1⟩
    rw [I.list_inj hy hq]
    exact hx
  · rintro X rfl rfl rfl hc i pins s σ H E I hf st ⟨xs, hq, hx⟩
    obtain ⟨its, rv, p, hz⟩ := I.list hq
    obtain ⟨f0, f1, f2, f3, f4, f5⟩ := hf it List.mem_cons_self
    obtain ⟨x1, hot⟩ := hc.at I
    have hl := rv.length
    exact list_over hot st p.isList (by simp; omega) fun g e => ⟨rfl, I.turned (t' := s.toks) (fun b o hb q => e b o hb q) f0 f1 f3 f4 f5⟩
/-- for .. in a list -/
def iL (K : PySem.W.Frag) (tl : TE) : TI := fun σ H R => tl σ H fun v H1 => ∃ a xs, v = .ref a ∧ SqL K H1 a xs ∧ R (Itl K a) H1
theorem pi_listH {tg l : Expr} {tl : TE} (hl : PE X l tl) : PIH X tg l (iL X.K tl) := by
  constructor
  intro pins s σ H R I h
  refine wpAny_mono (hl.run pins s σ H _ I h) ?_ fun _ _ z => z
  rintro v s1 ⟨_, H1, I1, rv, a, xs, rfl, hq, go⟩
  cases rv
  obtain ⟨its, r, lst, _⟩ := I1.list hq
  refine wpAny_pyIter_list lst.isList ⟨_, [s1.heap.objs.size], _, Itl X.K a, H1, rfl, I1.kept (t' := s1.toks) fun b o' q => Heap.get?_push_of_some _ q, turn_listH a _, ⟨_, Heap.get?_push_size _ rfl, rfl, rfl⟩, fun b hb => ?_, go⟩
  rw [List.mem_singleton.mp hb]
  exact Inv.fpOk I1 (Nat.le_refl _) (I1.hok.fresh (Nat.le_refl _))
end
end HTup
set_option Elab.async false
set_option linter.all false
set_option maxRecDepth 100000
set_option maxHeartbeats 2000000
/-! own errors again, with what is known of the context of one that flies: None -/
namespace Lw
open PySem PySem.Spec PyProof.Rows L2
/-- C(e, ..): an error is made by its class's own __init__; its context is None -/
theorem mk_own {X : Cx} {CX : CXT} {x : Str} {C fI : Addr} {k : Nat} {fd : FuncData} {ps : List Str} {sp : Sp} {e : Expr} {es : List Expr} {ta : TA} {p pos : Pos} (T : OexC X.K C) (iC : PySem.W.findIn X.K (.ref C) "__init__" = some (some (.ref fI))) (tI : PySem.W.typeIn X.K (.ref fI) = some (.type "function"))
    (ok : FnOk X.prog X.w X.K X.mg X.base CX k fI fd ps sp) (hr : Room (k + 1) X.A) (hb : Binds X.K fd ps []) (hx : Passes CX X (fun _ _ _ => False)) (hg : Gl X x) (hm : X.mg x = some (.ref C)) (ha : PA X (e :: es) ta)
    (hdb : (x == ("__debug__" : Str)) = false := by decide) (he : starEach (e :: es) X.env = (false, eval e X.env) :: starEach es X.env := by rfl) (hpl : (backTo pos (starEach es X.env)).any (·.1) = false := by rfl) :
    L2N.PMk X (.Call (.Name x p) (e :: es) [] pos) (tMkO C sp [] ta) := by
  intro pins s σ H Q I h
  obtain ⟨nm, qn, NN, bs, bm, sn, sub, ab, col, dd, m0, m1, m2, m3, m5, cls, below⟩ := T.cls
  refine wpAny_Call_Name_kw (ld_glob I hg hm (PySem.W.callWith_K (h₀ := X.base) I.ok.mod.kin T.kC (wpAny_mono (ha.run pos pins s σ H _ I h) ?_ fun _ _ z => z) he hpl) hdb)
  rintro us ⟨hp, gs, dr, tk, os⟩ ⟨vs, H1, J, rv, few, run⟩
  refine ⟨J.kIn, (show wpAny _ _ (call (.ref C) us) _ _ _ from ?_)⟩
  -- the tuple of the arguments, then the error: two new objects
  have nx : H1 (hp.objs.size + 1) = none := J.hok.fresh (Nat.le_succ _)
  have want := run _ nx
  rw [List.append_nil] at want
  have up : ∀ b o, hp.get? b = some o → ((hp.push (PySem.W.kdv_tup us)).push (PySem.HandSPX.excO C hp.objs.size)).get? b = some o := fun b o q => Heap.get?_push_of_some _ (Heap.get?_push_of_some _ q)
  have J2 := J.laid (t' := tk) (a := hp.objs.size + 1) (o := exo (hp.objs.size + 1) C none) (h' := (hp.push (PySem.W.kdv_tup us)).push (PySem.HandSPX.excO C hp.objs.size)) up (Nat.le_succ _) (exo_ok (by heap_get))
  have rs : Vals (V.ref (hp.objs.size + 1) :: vs) (Value.ref (hp.objs.size + 1) :: us) := .cons rfl rv
  have len : (Value.ref (hp.objs.size + 1) :: us).length = ps.length := rs.length.symm.trans (ok.len _ _ _ _ want)
  have bd := hb _ (Value.ref (hp.objs.size + 1) :: us) J2.kIn (by rw [List.append_nil]; exact len)
  rw [List.append_nil] at bd
  have sz : us.length ≤ sizeLine := by
    have := Paired.length rv
    rw [sizeLine_eq]
    omega
  refine wpAny_call (PySem.HandSPX.call_own F.excBase_ValueError (fun Y => PySem.HandSPX.refsVE_contains Y bm below) (J.kIn _ _ cls) (PySem.W.looks_findIn J.kIn iC) (fun self => PySem.W.bind_fn J.kIn self tI) sz (codeAny_mono (ok.run _ X.stack _ _ ⟨_, []⟩ _ _ _ (fun _ _ _ => False) (hr.make C us []) (J2.env0.make C us []) bd rs want) ?_))
  intro r s' fin
  match r, s', fin with
  | .error er, s', fin => exact hx pins σ _ _ er s' J2 fin
  | .ok (.ret u), ⟨h2, g2, d2, t2, os'⟩, ⟨_, H2, os2, bare, un, hok, ru, rfl, d, fs, ea, ed, nd, q2⟩ =>
    obtain ⟨t0, G, K, kG, ge, at_, na⟩ := mk_end0 (d2 := d2) (t2 := t2) J (Nat.le_succ _) up un hok os2 bare ea ed nd
    exact ⟨ru, _, _, _, ⟨G, g2, d2, t2, os'⟩, _, .ref C, some d, rfl, K, kG, ge, at_, ⟨rfl, rfl, fun ws hw => by cases hw; rfl⟩, rfl, rfl, na, rfl, bare, raises_own T.exC T.tyC, q2⟩
theorem ps_raiseN {X : Cx} {W : WX} {x : Str} {C : Addr} {fld wd : Str} {j : Nat} {e : Expr} {ta : TA} {p pos pos2 : Pos} (hc : X.calm = true) (tk : L2N.Takes X W) (R : ErrIn X.prog X.w X.K X.mg X.base x C fld wd) (hr : Room j X.A) (hj : 3 ≤ j) (hg : Gl X x) (ha : PA X [e] ta)
    (hdb : (x == ("__debug__" : Str)) = false := by decide) (he : starEach [e] X.env = (false, eval e X.env) :: starEach [] X.env := by rfl) (hpl : (backTo pos (starEach [] X.env)).any (·.1) = false := by rfl) :
    PS X (.Raise (some (.Call (.Name x p) [e] [] pos)) none pos2) (fun _ σ H => tMkO C (spErr C fld wd) [] ta σ H fun cls d H' => W cls d σ H') := by
  obtain ⟨fI, fd, h1, h2, ok, b⟩ := R.ini
  exact L2N.ps_raise hc tk (mk_own R.O h1 h2 ok (hr.mono hj) b pass0 hg R.mx ha hdb he hpl)
section
variable {X : Cx} {pins : List (Addr × Obj)} {σ : L2.St} {H : Hp}
/-- an error on the ground whose context is None -/
theorem groundN {a : Addr} {cls : Value} {d : Option Addr} {B h : Heap} {sI s' : Shared} (fo : X.env.frame = some X.env.locals) (J : Inv X pins σ H sI)
    (old : ∀ b o, sI.heap.get? b = some o → b ∉ frs X.stack → B.get? b = some o) (up : sI.heap.UpToSlots h) (os : s'.os = sI.os) (bare : AllBare s'.gens) (na : H a = none)
    (fl : HandSPX.FlyingZ B (X.env :: X.outer) a (L2N.Zn cls d) h) :
    ∃ oe, h.get? a = some oe ∧ L2N.Zn cls d oe ∧ (∃ vs, oe.data = .fields vs) ∧ Inv X pins σ H { s' with heap := h } ∧ Inv (X.suite a ((a, oe) :: (X.pn ++ pins))) [] σ H { s' with heap := h } := by
  obtain ⟨oe, vs, get, z, dat⟩ := fl.there
  have K : Inv X pins σ H { s' with heap := h } := J.landed old fl.1 up os bare
  have off : a ∉ frs (X.env :: X.outer) := by
    intro m
    obtain ⟨_, o, ho, no⟩ := fl.2.2.1.mem m
    have e : oe = o := Option.some.inj (get.symm.trans ho)
    exact no vs (e ▸ dat)
  refine ⟨oe, get, z, ⟨vs, dat⟩, K, K.suite get dat na (fun e => off ?_) (fun m => off ?_)⟩
  · refine List.mem_filterMap.mpr ⟨X.env, .head _, ?_⟩
    rw [fo, ← e]
  · obtain ⟨en, hen, hfr⟩ := List.mem_filterMap.mp m
    exact List.mem_filterMap.mpr ⟨en, .tail _ hen, hfr⟩
end
section
variable {X : Cx} {x n : Str} {c : Value} {i : Nat} {body suite : List Stmt} {b0 : Stmt} {np pos pos' : Pos} {tb : WX → TS} {ts : Addr → Value → Option Addr → TS} {more : List ExceptHandler}
theorem ps_try_N (so : X.stack = X.env :: X.outer) (fo : X.env.frame = some X.env.locals) (nd : X.N.Nodup) (hi : X.N[i]? = some n) (loc : X.env.kindOf n = some .local) (nam : Names X x c)
    (inBody : ∀ (W : WX) (pn : List (Addr × Obj)) (xe : Value → Shared → Prop), L2N.Takes (X.tr pn xe) W → PassesOwn (model X.prog X.w) X.A X.env xe →
      PSs (X.tr pn xe) body (tb W))
    (inSuite : ∀ (a : Addr) (oe : Obj) (cls : Value) (d : Option Addr) (pn : List (Addr × Obj)), L2N.Zn cls d oe → (∃ vs, oe.data = .fields vs) →
      PSs (X.suite a ((a, oe) :: pn)) (b0 :: suite) (ts a cls d)) :
    PS X (.Try body (.ExceptHandler (some (.Name x np)) (some n) (b0 :: suite) pos' :: more) [] [] pos) (fun D σ H => tb (wFirst X.K c i ts D) D σ H) := by
  constructor
  intro pins s σ H D I h
  have frames : X.A.frames = some (X.env :: X.outer) := I.ok.frames.trans (congrArg some so)
  refine wpAny_Try_except (wpAny_mono ((inBody (wFirst X.K c i ts D) (X.pn ++ pins) (Lands X pins D (.ExceptHandler (some (.Name x np)) (some n) (b0 :: suite) pos' :: more)) ?_ PassesOwn.looking).run [] s σ H D (I.toTry _) h) ?_ fun _ _ z => z)
  · -- an error leaves the body: it lands, it is of c, the suite runs
    rintro _ s' ⟨a, B, sI, ps, τ, G, cls, d, rfl, J0, old, up, sky, na, os, bare, hit, run⟩
    have J : Inv X pins τ G sI := J0.ofTry I.ok
    refine L2N.Sky.land L2N.Zn.steady frames fo (show Sky B (X.env :: X.outer) a (L2N.Zn cls d) X.env.locals s'.heap from so ▸ sky) fun g fl up1 => ?_
    obtain ⟨oe, get, z, _, K, S⟩ := groundN fo J old (up.trans up1) os bare na fl
    have isC : PySem.W.Looks (model X.prog X.w) g (typeOf (.ref a)) cls := fun A' Q' E' t keep q => wpAny_typeOf_ref (keep _ _ get) (z.1.symm ▸ q)
    refine wpAny_handleBy_cons (codeAny_handlers_test ?_) nofun
    have ask : ∀ {Q E : Value → Shared → Prop}, Q c { s' with heap := g } → wpAny (model X.prog X.w) (X.A.mark (some (.ref a))) (eval (.Name x np) X.env) Q E { s' with heap := g } := by
      intro Q' E' q
      rcases nam.2.2 with m | ⟨m, bt, ne⟩
      · exact ld_glob (X := X.suite a ((a, oe) :: (X.pn ++ pins))) S nam.1 m q nam.2.1
      · exact ld_blt (X := X.suite a ((a, oe) :: (X.pn ++ pins))) S nam.1 m bt q ne nam.2.1
    refine ask ((PySem.W.exm_one (M := model X.prog X.w) K.kIn isC hit).here (codeAny_handlers_suite_as (HandSPX.lands_againZ fl fun g2 fl2 up2 => ?_)))
    obtain ⟨oe2, _, z2, flds, _, S2⟩ := groundN fo J old ((up.trans up1).trans up2) os bare na fl2
    refine store_ok (X := X.suite a ((a, oe2) :: (X.pn ++ pins))) (v := .ref a) S2 nd hi (.inl loc) rfl (fun s5 S5 => ?_) (.inr loc)
    refine wpAny_mono ((inSuite a oe2 cls d (X.pn ++ pins) z2 flds).run [] s5 _ G _ S5 (run a na)) ?_ fun _ _ z => z.elim
    have gone : ∀ {τ6 G6 s6} {Q : Shared → Prop}, Inv (X.suite a ((a, oe2) :: (X.pn ++ pins))) [] τ6 G6 s6 → (∀ s7, Inv X pins (τ6.set i none) G6 s7 → Q s7) → wpAny (model X.prog X.w) X.A (do bindName X.env n .none; unbindBehindTheSuite X.env n pos') (fun _ s7 => Q s7) X.xe s6 :=
      fun S6 after => gone_ok (S6.unsuite I.ok) nd hi loc after
    intro f s6 fin
    match f, fin with
    | .next, ⟨τ6, G6, S6, q⟩ => exact gone S6 fun s7 J7 => ⟨_, _, J7, q⟩
    | .brk, ⟨τ6, G6, S6, q⟩ => exact gone S6 fun s7 J7 => ⟨_, _, J7, q⟩
    | .cont, ⟨τ6, G6, S6, q⟩ => exact gone S6 fun s7 J7 => ⟨_, _, J7, q⟩
    | .ret u, ⟨v, τ6, G6, S6, r, q⟩ => exact gone S6 fun s7 J7 => ⟨_, _, _, J7, r, q⟩
  · -- the body ends by itself
    intro f s1 fin
    have fin := SP.back (X := X) (pins := pins) fin fun J => J.ofTry I.ok
    match f, fin with
    | .next, fin => exact wpAny_execs_nil fin
    | .brk, fin => exact fin
    | .cont, fin => exact fin
    | .ret u, fin => exact fin
end
end Lw
set_option Elab.async false
set_option linter.all false
set_option maxRecDepth 100000
set_option maxHeartbeats 2000000
/-! g(lambda: ..), g(lambda a=n: ..), where g calls what it gets without arguments; errors fly with the context None. -/
namespace LamN
open PySem PySem.Spec PyProof.Rows L2
/-- g calls what it got by the name a; TT is what it makes of the reading of that call -/
def Gives (X : Cx) (Ng : List Str) (x : Str) (sg : Scope) (g : Addr) (cdg : Value) (bg : List Stmt) (a q : Str) (TT : (XK → Hp → VK → Prop) → Hp → VK → Prop) : Prop :=
  ∀ (f c' : Addr) (s : Shared) (H : Hp) (Q : VK) (tl : XK → Hp → VK → Prop),
    (∀ W pn xe E p1 p2, L2N.Takes ((cxOf C8.CX0 X.prog X.w X.K X.mg X.base Ng x sg g cdg X.A X.stack s H C8.E0).tr pn xe) W → (∀ cls d τ G, E cls d G → W cls d τ G) →
      PE ((cxOf C8.CX0 X.prog X.w X.K X.mg X.base Ng x sg g cdg X.A X.stack s H C8.E0).tr pn xe) (.Call (.Name a p1) [] [] p2) fun τ G R => τ[0]? = some (some (.ref f)) ∧ G c' = some (LamX.CodeO c' q) ∧ tl E G R) →
    H c' = some (LamX.CodeO c' q) → TT tl H Q → ∃ t, PSs (cxOf C8.CX0 X.prog X.w X.K X.mg X.base Ng x sg g cdg X.A X.stack s H C8.E0).nox bg t ∧ t { nx := fun _ G => Q .non G, rt := Q } (L2.start Ng [.ref f]) H
def tHand (T : List (Addr × Str)) (TT : (XK → Hp → VK → Prop) → Hp → VK → Prop) (qn : Str) (D : Value → Hp → Prop) (R : Value → Addr → LamV.LR) (N : List Str) (vs : List V) (js : List Nat) (t : XK → TE) : TE := fun σ H Q => LamX.Tabs T H ∧ ∀ f dV c' H1, LamX.ExtN H H1 → LamX.Tabs T H1 → D dV H1 → H1 f = some (LamV.LamO f (R dV c')) →
  TT (fun E G Q' => G f = some (LamV.LamO f (R dV c')) ∧ D dV G ∧ t E (NdefX.startF N vs (js.map (NdefX.slotAt σ))) G Q') H1 Q
section
variable {X : Cx}
theorem pe_hand {T : List (Addr × Str)} {TT : (XK → Hp → VK → Prop) → Hp → VK → Prop} {D : Value → Hp → Prop} {x a : Str} {g : Addr} {k : Nat} {pg : Arguments} {bg : List Stmt} {sg : Scope} {dV kV doc pm cdv ct oc : Value} {an od : Option Addr} {osl : Array (Option Value)} {Ng N ps fr : List Str} {vs : List V} {js : List Nat}
    {params : Arguments} {body : Expr} {scope : Scope} {t : XK → TE} {p lpos pos : Pos}
    (hg : Gl X x) (hm : X.mg x = some (.ref g)) (hk : PySem.W.keepIn X.K (.ref g) = true)
    (lk : X.K.lookup g = some ⟨oc, od, .func (PySem.W.fnOf x x pg bg sg dV kV doc pm an cdv ct), osl⟩)
    (hcg : PySem.W.codeIn X.K cdv x = true) (hb : L2.Binds X.K (PySem.W.fnOf x x pg bg sg dV kV doc pm an cdv ct) [a] [])
    (Sg : FnScope Ng [a] sg) (hNg : Ng[0]? = some a) (hva : Vis sg a) (gives : Gives X Ng x sg g cdv bg a (X.env.qual ++ "<lambda>") TT) (hr : Room (k + 2) X.A)
    (mk : PE X (.Lambda params body scope lpos) (LamV.tLam T (X.env.qual ++ "<lambda>") D (LamV.lamOf X params body scope)))
    (S : NdefX.NScope N ps fr scope) (df : NdefX.ndefB X.env.scope scope fr = true) (hjs : js.map (fun j => X.N[j]?) = fr.map some) (hl : vs.length = ps.length)
    (bind : ∀ (s : Shared) (H : Hp) (dV : Value) (q : Str) (cl : List (Str × Addr)) (doc pm cv ctv : Value), HOk X.prog X.w H s.heap → D dV H → ∃ us, Vals vs us ∧ BindsTo s (PySem.W.kdv_fn "<lambda>" q params (.expr body) scope cl dV doc pm cv ctv) ⟨[], []⟩ (ps.zip us))
    (hbody : ∀ (A : Around) (outer : List Env) (s : Shared) (H : Hp) (E : XK) (f c' : Addr), Room k (A.deeper (NdefX.envF (LamD.rec X params scope c') f s.heap.objs.size)) → PE (NdefX.ncx (L2N.CX X.prog X.w) X.prog X.w X.K X.mg X.base N (LamD.rec X params scope c') f A outer s H E) body (t E))
    (d1 : (x == ("__debug__" : Str)) = false := by decide) (d2 : (a == ("__debug__" : Str)) = false := by decide) (d3 : (a == ("__classdict__" : Str)) = false := by decide) :
    PE X (.Call (.Name x p) [.Lambda params body scope lpos] [] pos) (tHand T TT (X.env.qual ++ "<lambda>") D (LamV.lamOf X params body scope) N vs js t) := by
  constructor
  rintro pins s σ H Q I ⟨hT, hQ⟩
  have cap := NdefX.Caps.made I.ok (NdefX.ndef_free df) (NdefX.ndef_fr df) hjs
  refine wpAny_Call_Name_kw (ld_glob I hg hm (PySem.W.callWith_K (h₀ := X.base) I.ok.mod.kin hk ?_ rfl rfl) d1)
  refine Calls.spliced_cons (wpAny_mono (mk.run pins s σ H (fun v G => ∃ f dV c', v = .ref f ∧ G f = some (LamV.LamO f (LamV.lamOf X params body scope dV c')) ∧ G c' = some (LamX.CodeO c' (X.env.qual ++ "<lambda>")) ∧
    TT (fun E G Q' => G f = some (LamV.LamO f (LamV.lamOf X params body scope dV c')) ∧ D dV G ∧ t E (NdefX.startF N vs (js.map (NdefX.slotAt σ))) G Q') G Q) I ⟨hT, fun f dV c' H1 x1 t1 dd e1 e2 => ⟨f, dV, c', rfl, e1, e2, hQ f dV c' H1 x1 t1 dd e1⟩⟩) ?_ fun _ _ z => z)
  rintro u s' ⟨_, H1, M, rv, f, dV, c', rfl, hf, hc, want⟩
  cases rv
  refine Calls.spliced_nil (And.intro M.kIn ?_)
  have cells := NdefX.cells_of M cap
  have run : codeAny (model X.prog X.w) X.A (.call (.ref g) ⟨[.ref f], []⟩) (CR C8.CX0 X.stack X.prog X.w H1 s' Q C8.E0) s' := by
    refine LamX.run_ofS (vs := [.ref f]) lk hcg Sg hr M.env0 (hb s' [.ref f] M.kIn rfl) (.cons rfl .nil) rfl fun room => ?_
    refine Exists.elim (gives f c' s' H1 Q _ (fun W pn xe E p1 p2 tk hW => ?_) hc want) fun tt h => ⟨tt, h.1.nox, h.2⟩
    -- a() in g
    constructor
    rintro pz sz σz Hz Qz Iz ⟨slot, hcz, hfz, hD, ht⟩
    refine wpAny_Call_Name_kw (wpAny_mono ((pe_var (pos := p1) hNg hva d2 d3).run pz sz σz Hz (fun v H' => v = .ref f ∧ H' = Hz) Iz ⟨_, slot, rfl, rfl⟩) ?_ fun _ _ z => z)
    rintro v s1 ⟨_, H', I1, rv, rfl, eH⟩
    rw [eH] at I1
    cases rv
    obtain ⟨⟨doc', pm', ctv, fat⟩, _, _⟩ := I1.hok f _ hfz
    obtain ⟨us, ru, bd⟩ := bind s1 Hz dV (X.env.qual ++ "<lambda>") (cloFrom X.env.cells scope.names []) doc' pm' (.ref c') ctv I1.hok hD
    refine PySem.W.callWith_F0 ⟨_, _, _, _, fat⟩ (wpAny_call (codeAny_mono (R := CR (L2N.CX X.prog X.w) (envOfC x sg s'.heap.objs.size g cdv :: X.stack) X.prog X.w Hz s1 Qz E) ?_ fun r s2 hq => ?_))
    · obtain ⟨⟨oc2, vs2, t2, q1, q2, q3⟩, _⟩ := I1.hok c' _ hcz
      refine PySem.W.kla_callFunE room.depth fat rfl S.co S.gen rfl ⟨c', oc2, vs2, t2, rfl, q1, q2, q3⟩ (bd _ _ _ _ ?_)
      refine wpAny_newFunctionEnv S.nocell (fun y hy => S.par _ (List.of_mem_zip hy).1) (fun h2 ns sb => ⟨I1.nolimit.fresh _ sb, ?_⟩) S.kind
      have up : ∀ b o, s1.heap.get? b = some o → h2.get? b = some o := fun b o q => sb.extBut b o (Nat.ne_of_lt (Heap.lt_size q)) (Heap.get?_push_of_some _ q)
      have J := NdefX.inv_startN (CX := L2N.CX X.prog X.w) (f := f) (F := LamD.rec X params scope c') (E := E) (h₁ := h2) (tk := s1.toks + (ps.zip us).length) (us := us) (vs := vs) S room.hd I1.env0 hl ru (LamD.cells_on cells I1.base) ns up
      refine PySem.W.kla_codeExpr (wpAny_mono ((hbody _ _ s1 Hz E f c' (room.deeper _)).run [] _ _ Hz Qz J ht) ?_ fun _ _ z => z)
      rintro v s3 ⟨w, H3, J3, rw, qw⟩
      exact ⟨w, H3, J3.os, J3.bare, J3.base, J3.hok, rw, qw⟩
    · match r, hq with
      | .error e, hq => exact L2N.passes_call tk hW pz σz Hz s1 e s2 I1 hq
      | .ok (.ret v), hq => exact I1.after hq
  refine wpAny_call (codeAny_mono run fun r s2 hq => ?_)
  match r, hq with
  | .ok (.ret v), hq => exact M.after hq
end
end LamN
set_option Elab.async false
set_option linter.all false
set_option maxRecDepth 100000
/-! `_law_field` where it asks its list of lambdas; `_law_tried` over tables of code objects -/
namespace Lw
open PySem PySem.Spec PyProof.Rows L2
/-- the lambda at place k of the list that is row j of a def -/
def lamAt (st : Stmt) (j k : Nat) : Arguments × Expr × Scope := match (defBody st)[j]? with
  | some (.Assign _ (.List es _) _) => match es[k]? with
    | some (.Tuple [_, .Lambda a b s _] _ _) => (a, b, s)
    | _ => (defArgs st, .Constant .none 0 default, defScope st)
  | _ => (defArgs st, .Constant .none 0 default, defScope st)
/-- a def that raises nothing, called while the error p is handled, whose context is None and of which Z is known -/
structure FnT (P : Program) (w : World) (K : PySem.W.Frag) (mg : Str → Option Value) (base : Heap) (k : Nat) (f : Addr) (fd : FuncData) (ps : List Str) (Z : Addr × Obj → Prop) (sp : Sp) : Prop where
  len : ∀ vs H Q E, sp vs H Q E → vs.length = ps.length
  run : ∀ (A : Around) (outer : List Env) (s : Shared) (H : Hp) (args : Args) (us : List Value) (vs : List V) (Q : VK) (E : XK) (p : Addr × Obj), L2H.RoomH k A → L2H.Hot1 A p → Z p → L2H.PinOk outer H s p → Env0 P w K mg base A outer s H → BindsTo s fd args (ps.zip us) → Vals vs us → sp vs H Q E →
    codeAny (model P w) A (.call (.ref f) args) (CR CX0 outer P w H s Q E) s
theorem FnC.toT {P : Program} {w : World} {K : PySem.W.Frag} {mg : Str → Option Value} {base : Heap} {k j : Nat} {f : Addr} {fd : FuncData} {ps : List Str} {Z : Addr × Obj → Prop} {sp sp' : Sp} (F : FnC P w K mg base k f fd ps Z sp) (hj : k ≤ j) (h : ∀ vs H Q E, sp' vs H Q E → sp vs H Q E) : FnT P w K mg base j f fd ps Z sp' :=
  ⟨fun vs H Q E q => F.len vs H Q E (h vs H Q E q), fun A outer s H args us vs Q E p hr _ hz hp e b r q => F.run A outer s H args us vs Q E p (hr.mono hj) hz hp e b r (h _ _ _ _ q)⟩
/-- a def whose code object is known -/
theorem fn_ofTl {P : Program} {w : World} {K : PySem.W.Frag} {mg : Str → Option Value} {base : Heap} {k : Nat} {x qual : Str} {st : Stmt} {f c : Addr} {oc dV kV doc pm ct : Value} {od an : Option Addr} {osl : Array (Option Value)} {N ps : List Str} {Z : Addr × Obj → Prop} {sp : Sp}
    (lk : K.lookup f = some ⟨oc, od, .func (PySem.W.fnOf x qual (defArgs st) (defBody st) (defScope st) dV kV doc pm an (.ref c) ct), osl⟩) (hcd : PySem.W.codeIn K (.ref c) qual = true) (S : FnScope N ps (defScope st))
    (len : ∀ vs H Q E, sp vs H Q E → vs.length = ps.length)
    (hbody : ∀ (A : Around) (outer : List Env) (s : Shared) (H : Hp) (vs : List V) (Q : VK) (E : XK) (p : Addr × Obj), L2H.Hot1 A p → Z p → L2H.RoomH k (A.deeper (envOfC qual (defScope st) s.heap.objs.size f (.ref c))) → sp vs H Q E →
      ∃ t, PSs (L2H.cxH CX0 P w K mg base N qual (defScope st) f (.ref c) A outer s H E p).nox (defBody st) t ∧ t { nx := fun _ H' => Q .non H', rt := Q } (L2.start N vs) H) : FnT P w K mg base (k + 1) f (PySem.W.fnOf x qual (defArgs st) (defBody st) (defScope st) dV kV doc pm an (.ref c) ct) ps Z sp := by
  constructor
  · exact len
  intro A outer s H args us vs Q E p hr hot hz hpin e0 hb r hsp
  have up : ∀ b o, base.get? b = some o → s.heap.get? b = some o := fun b o e => (e0.bs b o e).1
  have KX : K.In s.heap := e0.mod.kin.keeps up
  refine codeAny_call_function hr.depth (KX _ _ lk) rfl S.co S.gen rfl (PySem.W.codeRec_of KX hcd) (hb _ _ _ _ ?_)
  refine wpAny_newFunctionEnv_cells S.kind ?_ ?_
  · intro y hy
    rcases S.par y.1 (List.of_mem_zip hy).1 with q | q
    · exact .inl q
    · exact .inr ⟨q, PySem.W.cellsFrom_some _ _ _ (.inl q)⟩
  rintro env rfl s1 x
  refine And.intro ((e0.mod.nolimit.keeps up).keeps x.toInCall.keep) (codeAny_func ?_)
  obtain ⟨t, ht, hq⟩ := hbody A outer s H vs Q E p hot hz (hr.deeper _) hsp
  refine wpAny_mono (ht.nox.run [] s1 (L2.start N vs) H _ (L2H.inv_startH S hpin e0 (len _ _ _ _ hsp) r x) hq) ?_ fun _ _ z => z
  intro fl s' hs
  match fl, hs with
  | .ret u, ⟨v, σ', H', J, rv, q⟩ => exact ⟨v, H', J.os, J.bare, J.base, J.hok, rv, q⟩
  | .next, ⟨σ', H', J, q⟩ => exact ⟨.non, H', J.os, J.bare, J.base, J.hok, rfl, q⟩
  | .brk, ⟨_, _, _, q⟩ => exact False.elim q
  | .cont, ⟨_, _, _, q⟩ => exact False.elim q
theorem pe_callT {X : Cx} {k : Nat} {f : Addr} {fd : FuncData} {ps : List Str} {Z : Addr × Obj → Prop} {sp : Sp} {x : Str} {q pos : Pos} {e : Expr} {es : List Expr} {ta : TA} {p : Addr × Obj} (F : FnT X.prog X.w X.K X.mg X.base k f fd ps Z sp) (hr : L2H.RoomH k X.A) (hp : p ∈ X.pn) (hot : L2H.Hot1 X.A p) (hz : Z p) (hg : Gl X x) (hm : X.mg x = some (.ref f)) (hk : PySem.W.keepIn X.K (.ref f) = true) (hb : Binds X.K fd ps [])
    (ha : PA X (e :: es) ta) (hdb : (x == ("__debug__" : Str)) = false := by decide) (he : starEach (e :: es) X.env = (false, eval e X.env) :: starEach es X.env := by rfl) (hpl : (backTo pos (starEach es X.env)).any (·.1) = false := by rfl) :
    PE X (.Call (.Name x q) (e :: es) [] pos) (tCall sp [] E0 ta) := by
  constructor
  intro pins s σ H Q I h
  refine wpAny_Call_Name_kw (ld_glob I hg hm (PySem.W.callWith_K (h₀ := X.base) I.ok.mod.kin hk (wpAny_mono (ha.run pos pins s σ H _ I h) ?_ fun _ _ z => z) he hpl) hdb)
  rintro us s1 ⟨vs, H1, J, r, want⟩
  refine And.intro J.kIn ?_
  have want : sp (vs ++ []) H1 Q E0 := want
  rw [List.append_nil] at want
  have bd := hb s1 us J.kIn (by rw [List.append_nil, ← r.length]; exact F.len _ _ _ _ want)
  rw [List.append_nil] at bd
  have pin := J.pin p (List.mem_append_left _ hp)
  refine wpAny_call (codeAny_mono (F.run X.A X.stack s1 H1 ⟨us, []⟩ us vs Q E0 p hr hot hz ⟨pin.1, pin.2.1, fun m => (List.mem_cons.mp (J.stkSub p.1 m)).elim pin.2.2.1 pin.2.2.2.1, pin.2.2.2.2⟩ J.env0 bd r want) fun res s2 fin => ?_)
  match res, fin with
  | .error e, fin => exact (show False from fin).elim
  | .ok (.ret u), fin => exact J.after fin
def spFieldT (T : List (Addr × Str)) (a dd : Addr) (fld wd : Str) : Sp := fun vs H Q _ => ∃ n : Int, vs = [.ref a] ∧ H dd = some (.xd (erF fld wd n)) ∧ LamX.Tabs T H ∧ ∀ H', LamX.ExtN H H' → LamX.Tabs T H' → Q (.int n) H'
theorem spField_T {T : List (Addr × Str)} {a dd : Addr} {fld wd : Str} (vs : List V) (H : Hp) (Q : VK) (E : XK) (h : spFieldT T a dd fld wd vs H Q E) : spField a dd fld wd vs H Q E := by
  obtain ⟨n, h1, h2, h3, h4⟩ := h
  exact ⟨n, h1, h2, fun H' s => h4 H' (LamX.ExtN.of s) (h3.ext s)⟩
section
variable {P : Program} {w : World} {K : PySem.W.Frag} {mg : Str → Option Value} {base : Heap}
set_option maxHeartbeats 8000000 in
theorem okT_count {f C a dd c Pf : Addr} {T : List (Addr × Str)} {qf : Str} {oc dV kV doc pm ct : Value} {od an : Option Addr} {osl : Array (Option Value)} {k : Nat}
    (lk : K.lookup f = some ⟨oc, od, .func (PySem.W.fnOf "_law_field" "_law_field" (defArgs sField) (defBody sField) (defScope sField) dV kV doc pm an (.ref c) ct), osl⟩) (hcd : PySem.W.codeIn K (.ref c) "_law_field" = true)
    (TB : LamX.TabB base mg c Pf) (hqf : ("_law_field" ++ ".<locals>." : Str) ++ "<lambda>" = qf) (hm1 : (Pf, qf) ∈ T) (hm2 : ∀ r ∈ T, r.1 = Pf → r.2 = qf)
    (TX : XfC K C) (nw : PySem.W.findIn K (.ref C) "word" = some none) (nn : PySem.W.findIn K (.ref C) "count" = some none) :
    FnT P w K mg base (k + 2) f (PySem.W.fnOf "_law_field" "_law_field" (defArgs sField) (defBody sField) (defScope sField) dV kV doc pm an (.ref c) ct) ["_law_e"] (Zh C a dd) (spFieldT T a dd "count" "invalidcount") := by
  have w0 : (("word" : Str) == ("count" : Str)) = false := by decide +kernel
  refine fn_ofTl lk hcd scField (fun vs H Q E h => ?_) (fun A outer s H vs Q E p hot hz hr h => ?_)
  · obtain ⟨n, rfl, _⟩ := h
    rfl
  · obtain ⟨n, rfl, hd, tb, q⟩ := h
    obtain ⟨pa, po⟩ := p
    obtain ⟨rfl, hzc, hf⟩ := hz
    have hC : L2H.HotC (L2H.cxH CX0 P w K mg base ["_law_e", "_law_fields", "_law_word", "_law_ask"] "_law_field" (defScope sField) f (.ref c) A outer s H E (pa, po)).nox := ⟨(pa, po), ⟨hot.1, hot.2⟩, List.mem_singleton.mpr rfl⟩
    have hm : (pa, po) ∈ [(pa, po)] := List.mem_singleton.mpr rfl
    have hq1 : (L2H.cxH CX0 P w K mg base ["_law_e", "_law_fields", "_law_word", "_law_ask"] "_law_field" (defScope sField) f (.ref c) A outer s H E (pa, po)).nox.env.qual ++ "<lambda>" = qf := hqf
    refine ⟨_, pss_cons (ps_if (pt_cmpR op_in_seq (pe_xfP TX nw hzc hf hm (pv 0)) (pe_lst (pa_cons pe_str (pa_cons pe_str (pa_cons pe_str (pa_cons pe_str pa_nil))))) (by rfl)) (pss_one ps_never) pss_nil)
      (pss_cons (ps_if (pt_cmpR op_in_seq (pe_xfP TX nw hzc hf hm (pv 0)) (pe_lst (pa_cons pe_str (pa_cons pe_str pa_nil))) (by rfl)) (pss_one ps_never) pss_nil)
      (pss_cons (ps_if (pt_cmpR op_in_seq (pe_xfP TX nw hzc hf hm (pv 0)) (pe_lst (pa_cons pe_str (pa_cons pe_str (pa_cons pe_str (pa_cons pe_str pa_nil))))) (by rfl)) (pss_one ps_never) pss_nil)
      (pss_cons (ps_if (pt_cmpR op_in_seq (pe_xfP TX nw hzc hf hm (pv 0)) (pe_lst (pa_cons pe_str (pa_cons pe_str (pa_cons pe_str pa_nil)))) (by rfl)) (pss_one ps_never) pss_nil)
      (C8.pss_cut (ps_set (i := 1) scField.nd rfl (by first | exact Or.inl rfl | exact Or.inr rfl) (pe_lst (pa_cons (pe_tup (pa_cons pe_str (pa_cons (LamV.pe_lamNo (T := T) TB rfl (by rw [hq1]; exact hm1) (by rw [hq1]; exact hm2) (by exact (show NdefX.ndefB (defScope sField) _ _ = true from by decide +kernel)) rfl) pa_nil))) (pa_cons (pe_tup (pa_cons pe_str (pa_cons (LamV.pe_lamInt (T := T) TB rfl (by rw [hq1]; exact hm1) (by rw [hq1]; exact hm2) (by exact (show NdefX.ndefB (defScope sField) _ _ = true from by decide +kernel)) rfl rfl pe_int) pa_nil))) pa_nil))))
      (C8.pss_cut (ps_set (i := 1) scField.nd rfl (by first | exact Or.inl rfl | exact Or.inr rfl) (pe_op op_cat (pv 1) (pe_lst (pa_cons (pe_tup (pa_cons pe_str (pa_cons (LamV.pe_lamNo (T := T) TB rfl (by rw [hq1]; exact hm1) (by rw [hq1]; exact hm2) (by exact (show NdefX.ndefB (defScope sField) _ _ = true from by decide +kernel)) rfl) pa_nil))) (pa_cons (pe_tup (pa_cons pe_str (pa_cons (LamV.pe_lamInt (T := T) TB rfl (by rw [hq1]; exact hm1) (by rw [hq1]; exact hm2) (by exact (show NdefX.ndefB (defScope sField) _ _ = true from by decide +kernel)) rfl rfl pe_int) pa_nil))) pa_nil)))))
      (pss_cons (L2H.ps_forH PassesOwn.never hC (HTup.pi_listH (pv 1)) (HTup.pg_tupH hC (pgs_cons (pg_name (i := 2) scField.nd rfl (by first | exact Or.inl rfl | exact Or.inr rfl)) (pgs_cons (pg_name (i := 3) scField.nd rfl (by first | exact Or.inl rfl | exact Or.inr rfl)) pgs_nil)))
        (pss_one (ps_if (pt_cmpR op_eq (pv 2) (pe_xfP TX nw hzc hf hm (pv 0)) (nomark _)) (pss_one (ps_ret (LamV.pe_ask (D := LamV.dInt 0) (i := 3) (k := k) (N := ["_law_a", "_law_e"]) (ps := ["_law_a"]) (fr := ["_law_e"]) (vs := [.int 0]) (js := [0])
          (params := (lamAt sField 4 1).1) (body := (lamAt sField 4 1).2.1) (scope := (lamAt sField 4 1).2.2) hm rfl (by first | exact Or.inl rfl | exact Or.inr (Or.inl rfl) | exact Or.inr (Or.inr rfl)) hr (NdefX.nscope_by (by decide +kernel)) (by exact (show NdefX.ndefB (defScope sField) _ _ = true from by decide +kernel)) rfl rfl
          (fun s H dV q cl doc pm cv ctv hok h => by
            obtain ⟨t, rfl, ht⟩ := h
            obtain ⟨⟨u, ru, tat⟩, _, _⟩ := hok t _ ht
            exact ⟨[u], .cons ru .nil, BindsTo.of_defaults rfl tat rfl rfl rfl⟩)
          (fun A2 o2 s2 H2 f2 c2 hr2 => by exact pe_xfP TX nn hzc hf hm (pv 1))))) pss_nil)))
      (pss_one ps_never))))))), ?_⟩
    have sz : ∀ m : Nat, m ≤ 10 → m ≤ sizeLine := fun m h => Nat.le_trans h (by rw [sizeLine_eq]; decide)
    have s0 : Same H H := fun _ _ z => z
    refine ⟨_, rfl, rfl, _, _, s0 _ _ hd, er_w w0, sz 4 (by decide), fun l1 h1 => ⟨l1, _, rfl, .inl (SqL.of upd_same), rfl, (by decide +kernel), _, rfl, ifF (by decide +kernel) ?_⟩⟩
    have s1 := s0.trans (same_new (o := .lst [.str "invalidname", .str "duplicatename", .str "nameinuse", .str "unknownname"]) h1)
    refine ⟨_, rfl, rfl, _, _, s1 _ _ hd, er_w w0, sz 2 (by decide), fun l2 h2 => ⟨l2, _, rfl, .inl (SqL.of upd_same), rfl, (by decide +kernel), _, rfl, ifF (by decide +kernel) ?_⟩⟩
    have s2 := s1.trans (same_new (o := .lst [.str "limitexceeded", .str "capacityexceeded"]) h2)
    refine ⟨_, rfl, rfl, _, _, s2 _ _ hd, er_w w0, sz 4 (by decide), fun l3 h3 => ⟨l3, _, rfl, .inl (SqL.of upd_same), rfl, (by decide +kernel), _, rfl, ifF (by decide +kernel) ?_⟩⟩
    have s3 := s2.trans (same_new (o := .lst [.str "invalidgraph", .str "invalidrow", .str "invalidpath", .str "invalidcode"]) h3)
    refine ⟨_, rfl, rfl, _, _, s3 _ _ hd, er_w w0, sz 3 (by decide), fun l4 h4 => ⟨l4, _, rfl, .inl (SqL.of upd_same), rfl, (by decide +kernel), _, rfl, ifF (by decide +kernel) ?_⟩⟩
    have s4 := s3.trans (same_new (o := .lst [.str "outofrange", .str "invalidwidth", .str "invalidcapacity"]) h4)
    have hd4 := s4 _ _ hd
    have tb4 := tb.ext s4
    have x4 : LamX.ExtN H _ := LamX.ExtN.of s4
    clear s0 s1 s2 s3 s4
    generalize upd _ l4 _ = H4 at *
    obtain ⟨R2, hR2⟩ : ∃ R2 : Value → Addr → LamV.LR, R2 = LamV.lamOf (L2H.cxH CX0 P w K mg base ["_law_e", "_law_fields", "_law_word", "_law_ask"] "_law_field" (defScope sField) f (.ref c) A outer s H E (pa, po)).nox (lamAt sField 4 1).1 (lamAt sField 4 1).2.1 (lamAt sField 4 1).2.2 := ⟨_, rfl⟩
    have two : ∀ x y : V, [x, y].length ≤ sizeLine := fun _ _ => sz 2 (by decide)
    have new : ∀ {G : Hp} {p : Addr} {o : HO}, G p = none → LamX.Tabs T G → LamX.Tabs T (upd G p o) := fun n t => LamV.tabs_new t n
    -- the first two
    refine ⟨fun σ H' => ∃ (f1 f2 p1 p2 L c2 : Addr) (d2 : Value), σ = [some (.ref pa), some (.ref L), none, none] ∧ LamX.ExtN H4 H' ∧ LamX.Tabs T H' ∧ H' L = some (.lst [.ref p1, .ref p2]) ∧ H' p1 = some (.tup [.str "invalidlength", .ref f1]) ∧ H' p2 = some (.tup [.str "invalidcount", .ref f2]) ∧
      H' f2 = some (LamV.LamO f2 (R2 d2 c2)) ∧ LamV.dInt 0 d2 H' ∧ H' c2 = some (LamX.CodeO c2 qf), ?_, ?_⟩
    · refine ⟨tb4, fun f1 d1 c1 H5 x5 t5 _ _ _ => ⟨two _ _, fun p1 n1 => ?_⟩⟩
      have t6 := new (o := .tup [.str "invalidlength", .ref f1]) n1 t5
      have x6 := LamV.ext_new (o := .tup [.str "invalidlength", .ref f1]) x5 n1
      have e6 : upd H5 p1 (.tup [.str "invalidlength", .ref f1]) p1 = some (.tup [.str "invalidlength", .ref f1]) := upd_same
      generalize upd H5 p1 (.tup [.str "invalidlength", .ref f1]) = H6 at *
      refine ⟨t6, fun f2 d2 c2 H7 x7 t7 D7 e7 g7 => ⟨two _ _, fun p2 n2 => ⟨two _ _, fun L nL => ?_⟩⟩⟩
      have s8 := same_new (o := .tup [.str "invalidcount", .ref f2]) n2
      have e8 : upd H7 p2 (.tup [.str "invalidcount", .ref f2]) p2 = some (.tup [.str "invalidcount", .ref f2]) := upd_same
      generalize upd H7 p2 (.tup [.str "invalidcount", .ref f2]) = H8 at *
      have s9 := same_new (o := .lst [.ref p1, .ref p2]) nL
      have s79 := s8.trans s9
      refine ⟨f1, f2, p1, p2, L, c2, d2, rfl, (x6.trans x7).trans (LamX.ExtN.of s79), t7.ext s79, upd_same, s79 _ _ (x7 _ _ e6 fun ps z => by cases z), s9 _ _ e8, ?_, ?_, ?_⟩
      · rw [hR2]
        exact s79 _ _ e7
      · obtain ⟨t, e, ht⟩ := D7
        exact ⟨t, e, s79 _ _ ht⟩
      · rw [← hq1]
        exact s79 _ _ g7
    · rintro σ H5 ⟨f1, f2, p1, p2, L, c2, d2, rfl, x5, t5, eL, e1, e2, ef, D5, g5⟩
      refine ⟨fun σ H' => ∃ (L2 p3 p4 : Addr), σ = [some (.ref pa), some (.ref L2), none, none] ∧ LamX.ExtN H5 H' ∧ LamX.Tabs T H' ∧ H' L2 = some (.lst [.ref p1, .ref p2, .ref p3, .ref p4]), ?_, ?_⟩
      · refine ⟨_, rfl, t5, fun f3 d3 c3 H6 x6 t6 _ _ _ => ⟨two _ _, fun p3 n3 => ?_⟩⟩
        have t7 := new (o := .tup [.str "invalidcommand", .ref f3]) n3 t6
        have x7 := LamV.ext_new (o := .tup [.str "invalidcommand", .ref f3]) x6 n3
        generalize upd H6 p3 (.tup [.str "invalidcommand", .ref f3]) = H7 at *
        refine ⟨t7, fun f4 d4 c4 H8 x8 t8 _ _ _ => ⟨two _ _, fun p4 n4 => ⟨two _ _, fun L1 nL => ?_⟩⟩⟩
        have s9 := (same_new (o := .tup [.str "invalidfile", .ref f4]) n4).trans (same_new (o := .lst [.ref p3, .ref p4]) nL)
        have x9 := (x7.trans x8).trans (LamX.ExtN.of s9)
        refine ⟨L, L1, _, _, rfl, rfl, x9 _ _ eL (fun ps z => by cases z), upd_same, sz 4 (by decide), fun L2 n2 => ?_⟩
        have s10 := same_new (o := .lst ([.ref p1, .ref p2] ++ [.ref p3, .ref p4])) n2
        exact ⟨L2, p3, p4, rfl, x9.trans (LamX.ExtN.of s10), (t8.ext s9).ext s10, upd_same⟩
      · rintro σ H6 ⟨L2, p3, p4, rfl, x6, t6, eL6⟩
        have no : ∀ (o : List V) (ps : Array Value), HO.tup o ≠ .tbl ps := fun o ps z => by cases z
        have e1 := x6 _ _ e1 (no _)
        have e2 := x6 _ _ e2 (no _)
        have ef := x6 _ _ ef (fun ps z => by cases z)
        have g6 := x6 _ _ g5 LamX.codeO_ne
        have D6 : LamV.dInt 0 d2 H6 := by
          obtain ⟨t, e, ht⟩ := D5
          exact ⟨t, e, x6 _ _ ht fun ps z => by cases z⟩
        have xx : LamX.ExtN H H6 := (x4.trans x5).trans x6
        have hd6 := xx _ _ hd fun ps z => by cases z
        refine ⟨_, rfl, L2, _, rfl, SqL.of eL6, ?_⟩
        refine for_it walk_list (fun i σ H' => i ≤ 1 ∧ H' = H6 ∧ ∃ v2 v3 : Option V, σ = [some (.ref pa), some (.ref L2), v2, v3]) ⟨Nat.zero_le _, rfl, _, _, rfl⟩ (fun i σ H' _ h => by rw [h.2.1]; exact SqL.of eL6) ?_ ?_
        · rintro i x σ G G' _ ⟨hi, rfl, v2, v3, rfl⟩ ⟨rfl, gx⟩
          match i, hi, gx with
          | 0, _, gx =>
            cases gx
            refine ⟨p1, _, rfl, SqT.of e1, rfl, _, _, rfl, _, _, rfl, rfl, ?_⟩
            exact ⟨_, rfl, _, rfl, rfl, _, _, hd6, er_w w0, rfl, _, rfl, ifF (by decide +kernel) ⟨Nat.le_refl _, rfl, _, _, rfl⟩⟩
          | 1, _, gx =>
            cases gx
            refine ⟨p2, _, rfl, SqT.of e2, rfl, _, _, rfl, _, _, rfl, rfl, ?_⟩
            refine ⟨_, rfl, _, rfl, rfl, _, _, hd6, er_w w0, rfl, _, rfl, ifT (by decide +kernel) ?_⟩
            refine ⟨f2, d2, c2, rfl, ?_, D6, ?_, ?_⟩
            · rw [← hR2]
              exact ef
            · rw [hq1]
              exact g6
            · exact ⟨_, rfl, rfl, _, _, hd6, er_n, q _ xx t6⟩
        · rintro σ G ⟨hi, _⟩
          exact absurd (show 4 ≤ 1 from hi) (by decide)
end
/-- an error that `_law_tried` tells: its word and its field -/
structure ErOkT (P : Program) (w : World) (K : PySem.W.Frag) (mg : Str → Option Value) (base : Heap) (T : List (Addr × Str)) (CW fF : Addr) (fdF : FuncData) (C : Addr) (fld wd : Str) : Prop where
  ex : PySem.W.exmOne K (.ref C) (.ref CW) = some true
  xf : XfC K C
  nw : PySem.W.findIn K (.ref C) "word" = some none
  nf : (("word" : Str) == fld) = false
  FF : ∀ a dd, FnT P w K mg base 2 fF fdF ["_law_e"] (Zh C a dd) (spFieldT T a dd fld wd)
theorem ErOk.toT {P : Program} {w : World} {K : PySem.W.Frag} {mg : Str → Option Value} {base : Heap} {T : List (Addr × Str)} {CW fF : Addr} {fdF : FuncData} {C : Addr} {fld wd : Str} (e : ErOk P w K mg base CW fF fdF C fld wd) : ErOkT P w K mg base T CW fF fdF C fld wd :=
  ⟨e.ex, e.T, e.nw, e.nf, fun a dd => (e.FF a dd).toT (by decide) spField_T⟩
/-- what `_law_tried` makes of what it calls, over tables of code objects -/
def TriedT (T : List (Addr × Str)) (Er : Addr → Str → Str → Prop) : (XK → Hp → VK → Prop) → Hp → VK → Prop := fun tl H Q =>
  tl (fun cls d H' => ∃ (C dd : Addr) (fld wd : Str) (n : Int), Er C fld wd ∧ cls = .ref C ∧ d = some dd ∧ H' dd = some (.xd (erF fld wd n)) ∧ LamX.Tabs T H' ∧ ∀ H2 p, LamX.ExtN H' H2 → LamX.Tabs T H2 → H2 p = some (.tup [.str wd, .int n]) → Q (.ref p) H2) H
    (fun v H' => [V.str "", v].length ≤ sizeLine ∧ ∀ p, H' p = none → Q (.ref p) (upd H' p (.tup [.str "", v])))
section
variable {X : Cx}
set_option maxHeartbeats 4000000 in
theorem triedT_gives {T : List (Addr × Str)} {q : Str} {g CW fF : Addr} {cdg : Value} {fdF : FuncData} (hr : Room 3 X.A) (gW : X.mg "WindowError" = some (.ref CW))
    (gF : X.mg "_law_field" = some (.ref fF)) (kF : PySem.W.keepIn X.K (.ref fF) = true) (bF : L2.Binds X.K fdF ["_law_e"] []) :
    LamN.Gives X ["_law_ask", "_law_e"] "_law_tried" (defScope sTried) g cdg (defBody sTried) "_law_ask" q (TriedT T (ErOkT X.prog X.w X.K X.mg X.base T CW fF fdF)) := by
  intro f c' s H Q tl act hc h
  have two : 2 ≤ sizeLine := by decide
  refine ⟨_, pss_one (ps_try_N (X := (cxOf C8.CX0 X.prog X.w X.K X.mg X.base ["_law_ask", "_law_e"] "_law_tried" (defScope sTried) g cdg X.A X.stack s H C8.E0).nox) (i := 1) (c := .ref CW)
      (tb := fun W D σ H => ∃ Ech : XK, (∀ cls d σ' H', Ech cls d H' → W cls d σ' H') ∧ σ[0]? = some (some (.ref f)) ∧ H c' = some (LamX.CodeO c' q) ∧ tl Ech H (fun v H' => [V.str "", v].length ≤ sizeLine ∧ ∀ p, H' p = none → D.rt (.ref p) (upd H' p (.tup [.str "", v]))))
      (ts := fun a cls d D σ H => ∃ (C dd : Addr) (fld wd : Str), ErOkT X.prog X.w X.K X.mg X.base T CW fF fdF C fld wd ∧ cls = .ref C ∧ d = some dd ∧ (∃ σ0 : L2.St, σ = σ0.set 1 (some (.ref a))) ∧ LamX.Tabs T H ∧ ∃ n : Int, H dd = some (.xd (erF fld wd n)) ∧ ∀ H2 p, LamX.ExtN H H2 → LamX.Tabs T H2 → H2 p = some (.tup [.str wd, .int n]) → D.rt (.ref p) H2)
      rfl rfl scTried.nd rfl rfl ⟨rfl, by decide, .inl gW⟩ (fun W pn xe tk _ => ?_) (fun a oe cls d pn hz hf => ?_)), ?_⟩
  · refine ⟨fun pins s' σ H' D I h' => ?_⟩
    obtain ⟨Ech, hW, h1, h2, h3⟩ := h'
    exact (pss_one (ps_ret (pe_tup (pa_cons pe_str (pa_cons (act W pn xe Ech _ _ tk hW) pa_nil))))).run pins s' σ H' D I ⟨h1, h2, h3⟩
  · refine ⟨fun pins s' σ H' D I h' => ?_⟩
    obtain ⟨C, dd, fld, wd, ok, rfl, rfl, ⟨σ0, rfl⟩, tb, n, h2, h3⟩ := h'
    have h1 : (σ0.set 1 (some (.ref a)))[1]? = some (some (V.ref a)) := by
      have l2 : (σ0.set 1 (some (.ref a))).length = 2 := I.len
      rw [List.length_set] at l2
      rw [List.getElem?_set_self (by omega)]
    have hot : L2H.Hot1 ((cxOf C8.CX0 X.prog X.w X.K X.mg X.base ["_law_ask", "_law_e"] "_law_tried" (defScope sTried) g cdg X.A X.stack s H C8.E0).nox.suite a ((a, oe) :: pn)).A (a, oe) := by
      obtain ⟨vs, hv⟩ := hf
      exact ⟨rfl, vs, hv, hz.2.2 vs hv⟩
    have hrm : L2H.RoomH 2 ((cxOf C8.CX0 X.prog X.w X.K X.mg X.base ["_law_ask", "_law_e"] "_law_tried" (defScope sTried) g cdg X.A X.stack s H C8.E0).nox.suite a ((a, oe) :: pn)).A := ⟨by have := hr.dp; show X.A.depth + 1 + 3 * 2 + 5 < _; omega, by have := hr.un; show X.A.units + 3 + 16 * 2 + 200 < _; omega⟩
    refine (pss_one (ps_ret (pe_tup (pa_cons (pe_xfP (X := ((cxOf C8.CX0 X.prog X.w X.K X.mg X.base ["_law_ask", "_law_e"] "_law_tried" (defScope sTried) g cdg X.A X.stack s H C8.E0).nox.suite a ((a, oe) :: pn))) ok.xf ok.nw hz.zc hf List.mem_cons_self (pv 1)) (pa_cons (pe_callT (X := ((cxOf C8.CX0 X.prog X.w X.K X.mg X.base ["_law_ask", "_law_e"] "_law_tried" (defScope sTried) g cdg X.A X.stack s H C8.E0).nox.suite a ((a, oe) :: pn))) (p := (a, oe)) (ok.FF a dd) hrm List.mem_cons_self hot ⟨rfl, hz.zc, hf⟩ (by rfl) gF kF bF (pa_cons (pv 1) pa_nil)) pa_nil))))).run pins s' _ H' D I ?_
    refine ⟨_, h1, rfl, _, _, h2, er_w ok.nf, _, h1, n, rfl, h2, tb, fun H2 x2 t2 => ⟨two, fun p hp => ?_⟩⟩
    exact h3 _ p (LamV.ext_new x2 hp) (LamV.tabs_new t2 hp) upd_same
  · exact ⟨_, fun cls d σ' H' ⟨C, dd, fld, wd, n, ok, e1, e2, e3, e5, e4⟩ => ⟨by rw [e1]; exact ok.ex, fun a na => ⟨C, dd, fld, wd, ok, e1, e2, ⟨σ', rfl⟩, e5, n, e3, e4⟩⟩, rfl, hc, h⟩
end
theorem okN {P : Program} {w : World} {K : PySem.W.Frag} {mg : Str → Option Value} {base : Heap} {x qual : Str} {st : Stmt} {f : Addr} {fd : FuncData} {N ps : List Str} {k : Nat} {sp : Sp} (F : L2.Fun K x qual st f fd) (S : FnScope N ps (defScope st)) (len : ∀ vs H Q E, sp vs H Q E → vs.length = ps.length)
    (body : ∀ cdv A outer s H vs Q E, Room k (A.deeper (envOfC qual (defScope st) s.heap.objs.size f cdv)) → sp vs H Q E →
      ∃ t, PSs (cxOf (L2N.CX P w) P w K mg base N qual (defScope st) f cdv A outer s H E) (defBody st) t ∧ t { nx := fun _ H' => Q .non H', rt := Q } (L2.start N vs) H) : FnOk P w K mg base (L2N.CX P w) (k + 1) f fd ps sp := by
  obtain ⟨_, _, _, _, _, _, cdv, _, _, rfl, lk, hcd⟩ := F.ex
  exact fn_of lk hcd S len fun A outer s H vs Q E hr h => body cdv A outer s H vs Q E hr h
/-- a def that may raise, its errors with the context None -/
structure CalN (P : Program) (w : World) (K : PySem.W.Frag) (mg : Str → Option Value) (base : Heap) (k : Nat) (x : Str) (sp : Sp) : Prop where
  ex : ∃ (f : Addr) (fd : FuncData) (ps : List Str), FnOk P w K mg base (L2N.CX P w) k f fd ps sp ∧ mg x = some (.ref f) ∧ PySem.W.keepIn K (.ref f) = true ∧ Binds K fd ps []
theorem pe_cN {X : Cx} {W : WX} {E : XK} {k j : Nat} {x : Str} {sp : Sp} {e : Expr} {es : List Expr} {t : TA} {p pos : Pos} (c : CalN X.prog X.w X.K X.mg X.base k x sp) (tk : L2N.Takes X W) (hW : ∀ cls d σ H, E cls d H → W cls d σ H) (hr : Room j X.A) (hk : k ≤ j) (hg : Gl X x) (ha : PA X (e :: es) t)
    (hdb : (x == ("__debug__" : Str)) = false := by decide) (he : starEach (e :: es) X.env = (false, eval e X.env) :: starEach es X.env := by rfl) (hpl : (backTo pos (starEach es X.env)).any (·.1) = false := by rfl) :
    PE X (.Call (.Name x p) (e :: es) [] pos) (tCall sp [] E t) := by
  obtain ⟨f, fd, ps, F, hm, kp, b⟩ := c.ex
  exact pe_call F (hr.mono hk) hg hm kp b .nil (L2N.passes_call tk hW) ha hdb he hpl
end Lw
set_option Elab.async false
set_option linter.all false
set_option maxRecDepth 100000
/-! min and max of a pair, the number of different ints of a list, a class made by a local name -/
namespace Lw
open PySem PySem.Spec PyProof.Rows L2
section
variable {X : Cx}
/-- the pair's items -/
theorem pair_of {x y : Int} {its : List Value} (r : Vals [V.int x, V.int y] its) : ∃ t u, its = [.int x t, .int y u] := by
  match its, r with
  | [_, _], .cons ⟨t, rfl⟩ (.cons ⟨u, rfl⟩ .nil) => exact ⟨t, u, rfl⟩
theorem pair_at {x y : Int} {t u : Tok} {i : Nat} {v : Value} (h : #[Value.int x t, .int y u][i]? = some v) : ∃ k, v = .int (if i = 0 then x else y) k := by
  match i, h with
  | 0, h => exact ⟨t, (Option.some.inj h).symm⟩
  | 1, h => exact ⟨u, (Option.some.inj h).symm⟩
/-- its iterator: what a walk over it asks -/
theorem pair_walk {s : Shared} {a : Addr} {items : Array Value} (tup : s.heap.IsTuple a items) :
    (Heap.IsTupleIter (s.heap.push { cls := .type "tuple_iterator", data := .fields #[.ref a, .int 0 0] }) s.heap.objs.size a 0 ∧ Heap.IsTuple (s.heap.push { cls := .type "tuple_iterator", data := .fields #[.ref a, .int 0 0] }) a items) ∧
      a < s.heap.objs.size ∧ ∀ b ∈ [s.heap.objs.size, a], b < (s.heap.push { cls := .type "tuple_iterator", data := .fields #[.ref a, .int 0 0] }).objs.size := by
  have lt : a < s.heap.objs.size := tup.elim fun _ q => Heap.lt_size q.1
  refine ⟨⟨⟨_, Heap.get?_push_size _ rfl, rfl, rfl⟩, tup.push _⟩, lt, fun b hb => ?_⟩
  rw [Heap.size_push]
  simp only [List.mem_cons, List.not_mem_nil, or_false] at hb
  rcases hb with rfl | rfl
  · exact Nat.lt_succ_self _
  · exact Nat.lt_succ_of_lt lt
theorem kept_on {s : Shared} {o : Obj} {h' : Heap} (hk : ∀ b u, b ∉ [s.heap.objs.size] → (s.heap.push o).get? b = some u → h'.get? b = some u) : ∀ b u, s.heap.get? b = some u → h'.get? b = some u := by
  intro b u q
  refine hk b u (fun m => ?_) (Heap.get?_push_of_some _ q)
  rw [List.mem_singleton.mp m] at q
  exact Nat.lt_irrefl _ (Heap.lt_size q)
def rMin2 (K : PySem.W.Frag) : List V → Hp → VK → Prop := fun vs H Q => ∃ (a : Addr) (x y : Int), vs = [.ref a] ∧ SqT K H a [.int x, .int y] ∧ Q (.int (if y < x then y else x)) H
def rMax2 (K : PySem.W.Frag) : List V → Hp → VK → Prop := fun vs H Q => ∃ (a : Addr) (x y : Int), vs = [.ref a] ∧ SqT K H a [.int x, .int y] ∧ Q (.int (if x < y then y else x)) H
theorem cr_min2 (calm : X.calm = true) : CallR X (.builtin "min") (rMin2 X.K) := by
  rintro pins s σ H _ us Q I r ⟨a, x, y, rfl, hq, q⟩
  obtain ⟨its, rv, tup, _⟩ := I.tuple hq
  obtain ⟨t, u, rfl⟩ := pair_of rv
  obtain ⟨z, lt, fp⟩ := pair_walk tup
  rw [Vals.ref1 r]
  refine call_min_walk (wpAny_pyIter_tuple tup ⟨_, _, _, _, _, _, _, rfl, Walks.tuple (A := X.A.in1) (I.ok.hd calm) _ a (Nat.ne_of_lt lt) _, z, fp, Nat.succ_pos 1, CmpOf.ints_lt (fun i => if i = 0 then x else y) (fun i v => pair_at), fun v h' tk hv hk => ?_⟩)
  have e : argBest (fun i j => decide ((if i = 0 then x else y) < if j = 0 then x else y)) (#[Value.int x t, .int y u].size - 1) = if y < x then 1 else 0 := by
    show (if decide (y < x) = true then 1 else 0) = _
    simp only [decide_eq_true_eq]
  replace hv : #[Value.int x t, .int y u][argBest (fun i j => decide ((if i = 0 then x else y) < if j = 0 then x else y)) (#[Value.int x t, .int y u].size - 1)]? = some v := hv
  rw [e] at hv
  refine ⟨.int (if y < x then y else x), H, I.kept (t' := tk) (kept_on hk), ?_, q⟩
  by_cases c : y < x
  · rw [if_pos c] at hv ⊢
    exact ⟨u, (Option.some.inj hv).symm⟩
  · rw [if_neg c] at hv ⊢
    exact ⟨t, (Option.some.inj hv).symm⟩
theorem cr_max2 (calm : X.calm = true) : CallR X (.builtin "max") (rMax2 X.K) := by
  rintro pins s σ H _ us Q I r ⟨a, x, y, rfl, hq, q⟩
  obtain ⟨its, rv, tup, _⟩ := I.tuple hq
  obtain ⟨t, u, rfl⟩ := pair_of rv
  obtain ⟨z, lt, fp⟩ := pair_walk tup
  rw [Vals.ref1 r]
  refine call_max_walk (wpAny_pyIter_tuple tup ⟨_, _, _, _, _, _, _, rfl, Walks.tuple (A := X.A.in1) (I.ok.hd calm) _ a (Nat.ne_of_lt lt) _, z, fp, Nat.succ_pos 1, CmpOf.ints_gt (fun i => if i = 0 then x else y) (fun i v => pair_at), fun v h' tk hv hk => ?_⟩)
  have e : argBest (fun i j => decide ((if i = 0 then x else y) > if j = 0 then x else y)) (#[Value.int x t, .int y u].size - 1) = if x < y then 1 else 0 := by
    show (if decide (y > x) = true then 1 else 0) = _
    simp only [decide_eq_true_eq]
  replace hv : #[Value.int x t, .int y u][argBest (fun i j => decide ((if i = 0 then x else y) > if j = 0 then x else y)) (#[Value.int x t, .int y u].size - 1)]? = some v := hv
  rw [e] at hv
  refine ⟨.int (if x < y then y else x), H, I.kept (t' := tk) (kept_on hk), ?_, q⟩
  by_cases c : x < y
  · rw [if_pos c] at hv ⊢
    exact ⟨u, (Option.some.inj hv).symm⟩
  · rw [if_neg c] at hv ⊢
    exact ⟨t, (Option.some.inj hv).symm⟩
/-! ### len(set(xs)) -/
theorem met_nodup (val : Nat → Int) : ∀ i, (firstMet val i).Nodup := by
  intro i
  induction i with
  | zero => exact List.nodup_nil
  | succ i ih =>
    rw [firstMet_succ]
    unfold step_dedup
    split
    · exact ih
    · rename_i no
      rw [List.nodup_append]
      refine ⟨ih, by simp, fun a ha b hb => ?_⟩
      rw [List.mem_singleton.mp hb]
      rintro rfl
      exact no (List.any_eq_true.mpr ⟨_, ha, by simp⟩)
theorem met_mem {ns : List Int} (k : Int) : k ∈ firstMet (fun i => ns.getD i 0) ns.length ↔ k ∈ ns := by
  have all : (List.range ns.length).map (fun i => ns.getD i 0) = ns := by
    apply List.ext_getElem?
    intro j
    rw [List.getElem?_map]
    by_cases hj : j < ns.length
    · rw [List.getElem?_range hj]
      simp [hj]
    · rw [List.getElem?_eq_none (by simp; omega), List.getElem?_eq_none (by omega)]
      rfl
  have h := firstMet_any (fun i => ns.getD i 0) ns.length k
  rw [all] at h
  have iff_any : ∀ l : List Int, (l.any (· == k) = true ↔ k ∈ l) := fun l => by simp
  rw [← iff_any, h, iff_any]
def tLenSet (K : PySem.W.Frag) (ta : TE) : TE := fun σ H Q => ta σ H fun x H1 => ∃ (l : Addr) (ns : List Int), x = .ref l ∧ SqL K H1 l (ns.map V.int) ∧ ns.length ≤ 4000 ∧ ∀ ds : List Int, ds.Nodup → (∀ k, k ∈ ds ↔ k ∈ ns) → Q (.int (ds.length : Nat)) H1
theorem pe_lenSetA {a : Expr} {ta : TE} {p p2 q pos : Pos} (g1 : Gl X "len") (m1 : X.mg "len" = none) (g2 : Gl X "set") (m2 : X.mg "set" = none) (ha : PE X a ta) (calm : X.calm = true := by rfl)
    (na : starEach [a] X.env = (false, eval a X.env) :: starEach [] X.env := by rfl) : PE X (.Call (.Name "len" p) [.Call (.Name "set" p2) [a] [] q] [] pos) (tLenSet X.K ta) := by
  constructor
  intro pins s σ H Q I h
  refine Call_ (ld_blt I g1 m1 boot_len (callWith_builtin1 (args_cons (Call_ (ld_blt I g2 m2 boot_set (callWith_type1 (args_cons (wpAny_mono (ha.run pins s σ H _ I h) ?_ fun _ _ z => z) na) na rfl))) rfl) rfl rfl))
  rintro v s1 ⟨_, H1, I1, rv, l, ns, rfl, hq, hl, go⟩
  cases rv
  obtain ⟨its, vals, lst, _⟩ := I1.list hq
  have len : its.toArray.size = ns.length := by
    rw [List.size_toArray, ← vals.length, List.length_map]
  refine args_nil (call_set_list (I1.ok.hd calm) lst.isList (by rw [List.toList_toArray]; exact RZ.intsAre_vals vals) (by rw [len]; unfold scanBound; omega) fun g tk st up => args_nil ?_)
  rw [len] at st
  obtain ⟨o, es, ep, t, get, exact_, dat, _, _, _, fits, num⟩ := st
  have J : Inv X pins σ H1 { s1 with heap := g, toks := tk } := I1.kept fun b u z => up b u (Heap.lt_size z) z
  have short := firstMet_length_le (fun i => ns.getD i 0) ns.length
  refine call_len_set get exact_ dat fits (by rw [num]; omega) ⟨.int ((firstMet (fun i => ns.getD i 0) ns.length).length : Nat), H1, J.tok _, ⟨_, by rw [num]⟩, go _ (met_nodup _ _) met_mem⟩
/-! ### a class in a slot, made -/
def tMakeL (i : Nat) (C : Addr) (sp : Sp) (E : XK) (t : TA) : TE := fun σ H Q => σ[i]? = some (some (.ref C)) ∧ tMake C sp [] E t σ H Q
theorem pe_makeL {CX : CXT} {k i : Nat} {f C : Addr} {fd : FuncData} {ps : List Str} {sp : Sp} {E : XK} {x : Str} {p pos : Pos} {e : Expr} {es : List Expr} {t : TA} (M : Mk X.K C f) (F : FnOk X.prog X.w X.K X.mg X.base CX k f fd ps sp) (hr : Room (k + 1) X.A)
    (hN : X.N[i]? = some x) (hv : Vis X.env.scope x) (hb : Binds X.K fd ps []) (hx : Passes CX X E) (ha : PA X (e :: es) t) (d1 : (x == ("__debug__" : Str)) = false := by decide) (d2 : (x == ("__classdict__" : Str)) = false := by decide)
    (he : starEach (e :: es) X.env = (false, eval e X.env) :: starEach es X.env := by rfl) (hpl : (backTo pos (starEach es X.env)).any (·.1) = false := by rfl) : PE X (.Call (.Name x p) (e :: es) [] pos) (tMakeL i C sp E t) := by
  constructor
  rintro pins s σ H Q I ⟨slot, ht⟩
  refine wpAny_Call_Name_kw (wpAny_mono ((pe_var (pos := p) hN hv d1 d2).run pins s σ H (fun v G => v = .ref C ∧ G = H) I ⟨_, slot, rfl, rfl⟩) ?_ fun _ _ z => z)
  rintro v s1 ⟨_, G, I1, rv, rfl, eG⟩
  rw [eG] at I1
  cases rv
  refine PySem.W.callWith_K (h₀ := X.base) I.ok.mod.kin M.kp (wpAny_mono (ha.run pos pins s1 σ H _ I1 ht) ?_ fun _ _ z => z) he hpl
  rintro us s2 ⟨vs, G2, I2, r, q⟩
  exact ⟨I2.kIn, run_make M F hr hb .nil hx I2 r q⟩
end
end Lw
set_option Elab.async false
set_option linter.all false
/-! sums, products and powers of tables of numbers -/
namespace Lw
def sm : Nat → (Nat → Nat) → Nat
  | 0, _ => 0
  | n + 1, f => sm n f + f n
theorem sm_congr {n : Nat} {f g : Nat → Nat} (h : ∀ k, k < n → f k = g k) : sm n f = sm n g := by
  induction n with
  | zero => rfl
  | succ n ih =>
    show sm n f + f n = sm n g + g n
    rw [ih fun k hk => h k (Nat.lt_succ_of_lt hk), h n (Nat.lt_succ_self n)]
theorem sm_add (n : Nat) (f g : Nat → Nat) : sm n (fun k => f k + g k) = sm n f + sm n g := by
  induction n with
  | zero => rfl
  | succ n ih =>
    show sm n (fun k => f k + g k) + (f n + g n) = sm n f + f n + (sm n g + g n)
    rw [ih]
    omega
theorem sm_mulr (n : Nat) (f : Nat → Nat) (c : Nat) : sm n (fun k => f k * c) = sm n f * c := by
  induction n with
  | zero => exact (Nat.zero_mul c).symm
  | succ n ih =>
    show sm n (fun k => f k * c) + f n * c = (sm n f + f n) * c
    rw [ih, Nat.add_mul]
theorem sm_mull (n : Nat) (f : Nat → Nat) (c : Nat) : sm n (fun k => c * f k) = c * sm n f := by
  rw [Nat.mul_comm c, ← sm_mulr]
  exact sm_congr fun k _ => Nat.mul_comm _ _
theorem sm_zero (n : Nat) : sm n (fun _ => 0) = 0 := by
  induction n with
  | zero => rfl
  | succ n ih => exact ih
theorem sm_comm (n m : Nat) (f : Nat → Nat → Nat) : sm n (fun i => sm m (fun j => f i j)) = sm m (fun j => sm n (fun i => f i j)) := by
  induction n with
  | zero => exact (sm_zero m).symm
  | succ n ih =>
    show sm n (fun i => sm m (fun j => f i j)) + sm m (fun j => f n j) = sm m (fun j => sm n (fun i => f i j) + f n j)
    rw [ih, sm_add]
theorem sm_one {n b : Nat} (x : Nat → Nat) (h : b < n) : sm n (fun k => (if k = b then 1 else 0) * x k) = x b := by
  induction n with
  | zero => exact absurd h (Nat.not_lt_zero b)
  | succ n ih =>
    show sm n (fun k => (if k = b then 1 else 0) * x k) + (if n = b then 1 else 0) * x n = x b
    by_cases e : n = b
    · subst e
      rw [if_pos rfl, Nat.one_mul]
      have : sm n (fun k => (if k = n then 1 else 0) * x k) = 0 := by
        refine (sm_congr (g := fun _ => 0) fun k hk => ?_).trans (sm_zero n)
        rw [if_neg (Nat.ne_of_lt hk), Nat.zero_mul]
      rw [this, Nat.zero_add]
    · rw [if_neg e, Nat.zero_mul, Nat.add_zero]
      exact ih (by omega)
theorem sm_list (n : Nat) (f : Nat → Nat) : ((List.range n).map f).sum = sm n f := by
  induction n with
  | zero => rfl
  | succ n ih =>
    rw [List.range_succ, List.map_append, List.sum_append, ih]
    show sm n f + (f n + 0) = sm n f + f n
    omega
theorem sm_int (n : Nat) (f : Nat → Nat) : ((List.range n).map fun k => ((f k : Nat) : Int)).sum = ((sm n f : Nat) : Int) := by
  induction n with
  | zero => rfl
  | succ n ih =>
    rw [List.range_succ, List.map_append, List.sum_append, ih]
    show ((sm n f : Nat) : Int) + (((f n : Nat) : Int) + 0) = ((sm n f + f n : Nat) : Int)
    omega
theorem sm_le {n : Nat} {f : Nat → Nat} {c : Nat} (h : ∀ k, k < n → f k ≤ c) : sm n f ≤ n * c := by
  induction n with
  | zero => exact Nat.zero_le _
  | succ n ih =>
    show sm n f + f n ≤ (n + 1) * c
    rw [Nat.add_mul, Nat.one_mul]
    exact Nat.add_le_add (ih fun k hk => h k (Nat.lt_succ_of_lt hk)) (h n (Nat.lt_succ_self n))
abbrev Mx := Nat → Nat → Nat
def mul (n : Nat) (A B : Mx) : Mx := fun i j => sm n fun k => A i k * B k j
def pw (n : Nat) (A : Mx) : Nat → Mx
  | 0 => fun i j => if i = j then 1 else 0
  | k + 1 => mul n (pw n A k) A
theorem mul_congr {n : Nat} {A A' B B' : Mx} {i j : Nat} (h1 : ∀ k, k < n → A i k = A' i k) (h2 : ∀ k, k < n → B k j = B' k j) : mul n A B i j = mul n A' B' i j := sm_congr fun k hk => by rw [h1 k hk, h2 k hk]
theorem mul_assoc (n : Nat) (A B C : Mx) (i j : Nat) : mul n (mul n A B) C i j = mul n A (mul n B C) i j := by
  show sm n (fun k => sm n (fun l => A i l * B l k) * C k j) = sm n (fun l => A i l * sm n (fun k => B l k * C k j))
  rw [show (fun k => sm n (fun l => A i l * B l k) * C k j) = fun k => sm n (fun l => A i l * B l k * C k j) from funext fun k => (sm_mulr n _ _).symm, sm_comm]
  refine sm_congr fun l _ => ?_
  rw [← sm_mull]
  exact sm_congr fun k _ => Nat.mul_assoc _ _ _
theorem one_mul {n : Nat} (A : Mx) {i j : Nat} (h : i < n) : mul n (pw n A 0) A i j = A i j := by
  show sm n (fun k => (if i = k then 1 else 0) * A k j) = A i j
  rw [← sm_one (fun k => A k j) h]
  exact sm_congr fun k _ => by
    by_cases e : k = i
    · rw [if_pos e, if_pos e.symm]
    · rw [if_neg e, if_neg (Ne.symm e)]
theorem mul_one {n : Nat} (A B : Mx) {i j : Nat} (h : j < n) : mul n A (pw n B 0) i j = A i j := by
  show sm n (fun k => A i k * (if k = j then 1 else 0)) = A i j
  rw [← sm_one (fun k => A i k) h]
  exact sm_congr fun k _ => Nat.mul_comm _ _
theorem pw_one {n : Nat} (A : Mx) {i j : Nat} (h : i < n) : pw n A 1 i j = A i j := one_mul A h
theorem pw_add {n : Nat} (A : Mx) (a b : Nat) {i j : Nat} (hj : j < n) : pw n A (a + b) i j = mul n (pw n A a) (pw n A b) i j := by
  induction b generalizing j with
  | zero => exact (mul_one (pw n A a) A hj).symm
  | succ b ih =>
    show mul n (pw n A (a + b)) A i j = mul n (pw n A a) (mul n (pw n A b) A) i j
    rw [← mul_assoc]
    exact mul_congr (fun k hk => ih hk) fun _ _ => rfl
theorem mul_le {n : Nat} {A B : Mx} {c d : Nat} {i j : Nat} (h1 : ∀ k, k < n → A i k ≤ c) (h2 : ∀ k, k < n → B k j ≤ d) : mul n A B i j ≤ n * (c * d) := sm_le fun k hk => Nat.mul_le_mul (h1 k hk) (h2 k hk)
theorem pw_le {n : Nat} {A : Mx} (h8 : n ≤ 8) (h : ∀ i j, A i j ≤ 31) (k i j : Nat) : pw n A k i j ≤ 2 ^ (8 * k) := by
  induction k generalizing i j with
  | zero =>
    show (if i = j then 1 else 0) ≤ 1
    split <;> omega
  | succ k ih =>
    refine Nat.le_trans (mul_le (fun k _ => ih i k) fun k _ => h k j) ?_
    have e : 2 ^ (8 * (k + 1)) = 2 ^ (8 * k) * 256 := by
      rw [Nat.mul_add, Nat.pow_add]
    rw [e]
    calc n * (2 ^ (8 * k) * 31) ≤ 8 * (2 ^ (8 * k) * 31) := Nat.mul_le_mul_right _ h8
      _ = 2 ^ (8 * k) * 248 := by rw [← Nat.mul_assoc, Nat.mul_comm 8, Nat.mul_assoc]
      _ ≤ 2 ^ (8 * k) * 256 := Nat.mul_le_mul_left _ (by decide)
theorem pw_log {n : Nat} {A : Mx} (h8 : n ≤ 8) (h : ∀ i j, A i j ≤ 31) (k i j : Nat) : (pw n A k i j).log2 ≤ 8 * k := by
  by_cases z : pw n A k i j = 0
  · rw [z]
    exact Nat.zero_le _
  · have := pw_le h8 h k i j
    exact Nat.le_of_lt_succ ((Nat.log2_lt z).mpr (Nat.lt_of_le_of_lt this (Nat.pow_lt_pow_right (by decide) (Nat.lt_succ_self _))))
/-- numbers of paths by their starts -/
theorem vec_step {n : Nat} (A : Mx) (k : Nat) {i : Nat} (h : i < n) : sm n (fun t => A i t * sm n (fun j => pw n A k t j)) = sm n (fun j => pw n A (k + 1) i j) := by
  rw [show (fun t => A i t * sm n (fun j => pw n A k t j)) = fun t => sm n (fun j => A i t * pw n A k t j) from funext fun t => (sm_mull n _ _).symm, sm_comm]
  refine sm_congr fun j hj => ?_
  rw [Nat.add_comm k 1, pw_add A 1 k hj]
  exact sm_congr fun t _ => by rw [pw_one A h]
/-- powers of a power of two's bits -/
theorem pw_bit {n : Nat} (A : Mx) (e s : Nat) {i j : Nat} (hj : j < n) : (if (e >>> s) % 2 = 1 then mul n (mul n (pw n A (e >>> (s + 1))) (pw n A (e >>> (s + 1)))) A i j else mul n (pw n A (e >>> (s + 1))) (pw n A (e >>> (s + 1))) i j) = pw n A (e >>> s) i j := by
  have h1 : e >>> (s + 1) = (e >>> s) / 2 := by rw [Nat.shiftRight_succ]
  rw [h1]
  generalize e >>> s = q
  by_cases o : q % 2 = 1
  · rw [if_pos o]
    have : q = (q / 2 + q / 2) + 1 := by omega
    conv => rhs; rw [this]
    show _ = mul n (pw n A (q / 2 + q / 2)) A i j
    exact mul_congr (fun k hk => (pw_add A _ _ hk).symm) fun _ _ => rfl
  · rw [if_neg o]
    have : q = q / 2 + q / 2 := by omega
    conv => rhs; rw [this]
    exact (pw_add A _ _ hj).symm
theorem pw_single (A : Mx) (k : Nat) : pw 1 A k 0 0 = (A 0 0) ^ k := by
  induction k with
  | zero => rfl
  | succ k ih =>
    show 0 + pw 1 A k 0 0 * A 0 0 = (A 0 0) ^ (k + 1)
    rw [ih, Nat.zero_add, Nat.pow_succ]
/-! ### edges -/
def cntN (ps : List (Int × Int)) (a b : Nat) : Nat := (ps.filter fun p => decide (p = ((a : Int), (b : Int)))).length
theorem cntN_snoc (ps : List (Int × Int)) (p : Int × Int) (a b : Nat) : cntN (ps ++ [p]) a b = cntN ps a b + (if p = ((a : Int), (b : Int)) then 1 else 0) := by
  unfold cntN
  rw [List.filter_append, List.length_append]
  by_cases h : p = ((a : Int), (b : Int))
  · rw [if_pos h, List.filter_cons_of_pos (by rw [decide_eq_true h])]
    rfl
  · rw [if_neg h, List.filter_cons_of_neg (by rw [decide_eq_false h]; exact Bool.false_ne_true)]
    simp
theorem cntN_le (ps : List (Int × Int)) (a b : Nat) : cntN ps a b ≤ ps.length := List.length_filter_le _ _
/-- one more edge s -> t, summed over the targets -/
theorem out_snoc {n s t : Nat} (ps : List (Int × Int)) (x : Nat → Nat) (ht : t < n) (i : Nat) : sm n (fun j => cntN (ps ++ [((s : Int), (t : Int))]) i j * x j) = sm n (fun j => cntN ps i j * x j) + (if i = s then x t else 0) := by
  have e : sm n (fun j => cntN (ps ++ [((s : Int), (t : Int))]) i j * x j) = sm n (fun j => cntN ps i j * x j + (if i = s then (if j = t then 1 else 0) else 0) * x j) := sm_congr fun j _ => by
    rw [cntN_snoc, Nat.add_mul]
    congr 2
    by_cases h1 : i = s
    · subst h1
      rw [if_pos rfl]
      by_cases h2 : j = t
      · subst h2
        rw [if_pos rfl, if_pos rfl]
      · rw [if_neg h2, if_neg fun z => h2 (by have : (t : Int) = (j : Int) := congrArg Prod.snd z; omega)]
    · rw [if_neg h1, if_neg fun z => h1 (by have : (s : Int) = (i : Int) := congrArg Prod.fst z; omega)]
  rw [e, sm_add]
  congr 1
  by_cases h1 : i = s
  · rw [if_pos h1]
    simp only [if_pos h1]
    exact sm_one x ht
  · rw [if_neg h1]
    simp only [if_neg h1, Nat.zero_mul]
    exact sm_zero n
/-- .. over the sources -/
theorem in_snoc {n s t : Nat} (ps : List (Int × Int)) (x : Nat → Nat) (hs : s < n) (j : Nat) : sm n (fun i => x i * cntN (ps ++ [((s : Int), (t : Int))]) i j) = sm n (fun i => x i * cntN ps i j) + (if j = t then x s else 0) := by
  have e : sm n (fun i => x i * cntN (ps ++ [((s : Int), (t : Int))]) i j) = sm n (fun i => x i * cntN ps i j + (if j = t then (if i = s then 1 else 0) else 0) * x i) := sm_congr fun i _ => by
    rw [cntN_snoc, Nat.mul_add]
    congr 1
    rw [Nat.mul_comm]
    congr 1
    by_cases h1 : j = t
    · subst h1
      rw [if_pos rfl]
      by_cases h2 : i = s
      · subst h2
        rw [if_pos rfl, if_pos rfl]
      · rw [if_neg h2, if_neg fun z => h2 (by have : (s : Int) = (i : Int) := congrArg Prod.fst z; omega)]
    · rw [if_neg h1, if_neg fun z => h1 (by have : (t : Int) = (j : Int) := congrArg Prod.snd z; omega)]
  rw [e, sm_add]
  congr 1
  by_cases h1 : j = t
  · rw [if_pos h1]
    simp only [if_pos h1]
    exact sm_one x hs
  · rw [if_neg h1]
    simp only [if_neg h1, Nat.zero_mul]
    exact sm_zero n
theorem sm_none {n : Nat} (x : Nat → Nat) (i : Nat) : sm n (fun j => cntN [] i j * x j) = 0 := by
  rw [← sm_zero n]
  exact sm_congr fun j _ => Nat.zero_mul _
theorem sm_none' {n : Nat} (x : Nat → Nat) (j : Nat) : sm n (fun i => x i * cntN [] i j) = 0 := by
  rw [← sm_zero n]
  exact sm_congr fun j _ => Nat.mul_zero _
end Lw
set_option Elab.async false
set_option linter.all false
set_option maxRecDepth 100000
namespace Lw
open PySem L2
theorem psOf_at {us : Es} {i : Nat} {e : Addr × Int × Int} (h : us[i]? = some e) : (psOf us)[i]? = some e.2 := by
  unfold psOf
  rw [List.getElem?_map, h]
  rfl
abbrev sCounts : Stmt := inClass (top 17) 13
/-! ### xs[i] read for xs[i] += e -/
theorem get_list {X : Cx} : PGet X (fun o y H Q => ∃ (p : Addr) (xs : List V) (i : Int) (v : V), o = .ref p ∧ y = .int i ∧ SqL X.K H p xs ∧ 0 ≤ i ∧ xs[i.toNat]? = some v ∧ Q v H) := by
  intro pins s σ H o y ov iv Q I ro ri h
  obtain ⟨p, xs, i, v, rfl, rfl, hq, h0, hv, q⟩ := h
  cases ro
  obtain ⟨t, rfl⟩ := ri
  obtain ⟨its, r, pl, hz⟩ := I.list hq
  obtain ⟨u, hu, ru⟩ := r.get hv
  have hl := r.length
  have hn := line63
  have hi : i.toNat < xs.length := (List.getElem?_eq_some_iff.mp hv).1
  refine wpAny_getItem_list pl.isList h0 (by omega) (by simpa using hu) ⟨v, H, I, ru, q⟩
/-! ### numbers of equal pairs -/
def cnt (ps : List (Int × Int)) (a b : Nat) : Int := ((ps.filter fun p => decide (p = ((a : Int), (b : Int)))).length : Int)
theorem cnt_snoc (ps : List (Int × Int)) (p : Int × Int) (a b : Nat) : cnt (ps ++ [p]) a b = cnt ps a b + (if p = ((a : Int), (b : Int)) then 1 else 0) := by
  unfold cnt
  rw [List.filter_append, List.length_append]
  by_cases h : p = ((a : Int), (b : Int))
  · rw [if_pos h, List.filter_cons_of_pos (by rw [decide_eq_true h])]
    rfl
  · rw [if_neg h, List.filter_cons_of_neg (by rw [decide_eq_false h]; exact Bool.false_ne_true)]
    simp
def cntRow (ps : List (Int × Int)) (m a : Nat) : List V := (List.range m).map fun b => V.int (cnt ps a b)
theorem cntRow_len (ps : List (Int × Int)) (m a : Nat) : (cntRow ps m a).length = m := by
  unfold cntRow
  simp
theorem cntRow_at (ps : List (Int × Int)) {m a b : Nat} (h : b < m) : (cntRow ps m a)[b]? = some (V.int (cnt ps a b)) := by
  unfold cntRow
  rw [List.getElem?_map, List.getElem?_range h]
  rfl
theorem cntRow_set (ps : List (Int × Int)) {m a t : Nat} (h : t < m) : (cntRow ps m a).set t (V.int (cnt ps a t + 1)) = cntRow (ps ++ [((a : Int), (t : Int))]) m a := by
  apply List.ext_getElem?
  intro b
  by_cases hb : b < m
  · rw [cntRow_at _ hb, cnt_snoc]
    by_cases e : t = b
    · subst e
      rw [List.getElem?_set_self (by rw [cntRow_len]; exact h), if_pos rfl]
    · rw [List.getElem?_set_ne e, cntRow_at _ hb, if_neg (fun z => e (by have h2 : (t : Int) = (b : Int) := congrArg Prod.snd z; omega)), Int.add_zero]
  · rw [List.getElem?_eq_none (by rw [List.length_set, cntRow_len]; omega), List.getElem?_eq_none (by rw [cntRow_len]; omega)]
theorem cntRow_other (ps : List (Int × Int)) {m a s t : Nat} (h : a ≠ s) : cntRow (ps ++ [((s : Int), (t : Int))]) m a = cntRow ps m a := by
  unfold cntRow
  refine List.map_congr_left fun b _ => ?_
  rw [cnt_snoc, if_neg (fun z => h (by have h2 : (s : Int) = (a : Int) := congrArg Prod.fst z; omega)), Int.add_zero]
theorem cntRow_nil (m a : Nat) : cntRow [] m a = List.replicate m (V.int 0) := by
  unfold cntRow
  rw [show (fun b => V.int (cnt [] a b)) = fun _ => V.int 0 from rfl, List.map_const', List.length_range]
theorem nodup_at {rs : List Addr} (nd : rs.Nodup) {a b : Nat} {r : Addr} (h1 : rs[a]? = some r) (h2 : rs[b]? = some r) : a = b := by
  obtain ⟨l1, e1⟩ := List.getElem?_eq_some_iff.mp h1
  obtain ⟨l2, e2⟩ := List.getElem?_eq_some_iff.mp h2
  rcases Nat.lt_trichotomy a b with h | h | h
  · exact absurd (e1.trans e2.symm) (List.pairwise_iff_getElem.mp nd a b l1 l2 h)
  · exact h
  · exact absurd (e2.trans e1.symm) (List.pairwise_iff_getElem.mp nd b a l2 l1 h)
theorem ixN_of {n : Nat} {i : Int} (h0 : 0 ≤ i) (h : i.toNat < n) : ixN n i = some i.toNat := by
  unfold ixN
  rw [if_pos h0, if_pos (by omega)]
structure CntAt (H : Hp) (p : Addr) (rs : List Addr) (m : Nat) (ps : List (Int × Int)) : Prop where
  ls : H p = some (.lst (rs.map V.ref))
  len : rs.length = m
  row : ∀ (a : Nat) (r : Addr), rs[a]? = some r → H r = some (.lst (cntRow ps m a))
theorem CntAt.same {H H' : Hp} {p : Addr} {rs : List Addr} {m : Nat} {ps : List (Int × Int)} (h : CntAt H p rs m ps) (s : Same H H') : CntAt H' p rs m ps := ⟨s _ _ h.ls, h.len, fun a r e => s _ _ (h.row a r e)⟩
def spCounts (C : Addr) : Sp := fun vs H Q _ => ∃ (g : Addr) (n : Int) (us : Es), vs = [.ref g] ∧ GraphAt C H g n us ∧ 0 ≤ n ∧ n ≤ 100 ∧ us.length ≤ 1000 ∧ (∀ e ∈ us, 0 ≤ e.2.1 ∧ e.2.1 < n ∧ 0 ≤ e.2.2 ∧ e.2.2 < n) ∧
  ∀ p rs H', Same H H' → H p = none → (∀ r ∈ rs, H r = none) → CntAt H' p rs n.toNat (psOf us) → Q (.ref p) H'
section
variable {P : Program} {w : World} {K : PySem.W.Frag} {mg : Str → Option Value} {base : Heap}
theorem scCounts : FnScope ["self", "table", "source", "target"] ["self"] (defScope sCounts) := ⟨rfl, rfl, rfl, by decide +kernel, rfl, by decide +kernel, by decide +kernel⟩
set_option maxHeartbeats 8000000 in
theorem ok_counts {f C : Addr} {mc : Value} {fd : FuncData} {k : Nat} (F : Fun K "counts" "Graph.counts" sCounts f fd) (T : Bi mg) (G : GTxt K mg C mc) : FnOk P w K mg base CX0 (k + 1) f fd ["self"] (spCounts C) := by
  refine F.ok scCounts (fun vs H Q E h => ?_) (fun cdv A outer s H vs Q E hr h => ?_)
  · obtain ⟨g, n, us, rfl, _⟩ := h
    rfl
  · obtain ⟨g, n, us, rfl, ⟨⟨dx, t, h1, h2⟩, ed⟩, n0, n1, hl, rg, q⟩ := h
    refine ⟨_, pss_cons (ps_setLc (i := 1) (own := [("source", 2)]) (g := gName 2) (tt := tYes) (te := tOp rRep (tLst (tCons (tC (.int 0)) tNil)) (tFld K (tVar 0) "state_count")) rfl scCounts.nd rfl rfl (sw_true rfl rfl rfl (by decide +kernel))
          (pi_range1 (by rfl) T.range (pa_cons (pe_fld (pv 0) rfl) pa_nil))
          (blkOk_by (N := ["self", "table", "source", "target"]) (sc := defScope sCounts) (by decide +kernel))
          (fun _ _ _ _ _ => by exact pg_name (i := 2) scCounts.nd rfl (Or.inl rfl))
          (fun _ _ _ _ _ => pts_nil)
          (fun _ _ _ _ _ => by exact pe_op op_rep (pe_lst (pa_cons pe_int pa_nil)) (pe_fld (pv 0) rfl)))
      (pss_cons (ps_for PassesOwn.never rfl (pi_seqA (pe_fld (pv 0) rfl)) (pg_tup rfl (pgs_cons (pg_name (i := 2) scCounts.nd rfl (.inl rfl)) (pgs_cons (pg_name (i := 3) scCounts.nd rfl (.inl rfl)) pgs_nil)))
        (pss_one (ps_augS (pe_ix ix_list (pv 1) (pv 2) (fun _ _ => rfl)) (pv 3) get_list pe_int ip_add set_list)))
      (pss_one (ps_ret (pv 1)))), ?_⟩
    refine ⟨_, rfl, g, C, dx, _, _, rfl, h1, G.cl, G.nS, look_s _ _, n, rfl, by omega, by omega, fun D hD => ?_⟩
    refine lc_it (walk_range (lo := 0) (n := n.toNat)) (fun i H' => ∃ rs : List Addr, rs.length = i ∧ rs.Nodup ∧ Same H H' ∧ H' D = some (.lst (rs.map V.ref)) ∧ ∀ r ∈ rs, H r = none ∧ r ≠ D ∧ H' r = some (.lst (List.replicate n.toNat (V.int 0))))
      ⟨[], rfl, List.nodup_nil, same_upd hD, upd_same, fun r hr => by cases hr⟩ (fun _ _ _ _ => True.intro) ?_ ?_
    · rintro i x H1 H' hi ⟨rs, hrs, nd, sm, eD, hh⟩ ⟨rfl, rfl⟩
      refine ⟨rfl, ?_⟩
      refine ⟨(by show 1 ≤ sizeLine; decide), fun l hl => ?_⟩
      have s1 := same_upd (o := .lst [.int 0]) hl
      refine ⟨_, rfl, g, C, dx, _, _, rfl, s1 _ _ (sm _ _ h1), G.cl, G.nS, look_s _ _, l, n, _, rfl, rfl, upd_same, by omega, by omega, ?_, fun p hp => ?_⟩
      · show 1 * n.toNat ≤ sizeLine
        exact Nat.le_of_lt (small1000 (by omega))
      have s2 := s1.trans (same_upd (o := .lst (List.replicate n.toNat [V.int 0]).flatten) hp)
      have e0 : (List.replicate n.toNat [V.int 0]).flatten = List.replicate n.toNat (V.int 0) := by
        rw [List.flatten_replicate_singleton]
      have eD2 := s2 _ _ eD
      have pD : p ≠ D := fun z => by
        rw [z, s1 _ _ eD] at hp
        cases hp
      refine ⟨_, eD2, ?_, rs ++ [p], by simp [hrs], ?_, ?_, ?_, ?_⟩
      · rw [List.length_map]
        exact small1000 (by omega)
      · rw [List.nodup_append]
        refine ⟨nd, (by simp), fun a ha b hb => ?_⟩
        rw [List.mem_singleton.mp hb]
        intro z
        have := s1 _ _ (hh a ha).2.2
        rw [z, hp] at this
        cases this
      · intro c o ec
        rw [upd_ne (ne_of_none ec hD)]
        exact s2 _ _ (sm _ _ ec)
      · rw [upd_same, List.map_append]
        rfl
      · intro r hr
        rcases List.mem_append.mp hr with hr | hr
        · obtain ⟨a1, a2, a3⟩ := hh r hr
          exact ⟨a1, a2, by rw [upd_ne a2]; exact s2 _ _ a3⟩
        · rw [List.mem_singleton.mp hr]
          refine ⟨(sm.trans s1).free hp, pD, ?_⟩
          rw [upd_ne pD, upd_same, e0]
    · rintro H1 ⟨rs, hrs, nd, sm, eD, hh⟩
      refine ⟨_, rfl, g, C, dx, _, _, rfl, sm _ _ h1, G.cl, G.nE, look_e _ _, t, vsOf us, SqT, rfl, .inr rfl, SqT.of (sm _ _ h2), fun J w => ?_⟩
      have start : CntAt H1 D rs n.toNat ((psOf us).take 0) := ⟨eD, hrs, fun a r e => by
        rw [List.take_zero, cntRow_nil]
        exact (hh r (List.mem_of_getElem? e)).2.2⟩
      refine for_it w (fun i σ H' => ∃ v2 v3 : Option V, σ = [some (.ref g), some (.ref D), v2, v3] ∧ Same H H' ∧ CntAt H' D rs n.toNat ((psOf us).take i)) ⟨_, _, rfl, sm, start⟩ (fun i σ H' _ p => by obtain ⟨_, _, _, s, _⟩ := p; exact SqT.of (s _ _ h2)) ?_ ?_
      · rintro i x σ H2 H' hi ⟨v2, v3, rfl, sm2, ct⟩ ⟨rfl, gx⟩
        obtain ⟨e, he, rfl⟩ := vsOf_at gx
        have mem : e ∈ us := List.mem_of_getElem? he
        obtain ⟨r1, r2, r3, r4⟩ := rg e mem
        have ha : e.2.1.toNat < rs.length := by rw [ct.len]; omega
        obtain ⟨ra, hrr⟩ : ∃ ra, rs[e.2.1.toNat]? = some ra := ⟨_, List.getElem?_eq_getElem ha⟩
        have hmem : ra ∈ rs := List.mem_of_getElem? hrr
        have ea : e.2.1 = ((e.2.1.toNat : Nat) : Int) := (Int.toNat_of_nonneg r1).symm
        have eb : e.2.2 = ((e.2.2.toNat : Nat) : Int) := (Int.toNat_of_nonneg r3).symm
        have hb : e.2.2.toNat < n.toNat := by omega
        have ro := ct.row _ _ hrr
        refine ⟨e.1, _, rfl, SqT.of (sm2 _ _ (ed e mem)), rfl, _, _, rfl, _, _, rfl, rfl, ?_⟩
        refine ⟨_, rfl, _, rfl, D, _, _, .ref ra, rfl, rfl, SqL.of ct.ls, ?_, ?_⟩
        · rw [ea]
          refine atI_nat ?_
          rw [List.getElem?_map, hrr]
          rfl
        refine ⟨_, rfl, _, _, _, _, rfl, rfl, SqL.of ro, r3, cntRow_at _ hb, _, _, rfl, rfl, _, _, _, e.2.2.toNat, rfl, rfl, ro, ?_, ?_⟩
        · rw [cntRow_len]
          exact ixN_of r3 hb
        refine ⟨_, _, rfl, ?_, ?_⟩
        · intro c o ec
          rw [upd_ne (fun z => ?_)]
          · exact sm2 _ _ ec
          · rw [z, (hh _ hmem).1] at ec
            cases ec
        · have et : (psOf us).take (i + 1) = (psOf us).take i ++ [((e.2.1.toNat : Int), (e.2.2.toNat : Int))] := by
            rw [List.take_add_one, psOf_at he, ← ea, ← eb]
            rfl
          have nD : ra ≠ D := (hh _ hmem).2.1
          refine ⟨by rw [upd_ne nD.symm]; exact ct.ls, ct.len, fun a r hr => ?_⟩
          rw [et]
          by_cases hs : a = e.2.1.toNat
          · subst hs
            have : r = ra := by
              rw [hrr] at hr
              exact (Option.some.inj hr).symm
            subst this
            rw [upd_same, cntRow_set _ hb]
          · have hne : r ≠ ra := fun z => by
              rw [z] at hr
              exact hs (nodup_at nd hr hrr)
            rw [upd_ne hne, cntRow_other _ hs]
            exact ct.row a r hr
      · rintro σ H2 ⟨v2, v3, rfl, sm2, ct⟩
        rw [vsOf_len, show us.length = (psOf us).length by unfold psOf; rw [List.length_map], List.take_length] at ct
        exact ⟨_, rfl, q D rs H2 sm2 hD (fun r hr => (hh r hr).1) ct⟩
end
end Lw
set_option Elab.async false
set_option linter.all false
set_option maxRecDepth 100000
/-! product and power of tables -/
namespace Lw
open PySem L2
abbrev sProd : Stmt := top 11
abbrev sPow : Stmt := top 12
def rowM (n : Nat) (M : Mx) (a : Nat) : List V := (List.range n).map fun b => V.int ((M a b : Nat) : Int)
theorem rowM_len (n : Nat) (M : Mx) (a : Nat) : (rowM n M a).length = n := by
  unfold rowM
  simp
theorem rowM_at {n : Nat} (M : Mx) (a : Nat) {b : Nat} (h : b < n) : (rowM n M a)[b]? = some (V.int ((M a b : Nat) : Int)) := by
  unfold rowM
  rw [List.getElem?_map, List.getElem?_range h]
  rfl
theorem rowM_congr {n : Nat} {M M' : Mx} {a : Nat} (h : ∀ b, b < n → M a b = M' a b) : rowM n M a = rowM n M' a := by
  unfold rowM
  refine List.map_congr_left fun b hb => ?_
  rw [h b (List.mem_range.mp hb)]
structure TabM (H : Hp) (p : Addr) (rs : List Addr) (n : Nat) (M : Mx) : Prop where
  ls : H p = some (.lst (rs.map V.ref))
  len : rs.length = n
  row : ∀ (a : Nat) (r : Addr), rs[a]? = some r → H r = some (.lst (rowM n M a))
theorem TabM.same {H H' : Hp} {p : Addr} {rs : List Addr} {n : Nat} {M : Mx} (h : TabM H p rs n M) (s : Same H H') : TabM H' p rs n M := ⟨s _ _ h.ls, h.len, fun a r e => s _ _ (h.row a r e)⟩
theorem TabM.congr {H : Hp} {p : Addr} {rs : List Addr} {n : Nat} {M M' : Mx} (h : TabM H p rs n M) (e : ∀ i j, i < n → j < n → M i j = M' i j) : TabM H p rs n M' := ⟨h.ls, h.len, fun a r ha => by
  have hl := h.len
  have hi := (List.getElem?_eq_some_iff.mp ha).1
  rw [h.row a r ha, rowM_congr fun b hb => e a b (by omega) hb]⟩
def spProd : Sp := fun vs H Q _ => ∃ (p q : Addr) (rs qs : List Addr) (n : Nat) (A B : Mx), vs = [.ref p, .ref q] ∧ TabM H p rs n A ∧ TabM H q qs n B ∧ 1 ≤ n ∧ n ≤ 8 ∧ (∀ i j, i < n → j < n → (A i j).log2 < 400000) ∧ (∀ i j, i < n → j < n → (B i j).log2 < 400000) ∧
  ∀ (D : Addr) (ts : List Addr) (H' : Hp), Same H H' → TabM H' D ts n (mul n A B) → Q (.ref D) H'
def spPow : Sp := fun vs H Q _ => ∃ (p : Addr) (rs : List Addr) (n e : Nat) (A : Mx), vs = [.ref p, .int (e : Int)] ∧ TabM H p rs n A ∧ 1 ≤ n ∧ n ≤ 8 ∧ 1 ≤ e ∧ e ≤ 2000 ∧ (∀ i j, A i j ≤ 31) ∧
  ∀ (D : Addr) (ts : List Addr) (H' : Hp), Same H H' → TabM H' D ts n (pw n A e) → Q (.ref D) H'
abbrev NPd : List Str := ["one", "other", "columns", "line", "column", "a", "b"]
abbrev scP1 : Scope := { kind := .function, names := [(".0", .local), ("line", .cell), ("columns", .cell)], isGenerator := false, isCoroutine := false }
abbrev scP2 : Scope := { kind := .function, names := [(".0", .local), ("column", .local), ("sum", .globalImplicit), ("zip", .globalImplicit), ("line", .cell)], isGenerator := false, isCoroutine := false }
abbrev tDot (K : PySem.W.Frag) : TE := tCB (rSum K) (tCons (tLc (ZM.iZipM K (tCons (tVar 3) (tCons (tVar 4) tNil))) (gTup K 2 (gCons (gName 5) (gCons (gName 6) gNil))) tYes (tOp (rI CMulW fun i j => .int (i * j)) (tVar 5) (tVar 6)) [5, 6]) tNil)
abbrev tLine (K : PySem.W.Frag) : TE := tLc (iSeqA K (tVar 2)) (gName 4) tYes (tDot K) [4]
theorem yes_if' {σ : St} {H : Hp} {A B : Hp → Prop} (h : A H) : tYes σ H (fun b H => if b = true then A H else B H) := by
  show (if true = true then A H else B H)
  exact if_t rfl h
section
variable {P : Program} {w : World} {K : PySem.W.Frag} {mg : Str → Option Value} {base : Heap} {f : Addr} {fd : FuncData} {k : Nat}
theorem scProd : FnScope NPd ["one", "other"] (defScope sProd) := ⟨rfl, rfl, rfl, by decide +kernel, rfl, by decide +kernel, by decide +kernel⟩
theorem scPow : FnScope ["table", "exponent", "result", "shift"] ["table", "exponent"] (defScope sPow) := ⟨rfl, rfl, rfl, by decide +kernel, rfl, by decide +kernel, by decide +kernel⟩
/-- a line by a column -/
theorem dot {H : Hp} {r t : Addr} {n i j : Nat} {A B : Mx} {v0 v1 v2 v5 v6 : Option V} {Q : VK} (hr : H r = some (.lst (rowM n A i))) (ht : H t = some (.tup ((List.range n).map fun k => V.int ((B k j : Nat) : Int)))) (h8 : n ≤ 8) (hA : ∀ k, k < n → (A i k).log2 < 400000) (hB : ∀ k, k < n → (B k j).log2 < 400000)
    (q : ∀ H', Same H H' → Q (.int ((mul n A B i j : Nat) : Int)) H') : tDot K [v0, v1, v2, some (.ref r), some (.ref t), v5, v6] H Q := by
  refine ⟨_, rfl, _, rfl, r, t, _, _, rfl, SqL.of hr, SqT.of ht, fun D hD => ?_⟩
  refine lc_it (ZM.walk_mix (n := n) (rowM_len n A i) (by simp)) (fun m H' => Same H H' ∧ H' D = some (.lst ((((List.range n).map fun k => ((A i k * B k j : Nat) : Int)).take m).map V.int))) ⟨same_upd hD, by rw [upd_same]; rfl⟩ (fun m H' _ p => ⟨SqL.of (p.1 _ _ hr), SqT.of (p.1 _ _ ht)⟩) ?_ ?_
  · rintro m x H1 H2 hm ⟨sm1, eD⟩ ⟨Tp, u, v, rfl, nT, rfl, gu, gv⟩
    have eu : u = .int ((A i m : Nat) : Int) := by
      have := rowM_at A i hm
      rw [show (rowM n A i)[m]? = some u from gu] at this
      exact Option.some.inj this
    have ev : v = .int ((B m j : Nat) : Int) := by
      have gv : ((List.range n).map fun k => V.int ((B k j : Nat) : Int))[m]? = some v := gv
      rw [List.getElem?_map, List.getElem?_range hm] at gv
      exact (Option.some.inj gv).symm
    subst eu ev
    have s2 := same_upd (o := .tup [.int ((A i m : Nat) : Int), .int ((B m j : Nat) : Int)]) nT
    refine ⟨Tp, _, rfl, SqT.of upd_same, rfl, _, _, rfl, _, _, rfl, rfl, rfl, ?_⟩
    refine ⟨_, rfl, _, rfl, _, _, rfl, rfl, ?_, _, s2 _ _ eD, ?_, ?_, ?_⟩
    · show ((A i m : Nat) : Int).natAbs.log2 + ((B m j : Nat) : Int).natAbs.log2 < 1000000
      rw [Int.natAbs_natCast, Int.natAbs_natCast]
      have := hA m hm
      have := hB m hm
      omega
    · rw [List.length_map, List.length_take, List.length_map, List.length_range]
      exact small1000 (by omega)
    · intro c o ec
      rw [upd_ne (ne_of_none ec hD)]
      exact s2 _ _ (sm1 _ _ ec)
    · rw [upd_same, List.take_add_one, List.getElem?_map, List.getElem?_range hm, List.map_append]
      show _ = some (HO.lst (_ ++ [V.int ((A i m * B m j : Nat) : Int)]))
      rw [Int.natCast_mul]
  · rintro H1 ⟨sm1, eD⟩
    have e : (((List.range n).map fun k => ((A i k * B k j : Nat) : Int)).take n) = (List.range n).map fun k => ((A i k * B k j : Nat) : Int) := List.take_of_length_le (by simp)
    rw [e] at eD
    refine ⟨D, _, rfl, SqL.of eD, ?_⟩
    rw [sm_int]
    exact q H1 sm1
set_option maxHeartbeats 8000000 in
theorem line {H : Hp} {c r : Addr} {Ts : List Addr} {n i : Nat} {A B : Mx} {v0 v1 v4 v5 v6 : Option V} {Q : VK} (hc : H c = some (.lst (Ts.map V.ref))) (hl : Ts.length = n) (hT : ∀ (j : Nat) (T : Addr), Ts[j]? = some T → H T = some (.tup ((List.range n).map fun k => V.int ((B k j : Nat) : Int))))
    (hr : H r = some (.lst (rowM n A i))) (h8 : n ≤ 8) (hA : ∀ k, k < n → (A i k).log2 < 400000) (hB : ∀ k j, k < n → j < n → (B k j).log2 < 400000)
    (q : ∀ (D : Addr) (H' : Hp), Same H H' → H' D = some (.lst (rowM n (mul n A B) i)) → Q (.ref D) H') : tLine K [v0, v1, some (.ref c), some (.ref r), v4, v5, v6] H Q := by
  refine ⟨_, rfl, c, _, SqL, rfl, .inl rfl, SqL.of hc, fun J w D hD => ?_⟩
  refine lc_it w (fun m H' => Same H H' ∧ H' D = some (.lst ((rowM n (mul n A B) i).take m))) ⟨same_upd hD, by rw [upd_same]; rfl⟩ (fun m H' _ p => SqL.of (p.1 _ _ hc)) ?_ ?_
  · rintro m x H1 H2 hm ⟨sm1, eD⟩ ⟨rfl, gx⟩
    rw [List.length_map, hl] at hm
    rw [List.getElem?_map] at gx
    obtain ⟨T, hTm, rfl⟩ := Option.map_eq_some_iff.mp gx
    refine ⟨rfl, yes_if' ?_⟩
    show tDot K [v0, v1, some (.ref c), some (.ref r), some (.ref T), v5, v6] H2 _
    refine dot (sm1 _ _ hr) (sm1 _ _ (hT m T hTm)) h8 hA (fun k hk => hB k m hk hm) fun H3 s3 => ?_
    refine ⟨_, s3 _ _ eD, ?_, ?_, ?_⟩
    · rw [List.length_take, rowM_len]
      exact small1000 (by omega)
    · intro b o e
      rw [upd_ne (ne_of_none e hD)]
      exact s3 _ _ (sm1 _ _ e)
    · rw [upd_same, List.take_add_one, rowM_at _ i hm]
      rfl
  · rintro H1 ⟨sm1, eD⟩
    rw [List.length_map, hl, List.take_of_length_le (by rw [rowM_len]; exact Nat.le_refl _)] at eD
    exact q D H1 sm1 eD
set_option maxHeartbeats 8000000 in
theorem ok_prod (F : Fun K "product" "product" sProd f fd) (T : Bi mg) (tS : mg "sum" = none) : FnOk P w K mg base CX0 (k + 1) f fd ["one", "other"] spProd := by
  refine F.ok scProd (fun vs H Q E h => ?_) (fun cdv A outer s H vs Q E hr h => ?_)
  · obtain ⟨p, q, rs, qs, n, A, B, rfl, _⟩ := h
    rfl
  · obtain ⟨p, q, rs, qs, n, A, B, rfl, tp, tq, n1, n8, hA, hB, qq⟩ := h
    refine ⟨_, pss_cons (ps_set (i := 2) scProd.nd rfl (.inr rfl) (ZN.pe_listZip rfl (by rfl) T.list (by rfl) T.zip (pv 1)))
      (pss_one (ps_ret (pe_lc (own := [("line", 3)]) (g := gName 3) (tt := tYes) (te := tLine K) rfl scProd.nd (pi_seqA (pv 0)) (blkOk_by (N := NPd) (sc := defScope sProd) (by decide +kernel))
        (fun _ _ _ _ _ => by exact pg_name (i := 3) scProd.nd rfl (Or.inr rfl)) (fun _ _ _ _ _ => pts_nil)
        (fun _ _ _ _ _ => by exact (pe_lc (own := [("column", 4)]) (g := gName 4) (tt := tYes) (te := tDot K) rfl scProd.nd (pi_seqA (pv 2)) (blkOk_by (N := NPd) (sc := scP1) (by decide +kernel))
          (fun _ _ _ _ _ => by exact pg_name (i := 4) scProd.nd rfl (Or.inl rfl)) (fun _ _ _ _ _ => pts_nil)
          (fun _ _ _ _ _ => by exact (pe_callB (cr_sum rfl) (by rfl) tS (by decide +kernel) (pa_cons
            (pe_lc (own := [("a", 5), ("b", 6)]) (g := gTup K 2 (gCons (gName 5) (gCons (gName 6) gNil))) (tt := tYes) (te := tOp (rI CMulW fun i j => .int (i * j)) (tVar 5) (tVar 6)) rfl scProd.nd (ZM.pi_zipM (by rfl) T.zip (pa_cons (pv 3) (pa_cons (pv 4) pa_nil))) (blkOk_by (N := NPd) (sc := scP2) (by decide +kernel))
              (fun _ _ _ _ _ => by exact pg_tup rfl (pgs_cons (pg_name (i := 5) scProd.nd rfl (Or.inl rfl)) (pgs_cons (pg_name (i := 6) scProd.nd rfl (Or.inl rfl)) pgs_nil))) (fun _ _ _ _ _ => pts_nil)
              (fun _ _ _ _ _ => by exact pe_op op_mulW (pv 5) (pv 6))) pa_nil)))))))), ?_⟩
    refine ⟨_, rfl, q, qs, (List.range n).map fun i => rowM n B i, n, rfl, SqL.of tq.ls, by rw [List.length_map, List.length_range, tq.len], fun i l r hl hrr => ?_, fun r hrr => ?_, fun z => ?_, by rw [tq.len]; exact n8, n1, by omega, fun c Ts H1 s1 nc ec lT hT => ?_⟩
    · rw [List.getElem?_map] at hrr
      obtain ⟨i2, hi2, rfl⟩ := Option.map_eq_some_iff.mp hrr
      have hi : i < n := by
        have := (List.getElem?_eq_some_iff.mp hi2).1
        simpa using this
      rw [List.getElem?_range hi] at hi2
      cases hi2
      exact SqL.of (tq.row i l hl)
    · obtain ⟨i, _, rfl⟩ := List.mem_map.mp hrr
      exact rowM_len n B i
    · have := tq.len
      rw [z] at this
      simp at this
      omega
    have hT' : ∀ (j : Nat) (T : Addr), Ts[j]? = some T → H1 T = some (.tup ((List.range n).map fun k => V.int ((B k j : Nat) : Int))) := fun j T e => by
      have hj : j < n := by
        have := (List.getElem?_eq_some_iff.mp e).1
        omega
      rw [(hT j T e).2, List.map_map]
      congr 2
      refine List.map_congr_left fun i hi => ?_
      show (rowM n B i).getD j .non = _
      simp [List.getD, rowM_at B i hj]
    have s1 : Same H H1 := s1
    refine ⟨_, rfl, p, _, SqL, rfl, .inl rfl, SqL.of (s1 _ _ tp.ls), fun J w D hD => ?_⟩
    refine lc_it w (fun m H' => ∃ ts : List Addr, ts.length = m ∧ Same H1 H' ∧ H' D = some (.lst (ts.map V.ref)) ∧ ∀ (a : Nat) (r : Addr), ts[a]? = some r → H' r = some (.lst (rowM n (mul n A B) a)) ∧ r ≠ D) ⟨[], rfl, same_upd hD, upd_same, fun a r e => by cases e⟩ (fun m H' _ p => by obtain ⟨ts, _, s, _⟩ := p; exact SqL.of (s _ _ (s1 _ _ tp.ls))) ?_ ?_
    · rintro m x H2 H3 hm ⟨ts, hts, s2, eD, hh⟩ ⟨rfl, gx⟩
      rw [List.length_map, tp.len] at hm
      rw [List.getElem?_map] at gx
      obtain ⟨r, hrm, rfl⟩ := Option.map_eq_some_iff.mp gx
      refine ⟨rfl, yes_if' ?_⟩
      show tLine K [some (.ref p), some (.ref q), some (.ref c), some (.ref r), none, none, none] H3 _
      refine line (s2 _ _ ec) lT (fun j T e => s2 _ _ (hT' j T e)) (s2 _ _ (s1 _ _ (tp.row m r hrm))) n8 (fun k hk => hA m k hm hk) hB fun D2 H4 s4 e4 => ?_
      have D2D : D2 ≠ D ∨ D2 = D := by
        by_cases h : D2 = D
        · exact .inr h
        · exact .inl h
      have eD4 := s4 _ _ eD
      have ne : D2 ≠ D := fun z => by
        rw [z, eD4] at e4
        injection e4 with e4
        injection e4 with e4
        have lq := congrArg List.length e4
        rw [List.length_map, rowM_len, hts] at lq
        omega
      refine ⟨_, eD4, ?_, ts ++ [D2], by simp [hts], ?_, ?_, ?_⟩
      · rw [List.length_map]
        exact small1000 (by omega)
      · intro b o e
        rw [upd_ne (ne_of_none e hD)]
        exact s4 _ _ (s2 _ _ e)
      · rw [upd_same, List.map_append]
        rfl
      · intro a r2 e
        by_cases ha : a < ts.length
        · rw [List.getElem?_append_left ha] at e
          obtain ⟨h1, h2⟩ := hh a r2 e
          exact ⟨by rw [upd_ne h2]; exact s4 _ _ h1, h2⟩
        · rw [List.getElem?_append_right (by omega)] at e
          have ea : a - ts.length = 0 := by
            by_cases z : a - ts.length = 0
            · exact z
            · obtain ⟨y, hy⟩ : ∃ y, a - ts.length = y + 1 := ⟨a - ts.length - 1, by omega⟩
              rw [hy] at e
              cases e
          rw [ea] at e
          have e := Option.some.inj e
          rw [← e, upd_ne ne]
          have : a = m := by omega
          rw [this]
          exact ⟨e4, ne⟩
    · rintro H2 ⟨ts, hts, s2, eD, hh⟩
      rw [List.length_map, tp.len] at hts
      exact qq D ts H2 (s1.trans s2) ⟨eD, hts, fun a r e => (hh a r e).1⟩
end
end Lw
set_option Elab.async false
set_option linter.all false
set_option maxRecDepth 100000
/-! power, numbers of paths -/
namespace Lw
open PySem L2
abbrev sCl : Stmt := top 10
abbrev sCP : Stmt := top 13
abbrev sCC : Stmt := top 14
/-- the power of a table of edges -/
abbrev pwE (n : Int) (us : Es) (e : Nat) : Mx := pw n.toNat (cntN (psOf us)) e
def spCl : Sp := fun vs H Q _ => ∃ e lim : Int, vs = [.int e, .int lim] ∧ 1 ≤ e ∧ e ≤ lim ∧ Q .non H
structure GrOk (C : Addr) (H : Hp) (g : Addr) (n : Int) (us : Es) : Prop where
  gr : GraphAt C H g n us
  n1 : 1 ≤ n
  n8 : n ≤ 8
  l24 : us.length ≤ 24
  rg : ∀ e ∈ us, 0 ≤ e.2.1 ∧ e.2.1 < n ∧ 0 ≤ e.2.2 ∧ e.2.2 < n
def spCP (C : Addr) : Sp := fun vs H Q _ => ∃ (g : Addr) (n : Int) (us : Es) (e : Nat), vs = [.ref g, .int (e : Int)] ∧ GrOk C H g n us ∧ 1 ≤ e ∧ e ≤ 2000 ∧ ∀ H', Same H H' → Q (.int ((sm n.toNat (fun i => sm n.toNat (fun j => pwE n us e i j)) : Nat) : Int)) H'
def spCC (C : Addr) : Sp := fun vs H Q _ => ∃ (g : Addr) (n : Int) (us : Es) (e : Nat), vs = [.ref g, .int (e : Int)] ∧ GrOk C H g n us ∧ 1 ≤ e ∧ e ≤ 2000 ∧ ∀ H', Same H H' → Q (.int ((sm n.toNat (fun i => pwE n us e i i) : Nat) : Int)) H'
theorem bits_nat {e : Nat} (h : 1 ≤ e) : Builtin.Int.intBits ((e : Nat) : Int) = e.log2 + 1 := by
  unfold Builtin.Int.intBits
  rw [if_neg (show ¬ (((e : Nat) : Int) == 0) = true by simpa using (show e ≠ 0 by omega)), Int.natAbs_natCast]
theorem shr_top {e : Nat} (h : 1 ≤ e) : e >>> e.log2 = 1 := by
  rw [Nat.shiftRight_eq_div_pow]
  have h1 : 2 ^ e.log2 ≤ e := Nat.log2_self_le (by omega)
  have h2 : e < 2 ^ (e.log2 + 1) := (Nat.log2_lt (by omega)).mp (Nat.lt_succ_self _)
  rw [Nat.pow_succ] at h2
  have pos : 0 < 2 ^ e.log2 := Nat.pow_pos (by decide)
  refine Nat.le_antisymm (Nat.le_of_lt_succ ((Nat.div_lt_iff_lt_mul pos).mpr ?_)) ((Nat.le_div_iff_mul_le pos).mpr ?_)
  · rw [Nat.mul_comm]
    exact h2
  · omega
theorem shr_le (e s : Nat) : e >>> s ≤ e := by
  rw [Nat.shiftRight_eq_div_pow]
  exact Nat.div_le_self _ _
section
variable {P : Program} {w : World} {K : PySem.W.Frag} {mg : Str → Option Value} {base : Heap} {f C : Addr} {fd : FuncData} {k : Nat}
set_option maxHeartbeats 8000000 in
theorem ok_pow (F : Fun K "power" "power" sPow f fd) (T : Bi mg) (tR : mg "reversed" = none) (cP : C8.Cal P w K mg base 1 "product" spProd []) : FnOk P w K mg base CX0 (k + 2) f fd ["table", "exponent"] spPow := by
  refine F.ok scPow (fun vs H Q E h => ?_) (fun cdv A outer s H vs Q E hr h => ?_)
  · obtain ⟨p, rs, n, e, A, rfl, _⟩ := h
    rfl
  · obtain ⟨p, rs, n, e, A, rfl, tp, n1, n8, e1, e2, hA, qq⟩ := h
    refine ⟨_, pss_cons (ps_set (i := 2) scPow.nd rfl (.inl rfl) (pv 0))
      (pss_cons (ps_for PassesOwn.never rfl (pi_revR (by rfl) tR (prg_1 (by rfl) T.range (pe_op op_sub (pe_bits (pv 1)) pe_int))) (pg_name (i := 3) scPow.nd rfl (.inl rfl))
        (pss_cons (ps_set (i := 2) scPow.nd rfl (.inl rfl) (C8.pe_c cP hr (by omega) (by rfl) (pa_cons (pv 2) (pa_cons (pv 2) pa_nil))))
        (pss_one (ps_if (pt_truth (pe_op op_odd (pe_op op_shrN (pv 1) (pv 3)) pe_int) (fun _ => rfl)) (pss_one (ps_set (i := 2) scPow.nd rfl (.inl rfl) (C8.pe_c cP hr (by omega) (by rfl) (pa_cons (pv 2) (pa_cons (pv 0) pa_nil))))) pss_nil))))
      (pss_one (ps_ret (pv 2)))), ?_⟩
    have hlog : ∀ q i j, q ≤ 4000 → (pw n A q i j).log2 < 400000 := fun q i j hq => by
      have := pw_log n8 hA q i j
      omega
    have hm : ((Builtin.Int.intBits ((e : Nat) : Int) : Nat) : Int) - 1 = ((e.log2 : Nat) : Int) := by
      rw [bits_nat e1]
      omega
    have hl2 : e.log2 < 11 := (Nat.log2_lt (by omega)).mpr (by omega)
    refine ⟨_, rfl, _, rfl, _, rfl, _, _, rfl, rfl, ((e.log2 : Nat) : Int), congrArg V.int hm, by decide, by decide, by omega, by omega, ?_⟩
    have en : (((e.log2 : Nat) : Int) - 0).toNat = e.log2 := by omega
    rw [en]
    refine for_it (walk_rangeC (lo := 0 + ((e.log2 : Nat) : Int) - 1) (c := -1) (n := e.log2)) (fun i σ H' => ∃ (v3 : Option V) (R : Addr) (ts : List Addr), σ = [some (.ref p), some (.int (e : Int)), some (.ref R), v3] ∧ Same H H' ∧ TabM H' R ts n (pw n A (e >>> (e.log2 - i)))) ⟨none, p, rs, rfl, fun _ _ z => z, ?_⟩ (fun _ _ _ _ _ => True.intro) ?_ ?_
    · refine tp.congr fun i j hi hj => ?_
      rw [Nat.sub_zero, shr_top e1, pw_one A hi]
    · rintro i x σ H1 H2 hi ⟨v3, R, ts, rfl, s1, tR⟩ ⟨rfl, hx⟩
      have hs : e.log2 - i = (e.log2 - 1 - i) + 1 := by omega
      have hx : x = .int ((e.log2 - 1 - i : Nat) : Int) := by
        rw [hx]
        show V.int (0 + ((e.log2 : Nat) : Int) - 1 + ((i : Nat) : Int) * -1) = _
        congr 1
        omega
      subst hx
      rw [hs] at tR
      have q1 : e >>> (e.log2 - 1 - i + 1) ≤ 2000 := Nat.le_trans (shr_le _ _) e2
      refine ⟨_, rfl, _, rfl, R, R, ts, ts, n, _, _, rfl, tR, tR, n1, n8, fun i j _ _ => hlog _ i j (by omega), fun i j _ _ => hlog _ i j (by omega), fun R2 ts2 H3 s3 t2 => ?_⟩
      have sq : ((e : Int) / 2 ^ (e.log2 - 1 - i)) = ((e >>> (e.log2 - 1 - i) : Nat) : Int) := by
        rw [Nat.shiftRight_eq_div_pow]
        norm_cast
      have hb := fun (i2 j2 : Nat) (hj : j2 < n) => pw_bit (n := n) A e (e.log2 - 1 - i) (i := i2) hj
      have es : e.log2 - (i + 1) = e.log2 - 1 - i := by omega
      refine ⟨_, rfl, _, rfl, _, _, rfl, rfl, e >>> (e.log2 - 1 - i), congrArg V.int sq, rfl, _, rfl, ite2 (fun h => ?_) (fun h => ?_)⟩
      · have ho : (e >>> (e.log2 - 1 - i)) % 2 = 1 := by
          have h : ((((e >>> (e.log2 - 1 - i)) % 2 : Nat) : Int) != 0) = true := h
          have h := bne_iff_ne.mp h
          omega
        refine ⟨_, rfl, _, rfl, R2, p, ts2, rs, n, _, _, rfl, t2, tp.same (s1.trans s3), n1, n8, fun i j _ hj => ?_, fun i j _ _ => ?_, fun R4 ts4 H4 s4 t4 => ⟨_, R4, ts4, rfl, (s1.trans s3).trans s4, ?_⟩⟩
        · rw [← pw_add A _ _ hj]
          exact hlog _ i j (by omega)
        · have := hA i j
          by_cases z : A i j = 0
          · rw [z]
            decide
          · exact Nat.lt_trans ((Nat.log2_lt z).mpr (show A i j < 2 ^ 5 by omega)) (by decide)
        · rw [es]
          refine t4.congr fun i2 j2 _ hj => ?_
          have := hb i2 j2 hj
          rw [if_pos ho] at this
          exact this
      · have ho : ¬ (e >>> (e.log2 - 1 - i)) % 2 = 1 := fun z => h (by
          show ((((e >>> (e.log2 - 1 - i)) % 2 : Nat) : Int) != 0) = true
          rw [z]
          rfl)
        refine ⟨_, R2, ts2, rfl, s1.trans s3, ?_⟩
        rw [es]
        refine t2.congr fun i2 j2 _ hj => ?_
        have := hb i2 j2 hj
        rw [if_neg ho] at this
        exact this
    · rintro σ H1 ⟨v3, R, ts, rfl, s1, tR⟩
      rw [Nat.sub_self, Nat.shiftRight_zero] at tR
      exact ⟨_, rfl, qq R ts H1 s1 tR⟩
theorem scCl : FnScope ["length", "limit"] ["length", "limit"] (defScope sCl) := ⟨rfl, rfl, rfl, by decide +kernel, rfl, by decide +kernel, by decide +kernel⟩
theorem scCP : FnScope ["graph", "length", "line"] ["graph", "length"] (defScope sCP) := ⟨rfl, rfl, rfl, by decide +kernel, rfl, by decide +kernel, by decide +kernel⟩
theorem scCC : FnScope ["graph", "length", "state", "line"] ["graph", "length"] (defScope sCC) := ⟨rfl, rfl, rfl, by decide +kernel, rfl, by decide +kernel, by decide +kernel⟩
theorem ok_cl (F : Fun K "check_length" "check_length" sCl f fd) : FnOk P w K mg base CX0 (k + 1) f fd ["length", "limit"] spCl := by
  refine F.ok scCl (fun vs H Q E h => ?_) (fun cdv A outer s H vs Q E hr h => ?_)
  · obtain ⟨e, l, rfl, _⟩ := h
    rfl
  · obtain ⟨e, l, rfl, h1, h2, q⟩ := h
    refine ⟨_, pss_one (ps_if (pt_not (pt_chain op_le op_le pe_int (pv 0) (pv 1))) (pss_one ps_never) pss_nil), ?_⟩
    refine ⟨_, rfl, _, _, rfl, rfl, _, rfl, if_t (decide_eq_true h1) ⟨_, rfl, _, _, rfl, rfl, _, rfl, ?_⟩⟩
    exact if_f (by rw [decide_eq_true h2]; rfl) q
theorem tab_cnt {H : Hp} {p : Addr} {rs : List Addr} {m : Nat} {ps : List (Int × Int)} (h : CntAt H p rs m ps) : TabM H p rs m (cntN ps) := ⟨h.ls, h.len, fun a r e => h.row a r e⟩
set_option maxHeartbeats 8000000 in
theorem ok_cp (F : Fun K "count_paths" "count_paths" sCP f fd) {tk : Tok} (mx : mg "MAX_COUNTED" = some (.int 2000 tk)) (tS : mg "sum" = none) (cL : C8.Cal P w K mg base 1 "check_length" spCl []) (cW : C8.Cal P w K mg base 2 "power" spPow []) (mC : C8.Met P w K mg base 1 C "counts" (spCounts C) []) : FnOk P w K mg base CX0 (k + 3) f fd ["graph", "length"] (spCP C) := by
  refine F.ok scCP (fun vs H Q E h => ?_) (fun cdv A outer s H vs Q E hr h => ?_)
  · obtain ⟨g, n, us, e, rfl, _⟩ := h
    rfl
  · obtain ⟨g, n, us, e, rfl, G, e1, e2, q⟩ := h
    obtain ⟨⟨dx, t, h1, h2⟩, ed⟩ := id G.gr
    refine ⟨_, pss_cons (ps_expr (C8.pe_c cL hr (by omega) (by rfl) (pa_cons (pv 1) (pa_cons (pe_glob (v := .int 2000) (by rfl) mx ⟨_, rfl⟩) pa_nil))))
      (pss_one (ps_ret (pe_callB (cr_sum rfl) (by rfl) tS (by decide +kernel) (pa_cons
        (pe_lc (own := [("line", 2)]) (g := gName 2) (tt := tYes) (te := tCB (rSum K) (tCons (tVar 2) tNil)) rfl scCP.nd (pi_seqA (C8.pe_c cW hr (by omega) (by rfl) (pa_cons (C8.pe_mt0 mC hr (by omega) (pv 0)) (pa_cons (pv 1) pa_nil)))) (blkOk_by (N := ["graph", "length", "line"]) (sc := defScope sCP) (by decide +kernel))
          (fun _ _ _ _ _ => by exact pg_name (i := 2) scCP.nd rfl (Or.inl rfl)) (fun _ _ _ _ _ => pts_nil)
          (fun _ _ _ _ _ => by exact pe_callB (cr_sum rfl) (by rfl) tS (by decide +kernel) (pa_cons (pv 2) pa_nil))) pa_nil)))), ?_⟩
    have n1 := G.n1
    have n8 := G.n8
    refine ⟨_, rfl, _, _, rfl, by omega, by omega, ?_⟩
    refine ⟨_, rfl, g, dx, _, rfl, h1, look_no _ _ (by decide +kernel) (by decide +kernel), g, n, us, rfl, G.gr, by omega, by omega, Nat.le_trans G.l24 (by decide), G.rg, fun p rs H1 s1 np nr ca => ?_⟩
    refine ⟨_, rfl, p, rs, n.toNat, e, _, rfl, tab_cnt ca, by omega, by omega, e1, e2, fun i j => Nat.le_trans (cntN_le _ _ _) (by unfold psOf; rw [List.length_map]; exact Nat.le_trans G.l24 (by decide)), fun D ts H2 s2 tD => ?_⟩
    refine ⟨D, _, SqL, rfl, .inl rfl, SqL.of tD.ls, fun J w L hL => ?_⟩
    refine lc_it w (fun m H' => Same H2 H' ∧ H' L = some (.lst ((((List.range n.toNat).map fun i => ((sm n.toNat (fun j => pwE n us e i j) : Nat) : Int)).take m).map V.int))) ⟨same_upd hL, by rw [upd_same]; rfl⟩ (fun m H' _ p => SqL.of (p.1 _ _ tD.ls)) ?_ ?_
    · rintro m x H3 H4 hm ⟨s3, eL⟩ ⟨rfl, gx⟩
      rw [List.length_map, tD.len] at hm
      rw [List.getElem?_map] at gx
      obtain ⟨r, hrr, rfl⟩ := Option.map_eq_some_iff.mp gx
      have er : H4 r = some (.lst (((List.range n.toNat).map fun j => ((pwE n us e m j : Nat) : Int)).map V.int)) := by
        rw [s3 _ _ (tD.row m r hrr)]
        unfold rowM
        rw [List.map_map]
        rfl
      refine ⟨rfl, ?_⟩
      refine ⟨_, rfl, r, _, rfl, SqL.of er, ?_⟩
      rw [sm_int]
      refine ⟨_, eL, ?_, ?_, ?_⟩
      · rw [List.length_map, List.length_take, List.length_map, List.length_range]
        exact small1000 (by omega)
      · intro b o ec
        rw [upd_ne (ne_of_none ec hL)]
        exact s3 _ _ ec
      · rw [upd_same, List.take_add_one, List.getElem?_map, List.getElem?_range hm, List.map_append]
        rfl
    · rintro H3 ⟨s3, eL⟩
      rw [List.length_map, tD.len, List.take_of_length_le (by simp)] at eL
      refine ⟨L, _, rfl, SqL.of eL, ?_⟩
      rw [sm_int]
      exact q H3 ((s1.trans s2).trans s3)
set_option maxHeartbeats 8000000 in
theorem ok_cc (F : Fun K "count_closed" "count_closed" sCC f fd) {tk : Tok} (mx : mg "MAX_COUNTED" = some (.int 2000 tk)) (tS : mg "sum" = none) (tE : mg "enumerate" = none) (cL : C8.Cal P w K mg base 1 "check_length" spCl []) (cW : C8.Cal P w K mg base 2 "power" spPow []) (mC : C8.Met P w K mg base 1 C "counts" (spCounts C) []) : FnOk P w K mg base CX0 (k + 3) f fd ["graph", "length"] (spCC C) := by
  refine F.ok scCC (fun vs H Q E h => ?_) (fun cdv A outer s H vs Q E hr h => ?_)
  · obtain ⟨g, n, us, e, rfl, _⟩ := h
    rfl
  · obtain ⟨g, n, us, e, rfl, G, e1, e2, q⟩ := h
    obtain ⟨⟨dx, t, h1, h2⟩, ed⟩ := id G.gr
    refine ⟨_, pss_cons (ps_expr (C8.pe_c cL hr (by omega) (by rfl) (pa_cons (pv 1) (pa_cons (pe_glob (v := .int 2000) (by rfl) mx ⟨_, rfl⟩) pa_nil))))
      (pss_one (ps_ret (pe_callB (cr_sum rfl) (by rfl) tS (by decide +kernel) (pa_cons
        (pe_lc (own := [("state", 2), ("line", 3)]) (g := gTup K 2 (gCons (gName 2) (gCons (gName 3) gNil))) (tt := tYes) (te := tOp (rIxL K) (tVar 3) (tVar 2)) rfl scCC.nd (pi_enumA (by rfl) tE (pa_cons (C8.pe_c cW hr (by omega) (by rfl) (pa_cons (C8.pe_mt0 mC hr (by omega) (pv 0)) (pa_cons (pv 1) pa_nil))) pa_nil)) (blkOk_by (N := ["graph", "length", "state", "line"]) (sc := defScope sCC) (by decide +kernel))
          (fun _ _ _ _ _ => by exact pg_tup rfl (pgs_cons (pg_name (i := 2) scCC.nd rfl (Or.inl rfl)) (pgs_cons (pg_name (i := 3) scCC.nd rfl (Or.inl rfl)) pgs_nil))) (fun _ _ _ _ _ => pts_nil)
          (fun _ _ _ _ _ => by exact pe_ix ix_list (pv 3) (pv 2) (fun _ _ => rfl))) pa_nil)))), ?_⟩
    have n1 := G.n1
    have n8 := G.n8
    refine ⟨_, rfl, _, _, rfl, by omega, by omega, ?_⟩
    refine ⟨_, rfl, g, dx, _, rfl, h1, look_no _ _ (by decide +kernel) (by decide +kernel), g, n, us, rfl, G.gr, by omega, by omega, Nat.le_trans G.l24 (by decide), G.rg, fun p rs H1 s1 np nr ca => ?_⟩
    refine ⟨_, rfl, p, rs, n.toNat, e, _, rfl, tab_cnt ca, by omega, by omega, e1, e2, fun i j => Nat.le_trans (cntN_le _ _ _) (by unfold psOf; rw [List.length_map]; exact Nat.le_trans G.l24 (by decide)), fun D ts H2 s2 tD => ?_⟩
    refine ⟨D, _, SqL, rfl, .inl rfl, SqL.of tD.ls, fun J w L hL => ?_⟩
    refine lc_it w (fun m H' => Same H2 H' ∧ H' L = some (.lst ((((List.range n.toNat).map fun i => ((pwE n us e i i : Nat) : Int)).take m).map V.int))) ⟨same_upd hL, by rw [upd_same]; rfl⟩ (fun m H' _ p => SqL.of (p.1 _ _ tD.ls)) ?_ ?_
    · rintro m x H3 H4 hm ⟨s3, eL⟩ ⟨Tp, u, v, rfl, nT, rfl, gu, gv⟩
      rw [List.length_map, tD.len] at hm
      have eu : u = .int ((m : Nat) : Int) := (Option.some.inj gu).symm
      subst eu
      have gv : (ts.map V.ref)[m]? = some v := gv
      rw [List.getElem?_map] at gv
      obtain ⟨r, hrr, rfl⟩ := Option.map_eq_some_iff.mp gv
      have s4 := same_upd (o := .tup [.int ((m : Nat) : Int), .ref r]) nT
      have er := s4 _ _ (s3 _ _ (tD.row m r hrr))
      refine ⟨Tp, _, rfl, SqT.of upd_same, rfl, _, _, rfl, _, _, rfl, rfl, rfl, ?_⟩
      refine ⟨_, rfl, _, rfl, r, _, _, .int ((pwE n us e m m : Nat) : Int), rfl, rfl, SqL.of er, atI_nat (rowM_at _ m hm), _, s4 _ _ eL, ?_, ?_, ?_⟩
      · rw [List.length_map, List.length_take, List.length_map, List.length_range]
        exact small1000 (by omega)
      · intro b o ec
        rw [upd_ne (ne_of_none ec hL)]
        exact s4 _ _ (s3 _ _ ec)
      · rw [upd_same, List.take_add_one, List.getElem?_map, List.getElem?_range hm, List.map_append]
        rfl
    · rintro H3 ⟨s3, eL⟩
      rw [List.length_map, tD.len, List.take_of_length_le (by simp)] at eL
      refine ⟨L, _, rfl, SqL.of eL, ?_⟩
      rw [sm_int]
      exact q H3 ((s1.trans s2).trans s3)
end
end Lw
set_option Elab.async false
set_option linter.all false
set_option maxRecDepth 100000
/-! the law's own counts -/
namespace Lw
open PySem L2
abbrev sLPC : Stmt := top 27
abbrev sLCC : Stmt := top 28
def vecL (n : Nat) (x : Nat → Nat) : List V := (List.range n).map fun i => V.int ((x i : Nat) : Int)
theorem vecL_len (n : Nat) (x : Nat → Nat) : (vecL n x).length = n := by
  unfold vecL
  simp
theorem vecL_at {n : Nat} (x : Nat → Nat) {i : Nat} (h : i < n) : (vecL n x)[i]? = some (V.int ((x i : Nat) : Int)) := by
  unfold vecL
  rw [List.getElem?_map, List.getElem?_range h]
  rfl
theorem vecL_congr {n : Nat} {x y : Nat → Nat} (h : ∀ i, i < n → x i = y i) : vecL n x = vecL n y := by
  unfold vecL
  refine List.map_congr_left fun i hi => ?_
  rw [h i (List.mem_range.mp hi)]
theorem vecL_set {n : Nat} {x y : Nat → Nat} {s c : Nat} (hs : s < n) (h : ∀ i, i < n → y i = x i + (if i = s then c else 0)) : (vecL n x).set s (V.int (((x s : Nat) : Int) + ((c : Nat) : Int))) = vecL n y := by
  apply List.ext_getElem?
  intro i
  by_cases hi : i < n
  · rw [vecL_at y hi, h i hi]
    by_cases e : s = i
    · subst e
      rw [List.getElem?_set_self (by rw [vecL_len]; exact hs), if_pos rfl]
      congr 2
    · rw [List.getElem?_set_ne e, vecL_at x hi, if_neg (Ne.symm e), Nat.add_zero]
  · rw [List.getElem?_eq_none (by rw [List.length_set, vecL_len]; omega), List.getElem?_eq_none (by rw [vecL_len]; omega)]
theorem vecL_rep (n c : Nat) : (List.replicate n [V.int ((c : Nat) : Int)]).flatten = vecL n (fun _ => c) := by
  rw [List.flatten_replicate_singleton]
  unfold vecL
  rw [List.map_const', List.length_range]
theorem vecL_ints (n : Nat) (x : Nat → Nat) : vecL n x = ((List.range n).map fun i => ((x i : Nat) : Int)).map V.int := by
  unfold vecL
  rw [List.map_map]
  rfl
def spLPC : Sp := fun vs H Q _ => ∃ (p q : Addr) (n : Int) (ts : Es) (e : Nat), vs = [.ref p, .int (e : Int)] ∧ PlanAt H p q n ts ∧ n ≤ 8 ∧ e ≤ 2000 ∧ ∀ H', Same H H' → Q (.int ((sm n.toNat (fun i => sm n.toNat (fun j => pwE n ts e i j)) : Nat) : Int)) H'
def spLCC : Sp := fun vs H Q _ => ∃ (p q : Addr) (n : Int) (ts : Es) (e : Nat), vs = [.ref p, .int (e : Int)] ∧ PlanAt H p q n ts ∧ n ≤ 8 ∧ e ≤ 2000 ∧ ∀ H', Same H H' → Q (.int ((sm n.toNat (fun i => pwE n ts e i i) : Nat) : Int)) H'
theorem psOf_take {ts : Es} {m : Nat} {e : Addr × Int × Int} {s t : Nat} (h : ts[m]? = some e) (hs : e.2.1 = (s : Int)) (ht : e.2.2 = (t : Int)) : (psOf ts).take (m + 1) = (psOf ts).take m ++ [((s : Int), (t : Int))] := by
  rw [List.take_add_one, psOf_at h]
  show _ ++ [e.2] = _
  rw [← hs, ← ht]
theorem vsOf_at' {ts : Es} {i : Nat} {v : V} (h : (vsOf ts)[i]? = some v) : ∃ e, ts[i]? = some e ∧ v = .ref e.1 := by
  unfold vsOf at h
  rw [List.getElem?_map] at h
  obtain ⟨e, he, z⟩ := Option.map_eq_some_iff.mp h
  exact ⟨e, he, z.symm⟩
section
variable {P : Program} {w : World} {K : PySem.W.Frag} {mg : Str → Option Value} {base : Heap} {f : Addr} {fd : FuncData} {k : Nat}
theorem scLPC : FnScope ["_law_plan_here", "_law_size", "_law_here", "_law_turn", "_law_later", "_law_source", "_law_target"] ["_law_plan_here", "_law_size"] (defScope sLPC) := ⟨rfl, rfl, rfl, by decide +kernel, rfl, by decide +kernel, by decide +kernel⟩
theorem scLCC : FnScope ["_law_plan_here", "_law_size", "_law_total", "_law_state", "_law_k", "_law_here", "_law_turn", "_law_later", "_law_source", "_law_target"] ["_law_plan_here", "_law_size"] (defScope sLCC) := ⟨rfl, rfl, rfl, by decide +kernel, rfl, by decide +kernel, by decide +kernel⟩
set_option maxHeartbeats 8000000 in
theorem ok_lpc (F : Fun K "_law_path_count" "_law_path_count" sLPC f fd) (T : Bi mg) (tS : mg "sum" = none) : FnOk P w K mg base CX0 (k + 1) f fd ["_law_plan_here", "_law_size"] spLPC := by
  refine F.ok scLPC (fun vs H Q E h => ?_) (fun cdv A outer s H vs Q E hr h => ?_)
  · obtain ⟨p, q, n, ts, e, rfl, _⟩ := h
    rfl
  · obtain ⟨p, q0, n, ts, e, rfl, PA, n8, e2, q⟩ := h
    have n1 := PA.n1
    refine ⟨_, pss_cons (ps_set (i := 2) scLPC.nd rfl (.inl rfl) (pe_op op_rep (pe_lst (pa_cons pe_int pa_nil)) (pe_ix ix_tup (pv 0) pe_int (fun _ _ => rfl))))
      (pss_cons (ps_for PassesOwn.never rfl (pi_range1 (by rfl) T.range (pa_cons (pv 1) pa_nil)) (pg_name (i := 3) scLPC.nd rfl (.inl rfl))
        (pss_cons (ps_set (i := 4) scLPC.nd rfl (.inl rfl) (pe_op op_rep (pe_lst (pa_cons pe_int pa_nil)) (pe_ix ix_tup (pv 0) pe_int (fun _ _ => rfl))))
        (pss_cons (ps_for PassesOwn.never rfl (pi_seqA (pe_ix ix_tup (pv 0) pe_int (fun _ _ => rfl))) (pg_tup rfl (pgs_cons (pg_name (i := 5) scLPC.nd rfl (.inl rfl)) (pgs_cons (pg_name (i := 6) scLPC.nd rfl (.inl rfl)) pgs_nil)))
          (pss_one (ps_asg (pe_op op_add (pe_ix ix_list (pv 4) (pv 5) (fun _ _ => rfl)) (pe_ix ix_list (pv 2) (pv 6) (fun _ _ => rfl))) (pg_sub (pv 4) (pv 5) set_list))))
        (pss_one (ps_set (i := 2) scLPC.nd rfl (.inl rfl) (pv 4))))))
      (pss_one (ps_ret (pe_callB (cr_sum rfl) (by rfl) tS (by decide +kernel) (pa_cons (pv 2) pa_nil))))), ?_⟩
    refine ⟨(by show 1 ≤ sizeLine; decide), fun l0 hl0 => ?_⟩
    have s0 := same_upd (o := .lst [.int 1]) hl0
    refine ⟨_, rfl, p, _, _, _, rfl, rfl, SqT.of (s0 _ _ PA.tp), rfl, l0, n, _, rfl, rfl, upd_same, by omega, by omega, ?_, fun h0 hh0 => ?_⟩
    · show 1 * n.toNat ≤ sizeLine
      exact Nat.le_of_lt (small1000 (by omega))
    have s1 := s0.trans (same_upd (o := .lst (List.replicate n.toNat [V.int 1]).flatten) hh0)
    have e1 : upd (upd H l0 (.lst [.int 1])) h0 (.lst (List.replicate n.toNat [V.int 1]).flatten) h0 = some (.lst (vecL n.toNat fun i => sm n.toNat (fun j => pwE n ts 0 i j))) := by
      rw [upd_same]
      congr 2
      refine (vecL_rep n.toNat 1).trans (vecL_congr fun i hi => ?_)
      have := sm_one (n := n.toNat) (b := i) (fun _ => 1) hi
      refine this.symm.trans (sm_congr fun j _ => ?_)
      show (if j = i then 1 else 0) * 1 = (if i = j then 1 else 0)
      by_cases z : j = i
      · rw [if_pos z, if_pos z.symm]
      · rw [if_neg z, if_neg (Ne.symm z)]
    generalize upd (upd H l0 (.lst [.int 1])) h0 (.lst (List.replicate n.toNat [V.int 1]).flatten) = H1 at *
    refine ⟨_, rfl, (e : Int), rfl, by omega, by omega, ?_⟩
    refine for_it (walk_range (lo := 0) (n := ((e : Int)).toNat)) (fun i σ H' => ∃ (v3 v4 v5 v6 : Option V) (Hh : Addr), σ = [some (.ref p), some (.int (e : Int)), some (.ref Hh), v3, v4, v5, v6] ∧ Same H H' ∧ H' Hh = some (.lst (vecL n.toNat fun a => sm n.toNat (fun j => pwE n ts i a j))))
      ⟨none, none, none, none, h0, rfl, s1, e1⟩ (fun _ _ _ _ _ => True.intro) ?_ ?_
    · rintro i x σ H2 H3 hi ⟨v3, v4, v5, v6, Hh, rfl, s2, eh⟩ ⟨rfl, rfl⟩
      refine ⟨(by show 1 ≤ sizeLine; decide), fun l1 hl1 => ?_⟩
      have s3 := same_upd (o := .lst [.int 0]) hl1
      refine ⟨_, rfl, p, _, _, _, rfl, rfl, SqT.of (s3 _ _ (s2 _ _ PA.tp)), rfl, l1, n, _, rfl, rfl, upd_same, by omega, by omega, ?_, fun L hL => ?_⟩
      · show 1 * n.toNat ≤ sizeLine
        exact Nat.le_of_lt (small1000 (by omega))
      have s4 := s3.trans (same_upd (o := .lst (List.replicate n.toNat [V.int 0]).flatten) hL)
      have nL : H3 L = none := s3.free hL
      have e4 : upd (upd H3 l1 (.lst [.int 0])) L (.lst (List.replicate n.toNat [V.int 0]).flatten) L = some (.lst (vecL n.toNat fun a => sm n.toNat (fun j => cntN ((psOf ts).take 0) a j * sm n.toNat (fun b => pwE n ts i j b)))) := by
        rw [upd_same]
        congr 2
        exact (vecL_rep n.toNat 0).trans (vecL_congr fun a _ => (sm_none _ a).symm)
      generalize upd (upd H3 l1 (.lst [.int 0])) L (.lst (List.replicate n.toNat [V.int 0]).flatten) = H4 at *
      refine ⟨_, rfl, p, _, _, _, rfl, rfl, SqT.of (s4 _ _ (s2 _ _ PA.tp)), rfl, q0, vsOf ts, SqL, rfl, .inl rfl, SqL.of (s4 _ _ (s2 _ _ PA.ls)), fun J w => ?_⟩
      refine for_it w (fun m σ H' => ∃ v5 v6 : Option V, σ = [some (.ref p), some (.int (e : Int)), some (.ref Hh), some (.int (0 + (i : Int))), some (.ref L), v5, v6] ∧ Same H3 H' ∧ H' L = some (.lst (vecL n.toNat fun a => sm n.toNat (fun j => cntN ((psOf ts).take m) a j * sm n.toNat (fun b => pwE n ts i j b))))) ⟨_, _, rfl, s4, e4⟩ (fun m σ H' _ p => by obtain ⟨_, _, _, s, _⟩ := p; exact SqL.of (s _ _ (s2 _ _ PA.ls))) ?_ ?_
      · rintro m x σ H5 H6 hm ⟨v5, v6, rfl, s5, eL⟩ ⟨rfl, gx⟩
        obtain ⟨ed, he, rfl⟩ := vsOf_at' gx
        have mem := List.mem_of_getElem? he
        obtain ⟨r1, r2, r3, r4⟩ := PA.va.rg ed mem
        have ea : ed.2.1 = ((ed.2.1.toNat : Nat) : Int) := (Int.toNat_of_nonneg r1).symm
        have eb : ed.2.2 = ((ed.2.2.toNat : Nat) : Int) := (Int.toNat_of_nonneg r3).symm
        have ha : ed.2.1.toNat < n.toNat := by omega
        have hb : ed.2.2.toNat < n.toNat := by omega
        refine ⟨ed.1, _, rfl, SqT.of (s5 _ _ (s2 _ _ (PA.ed ed mem))), rfl, _, _, rfl, _, _, rfl, rfl, ?_⟩
        have eh5 := s5 _ _ eh
        refine ⟨_, rfl, _, rfl, L, _, _, V.int ((sm n.toNat (fun j => cntN ((psOf ts).take m) ed.2.1.toNat j * sm n.toNat (fun b => pwE n ts i j b)) : Nat) : Int), rfl, rfl, SqL.of eL, ?_, _, rfl, _, rfl, Hh, _, _, V.int ((sm n.toNat (fun b => pwE n ts i ed.2.2.toNat b) : Nat) : Int), rfl, rfl, SqL.of eh5, ?_, _, _, rfl, rfl, _, rfl, _, rfl, L, _, _, ed.2.1.toNat, rfl, rfl, eL, ?_, ?_⟩
        · rw [ea]
          exact atI_nat (vecL_at _ ha)
        · rw [eb]
          exact atI_nat (vecL_at _ hb)
        · rw [vecL_len]
          exact ixN_of r1 ha
        refine ⟨_, _, rfl, ?_, ?_⟩
        · intro c o ec
          rw [upd_ne (ne_of_none ec nL)]
          exact s5 _ _ ec
        · rw [upd_same]
          congr 2
          refine vecL_set ha fun a _ => ?_
          rw [psOf_take he ea eb, out_snoc _ _ hb]
      · rintro σ H5 ⟨v5, v6, rfl, s5, eL⟩
        have lv : (vsOf ts).length = (psOf ts).length := by
          unfold vsOf psOf
          rw [List.length_map, List.length_map]
        rw [lv, List.take_length] at eL
        refine ⟨_, rfl, _, _, _, _, L, rfl, s2.trans s5, ?_⟩
        rw [eL]
        congr 2
        exact vecL_congr fun a ha => vec_step _ i ha
    · rintro σ H2 ⟨v3, v4, v5, v6, Hh, rfl, s2, eh⟩
      rw [Int.toNat_natCast, vecL_ints] at eh
      refine ⟨_, rfl, Hh, _, rfl, SqL.of eh, ?_⟩
      rw [sm_int]
      exact q H2 s2
end
end Lw
set_option Elab.async false
set_option linter.all false
set_option maxRecDepth 100000
/-! the law's own count of closed paths -/
namespace Lw
open PySem L2
theorem vecL_take {n m : Nat} (x : Nat → Nat) (h : m < n) : (vecL n x).take (m + 1) = (vecL n x).take m ++ [V.int ((x m : Nat) : Int)] := by
  rw [List.take_add_one, vecL_at x h]
  rfl
section
variable {P : Program} {w : World} {K : PySem.W.Frag} {mg : Str → Option Value} {base : Heap} {f : Addr} {fd : FuncData} {k : Nat}
set_option maxHeartbeats 8000000 in
theorem ok_lcc (F : Fun K "_law_closed_count" "_law_closed_count" sLCC f fd) (T : Bi mg) : FnOk P w K mg base CX0 (k + 1) f fd ["_law_plan_here", "_law_size"] spLCC := by
  refine F.ok scLCC (fun vs H Q E h => ?_) (fun cdv A outer s H vs Q E hr h => ?_)
  · obtain ⟨p, q, n, ts, e, rfl, _⟩ := h
    rfl
  · obtain ⟨p, q0, n, ts, e, rfl, PA, n8, e2, q⟩ := h
    have n1 := PA.n1
    refine ⟨_, pss_cons (ps_set (i := 2) scLCC.nd rfl (.inl rfl) pe_int)
      (pss_cons (ps_for PassesOwn.never rfl (pi_range1 (by rfl) T.range (pa_cons (pe_ix ix_tup (pv 0) pe_int (fun _ _ => rfl)) pa_nil)) (pg_name (i := 3) scLCC.nd rfl (.inr rfl))
        (pss_cons (ps_setLc (i := 5) (own := [("_law_k", 4)]) (g := gName 4) (tt := tYes) (te := tCB (fun xs H Q => (∃ i, xs = [.int i] ∧ Q (.int i) H) ∨ ∃ k, xs = [.bl k] ∧ Q (.int (if k then 1 else 0)) H) (tCons (tOp rEq (tVar 4) (tVar 3)) tNil)) rfl scLCC.nd rfl rfl (sw_true rfl rfl rfl (by decide +kernel))
          (pi_range1 (by rfl) T.range (pa_cons (pe_ix ix_tup (pv 0) pe_int (fun _ _ => rfl)) pa_nil))
          (blkOk_by (N := ["_law_plan_here", "_law_size", "_law_total", "_law_state", "_law_k", "_law_here", "_law_turn", "_law_later", "_law_source", "_law_target"]) (sc := defScope sLCC) (by decide +kernel))
          (fun _ _ _ _ _ => by exact pg_name (i := 4) scLCC.nd rfl (Or.inl rfl))
          (fun _ _ _ _ _ => pts_nil)
          (fun _ _ _ _ _ => by exact pe_callTy call_int1 (by rfl) T.int (by decide +kernel) (pa_cons (pe_cmpR op_eq (pv 4) (pv 3) (nomark _)) pa_nil)))
        (pss_cons (ps_for PassesOwn.never rfl (pi_range1 (by rfl) T.range (pa_cons (pv 1) pa_nil)) (pg_name (i := 6) scLCC.nd rfl (.inl rfl))
          (pss_cons (ps_set (i := 7) scLCC.nd rfl (.inl rfl) (pe_op op_rep (pe_lst (pa_cons pe_int pa_nil)) (pe_ix ix_tup (pv 0) pe_int (fun _ _ => rfl))))
          (pss_cons (ps_for PassesOwn.never rfl (pi_seqA (pe_ix ix_tup (pv 0) pe_int (fun _ _ => rfl))) (pg_tup rfl (pgs_cons (pg_name (i := 8) scLCC.nd rfl (.inl rfl)) (pgs_cons (pg_name (i := 9) scLCC.nd rfl (.inl rfl)) pgs_nil)))
            (pss_one (ps_asg (pe_op op_add (pe_ix ix_list (pv 7) (pv 9) (fun _ _ => rfl)) (pe_ix ix_list (pv 5) (pv 8) (fun _ _ => rfl))) (pg_sub (pv 7) (pv 9) set_list))))
          (pss_one (ps_set (i := 5) scLCC.nd rfl (.inl rfl) (pv 7))))))
        (pss_one (ps_set (i := 2) scLCC.nd rfl (.inl rfl) (pe_op op_add (pv 2) (pe_ix ix_list (pv 5) (pv 3) (fun _ _ => rfl))))))))
      (pss_one (ps_ret (pv 2)))), ?_⟩
    refine ⟨_, rfl, p, _, _, _, rfl, rfl, SqT.of PA.tp, rfl, n, rfl, by omega, by omega, ?_⟩
    refine for_it (walk_range (lo := 0) (n := n.toNat)) (fun c σ H' => ∃ (v3 v4 v5 v6 v7 v8 v9 : Option V), σ = [some (.ref p), some (.int (e : Int)), some (.int ((sm c (fun i => pwE n ts e i i) : Nat) : Int)), v3, v4, v5, v6, v7, v8, v9] ∧ Same H H')
      ⟨none, none, none, none, none, none, none, rfl, fun _ _ z => z⟩ (fun _ _ _ _ _ => True.intro) ?_ ?_
    · rintro c x σ Ha Hb hc ⟨v3, v4, v5, v6, v7, v8, v9, rfl, sa⟩ ⟨rfl, rfl⟩
      refine ⟨_, rfl, p, _, _, _, rfl, rfl, SqT.of (sa _ _ PA.tp), rfl, n, rfl, by omega, by omega, fun D hD => ?_⟩
      refine lc_it (walk_range (lo := 0) (n := n.toNat)) (fun m H' => Same Hb H' ∧ H' D = some (.lst ((vecL n.toNat fun a => pwE n ts 0 c a).take m))) ⟨same_upd hD, by rw [upd_same]; rfl⟩ (fun _ _ _ _ => True.intro) ?_ ?_
      · rintro m x H1 H2 hm ⟨s1, eD⟩ ⟨rfl, rfl⟩
        refine ⟨rfl, ?_⟩
        refine ⟨_, rfl, _, rfl, rfl, .inr ⟨_, rfl, _, eD, ?_, ?_, ?_⟩⟩
        · rw [List.length_take, vecL_len]
          exact small1000 (by omega)
        · intro b o ec
          rw [upd_ne (ne_of_none ec hD)]
          exact s1 _ _ ec
        · rw [upd_same, vecL_take _ hm]
          congr 5
          show (if decide (V.int (0 + (m : Int)) = V.int (0 + (c : Int))) = true then (1 : Int) else 0) = (((if c = m then 1 else 0 : Nat)) : Int)
          by_cases z : c = m
          · subst z
            simp
          · rw [if_neg z, if_neg]
            · rfl
            · simp
              omega
      · rintro H1 ⟨s1, eD⟩
        rw [List.take_of_length_le (by rw [vecL_len]; exact Nat.le_refl _)] at eD
        refine ⟨_, rfl, (e : Int), rfl, by omega, by omega, ?_⟩
        refine for_it (walk_range (lo := 0) (n := ((e : Int)).toNat)) (fun i σ H' => ∃ (v4 v6 v7 v8 v9 : Option V) (Hh : Addr), σ = [some (.ref p), some (.int (e : Int)), some (.int ((sm c (fun i => pwE n ts e i i) : Nat) : Int)), some (.int (0 + (c : Int))), v4, some (.ref Hh), v6, v7, v8, v9] ∧ Same Hb H' ∧ H' Hh = some (.lst (vecL n.toNat fun a => pwE n ts i c a)))
          ⟨_, _, _, _, _, D, rfl, s1, eD⟩ (fun _ _ _ _ _ => True.intro) ?_ ?_
        · rintro i x σ H2 H3 hi ⟨v4, v6, v7, v8, v9, Hh, rfl, s2, eh⟩ ⟨rfl, rfl⟩
          refine ⟨(by show 1 ≤ sizeLine; decide), fun l1 hl1 => ?_⟩
          have s3 := same_upd (o := .lst [.int 0]) hl1
          refine ⟨_, rfl, p, _, _, _, rfl, rfl, SqT.of (s3 _ _ (s2 _ _ (sa _ _ PA.tp))), rfl, l1, n, _, rfl, rfl, upd_same, by omega, by omega, ?_, fun L hL => ?_⟩
          · show 1 * n.toNat ≤ sizeLine
            exact Nat.le_of_lt (small1000 (by omega))
          have s4 := s3.trans (same_upd (o := .lst (List.replicate n.toNat [V.int 0]).flatten) hL)
          have nL : H3 L = none := s3.free hL
          have e4 : upd (upd H3 l1 (.lst [.int 0])) L (.lst (List.replicate n.toNat [V.int 0]).flatten) L = some (.lst (vecL n.toNat fun a => sm n.toNat (fun j => pwE n ts i c j * cntN ((psOf ts).take 0) j a))) := by
            rw [upd_same]
            congr 2
            exact (vecL_rep n.toNat 0).trans (vecL_congr fun a _ => (sm_none' _ a).symm)
          generalize upd (upd H3 l1 (.lst [.int 0])) L (.lst (List.replicate n.toNat [V.int 0]).flatten) = H4 at *
          refine ⟨_, rfl, p, _, _, _, rfl, rfl, SqT.of (s4 _ _ (s2 _ _ (sa _ _ PA.tp))), rfl, q0, vsOf ts, SqL, rfl, .inl rfl, SqL.of (s4 _ _ (s2 _ _ (sa _ _ PA.ls))), fun J w => ?_⟩
          refine for_it w (fun m σ H' => ∃ v8 v9 : Option V, σ = [some (.ref p), some (.int (e : Int)), some (.int ((sm c (fun i => pwE n ts e i i) : Nat) : Int)), some (.int (0 + (c : Int))), v4, some (.ref Hh), some (.int (0 + (i : Int))), some (.ref L), v8, v9] ∧ Same H3 H' ∧ H' L = some (.lst (vecL n.toNat fun a => sm n.toNat (fun j => pwE n ts i c j * cntN ((psOf ts).take m) j a)))) ⟨_, _, rfl, s4, e4⟩ (fun m σ H' _ p => by obtain ⟨_, _, _, s, _⟩ := p; exact SqL.of (s _ _ (s2 _ _ (sa _ _ PA.ls)))) ?_ ?_
          · rintro m x σ H5 H6 hm ⟨v8, v9, rfl, s5, eL⟩ ⟨rfl, gx⟩
            obtain ⟨ed, he, rfl⟩ := vsOf_at' gx
            have mem := List.mem_of_getElem? he
            obtain ⟨r1, r2, r3, r4⟩ := PA.va.rg ed mem
            have ea : ed.2.1 = ((ed.2.1.toNat : Nat) : Int) := (Int.toNat_of_nonneg r1).symm
            have eb : ed.2.2 = ((ed.2.2.toNat : Nat) : Int) := (Int.toNat_of_nonneg r3).symm
            have ha : ed.2.1.toNat < n.toNat := by omega
            have hb : ed.2.2.toNat < n.toNat := by omega
            refine ⟨ed.1, _, rfl, SqT.of (s5 _ _ (s2 _ _ (sa _ _ (PA.ed ed mem)))), rfl, _, _, rfl, _, _, rfl, rfl, ?_⟩
            have eh5 := s5 _ _ eh
            refine ⟨_, rfl, _, rfl, L, _, _, V.int ((sm n.toNat (fun j => pwE n ts i c j * cntN ((psOf ts).take m) j ed.2.2.toNat) : Nat) : Int), rfl, rfl, SqL.of eL, ?_, _, rfl, _, rfl, Hh, _, _, V.int ((pwE n ts i c ed.2.1.toNat : Nat) : Int), rfl, rfl, SqL.of eh5, ?_, _, _, rfl, rfl, _, rfl, _, rfl, L, _, _, ed.2.2.toNat, rfl, rfl, eL, ?_, ?_⟩
            · rw [eb]
              exact atI_nat (vecL_at _ hb)
            · rw [ea]
              exact atI_nat (vecL_at _ ha)
            · rw [vecL_len]
              exact ixN_of r3 hb
            refine ⟨_, _, rfl, ?_, ?_⟩
            · intro c o ec
              rw [upd_ne (ne_of_none ec nL)]
              exact s5 _ _ ec
            · rw [upd_same]
              congr 2
              refine vecL_set hb fun a _ => ?_
              rw [psOf_take he ea eb, in_snoc _ _ ha]
          · rintro σ H5 ⟨v8, v9, rfl, s5, eL⟩
            have lv : (vsOf ts).length = (psOf ts).length := by
              unfold vsOf psOf
              rw [List.length_map, List.length_map]
            rw [lv, List.take_length] at eL
            exact ⟨_, rfl, _, _, _, _, _, L, rfl, s2.trans s5, eL⟩
        · rintro σ H2 ⟨v4, v6, v7, v8, v9, Hh, rfl, s2, eh⟩
          rw [Int.toNat_natCast] at eh
          have hz : (0 : Int) + (c : Int) = ((c : Nat) : Int) := Int.zero_add _
          rw [hz]
          refine ⟨_, rfl, _, rfl, _, rfl, Hh, _, _, V.int ((pwE n ts e c c : Nat) : Int), rfl, rfl, SqL.of eh, atI_nat (vecL_at _ hc), _, _, rfl, rfl, ?_⟩
          exact ⟨_, _, _, _, _, _, _, rfl, sa.trans s2⟩
    · rintro σ H2 ⟨v3, v4, v5, v6, v7, v8, v9, rfl, s2⟩
      exact ⟨_, rfl, q H2 s2⟩
end
end Lw
set_option Elab.async false
set_option linter.all false
set_option maxRecDepth 100000
/-! `_law_field` of an InvalidLength: the first lambda of its list -/
namespace Lw
open PySem PySem.Spec PyProof.Rows L2
section
variable {P : Program} {w : World} {K : PySem.W.Frag} {mg : Str → Option Value} {base : Heap}
set_option maxHeartbeats 8000000 in
theorem okT_length {f C a dd c Pf : Addr} {T : List (Addr × Str)} {qf : Str} {oc dV kV doc pm ct : Value} {od an : Option Addr} {osl : Array (Option Value)} {k : Nat}
    (lk : K.lookup f = some ⟨oc, od, .func (PySem.W.fnOf "_law_field" "_law_field" (defArgs sField) (defBody sField) (defScope sField) dV kV doc pm an (.ref c) ct), osl⟩) (hcd : PySem.W.codeIn K (.ref c) "_law_field" = true)
    (TB : LamX.TabB base mg c Pf) (hqf : ("_law_field" ++ ".<locals>." : Str) ++ "<lambda>" = qf) (hm1 : (Pf, qf) ∈ T) (hm2 : ∀ r ∈ T, r.1 = Pf → r.2 = qf)
    (TX : XfC K C) (nw : PySem.W.findIn K (.ref C) "word" = some none) (nn : PySem.W.findIn K (.ref C) "length" = some none) :
    FnT P w K mg base (k + 2) f (PySem.W.fnOf "_law_field" "_law_field" (defArgs sField) (defBody sField) (defScope sField) dV kV doc pm an (.ref c) ct) ["_law_e"] (Zh C a dd) (spFieldT T a dd "length" "invalidlength") := by
  have w0 : (("word" : Str) == ("length" : Str)) = false := by decide +kernel
  refine fn_ofTl lk hcd scField (fun vs H Q E h => ?_) (fun A outer s H vs Q E p hot hz hr h => ?_)
  · obtain ⟨n, rfl, _⟩ := h
    rfl
  · obtain ⟨n, rfl, hd, tb, q⟩ := h
    obtain ⟨pa, po⟩ := p
    obtain ⟨rfl, hzc, hf⟩ := hz
    have hC : L2H.HotC (L2H.cxH CX0 P w K mg base ["_law_e", "_law_fields", "_law_word", "_law_ask"] "_law_field" (defScope sField) f (.ref c) A outer s H E (pa, po)).nox := ⟨(pa, po), ⟨hot.1, hot.2⟩, List.mem_singleton.mpr rfl⟩
    have hm : (pa, po) ∈ [(pa, po)] := List.mem_singleton.mpr rfl
    have hq1 : (L2H.cxH CX0 P w K mg base ["_law_e", "_law_fields", "_law_word", "_law_ask"] "_law_field" (defScope sField) f (.ref c) A outer s H E (pa, po)).nox.env.qual ++ "<lambda>" = qf := hqf
    refine ⟨_, pss_cons (ps_if (pt_cmpR op_in_seq (pe_xfP TX nw hzc hf hm (pv 0)) (pe_lst (pa_cons pe_str (pa_cons pe_str (pa_cons pe_str (pa_cons pe_str pa_nil))))) (by rfl)) (pss_one ps_never) pss_nil)
      (pss_cons (ps_if (pt_cmpR op_in_seq (pe_xfP TX nw hzc hf hm (pv 0)) (pe_lst (pa_cons pe_str (pa_cons pe_str pa_nil))) (by rfl)) (pss_one ps_never) pss_nil)
      (pss_cons (ps_if (pt_cmpR op_in_seq (pe_xfP TX nw hzc hf hm (pv 0)) (pe_lst (pa_cons pe_str (pa_cons pe_str (pa_cons pe_str (pa_cons pe_str pa_nil))))) (by rfl)) (pss_one ps_never) pss_nil)
      (pss_cons (ps_if (pt_cmpR op_in_seq (pe_xfP TX nw hzc hf hm (pv 0)) (pe_lst (pa_cons pe_str (pa_cons pe_str (pa_cons pe_str pa_nil)))) (by rfl)) (pss_one ps_never) pss_nil)
      (C8.pss_cut (ps_set (i := 1) scField.nd rfl (by first | exact Or.inl rfl | exact Or.inr rfl) (pe_lst (pa_cons (pe_tup (pa_cons pe_str (pa_cons (LamV.pe_lamNo (T := T) TB rfl (by rw [hq1]; exact hm1) (by rw [hq1]; exact hm2) (by exact (show NdefX.ndefB (defScope sField) _ _ = true from by decide +kernel)) rfl) pa_nil))) (pa_cons (pe_tup (pa_cons pe_str (pa_cons (LamV.pe_lamInt (T := T) TB rfl (by rw [hq1]; exact hm1) (by rw [hq1]; exact hm2) (by exact (show NdefX.ndefB (defScope sField) _ _ = true from by decide +kernel)) rfl rfl pe_int) pa_nil))) pa_nil))))
      (C8.pss_cut (ps_set (i := 1) scField.nd rfl (by first | exact Or.inl rfl | exact Or.inr rfl) (pe_op op_cat (pv 1) (pe_lst (pa_cons (pe_tup (pa_cons pe_str (pa_cons (LamV.pe_lamNo (T := T) TB rfl (by rw [hq1]; exact hm1) (by rw [hq1]; exact hm2) (by exact (show NdefX.ndefB (defScope sField) _ _ = true from by decide +kernel)) rfl) pa_nil))) (pa_cons (pe_tup (pa_cons pe_str (pa_cons (LamV.pe_lamInt (T := T) TB rfl (by rw [hq1]; exact hm1) (by rw [hq1]; exact hm2) (by exact (show NdefX.ndefB (defScope sField) _ _ = true from by decide +kernel)) rfl rfl pe_int) pa_nil))) pa_nil)))))
      (pss_cons (L2H.ps_forH PassesOwn.never hC (HTup.pi_listH (pv 1)) (HTup.pg_tupH hC (pgs_cons (pg_name (i := 2) scField.nd rfl (by first | exact Or.inl rfl | exact Or.inr rfl)) (pgs_cons (pg_name (i := 3) scField.nd rfl (by first | exact Or.inl rfl | exact Or.inr rfl)) pgs_nil)))
        (pss_one (ps_if (pt_cmpR op_eq (pv 2) (pe_xfP TX nw hzc hf hm (pv 0)) (nomark _)) (pss_one (ps_ret (LamV.pe_ask (D := LamV.dNo) (i := 3) (k := k) (N := ["_law_e"]) (ps := []) (fr := ["_law_e"]) (vs := []) (js := [0])
          (params := (lamAt sField 4 0).1) (body := (lamAt sField 4 0).2.1) (scope := (lamAt sField 4 0).2.2) hm rfl (by first | exact Or.inl rfl | exact Or.inr (Or.inl rfl) | exact Or.inr (Or.inr rfl)) hr (NdefX.nscope_by (by decide +kernel)) (by exact (show NdefX.ndefB (defScope sField) _ _ = true from by decide +kernel)) rfl rfl
          (fun s H dV q cl doc pm cv ctv hok h => by
            subst h
            exact ⟨[], .nil, .of_eq rfl⟩)
          (fun A2 o2 s2 H2 f2 c2 hr2 => by exact pe_xfP TX nn hzc hf hm (pv 0))))) pss_nil)))
      (pss_one ps_never))))))), ?_⟩
    have sz : ∀ m : Nat, m ≤ 10 → m ≤ sizeLine := fun m h => Nat.le_trans h (by rw [sizeLine_eq]; decide)
    have s0 : Same H H := fun _ _ z => z
    refine ⟨_, rfl, rfl, _, _, s0 _ _ hd, er_w w0, sz 4 (by decide), fun l1 h1 => ⟨l1, _, rfl, .inl (SqL.of upd_same), rfl, (by decide +kernel), _, rfl, ifF (by decide +kernel) ?_⟩⟩
    have s1 := s0.trans (same_new (o := .lst [.str "invalidname", .str "duplicatename", .str "nameinuse", .str "unknownname"]) h1)
    refine ⟨_, rfl, rfl, _, _, s1 _ _ hd, er_w w0, sz 2 (by decide), fun l2 h2 => ⟨l2, _, rfl, .inl (SqL.of upd_same), rfl, (by decide +kernel), _, rfl, ifF (by decide +kernel) ?_⟩⟩
    have s2 := s1.trans (same_new (o := .lst [.str "limitexceeded", .str "capacityexceeded"]) h2)
    refine ⟨_, rfl, rfl, _, _, s2 _ _ hd, er_w w0, sz 4 (by decide), fun l3 h3 => ⟨l3, _, rfl, .inl (SqL.of upd_same), rfl, (by decide +kernel), _, rfl, ifF (by decide +kernel) ?_⟩⟩
    have s3 := s2.trans (same_new (o := .lst [.str "invalidgraph", .str "invalidrow", .str "invalidpath", .str "invalidcode"]) h3)
    refine ⟨_, rfl, rfl, _, _, s3 _ _ hd, er_w w0, sz 3 (by decide), fun l4 h4 => ⟨l4, _, rfl, .inl (SqL.of upd_same), rfl, (by decide +kernel), _, rfl, ifF (by decide +kernel) ?_⟩⟩
    have s4 := s3.trans (same_new (o := .lst [.str "outofrange", .str "invalidwidth", .str "invalidcapacity"]) h4)
    have hd4 := s4 _ _ hd
    have tb4 := tb.ext s4
    have x4 : LamX.ExtN H _ := LamX.ExtN.of s4
    clear s0 s1 s2 s3 s4
    generalize upd _ l4 _ = H4 at *
    obtain ⟨R2, hR2⟩ : ∃ R2 : Value → Addr → LamV.LR, R2 = LamV.lamOf (L2H.cxH CX0 P w K mg base ["_law_e", "_law_fields", "_law_word", "_law_ask"] "_law_field" (defScope sField) f (.ref c) A outer s H E (pa, po)).nox (lamAt sField 4 0).1 (lamAt sField 4 0).2.1 (lamAt sField 4 0).2.2 := ⟨_, rfl⟩
    have two : ∀ x y : V, [x, y].length ≤ sizeLine := fun _ _ => sz 2 (by decide)
    have new : ∀ {G : Hp} {p : Addr} {o : HO}, G p = none → LamX.Tabs T G → LamX.Tabs T (upd G p o) := fun n t => LamV.tabs_new t n
    -- the first two
    refine ⟨fun σ H' => ∃ (f1 p1 p2 L c1 : Addr), σ = [some (.ref pa), some (.ref L), none, none] ∧ LamX.ExtN H4 H' ∧ LamX.Tabs T H' ∧ H' L = some (.lst [.ref p1, .ref p2]) ∧ H' p1 = some (.tup [.str "invalidlength", .ref f1]) ∧
      H' f1 = some (LamV.LamO f1 (R2 .none c1)) ∧ H' c1 = some (LamX.CodeO c1 qf), ?_, ?_⟩
    · refine ⟨tb4, fun f1 d1 c1 H5 x5 t5 D5 e5 g5 => ⟨two _ _, fun p1 n1 => ?_⟩⟩
      have D5 : d1 = .none := D5
      subst D5
      have s6 := same_new (o := .tup [.str "invalidlength", .ref f1]) n1
      have t6 := new (o := .tup [.str "invalidlength", .ref f1]) n1 t5
      have x6 := LamV.ext_new (o := .tup [.str "invalidlength", .ref f1]) x5 n1
      have e6 : upd H5 p1 (.tup [.str "invalidlength", .ref f1]) p1 = some (.tup [.str "invalidlength", .ref f1]) := upd_same
      have e5 := s6 _ _ e5
      have g5 := s6 _ _ g5
      generalize upd H5 p1 (.tup [.str "invalidlength", .ref f1]) = H6 at *
      refine ⟨t6, fun f2 d2 c2 H7 x7 t7 _ _ _ => ⟨two _ _, fun p2 n2 => ⟨two _ _, fun L nL => ?_⟩⟩⟩
      have s8 := same_new (o := .tup [.str "invalidcount", .ref f2]) n2
      generalize upd H7 p2 (.tup [.str "invalidcount", .ref f2]) = H8 at *
      have s9 := same_new (o := .lst [.ref p1, .ref p2]) nL
      have s79 := s8.trans s9
      refine ⟨f1, p1, p2, L, c1, rfl, (x6.trans x7).trans (LamX.ExtN.of s79), t7.ext s79, upd_same, s79 _ _ (x7 _ _ e6 fun ps z => by cases z), ?_, ?_⟩
      · rw [hR2]
        exact s79 _ _ (x7 _ _ e5 fun ps z => by cases z)
      · rw [← hq1]
        exact s79 _ _ (x7 _ _ g5 LamX.codeO_ne)
    · rintro σ H5 ⟨f1, p1, p2, L, c1, rfl, x5, t5, eL, e1, ef, g5⟩
      refine ⟨fun σ H' => ∃ (L2 p3 p4 : Addr), σ = [some (.ref pa), some (.ref L2), none, none] ∧ LamX.ExtN H5 H' ∧ LamX.Tabs T H' ∧ H' L2 = some (.lst [.ref p1, .ref p2, .ref p3, .ref p4]), ?_, ?_⟩
      · refine ⟨_, rfl, t5, fun f3 d3 c3 H6 x6 t6 _ _ _ => ⟨two _ _, fun p3 n3 => ?_⟩⟩
        have t7 := new (o := .tup [.str "invalidcommand", .ref f3]) n3 t6
        have x7 := LamV.ext_new (o := .tup [.str "invalidcommand", .ref f3]) x6 n3
        generalize upd H6 p3 (.tup [.str "invalidcommand", .ref f3]) = H7 at *
        refine ⟨t7, fun f4 d4 c4 H8 x8 t8 _ _ _ => ⟨two _ _, fun p4 n4 => ⟨two _ _, fun L1 nL => ?_⟩⟩⟩
        have s9 := (same_new (o := .tup [.str "invalidfile", .ref f4]) n4).trans (same_new (o := .lst [.ref p3, .ref p4]) nL)
        have x9 := (x7.trans x8).trans (LamX.ExtN.of s9)
        refine ⟨L, L1, _, _, rfl, rfl, x9 _ _ eL (fun ps z => by cases z), upd_same, sz 4 (by decide), fun L2 n2 => ?_⟩
        have s10 := same_new (o := .lst ([.ref p1, .ref p2] ++ [.ref p3, .ref p4])) n2
        exact ⟨L2, p3, p4, rfl, x9.trans (LamX.ExtN.of s10), (t8.ext s9).ext s10, upd_same⟩
      · rintro σ H6 ⟨L2, p3, p4, rfl, x6, t6, eL6⟩
        have e1 := x6 _ _ e1 (fun ps z => by cases z)
        have ef := x6 _ _ ef (fun ps z => by cases z)
        have g6 := x6 _ _ g5 LamX.codeO_ne
        have xx : LamX.ExtN H H6 := (x4.trans x5).trans x6
        have hd6 := xx _ _ hd fun ps z => by cases z
        refine ⟨_, rfl, L2, _, rfl, SqL.of eL6, ?_⟩
        refine for_it walk_list (fun i σ H' => i = 0 ∧ H' = H6 ∧ ∃ v2 v3 : Option V, σ = [some (.ref pa), some (.ref L2), v2, v3]) ⟨rfl, rfl, _, _, rfl⟩ (fun i σ H' _ h => by rw [h.2.1]; exact SqL.of eL6) ?_ ?_
        · rintro i x σ G G' _ ⟨rfl, rfl, v2, v3, rfl⟩ ⟨rfl, gx⟩
          cases gx
          refine ⟨p1, _, rfl, SqT.of e1, rfl, _, _, rfl, _, _, rfl, rfl, ?_⟩
          refine ⟨_, rfl, _, rfl, rfl, _, _, hd6, er_w w0, rfl, _, rfl, ifT (by decide +kernel) ?_⟩
          refine ⟨f1, .none, c1, rfl, ?_, rfl, ?_, ?_⟩
          · rw [← hR2]
            exact ef
          · rw [hq1]
            exact g6
          · exact ⟨_, rfl, rfl, _, _, hd6, er_n, q _ xx t6⟩
        · rintro σ G ⟨hi, _⟩
          exact absurd (show 4 = 0 from hi) (by decide)
end
end Lw
set_option Elab.async false
set_option linter.all false
set_option maxRecDepth 100000
/-! Graph.full of a number from 1 to 24 -/
namespace Lw
open PySem L2
abbrev sFull : Stmt := inClass (top 17) 3
def spFull0 (C : Addr) : Sp := fun vs H Q _ => ∃ c : Int, vs = [.ref C, .int c] ∧ 1 ≤ c ∧ c ≤ 24 ∧
  ∀ (g : Addr) (us : Es) (H' : Hp), Same H H' → H g = none → psOf us = List.replicate c.toNat ((0 : Int), (0 : Int)) → GraphAt C H' g 1 us → Q (.ref g) H'
section
variable {P : Program} {w : World} {K : PySem.W.Frag} {mg : Str → Option Value} {base : Heap}
theorem scFull : FnScope ["cls", "count"] ["cls", "count"] (defScope sFull) := ⟨rfl, rfl, rfl, by decide +kernel, rfl, by decide +kernel, by decide +kernel⟩
theorem vs_rep (t : Addr) (c : Nat) : (List.replicate c [V.ref t]).flatten = vsOf (List.replicate c (t, (0 : Int), (0 : Int))) := by
  unfold vsOf
  rw [List.flatten_replicate_singleton, List.map_replicate]
theorem ps_rep (t : Addr) (c : Nat) : psOf (List.replicate c (t, (0 : Int), (0 : Int))) = List.replicate c ((0 : Int), (0 : Int)) := by
  unfold psOf
  rw [List.map_replicate]
set_option maxHeartbeats 4000000 in
theorem ok_full0 {f C fI : Addr} {mc : Value} {fd fdI : FuncData} {psI : List Str} {k : Nat} (F : Fun K "full" "Graph.full" sFull f fd) (G : GTxt K mg C mc) (M : Mk K C fI) (FI : FnOk P w K mg base CX0 2 fI fdI psI (spInit C)) (bI : Binds K fdI psI []) :
    FnOk P w K mg base CX0 (k + 4) f fd ["cls", "count"] (spFull0 C) := by
  refine F.ok scFull (fun vs H Q E h => ?_) (fun cdv A outer s H vs Q E hr h => ?_)
  · obtain ⟨c, rfl, _⟩ := h
    rfl
  · obtain ⟨c, rfl, c1, c2, q⟩ := h
    obtain ⟨u24, hv24⟩ := G.v24
    refine ⟨_, pss_cons (ps_if (pt_cmpR op_lt (pv 1) pe_int (nomark _)) (pss_one ps_never) pss_nil)
      (pss_cons (ps_if (pt_cmpR op_gt (pv 1) (ClX.pe_cval (pv 0)) (nomark _)) (pss_one ps_never) pss_nil)
      (pss_one (ps_ret (pe_makeL (i := 0) (E := E0) M FI (hr.mono (by omega)) rfl (.inl rfl) bI pass0 (pa_cons pe_int (pa_cons (pe_op op_rep (pe_lst (pa_cons (pe_tup (pa_cons pe_int (pa_cons pe_int pa_nil))) pa_nil)) (pv 1)) pa_nil)))))), ?_⟩
    refine ⟨_, rfl, _, _, rfl, rfl, _, rfl, if_f (decide_eq_false (by omega)) ?_⟩
    refine ⟨_, rfl, _, rfl, C, mc, _, _, rfl, G.rd, hv24, _, _, rfl, rfl, _, rfl, if_f (decide_eq_false (by omega)) ?_⟩
    refine ⟨rfl, (by show 2 ≤ sizeLine; decide), fun t ht => ?_⟩
    have s1 := same_upd (o := .tup [.int 0, .int 0]) ht
    have et : upd H t (.tup [.int 0, .int 0]) t = some (.tup [.int 0, .int 0]) := upd_same
    generalize upd H t (.tup [.int 0, .int 0]) = H1 at *
    refine ⟨(by show 1 ≤ sizeLine; decide), fun l hl => ?_⟩
    have s2 := same_upd (o := .lst [.ref t]) hl
    have el : upd H1 l (.lst [.ref t]) l = some (.lst [.ref t]) := upd_same
    have et := s2 _ _ et
    generalize upd H1 l (.lst [.ref t]) = H2 at *
    refine ⟨_, rfl, l, c, _, rfl, rfl, el, by omega, by omega, ?_, fun e he => ?_⟩
    · show 1 * c.toNat ≤ sizeLine
      exact Nat.le_of_lt (small1000 (by omega))
    rw [vs_rep]
    have s3 := same_upd (o := .lst (vsOf (List.replicate c.toNat (t, (0 : Int), (0 : Int))))) he
    have ee : upd H2 e (.lst (vsOf (List.replicate c.toNat (t, (0 : Int), (0 : Int))))) e = some (.lst (vsOf (List.replicate c.toNat (t, (0 : Int), (0 : Int))))) := upd_same
    have et := s3 _ _ et
    generalize upd H2 e (.lst (vsOf (List.replicate c.toNat (t, (0 : Int), (0 : Int))))) = H3 at *
    have s03 := (s1.trans s2).trans s3
    intro g dx hg hdx nex
    have s4 := same_upd (o := .own g) hdx
    have hg2 : upd H3 dx (.own g) g = none := by
      rw [upd_ne (Ne.symm nex)]
      exact hg
    have s5 := s4.trans (same_upd (o := .ins C dx []) hg2)
    have ng : H g = none := s03.free hg
    have ed : Ed (upd (upd H3 dx (.own g)) g (.ins C dx [])) (List.replicate c.toNat (t, (0 : Int), (0 : Int))) := fun x hx => by
      rw [List.eq_of_mem_replicate hx]
      exact s5 _ _ et
    have va : Valid 1 (List.replicate c.toNat (t, (0 : Int), (0 : Int))) := by
      refine ⟨fun x hx => ?_, fun k k0 k1 => ?_⟩
      · rw [List.eq_of_mem_replicate hx]
        exact ⟨Int.le_refl 0, (by decide : (0 : Int) < 1), Int.le_refl 0, (by decide : (0 : Int) < 1)⟩
      · refine ⟨_, List.mem_replicate.mpr ⟨by omega, rfl⟩, ?_⟩
        show (0 : Int) = k
        omega
    refine ⟨g, dx, e, 1, _, HO.lst, rfl, upd_same, .inl rfl, s5 _ _ ee, ed, va, by decide, by decide, by rw [List.length_replicate]; omega, fun us H' hus kp GA => ⟨rfl, ?_⟩⟩
    rw [ps_rep] at hus
    exact q g us H' (fun a o ea => kp a o (ne_of_none ea ng) (s5 _ _ (s03 _ _ ea))) ng hus GA
end
end Lw
set_option Elab.async false
set_option linter.all false
set_option maxRecDepth 100000
/-! lengths out of range, and what the law needs beside the defs -/
namespace Lw
open PySem L2
/-- InvalidLength(k) is raised -/
def OutLn (CL : Addr) (H : Hp) (k : Int) (E : XK) : Prop := ∀ H1 d, Same H H1 → H1 d = none → E (.ref CL) (some d) (upd H1 d (.xd (erF "length" "invalidlength" k)))
def spClX (CL : Addr) : Sp := fun vs H Q E => ∃ e lim : Int, vs = [.int e, .int lim] ∧ e.natAbs < 10 ^ 100 ∧ ¬ (1 ≤ e ∧ e ≤ lim) ∧ OutLn CL H e E
def spCnX (CL : Addr) : Sp := fun vs H Q E => ∃ (g : Addr) (e : Int), vs = [.ref g, .int e] ∧ e.natAbs < 10 ^ 100 ∧ ¬ (1 ≤ e ∧ e ≤ 2000) ∧ OutLn CL H e E
section
variable {P : Program} {w : World} {K : PySem.W.Frag} {mg : Str → Option Value} {base : Heap} {f C CL : Addr} {fd : FuncData} {k : Nat}
set_option maxHeartbeats 4000000 in
theorem okN_cl (F : Fun K "check_length" "check_length" sCl f fd) (R : ErrIn P w K mg base "InvalidLength" CL "length" "invalidlength") : FnOk P w K mg base (L2N.CX P w) (k + 4) f fd ["length", "limit"] (spClX CL) := by
  refine okN F scCl (fun vs H Q E h => ?_) (fun cdv A outer s H vs Q E hr h => ?_)
  · obtain ⟨e, l, rfl, _⟩ := h
    rfl
  · obtain ⟨e, l, rfl, big, no, q⟩ := h
    refine ⟨_, pss_one (ps_if (pt_not (pt_chain op_le op_le pe_int (pv 0) (pv 1))) (pss_one (ps_raiseN rfl (L2N.takes_of rfl rfl rfl rfl) R hr (by omega) (by rfl) (pa_cons (pv 0) pa_nil))) pss_nil), ?_⟩
    have out : ∀ H', H' = H → OutLn CL H' e E := fun _ z => by rw [z]; exact q
    by_cases h1 : 1 ≤ e
    · refine ⟨_, rfl, _, _, rfl, rfl, _, rfl, if_t (decide_eq_true h1) ⟨_, rfl, _, _, rfl, rfl, _, rfl, ?_⟩⟩
      have h2 : ¬ e ≤ l := fun z => no ⟨h1, z⟩
      refine if_t (by rw [decide_eq_false h2]; rfl) ⟨_, rfl, ?_⟩
      exact er_tail (n := e) big fun d hd => q H d (fun _ _ z => z) hd
    · refine ⟨_, rfl, _, _, rfl, rfl, _, rfl, if_f (decide_eq_false h1) ⟨_, rfl, ?_⟩⟩
      refine if_t rfl ⟨_, rfl, ?_⟩
      exact er_tail (n := e) big fun d hd => q H d (fun _ _ z => z) hd
set_option maxHeartbeats 4000000 in
theorem okN_cp (F : Fun K "count_paths" "count_paths" sCP f fd) {tk : Tok} (mx : mg "MAX_COUNTED" = some (.int 2000 tk)) (cL : CalN P w K mg base 4 "check_length" (spClX CL)) : FnOk P w K mg base (L2N.CX P w) (k + 5) f fd ["graph", "length"] (spCnX CL) := by
  refine okN F scCP (fun vs H Q E h => ?_) (fun cdv A outer s H vs Q E hr h => ?_)
  · obtain ⟨g, e, rfl, _⟩ := h
    rfl
  · obtain ⟨g, e, rfl, big, no, q⟩ := h
    refine ⟨_, pss_cons (ps_expr (pe_cN (E := E) cL (L2N.takes_of rfl rfl rfl rfl) (fun _ _ _ _ h => h) hr (by omega) (by rfl) (pa_cons (pv 1) (pa_cons (pe_glob (v := .int 2000) (by rfl) mx ⟨_, rfl⟩) pa_nil)))) (pss_one ps_never), ?_⟩
    exact ⟨_, rfl, e, 2000, rfl, big, no, q⟩
set_option maxHeartbeats 4000000 in
theorem okN_cc (F : Fun K "count_closed" "count_closed" sCC f fd) {tk : Tok} (mx : mg "MAX_COUNTED" = some (.int 2000 tk)) (cL : CalN P w K mg base 4 "check_length" (spClX CL)) : FnOk P w K mg base (L2N.CX P w) (k + 5) f fd ["graph", "length"] (spCnX CL) := by
  refine okN F scCC (fun vs H Q E h => ?_) (fun cdv A outer s H vs Q E hr h => ?_)
  · obtain ⟨g, e, rfl, _⟩ := h
    rfl
  · obtain ⟨g, e, rfl, big, no, q⟩ := h
    refine ⟨_, pss_cons (ps_expr (pe_cN (E := E) cL (L2N.takes_of rfl rfl rfl rfl) (fun _ _ _ _ h => h) hr (by omega) (by rfl) (pa_cons (pv 1) (pa_cons (pe_glob (v := .int 2000) (by rfl) mx ⟨_, rfl⟩) pa_nil)))) (pss_one ps_never), ?_⟩
    exact ⟨_, rfl, e, 2000, rfl, big, no, q⟩
end
/-! ### the graph of two loops -/
theorem pw_full (e : Nat) : sm (1 : Int).toNat (fun i => pw (1 : Int).toNat (cntN (List.replicate (2 : Int).toNat ((0 : Int), (0 : Int)))) e i i) = 2 ^ e := by
  have h : ∀ e, pw 1 (cntN (List.replicate 2 ((0 : Int), (0 : Int)))) e 0 0 = 2 ^ e := by
    intro e
    induction e with
    | zero => rfl
    | succ e ih =>
      show 0 + pw 1 (cntN (List.replicate 2 ((0 : Int), (0 : Int)))) e 0 0 * cntN (List.replicate 2 ((0 : Int), (0 : Int))) 0 0 = 2 ^ (e + 1)
      rw [ih, Nat.zero_add, Nat.pow_succ]
      rfl
  show 0 + pw 1 (cntN (List.replicate 2 ((0 : Int), (0 : Int)))) e 0 0 = 2 ^ e
  rw [h, Nat.zero_add]
/-! ### what the lambdas give -/
abbrev toldD (wd : Str) (n : Int) : PyData := .tuple [.str wd, .int n]
theorem sh_two (a b : Int) : SeqAt.shaped (.list [toldD "invalidlength" a, toldD "invalidlength" b]) = true := by
  have e : SeqAt.shaped (.list [toldD "invalidlength" a, toldD "invalidlength" b]) = SeqAt.shaped (.list [toldD "invalidlength" 0, toldD "invalidlength" 0]) := rfl
  rw [e]
  decide +kernel
theorem eq_two (w1 w2 : Str) (a b : Int) : PyData.eqv (.list [toldD w1 a, toldD w2 b]) (.list [toldD w1 a, toldD w2 b]) = true := by
  show ((w1 == w1) && ((a == a) && true) && (((w2 == w2) && ((b == b) && true)) && true)) = true
  simp
section
variable {T : List (Addr × Str)} {Er : Addr → Str → Str → Prop} {CL : Addr} {σ : L2.St} {H : Hp} {Q : VK}
theorem toldT {CE : Addr} {fld wd : Str} {k : Int} {H1 : Hp} {d : Addr} (ok : Er CE fld wd) (tb : LamX.Tabs T H) (s1 : Same H H1) (hd : H1 d = none) (rest : ∀ p H2, LamX.ExtN H H2 → LamX.Tabs T H2 → H2 p = some (.tup [.str wd, .int k]) → Q (.ref p) H2) :
    ∃ (C dd : Addr) (fld' wd' : Str) (n : Int), Er C fld' wd' ∧ (Value.ref CE) = .ref C ∧ (some d) = some dd ∧ upd H1 d (.xd (erF fld wd k)) dd = some (.xd (erF fld' wd' n)) ∧ LamX.Tabs T (upd H1 d (.xd (erF fld wd k))) ∧
      ∀ H2 p, LamX.ExtN (upd H1 d (.xd (erF fld wd k))) H2 → LamX.Tabs T H2 → H2 p = some (.tup [.str wd', .int n]) → Q (.ref p) H2 :=
  ⟨CE, d, fld, wd, k, ok, rfl, rfl, upd_same, (tb.ext s1).ext (same_upd hd), fun H2 p x2 t2 e2 => rest p H2 ((LamX.ExtN.of (s1.trans (same_upd hd))).trans x2) t2 e2⟩
theorem tried_cn {P1 P2 : Hp → Prop} {g : Addr} {c : Int} {i j : Nat} (ok : Er CL "length" "invalidlength") (tb : LamX.Tabs T H) (hP : P1 H) (hP2 : P2 H) (h0 : σ[i]? = some (some (.ref g))) (h1 : σ[j]? = some (some (.int c))) (hc : c.natAbs < 10 ^ 100) (no : ¬ (1 ≤ c ∧ c ≤ 2000))
    (rest : ∀ p H2, LamX.ExtN H H2 → LamX.Tabs T H2 → H2 p = some (.tup [.str "invalidlength", .int c]) → Q (.ref p) H2) :
    TriedT T Er (fun E G Q' => P1 G ∧ P2 G ∧ tCall (spCnX CL) [] E (tCons (tVar i) (tCons (tVar j) tNil)) σ G Q') H Q :=
  ⟨hP, hP2, _, h0, _, h1, g, c, rfl, hc, no, fun H1 d s1 hd => toldT ok tb s1 hd rest⟩
end
/-- a turn's things -/
structure Tn (C b l : Addr) (T : List (Addr × Str)) (ns : List Int) (p q g : Addr) (n : Int) (ts us : Es) (H : Hp) : Prop where
  bag : BagAt H b l ns
  tab : LamX.Tabs T H
  pl : PlanAt H p q n ts
  gr : GraphAt C H g n us
section
variable {C b l p q g : Addr} {T : List (Addr × Str)} {ns : List Int} {n : Int} {ts us : Es} {H H' : Hp}
theorem Tn.same (h : Tn C b l T ns p q g n ts us H) (s : Same H H') : Tn C b l T ns p q g n ts us H' := ⟨h.bag.same s, h.tab.ext s, h.pl.same s, h.gr.same s⟩
theorem Tn.keep (h : Tn C b l T ns p q g n ts us H) (k : KeepB b H H') (B : BagAt H' b l ns) : Tn C b l T ns p q g n ts us H' := ⟨B, tabs_keep h.tab h.bag k, h.pl.keep h.bag k, h.gr.keep h.bag k⟩
theorem Tn.extN (h : Tn C b l T ns p q g n ts us H) (e : LamX.ExtN H H') (t : LamX.Tabs T H') : Tn C b l T ns p q g n ts us H' := ⟨h.bag.extN e, t, h.pl.extN e, h.gr.extN e⟩
theorem Tn.ok (h : Tn C b l T ns p q g n ts us H) (e : psOf us = psOf ts) (n8 : n ≤ 8) (l24 : ts.length ≤ 24) : GrOk C H g n us := by
  have len : us.length = ts.length := by
    have := congrArg List.length e
    unfold psOf at this
    simpa using this
  refine ⟨h.gr, h.pl.n1, n8, by omega, fun x hx => ?_⟩
  have hm : x.2 ∈ psOf us := List.mem_map.mpr ⟨x, hx, rfl⟩
  rw [e] at hm
  obtain ⟨y, hy, ey⟩ := List.mem_map.mp hm
  have := h.pl.va.rg y hy
  rw [ey] at this
  exact this
end
theorem lk_ints {H : Hp} {a b : Addr} {xs : List Int} {k : Nat} (h1 : H a = some (.lst (xs.map V.int))) (h2 : H b = some (.lst (xs.map V.int))) (hl : xs.length ≤ 1000) : Lk H (k + 2) (.ref a) (.ref b) := by
  refine .inr (.inl ⟨a, b, _, _, rfl, rfl, h1, h2, rfl, by rw [List.length_map]; exact hl, fun i u v hu hv => ?_⟩)
  rw [hu] at hv
  cases hv
  rw [List.getElem?_map] at hu
  obtain ⟨z, _, rfl⟩ := Option.map_eq_some_iff.mp hu
  exact .inl ⟨rfl, rfl⟩
end Lw
set_option Elab.async false
set_option linter.all false
set_option maxRecDepth 100000
namespace Lw
open PySem L2
abbrev sLaw : Stmt := top 29
abbrev NL : List Str := ["_law_script", "_law_bag_here", "_law_turn", "_law_plan_here", "_law_graph_here", "_law_size", "_law_found", "_law_far", "_law_words"]
theorem scLaw : FnScope NL ["_law_script"] (defScope sLaw) := ⟨rfl, rfl, rfl, by decide +kernel, rfl, by decide +kernel, by decide +kernel⟩
structure Lib (P : Program) (w : World) (K : PySem.W.Frag) (mg : Str → Option Value) (base : Heap) (TT : List (Addr × Str)) (C CL : Addr) (mc : Value) : Prop where
  T : Bi mg
  G : GTxt K mg C mc
  bag : C8.Cal P w K mg base 1 "_law_bag" (spBag K) []
  pull : C8.Cal P w K mg base 1 "_law_pull" spPull []
  of : C8.Cal P w K mg base 2 "_law_of" (spOf K) []
  plan : C8.Cal P w K mg base 2 "_law_plan" spPlan []
  like : C8.Cal P w K mg base 6 "_law_like" (spLike 5) []
  graph : C8.Cal P w K mg base 4 "_law_graph" (spGraph C) []
  cp : C8.Cal P w K mg base 3 "count_paths" (spCP C) []
  cc : C8.Cal P w K mg base 3 "count_closed" (spCC C) []
  cpx : CalN P w K mg base 5 "count_paths" (spCnX CL)
  ccx : CalN P w K mg base 5 "count_closed" (spCnX CL)
  lpc : C8.Cal P w K mg base 1 "_law_path_count" spLPC []
  lcc : C8.Cal P w K mg base 1 "_law_closed_count" spLCC []
  full : ∃ p g, ClX.CMet K C mc "full" p g ∧ FnR P w K mg base CX0 4 g (spFull0 C)
  tried : ∃ (g : Addr) (oc : Value) (od : Option Addr) (dV kV doc pm : Value) (an : Option Addr) (cdv ct : Value) (osl : Array (Option Value)), mg "_law_tried" = some (.ref g) ∧ PySem.W.keepIn K (.ref g) = true ∧
    K.lookup g = some ⟨oc, od, .func (PySem.W.fnOf "_law_tried" "_law_tried" (defArgs sTried) (defBody sTried) (defScope sTried) dV kV doc pm an cdv ct), osl⟩ ∧ PySem.W.codeIn K cdv "_law_tried" = true ∧ Binds K (PySem.W.fnOf "_law_tried" "_law_tried" (defArgs sTried) (defBody sTried) (defScope sTried) dV kV doc pm an cdv ct) ["_law_ask"] []
  err : ∃ (CW fF : Addr) (fdF : FuncData), mg "WindowError" = some (.ref CW) ∧ mg "_law_field" = some (.ref fF) ∧ PySem.W.keepIn K (.ref fF) = true ∧ Binds K fdF ["_law_e"] [] ∧ ErOkT P w K mg base TT CW fF fdF CL "length" "invalidlength"
def spLaw (K : PySem.W.Frag) (Pt Pf : Addr) : Sp := fun vs H Q _ => ∃ (a : Addr) (ns : List Int), vs = [.ref a] ∧ SqL K H a (ns.map V.int) ∧ ns.length ≤ 63 ∧ H Pt = some (.tbl #[]) ∧ H Pf = some (.tbl #[]) ∧ ∀ H', Q (.bl true) H'
theorem sizes_ok {v1 v2 kk : Int} (h1 : 0 ≤ v1) (h2 : v1 < 28) (h3 : 0 ≤ v2) (h4 : v2 < 2) (x : V) (hx : x ∈ [V.int 1, V.int 2, V.int (3 + v1)] ++ (List.replicate kk.toNat [V.int (1999 + v2)]).flatten) : ∃ e : Nat, x = .int (e : Int) ∧ 1 ≤ e ∧ e ≤ 2000 := by
  rcases List.mem_append.mp hx with h | h
  · simp only [List.mem_cons, List.not_mem_nil, or_false] at h
    rcases h with rfl | rfl | rfl
    · exact ⟨1, rfl, by decide, by decide⟩
    · exact ⟨2, rfl, by decide, by decide⟩
    · exact ⟨(3 + v1).toNat, by rw [Int.toNat_of_nonneg (by omega)], by omega, by omega⟩
  · obtain ⟨ys, hy, hm⟩ := List.mem_flatten.mp h
    rw [List.eq_of_mem_replicate hy, List.mem_singleton] at hm
    subst hm
    exact ⟨(1999 + v2).toNat, by rw [Int.toNat_of_nonneg (by omega)], by omega, by omega⟩
theorem full_ok {C : Addr} {H : Hp} {g : Addr} {us : Es} {c : Nat} (hus : psOf us = List.replicate c ((0 : Int), (0 : Int))) (hc : c ≤ 24) (G : GraphAt C H g 1 us) : GrOk C H g 1 us := by
  refine ⟨G, by decide, by decide, ?_, fun x hx => ?_⟩
  · have := congrArg List.length hus
    unfold psOf at this
    rw [List.length_map, List.length_replicate] at this
    omega
  · have hm : x.2 ∈ psOf us := List.mem_map.mpr ⟨x, hx, rfl⟩
    rw [hus] at hm
    rw [List.eq_of_mem_replicate hm]
    exact ⟨Int.le_refl _, by decide, Int.le_refl _, by decide⟩
section
variable {P : Program} {w : World} {K : PySem.W.Frag} {mg : Str → Option Value} {base : Heap}
set_option maxHeartbeats 16000000 in
theorem ok_law {f C CL c Pt Pf : Addr} {qn qf : Str} {mc : Value} {oc dV kV doc pm ct : Value} {od an : Option Addr} {osl : Array (Option Value)} (lk : K.lookup f = some ⟨oc, od, .func (PySem.W.fnOf "law" "law" (defArgs sLaw) (defBody sLaw) (defScope sLaw) dV kV doc pm an (.ref c) ct), osl⟩) (hcd : PySem.W.codeIn K (.ref c) "law" = true)
    (TB : LamX.TabB base mg c Pt) (hq0 : ("law" ++ ".<locals>." : Str) ++ "<lambda>" = qn) (nPf : Pf ≠ Pt) (L : Lib P w K mg base [(Pt, qn), (Pf, qf)] C CL mc) : FnOk P w K mg base CX0 12 f (PySem.W.fnOf "law" "law" (defArgs sLaw) (defBody sLaw) (defScope sLaw) dV kV doc pm an (.ref c) ct) ["_law_script"] (spLaw K Pt Pf) := by
  refine fn_of lk hcd scLaw (fun vs H Q E h => ?_) (fun A outer s H vs Q E hr h => ?_)
  · obtain ⟨a, ns, rfl, _⟩ := h
    rfl
  · obtain ⟨a, ns, rfl, hS, hln, htb, htf, q⟩ := h
    have T := L.T
    obtain ⟨gT, ocT, odT, dVT, kVT, docT, pmT, anT, cdvT, ctT, oslT, mT, kT, lkT, hcT, bT⟩ := L.tried
    obtain ⟨CW, fF, fdF, gW, gF, kF, bF, EL⟩ := L.err
    obtain ⟨pF, gFu, cmF, FnF⟩ := L.full
    obtain ⟨TT, hTT⟩ : ∃ TT : List (Addr × Str), [(Pt, qn), (Pf, qf)] = TT := ⟨_, rfl⟩
    rw [hTT] at EL
    have hm1 : (Pt, qn) ∈ TT := by
      rw [← hTT]
      exact List.mem_cons_self
    have hm2 : ∀ r ∈ TT, r.1 = Pt → r.2 = qn := fun r hr e => by
      rw [← hTT] at hr
      rcases List.mem_cons.mp hr with z | z
      · rw [z]
      · rw [List.mem_singleton.mp z] at e
        exact absurd e nPf
    suffices hh : ∃ t, PSs (cxOf CX0 P w K mg base NL "law" (defScope sLaw) f (.ref c) A outer s H E).nox (defBody sLaw) t ∧ t { nx := fun _ H' => Q .non H', rt := Q } (start NL [.ref a]) H by
      obtain ⟨t, h1, h2⟩ := hh
      exact ⟨t, h1.nox, h2⟩
    have hqn : (cxOf CX0 P w K mg base NL "law" (defScope sLaw) f (.ref c) A outer s H E).nox.env.qual ++ "<lambda>" = qn := hq0
    refine ⟨_, pss_cons (ps_set (i := 1) scLaw.nd rfl (by first | exact Or.inl rfl | exact Or.inr rfl) (C8.pe_c L.bag hr (by decide) (by rfl) (pa_cons (pv 0) pa_nil))) (pss_cons (ps_for PassesOwn.never rfl (pi_range1 (by rfl) T.range (pa_cons pe_int pa_nil)) (pg_name (i := 2) scLaw.nd rfl (by first | exact Or.inl rfl | exact Or.inr rfl)) (C8.pss_cut (ps_set (i := 3) scLaw.nd rfl (by first | exact Or.inl rfl | exact Or.inr rfl) (C8.pe_c L.plan hr (by decide) (by rfl) (pa_cons (pv 1) (pa_cons pe_int (pa_cons (C8.pe_c L.of hr (by decide) (by rfl) (pa_cons (pv 1) (pa_cons (pe_lst (pa_cons pe_int (pa_cons pe_int pa_nil))) pa_nil))) pa_nil))))) (C8.pss_cut (ps_set (i := 4) scLaw.nd rfl (by first | exact Or.inl rfl | exact Or.inr rfl) (C8.pe_c L.graph hr (by decide) (by rfl) (pa_cons (pv 3) pa_nil))) (C8.pss_cut (ps_for PassesOwn.never rfl (pi_list (pe_op op_cat (pe_lst (pa_cons pe_int (pa_cons pe_int (pa_cons (pe_op op_add pe_int (C8.pe_c L.pull hr (by decide) (by rfl) (pa_cons (pv 1) (pa_cons pe_int pa_nil)))) pa_nil)))) (pe_op op_rep (pe_lst (pa_cons (pe_op op_add pe_int (C8.pe_c L.pull hr (by decide) (by rfl) (pa_cons (pv 1) (pa_cons pe_int pa_nil)))) pa_nil)) (pe_callTy call_int1 (by rfl) T.int (by decide +kernel) (pa_cons (pe_cmpR op_eq (pv 2) pe_int (nomark _)) pa_nil))))) (pg_name (i := 5) scLaw.nd rfl (by first | exact Or.inl rfl | exact Or.inr rfl)) (pss_cons (ps_set (i := 6) scLaw.nd rfl (by first | exact Or.inl rfl | exact Or.inr rfl) (pe_lst (pa_cons (C8.pe_c L.cp hr (by decide) (by rfl) (pa_cons (pv 4) (pa_cons (pv 5) pa_nil))) (pa_cons (C8.pe_c L.cc hr (by decide) (by rfl) (pa_cons (pv 4) (pa_cons (pv 5) pa_nil))) pa_nil)))) (pss_one (ps_if (pt_not (pt_val (C8.pe_c L.like hr (by decide) (by rfl) (pa_cons (pv 6) (pa_cons (pe_lst (pa_cons (C8.pe_c L.lpc hr (by decide) (by rfl) (pa_cons (pv 3) (pa_cons (pv 5) pa_nil))) (pa_cons (C8.pe_c L.lcc hr (by decide) (by rfl) (pa_cons (pv 3) (pa_cons (pv 5) pa_nil))) pa_nil))) pa_nil))))) (pss_one (ps_ret pe_bl)) pss_nil)))) (C8.pss_cut (ps_set (i := 7) scLaw.nd rfl (by first | exact Or.inl rfl | exact Or.inr rfl) (C8.pe_c L.of hr (by decide) (by rfl) (pa_cons (pv 1) (pa_cons (pe_lst (pa_cons pe_int (pa_cons pe_int (pa_cons (pe_un un_neg pe_int) (pa_cons (pe_op op_pow pe_int pe_int) pa_nil))))) pa_nil)))) (pss_cons (ps_set (i := 8) scLaw.nd rfl (by first | exact Or.inl rfl | exact Or.inr rfl) (pe_lst (pa_cons (LamN.pe_hand (T := TT) (D := LamV.dNo) (k := 5) (N := ["_law_graph_here", "_law_far"]) (ps := []) (fr := ["_law_graph_here", "_law_far"]) (vs := []) (js := [4, 7]) (t := fun E => tCall (spCnX CL) [] E (tCons (tVar 0) (tCons (tVar 1) tNil))) (by rfl) mT kT lkT hcT bT scTried rfl (.inl rfl) (triedT_gives (T := TT) (hr.mono (by decide)) gW gF kF bF) (hr.mono (by decide)) (LamV.pe_lamNo (T := TT) TB rfl (by rw [hqn]; exact hm1) (by rw [hqn]; exact hm2) (by exact (show NdefX.ndefB (defScope sLaw) _ _ = true from by decide +kernel)) rfl) (NdefX.nscope_by (by decide +kernel)) (by exact (show NdefX.ndefB (defScope sLaw) _ _ = true from by decide +kernel)) rfl rfl (fun s H dV q cl doc pm cv ctv hok h => by subst h; exact ⟨[], .nil, .of_eq rfl⟩) (fun A2 o2 s2 H2 E2 f2 c2 hr2 => by exact (pe_cN L.cpx (L2N.takes_of rfl rfl rfl rfl) (fun _ _ _ _ h => h) hr2 (Nat.le_refl _) (by rfl) (pa_cons (pv 0) (pa_cons (pv 1) pa_nil))))) (pa_cons (LamN.pe_hand (T := TT) (D := LamV.dInt 0) (k := 5) (N := ["_law_a", "_law_graph_here", "_law_far"]) (ps := ["_law_a"]) (fr := ["_law_graph_here", "_law_far"]) (vs := [.int 0]) (js := [4, 7]) (t := fun E => tCall (spCnX CL) [] E (tCons (tVar 1) (tCons (tVar 2) tNil))) (by rfl) mT kT lkT hcT bT scTried rfl (.inl rfl) (triedT_gives (T := TT) (hr.mono (by decide)) gW gF kF bF) (hr.mono (by decide)) (LamV.pe_lamInt (T := TT) TB rfl (by rw [hqn]; exact hm1) (by rw [hqn]; exact hm2) (by exact (show NdefX.ndefB (defScope sLaw) _ _ = true from by decide +kernel)) rfl rfl pe_int) (NdefX.nscope_by (by decide +kernel)) (by exact (show NdefX.ndefB (defScope sLaw) _ _ = true from by decide +kernel)) rfl rfl (fun s H dV q cl doc pm cv ctv hok h => by obtain ⟨t, rfl, ht⟩ := h; obtain ⟨⟨u, ru, tat⟩, _, _⟩ := hok t _ ht; exact ⟨[u], .cons ru .nil, BindsTo.of_defaults rfl tat rfl rfl rfl⟩) (fun A2 o2 s2 H2 E2 f2 c2 hr2 => by exact (pe_cN L.ccx (L2N.takes_of rfl rfl rfl rfl) (fun _ _ _ _ h => h) hr2 (Nat.le_refl _) (by rfl) (pa_cons (pv 1) (pa_cons (pv 2) pa_nil))))) pa_nil)))) (pss_one (ps_if (pt_cmpR (op_neD hr.units) (pv 8) (pe_op op_rep (pe_lst (pa_cons (pe_tup (pa_cons pe_str (pa_cons (pv 7) pa_nil))) pa_nil)) pe_int) (nomark _)) (pss_one (ps_ret pe_bl)) pss_nil)))))))) (pss_one (ps_ret (pe_cmpR op_eq (C8.pe_c L.cc hr (by decide) (by rfl) (pa_cons (ClX.pe_cmeth (E := E0) (pe_glob (v := .ref C) (by rfl) L.G.mgG rfl) L.G.rd cmF FnF (hr.mono (by decide)) pass0 (pa_cons pe_int pa_nil)) (pa_cons pe_int pa_nil))) (pe_op op_mul (pe_op op_pow pe_int pe_int) (pe_op op_pow pe_int pe_int)) (nomark _))))), ?_⟩
    have four : ∀ m : Nat, m ≤ 1000 → m ≤ sizeLine := fun m h => Nat.le_of_lt (small1000 h)
    refine ⟨_, rfl, a, ns, rfl, hS, hln, fun b l H1 s1 nb nl B => ?_⟩
    have tb1 : LamX.Tabs TT H1 := by
      refine LamX.Tabs.ext (fun p hp => ?_) s1
      rw [← hTT] at hp
      rcases List.mem_cons.mp hp with z | z
      · rw [z]
        exact LamX.TabS.nil htb
      · rw [List.mem_singleton.mp z]
        exact LamX.TabS.nil htf
    refine ⟨3, rfl, by decide, by decide, ?_⟩
    refine for_it (walk_range (lo := 0) (n := (3 : Int).toNat)) (fun i σ H' => ∃ v2 v3 v4 v5 v6 v7 v8 : Option V, σ = [some (.ref a), some (.ref b), v2, v3, v4, v5, v6, v7, v8] ∧ BagAt H' b l ns ∧ LamX.Tabs TT H')
      ⟨_, _, _, _, _, _, _, rfl, B, tb1⟩ (fun _ _ _ _ _ => True.intro) ?_ ?_
    · rintro i x σ H2 H' hi ⟨v2, v3, v4, v5, v6, v7, v8, rfl, B2, tb2⟩ ⟨rfl, rfl⟩
      -- the plan
      refine ⟨fun σ H' => ∃ v4 v5 v6 v7 v8 : Option V, ∃ (p q0 : Addr) (n : Int) (ts : Es), σ = [some (.ref a), some (.ref b), some (.int (0 + (i : Int))), some (.ref p), v4, v5, v6, v7, v8] ∧ BagAt H' b l ns ∧ LamX.Tabs TT H' ∧ PlanAt H' p q0 n ts ∧ n ≤ 5 ∧ ts.length ≤ 24, ?_, ?_⟩
      · refine ⟨_, rfl, _, rfl, four 2 (by decide), fun tl htl => ?_⟩
        have s3 := same_upd (o := .lst [.int 8, .int 24]) htl
        refine ⟨b, l, tl, ns, _, rfl, B2.same s3, SqL.of upd_same, B2.ne_new htl, by simp, (by show 2 ≤ 1000; decide), fun j v o hj BO => ?_⟩
        obtain ⟨mm, rfl, m1, m2⟩ : ∃ mm : Int, v = .int mm ∧ 8 ≤ mm ∧ mm ≤ 24 := by
          have hm := List.mem_of_getElem? hj
          simp only [List.mem_cons, List.not_mem_nil, or_false] at hm
          rcases hm with rfl | rfl
          · exact ⟨8, rfl, by decide, by decide⟩
          · exact ⟨24, rfl, by decide, by decide⟩
        have B4 := (B2.same s3).upd BO
        have tb4 := tabs_keep (tb2.ext s3) (B2.same s3) (.updb (o := o))
        generalize upd (upd H' tl (.lst [.int 8, .int 24])) b o = H4 at *
        refine ⟨b, l, ns, 5, mm, rfl, B4, by decide, by omega, by omega, fun p q0 n ts H5 kp5 B5 np nq PA hn hl => ?_⟩
        exact ⟨_, _, _, _, _, p, q0, n, ts, rfl, B5, tabs_keep tb4 B4 kp5, PA, hn, by omega⟩
      clear B2 tb2
      rintro σ H3 ⟨v4, v5, v6, v7, v8, p, q0, n, ts, rfl, B3, tb3, PA, hn, hl⟩
      -- the graph
      refine ⟨fun σ H' => ∃ v5 v6 v7 v8 : Option V, ∃ (g : Addr) (us : Es), σ = [some (.ref a), some (.ref b), some (.int (0 + (i : Int))), some (.ref p), some (.ref g), v5, v6, v7, v8] ∧ Tn C b l TT ns p q0 g n ts us H' ∧ psOf us = psOf ts, ?_, ?_⟩
      · refine ⟨_, rfl, p, q0, n, ts, rfl, PA, by omega, hl, fun g us H4 eqp s4 ng GA => ?_⟩
        exact ⟨_, _, _, _, g, us, rfl, ⟨B3.same s4, tb3.ext s4, PA.same s4, GA⟩, eqp⟩
      clear PA B3 tb3
      rintro σ H4 ⟨v5, v6, v7, v8, g, us, rfl, Z, eqp⟩
      -- the lengths
      refine ⟨fun σ H' => ∃ v5 v6 v7 v8 : Option V, σ = [some (.ref a), some (.ref b), some (.int (0 + (i : Int))), some (.ref p), some (.ref g), v5, v6, v7, v8] ∧ Tn C b l TT ns p q0 g n ts us H', ?_, ?_⟩
      · refine ⟨_, rfl, b, l, ns, 28, rfl, Z.bag, by decide, by decide, fun v1 o1 v10 v11 BO1 => ?_⟩
        have Z := Z.keep .updb (Z.bag.upd BO1)
        generalize upd H4 b o1 = H5 at *
        refine ⟨_, _, rfl, rfl, four 3 (by decide), fun l1 hl1 => ?_⟩
        have nb1 := Z.bag.ne_new hl1
        have Z := Z.same (same_upd (o := .lst [.int 1, .int 2, (fun i j : Int => V.int (i + j)) 3 v1]) hl1)
        have e1 : upd H5 l1 (.lst [.int 1, .int 2, (fun i j : Int => V.int (i + j)) 3 v1]) l1 = some (.lst [.int 1, .int 2, .int (3 + v1)]) := upd_same
        generalize upd H5 l1 (.lst [.int 1, .int 2, (fun i j : Int => V.int (i + j)) 3 v1]) = H6 at *
        refine ⟨_, rfl, b, l, ns, 2, rfl, Z.bag, by decide, by decide, fun v2 o2 v20 v21 BO2 => ?_⟩
        have Z := Z.keep .updb (Z.bag.upd BO2)
        have e1 : upd H6 b o2 l1 = some (.lst [.int 1, .int 2, .int (3 + v1)]) := (upd_ne nb1).trans e1
        generalize upd H6 b o2 = H7 at *
        refine ⟨_, _, rfl, rfl, four 1 (by decide), fun l2 hl2 => ?_⟩
        have s8 := same_upd (o := .lst [(fun i j : Int => V.int (i + j)) 1999 v2]) hl2
        have Z := Z.same s8
        have e1 := s8 _ _ e1
        have e2 : upd H7 l2 (.lst [(fun i j : Int => V.int (i + j)) 1999 v2]) l2 = some (.lst [.int (1999 + v2)]) := upd_same
        generalize upd H7 l2 (.lst [(fun i j : Int => V.int (i + j)) 1999 v2]) = H8 at *
        refine ⟨_, rfl, rfl, .inr ⟨_, rfl, ?_⟩⟩
        obtain ⟨kk, hkk, k0, k1⟩ : ∃ kk : Int, (if decide (V.int (0 + (i : Int)) = V.int 0) = true then (1 : Int) else 0) = kk ∧ 0 ≤ kk ∧ kk ≤ 1 := ⟨_, rfl, by split <;> decide, by split <;> decide⟩
        rw [hkk]
        refine ⟨l2, kk, _, rfl, rfl, e2, by omega, by omega, ?_, fun l3 hl3 => ?_⟩
        · show 1 * kk.toNat ≤ sizeLine
          exact four _ (by omega)
        have s9 := same_upd (o := .lst (List.replicate kk.toNat [V.int (1999 + v2)]).flatten) hl3
        have Z := Z.same s9
        have e1 := s9 _ _ e1
        have e3 : upd H8 l3 (.lst (List.replicate kk.toNat [V.int (1999 + v2)]).flatten) l3 = some (.lst (List.replicate kk.toNat [V.int (1999 + v2)]).flatten) := upd_same
        generalize upd H8 l3 (.lst (List.replicate kk.toNat [V.int (1999 + v2)]).flatten) = H9 at *
        have ln4 : ([V.int 1, V.int 2, V.int (3 + v1)] ++ (List.replicate kk.toNat [V.int (1999 + v2)]).flatten).length ≤ 4 := by
          rw [List.flatten_replicate_singleton, List.length_append, List.length_replicate]
          show 3 + kk.toNat ≤ 4
          omega
        refine ⟨l1, l3, _, _, rfl, rfl, e1, e3, four _ (by rw [← List.length_append]; exact Nat.le_trans ln4 (by decide)), fun lp hlp => ?_⟩
        have ok := fun x => sizes_ok (kk := kk) v10 v11 v20 v21 x
        generalize [V.int 1, V.int 2, V.int (3 + v1)] ++ (List.replicate kk.toNat [V.int (1999 + v2)]).flatten = xs at *
        have s10 := same_upd (o := .lst xs) hlp
        have Z := Z.same s10
        have ep : upd H9 lp (.lst xs) lp = some (.lst xs) := upd_same
        generalize upd H9 lp (.lst xs) = Ha at *
        refine ⟨lp, rfl, ⟨_, SqL.of ep⟩, ?_⟩
        refine for_it (walk_list (xs := xs)) (fun _ σ H' => ∃ v5 v6 v7 v8 : Option V, σ = [some (.ref a), some (.ref b), some (.int (0 + (i : Int))), some (.ref p), some (.ref g), v5, v6, v7, v8] ∧ Same Ha H') ⟨_, _, _, _, rfl, fun _ _ z => z⟩ (fun _ σ H' _ p => by obtain ⟨v5, v6, v7, v8, _, s⟩ := p; exact SqL.of (s _ _ ep)) ?_ ?_
        · clear s8 s9 s10 e1 e2 e3 hlp hl3 hl2 hl1
          rintro j x σ Hb Hb' hj ⟨v5, v6, v7, v8, rfl, sb⟩ ⟨rfl, hx⟩
          obtain ⟨e, rfl, ee1, ee2⟩ := ok x (List.mem_of_getElem? hx)
          have Z := Z.same sb
          have G1 := Z.ok eqp (by omega) hl
          refine ⟨_, rfl, _, rfl, g, n, us, e, rfl, G1, ee1, ee2, fun Hc sc => ?_⟩
          have Z := Z.same sc
          refine ⟨_, rfl, _, rfl, g, n, us, e, rfl, Z.ok eqp (by omega) hl, ee1, ee2, fun Hd sd => ?_⟩
          have Z := Z.same sd
          obtain ⟨z1, h1u, h1t⟩ : ∃ z : Int, ((sm n.toNat (fun i => sm n.toNat (fun j => pwE n us e i j)) : Nat) : Int) = z ∧ ((sm n.toNat (fun i => sm n.toNat (fun j => pwE n ts e i j)) : Nat) : Int) = z := ⟨_, rfl, by unfold pwE; rw [eqp]⟩
          obtain ⟨z2, h2u, h2t⟩ : ∃ z : Int, ((sm n.toNat (fun i => pwE n us e i i) : Nat) : Int) = z ∧ ((sm n.toNat (fun i => pwE n ts e i i) : Nat) : Int) = z := ⟨_, rfl, by unfold pwE; rw [eqp]⟩
          rw [h1u, h2u]
          refine ⟨four 2 (by decide), fun fo hfo => ?_⟩
          have sf := same_upd (o := .lst [.int z1, .int z2]) hfo
          have ef : upd Hd fo (.lst [.int z1, .int z2]) fo = some (.lst ([z1, z2].map V.int)) := upd_same
          have Z := Z.same sf
          generalize upd Hd fo (.lst [.int z1, .int z2]) = He at *
          refine ⟨_, rfl, _, rfl, _, rfl, p, q0, n, ts, e, rfl, Z.pl, by omega, ee2, fun Hf sg => ?_⟩
          have Z := Z.same sg
          refine ⟨_, rfl, _, rfl, p, q0, n, ts, e, rfl, Z.pl, by omega, ee2, fun Hg sh => ?_⟩
          have Z := Z.same sh
          rw [h1t, h2t]
          refine ⟨four 2 (by decide), fun du hdu => ?_⟩
          have si := same_upd (o := .lst [.int z1, .int z2]) hdu
          have ei : upd Hg du (.lst [.int z1, .int z2]) du = some (.lst ([z1, z2].map V.int)) := upd_same
          have Z := Z.same si
          generalize upd Hg du (.lst [.int z1, .int z2]) = Hi at *
          have sA := (sg.trans sh).trans si
          refine ⟨_, _, rfl, lk_ints (k := 3) (sA _ _ ef) ei (by simp), fun Hj sj => ⟨true, rfl, if_f rfl ⟨_, _, _, _, rfl, ?_⟩⟩⟩
          exact (((((sb.trans sc).trans sd).trans sf).trans sA).trans sj)
        · rintro σ Hb ⟨v5, v6, v7, v8, rfl, sb⟩
          exact ⟨_, _, _, _, rfl, Z.same sb⟩
      clear Z
      rintro σ H5 ⟨v5, v6, v7, v8, rfl, Z⟩
      -- far
      refine ⟨fun σ H' => ∃ v5 v6 v8 : Option V, ∃ far : Int, σ = [some (.ref a), some (.ref b), some (.int (0 + (i : Int))), some (.ref p), some (.ref g), v5, v6, some (.int far), v8] ∧ Tn C b l TT ns p q0 g n ts us H' ∧ far.natAbs < 10 ^ 100 ∧ ¬ (1 ≤ far ∧ far ≤ 2000), ?_, ?_⟩
      · refine ⟨_, rfl, 1, rfl, _, _, rfl, rfl, ⟨by decide, by decide, by decide⟩, four 4 (by decide), fun tl htl => ?_⟩
        have nt := Z.bag.ne_new htl
        have Zt := Z.same (same_upd (o := .lst [.int 0, .int 2001, (fun i : Int => V.int (-i)) 1, (fun i j : Int => V.int (i ^ j.toNat)) 10 20]) htl)
        refine ⟨b, l, tl, ns, _, rfl, Zt.bag, SqL.of upd_same, nt, by simp, (by show 4 ≤ 1000; decide), fun j v o hj BO => ?_⟩
        have Z := Zt.keep .updb (Zt.bag.upd BO)
        obtain ⟨far, rfl, f1, f2⟩ : ∃ far : Int, v = .int far ∧ far.natAbs < 10 ^ 100 ∧ ¬ (1 ≤ far ∧ far ≤ 2000) := by
          have hm := List.mem_of_getElem? hj
          simp only [List.mem_cons, List.not_mem_nil, or_false] at hm
          rcases hm with rfl | rfl | rfl | rfl
          · exact ⟨0, rfl, by decide +kernel, by decide⟩
          · exact ⟨2001, rfl, by decide +kernel, by decide⟩
          · exact ⟨-1, rfl, by decide +kernel, by decide⟩
          · exact ⟨10 ^ (20 : Int).toNat, rfl, by decide +kernel, by decide +kernel⟩
        exact ⟨_, _, _, far, rfl, Z, f1, f2⟩
      clear Z
      rintro σ H6 ⟨v5, v6, v8, far, rfl, Z, fb, fn⟩
      have tu : ∀ (o : List V) (ps : Array Value), HO.tup o ≠ .tbl ps := fun o ps z => by cases z
      refine ⟨Z.tab, fun fa da ca Ha xa ta Da ea => ?_⟩
      have Z := Z.extN xa ta
      refine tried_cn (i := 0) (j := 1) EL ta ea Da rfl rfl fb fn fun w1 Hb xb tb eb => ?_
      have Z := Z.extN xb tb
      refine ⟨Z.tab, fun fb2 db cb Hc xc tc Dc ec => ?_⟩
      have Z := Z.extN xc tc
      have eb := xc _ _ eb (tu _)
      refine tried_cn (i := 1) (j := 2) EL tc ec Dc rfl rfl fb fn fun w2 Hd xd td ed => ?_
      have Z := Z.extN xd td
      have eb := xd _ _ eb (tu _)
      refine ⟨four 2 (by decide), fun W hW => ?_⟩
      have sW := same_upd (o := .lst [.ref w1, .ref w2]) hW
      have eW : upd Hd W (.lst [.ref w1, .ref w2]) W = some (.lst [.ref w1, .ref w2]) := upd_same
      have Z := Z.same sW
      have eb := sW _ _ eb
      have ed := sW _ _ ed
      generalize upd Hd W (.lst [.ref w1, .ref w2]) = He at *
      refine ⟨_, rfl, _, rfl, four 2 (by decide), fun t1 ht1 => ?_⟩
      have s1 := same_upd (o := .tup [.str "invalidlength", .int far]) ht1
      have f1 : upd He t1 (.tup [.str "invalidlength", .int far]) t1 = some (.tup [.str "invalidlength", .int far]) := upd_same
      generalize upd He t1 (.tup [.str "invalidlength", .int far]) = Hi at *
      refine ⟨four 1 (by decide), fun l1 hl1 => ?_⟩
      have s2 := same_upd (o := .lst [.ref t1]) hl1
      have f2 : upd Hi l1 (.lst [.ref t1]) l1 = some (.lst [.ref t1]) := upd_same
      generalize upd Hi l1 (.lst [.ref t1]) = Hj at *
      refine ⟨l1, 2, _, rfl, rfl, f2, by decide, by decide, four 2 (by decide), fun l2 hl2 => ?_⟩
      have s3 := same_upd (o := .lst (List.replicate (2 : Int).toNat [V.ref t1]).flatten) hl2
      have f3 : upd Hj l2 (.lst (List.replicate (2 : Int).toNat [V.ref t1]).flatten) l2 = some (.lst [.ref t1, .ref t1]) := upd_same
      generalize upd Hj l2 (.lst (List.replicate (2 : Int).toNat [V.ref t1]).flatten) = Hk at *
      have sB := s2.trans s3
      have sA := s1.trans sB
      have told : ∀ {w : Addr}, Hk w = some (.tup [.str "invalidlength", .int far]) → Dp K Hk (.ref w) (toldD "invalidlength" far) := fun h => .tup (SqT.of h) (.cons (.str _) (.cons (.int _) .nil))
      refine ⟨.list [toldD "invalidlength" far, toldD "invalidlength" far], .list [toldD "invalidlength" far, toldD "invalidlength" far], .lst (SqL.of (sA _ _ eW)) (.cons (told (sA _ _ eb)) (.cons (told (sA _ _ ed)) .nil)), .lst (SqL.of f3) (.cons (told (sB _ _ f1)) (.cons (told (sB _ _ f1)) .nil)), sh_two _ _, sh_two _ _, _, rfl, if_f (by rw [eq_two]; rfl) ?_⟩
      exact ⟨_, _, _, _, _, _, _, rfl, (Z.same sA).bag, (Z.same sA).tab⟩
    · rintro σ H2 ⟨v2, v3, v4, v5, v6, v7, v8, rfl, B2, tb2⟩
      clear B2 tb2
      refine ⟨rfl, 2, rfl, by decide, by decide, fun g us H6 s6 ng hus GA => ?_⟩
      refine ⟨g, 1, us, 100, rfl, full_ok hus (by decide) GA, by decide, by decide, fun H7 s7 => ?_⟩
      have ev : sm (1 : Int).toNat (fun i => pwE 1 us 100 i i) = 2 ^ 100 := by
        unfold pwE
        rw [hus]
        exact pw_full 100
      rw [ev]
      refine ⟨_, _, rfl, rfl, ⟨by decide, by decide, by decide⟩, _, _, rfl, rfl, ⟨by decide, by decide, by decide⟩, _, _, rfl, rfl, .inl ⟨by decide +kernel, by decide +kernel⟩, rfl, ?_⟩
      have et : V.int (((2 ^ 100 : Nat)) : Int) = V.int ((2 : Int) ^ (50 : Int).toNat * (2 : Int) ^ (50 : Int).toNat) := by
        congr 1
      have ed : decide (V.int (((2 ^ 100 : Nat)) : Int) = V.int ((2 : Int) ^ (50 : Int).toNat * (2 : Int) ^ (50 : Int).toNat)) = true := decide_eq_true et
      show Q (.bl (decide (V.int (((2 ^ 100 : Nat)) : Int) = V.int ((2 : Int) ^ (50 : Int).toNat * (2 : Int) ^ (50 : Int).toNat)))) H7
      rw [ed]
      exact q H7
end
end Lw
set_option Elab.async false
set_option linter.all false
set_option maxRecDepth 100000
namespace Lw
open PySem L2
theorem exm_own {K : PySem.W.Frag} {C S : Addr} (h1 : PySem.W.subIn K (.ref S) (.type "BaseException") = some true) (h2 : PySem.W.isClsIn K S = true) (h3 : PySem.W.typeIn K (.ref S) = some (.type "type")) (h4 : PySem.W.subIn K (.ref C) (.ref S) = some true) :
    PySem.W.exmOne K (.ref C) (.ref S) = some true := by
  have e1 : (PySem.W.subIn K (.ref S) (.type "BaseException") == some true) = true := by rw [h1] <;> rfl
  have e2 : ((PySem.W.clsIn K S).isSome && PySem.W.typeIn K (.ref S) == some (.type "type")) = true := by
    have h2' : (PySem.W.clsIn K S).isSome = true := h2
    rw [h2', h3] <;> rfl
  show (if (PySem.W.subIn K (.ref S) (.type "BaseException") == some true) = true then (if ((PySem.W.clsIn K S).isSome && PySem.W.typeIn K (.ref S) == some (.type "type")) = true then PySem.W.subIn K (.ref C) (.ref S) else none) else none) = some true
  rw [if_pos e1, if_pos e2]
  exact h4
theorem hd_at {K : PySem.W.Frag} {c P : Addr} (e : PySem.W.codeHdIn K c P = true) : ∃ (e : Value) (dd : Option Addr) (vs : Array Value) (sl : Array (Option Value)), K.lookup c = some ⟨e, dd, .fields vs, sl⟩ ∧ vs[11]? = some (.ref P) := by
  unfold PySem.W.codeHdIn at e
  split at e
  · rename_i vs _ hk
    simp only [Bool.and_eq_true] at e
    obtain ⟨⟨⟨⟨⟨e1, _⟩, _⟩, _⟩, _⟩, _⟩ := e
    split at e1
    · rename_i P' h11
      have hP : P' = P := beq_iff_eq.mp e1
      subst hP
      exact ⟨_, _, _, _, hk, h11⟩
    · cases e1
  · cases e
theorem kit_no {K : PySem.W.Frag} {C : Addr} {T : String} (h1 : PySem.W.isClsIn K C = true) (h2 : PySem.W.typeIn K (.ref C) = some (.type "type")) (h3 : PySem.W.subIn K (.type T) (.ref C) = some false) : PySem.W.kitOne K (.type T) (.ref C) = some false := by
  have e1 : ((PySem.W.clsIn K C).isSome && PySem.W.typeIn K (.ref C) == some (.type "type")) = true := by
    have h1' : (PySem.W.clsIn K C).isSome = true := h1
    rw [h1', h2]
    rfl
  show (if (Value.type T == Value.ref C) = true then some true else if ((PySem.W.clsIn K C).isSome && PySem.W.typeIn K (.ref C) == some (.type "type")) = true then PySem.W.subIn K (.type T) (.ref C) else none) = some false
  rw [if_neg (show ¬ ((Value.type T == Value.ref C) = true) from Bool.false_ne_true), if_pos e1]
  exact h3
theorem kit_me {K : PySem.W.Frag} {C : Addr} : PySem.W.kitOne K (.ref C) (.ref C) = some true := by
  unfold PySem.W.kitOne
  simp
/-- the law's end, where the tables of some defs are written while it runs -/
theorem walk_tabs {l : PySem.W.OpenLaw} {n k : Nat} {q : Program} {loose : List Str} {XP : (Str → Option Value) → Heap → Prop} {YP : World → Heap → Prop} {d : DefRec} {K : Params → PySem.W.Frag} {x : Str} (most : l.most = some n) (short : n ≤ sizeLine) (nodf : d.params.defaults = []) (room : Room k callerA)
    (isIn : ∀ w h, YP w h → (K w.params).In h)
    (law : ∀ w mg fa h, YP w h → (K w.params).In h → h.Ns mainGlobals mg → mg d.name = some (.ref fa) → (∀ e ∈ PyProof.Rows.recsOf q, ∀ a, mg e.name = some (.ref a) → LamX.OwnTab (K w.params) a h) → LamX.LawAtS l w (K w.params) CX0 k n x mg fa h) :
    PySem.W.WalkO q loose XP YP l.row.toRowW d [] (fun f vs => PySem.call f vs) := by
  refine Att.attach_callB most nodf ?_
  intro w s0 s1 mg mb fa o pm cd doc a vs ns G Y _ _ _ named obj intz len bits hg
  have KX := isIn w _ Y
  have own : ∀ e ∈ PyProof.Rows.recsOf q, ∀ b, mg e.name = some (.ref b) → LamX.OwnTab (K w.params) b s1.heap := by
    intro e he b hb c P o1 fd1 v1 dd us sl look1 dat1 cod1 look2 at11
    obtain ⟨b', o2, fd2, c2, P2, m2, g2, dat2, cod2, _, ⟨oc, uc, g3, _, dat3, p3⟩, tab⟩ := G.T.tab e he
    have eb : b' = b := by
      rw [hb] at m2
      injection m2 with m2
      injection m2 with m2
      exact m2.symm
    subst eb
    have eo : o2 = o1 := Option.some.inj (g2.symm.trans (KX _ _ look1))
    subst eo
    have ef : fd2 = fd1 := by
      rw [dat1] at dat2
      injection dat2 with dat2
      exact dat2.symm
    subst ef
    have ec : c2 = c := by
      rw [cod1] at cod2
      injection cod2 with cod2
      exact cod2.symm
    subst ec
    have eoc := Option.some.inj (g3.symm.trans (KX _ _ look2))
    subst eoc
    injection dat3 with dat3
    subst dat3
    rw [at11] at p3
    injection p3 with p3
    injection p3 with p3
    subst p3
    exact tab
  obtain ⟨fd, cs, sp, e1, e2, e3, e4, e5, e6⟩ := law w mg fa _ Y KX G.T.g named own
  exact LamX.law_callTs KX G.T.g G.T.b G.T.builtins G.T.nolimit hg e1 e2 e3 G.T.bmain obj intz (Nat.le_trans len short) room e6 e4 (fun H hH hS => e5 H a ns len bits hH hS) fun _ _ _ z => z
theorem rec_of {q : Program} {x : Str} (h : ((PyProof.Rows.recsOf q).any fun e => e.name == x) = true) : ∃ e ∈ PyProof.Rows.recsOf q, e.name = x := by
  obtain ⟨e, he, n⟩ := List.any_eq_true.mp h
  exact ⟨e, he, beq_iff_eq.mp n⟩
set_option maxHeartbeats 4000000 in
theorem all_mk {l : PySem.W.OpenLaw} {w : World} {K : PySem.W.Frag} {h : Heap} {mg : Str → Option Value} {fa C f_bag f_pull f_of f_plan f_like f_field cF Pf f_tried CW TJ f_win CInvalidLength f_InvalidLength f_check f_init p_full f_full f_graph f_cnt f_cl f_pr f_pw f_cp f_cc f_lpc f_lcc f_law cW Pt : Addr} (X : K.In h) (G : h.Ns mainGlobals mg) (hfa : mg "law" = some (.ref fa)) (own : LamX.OwnTab K fa h) (ownF : ∀ b, mg "_law_field" = some (.ref b) → LamX.OwnTab K b h)
    {t8 t24 : Tok}
    {od_bag an_bag : Option Addr} {sl_bag : Array (Option Value)} {oc_bag kV_bag dc_bag pm_bag cd_bag ct_bag : Value}
    {od_pull an_pull : Option Addr} {sl_pull : Array (Option Value)} {oc_pull kV_pull dc_pull pm_pull cd_pull ct_pull : Value}
    {od_of an_of : Option Addr} {sl_of : Array (Option Value)} {oc_of kV_of dc_of pm_of cd_of ct_of : Value}
    {od_plan an_plan : Option Addr} {sl_plan : Array (Option Value)} {oc_plan kV_plan dc_plan pm_plan cd_plan ct_plan : Value}
    {od_like an_like : Option Addr} {sl_like : Array (Option Value)} {oc_like kV_like dc_like pm_like cd_like ct_like : Value}
    {od_field an_field : Option Addr} {sl_field : Array (Option Value)} {oc_field kV_field dc_field pm_field  ct_field : Value}
    {od_tried an_tried : Option Addr} {sl_tried : Array (Option Value)} {oc_tried kV_tried dc_tried pm_tried cd_tried ct_tried : Value}
    {od_TJ : Option Addr} {sl_TJ : Array (Option Value)} {oc_TJ : Value} {n_TJ : Nat} {tj1 tj2 : Tok}
    {od_win an_win : Option Addr} {sl_win : Array (Option Value)} {oc_win kV_win dc_win pm_win cd_win ct_win : Value}
    {nm_InvalidLength qc_InvalidLength : Str} {N_InvalidLength : Addr} {bs_InvalidLength bm_InvalidLength : List Value} {sn_InvalidLength : List Str} {su_InvalidLength : List Value} {ab_InvalidLength : Bool} {co_InvalidLength : Option Bool} {dd_InvalidLength : Option Addr} {m0_InvalidLength m1_InvalidLength m2_InvalidLength m3_InvalidLength m5_InvalidLength : Option Value}
    {od_InvalidLength an_InvalidLength : Option Addr} {sl_InvalidLength : Array (Option Value)} {oc_InvalidLength kV_InvalidLength dc_InvalidLength pm_InvalidLength cd_InvalidLength ct_InvalidLength : Value}
    {od_check an_check : Option Addr} {sl_check : Array (Option Value)} {oc_check kV_check dc_check pm_check cd_check ct_check : Value}
    {od_init an_init : Option Addr} {sl_init : Array (Option Value)} {oc_init kV_init dc_init pm_init cd_init ct_init : Value}
    {tMC : Tok}
    {re_full : List Value}
    {od_full an_full : Option Addr} {sl_full : Array (Option Value)} {oc_full kV_full dc_full pm_full cd_full ct_full : Value}
    {od_graph an_graph : Option Addr} {sl_graph : Array (Option Value)} {oc_graph kV_graph dc_graph pm_graph cd_graph ct_graph : Value}
    {od_cnt an_cnt : Option Addr} {sl_cnt : Array (Option Value)} {oc_cnt kV_cnt dc_cnt pm_cnt cd_cnt ct_cnt : Value}
    {od_cl an_cl : Option Addr} {sl_cl : Array (Option Value)} {oc_cl kV_cl dc_cl pm_cl cd_cl ct_cl : Value}
    {od_pr an_pr : Option Addr} {sl_pr : Array (Option Value)} {oc_pr kV_pr dc_pr pm_pr cd_pr ct_pr : Value}
    {od_pw an_pw : Option Addr} {sl_pw : Array (Option Value)} {oc_pw kV_pw dc_pw pm_pw cd_pw ct_pw : Value}
    {od_cp an_cp : Option Addr} {sl_cp : Array (Option Value)} {oc_cp kV_cp dc_cp pm_cp cd_cp ct_cp : Value}
    {od_cc an_cc : Option Addr} {sl_cc : Array (Option Value)} {oc_cc kV_cc dc_cc pm_cc cd_cc ct_cc : Value}
    {od_lpc an_lpc : Option Addr} {sl_lpc : Array (Option Value)} {oc_lpc kV_lpc dc_lpc pm_lpc cd_lpc ct_lpc : Value}
    {od_lcc an_lcc : Option Addr} {sl_lcc : Array (Option Value)} {oc_lcc kV_lcc dc_lcc pm_lcc cd_lcc ct_lcc : Value}
    {od_law an_law : Option Addr} {sl_law : Array (Option Value)} {oc_law kV_law dc_law pm_law  ct_law : Value}
    (z_len : PySem.W.nsIn K mainGlobals "len" = some none)
    (z_list : PySem.W.nsIn K mainGlobals "list" = some none)
    (z_tuple : PySem.W.nsIn K mainGlobals "tuple" = some none)
    (z_bool : PySem.W.nsIn K mainGlobals "bool" = some none)
    (z_int : PySem.W.nsIn K mainGlobals "int" = some none)
    (z_str : PySem.W.nsIn K mainGlobals "str" = some none)
    (z_isinstance : PySem.W.nsIn K mainGlobals "isinstance" = some none)
    (z_all : PySem.W.nsIn K mainGlobals "all" = some none)
    (z_zip : PySem.W.nsIn K mainGlobals "zip" = some none)
    (z_range : PySem.W.nsIn K mainGlobals "range" = some none)
    (z_ValueError : PySem.W.nsIn K mainGlobals "ValueError" = some none)
    (z_enumerate : PySem.W.nsIn K mainGlobals "enumerate" = some none)
    (z_sum : PySem.W.nsIn K mainGlobals "sum" = some none)
    (z_reversed : PySem.W.nsIn K mainGlobals "reversed" = some none)
    (aC : PySem.W.nsIn K mainGlobals "Graph" = some (some (.ref C)))
    (gpg : PySem.W.plainGet K C Str.empty = true)
    (ghd : PySem.W.hasDictIn K C = true)
    (gpo : PySem.W.plainOver K C = true)
    (gsa : PySem.W.findIn K (.ref C) "__setattr__" = some (some (.builtin "object.__setattr__")))
    (gmk : PySem.W.makesIn K C = true)
    (gkc : PySem.W.keepIn K (.ref C) = true)
    (gnS : PySem.W.findIn K (.ref C) "state_count" = some none)
    (gnE : PySem.W.findIn K (.ref C) "edge_pairs" = some none)
    (grd : PySem.W.readsIn K C (.type "type") = true)
    (gga : PySem.W.specialIn K (.ref C) "__getattribute__" = some (some (.builtin "type.__getattribute__")))
    (gv8 : PySem.W.findCls K (.ref C) (.type "type") "MAX_STATES" = some (.val (.int 8 t8)))
    (gv24 : PySem.W.findCls K (.ref C) (.type "type") "MAX_EDGES" = some (.val (.int 24 t24)))
    (a_bag : PySem.W.nsIn K mainGlobals "_law_bag" = some (some (.ref f_bag)))
    (l_bag : K.lookup f_bag = some ⟨oc_bag, od_bag, .func (PySem.W.fnOf "_law_bag" "_law_bag" (defArgs sBag) (defBody sBag) (defScope sBag) .none kV_bag dc_bag pm_bag an_bag cd_bag ct_bag), sl_bag⟩)
    (c_bag : PySem.W.codeIn K cd_bag "_law_bag" = true)
    (k_bag : PySem.W.keepIn K (.ref f_bag) = true)
    (a_pull : PySem.W.nsIn K mainGlobals "_law_pull" = some (some (.ref f_pull)))
    (l_pull : K.lookup f_pull = some ⟨oc_pull, od_pull, .func (PySem.W.fnOf "_law_pull" "_law_pull" (defArgs sPull) (defBody sPull) (defScope sPull) .none kV_pull dc_pull pm_pull an_pull cd_pull ct_pull), sl_pull⟩)
    (c_pull : PySem.W.codeIn K cd_pull "_law_pull" = true)
    (k_pull : PySem.W.keepIn K (.ref f_pull) = true)
    (a_of : PySem.W.nsIn K mainGlobals "_law_of" = some (some (.ref f_of)))
    (l_of : K.lookup f_of = some ⟨oc_of, od_of, .func (PySem.W.fnOf "_law_of" "_law_of" (defArgs sOf) (defBody sOf) (defScope sOf) .none kV_of dc_of pm_of an_of cd_of ct_of), sl_of⟩)
    (c_of : PySem.W.codeIn K cd_of "_law_of" = true)
    (k_of : PySem.W.keepIn K (.ref f_of) = true)
    (a_plan : PySem.W.nsIn K mainGlobals "_law_plan" = some (some (.ref f_plan)))
    (l_plan : K.lookup f_plan = some ⟨oc_plan, od_plan, .func (PySem.W.fnOf "_law_plan" "_law_plan" (defArgs sPlan) (defBody sPlan) (defScope sPlan) .none kV_plan dc_plan pm_plan an_plan cd_plan ct_plan), sl_plan⟩)
    (c_plan : PySem.W.codeIn K cd_plan "_law_plan" = true)
    (k_plan : PySem.W.keepIn K (.ref f_plan) = true)
    (a_like : PySem.W.nsIn K mainGlobals "_law_like" = some (some (.ref f_like)))
    (l_like : K.lookup f_like = some ⟨oc_like, od_like, .func (PySem.W.fnOf "_law_like" "_law_like" (defArgs sLike) (defBody sLike) (defScope sLike) .none kV_like dc_like pm_like an_like cd_like ct_like), sl_like⟩)
    (c_like : PySem.W.codeIn K cd_like "_law_like" = true)
    (k_like : PySem.W.keepIn K (.ref f_like) = true)
    (a_field : PySem.W.nsIn K mainGlobals "_law_field" = some (some (.ref f_field)))
    (l_field : K.lookup f_field = some ⟨oc_field, od_field, .func (PySem.W.fnOf "_law_field" "_law_field" (defArgs sField) (defBody sField) (defScope sField) .none kV_field dc_field pm_field an_field (.ref cF) ct_field), sl_field⟩)
    (c_field : PySem.W.codeIn K (.ref cF) "_law_field" = true)
    (k_field : PySem.W.keepIn K (.ref f_field) = true)
    (tF : PySem.W.tabIn K "_law_field" = some (cF, Pf))
    (hF : PySem.W.codeHdIn K cF Pf = true)
    (nF : K.lookup Pf = none)
    (a_tried : PySem.W.nsIn K mainGlobals "_law_tried" = some (some (.ref f_tried)))
    (l_tried : K.lookup f_tried = some ⟨oc_tried, od_tried, .func (PySem.W.fnOf "_law_tried" "_law_tried" (defArgs sTried) (defBody sTried) (defScope sTried) .none kV_tried dc_tried pm_tried an_tried cd_tried ct_tried), sl_tried⟩)
    (c_tried : PySem.W.codeIn K cd_tried "_law_tried" = true)
    (k_tried : PySem.W.keepIn K (.ref f_tried) = true)
    (aX : PySem.W.nsIn K mainGlobals "WindowError" = some (some (.ref CW)))
    (eX : PySem.W.subIn K (.ref CW) (.type "BaseException") = some true)
    (tX : PySem.W.typeIn K (.ref CW) = some (.type "type"))
    (iX : PySem.W.isClsIn K CW = true)
    (a_win : PySem.W.findCls K (.ref CW) (.type "type") "__init__" = some (.val (.ref f_win)))
    (l_win : K.lookup f_win = some ⟨oc_win, od_win, .func (PySem.W.fnOf "__init__" "WindowError.__init__" (defArgs sWin) (defBody sWin) (defScope sWin) (.ref TJ) kV_win dc_win pm_win an_win cd_win ct_win), sl_win⟩)
    (c_win : PySem.W.codeIn K cd_win "WindowError.__init__" = true)
    (k_win : PySem.W.keepIn K (.ref f_win) = true)
    (lTJ : K.lookup TJ = some ⟨oc_TJ, od_TJ, .seq #[.str "windowerror" tj1, .str "" tj2] n_TJ, sl_TJ⟩)
    (rdX : PySem.W.readsIn K CW (.type "type") = true)
    (gtX : PySem.W.specialIn K (.ref CW) "__getattribute__" = some (some (.builtin "type.__getattribute__")))
    (vV : PySem.W.findCls K (.type "ValueError") (.type "type") "__init__" = some (.val (.builtin "ValueError.__init__")))
    (aCInvalidLength : PySem.W.nsIn K mainGlobals "InvalidLength" = some (some (.ref CInvalidLength)))
    (xLInvalidLength : K.lookup CInvalidLength = some (excClassObj nm_InvalidLength qc_InvalidLength CInvalidLength N_InvalidLength bs_InvalidLength bm_InvalidLength true sn_InvalidLength su_InvalidLength ab_InvalidLength co_InvalidLength dd_InvalidLength m0_InvalidLength m1_InvalidLength m2_InvalidLength m3_InvalidLength m5_InvalidLength "ValueError.__new__"))
    (rVInvalidLength : PySem.HandSPX.refsVE bm_InvalidLength = true)
    (saInvalidLength : PySem.W.findIn K (.ref CInvalidLength) "__setattr__" = some (some (.builtin "object.__setattr__")))
    (gaInvalidLength : PySem.W.findIn K (.ref CInvalidLength) "__getattribute__" = some (some (.builtin "BaseException.__getattribute__")))
    (ggInvalidLength : PySem.W.findIn K (.ref CInvalidLength) "__getattr__" = some none)
    (nwInvalidLength : PySem.W.findIn K (.ref CInvalidLength) "word" = some none)
    (nnInvalidLength : PySem.W.findIn K (.ref CInvalidLength) "length" = some none)
    (kCInvalidLength : PySem.W.keepIn K (.ref CInvalidLength) = true)
    (eCInvalidLength : PySem.W.subIn K (.ref CInvalidLength) (.type "BaseException") = some true)
    (tCInvalidLength : PySem.W.typeIn K (.ref CInvalidLength) = some (.type "type"))
    (hCInvalidLength : PySem.W.hasDictIn K CInvalidLength = true)
    (sXInvalidLength : PySem.W.subIn K (.ref CInvalidLength) (.ref CW) = some true)
    (a_InvalidLength : PySem.W.findIn K (.ref CInvalidLength) "__init__" = some (some (.ref f_InvalidLength)))
    (tIInvalidLength : PySem.W.typeIn K (.ref f_InvalidLength) = some (.type "function"))
    (l_InvalidLength : K.lookup f_InvalidLength = some ⟨oc_InvalidLength, od_InvalidLength, .func (PySem.W.fnOf "__init__" "InvalidLength.__init__" (defArgs sInvalidLength) (defBody sInvalidLength) (defScope sInvalidLength) .none kV_InvalidLength dc_InvalidLength pm_InvalidLength an_InvalidLength cd_InvalidLength ct_InvalidLength), sl_InvalidLength⟩)
    (c_InvalidLength : PySem.W.codeIn K cd_InvalidLength "InvalidLength.__init__" = true)
    (k_InvalidLength : PySem.W.keepIn K (.ref f_InvalidLength) = true)
    (a_check : PySem.W.nsIn K mainGlobals "check_edges" = some (some (.ref f_check)))
    (l_check : K.lookup f_check = some ⟨oc_check, od_check, .func (PySem.W.fnOf "check_edges" "check_edges" (defArgs sCheck) (defBody sCheck) (defScope sCheck) .none kV_check dc_check pm_check an_check cd_check ct_check), sl_check⟩)
    (c_check : PySem.W.codeIn K cd_check "check_edges" = true)
    (k_check : PySem.W.keepIn K (.ref f_check) = true)
    (a_init : PySem.W.findIn K (.ref C) "__init__" = some (some (.ref f_init)))
    (i_init : PySem.W.isFn K (.ref f_init) = true)
    (l_init : K.lookup f_init = some ⟨oc_init, od_init, .func (PySem.W.fnOf "__init__" "Graph.__init__" (defArgs sInit) (defBody sInit) (defScope sInit) .none kV_init dc_init pm_init an_init cd_init ct_init), sl_init⟩)
    (c_init : PySem.W.codeIn K cd_init "Graph.__init__" = true)
    (k_init : PySem.W.keepIn K (.ref f_init) = true)
    (aMC : PySem.W.nsIn K mainGlobals "MAX_COUNTED" = some (some (.int 2000 tMC)))
    (a_full : PySem.W.findCls K (.ref C) (.type "type") "full" = some (.get (.builtin "classmethod.__get__") (.ref p_full) .none (.ref C)))
    (r_full : PySem.W.recIn K p_full "classmethod" = some (.ref f_full :: re_full))
    (i_full : PySem.W.fnIn K f_full = true)
    (l_full : K.lookup f_full = some ⟨oc_full, od_full, .func (PySem.W.fnOf "full" "Graph.full" (defArgs sFull) (defBody sFull) (defScope sFull) .none kV_full dc_full pm_full an_full cd_full ct_full), sl_full⟩)
    (c_full : PySem.W.codeIn K cd_full "Graph.full" = true)
    (k_full : PySem.W.keepIn K (.ref f_full) = true)
    (a_graph : PySem.W.nsIn K mainGlobals "_law_graph" = some (some (.ref f_graph)))
    (l_graph : K.lookup f_graph = some ⟨oc_graph, od_graph, .func (PySem.W.fnOf "_law_graph" "_law_graph" (defArgs sGraph) (defBody sGraph) (defScope sGraph) .none kV_graph dc_graph pm_graph an_graph cd_graph ct_graph), sl_graph⟩)
    (c_graph : PySem.W.codeIn K cd_graph "_law_graph" = true)
    (k_graph : PySem.W.keepIn K (.ref f_graph) = true)
    (a_cnt : PySem.W.findIn K (.ref C) "counts" = some (some (.ref f_cnt)))
    (i_cnt : PySem.W.isFn K (.ref f_cnt) = true)
    (l_cnt : K.lookup f_cnt = some ⟨oc_cnt, od_cnt, .func (PySem.W.fnOf "counts" "Graph.counts" (defArgs sCounts) (defBody sCounts) (defScope sCounts) .none kV_cnt dc_cnt pm_cnt an_cnt cd_cnt ct_cnt), sl_cnt⟩)
    (c_cnt : PySem.W.codeIn K cd_cnt "Graph.counts" = true)
    (k_cnt : PySem.W.keepIn K (.ref f_cnt) = true)
    (a_cl : PySem.W.nsIn K mainGlobals "check_length" = some (some (.ref f_cl)))
    (l_cl : K.lookup f_cl = some ⟨oc_cl, od_cl, .func (PySem.W.fnOf "check_length" "check_length" (defArgs sCl) (defBody sCl) (defScope sCl) .none kV_cl dc_cl pm_cl an_cl cd_cl ct_cl), sl_cl⟩)
    (c_cl : PySem.W.codeIn K cd_cl "check_length" = true)
    (k_cl : PySem.W.keepIn K (.ref f_cl) = true)
    (a_pr : PySem.W.nsIn K mainGlobals "product" = some (some (.ref f_pr)))
    (l_pr : K.lookup f_pr = some ⟨oc_pr, od_pr, .func (PySem.W.fnOf "product" "product" (defArgs sProd) (defBody sProd) (defScope sProd) .none kV_pr dc_pr pm_pr an_pr cd_pr ct_pr), sl_pr⟩)
    (c_pr : PySem.W.codeIn K cd_pr "product" = true)
    (k_pr : PySem.W.keepIn K (.ref f_pr) = true)
    (a_pw : PySem.W.nsIn K mainGlobals "power" = some (some (.ref f_pw)))
    (l_pw : K.lookup f_pw = some ⟨oc_pw, od_pw, .func (PySem.W.fnOf "power" "power" (defArgs sPow) (defBody sPow) (defScope sPow) .none kV_pw dc_pw pm_pw an_pw cd_pw ct_pw), sl_pw⟩)
    (c_pw : PySem.W.codeIn K cd_pw "power" = true)
    (k_pw : PySem.W.keepIn K (.ref f_pw) = true)
    (a_cp : PySem.W.nsIn K mainGlobals "count_paths" = some (some (.ref f_cp)))
    (l_cp : K.lookup f_cp = some ⟨oc_cp, od_cp, .func (PySem.W.fnOf "count_paths" "count_paths" (defArgs sCP) (defBody sCP) (defScope sCP) .none kV_cp dc_cp pm_cp an_cp cd_cp ct_cp), sl_cp⟩)
    (c_cp : PySem.W.codeIn K cd_cp "count_paths" = true)
    (k_cp : PySem.W.keepIn K (.ref f_cp) = true)
    (a_cc : PySem.W.nsIn K mainGlobals "count_closed" = some (some (.ref f_cc)))
    (l_cc : K.lookup f_cc = some ⟨oc_cc, od_cc, .func (PySem.W.fnOf "count_closed" "count_closed" (defArgs sCC) (defBody sCC) (defScope sCC) .none kV_cc dc_cc pm_cc an_cc cd_cc ct_cc), sl_cc⟩)
    (c_cc : PySem.W.codeIn K cd_cc "count_closed" = true)
    (k_cc : PySem.W.keepIn K (.ref f_cc) = true)
    (a_lpc : PySem.W.nsIn K mainGlobals "_law_path_count" = some (some (.ref f_lpc)))
    (l_lpc : K.lookup f_lpc = some ⟨oc_lpc, od_lpc, .func (PySem.W.fnOf "_law_path_count" "_law_path_count" (defArgs sLPC) (defBody sLPC) (defScope sLPC) .none kV_lpc dc_lpc pm_lpc an_lpc cd_lpc ct_lpc), sl_lpc⟩)
    (c_lpc : PySem.W.codeIn K cd_lpc "_law_path_count" = true)
    (k_lpc : PySem.W.keepIn K (.ref f_lpc) = true)
    (a_lcc : PySem.W.nsIn K mainGlobals "_law_closed_count" = some (some (.ref f_lcc)))
    (l_lcc : K.lookup f_lcc = some ⟨oc_lcc, od_lcc, .func (PySem.W.fnOf "_law_closed_count" "_law_closed_count" (defArgs sLCC) (defBody sLCC) (defScope sLCC) .none kV_lcc dc_lcc pm_lcc an_lcc cd_lcc ct_lcc), sl_lcc⟩)
    (c_lcc : PySem.W.codeIn K cd_lcc "_law_closed_count" = true)
    (k_lcc : PySem.W.keepIn K (.ref f_lcc) = true)
    (a_law : PySem.W.nsIn K mainGlobals "law" = some (some (.ref f_law)))
    (l_law : K.lookup f_law = some ⟨oc_law, od_law, .func (PySem.W.fnOf "law" "law" (defArgs sLaw) (defBody sLaw) (defScope sLaw) .none kV_law dc_law pm_law an_law (.ref cW) ct_law), sl_law⟩)
    (c_law : PySem.W.codeIn K (.ref cW) "law" = true)
    (k_law : PySem.W.keepIn K (.ref f_law) = true)
    (tW : PySem.W.tabIn K "law" = some (cW, Pt))
    (hW : PySem.W.codeHdIn K cW Pt = true)
    (nP : K.lookup Pt = none)
    (nn2 : Pf ≠ Pt) :
    LamX.LawAtS l w K CX0 12 63 "_law_script" mg fa h := by
  have e := hfa.symm.trans (PySem.W.mg_of X G a_law)
  cases e
  have T : Bi mg := ⟨PySem.W.mg_none_of X G z_len, PySem.W.mg_none_of X G z_list, PySem.W.mg_none_of X G z_tuple, PySem.W.mg_none_of X G z_bool, PySem.W.mg_none_of X G z_int, PySem.W.mg_none_of X G z_str, PySem.W.mg_none_of X G z_isinstance, PySem.W.mg_none_of X G z_all, PySem.W.mg_none_of X G z_zip, PySem.W.mg_none_of X G z_range⟩
  have cl : Cls K C := ⟨gpg, ghd, gpo, gsa⟩
  have GT : GTxt K mg C (.type "type") := ⟨cl, gnS, gnE, PySem.W.mg_of X G aC, ⟨grd, gga⟩, ⟨_, gv8, ⟨_, rfl⟩⟩, ⟨_, gv24, ⟨_, rfl⟩⟩, PySem.W.mg_none_of X G z_enumerate⟩
  have F_bag := fun_mk (st := sBag) l_bag c_bag k_bag
  have b_bag := F_bag.binds (ps := ["_law_script"]) fun _ _ _ _ _ _ us hl => match us, hl with | [_], _ => rfl
  have F_pull := fun_mk (st := sPull) l_pull c_pull k_pull
  have b_pull := F_pull.binds (ps := ["_law_bag_here", "_law_many"]) fun _ _ _ _ _ _ us hl => match us, hl with | [_, _], _ => rfl
  have F_of := fun_mk (st := sOf) l_of c_of k_of
  have b_of := F_of.binds (ps := ["_law_bag_here", "_law_things"]) fun _ _ _ _ _ _ us hl => match us, hl with | [_, _], _ => rfl
  have F_plan := fun_mk (st := sPlan) l_plan c_plan k_plan
  have b_plan := F_plan.binds (ps := ["_law_bag_here", "_law_most", "_law_many"]) fun _ _ _ _ _ _ us hl => match us, hl with | [_, _, _], _ => rfl
  have F_like := fun_mk (st := sLike) l_like c_like k_like
  have b_like := F_like.binds (ps := ["_law_found", "_law_due"]) fun _ _ _ _ _ _ us hl => match us, hl with | [_, _], _ => rfl
  have F_field := fun_mk (st := sField) l_field c_field k_field
  have b_field := F_field.binds (ps := ["_law_e"]) fun _ _ _ _ _ _ us hl => match us, hl with | [_], _ => rfl
  have F_tried := fun_mk (st := sTried) l_tried c_tried k_tried
  have b_tried := F_tried.binds (ps := ["_law_ask"]) fun _ _ _ _ _ _ us hl => match us, hl with | [_], _ => rfl
  have F_win : FunD K "__init__" "WindowError.__init__" (defArgs sWin) (defBody sWin) (defScope sWin) [.str "windowerror", .str ""] [] f_win (PySem.W.fnOf "__init__" "WindowError.__init__" (defArgs sWin) (defBody sWin) (defScope sWin) (.ref TJ) kV_win dc_win pm_win an_win cd_win ct_win) :=
    ⟨⟨_, _, _, _, _, _, _, _, _, _, rfl, l_win, c_win, .inr ⟨by simp, TJ, _, [.str "windowerror" tj1, .str "" tj2], _, rfl, lTJ, rfl, .cons ⟨_, rfl⟩ (.cons ⟨_, rfl⟩ .nil)⟩, .inl rfl⟩, k_win⟩
  have b_win : Binds K (PySem.W.fnOf "__init__" "WindowError.__init__" (defArgs sWin) (defBody sWin) (defScope sWin) (.ref TJ) kV_win dc_win pm_win an_win cd_win ct_win) ["self", "word", "told"] [] := by
    obtain ⟨ds, hv, hb⟩ := F_win.binds1 (ps := ["self", "word", "told"]) 3 2 (by simp) rfl (fun _ _ _ _ _ _ _ us its hu hi => match us, its, hu, hi with | [_, _, _], [_, _], _, _ => ⟨_, rfl, rfl⟩)
    cases hv
    exact hb
  have F_InvalidLength := fun_mk (st := sInvalidLength) l_InvalidLength c_InvalidLength k_InvalidLength
  have b_InvalidLength := F_InvalidLength.binds (ps := ["self", "length"]) fun _ _ _ _ _ _ us hl => match us, hl with | [_, _], _ => rfl
  have TOInvalidLength : OexC K CInvalidLength := ⟨⟨nm_InvalidLength, qc_InvalidLength, N_InvalidLength, bs_InvalidLength, bm_InvalidLength, sn_InvalidLength, su_InvalidLength, ab_InvalidLength, co_InvalidLength, dd_InvalidLength, m0_InvalidLength, m1_InvalidLength, m2_InvalidLength, m3_InvalidLength, m5_InvalidLength, xLInvalidLength, rVInvalidLength⟩, saInvalidLength, eCInvalidLength, tCInvalidLength, kCInvalidLength⟩
  have xfInvalidLength : XfC K CInvalidLength := ⟨gaInvalidLength, ggInvalidLength, eCInvalidLength, hCInvalidLength⟩
  have F_check := fun_mk (st := sCheck) l_check c_check k_check
  have b_check := F_check.binds (ps := ["states", "edges"]) fun _ _ _ _ _ _ us hl => match us, hl with | [_, _], _ => rfl
  have F_init := fun_mk (st := sInit) l_init c_init k_init
  have b_init := F_init.binds (ps := ["self", "states", "edges"]) fun _ _ _ _ _ _ us hl => match us, hl with | [_, _, _], _ => rfl
  have F_full := fun_mk (st := sFull) l_full c_full k_full
  have b_full := F_full.binds (ps := ["cls", "count"]) fun _ _ _ _ _ _ us hl => match us, hl with | [_, _], _ => rfl
  have F_graph := fun_mk (st := sGraph) l_graph c_graph k_graph
  have b_graph := F_graph.binds (ps := ["_law_plan_here"]) fun _ _ _ _ _ _ us hl => match us, hl with | [_], _ => rfl
  have F_cnt := fun_mk (st := sCounts) l_cnt c_cnt k_cnt
  have b_cnt := F_cnt.binds (ps := ["self"]) fun _ _ _ _ _ _ us hl => match us, hl with | [_], _ => rfl
  have F_cl := fun_mk (st := sCl) l_cl c_cl k_cl
  have b_cl := F_cl.binds (ps := ["length", "limit"]) fun _ _ _ _ _ _ us hl => match us, hl with | [_, _], _ => rfl
  have F_pr := fun_mk (st := sProd) l_pr c_pr k_pr
  have b_pr := F_pr.binds (ps := ["one", "other"]) fun _ _ _ _ _ _ us hl => match us, hl with | [_, _], _ => rfl
  have F_pw := fun_mk (st := sPow) l_pw c_pw k_pw
  have b_pw := F_pw.binds (ps := ["table", "exponent"]) fun _ _ _ _ _ _ us hl => match us, hl with | [_, _], _ => rfl
  have F_cp := fun_mk (st := sCP) l_cp c_cp k_cp
  have b_cp := F_cp.binds (ps := ["graph", "length"]) fun _ _ _ _ _ _ us hl => match us, hl with | [_, _], _ => rfl
  have F_cc := fun_mk (st := sCC) l_cc c_cc k_cc
  have b_cc := F_cc.binds (ps := ["graph", "length"]) fun _ _ _ _ _ _ us hl => match us, hl with | [_, _], _ => rfl
  have F_lpc := fun_mk (st := sLPC) l_lpc c_lpc k_lpc
  have b_lpc := F_lpc.binds (ps := ["_law_plan_here", "_law_size"]) fun _ _ _ _ _ _ us hl => match us, hl with | [_, _], _ => rfl
  have F_lcc := fun_mk (st := sLCC) l_lcc c_lcc k_lcc
  have b_lcc := F_lcc.binds (ps := ["_law_plan_here", "_law_size"]) fun _ _ _ _ _ _ us hl => match us, hl with | [_, _], _ => rfl
  obtain ⟨ev, dv, vsv, slv, e1, e2⟩ := hd_at hW
  have hP := own cW Pt _ _ _ _ _ _ l_law rfl rfl e1 e2
  obtain ⟨ev2, dv2, vsv2, slv2, e3, e4⟩ := hd_at hF
  have hPf := ownF _ (PySem.W.mg_of X G a_field) cF Pf _ _ _ _ _ _ l_field rfl rfl e3 e4
  have both : ∀ {A : Addr × Addr → Prop}, A (cW, Pt) → A (cF, Pf) → ∀ p ∈ [(cW, Pt), (cF, Pf)], A p := fun {A} a b p hp => by
    rcases List.mem_cons.mp hp with z | z
    · rw [z]; exact a
    · rw [List.mem_singleton.mp z]; exact b
  obtain ⟨qn, hqn⟩ : ∃ q : Str, ("law" ++ ".<locals>." : Str) ++ "<lambda>" = q := ⟨_, rfl⟩
  obtain ⟨qf, hqf⟩ : ∃ q : Str, ("_law_field" ++ ".<locals>." : Str) ++ "<lambda>" = q := ⟨_, rfl⟩
  have two2 : ∀ r ∈ [(Pt, qn), (Pf, qf)], r.1 = Pf → r.2 = qf := fun r hr e => by
    rcases List.mem_cons.mp hr with z | z
    · rw [z] at e; exact absurd e.symm nn2
    · rw [List.mem_singleton.mp z]
  refine ⟨PySem.W.fnOf "law" "law" (defArgs sLaw) (defBody sLaw) (defScope sLaw) .none kV_law dc_law pm_law an_law (.ref cW) ct_law, [(cW, Pt), (cF, Pf)], spLaw K Pt Pf, both hP hPf, both nP nF, both (PySem.W.codeHd_of_K X hW) (PySem.W.codeHd_of_K X hF), fun s v => .of_eq rfl, fun H a ns hl _ hH hS => ⟨a, ns, rfl, hS, hl, hH _ List.mem_cons_self, hH _ (List.mem_cons_of_mem _ List.mem_cons_self), fun _ => rfl⟩, fun base _ _ TB => ?_⟩
  have cal_bag : C8.Cal l.prog w K mg base 1 "_law_bag" (spBag K) [] := ⟨f_bag, _, _, [], ok_bag (k := 0) F_bag T, PySem.W.mg_of X G a_bag, k_bag, b_bag, .nil⟩
  have cal_pull : C8.Cal l.prog w K mg base 1 "_law_pull" spPull [] := ⟨f_pull, _, _, [], ok_pull (k := 0) F_pull T.len, PySem.W.mg_of X G a_pull, k_pull, b_pull, .nil⟩
  have cal_of : C8.Cal l.prog w K mg base 2 "_law_of" (spOf K) [] := ⟨f_of, _, _, [], ok_of (k := 0) F_of T cal_pull, PySem.W.mg_of X G a_of, k_of, b_of, .nil⟩
  have cal_plan : C8.Cal l.prog w K mg base 2 "_law_plan" spPlan [] := ⟨f_plan, _, _, [], ok_plan (k := 0) F_plan T cal_pull, PySem.W.mg_of X G a_plan, k_plan, b_plan, .nil⟩
  have cal_like : C8.Cal l.prog w K mg base 1 "_law_like" (spLike 0) [] := ⟨f_like, _, _, [], like0 (k := 0) F_like, PySem.W.mg_of X G a_like, k_like, b_like, .nil⟩
  have cal_like : C8.Cal l.prog w K mg base 2 "_law_like" (spLike 1) [] := ⟨f_like, _, _, [], ok_like (n := 1) (k := 0) F_like T (fun _ => cal_like), PySem.W.mg_of X G a_like, k_like, b_like, .nil⟩
  have cal_like : C8.Cal l.prog w K mg base 3 "_law_like" (spLike 2) [] := ⟨f_like, _, _, [], ok_like (n := 2) (k := 1) F_like T (fun _ => cal_like), PySem.W.mg_of X G a_like, k_like, b_like, .nil⟩
  have cal_like : C8.Cal l.prog w K mg base 4 "_law_like" (spLike 3) [] := ⟨f_like, _, _, [], ok_like (n := 3) (k := 2) F_like T (fun _ => cal_like), PySem.W.mg_of X G a_like, k_like, b_like, .nil⟩
  have cal_like : C8.Cal l.prog w K mg base 5 "_law_like" (spLike 4) [] := ⟨f_like, _, _, [], ok_like (n := 4) (k := 3) F_like T (fun _ => cal_like), PySem.W.mg_of X G a_like, k_like, b_like, .nil⟩
  have cal_like : C8.Cal l.prog w K mg base 6 "_law_like" (spLike 5) [] := ⟨f_like, _, _, [], ok_like (n := 5) (k := 4) F_like T (fun _ => cal_like), PySem.W.mg_of X G a_like, k_like, b_like, .nil⟩
  have o_win := ok_win (P := l.prog) (w := w) (mg := mg) (base := base) (k := 0) F_win (PySem.W.mg_none_of X G z_ValueError) vV
  have o_InvalidLength := ok_invalidlength (P := l.prog) (w := w) (mg := mg) (base := base) (k := 0) F_InvalidLength TOInvalidLength nwInvalidLength nnInvalidLength (PySem.W.mg_of X G aX) ⟨rdX, gtX⟩ ⟨a_win, rfl⟩ k_win o_win b_win
  have R_InvalidLength : ErrIn l.prog w K mg base "InvalidLength" CInvalidLength "length" "invalidlength" := ⟨TOInvalidLength, PySem.W.mg_of X G aCInvalidLength, f_InvalidLength, _, a_InvalidLength, tIInvalidLength, o_InvalidLength, b_InvalidLength⟩
  have EO_InvalidLength : ErOkT l.prog w K mg base [(Pt, qn), (Pf, qf)] CW f_field _ CInvalidLength "length" "invalidlength" := ⟨exm_own eX iX tX sXInvalidLength, xfInvalidLength, nwInvalidLength, by decide +kernel, fun a dd => okT_length (k := 0) l_field c_field (TB (cF, Pf) (List.mem_cons_of_mem _ List.mem_cons_self)) hqf (List.mem_cons_of_mem _ List.mem_cons_self) two2 xfInvalidLength nwInvalidLength nnInvalidLength⟩
  have cal_check : C8.Cal l.prog w K mg base 1 "check_edges" (spCheck K) [] := ⟨f_check, _, _, [], ok_check (k := 0) F_check T GT, PySem.W.mg_of X G a_check, k_check, b_check, .nil⟩
  have mG : C8.Mak l.prog w K mg base 2 "Graph" C (spInit C) [] := ⟨f_init, _, _, [], ⟨gmk, a_init, i_init, gkc⟩, ok_init (k := 0) F_init T GT cal_check, PySem.W.mg_of X G aC, b_init, .nil⟩
  have mF : ∃ p g, ClX.CMet K C (.type "type") "full" p g ∧ FnR l.prog w K mg base CX0 4 g (spFull0 C) := ⟨p_full, f_full, ⟨a_full, ⟨_, r_full⟩, i_full⟩, ((ok_full0 (k := 0) F_full GT ⟨gmk, a_init, i_init, gkc⟩ (ok_init (k := 0) F_init T GT cal_check) b_init).raw b_full .nil).imp fun vs H Q E h => by rw [List.append_nil]; exact h⟩
  have cal_graph : C8.Cal l.prog w K mg base 4 "_law_graph" (spGraph C) [] := ⟨f_graph, _, _, [], ok_graph (k := 0) F_graph T mG, PySem.W.mg_of X G a_graph, k_graph, b_graph, .nil⟩
  have m_cnt : C8.Met l.prog w K mg base 1 C "counts" (spCounts C) [] := ⟨f_cnt, _, _, [], cl, ⟨a_cnt, i_cnt, k_cnt⟩, ok_counts (k := 0) F_cnt T GT, b_cnt, .nil⟩
  have cal_cl : C8.Cal l.prog w K mg base 1 "check_length" spCl [] := ⟨f_cl, _, _, [], ok_cl (k := 0) F_cl, PySem.W.mg_of X G a_cl, k_cl, b_cl, .nil⟩
  have n_cl : CalN l.prog w K mg base 4 "check_length" (spClX CInvalidLength) := ⟨f_cl, _, _, okN_cl (k := 0) F_cl R_InvalidLength, PySem.W.mg_of X G a_cl, k_cl, b_cl⟩
  have cal_pr : C8.Cal l.prog w K mg base 1 "product" spProd [] := ⟨f_pr, _, _, [], ok_prod (k := 0) F_pr T (PySem.W.mg_none_of X G z_sum), PySem.W.mg_of X G a_pr, k_pr, b_pr, .nil⟩
  have cal_pw : C8.Cal l.prog w K mg base 2 "power" spPow [] := ⟨f_pw, _, _, [], ok_pow (k := 0) F_pw T (PySem.W.mg_none_of X G z_reversed) cal_pr, PySem.W.mg_of X G a_pw, k_pw, b_pw, .nil⟩
  have cal_cp : C8.Cal l.prog w K mg base 3 "count_paths" (spCP C) [] := ⟨f_cp, _, _, [], ok_cp (k := 0) F_cp (PySem.W.mg_of X G aMC) (PySem.W.mg_none_of X G z_sum) cal_cl cal_pw m_cnt, PySem.W.mg_of X G a_cp, k_cp, b_cp, .nil⟩
  have n_cp : CalN l.prog w K mg base 5 "count_paths" (spCnX CInvalidLength) := ⟨f_cp, _, _, okN_cp (k := 0) F_cp (PySem.W.mg_of X G aMC) n_cl, PySem.W.mg_of X G a_cp, k_cp, b_cp⟩
  have cal_cc : C8.Cal l.prog w K mg base 3 "count_closed" (spCC C) [] := ⟨f_cc, _, _, [], ok_cc (k := 0) F_cc (PySem.W.mg_of X G aMC) (PySem.W.mg_none_of X G z_sum) GT.enum cal_cl cal_pw m_cnt, PySem.W.mg_of X G a_cc, k_cc, b_cc, .nil⟩
  have n_cc : CalN l.prog w K mg base 5 "count_closed" (spCnX CInvalidLength) := ⟨f_cc, _, _, okN_cc (k := 0) F_cc (PySem.W.mg_of X G aMC) n_cl, PySem.W.mg_of X G a_cc, k_cc, b_cc⟩
  have cal_lpc : C8.Cal l.prog w K mg base 1 "_law_path_count" spLPC [] := ⟨f_lpc, _, _, [], ok_lpc (k := 0) F_lpc T (PySem.W.mg_none_of X G z_sum), PySem.W.mg_of X G a_lpc, k_lpc, b_lpc, .nil⟩
  have cal_lcc : C8.Cal l.prog w K mg base 1 "_law_closed_count" spLCC [] := ⟨f_lcc, _, _, [], ok_lcc (k := 0) F_lcc T, PySem.W.mg_of X G a_lcc, k_lcc, b_lcc, .nil⟩
  exact ok_law l_law c_law (TB (cW, Pt) List.mem_cons_self) hqn nn2 (C := C) (CL := CInvalidLength) (mc := .type "type") ⟨T, GT, cal_bag, cal_pull, cal_of, cal_plan, cal_like, cal_graph, cal_cp, cal_cc, n_cp, n_cc, cal_lpc, cal_lcc, mF, ⟨f_tried, _, _, _, _, _, _, _, _, _, _, PySem.W.mg_of X G a_tried, k_tried, l_tried, c_tried, b_tried⟩, ⟨CW, f_field, _, PySem.W.mg_of X G aX, PySem.W.mg_of X G a_field, k_field, b_field, EO_InvalidLength⟩⟩
theorem walk {l : PySem.W.OpenLaw} {q : Program} {loose : List Str} {XP : (Str → Option Value) → Heap → Prop} {YP : World → Heap → Prop} {d : DefRec} {K : Params → PySem.W.Frag} (hn : l.most = some 63) (hdf : d.params.defaults = []) (hrec : ((PyProof.Rows.recsOf q).any fun e => e.name == d.name) = true) (hrecF : ((PyProof.Rows.recsOf q).any fun e => e.name == "_law_field") = true)
    (hY : ∀ (w : World) (h : Heap), YP w h → (K w.params).In h)
    (F : ∀ (w : World) (mg : Str → Option Value) (fa : Addr) (h : Heap), YP w h → (K w.params).In h → h.Ns mainGlobals mg → mg d.name = some (.ref fa) → LamX.OwnTab (K w.params) fa h → (∀ b, mg "_law_field" = some (.ref b) → LamX.OwnTab (K w.params) b h) → LamX.LawAtS l w (K w.params) CX0 12 63 "_law_script" mg fa h) :
    PySem.W.WalkO q loose XP YP l.row.toRowW d [] (fun f vs => PySem.call f vs) := by
  refine walk_tabs (n := 63) (k := 12) (x := "_law_script") hn (by decide) hdf ⟨rfl, by decide, by decide⟩ hY fun w mg fa h Y KX G m own => ?_
  obtain ⟨e, he, n1⟩ := rec_of hrec
  obtain ⟨e2, he2, n2⟩ := rec_of hrecF
  exact F w mg fa h Y KX G m (own e he fa (by rw [n1]; exact m)) fun b hb => own e2 he2 b (by rw [n2]; exact hb)
end Lw
open PySem PySem.W PyProof.Rows
set_option Elab.async false
set_option maxRecDepth 100000 in
set_option maxHeartbeats 0 in
theorem PySem.Challenge.cw_windowkin_k06_numbers_of_paths_holds : PySem.Challenge.rw_windowkin_k06_numbers_of_paths.Holds := by
  w_on; o_law; k_head; (case hw => w_witness2)
  k_fill
  refine Lw.walk (l := PySem.Challenge.rw_windowkin_k06_numbers_of_paths) rfl rfl ?R ?RF (fun w h Y => PySem.W.km_in_of Y) ?F
  (case R => first | rfl | decide +kernel)
  (case RF => first | rfl | decide +kernel)
  case F =>
    intro w mg fa h Y KX G hmg own ownF
    refine' Lw.all_mk KX G hmg own ownF ?z_len ?z_list ?z_tuple ?z_bool ?z_int ?z_str ?z_isinstance ?z_all ?z_zip ?z_range ?z_ValueError ?z_enumerate ?z_sum ?z_reversed ?aC ?gpg ?ghd ?gpo ?gsa ?gmk ?gkc ?gnS ?gnE ?grd ?gga ?gv8 ?gv24 ?a_bag ?l_bag ?c_bag ?k_bag ?a_pull ?l_pull ?c_pull ?k_pull ?a_of ?l_of ?c_of ?k_of ?a_plan ?l_plan ?c_plan ?k_plan ?a_like ?l_like ?c_like ?k_like ?a_field ?l_field ?c_field ?k_field ?tF ?hF ?nF ?a_tried ?l_tried ?c_tried ?k_tried ?aX ?eX ?tX ?iX ?a_win ?l_win ?c_win ?k_win ?lTJ ?rdX ?gtX ?vV ?aCInvalidLength ?xLInvalidLength ?rVInvalidLength ?saInvalidLength ?gaInvalidLength ?ggInvalidLength ?nwInvalidLength ?nnInvalidLength ?kCInvalidLength ?eCInvalidLength ?tCInvalidLength ?hCInvalidLength ?sXInvalidLength ?a_InvalidLength ?tIInvalidLength ?l_InvalidLength ?c_InvalidLength ?k_InvalidLength ?a_check ?l_check ?c_check ?k_check ?a_init ?i_init ?l_init ?c_init ?k_init ?aMC ?a_full ?r_full ?i_full ?l_full ?c_full ?k_full ?a_graph ?l_graph ?c_graph ?k_graph ?a_cnt ?i_cnt ?l_cnt ?c_cnt ?k_cnt ?a_cl ?l_cl ?c_cl ?k_cl ?a_pr ?l_pr ?c_pr ?k_pr ?a_pw ?l_pw ?c_pw ?k_pw ?a_cp ?l_cp ?c_cp ?k_cp ?a_cc ?l_cc ?c_cc ?k_cc ?a_lpc ?l_lpc ?c_lpc ?k_lpc ?a_lcc ?l_lcc ?c_lcc ?k_lcc ?a_law ?l_law ?c_law ?k_law ?tW ?hW ?nP ?nn2
    (case z_len => k_is)
    (case z_list => k_is)
    (case z_tuple => k_is)
    (case z_bool => k_is)
    (case z_int => k_is)
    (case z_str => k_is)
    (case z_isinstance => k_is)
    (case z_all => k_is)
    (case z_zip => k_is)
    (case z_range => k_is)
    (case z_ValueError => k_is)
    (case z_enumerate => k_is)
    (case z_sum => k_is)
    (case z_reversed => k_is)
    (case aC => k_is)
    (case gpg => k_is)
    (case ghd => k_is)
    (case gpo => k_is)
    (case gsa => k_is)
    (case gmk => k_is)
    (case gkc => k_is)
    (case gnS => k_is)
    (case gnE => k_is)
    (case grd => k_is)
    (case gga => k_is)
    (case gv8 => k_is)
    (case gv24 => k_is)
    (case a_bag => k_is)
    (case l_bag => k_is)
    (case c_bag => k_is)
    (case k_bag => k_is)
    (case a_pull => k_is)
    (case l_pull => k_is)
    (case c_pull => k_is)
    (case k_pull => k_is)
    (case a_of => k_is)
    (case l_of => k_is)
    (case c_of => k_is)
    (case k_of => k_is)
    (case a_plan => k_is)
    (case l_plan => k_is)
    (case c_plan => k_is)
    (case k_plan => k_is)
    (case a_like => k_is)
    (case l_like => k_is)
    (case c_like => k_is)
    (case k_like => k_is)
    (case a_field => k_is)
    (case l_field => k_is)
    (case c_field => k_is)
    (case k_field => k_is)
    (case tF => first | k_is | rfl | decide +kernel)
    (case hF => first | k_is | rfl | decide +kernel)
    (case nF => first | k_is | rfl | decide +kernel)
    (case a_tried => k_is)
    (case l_tried => k_is)
    (case c_tried => k_is)
    (case k_tried => k_is)
    (case aX => k_is)
    (case eX => first | k_is | rfl | decide +kernel)
    (case tX => k_is)
    (case iX => k_is)
    (case a_win => k_is)
    (case l_win => k_is)
    (case c_win => k_is)
    (case k_win => k_is)
    (case lTJ => k_is)
    (case rdX => k_is)
    (case gtX => k_is)
    (case vV => k_is)
    (case aCInvalidLength => k_is)
    (case xLInvalidLength => k_is)
    (case rVInvalidLength => first | rfl | decide +kernel | k_is)
    (case saInvalidLength => k_is)
    (case gaInvalidLength => k_is)
    (case ggInvalidLength => k_is)
    (case nwInvalidLength => k_is)
    (case nnInvalidLength => k_is)
    (case kCInvalidLength => k_is)
    (case eCInvalidLength => k_is)
    (case tCInvalidLength => k_is)
    (case hCInvalidLength => k_is)
    (case sXInvalidLength => first | k_is | rfl | decide +kernel)
    (case a_InvalidLength => k_is)
    (case tIInvalidLength => k_is)
    (case l_InvalidLength => k_is)
    (case c_InvalidLength => k_is)
    (case k_InvalidLength => k_is)
    (case a_check => k_is)
    (case l_check => k_is)
    (case c_check => k_is)
    (case k_check => k_is)
    (case a_init => k_is)
    (case i_init => k_is)
    (case l_init => k_is)
    (case c_init => k_is)
    (case k_init => k_is)
    (case aMC => k_is)
    (case a_full => k_is)
    (case r_full => k_is)
    (case i_full => k_is)
    (case l_full => k_is)
    (case c_full => k_is)
    (case k_full => k_is)
    (case a_graph => k_is)
    (case l_graph => k_is)
    (case c_graph => k_is)
    (case k_graph => k_is)
    (case a_cnt => k_is)
    (case i_cnt => k_is)
    (case l_cnt => k_is)
    (case c_cnt => k_is)
    (case k_cnt => k_is)
    (case a_cl => k_is)
    (case l_cl => k_is)
    (case c_cl => k_is)
    (case k_cl => k_is)
    (case a_pr => k_is)
    (case l_pr => k_is)
    (case c_pr => k_is)
    (case k_pr => k_is)
    (case a_pw => k_is)
    (case l_pw => k_is)
    (case c_pw => k_is)
    (case k_pw => k_is)
    (case a_cp => k_is)
    (case l_cp => k_is)
    (case c_cp => k_is)
    (case k_cp => k_is)
    (case a_cc => k_is)
    (case l_cc => k_is)
    (case c_cc => k_is)
    (case k_cc => k_is)
    (case a_lpc => k_is)
    (case l_lpc => k_is)
    (case c_lpc => k_is)
    (case k_lpc => k_is)
    (case a_lcc => k_is)
    (case l_lcc => k_is)
    (case c_lcc => k_is)
    (case k_lcc => k_is)
    (case a_law => k_is)
    (case l_law => k_is)
    (case c_law => k_is)
    (case k_law => k_is)
    (case tW => first | k_is | rfl | decide +kernel)
    (case hW => first | k_is | rfl | decide +kernel)
    (case nP => first | k_is | rfl | decide +kernel)
    (case nn2 => first | k_is | rfl | decide +kernel)
