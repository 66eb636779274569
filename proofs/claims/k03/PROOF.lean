import PyProof.Rows.All
import Wide.All
import OpenK.AllK
import Wide.FinOn
import HandS.ForMost
import HandS.Wide
import HandS.Codes
import PySem.Challenge.RW_windowkin_k03_edges_of_states
import HandS.IsInst
import HandS.Walk
import HandS.Zip
import KE.GoesMore
import HandS.ClsMeth
import HandS.Property
import HandS.FStr
import HandS.Exc
import HandS.ExcOwn
import HandS.WordsExc
import HandS.ExcInit
import HandS.Defaults
import HandS.TryOnly
import HandS.Lambda
import HandS.HotCalls
import HandS.ExcField
import HandS.Nested
import KE.KDflt
import HandS.Style
import HandS.Conv
import HandS.EndOwn
import KE.KNestM
set_option Elab.async false
set_option linter.all false
set_option maxRecDepth 100000
namespace Lw
open PySem L2
def top (i : Nat) : Stmt := PySem.Challenge.pw_windowkin_k03_edges_of_states.main.body.getD i (.Pass ⟨0, 0, 0, 0⟩)
abbrev sBag : Stmt := top 11
abbrev sPull : Stmt := top 12
abbrev sOf : Stmt := top 13
/-! ### heaps -/
theorem same_upd {H : Hp} {p : Addr} {o : HO} (h : H p = none) : Same H (upd H p o) := fun b x e => by
  rw [upd_ne (ne_of_none e h)]
  exact e
theorem upd_upd {H : Hp} {p : Addr} {o o' : HO} : upd (upd H p o) p o' = upd H p o' := by
  funext c
  by_cases e : c = p
  · subst e
    rw [upd_same, upd_same]
  · rw [upd_ne e, upd_ne e, upd_ne e]
theorem upd_self {H : Hp} {p : Addr} {o : HO} (h : H p = some o) : upd H p o = H := by
  funext c
  by_cases e : c = p
  · subst e
    rw [upd_same, h]
  · rw [upd_ne e]
/-! ### the bag: the script's own list at l, a place, a rest, a salt -/
def BagO (l : Addr) (ns : List Int) (o : HO) : Prop := ∃ (i : Nat) (r s : Int), o = .lst [.ref l, .int (i : Int), .int r, .int s] ∧ i ≤ ns.length ∧ 0 ≤ r ∧ 0 ≤ s ∧ s < 2147483563
structure BagAt (H : Hp) (b l : Addr) (ns : List Int) : Prop where
  ob : ∃ o, H b = some o ∧ BagO l ns o
  sc : H l = some (.lst (ns.map V.int))
  ln : ns.length ≤ 63
theorem BagAt.ne {H : Hp} {b l : Addr} {ns : List Int} (h : BagAt H b l ns) : l ≠ b := fun e => by
  obtain ⟨o, ho, i, r, s, rfl, _⟩ := h.ob
  have h2 := h.sc
  rw [e, ho] at h2
  cases ns with
  | nil => cases h2
  | cons x r => cases h2
theorem BagAt.upd {H : Hp} {b l : Addr} {ns : List Int} {o : HO} (h : BagAt H b l ns) (ho : BagO l ns o) : BagAt (upd H b o) b l ns :=
  ⟨⟨o, upd_same, ho⟩, by rw [upd_ne h.ne]; exact h.sc, h.ln⟩
/-- the bag where all that was tracked stands -/
theorem BagAt.same {H H' : Hp} {b l : Addr} {ns : List Int} (h : BagAt H b l ns) (e : Same H H') : BagAt H' b l ns :=
  ⟨h.ob.imp fun _ z => ⟨e _ _ z.1, z.2⟩, e _ _ h.sc, h.ln⟩
def spPull : Sp := fun vs H Q _ => ∃ (b l : Addr) (ns : List Int) (m : Int), vs = [.ref b, .int m] ∧ BagAt H b l ns ∧ 0 < m ∧ m < 2 ^ 100 ∧
  ∀ (v : Int) (o : HO), 0 ≤ v → v < m → BagO l ns o → Q (.int v) (upd H b o)
def spBag (K : PySem.W.Frag) : Sp := fun vs H Q _ => ∃ (a : Addr) (ns : List Int), vs = [.ref a] ∧ SqL K H a (ns.map V.int) ∧ ns.length ≤ 63 ∧
  ∀ (b l : Addr) (H' : Hp), Same H H' → H b = none → H l = none → BagAt H' b l ns → Q (.ref b) H'
section
variable {P : Program} {w : World} {K : PySem.W.Frag} {mg : Str → Option Value} {base : Heap}
/-! ### _law_pull -/
theorem scPull : FnScope ["_law_bag_here", "_law_many", "_law_cell", "_law_got", "_law_seed"] ["_law_bag_here", "_law_many"] (defScope sPull) := ⟨rfl, rfl, rfl, by decide +kernel, rfl, by decide +kernel, by decide +kernel⟩
theorem at0 {x : V} {r : List V} : atI (x :: r) 0 = some x := by
  have h := atI_nat (xs := x :: r) (j := 0) (v := x) rfl
  exact h
theorem at1 {x y : V} {r : List V} : atI (x :: y :: r) 1 = some y := by
  have h := atI_nat (xs := x :: y :: r) (j := 1) (v := y) rfl
  exact h
theorem at2 {x y z : V} {r : List V} : atI (x :: y :: z :: r) 2 = some z := by
  have h := atI_nat (xs := x :: y :: z :: r) (j := 2) (v := z) rfl
  exact h
theorem at3 {x y z u : V} {r : List V} : atI (x :: y :: z :: u :: r) 3 = some u := by
  have h := atI_nat (xs := x :: y :: z :: u :: r) (j := 3) (v := u) rfl
  exact h
set_option maxHeartbeats 4000000 in
theorem ok_pull {f : Addr} {fd : FuncData} {k : Nat} (F : Fun K "_law_pull" "_law_pull" sPull f fd) (mlen : mg "len" = none) : FnOk P w K mg base CX0 (k + 1) f fd ["_law_bag_here", "_law_many"] spPull := by
  refine F.ok scPull (fun vs H Q E h => ?_) (fun cdv A outer s H vs Q E hr h => ?_)
  · obtain ⟨b, l, ns, m, rfl, _⟩ := h
    rfl
  · obtain ⟨b, l, ns, m, rfl, B, hm, hm2, q⟩ := h
    refine ⟨_, C8.pss_cut (ps_if (PW.pt (pw_and (pt_cmpR op_eq (pe_ix ix_list (pv 0) pe_int (fun _ _ => rfl)) pe_int (nomark _))
        (pw_and1 (pt_cmpR op_lt (pe_ix ix_list (pv 0) pe_int (fun _ _ => rfl)) (pe_callB call_len_seq (by rfl) mlen PySem.boot_len (pa_cons (pe_ix ix_list (pv 0) pe_int (fun _ _ => rfl)) pa_nil)) (nomark _)))))
        (pss_cons (ps_set (i := 2) scPull.nd rfl (Or.inl rfl) (pe_ix ix_list (pe_ix ix_list (pv 0) pe_int (fun _ _ => rfl)) (pe_ix ix_list (pv 0) pe_int (fun _ _ => rfl)) (fun _ _ => rfl)))
        (pss_cons (ps_asg (pe_op op_add (pe_ix ix_list (pv 0) pe_int (fun _ _ => rfl)) pe_int) (pg_sub (pv 0) pe_int set_list))
        (pss_one (ps_if (pt_cmpR op_ge (pv 2) (pe_op op_pow pe_int pe_int) (nomark _))
          (pss_one (ps_asg (pe_op op_sub (pv 2) (pe_op op_pow pe_int pe_int)) (pg_sub (pv 0) pe_int set_list)))
          (pss_one (ps_asg (pe_op op_mod (pe_op op_add (pe_op op_add (pe_op op_mul (pe_ix ix_list (pv 0) pe_int (fun _ _ => rfl)) pe_int) (pe_op op_mul (pe_op op_mod (pv 2) pe_int) pe_int)) pe_int) pe_int) (pg_sub (pv 0) pe_int set_list)))))))
        pss_nil)
      (pss_cons (ps_if (pt_cmpR op_gt (pe_ix ix_list (pv 0) pe_int (fun _ _ => rfl)) pe_int (nomark _))
        (pss_cons (ps_set (i := 3) scPull.nd rfl (Or.inl rfl) (pe_op op_mod (pe_ix ix_list (pv 0) pe_int (fun _ _ => rfl)) (pv 1)))
        (pss_cons (ps_asg (pe_op op_fdivW (pe_ix ix_list (pv 0) pe_int (fun _ _ => rfl)) (pv 1)) (pg_sub (pv 0) pe_int set_list))
        (pss_one (ps_ret (pv 3))))) pss_nil)
      (pss_cons (ps_set (i := 4) scPull.nd rfl (Or.inl rfl) (pe_ix ix_list (pv 0) pe_int (fun _ _ => rfl)))
      (pss_cons (ps_asg (pe_op op_mod (pe_op op_add (pe_op op_add (pe_op op_mul (pe_op op_mul (pv 4) (pv 4)) pe_int) (pe_op op_mul (pv 4) pe_int)) pe_int) pe_int) (pg_sub (pv 0) pe_int set_list))
      (pss_one (ps_ret (pe_op op_mod (pe_op op_add (pe_op op_fdiv (pe_ix ix_list (pv 0) pe_int (fun _ _ => rfl)) pe_int) (pe_op op_mul (pe_op op_mod (pe_ix ix_list (pv 0) pe_int (fun _ _ => rfl)) pe_int) pe_int)) (pv 1))))))), ?_⟩
    obtain ⟨o, ho, i, r, sa, rfl, hi, hr0, hs0, hs1⟩ := B.ob
    refine ⟨fun σ H' => ∃ (v2 : Option V) (o : HO), σ = [some (.ref b), some (.int m), v2, none, none] ∧ H' = upd H b o ∧ BagO l ns o, ?_, ?_⟩
    · refine ⟨_, rfl, b, _, _, _, rfl, rfl, SqL.of ho, at2, rfl, _, rfl, ?_⟩
      have stay : H = upd H b (.lst [.ref l, .int (i : Int), .int r, .int sa]) := (upd_self ho).symm
      refine ite2 (fun c => ?_) (fun c => ?_)
      · have c0 : r = 0 := by
          have c1 := of_decide_eq_true c
          injection c1
        subst c0
        refine ⟨_, rfl, b, _, _, _, rfl, rfl, SqL.of ho, at1, _, rfl, b, _, _, _, rfl, rfl, SqL.of ho, at0, l, _, rfl, .inl (SqL.of B.sc), _, _, rfl, rfl, _, rfl, ?_⟩
        rw [List.length_map]
        refine ite2 (fun c => ?_) (fun c => ?_)
        · have c1 : (i : Int) < (ns.length : Int) := of_decide_eq_true c
          have c2 : i < ns.length := by omega
          have g1 : (ns.map V.int)[i]? = some (.int ns[i]) := by
            rw [List.getElem?_map, List.getElem?_eq_getElem c2]
            rfl
          refine ⟨_, rfl, b, _, _, _, rfl, rfl, SqL.of ho, at0, _, rfl, b, _, _, _, rfl, rfl, SqL.of ho, at1, l, _, _, _, rfl, rfl, SqL.of B.sc, atI_nat g1, ?_⟩
          refine ⟨_, rfl, b, _, _, _, rfl, rfl, SqL.of ho, at1, _, _, rfl, rfl, _, rfl, b, _, _, 1, rfl, rfl, ho, rfl, ?_⟩
          refine ⟨_, rfl, _, _, rfl, rfl, ⟨by decide, by decide, by decide⟩, _, _, rfl, rfl, _, rfl, ?_⟩
          refine ite2 (fun c => ?_) (fun c => ?_)
          · have c3 : (10 : Int) ^ (18 : Int).toNat ≤ ns[i] := of_decide_eq_true c
            refine ⟨_, rfl, _, _, rfl, rfl, ⟨by decide, by decide, by decide⟩, _, _, rfl, rfl, _, rfl, b, _, _, 2, rfl, rfl, upd_same, rfl, ?_⟩
            refine ⟨_, _, rfl, upd_upd, i + 1, ns[i] - 10 ^ (18 : Int).toNat, sa, by rfl, by omega, by omega, hs0, hs1⟩
          · refine ⟨_, rfl, b, _, _, _, rfl, rfl, SqL.of upd_same, at3, _, _, rfl, rfl, .inl ⟨by omega, by omega⟩, _, rfl, _, _, rfl, rfl, (by show (0 : Int) < 2147483563; decide), _, _, rfl, rfl, .inl ⟨by omega, by omega⟩, _, _, rfl, rfl, _, _, rfl, rfl, _, _, rfl, rfl, (by show (0 : Int) < 2147483563; decide), _, rfl, b, _, _, 3, rfl, rfl, upd_same, rfl, ?_⟩
            refine ⟨_, _, rfl, upd_upd, i + 1, 0, _, by rfl, by omega, by omega, ?_, ?_⟩
            · exact Int.emod_nonneg _ (by decide)
            · exact Int.emod_lt_of_pos _ (by decide)
        · refine ⟨none, _, rfl, stay, i, 0, sa, rfl, hi, by omega, hs0, hs1⟩
      · refine iteF ?_
        exact ⟨none, _, rfl, stay, i, r, sa, rfl, hi, hr0, hs0, hs1⟩
    · rintro σ H' ⟨v2, o, rfl, rfl, i, r, sa, rfl, hi, hr0, hs0, hs1⟩
      refine ⟨_, rfl, b, _, _, _, rfl, rfl, SqL.of upd_same, at2, _, _, rfl, rfl, _, rfl, ?_⟩
      refine ite2 (fun c => ?_) (fun c => ?_)
      · have c1 : 0 < r := of_decide_eq_true c
        refine ⟨_, rfl, b, _, _, _, rfl, rfl, SqL.of upd_same, at2, _, rfl, _, _, rfl, rfl, hm, ?_⟩
        refine ⟨_, rfl, b, _, _, _, rfl, rfl, SqL.of upd_same, at2, _, rfl, _, _, rfl, rfl, wide_div hm (b := 100) (by omega) (by decide) (by decide), _, rfl, b, _, _, 2, rfl, rfl, upd_same, rfl, ?_⟩
        refine ⟨_, rfl, ?_⟩
        rw [upd_upd]
        refine q _ _ (Int.emod_nonneg _ (by omega)) (Int.emod_lt_of_pos _ hm) ⟨i, r / m, sa, rfl, hi, Int.ediv_nonneg hr0 (by omega), hs0, hs1⟩
      · refine ⟨_, rfl, b, _, _, _, rfl, rfl, SqL.of upd_same, at3, ?_⟩
        have hq : sa * sa < 2 ^ 64 := by
          have : sa * sa ≤ sa * 2147483563 := Int.mul_le_mul_of_nonneg_left (by omega) hs0
          omega
        have hq0 : 0 ≤ sa * sa := Int.mul_nonneg hs0 hs0
        refine ⟨_, rfl, _, rfl, _, _, rfl, rfl, .inl ⟨by omega, by omega⟩, _, _, rfl, rfl, .inl ⟨by omega, by omega⟩, _, rfl, _, _, rfl, rfl, .inl ⟨by omega, by omega⟩, _, _, rfl, rfl, _, _, rfl, rfl, _, _, rfl, rfl, (by show (0 : Int) < 2147483563; decide), _, rfl, b, _, _, 3, rfl, rfl, upd_same, rfl, ?_⟩
        rw [upd_upd]
        obtain ⟨x, hx⟩ : ∃ x : Int, (sa * sa * 3 + sa * 16807 + 1013904223) % 2147483563 = x := ⟨_, rfl⟩
        have x0 : 0 ≤ x := hx ▸ Int.emod_nonneg _ (by decide)
        have x1 : x < 2147483563 := hx ▸ Int.emod_lt_of_pos _ (by decide)
        refine ⟨_, rfl, b, _, _, _, rfl, rfl, SqL.of upd_same, at3, _, _, rfl, rfl, ⟨by decide, by decide⟩, _, rfl, b, _, _, _, rfl, rfl, SqL.of upd_same, at3, _, _, rfl, rfl, (by show (0 : Int) < 8191; decide), _, _, rfl, rfl, .inl ⟨by omega, by omega⟩, _, _, rfl, rfl, _, rfl, _, _, rfl, rfl, hm, ?_⟩
        exact q _ _ (Int.emod_nonneg _ (by omega)) (Int.emod_lt_of_pos _ hm) ⟨i, r, x, by rw [← hx]; rfl, hi, hr0, x0, x1⟩
end
end Lw
set_option Elab.async false
set_option linter.all false
set_option maxRecDepth 100000
namespace Lw
open PySem L2
abbrev sLike : Stmt := top 14
/-- the built-in names that the law's helpers ask for -/
structure Bi (mg : Str → Option Value) : Prop where
  len : mg "len" = none
  list : mg "list" = none
  tuple : mg "tuple" = none
  bool : mg "bool" = none
  int : mg "int" = none
  str : mg "str" = none
  isi : mg "isinstance" = none
  all : mg "all" = none
  zip : mg "zip" = none
  range : mg "range" = none
def spOf (K : PySem.W.Frag) : Sp := fun vs H Q _ => ∃ (b l t : Addr) (ns : List Int) (xs : List V), vs = [.ref b, .ref t] ∧ BagAt H b l ns ∧ SqL K H t xs ∧ t ≠ b ∧ xs ≠ [] ∧ xs.length ≤ 1000 ∧
  ∀ (i : Nat) (v : V) (o : HO), xs[i]? = some v → BagO l ns o → Q v (upd H b o)
theorem if_t {c : Bool} {A B : Prop} (hc : c = true) (h : A) : if c = true then A else B := by
  rw [if_pos hc]
  exact h
theorem if_f {c : Bool} {A B : Prop} (hc : c = false) (h : B) : if c = true then A else B := by
  rw [hc, if_neg Bool.false_ne_true]
  exact h
theorem cut_all {xs : List V} (h : xs.length ≤ 63) : cutV xs none (some 63) = xs := by
  unfold cutV
  rw [HT.sIx_none, show HT.sIx xs.length xs.length (some 63) = min 63 xs.length from HT.sIx_nat xs.length xs.length 63, Nat.min_eq_right h]
  simp
section
variable {P : Program} {w : World} {K : PySem.W.Frag} {mg : Str → Option Value} {base : Heap}
theorem SqL.upd_ne {H : Hp} {a b : Addr} {xs : List V} {o : HO} (h : SqL K H a xs) (e : a ≠ b) : SqL K (upd H b o) a xs := by
  unfold SqL Rd at h ⊢
  rw [L2.upd_ne e]
  exact h
/-! ### _law_bag -/
theorem scBag : FnScope ["_law_script", "_law_salt", "_law_cell"] ["_law_script"] (defScope sBag) := ⟨rfl, rfl, rfl, by decide +kernel, rfl, by decide +kernel, by decide +kernel⟩
set_option maxHeartbeats 4000000 in
theorem ok_bag {f : Addr} {fd : FuncData} {k : Nat} (F : Fun K "_law_bag" "_law_bag" sBag f fd) (T : Bi mg) : FnOk P w K mg base CX0 (k + 1) f fd ["_law_script"] (spBag K) := by
  refine F.ok scBag (fun vs H Q E h => ?_) (fun cdv A outer s H vs Q E hr h => ?_)
  · obtain ⟨b, ns, rfl, _⟩ := h
    rfl
  · obtain ⟨a, ns, rfl, hS, hl, q⟩ := h
    refine ⟨_, pss_cons (ps_set (i := 1) scBag.nd rfl (Or.inl rfl) pe_int)
      (pss_cons (ps_for PassesOwn.never rfl (pi_list (pe_slice sl_list (pv 0) po_none (po_some pe_int))) (pg_name (i := 2) scBag.nd rfl (Or.inl rfl))
        (pss_one (ps_set (i := 1) scBag.nd rfl (Or.inl rfl) (pe_op op_mod (pe_op op_add (pe_op op_add (pe_op op_mul (pv 1) pe_int) (pe_op op_mod (pv 2) pe_int)) pe_int) pe_int))))
      (pss_one (ps_ret (pe_lst (pa_cons (pe_callTy call_list_of (by rfl) T.list (by decide +kernel) (pa_cons (pe_slice sl_list (pv 0) po_none (po_some pe_int)) pa_nil)) (pa_cons pe_int (pa_cons pe_int (pa_cons (pv 1) pa_nil)))))))), ?_⟩
    have hl' : (ns.map V.int).length ≤ 63 := by rw [List.length_map]; exact hl
    refine ⟨_, rfl, _, rfl, a, _, rfl, hS, fun p hp => ?_⟩
    rw [cut_all hl']
    have s1 : Same H (upd H p (.lst (ns.map V.int))) := same_upd hp
    refine ⟨p, rfl, ⟨_, SqL.of upd_same⟩, for_list (K := K) (a := p) (xs := ns.map V.int) (fun i σ H' => ∃ (v : Option V) (sa : Int), σ = [some (.ref a), some (.int sa), v] ∧ H' = upd H p (.lst (ns.map V.int)) ∧ 0 ≤ sa ∧ sa < 2147483563)
      ⟨none, 3803, rfl, rfl, by decide, by decide⟩ (fun i σ H' _ ⟨_, _, _, e, _⟩ => by subst e; exact SqL.of upd_same) ?_ ?_⟩
    · rintro i y σ H' hi ⟨v, sa, rfl, rfl, h0, h1⟩
      obtain ⟨z, rfl⟩ : ∃ z, y = V.int z := by
        rw [List.getElem?_map] at hi
        cases e : ns[i]? with
        | none =>
          rw [e] at hi
          cases hi
        | some z =>
          rw [e] at hi
          exact ⟨z, (Option.some.inj hi).symm⟩
      refine ⟨_, rfl, _, _, rfl, rfl, .inl ⟨by omega, by omega⟩, _, rfl, _, _, rfl, rfl, (by show (0 : Int) < 2147483563; decide), _, _, rfl, rfl, _, _, rfl, rfl, _, _, rfl, rfl, (by show (0 : Int) < 2147483563; decide), ?_⟩
      exact ⟨_, _, rfl, rfl, Int.emod_nonneg _ (by decide), Int.emod_lt_of_pos _ (by decide)⟩
    · rintro σ H' ⟨v, sa, rfl, rfl, h0, h1⟩
      refine ⟨_, rfl, _, rfl, a, _, rfl, s1.seq hS, fun p2 hp2 => ?_⟩
      rw [cut_all hl']
      refine ⟨p2, _, rfl, .inl (SqL.of upd_same), fun l hl2 => ?_⟩
      have s2 := s1.trans (same_upd (o := .lst (ns.map V.int)) hp2)
      have s3 := s2.trans (same_upd (o := .lst (ns.map V.int)) hl2)
      refine ⟨_, rfl, (by show 4 ≤ sizeLine; decide), fun b hb => ?_⟩
      have nl : H l = none := s2.free hl2
      have nb : H b = none := s3.free hb
      have lb : l ≠ b := fun e => by
        rw [← e, upd_same] at hb
        cases hb
      refine q b l _ (s3.trans (same_upd hb)) nb nl ⟨⟨_, upd_same, 0, 0, sa, rfl, Nat.zero_le _, by decide, h0, h1⟩, ?_, hl⟩
      rw [upd_ne lb, upd_same]
/-! ### _law_of -/
theorem scOf : FnScope ["_law_bag_here", "_law_things"] ["_law_bag_here", "_law_things"] (defScope sOf) := ⟨rfl, rfl, rfl, by decide +kernel, rfl, by decide +kernel, by decide +kernel⟩
set_option maxHeartbeats 4000000 in
theorem ok_of {f : Addr} {fd : FuncData} {k : Nat} (F : Fun K "_law_of" "_law_of" sOf f fd) (T : Bi mg) (cP : C8.Cal P w K mg base 1 "_law_pull" spPull []) : FnOk P w K mg base CX0 (k + 2) f fd ["_law_bag_here", "_law_things"] (spOf K) := by
  refine F.ok scOf (fun vs H Q E h => ?_) (fun cdv A outer s H vs Q E hr h => ?_)
  · obtain ⟨b, l, t, ns, xs, rfl, _⟩ := h
    rfl
  · obtain ⟨b, l, t, ns, xs, rfl, B, hS, ne, nn, hl, q⟩ := h
    refine ⟨_, pss_one (ps_ret (pe_ix ix_list (pv 1) (C8.pe_c cP hr (Nat.le_add_left 1 k) (by rfl) (pa_cons (pv 0) (pa_cons (pe_callB call_len_seq (by rfl) T.len PySem.boot_len (pa_cons (pv 1) pa_nil)) pa_nil))) (fun _ _ => rfl))), ?_⟩
    have l0 : 0 < xs.length := List.length_pos_iff.mpr nn
    refine ⟨_, rfl, _, rfl, _, rfl, t, xs, rfl, .inl hS, b, l, ns, _, rfl, B, by omega, by omega, fun v o v0 v1 BO => ?_⟩
    have hv : v.toNat < xs.length := by omega
    have hvv : ((v.toNat : Nat) : Int) = v := Int.toNat_of_nonneg v0
    have g : atI xs v = some xs[v.toNat] := by
      have := atI_nat (xs := xs) (j := v.toNat) (v := xs[v.toNat]) (List.getElem?_eq_getElem hv)
      rw [hvv] at this
      exact this
    exact ⟨t, xs, v, _, rfl, rfl, SqL.upd_ne hS ne, g, q v.toNat _ o (List.getElem?_eq_getElem hv) BO⟩
/-! ### _law_like of like things is True -/
def atomV : V → Bool
  | .non => true
  | .bl _ => true
  | .int _ => true
  | .str _ => true
  | _ => false
def Lk (H : Hp) : Nat → V → V → Prop
  | 0, _, _ => False
  | n + 1, x, y => (x = y ∧ atomV x = true) ∨
    (∃ (a b : Addr) (xs ys : List V), x = .ref a ∧ y = .ref b ∧ H a = some (.lst xs) ∧ H b = some (.lst ys) ∧ xs.length = ys.length ∧ xs.length ≤ 1000 ∧ ∀ (i : Nat) u v, xs[i]? = some u → ys[i]? = some v → Lk H n u v) ∨
    (∃ (a b : Addr) (xs ys : List V), x = .ref a ∧ y = .ref b ∧ H a = some (.tup xs) ∧ H b = some (.tup ys) ∧ xs.length = ys.length ∧ xs.length ≤ 1000 ∧ ∀ (i : Nat) u v, xs[i]? = some u → ys[i]? = some v → Lk H n u v)
theorem Lk.same {H H' : Hp} (s : Same H H') : ∀ (n : Nat) (x y : V), Lk H n x y → Lk H' n x y
  | 0, _, _, h => h
  | n + 1, x, y, h => by
    rcases h with h | ⟨a, b, xs, ys, e1, e2, e3, e4, e5, e6, h⟩ | ⟨a, b, xs, ys, e1, e2, e3, e4, e5, e6, h⟩
    · exact .inl h
    · exact .inr (.inl ⟨a, b, xs, ys, e1, e2, s _ _ e3, s _ _ e4, e5, e6, fun i u v h1 h2 => Lk.same s n u v (h i u v h1 h2)⟩)
    · exact .inr (.inr ⟨a, b, xs, ys, e1, e2, s _ _ e3, s _ _ e4, e5, e6, fun i u v h1 h2 => Lk.same s n u v (h i u v h1 h2)⟩)
def spLike (n : Nat) : Sp := fun vs H Q _ => ∃ x y, vs = [x, y] ∧ Lk H n x y ∧ ∀ H', Same H H' → Q (.bl true) H'
theorem scLike : FnScope ["_law_found", "_law_due", "_law_one", "_law_other"] ["_law_found", "_law_due"] (defScope sLike) := ⟨rfl, rfl, rfl, by decide +kernel, rfl, by decide +kernel, by decide +kernel⟩
theorem walk_zipT {a b : Addr} {xs ys : List V} {n : Nat} (hn : n = min xs.length ys.length) : Walk (RZ.ItzT K a b) n (fun H => SqT K H a xs ∧ SqT K H b ys) (YPair (fun i => xs[i]?) (fun i => ys[i]?)) := by
  subst hn
  refine ⟨fun i H hi q => ?_, fun H q => ?_, fun i H x H' hi q y => ?_⟩
  · have h1 : i < xs.length := by omega
    have h2 : i < ys.length := by omega
    exact ⟨xs, ys, xs[i], ys[i], q.1, q.2, by simp [h1], by simp [h2]⟩
  · exact ⟨xs, ys, q.1, q.2, by omega⟩
  · obtain ⟨T, u, v, e1, e2, e3, g1, g2⟩ := y
    exact ⟨T, u, v, e1, e2, e3, g1 xs q.1, g2 ys q.2⟩
/-- what the law asks of an atom: its type's name -/
def tyV : V → String
  | .non => "NoneType"
  | .bl _ => "bool"
  | .int _ => "int"
  | .str _ => "str"
  | _ => "none"
theorem tyV_of {H : Hp} {x : V} (h : atomV x = true) : TyX K H x (.type (tyV x)) := by
  cases x with
  | non => exact .base .non
  | bl b => exact .base (.bl b)
  | int i => exact .base (.int i)
  | str z => exact .base (.str z)
  | _ => cases h
theorem tyV_cases {x : V} (h : atomV x = true) : tyV x = "NoneType" ∨ tyV x = "bool" ∨ tyV x = "int" ∨ tyV x = "str" := by
  cases x with
  | non => exact .inl rfl
  | bl b => exact .inr (.inl rfl)
  | int i => exact .inr (.inr (.inl rfl))
  | str z => exact .inr (.inr (.inr rfl))
  | _ => cases h
/-- isinstance of an atom: some answer, by the type alone -/
def isB (x : V) (T : String) : Bool := (kitB (tyV x) T).getD false
theorem isB_of {x : V} {T : String} (h : atomV x = true) (hT : T = "list" ∨ T = "tuple" ∨ T = "bool" ∨ T = "int" ∨ T = "str") : PySem.W.kitOne K (.type (tyV x)) (.type T) = some (isB x T) := by
  refine kit_ty ?_
  unfold isB
  rcases tyV_cases h with e | e | e | e <;> rw [e] <;> rcases hT with e | e | e | e | e <;> rw [e] <;> decide +kernel
theorem isB_no {x : V} (h : atomV x = true) : PySem.W.kitAny K (.type (tyV x)) [.type "list", .type "tuple"] = some false := by
  rcases tyV_cases h with e | e | e | e <;> rw [e]
  all_goals
    refine kitAny_cons (b := false) (kit_ty (by decide +kernel)) (fun _ => ?_) (fun z => by cases z)
    refine kitAny_cons (b := false) (kit_ty (by decide +kernel)) (fun _ => rfl) (fun z => by cases z)
theorem all_true (n : Nat) : (List.replicate n true).all id = true := by
  rw [List.all_replicate]
  simp
theorem like0 {f : Addr} {fd : FuncData} {k : Nat} (F : Fun K "_law_like" "_law_like" sLike f fd) : FnOk P w K mg base CX0 (k + 1) f fd ["_law_found", "_law_due"] (spLike 0) := by
  refine F.ok scLike (fun vs H Q E h => ?_) (fun cdv A outer s H vs Q E hr h => ?_)
  · obtain ⟨x, y, rfl, _⟩ := h
    rfl
  · obtain ⟨x, y, rfl, L, q⟩ := h
    exact L.elim
set_option maxHeartbeats 8000000 in
theorem ok_like {f : Addr} {fd : FuncData} {n k : Nat} (F : Fun K "_law_like" "_law_like" sLike f fd) (T : Bi mg) (c : 0 < n → C8.Cal P w K mg base (k + 1) "_law_like" (spLike (n - 1)) []) : FnOk P w K mg base CX0 (k + 2) f fd ["_law_found", "_law_due"] (spLike n) := by
  refine F.ok scLike (fun vs H Q E h => ?_) (fun cdv A outer s H vs Q E hr h => ?_)
  · obtain ⟨x, y, rfl, _⟩ := h
    rfl
  · obtain ⟨x, y, rfl, L, q⟩ := h
    cases n with
    | zero => exact L.elim
    | succ n =>
      have cc := c (Nat.succ_pos n)
      refine ⟨_, pss_cons (ps_if (pt_val (pe_callB call_isiT (by rfl) T.isi (by decide +kernel) (pa_cons (pv 1) (pa_cons (pe_tup (pa_cons (pe_bltn (v := .ty "list") (by rfl) T.list (by decide +kernel) rfl) (pa_cons (pe_bltn (v := .ty "tuple") (by rfl) T.tuple (by decide +kernel) rfl) pa_nil))) pa_nil))))
          (pss_cons (ps_if (PW.pt (pw_or (pt_cmpR op_ne (pe_callB call_isi (by rfl) T.isi (by decide +kernel) (pa_cons (pv 0) (pa_cons (pe_bltn (v := .ty "list") (by rfl) T.list (by decide +kernel) rfl) pa_nil))) (pe_callB call_isi (by rfl) T.isi (by decide +kernel) (pa_cons (pv 1) (pa_cons (pe_bltn (v := .ty "list") (by rfl) T.list (by decide +kernel) rfl) pa_nil))) (nomark _))
              (pw_or1 (pt_cmpR op_ne (pe_callB call_isi (by rfl) T.isi (by decide +kernel) (pa_cons (pv 0) (pa_cons (pe_bltn (v := .ty "tuple") (by rfl) T.tuple (by decide +kernel) rfl) pa_nil))) (pe_callB call_isi (by rfl) T.isi (by decide +kernel) (pa_cons (pv 1) (pa_cons (pe_bltn (v := .ty "tuple") (by rfl) T.tuple (by decide +kernel) rfl) pa_nil))) (nomark _))))) (pss_one (ps_ret pe_bl)) pss_nil)
          (pss_one (ps_ret (pe_and (pe_cmpR op_eq (pe_callB call_len_seq (by rfl) T.len PySem.boot_len (pa_cons (pv 0) pa_nil)) (pe_callB call_len_seq (by rfl) T.len PySem.boot_len (pa_cons (pv 1) pa_nil)) (nomark _))
            (pe_one (pe_callB (cr_all rfl) (by rfl) T.all (by decide +kernel) (pa_cons
              (pe_lc (own := [("_law_one", 2), ("_law_other", 3)]) (g := gTup K 2 (gCons (gName 2) (gCons (gName 3) gNil))) (tt := tYes) (te := tCall (spLike n) [] E0 (tCons (tVar 2) (tCons (tVar 3) tNil))) rfl scLike.nd (RZ.pi_zipA (by rfl) T.zip (pa_cons (pv 0) (pa_cons (pv 1) pa_nil)))
                (blkOk_by (N := ["_law_found", "_law_due", "_law_one", "_law_other"]) (sc := defScope sLike) (by decide +kernel))
                (fun _ _ _ _ _ => by exact pg_tup rfl (pgs_cons (pg_name (i := 2) scLike.nd rfl (Or.inl rfl)) (pgs_cons (pg_name (i := 3) scLike.nd rfl (Or.inl rfl)) pgs_nil)))
                (fun _ _ _ _ _ => pts_nil)
                (fun _ _ _ _ _ => by exact C8.pe_c cc hr (Nat.le_refl _) (by rfl) (pa_cons (pv 2) (pa_cons (pv 3) pa_nil)))) pa_nil))))))) pss_nil)
        (pss_cons (ps_if (PW.pt (pw_or (pt_cmpR op_isN (pv 0) pe_non (nomark _)) (pw_or1 (pt_cmpR op_isN (pv 1) pe_non (nomark _))))) (pss_one (ps_ret (pe_and (pe_cmpR op_isN (pv 0) pe_non (nomark _)) (pe_one (pe_cmpR op_isN (pv 1) pe_non (nomark _)))))) pss_nil)
        (pss_cons (ps_if (PW.pt (pw_or (pt_cmpR op_ne (pe_callB call_isi (by rfl) T.isi (by decide +kernel) (pa_cons (pv 0) (pa_cons (pe_bltn (v := .ty "bool") (by rfl) T.bool (by decide +kernel) rfl) pa_nil))) (pe_callB call_isi (by rfl) T.isi (by decide +kernel) (pa_cons (pv 1) (pa_cons (pe_bltn (v := .ty "bool") (by rfl) T.bool (by decide +kernel) rfl) pa_nil))) (nomark _))
              (pw_or1 (pt_cmpR op_ne (pe_callB call_isi (by rfl) T.isi (by decide +kernel) (pa_cons (pv 0) (pa_cons (pe_bltn (v := .ty "int") (by rfl) T.int (by decide +kernel) rfl) pa_nil))) (pe_callB call_isi (by rfl) T.isi (by decide +kernel) (pa_cons (pv 1) (pa_cons (pe_bltn (v := .ty "int") (by rfl) T.int (by decide +kernel) rfl) pa_nil))) (nomark _))))) (pss_one (ps_ret pe_bl)) pss_nil)
        (pss_one (ps_ret (pe_and (pe_cmpR op_eq (pe_callB call_isi (by rfl) T.isi (by decide +kernel) (pa_cons (pv 0) (pa_cons (pe_bltn (v := .ty "str") (by rfl) T.str (by decide +kernel) rfl) pa_nil))) (pe_callB call_isi (by rfl) T.isi (by decide +kernel) (pa_cons (pv 1) (pa_cons (pe_bltn (v := .ty "str") (by rfl) T.str (by decide +kernel) rfl) pa_nil))) (nomark _)) (pe_one (pe_cmpR op_eq (pv 0) (pv 1) (nomark _)))))))), ?_⟩
      rcases L with ⟨rfl, ha⟩ | ⟨a, b, xs, ys, rfl, rfl, ea, eb, hl, h1000, hp⟩ | ⟨a, b, xs, ys, rfl, rfl, ea, eb, hl, h1000, hp⟩
      · refine ⟨_, rfl, (by show 2 ≤ sizeLine; decide), fun t ht => ?_⟩
        have s1 := same_upd (o := .tup [.ty "list", .ty "tuple"]) ht
        refine ⟨x, t, _, _, _, _, rfl, upd_same, .cons (.ty _) (.cons (.ty _) .nil), tyV_of ha, isB_no ha, false, rfl, ?_⟩
        refine iteF ?_
        refine ⟨_, rfl, rfl, _, rfl, ?_⟩
        by_cases hx : x = .non
        · subst hx
          refine if_t (decide_eq_true rfl) (iteT ?_)
          exact ⟨_, rfl, rfl, _, rfl, if_t (decide_eq_true rfl) ⟨_, rfl, rfl, q _ s1⟩⟩
        · refine if_f (decide_eq_false hx) ⟨_, rfl, rfl, _, rfl, if_f (decide_eq_false hx) ?_⟩
          refine ⟨_, rfl, x, _, _, _, _, rfl, .ty _, tyV_of ha, isB_of ha (by simp), _, rfl, x, _, _, _, _, rfl, .ty _, tyV_of ha, isB_of ha (by simp), rfl, _, rfl, ?_⟩
          refine if_f (by simp) ?_
          refine ⟨_, rfl, x, _, _, _, _, rfl, .ty _, tyV_of ha, isB_of ha (by simp), _, rfl, x, _, _, _, _, rfl, .ty _, tyV_of ha, isB_of ha (by simp), rfl, _, rfl, ?_⟩
          refine if_f (by simp) ?_
          refine ⟨_, rfl, x, _, _, _, _, rfl, .ty _, tyV_of ha, isB_of ha (by simp), _, rfl, x, _, _, _, _, rfl, .ty _, tyV_of ha, isB_of ha (by simp), rfl, _, rfl, ?_⟩
          refine if_t (by simp) ?_
          refine ⟨_, rfl, _, rfl, ?_, ?_⟩
          · cases x <;> first | rfl | (cases ha)
          · rw [decide_eq_true rfl]
            exact q _ s1
      · refine ⟨_, rfl, (by show 2 ≤ sizeLine; decide), fun t ht => ?_⟩
        have s1 := same_upd (o := .tup [.ty "list", .ty "tuple"]) ht
        have ea1 := s1 _ _ ea
        have eb1 := s1 _ _ eb
        refine ⟨.ref b, t, _, _, _, _, rfl, upd_same, .cons (.ty _) (.cons (.ty _) .nil), .base (.lst eb1), kitAny_cons (b := true) (kit_ty (by decide +kernel)) (fun z => by cases z) (fun _ => rfl), true, rfl, ?_⟩
        refine iteT ?_
        refine ⟨_, rfl, _, _, _, _, true, rfl, .ty _, .base (.lst ea1), kit_ty (by decide +kernel), _, rfl, _, _, _, _, true, rfl, .ty _, .base (.lst eb1), kit_ty (by decide +kernel), rfl, _, rfl, ?_⟩
        refine if_f (by simp) ?_
        refine ⟨_, rfl, _, _, _, _, false, rfl, .ty _, .base (.lst ea1), kit_ty (by decide +kernel), _, rfl, _, _, _, _, false, rfl, .ty _, .base (.lst eb1), kit_ty (by decide +kernel), rfl, _, rfl, ?_⟩
        refine if_f (by simp) ?_
        refine ⟨_, rfl, a, xs, rfl, .inl (SqL.of ea1), _, rfl, b, ys, rfl, .inl (SqL.of eb1), rfl, _, rfl, ?_⟩
        refine if_t (by rw [hl]; exact decide_eq_true rfl) ?_
        refine ⟨_, rfl, _, rfl, a, b, xs, ys, rfl, .inl ⟨SqL.of ea1, SqL.of eb1, fun D hD => ?_⟩⟩
        have s2 := s1.trans (same_upd (o := .lst []) hD)
        refine lc_it (walk_zip (K := K) (a := a) (b := b) (xs := xs) (ys := ys) (n := xs.length) (by omega)) (fun i H' => Same H H' ∧ H' D = some (.lst ((List.replicate i true).map V.bl))) ⟨s2, upd_same⟩ (fun i H' _ p => ⟨SqL.of (p.1 _ _ ea), SqL.of (p.1 _ _ eb)⟩) ?_ ?_
        · rintro i v H1 H' hi ⟨sm, eD⟩ ⟨T, x, y, rfl, hT, rfl, gx, gy⟩
          have s3 := sm.trans (same_upd (o := .tup [x, y]) hT)
          refine ⟨T, _, rfl, SqT.of upd_same, rfl, _, _, rfl, _, _, rfl, rfl, rfl, ?_⟩
          refine ⟨_, rfl, _, rfl, x, y, rfl, Lk.same s3 n _ _ (hp i x y gx gy), fun H4 s4 => ?_⟩
          have eD4 : H4 D = some (.lst ((List.replicate i true).map V.bl)) := s4 _ _ (by rw [upd_ne (ne_of_none eD hT)]; exact eD)
          have nD : H D = none := s1.free hD
          refine ⟨_, eD4, ?_, ?_, ?_⟩
          · rw [List.length_map, List.length_replicate]
            exact small1000 (by omega)
          · intro c o ec
            rw [upd_ne (ne_of_none ec nD)]
            exact s4 _ _ (s3 _ _ ec)
          · rw [upd_same, List.replicate_succ', List.map_append]
            rfl
        · rintro H' ⟨sm, eD⟩
          refine ⟨D, List.replicate xs.length true, rfl, SqL.of eD, ?_⟩
          rw [all_true]
          exact q H' sm
      · refine ⟨_, rfl, (by show 2 ≤ sizeLine; decide), fun t ht => ?_⟩
        have s1 := same_upd (o := .tup [.ty "list", .ty "tuple"]) ht
        have ea1 := s1 _ _ ea
        have eb1 := s1 _ _ eb
        refine ⟨.ref b, t, _, _, _, _, rfl, upd_same, .cons (.ty _) (.cons (.ty _) .nil), .base (.tup eb1), kitAny_cons (b := false) (kit_ty (by decide +kernel)) (fun _ => kitAny_cons (b := true) (kit_ty (by decide +kernel)) (fun z => by cases z) (fun _ => rfl)) (fun z => by cases z), true, rfl, ?_⟩
        refine iteT ?_
        refine ⟨_, rfl, _, _, _, _, false, rfl, .ty _, .base (.tup ea1), kit_ty (by decide +kernel), _, rfl, _, _, _, _, false, rfl, .ty _, .base (.tup eb1), kit_ty (by decide +kernel), rfl, _, rfl, ?_⟩
        refine if_f (by simp) ?_
        refine ⟨_, rfl, _, _, _, _, true, rfl, .ty _, .base (.tup ea1), kit_ty (by decide +kernel), _, rfl, _, _, _, _, true, rfl, .ty _, .base (.tup eb1), kit_ty (by decide +kernel), rfl, _, rfl, ?_⟩
        refine if_f (by simp) ?_
        refine ⟨_, rfl, a, xs, rfl, .inr (SqT.of ea1), _, rfl, b, ys, rfl, .inr (SqT.of eb1), rfl, _, rfl, ?_⟩
        refine if_t (by rw [hl]; exact decide_eq_true rfl) ?_
        refine ⟨_, rfl, _, rfl, a, b, xs, ys, rfl, .inr ⟨SqT.of ea1, SqT.of eb1, fun D hD => ?_⟩⟩
        have s2 := s1.trans (same_upd (o := .lst []) hD)
        refine lc_it (walk_zipT (K := K) (a := a) (b := b) (xs := xs) (ys := ys) (n := xs.length) (by omega)) (fun i H' => Same H H' ∧ H' D = some (.lst ((List.replicate i true).map V.bl))) ⟨s2, upd_same⟩ (fun i H' _ p => ⟨SqT.of (p.1 _ _ ea), SqT.of (p.1 _ _ eb)⟩) ?_ ?_
        · rintro i v H1 H' hi ⟨sm, eD⟩ ⟨T, x, y, rfl, hT, rfl, gx, gy⟩
          have s3 := sm.trans (same_upd (o := .tup [x, y]) hT)
          refine ⟨T, _, rfl, SqT.of upd_same, rfl, _, _, rfl, _, _, rfl, rfl, rfl, ?_⟩
          refine ⟨_, rfl, _, rfl, x, y, rfl, Lk.same s3 n _ _ (hp i x y gx gy), fun H4 s4 => ?_⟩
          have eD4 : H4 D = some (.lst ((List.replicate i true).map V.bl)) := s4 _ _ (by rw [upd_ne (ne_of_none eD hT)]; exact eD)
          have nD : H D = none := s1.free hD
          refine ⟨_, eD4, ?_, ?_, ?_⟩
          · rw [List.length_map, List.length_replicate]
            exact small1000 (by omega)
          · intro c o ec
            rw [upd_ne (ne_of_none ec nD)]
            exact s4 _ _ (s3 _ _ ec)
          · rw [upd_same, List.replicate_succ', List.map_append]
            rfl
        · rintro H' ⟨sm, eD⟩
          refine ⟨D, List.replicate xs.length true, rfl, SqL.of eD, ?_⟩
          rw [all_true]
          exact q H' sm
end
end Lw
set_option Elab.async false
set_option linter.all false
set_option maxRecDepth 100000
namespace Lw
open PySem L2
abbrev sPlan : Stmt := top 17
/-! ### edges: their tuples' places, and their two ends -/
abbrev Es := List (Addr × Int × Int)
def Ed (H : Hp) (ts : Es) : Prop := ∀ e ∈ ts, H e.1 = some (.tup [.int e.2.1, .int e.2.2])
def vsOf (ts : Es) : List V := ts.map fun e => .ref e.1
def psOf (ts : Es) : List (Int × Int) := ts.map (·.2)
/-- all that stood, but at b, stands -/
def KeepB (b : Addr) (H H' : Hp) : Prop := ∀ c o, c ≠ b → H c = some o → H' c = some o
theorem KeepB.rfl' {b : Addr} {H : Hp} : KeepB b H H := fun _ _ _ e => e
theorem KeepB.trans {b : Addr} {H H1 H2 : Hp} (x : KeepB b H H1) (y : KeepB b H1 H2) : KeepB b H H2 := fun c o n e => y c o n (x c o n e)
theorem KeepB.of_same {b : Addr} {H H' : Hp} (s : Same H H') : KeepB b H H' := fun c o _ e => s c o e
theorem KeepB.updb {b : Addr} {H : Hp} {o : HO} : KeepB b H (upd H b o) := fun c o n e => by
  rw [upd_ne n]
  exact e
theorem KeepB.new {b p : Addr} {H H' : Hp} {o : HO} (x : KeepB b H H') (n : H' p = none) : KeepB b H (upd H' p o) := x.trans (.of_same (same_upd n))
/-- a store at what was not there at first -/
theorem KeepB.at {b p : Addr} {H H' : Hp} {o : HO} (x : KeepB b H H') (n : H p = none) : KeepB b H (upd H' p o) := fun c o' nb e => by
  rw [upd_ne (ne_of_none e n)]
  exact x c o' nb e
theorem KeepB.free {b p : Addr} {H H' : Hp} {ob : HO} (x : KeepB b H H') (hb : H' b = some ob) (n : H' p = none) : H p = none := by
  cases e : H p with
  | none => rfl
  | some o =>
    have np : p ≠ b := fun z => by
      rw [z, hb] at n
      cases n
    rw [x p o np e] at n
    cases n
theorem BagAt.at_b {H : Hp} {b l : Addr} {ns : List Int} (B : BagAt H b l ns) : ∃ xs, H b = some (.lst xs) := by
  obtain ⟨o, ho, i, r, s, rfl, _⟩ := B.ob
  exact ⟨_, ho⟩
theorem BagAt.ne_tup {H : Hp} {b l c : Addr} {ns : List Int} {xs : List V} (B : BagAt H b l ns) (h : H c = some (.tup xs)) : c ≠ b := fun e => by
  obtain ⟨ys, hb⟩ := B.at_b
  rw [e, hb] at h
  cases h
theorem BagAt.ne_ins {H : Hp} {b l c C dx : Addr} {ns : List Int} {fs : List (Str × V)} (B : BagAt H b l ns) (h : H c = some (.ins C dx fs)) : c ≠ b := fun e => by
  obtain ⟨ys, hb⟩ := B.at_b
  rw [e, hb] at h
  cases h
theorem BagAt.ne_new {H : Hp} {b l c : Addr} {ns : List Int} (B : BagAt H b l ns) (h : H c = none) : c ≠ b := fun e => by
  obtain ⟨ys, hb⟩ := B.at_b
  rw [e, hb] at h
  cases h
theorem vsOf_cons_ne {l : Addr} {ts : Es} {i : Nat} {r s : Int} : vsOf ts ≠ [.ref l, .int (i : Int), .int r, .int s] := fun e => by
  have h : (vsOf ts)[1]? = some (V.int (i : Int)) := by rw [e]; rfl
  unfold vsOf at h
  rw [List.getElem?_map] at h
  cases g : ts[1]? with
  | none => rw [g] at h; cases h
  | some x => rw [g] at h; cases h
theorem BagAt.ne_vs {H : Hp} {b l c : Addr} {ns : List Int} {ts : Es} (B : BagAt H b l ns) (h : H c = some (.lst (vsOf ts))) : c ≠ b := fun e => by
  obtain ⟨o, ho, i, r, s, rfl, _⟩ := B.ob
  rw [e, ho] at h
  injection h with h
  injection h with h
  exact vsOf_cons_ne h.symm
theorem Ed.keep {H H' : Hp} {b l : Addr} {ns : List Int} {ts : Es} (h : Ed H ts) (B : BagAt H b l ns) (k : KeepB b H H') : Ed H' ts := fun e he => k _ _ (B.ne_tup (h e he)) (h e he)
theorem Ed.same {H H' : Hp} {ts : Es} (h : Ed H ts) (k : Same H H') : Ed H' ts := fun e he => k _ _ (h e he)
theorem Ed.app {H : Hp} {ts us : Es} (h : Ed H ts) (h2 : Ed H us) : Ed H (ts ++ us) := fun e he => (List.mem_append.mp he).elim (h e) (h2 e)
theorem Ed.nil {H : Hp} : Ed H [] := fun e he => nomatch he
theorem Ed.one {H : Hp} {t : Addr} {x y : Int} (h : H t = some (.tup [.int x, .int y])) : Ed H [(t, x, y)] := fun e he => by
  have z := List.mem_singleton.mp he
  subst z
  exact h
/-- the bag where all but the bag stands -/
theorem BagAt.new {H : Hp} {b l p : Addr} {ns : List Int} {o : HO} (B : BagAt H b l ns) (n : H p = none) : BagAt (L2.upd H p o) b l ns := B.same (same_upd n)
theorem BagAt.off {H : Hp} {b l p : Addr} {ns : List Int} {o : HO} (B : BagAt H b l ns) (nb : p ≠ b) (nl : p ≠ l) : BagAt (L2.upd H p o) b l ns := by
  obtain ⟨ob, hob, hB⟩ := B.ob
  exact ⟨⟨ob, by rw [upd_ne nb.symm]; exact hob, hB⟩, by rw [upd_ne nl.symm]; exact B.sc, B.ln⟩
structure Valid (n : Int) (ts : Es) : Prop where
  rg : ∀ e ∈ ts, 0 ≤ e.2.1 ∧ e.2.1 < n ∧ 0 ≤ e.2.2 ∧ e.2.2 < n
  sr : ∀ k : Int, 0 ≤ k → k < n → ∃ e ∈ ts, e.2.1 = k
structure PlanAt (H : Hp) (p q : Addr) (n : Int) (ts : Es) : Prop where
  tp : H p = some (.tup [.int n, .ref q])
  ls : H q = some (.lst (vsOf ts))
  ed : Ed H ts
  va : Valid n ts
  n1 : 1 ≤ n
def spPlan : Sp := fun vs H Q _ => ∃ (b l : Addr) (ns : List Int) (most many : Int), vs = [.ref b, .int most, .int many] ∧ BagAt H b l ns ∧ 1 ≤ most ∧ most ≤ many ∧ many ≤ 100 ∧
  ∀ (p q : Addr) (n : Int) (ts : Es) (H' : Hp), KeepB b H H' → BagAt H' b l ns → H p = none → H q = none → PlanAt H' p q n ts → n ≤ most → (ts.length : Int) ≤ many → Q (.ref p) H'
theorem cut_lo {xs : List V} {k : Nat} (h : k ≤ xs.length) : cutV xs none (some (k : Int)) = xs.take k := by
  unfold cutV
  rw [HT.sIx_none, HT.sIx_nat, Nat.min_eq_left h]
  simp
theorem cut_hi {xs : List V} {k : Nat} (h : k ≤ xs.length) : cutV xs (some (k : Int)) none = xs.drop k := by
  unfold cutV
  rw [HT.sIx_none, HT.sIx_nat, Nat.min_eq_left h]
  rw [List.take_of_length_le]
  rw [List.length_drop]
  exact Nat.le_refl _
section
variable {P : Program} {w : World} {K : PySem.W.Frag} {mg : Str → Option Value} {base : Heap}
theorem scPlan : FnScope ["_law_bag_here", "_law_most", "_law_many", "_law_size", "_law_pairs", "_law_k", "_law_at", "_law_state"] ["_law_bag_here", "_law_most", "_law_many"] (defScope sPlan) := ⟨rfl, rfl, rfl, by decide +kernel, rfl, by decide +kernel, by decide +kernel⟩
set_option maxHeartbeats 8000000 in
theorem ok_plan {f : Addr} {fd : FuncData} {k : Nat} (F : Fun K "_law_plan" "_law_plan" sPlan f fd) (T : Bi mg) (cP : C8.Cal P w K mg base 1 "_law_pull" spPull []) : FnOk P w K mg base CX0 (k + 2) f fd ["_law_bag_here", "_law_most", "_law_many"] spPlan := by
  refine F.ok scPlan (fun vs H Q E h => ?_) (fun cdv A outer s H vs Q E hr h => ?_)
  · obtain ⟨b, l, ns, m1, m2, rfl, _⟩ := h
    rfl
  · obtain ⟨b, l, ns, most, many, rfl, B, hm1, hm2, hm3, q⟩ := h
    have hk : 1 ≤ k + 1 := Nat.le_add_left 1 k
    refine ⟨_, pss_cons (ps_set (i := 3) scPlan.nd rfl (Or.inr rfl) (pe_op op_add pe_int (C8.pe_c cP hr hk (by rfl) (pa_cons (pv 0) (pa_cons (pv 1) pa_nil)))))
      (pss_cons (ps_setLc (i := 4) (own := [("_law_state", 7)]) (g := gName 7) (tt := tYes) (te := tTup (tCons (tVar 7) (tCons (tCall spPull [] E0 (tCons (tVar 0) (tCons (tVar 3) tNil))) tNil))) rfl scPlan.nd rfl rfl (sw_true rfl rfl rfl (by decide +kernel))
          (pi_range1 (by rfl) T.range (pa_cons (pv 3) pa_nil))
          (blkOk_by (N := ["_law_bag_here", "_law_most", "_law_many", "_law_size", "_law_pairs", "_law_k", "_law_at", "_law_state"]) (sc := defScope sPlan) (by decide +kernel))
          (fun _ _ _ _ _ => by exact pg_name (i := 7) scPlan.nd rfl (Or.inl rfl))
          (fun _ _ _ _ _ => pts_nil)
          (fun _ _ _ _ _ => by exact pe_tup (pa_cons (pv 7) (pa_cons (C8.pe_c cP hr hk (by rfl) (pa_cons (pv 0) (pa_cons (pv 3) pa_nil))) pa_nil))))
      (pss_cons (ps_for PassesOwn.never rfl (pi_range1 (by rfl) T.range (pa_cons (C8.pe_c cP hr hk (by rfl) (pa_cons (pv 0) (pa_cons (pe_op op_add (pe_op op_sub (pv 2) (pv 3)) pe_int) pa_nil))) pa_nil)) (pg_name (i := 5) scPlan.nd rfl (Or.inl rfl))
        (pss_cons (ps_set (i := 6) scPlan.nd rfl (Or.inl rfl) (C8.pe_c cP hr hk (by rfl) (pa_cons (pv 0) (pa_cons (pe_op op_add (pe_callB call_len_seq (by rfl) T.len PySem.boot_len (pa_cons (pv 4) pa_nil)) pe_int) pa_nil))))
        (pss_one (ps_set (i := 4) scPlan.nd rfl (Or.inl rfl) (pe_op op_cat (pe_op op_cat (pe_slice sl_list (pv 4) po_none (po_some (pv 6)))
          (pe_lst (pa_cons (pe_tup (pa_cons (C8.pe_c cP hr hk (by rfl) (pa_cons (pv 0) (pa_cons (pv 3) pa_nil))) (pa_cons (C8.pe_c cP hr hk (by rfl) (pa_cons (pv 0) (pa_cons (pv 3) pa_nil))) pa_nil))) pa_nil)))
          (pe_slice sl_list (pv 4) (po_some (pv 6)) po_none))))))
      (pss_one (ps_ret (pe_tup (pa_cons (pv 3) (pa_cons (pv 4) pa_nil))))))), ?_⟩
    -- size
    refine ⟨_, rfl, _, rfl, b, l, ns, most, rfl, B, by omega, by omega, fun v o v0 v1 BO => ?_⟩
    refine ⟨_, _, rfl, rfl, ?_⟩
    have B1 := B.upd BO
    have k1 : KeepB b H (upd H b o) := .updb
    have hv0 : 0 ≤ 1 + v := by omega
    -- pairs: the comprehension
    refine ⟨_, rfl, 1 + v, rfl, by omega, by omega, fun D hD => ?_⟩
    have hbD : D ≠ b := B1.ne_new hD
    have nD : H D = none := by
      rw [upd_ne hbD] at hD
      exact hD
    refine lc_it (walk_range (lo := 0) (n := (1 + v).toNat)) (fun i H' => ∃ ts : Es, ts.length = i ∧ KeepB b H H' ∧ BagAt H' b l ns ∧ H' D = some (.lst (vsOf ts)) ∧ Ed H' ts ∧ ∀ (j : Nat) (e : Addr × Int × Int), ts[j]? = some e → e.2.1 = (j : Int) ∧ 0 ≤ e.2.2 ∧ e.2.2 < 1 + v)
      ⟨[], rfl, k1.new hD, B1.new hD, upd_same, .nil, fun j e he => by simp at he⟩ (fun _ _ _ _ => True.intro) ?_ ?_
    · rintro i x H1 H' hi ⟨ts, hts, kp, Bi, eD, ed, hj⟩ ⟨rfl, rfl⟩
      refine ⟨rfl, ?_⟩
      refine ⟨_, rfl, _, rfl, _, rfl, b, l, ns, _, rfl, Bi, by omega, by omega, fun v2 o2 v20 v21 BO2 => ?_⟩
      refine ⟨(by show 2 ≤ sizeLine; decide), fun t ht => ?_⟩
      have B2 := Bi.upd BO2
      have B3 := B2.new (o := .tup [.int (0 + (i : Int)), .int v2]) ht
      have ed3 : Ed (upd (upd H' b o2) t (.tup [.int (0 + (i : Int)), .int v2])) ts := (ed.keep Bi .updb).same (same_upd ht)
      have eD2 : upd H' b o2 D = some (.lst (vsOf ts)) := by
        rw [upd_ne hbD]
        exact eD
      have tD : D ≠ t := ne_of_none eD2 ht
      refine ⟨vsOf ts, by rw [upd_ne tD]; exact eD2, ?_, ts ++ [(t, (i : Int), v2)], by simp [hts], ?_, ?_, ?_, ?_, ?_⟩
      · unfold vsOf
        rw [List.length_map]
        exact small1000 (by omega)
      · exact ((kp.trans .updb).new ht).at nD
      · exact B3.off hbD (ne_of_none B.sc nD).symm
      · rw [upd_same]
        unfold vsOf
        rw [List.map_append]
        rfl
      · refine Ed.app (fun e he => ?_) (.one ?_)
        · have h1 := ed3 e he
          rw [upd_ne (fun z => ?_)]
          · exact h1
          · rw [z, upd_ne tD, eD2] at h1
            cases h1
        · rw [upd_ne (Ne.symm tD), upd_same]
          show some (HO.tup [V.int (0 + (i : Int)), V.int v2]) = _
          rw [Int.zero_add]
      · intro j e he
        by_cases hlt : j < ts.length
        · rw [List.getElem?_append_left hlt] at he
          exact hj j e he
        · rw [List.getElem?_append_right (by omega)] at he
          cases hz : j - ts.length with
          | zero =>
            rw [hz] at he
            have z : (t, (i : Int), v2) = e := Option.some.inj he
            subst z
            exact ⟨by show (i : Int) = (j : Int); omega, v20, v21⟩
          | succ m =>
            rw [hz] at he
            cases he
    · rintro H1 ⟨ts, hts, kp, Bi, eD, ed, hj⟩
      have va : Valid (1 + v) ts := by
        refine ⟨fun e he => ?_, fun k k0 k1 => ?_⟩
        · obtain ⟨j, hjl, hje⟩ := List.getElem_of_mem he
          have h1 := hj j e (by rw [List.getElem?_eq_getElem hjl, hje])
          exact ⟨by omega, by omega, h1.2.1, h1.2.2⟩
        · have hk' : k.toNat < ts.length := by omega
          have h1 := hj k.toNat ts[k.toNat] (List.getElem?_eq_getElem hk')
          exact ⟨ts[k.toNat], List.getElem_mem hk', by rw [h1.1]; omega⟩
      -- the loop
      have ln1 : (ts.length : Int) = 1 + v := by omega
      refine ⟨_, rfl, _, rfl, _, rfl, _, _, rfl, rfl, _, _, rfl, rfl, b, l, ns, _, rfl, Bi, by omega, by omega, fun r o2 r0 r1 BO2 => ?_⟩
      refine ⟨r, rfl, by omega, by omega, ?_⟩
      refine for_it (walk_range (lo := 0) (n := r.toNat)) (fun i σ H' => ∃ (us : Es) (qa : Addr) (v5 v6 v7 : Option V), σ = [some (.ref b), some (.int most), some (.int many), some (.int (1 + v)), some (.ref qa), v5, v6, v7] ∧
          (us.length : Int) = 1 + v + (i : Int) ∧ KeepB b H H' ∧ BagAt H' b l ns ∧ H qa = none ∧ H' qa = some (.lst (vsOf us)) ∧ Ed H' us ∧ Valid (1 + v) us)
        ⟨ts, D, none, none, none, rfl, by omega, kp.trans .updb, Bi.upd BO2, nD, by rw [upd_ne hbD]; exact eD, ed.keep Bi .updb, va⟩ (fun _ _ _ _ _ => True.intro) ?_ ?_
      · rintro i x σ H2 H' hi ⟨us, qa, v5, v6, v7, rfl, hus, kp2, B2, nq, eq, ed2, va2⟩ ⟨rfl, rfl⟩
        have qb : qa ≠ b := B2.ne_vs eq
        -- at = pull(bag, len(pairs) + 1)
        refine ⟨_, rfl, _, rfl, qa, _, rfl, .inl (SqL.of eq), _, _, rfl, rfl, b, l, ns, _, rfl, B2, ?_, ?_, fun at_ o3 a0 a1 BO3 => ?_⟩
        · show (0 : Int) < ((vsOf us).length : Int) + 1
          omega
        · show ((vsOf us).length : Int) + 1 < 2 ^ 100
          unfold vsOf
          rw [List.length_map]
          omega
        have a1' : at_ < (us.length : Int) + 1 := by
          have z : at_ < ((vsOf us).length : Int) + 1 := a1
          unfold vsOf at z
          rw [List.length_map] at z
          exact z
        have hat : ((at_.toNat : Nat) : Int) = at_ := Int.toNat_of_nonneg a0
        have hatl : at_.toNat ≤ (vsOf us).length := by
          unfold vsOf
          rw [List.length_map]
          omega
        have B3 := B2.upd BO3
        have eq3 : upd H' b o3 qa = some (.lst (vsOf us)) := by
          rw [upd_ne qb]
          exact eq
        have ed3 : Ed (upd H' b o3) us := ed2.keep B2 .updb
        have kp3 : KeepB b H (upd H' b o3) := kp2.trans .updb
        generalize upd H' b o3 = H3 at *
        -- pairs[:at]
        refine ⟨_, rfl, _, rfl, at_, rfl, qa, _, rfl, SqL.of eq3, fun p1 hp1 => ?_⟩
        rw [← hat, cut_lo hatl]
        have B4 := B3.new (o := .lst ((vsOf us).take at_.toNat)) hp1
        have kp4 := kp3.new (o := .lst ((vsOf us).take at_.toNat)) hp1
        have s4 := same_upd (o := .lst ((vsOf us).take at_.toNat)) hp1
        have eq4 := s4 _ _ eq3
        have ed4 := ed3.same s4
        have e14 : upd H3 p1 (.lst ((vsOf us).take at_.toNat)) p1 = some (.lst ((vsOf us).take at_.toNat)) := upd_same
        generalize upd H3 p1 (.lst ((vsOf us).take at_.toNat)) = H4 at *
        -- the new edge
        refine ⟨_, rfl, _, rfl, b, l, ns, _, rfl, B4, by omega, by omega, fun x1 o5 x10 x11 BO5 => ?_⟩
        have B5 := B4.upd BO5
        have p1b : p1 ≠ b := B3.ne_new hp1
        refine ⟨_, rfl, _, rfl, b, l, ns, _, rfl, B5, by omega, by omega, fun x2 o6 x20 x21 BO6 => ?_⟩
        have B6 := B5.upd BO6
        have kp6 : KeepB b H4 (upd (upd H4 b o5) b o6) := KeepB.updb.trans .updb
        have ed6 := ed4.keep B4 kp6
        have eq6 := kp6 _ _ qb eq4
        have e16 := kp6 _ _ p1b e14
        have kp6' := kp4.trans kp6
        generalize upd (upd H4 b o5) b o6 = H6 at *
        refine ⟨(by show 2 ≤ sizeLine; decide), fun t ht => ?_⟩
        have s7 := same_upd (o := .tup [.int x1, .int x2]) ht
        have B7 := B6.same s7
        have e7 : upd H6 t (.tup [.int x1, .int x2]) t = some (.tup [.int x1, .int x2]) := upd_same
        have kp7 := kp6'.trans (.of_same s7)
        have eq7 := s7 _ _ eq6
        have e17 := s7 _ _ e16
        have ed7 := ed6.same s7
        generalize upd H6 t (.tup [.int x1, .int x2]) = H7 at *
        refine ⟨(by show 1 ≤ sizeLine; decide), fun p2 hp2 => ?_⟩
        have s8 := same_upd (o := .lst [.ref t]) hp2
        have e8 : upd H7 p2 (.lst [.ref t]) p2 = some (.lst [.ref t]) := upd_same
        have B8 := B7.same s8
        have kp8 := kp7.trans (.of_same s8)
        have eq8 := s8 _ _ eq7
        have e18 := s8 _ _ e17
        have et8 := s8 _ _ e7
        have ed8 := ed7.same s8
        generalize upd H7 p2 (.lst [.ref t]) = H8 at *
        have hsz : ∀ m : Nat, m ≤ 1000 → m ≤ sizeLine := fun m h => Nat.le_of_lt (small1000 h)
        have lus : us.length ≤ 200 := by omega
        have lvs : (vsOf us).length = us.length := by
          unfold vsOf
          rw [List.length_map]
        refine ⟨p1, p2, _, _, rfl, rfl, e18, e8, hsz _ (by simp; omega), fun p3 hp3 => ?_⟩
        have s9 := same_upd (o := .lst ((vsOf us).take at_.toNat ++ [.ref t])) hp3
        have e9 : upd H8 p3 (.lst ((vsOf us).take at_.toNat ++ [.ref t])) p3 = some (.lst ((vsOf us).take at_.toNat ++ [.ref t])) := upd_same
        have B9 := B8.same s9
        have kp9 := kp8.trans (.of_same s9)
        have eq9 := s9 _ _ eq8
        have et9 := s9 _ _ et8
        have ed9 := ed8.same s9
        generalize upd H8 p3 (.lst ((vsOf us).take at_.toNat ++ [.ref t])) = H9 at *
        refine ⟨_, rfl, _, rfl, _, rfl, qa, _, rfl, SqL.of eq9, fun p4 hp4 => ?_⟩
        rw [cut_hi hatl]
        have s10 := same_upd (o := .lst ((vsOf us).drop at_.toNat)) hp4
        have e10 : upd H9 p4 (.lst ((vsOf us).drop at_.toNat)) p4 = some (.lst ((vsOf us).drop at_.toNat)) := upd_same
        have B10 := B9.same s10
        have kp10 := kp9.trans (.of_same s10)
        have e910 := s10 _ _ e9
        have et10 := s10 _ _ et9
        have ed10 := ed9.same s10
        generalize upd H9 p4 (.lst ((vsOf us).drop at_.toNat)) = H10 at *
        refine ⟨p3, p4, _, _, rfl, rfl, e910, e10, hsz _ (by simp; omega), fun p5 hp5 => ?_⟩
        have s11 := same_upd (o := .lst ((vsOf us).take at_.toNat ++ [.ref t] ++ (vsOf us).drop at_.toNat)) hp5
        obtain ⟨yb, hyb⟩ := B10.at_b
        refine ⟨us.take at_.toNat ++ [(t, x1, x2)] ++ us.drop at_.toNat, p5, _, _, _, rfl, ?_, kp10.trans (.of_same s11), B10.same s11, kp10.free hyb hp5, ?_, ?_, ?_⟩
        · simp
          omega
        · rw [upd_same]
          unfold vsOf
          rw [List.map_append, List.map_append, List.map_take, List.map_drop]
          rfl
        · have f1 : Ed H10 (us.take at_.toNat) := fun e he => ed10 e (List.mem_of_mem_take he)
          have f2 : Ed H10 (us.drop at_.toNat) := fun e he => ed10 e (List.mem_of_mem_drop he)
          exact Ed.same (Ed.app (Ed.app f1 (.one et10)) f2) s11
        · refine ⟨fun e he => ?_, fun kk k0 k1 => ?_⟩
          · rw [List.mem_append, List.mem_append] at he
            rcases he with (he | he) | he
            · exact va2.rg e (List.mem_of_mem_take he)
            · have z := List.mem_singleton.mp he
              subst z
              exact ⟨x10, x11, x20, x21⟩
            · exact va2.rg e (List.mem_of_mem_drop he)
          · obtain ⟨e, he, hk2⟩ := va2.sr kk k0 k1
            refine ⟨e, ?_, hk2⟩
            rw [← List.take_append_drop at_.toNat us, List.mem_append] at he
            rw [List.mem_append, List.mem_append]
            exact he.elim (fun z => .inl (.inl z)) .inr
      · rintro σ H2 ⟨us, qa, v5, v6, v7, rfl, hus, kp2, B2, nq, eq, ed2, va2⟩
        refine ⟨_, rfl, _, rfl, (by show 2 ≤ sizeLine; decide), fun p hp => ?_⟩
        obtain ⟨yb, hyb⟩ := B2.at_b
        have s1 := same_upd (o := .tup [.int (1 + v), .ref qa]) hp
        exact q p qa (1 + v) us _ (kp2.trans (.of_same s1)) (B2.same s1) (kp2.free hyb hp) nq ⟨upd_same, s1 _ _ eq, ed2.same s1, va2, by omega⟩ (by omega) (by omega)
end
end Lw
set_option Elab.async false
set_option linter.all false
set_option maxRecDepth 100000
/-! enumerate(t) of a tuple; enumerate and for over what is a list or a tuple -/
namespace Lw
open PySem PySem.Spec PyProof.Rows L2
/-- the two objects that enumerate(t) makes: the tuple's iterator, the counter over it -/
abbrev itO (l : Addr) : Obj := { cls := .type "tuple_iterator", data := .fields #[.ref l, .int 0 0] }
abbrev enO (i : Addr) : Obj := { cls := .type "enumerate", data := .fields #[.none, .bool false, .ref i, rawInt 0, .none, .none] }
theorem enumT_new (l : Addr) (o : Obj) (items : Array Value) (n : Nat) (hc : o.cls = .type "tuple") (hd : o.data = .seq items n) :
    Meets (Builtin.«enumerate.__new__» ⟨[.type "enumerate", .ref l], []⟩) (fun _ R s => s.heap.get? l = some o ∧
      R (.ok (.ret (.ref (s.heap.push (itO l)).objs.size))) { s with heap := (s.heap.push (itO l)).push (enO s.heap.objs.size) }) := by
  obtain ⟨oc, dct, dt, sl⟩ := o
  dsimp only at hc hd
  subst hc hd
  refine .of_wp fun P w A R s hyp => ?_
  rcases s with ⟨h, gn, dr, tk, os⟩
  rcases hyp with ⟨hl, fin⟩
  have sub := sub_enumerate
  have isT : Heap.IsTuple (Shared.heap ⟨h, gn, dr, tk, os⟩) l items := ⟨_, hl, rfl, n, rfl⟩
  wp_walk using AutoSeq1.wpAny_loadPart' hl
  refine wpAny_stack_any fun st => wpAny_pure ?_
  split
  next c _ _ _ _ _ => cases (c == Value.type "enumerate") <;> (wp_walk using AutoSeq1.wpAny_loadPart' hl, wpAny_pyIter_tuple isT) <;> exact ⟨_, rfl, fin⟩
  next => (wp_walk using AutoSeq1.wpAny_loadPart' hl, wpAny_pyIter_tuple isT) <;> exact ⟨_, rfl, fin⟩
theorem enumT_call {P : Program} {w : World} {A : Around} {E : Value → Shared → Prop} {s : Shared} {l : Addr} {items : Array Value} {Q : Value → Shared → Prop} (hL : s.heap.IsTuple l items)
    (h : IsEnum ((s.heap.push (itO l)).push (enO s.heap.objs.size)) (s.heap.objs.size + 1) s.heap.objs.size 0 .none → Heap.IsTupleIter ((s.heap.push (itO l)).push (enO s.heap.objs.size)) s.heap.objs.size l 0 →
      Q (.ref (s.heap.objs.size + 1)) { s with heap := (s.heap.push (itO l)).push (enO s.heap.objs.size) }) :
    wpAny (model P w) A (call (.type "enumerate") [.ref l]) Q E s := by
  obtain ⟨o, get, cls, n, dat⟩ := hL
  have size1 : (s.heap.push (itO l)).objs.size = s.heap.objs.size + 1 := Heap.size_push ..
  have en : IsEnum ((s.heap.push (itO l)).push (enO s.heap.objs.size)) (s.heap.objs.size + 1) s.heap.objs.size 0 .none := by
    rw [← size1]
    exact Heap.get?_push_size _ rfl
  have it : Heap.IsTupleIter ((s.heap.push (itO l)).push (enO s.heap.objs.size)) s.heap.objs.size l 0 := ⟨itO l, Heap.get?_push_of_some _ (Heap.get?_push_size _ rfl), rfl, rfl⟩
  refine callType_new F.called_enumerate (by decide) (F.typeCall_enumerate_1 _) (F.newCall_enumerate_1 _) (F.args_object_init_2 · _) F.entry_enumerate_new (enumT_new l o items n cls dat) ⟨get, ?_⟩
  rw [size1]
  exact ⟨⟨_, en, rfl⟩, h en it⟩
/-- the turns of enumerate(t): a new pair of the number and the item -/
def IteT (K : PySem.W.Frag) (a : Addr) : It where
  go i H := ∃ (xs : List V) (x : V), SqT K H a xs ∧ xs[i]? = some x
  yld i H v H' := ∃ T x, v = .ref T ∧ H T = none ∧ H' = upd H T (.tup [.int (i : Nat), x]) ∧ ∀ xs, SqT K H a xs → xs[i]? = some x
  stop i H := ∃ xs : List V, SqT K H a xs ∧ xs.length ≤ i
/-- the state of the walk at turn i -/
structure EnAt (a e it : Addr) (i : Nat) (h : Heap) : Prop where
  en : ∃ old, IsEnum h e it ((i : Nat) : Int) old
  itr : h.IsTupleIter it a i
  ne : e ≠ it ∧ e ≠ a
theorem two {e it b : Addr} (h : b ∈ [e, it]) : b = e ∨ b = it := by
  simp only [List.mem_cons, List.not_mem_nil, or_false] at h
  exact h
theorem EnAt.keep {a e it : Addr} {i : Nat} {h h' : Heap} (z : EnAt a e it i h) (k : ∀ b ∈ [e, it], ∀ o, h.get? b = some o → h'.get? b = some o) : EnAt a e it i h' := by
  obtain ⟨old, he⟩ := z.en
  exact ⟨⟨old, k e (.head _) _ he⟩, z.itr.at (k it (.tail _ (.head _))), z.ne⟩
theorem enumT_item {X : Cx} {elts : List Expr} {kk : Nat} {tpos : Pos} {a e it : Addr} (ai : a ≠ it) (calm : X.calm = true) {i : Nat} {pins : List (Addr × Obj)} {s : Shared} {σ : L2.St} {H : Hp} {E : Value → Shared → Prop} (I : Inv X pins σ H s)
    (off : ∀ b ∈ [e, it], FpOk X pins H b) (z : EnAt a e it i s.heap) {xs : List V} {x : V} (hq : SqT X.K H a xs) (hx : xs[i]? = some x) :
    wpAny (model X.prog X.w) X.A (pyNext (.ref e)) (fun r s1 => ∃ u, r = some u ∧ wpAny (model X.prog X.w) X.A (letOwnedTupleGo (.Tuple elts kk tpos) (.ref e) u)
      (fun _ s2 => ∃ y H', Inv X pins σ H' s2 ∧ RelV y u ∧ (IteT X.K a).yld i H y H' ∧ EnAt a e it (i + 1) s2.heap ∧ ∀ b ∈ [e, it], H' b = none) E s1) E s := by
  obtain ⟨old, he⟩ := z.en
  obtain ⟨its, vals, tup, _⟩ := I.tuple hq
  obtain ⟨u, hu, ru⟩ := vals.get hx
  have eb := Heap.lt_size he
  have ib : it < s.heap.objs.size := z.itr.elim fun _ q => Heap.lt_size q.1
  have hi : i < its.toArray.size := by
    rw [List.size_toArray]
    exact (List.getElem?_eq_some_iff.mp hu).1
  have out : e ∉ [it, a] := fun m => (two m).elim z.ne.1 z.ne.2
  refine wpAny_pyNext_enum_itemD (Draws.tuple (A := X.A.in1) (show X.A.in1.handled = none from I.ok.hd calm) it a ai its.toArray) he ⟨z.itr, tup⟩ hi z.ne.1 out ?_
  intro y h' tk hy eo st new _ stay
  obtain rfl : y = u := by
    rw [List.getElem?_toArray, hu] at hy
    exact (Option.some.inj hy).symm
  refine ⟨_, rfl, wpAny_letOwnedTupleGo_enum (s := { s with heap := h', toks := tk + 1 }) eo fun h2 en2 sb => ?_⟩
  have new2 : h2.get? s.heap.objs.size = some { cls := .type "tuple", data := .seq #[.int i tk, y] } := by
    rw [sb.2 _ (Nat.ne_of_gt eb)]
    exact new
  have okN : ObjOk X.prog X.w (upd H s.heap.objs.size (.tup [.int (i : Nat), x])) h2 s.heap.objs.size (.tup [.int (i : Nat), x]) := ⟨by show 2 ≤ sizeLine; decide, _, .cons ⟨_, rfl⟩ (.cons ru .nil), _, new2, rfl, _, rfl⟩
  have rest : ∀ b o, b ∉ [e, it] → s.heap.get? b = some o → h2.get? b = some o := by
    intro b o nb hb
    have be : b ≠ e := fun q => nb (q ▸ .head _)
    have bi : b ≠ it := fun q => nb (q ▸ .tail _ (.head _))
    rw [sb.2 b be]
    exact stay b o be bi hb
  refine ⟨.ref s.heap.objs.size, _, I.turnedNew (ch := [e, it]) rest off (Nat.le_refl _) okN, rfl, ⟨_, x, rfl, I.hok.fresh (Nat.le_refl _), rfl, fun ys hys => I.tuple_inj hys hq ▸ hx⟩, ⟨⟨y, ?_⟩, ?_, z.ne⟩, ?_⟩
  · rw [Int.natCast_succ]
    exact en2
  · exact st.1.at fun o q => by rw [sb.2 it z.ne.1.symm]; exact q
  · intro b hb
    have lt : b < s.heap.objs.size := (two hb).elim (fun q => q ▸ eb) (fun q => q ▸ ib)
    rw [upd_ne (Nat.ne_of_lt lt)]
    exact (off b hb).1
/-- the tuple's iterator at its end -/
theorem over {P : Program} {w : World} {A : Around} (calm : A.handled = none) {it a : Addr} {items : Array Value} {i : Nat} (hi : items.size ≤ i) : Draws P w A it [it, a] i (fun _ _ => True) (fun j h => j = i ∧ h.IsTupleIter it a i ∧ h.IsTuple a items) where
  live _ _ z := z.2.1.elim fun o q => ⟨o, q.1⟩
  frame _ _ _ z k := ⟨z.1, z.2.1.at (k it (.head _)), z.2.2.at (k a (.tail _ (.head _)))⟩
  item j _ _ _ lt z _ := absurd z.1 (Nat.ne_of_lt lt)
  done _ _ _ z h := wpAny_nextOf_tuple_end calm z.2.1 z.2.2 (Array.getElem?_eq_none hi) h
theorem enumT_turn {P : Program} {w : World} {K : PySem.W.Frag} {elts : List Expr} {kk : Nat} {tpos : Pos} {a e it : Addr} (ai : a ≠ it) : Turn P w K (.Tuple elts kk tpos) (IteT K a) [e, it] e (EnAt a e it) where
  mem := .head _
  obj i h z b hb := by
    obtain ⟨old, he⟩ := z.en
    obtain ⟨o, ho, _, hd⟩ := z.itr
    rcases two hb with rfl | rfl
    · exact ⟨_, he, nofun⟩
    · exact ⟨o, ho, by rw [hd]; nofun⟩
  keep i h h' z k := z.keep k
  item := by
    rintro X rfl rfl rfl calm i pins s σ H E I off z ⟨xs, x, hq, hx⟩
    exact enumT_item ai calm I off z hq hx
  done := by
    rintro X rfl rfl rfl calm i pins s σ H E I off z ⟨xs, hq, hx⟩
    obtain ⟨old, he⟩ := z.en
    obtain ⟨its, vals, tup, _⟩ := I.tuple hq
    obtain ⟨f0, f1, _, f3, f4, f5⟩ := off it (.tail _ (.head _))
    have len := vals.length
    refine wpAny_pyNext_enum_endD (over (A := X.A.in1) (show X.A.in1.handled = none from I.ok.hd calm) (items := its.toArray) (by rw [List.size_toArray]; omega)) he ⟨rfl, z.itr, tup⟩ fun h' up => ⟨rfl, I.turned (t' := s.toks) (fun b o hb q => up b o hb q) f0 f1 f3 f4 f5⟩
  self A i s Q E z h := z.en.elim fun _ he => wpAny_pyIter_enum he h
theorem walk_enumT {K : PySem.W.Frag} {a : Addr} {xs : List V} : Walk (IteT K a) xs.length (fun H => SqT K H a xs) (YPair (fun i => some (.int (i : Nat))) (fun i => xs[i]?)) := by
  constructor
  · intro i H hi hq
    exact ⟨xs, xs[i], hq, List.getElem?_eq_getElem hi⟩
  · intro H hq
    exact ⟨xs, hq, Nat.le_refl _⟩
  · rintro i H _ _ hi hq ⟨T, x, rfl, nT, rfl, at_⟩
    exact ⟨T, _, x, rfl, nT, rfl, rfl, at_ xs hq⟩
/-! ### a list or a tuple -/
abbrev SqF := PySem.W.Frag → Hp → Addr → List V → Prop
/-- enumerate(e) -/
def iEnumA (K : PySem.W.Frag) (ta : TA) : TI := fun σ H R => ta σ H fun vs H1 => ∃ (a : Addr) (xs : List V) (S : SqF), vs = [.ref a] ∧ (S = SqL ∨ S = SqT) ∧ S K H1 a xs ∧
  ∀ J, Walk J xs.length (fun H => S K H a xs) (YPair (fun i => some (.int (i : Nat))) (fun i => xs[i]?)) → R J H1
/-- e itself -/
def iSeqA (K : PySem.W.Frag) (tl : TE) : TI := fun σ H R => tl σ H fun x H1 => ∃ (a : Addr) (xs : List V) (S : SqF), x = .ref a ∧ (S = SqL ∨ S = SqT) ∧ S K H1 a xs ∧ ∀ J, Walk J xs.length (fun H => S K H a xs) (YAt xs) → R J H1
section
variable {X : Cx}
/-- new addresses are nobody's -/
theorem new_ok {pins : List (Addr × Obj)} {s : Shared} {σ : L2.St} {H : Hp} {b : Addr} (I : Inv X pins σ H s) (h : s.heap.objs.size ≤ b) : FpOk X pins H b := I.fpOk h (I.hok.fresh h)
theorem pi_enumA {e : Expr} {ta : TA} {p pos tpos : Pos} {elts : List Expr} {kk : Nat} (hg : Gl X "enumerate") (hm : X.mg "enumerate" = none) (ha : PA X [e] ta) (hs : starEach [e] X.env = [(false, eval e X.env)] := by rfl) :
    PI X (.Tuple elts kk tpos) (.Call (.Name "enumerate" p) [e] [] pos) (iEnumA X.K ta) := by
  constructor
  intro pins s σ H R I h
  refine Call_ (ld_blt I hg hm boot_enumerate (PyProof.Rows.callWith_type1 (wpAny_mono (ha.run pos pins s σ H _ I h) ?_ fun _ _ z => z) hs rfl))
  rintro us s1 ⟨_, H1, I1, vals, a, xs, S, rfl, hS, hq, go⟩
  obtain ⟨_, rfl, rfl⟩ : ∃ u, us = [u] ∧ u = Value.ref a := by
    match us, vals with
    | [u], .cons r .nil => exact ⟨u, rfl, r⟩
  have free : ∀ b ∈ [s1.heap.objs.size + 1, s1.heap.objs.size], FpOk X pins H1 b := fun b hb => new_ok I1 ((two hb).elim (fun q => q ▸ Nat.le_succ _) (fun q => q ▸ Nat.le_refl _))
  rcases hS with rfl | rfl
  · obtain ⟨its, rv, lst, _⟩ := I1.list hq
    refine call_enumerate_list lst.isList fun g en it _ up => wpAny_pyIter_enum en ?_
    exact ⟨_, [s1.heap.objs.size + 1, s1.heap.objs.size], _, Ite X.K a, H1, rfl, I1.kept (t' := s1.toks) up, turn_enum a _ _, ⟨⟨.none, en⟩, it, Nat.succ_ne_self _⟩, free, go _ walk_enum⟩
  · obtain ⟨its, rv, tup, _⟩ := I1.tuple hq
    have old : a < s1.heap.objs.size := tup.elim fun _ q => Heap.lt_size q.1
    refine enumT_call (items := its.toArray) tup fun en it => wpAny_pyIter_enum en ?_
    refine ⟨_, [s1.heap.objs.size + 1, s1.heap.objs.size], _, IteT X.K a, H1, rfl, I1.kept (t' := s1.toks) fun b o q => Heap.get?_push_of_some _ (Heap.get?_push_of_some _ q), enumT_turn (Nat.ne_of_lt old), ⟨⟨.none, en⟩, it, Nat.succ_ne_self _, ?_⟩, free, go _ walk_enumT⟩
    exact fun q => absurd old (Nat.not_lt.mpr (q ▸ Nat.le_succ _))
theorem pi_seqA {tg l : Expr} {tl : TE} (hl : PE X l tl) : PI X tg l (iSeqA X.K tl) := by
  constructor
  intro pins s σ H R I h
  refine wpAny_mono (hl.run pins s σ H _ I h) ?_ fun _ _ z => z
  rintro v s1 ⟨_, H1, I1, rv, a, xs, S, rfl, hS, hq, go⟩
  cases rv
  have free : ∀ b ∈ [s1.heap.objs.size], FpOk X pins H1 b := fun b hb => new_ok I1 (List.mem_singleton.mp hb ▸ Nat.le_refl _)
  have keep : ∀ o : Obj, Inv X pins σ H1 { s1 with heap := s1.heap.push o } := fun o => I1.kept (t' := s1.toks) fun b o' q => Heap.get?_push_of_some _ q
  rcases hS with rfl | rfl
  · obtain ⟨its, r, lst, _⟩ := I1.list hq
    exact wpAny_pyIter_list lst.isList ⟨_, _, _, Itl X.K a, H1, rfl, keep _, turn_list a _, ⟨_, Heap.get?_push_size _ rfl, rfl, rfl⟩, free, go _ walk_list⟩
  · obtain ⟨its, r, tup, _⟩ := I1.tuple hq
    exact wpAny_pyIter_tuple (items := its.toArray) tup ⟨_, _, _, Itt X.K a, H1, rfl, keep _, turn_tuple a _, ⟨_, Heap.get?_push_size _ rfl, rfl, rfl⟩, free, go _ walk_tup⟩
end
end Lw
set_option Elab.async false
set_option linter.all false
set_option maxRecDepth 100000
namespace Lw
open PySem L2
abbrev sCheck : Stmt := top 8
abbrev sInit : Stmt := inClass (top 9) 2
/-- what the walk asks of the class Graph -/
structure GTxt (K : PySem.W.Frag) (mg : Str → Option Value) (C : Addr) (mc : Value) : Prop where
  cl : Cls K C
  nS : NoAttr K C "state_count"
  nE : NoAttr K C "edge_pairs"
  mgG : mg "Graph" = some (.ref C)
  rd : ClX.CRead K C mc
  v8 : ∃ u, ClX.CVal K C mc "MAX_STATES" (.int 8) u
  v24 : ∃ u, ClX.CVal K C mc "MAX_EDGES" (.int 24) u
  enum : mg "enumerate" = none
def flds (n : Int) (t : Addr) : List (Str × V) := [("state_count", V.int n), ("edge_pairs", V.ref t)]
def spCheck (K : PySem.W.Frag) : Sp := fun vs H Q _ => ∃ (n : Int) (e : Addr) (ts : Es) (S : SqF), vs = [.int n, .ref e] ∧ (S = SqL ∨ S = SqT) ∧ S K H e (vsOf ts) ∧ Ed H ts ∧ Valid n ts ∧ 1 ≤ n ∧ n ≤ 100 ∧ ts.length ≤ 100 ∧ ∀ H', Same H H' → Q .non H'
structure GraphAt (C : Addr) (H : Hp) (g : Addr) (n : Int) (us : Es) : Prop where
  ob : ∃ dx t, H g = some (.ins C dx (flds n t)) ∧ H t = some (.tup (vsOf us))
  ed : Ed H us
def spInit (C : Addr) : Sp := fun vs H Q _ => ∃ (g dx e : Addr) (n : Int) (ts : Es) (mk : List V → HO), vs = [.ref g, .int n, .ref e] ∧ H g = some (.ins C dx []) ∧ (mk = HO.lst ∨ mk = HO.tup) ∧ H e = some (mk (vsOf ts)) ∧ Ed H ts ∧ Valid n ts ∧ 1 ≤ n ∧ n ≤ 8 ∧ ts.length ≤ 24 ∧
  ∀ (us : Es) (H' : Hp), psOf us = psOf ts → KeepB g H H' → GraphAt C H' g n us → Q .non H'
theorem sq_same {K : PySem.W.Frag} {S : SqF} {H H' : Hp} {e : Addr} {xs : List V} (hS : S = SqL ∨ S = SqT) (h : S K H e xs) (s : Same H H') : S K H' e xs := by
  rcases hS with rfl | rfl
  · exact s.seq h
  · rcases h with (h | ⟨o, h⟩) | h
    · exact .inl (.inl (s _ _ h))
    · exact .inl (.inr ⟨o, s _ _ h⟩)
    · exact .inr h
theorem vsOf_len (ts : Es) : (vsOf ts).length = ts.length := by
  unfold vsOf
  rw [List.length_map]
theorem vsOf_at {ts : Es} {i : Nat} {v : V} (h : (vsOf ts)[i]? = some v) : ∃ e, ts[i]? = some e ∧ v = .ref e.1 := by
  unfold vsOf at h
  rw [List.getElem?_map] at h
  cases g : ts[i]? with
  | none =>
    rw [g] at h
    cases h
  | some e =>
    rw [g] at h
    exact ⟨e, rfl, (Option.some.inj h).symm⟩
section
variable {P : Program} {w : World} {K : PySem.W.Frag} {mg : Str → Option Value} {base : Heap}
theorem scCheck : FnScope ["states", "edges", "place", "source", "target", "sources", "state"] ["states", "edges"] (defScope sCheck) := ⟨rfl, rfl, rfl, by decide +kernel, rfl, by decide +kernel, by decide +kernel⟩
theorem inV_yes {k : Int} {ks : List Int} (h : k ∈ ks) : inV (.int k) (ks.map V.int) = true := by
  unfold inV
  rw [List.any_map, List.any_eq_true]
  exact ⟨k, h, by simp [eqV]⟩
theorem flat_ints (ks : List Int) : (ks.map V.int).all flatV = true := by
  rw [List.all_map, List.all_eq_true]
  intro x _
  rfl
set_option maxHeartbeats 8000000 in
theorem ok_check {f C : Addr} {mc : Value} {fd : FuncData} {k : Nat} (F : Fun K "check_edges" "check_edges" sCheck f fd) (T : Bi mg) (G : GTxt K mg C mc) : FnOk P w K mg base CX0 (k + 1) f fd ["states", "edges"] (spCheck K) := by
  refine F.ok scCheck (fun vs H Q E h => ?_) (fun cdv A outer s H vs Q E hr h => ?_)
  · obtain ⟨n, e, ts, S, rfl, _⟩ := h
    rfl
  · obtain ⟨n, e, ts, S, rfl, hS, hq, ed, va, n1, n8, hl, q⟩ := h
    refine ⟨_, pss_cons (ps_for PassesOwn.never rfl (pi_enumA (by rfl) G.enum (pa_cons (pv 1) pa_nil))
          (pg_tup rfl (pgs_cons (pg_name (i := 2) scCheck.nd rfl (.inl rfl)) (pgs_cons (pg_tup rfl (pgs_cons (pg_name (i := 3) scCheck.nd rfl (.inl rfl)) (pgs_cons (pg_name (i := 4) scCheck.nd rfl (.inl rfl)) pgs_nil))) pgs_nil)))
        (pss_one (ps_if (pt_not (PW.pt (pw_and (pt_chain op_le op_lt pe_int (pv 3) (pv 0)) (pw_and1 (pt_chain op_le op_lt pe_int (pv 4) (pv 0)))))) (pss_one ps_never) pss_nil)))
      (pss_cons (ps_setLc (i := 5) (own := [("source", 3), ("target", 4)]) (g := gTup K 2 (gCons (gName 3) (gCons (gName 4) gNil))) (tt := tYes) (te := tVar 3) rfl scCheck.nd rfl rfl (sw_true rfl rfl rfl (by decide +kernel))
          (pi_seqA (pv 1))
          (blkOk_by (N := ["states", "edges", "place", "source", "target", "sources", "state"]) (sc := defScope sCheck) (by decide +kernel))
          (fun _ _ _ _ _ => by exact pg_tup rfl (pgs_cons (pg_name (i := 3) scCheck.nd rfl (Or.inl rfl)) (pgs_cons (pg_name (i := 4) scCheck.nd rfl (Or.inl rfl)) pgs_nil)))
          (fun _ _ _ _ _ => pts_nil)
          (fun _ _ _ _ _ => by exact pv 3))
      (pss_one (ps_for PassesOwn.never rfl (pi_range1 (by rfl) T.range (pa_cons (pv 0) pa_nil)) (pg_name (i := 6) scCheck.nd rfl (Or.inl rfl))
        (pss_one (ps_if (pt_cmpR op_notIn_seq (pv 6) (pv 5) (by rfl)) (pss_one ps_never) pss_nil))))), ?_⟩
    have gsz : ∀ m : Nat, m ≤ 1000 → m < sizeLine := fun m h => small1000 h
    -- for place, (source, target) in enumerate(edges)
    refine ⟨_, rfl, e, vsOf ts, S, rfl, hS, hq, fun J w => ?_⟩
    refine for_it w (fun i σ H' => ∃ v2 v3 v4 : Option V, σ = [some (.int n), some (.ref e), v2, v3, v4, none, none] ∧ Same H H') ⟨none, none, none, rfl, fun _ _ z => z⟩ (fun i σ H' _ p => by obtain ⟨_, _, _, _, s⟩ := p; exact sq_same hS hq s) ?_ ?_
    · rintro i x σ H1 H' hi ⟨v2, v3, v4, rfl, sm⟩ ⟨Ta, x, y, rfl, hT, rfl, gx, gy⟩
      obtain ⟨ee, hee, rfl⟩ := vsOf_at gy
      have ex : x = .int (i : Nat) := (Option.some.inj gx).symm
      subst ex
      have s1 := sm.trans (same_upd (o := .tup [.int (i : Nat), .ref ee.1]) hT)
      have mem : ee ∈ ts := List.mem_of_getElem? hee
      have r := va.rg ee mem
      refine ⟨Ta, _, rfl, SqT.of upd_same, rfl, _, _, rfl, _, _, rfl, ⟨ee.1, _, rfl, SqT.of (s1 _ _ (ed ee mem)), rfl, _, _, rfl, _, _, rfl, rfl, ?_⟩⟩
      refine ⟨rfl, ?_⟩
      refine ⟨_, rfl, _, _, rfl, rfl, _, rfl, if_t (decide_eq_true r.1) ⟨_, rfl, _, _, rfl, rfl, ?_⟩⟩
      refine ⟨_, rfl, if_t (decide_eq_true r.2.1) ?_⟩
      refine ⟨_, rfl, _, _, rfl, rfl, _, rfl, if_t (decide_eq_true r.2.2.1) ⟨_, rfl, _, _, rfl, rfl, ?_⟩⟩
      refine ⟨_, rfl, ?_⟩
      refine if_f (by rw [decide_eq_true r.2.2.2]; rfl) ?_
      exact ⟨_, _, _, rfl, s1⟩
    · rintro σ H1 ⟨v2, v3, v4, rfl, sm⟩
      -- sources
      refine ⟨_, rfl, e, vsOf ts, S, rfl, hS, sq_same hS hq sm, fun J w => fun D hD => ?_⟩
      have nD : H D = none := sm.free hD
      refine lc_it w (fun i H' => Same H H' ∧ H' D = some (.lst ((ts.take i).map fun e => V.int e.2.1))) ⟨sm.trans (same_upd hD), upd_same⟩ (fun i H' _ p => sq_same hS hq p.1) ?_ ?_
      · rintro i x H2 H' hi ⟨sm2, eD⟩ ⟨rfl, gx⟩
        obtain ⟨ee, hee, rfl⟩ := vsOf_at gx
        have mem : ee ∈ ts := List.mem_of_getElem? hee
        refine ⟨ee.1, _, rfl, SqT.of (sm2 _ _ (ed ee mem)), rfl, _, _, rfl, _, _, rfl, rfl, rfl, ?_⟩
        refine ⟨_, rfl, _, eD, ?_, ?_, ?_⟩
        · rw [List.length_map, List.length_take]
          exact gsz _ (by omega)
        · intro c o ec
          rw [upd_ne (ne_of_none ec nD)]
          exact sm2 _ _ ec
        · rw [upd_same, List.take_add_one, hee, List.map_append]
          rfl
      · rintro H2 ⟨sm2, eD⟩
        rw [vsOf_len, List.take_length] at eD
        refine ⟨_, rfl, n, rfl, by omega, by omega, ?_⟩
        refine for_it (walk_range (lo := 0) (n := n.toNat)) (fun i σ H' => ∃ v2 v3 v4 v6 : Option V, σ = [some (.int n), some (.ref e), v2, v3, v4, some (.ref D), v6] ∧ Same H H' ∧ H' D = some (.lst (ts.map fun e => V.int e.2.1))) ⟨_, _, _, _, rfl, sm2, eD⟩ (fun _ _ _ _ _ => True.intro) ?_ ?_
        · rintro i x σ H3 H' hi ⟨v2, v3, v4, v6, rfl, sm3, eD3⟩ ⟨rfl, rfl⟩
          obtain ⟨ee, hee, hk⟩ := va.sr (i : Int) (by omega) (by omega)
          have e1 : (ts.map fun e => V.int e.2.1) = (ts.map fun e => e.2.1).map V.int := by
            rw [List.map_map]
            rfl
          have e2 : inV (.int (0 + (i : Int))) (ts.map fun e => V.int e.2.1) = true := by
            rw [e1, Int.zero_add, ← hk]
            exact inV_yes (List.mem_map_of_mem (f := fun e : Addr × Int × Int => e.2.1) hee)
          refine ⟨_, rfl, _, rfl, D, _, rfl, .inl (SqL.of eD3), rfl, by rw [e1]; exact flat_ints _, _, rfl, ?_⟩
          refine if_f (by rw [e2]; rfl) ?_
          exact ⟨_, _, _, _, rfl, sm3, eD3⟩
        · rintro σ H3 ⟨v2, v3, v4, v6, rfl, sm3, eD3⟩
          exact q H3 sm3
end
end Lw
set_option Elab.async false
set_option linter.all false
set_option maxRecDepth 100000
namespace Lw
open PySem L2
abbrev sEq : Stmt := inClass (top 9) 4
abbrev sLen : Stmt := inClass (top 9) 5
abbrev sRepr : Stmt := inClass (top 9) 6
abbrev sStates : Stmt := inClass (top 9) 7
abbrev sEdges : Stmt := inClass (top 9) 8
/-! ### edges as data -/
def dEs (ts : Es) : List PyData := ts.map fun e => .tuple [.int e.2.1, .int e.2.2]
theorem dEs_at {K : PySem.W.Frag} {H : Hp} : ∀ {ts : Es}, Ed H ts → DpAll K H (vsOf ts) (dEs ts)
  | [], _ => .nil
  | e :: ts, h => .cons (.tup (SqT.of (h e List.mem_cons_self)) (.cons (.int _) (.cons (.int _) .nil))) (dEs_at (ts := ts) fun x hx => h x (List.mem_cons_of_mem _ hx))
theorem dEs_lay : ∀ ts : Es, PyData.canLayAll0 (dEs ts) = true
  | [] => rfl
  | e :: ts => by
    show (true && PyData.canLayAll0 (dEs ts)) = true
    rw [dEs_lay ts]
    rfl
theorem dEs_depth : ∀ ts : Es, PyData.depthAll (dEs ts) ≤ 1
  | [] => Nat.zero_le _
  | e :: ts => by
    show max 1 (PyData.depthAll (dEs ts)) ≤ 1
    exact Nat.max_le.mpr ⟨Nat.le_refl _, dEs_depth ts⟩
theorem shT (ts : Es) : SeqAt.shaped (.tuple (dEs ts)) = true := by
  show (PyData.canLayAll0 (dEs ts) && decide (PyData.depthAll (dEs ts) + 1 ≤ 64)) = true
  rw [dEs_lay, decide_eq_true (by have := dEs_depth ts; omega)]
  rfl
theorem shL (ts : Es) : SeqAt.shaped (.list (dEs ts)) = true := by
  show (PyData.canLayAll0 (dEs ts) && decide (PyData.depthAll (dEs ts) + 1 ≤ 64)) = true
  rw [dEs_lay, decide_eq_true (by have := dEs_depth ts; omega)]
  rfl
theorem eqv_es : ∀ us ts : Es, PyData.eqvAll (dEs us) (dEs ts) = decide (psOf us = psOf ts)
  | [], [] => rfl
  | [], e :: ts => rfl
  | e :: us, [] => rfl
  | e :: us, f :: ts => by
    have ih := eqv_es us ts
    show ((e.2.1 == f.2.1 && (e.2.2 == f.2.2 && true)) && PyData.eqvAll (dEs us) (dEs ts)) = decide (e.2 :: psOf us = f.2 :: psOf ts)
    rw [ih]
    obtain ⟨a, x, y⟩ := e
    obtain ⟨b, z, u⟩ := f
    by_cases h1 : x = z <;> by_cases h2 : y = u <;> by_cases h3 : psOf us = psOf ts <;> simp [h1, h2, h3]
/-! ### the object -/
theorem ks : ¬ (("state_count" : Str) = "edge_pairs") := by decide +kernel
theorem flds_put1 (n : Int) : putF "state_count" (.int n) [] = ([("state_count", V.int n)] : List (Str × V)) := rfl
theorem flds_put2 (n : Int) (t : Addr) : putF "edge_pairs" (.ref t) ([("state_count", V.int n)] : List (Str × V)) = flds n t := by
  show (if ("state_count" : Str) = "edge_pairs" then _ else (("state_count" : Str), V.int n) :: putF "edge_pairs" (.ref t) []) = flds n t
  rw [if_neg ks]
  rfl
theorem look_s (n : Int) (t : Addr) : (flds n t).lookup ("state_count" : Str) = some (.int n) := by
  unfold flds
  simp [List.lookup]
theorem look_e (n : Int) (t : Addr) : (flds n t).lookup ("edge_pairs" : Str) = some (.ref t) := by
  unfold flds
  have h : (("edge_pairs" : Str) == ("state_count" : Str)) = false := by decide +kernel
  simp [List.lookup, h]
theorem look_no (n : Int) (t : Addr) {m : Str} (h1 : (m == ("state_count" : Str)) = false) (h2 : (m == ("edge_pairs" : Str)) = false) : (flds n t).lookup m = none := by
  unfold flds
  simp [List.lookup, h1, h2]
theorem sq_or {K : PySem.W.Frag} {S : SqF} {H : Hp} {e : Addr} {xs : List V} (hS : S = SqL ∨ S = SqT) (h : S K H e xs) : SqL K H e xs ∨ SqT K H e xs := by
  rcases hS with rfl | rfl
  · exact .inl h
  · exact .inr h
def grText (n m : Int) : Str := ((((("Graph(" : Str) ++ (toString n : Str)) ++ (" states, " : Str)) ++ (toString m : Str)) ++ (" edges)" : Str))
def spLen (C : Addr) : Sp := fun vs H Q _ => ∃ (g : Addr) (n : Int) (us : Es), vs = [.ref g] ∧ GraphAt C H g n us ∧ Q (.int us.length) H
def spStates (C : Addr) : Sp := fun vs H Q _ => ∃ (g : Addr) (n : Int) (us : Es), vs = [.ref g] ∧ GraphAt C H g n us ∧ Q (.int n) H
def spRepr (C : Addr) : Sp := fun vs H Q _ => ∃ (g : Addr) (n : Int) (us : Es), vs = [.ref g] ∧ GraphAt C H g n us ∧ 0 ≤ n ∧ n < 1000 ∧ us.length < 1000 ∧ Q (.str (grText n us.length)) H
def spEdges (C : Addr) : Sp := fun vs H Q _ => ∃ (g : Addr) (n : Int) (us : Es), vs = [.ref g] ∧ GraphAt C H g n us ∧ ∀ p, H p = none → Q (.ref p) (upd H p (.lst (vsOf us)))
section
variable {P : Program} {w : World} {K : PySem.W.Frag} {mg : Str → Option Value} {base : Heap}
theorem scInit : FnScope ["self", "states", "edges", "source", "target"] ["self", "states", "edges"] (defScope sInit) := ⟨rfl, rfl, rfl, by decide +kernel, rfl, by decide +kernel, by decide +kernel⟩
set_option maxHeartbeats 8000000 in
theorem ok_init {f C : Addr} {mc : Value} {fd : FuncData} {k : Nat} (F : Fun K "__init__" "Graph.__init__" sInit f fd) (T : Bi mg) (G : GTxt K mg C mc) (cC : C8.Cal P w K mg base 1 "check_edges" (spCheck K) []) : FnOk P w K mg base CX0 (k + 2) f fd ["self", "states", "edges"] (spInit C) := by
  refine F.ok scInit (fun vs H Q E h => ?_) (fun cdv A outer s H vs Q E hr h => ?_)
  · obtain ⟨g, dx, e, n, ts, mk, rfl, _⟩ := h
    rfl
  · obtain ⟨g, dx, e, n, ts, mk, rfl, hg, hmk, he, ed, va, n1, n8, hl, q⟩ := h
    have ge : e ≠ g := by
      rintro rfl
      rw [hg] at he
      rcases hmk with rfl | rfl <;> cases he
    obtain ⟨S, hS, hq0⟩ : ∃ S : SqF, (S = SqL ∨ S = SqT) ∧ ∀ H', H' e = some (mk (vsOf ts)) → S K H' e (vsOf ts) := by
      rcases hmk with rfl | rfl
      · exact ⟨SqL, .inl rfl, fun H' h => SqL.of h⟩
      · exact ⟨SqT, .inr rfl, fun H' h => SqT.of h⟩
    have hq := hq0 H he
    have hk : 1 ≤ k + 1 := Nat.le_add_left 1 k
    refine ⟨_, pss_cons (ps_if (pt_cmpR op_lt (pv 1) pe_int (nomark _)) (pss_one ps_never) pss_nil)
      (pss_cons (ps_if (pt_cmpR op_gt (pv 1) (ClX.pe_cval (pe_glob (v := .ref C) (by rfl) G.mgG rfl)) (nomark _)) (pss_one ps_never) pss_nil)
      (pss_cons (ps_if (pt_cmpR op_gt (pe_callB call_len_seq (by rfl) T.len PySem.boot_len (pa_cons (pv 2) pa_nil)) (ClX.pe_cval (pe_glob (v := .ref C) (by rfl) G.mgG rfl)) (nomark _)) (pss_one ps_never) pss_nil)
      (pss_cons (ps_expr (C8.pe_c cC hr hk (by rfl) (pa_cons (pv 1) (pa_cons (pv 2) pa_nil))))
      (pss_cons (ps_fld (pv 0) (pv 1) rfl)
      (pss_one (ps_fld (pv 0) (pe_callTy call_tuple_of (by rfl) T.tuple (by decide +kernel) (pa_cons
        (pe_lc (own := [("source", 3), ("target", 4)]) (g := gTup K 2 (gCons (gName 3) (gCons (gName 4) gNil))) (tt := tYes) (te := tTup (tCons (tVar 3) (tCons (tVar 4) tNil))) rfl scInit.nd (pi_seqA (pv 2))
          (blkOk_by (N := ["self", "states", "edges", "source", "target"]) (sc := defScope sInit) (by decide +kernel))
          (fun _ _ _ _ _ => by exact pg_tup rfl (pgs_cons (pg_name (i := 3) scInit.nd rfl (Or.inl rfl)) (pgs_cons (pg_name (i := 4) scInit.nd rfl (Or.inl rfl)) pgs_nil)))
          (fun _ _ _ _ _ => pts_nil)
          (fun _ _ _ _ _ => by exact pe_tup (pa_cons (pv 3) (pa_cons (pv 4) pa_nil)))) pa_nil)) rfl)))))), ?_⟩
    obtain ⟨u8, hv8⟩ := G.v8
    obtain ⟨u24, hv24⟩ := G.v24
    refine ⟨_, rfl, _, _, rfl, rfl, _, rfl, if_f (decide_eq_false (by omega)) ?_⟩
    refine ⟨_, rfl, C, mc, _, _, rfl, G.rd, hv8, _, _, rfl, rfl, _, rfl, if_f (decide_eq_false (by omega)) ?_⟩
    refine ⟨_, rfl, e, _, rfl, sq_or hS hq, C, mc, _, _, rfl, G.rd, hv24, _, _, rfl, rfl, _, rfl, if_f (decide_eq_false (by rw [vsOf_len]; omega)) ?_⟩
    refine ⟨_, rfl, _, rfl, n, e, ts, S, rfl, hS, hq, ed, va, n1, by omega, by omega, fun H1 s1 => ?_⟩
    refine ⟨_, rfl, _, rfl, g, C, dx, [], rfl, s1 _ _ hg, G.cl, G.nS, (by show 0 < 1000; decide), ?_⟩
    rw [flds_put1]
    have k2 : KeepB g H (upd H1 g (.ins C dx [("state_count", V.int n)])) := KeepB.trans (.of_same s1) .updb
    have g2 : upd H1 g (.ins C dx [("state_count", V.int n)]) g = some (.ins C dx [("state_count", V.int n)]) := upd_same
    generalize upd H1 g (.ins C dx [("state_count", V.int n)]) = H2 at *
    refine ⟨_, rfl, e, vsOf ts, S, rfl, hS, hq0 _ (k2 _ _ ge he), fun J w => fun D hD => ?_⟩
    have nDg : D ≠ g := fun z => by
      rw [z, g2] at hD
      cases hD
    have nD : H D = none := k2.free g2 hD
    refine lc_it w (fun i H' => ∃ us : Es, psOf us = psOf (ts.take i) ∧ KeepB g H H' ∧ H' g = some (.ins C dx [("state_count", V.int n)]) ∧ H' D = some (.lst (vsOf us)) ∧ Ed H' us)
      ⟨[], rfl, k2.new hD, by rw [upd_ne nDg.symm]; exact g2, upd_same, .nil⟩ (fun i H' _ p => by obtain ⟨us, _, k3, _⟩ := p; exact hq0 _ (k3 _ _ ge he)) ?_ ?_
    · rintro i x H3 H' hi ⟨us, hus, k3, g3, eD, ed3⟩ ⟨rfl, gx⟩
      obtain ⟨ee, hee, rfl⟩ := vsOf_at gx
      have mem : ee ∈ ts := List.mem_of_getElem? hee
      have eg : ee.1 ≠ g := fun z => by
        have h := ed ee mem
        rw [z, hg] at h
        cases h
      refine ⟨ee.1, _, rfl, SqT.of (k3 _ _ eg (ed ee mem)), rfl, _, _, rfl, _, _, rfl, rfl, rfl, ?_⟩
      refine ⟨_, rfl, _, rfl, (by show 2 ≤ sizeLine; decide), fun t ht => ?_⟩
      have s4 := same_upd (o := .tup [.int ee.2.1, .int ee.2.2]) ht
      have tD : D ≠ t := ne_of_none eD ht
      refine ⟨_, s4 _ _ eD, ?_, us ++ [(t, ee.2)], ?_, ?_, ?_, ?_, ?_⟩
      · have h1 : us.length = (ts.take i).length := by
          have := congrArg List.length hus
          unfold psOf at this
          simpa using this
        rw [vsOf_len, h1, List.length_take]
        exact small1000 (by omega)
      · unfold psOf at hus ⊢
        rw [List.map_append, hus, List.take_add_one, hee, List.map_append]
        rfl
      · exact (k3.new ht).at nD
      · rw [upd_ne nDg.symm]
        exact s4 _ _ g3
      · rw [upd_same]
        unfold vsOf
        rw [List.map_append]
        rfl
      · refine Ed.app (fun x hx => ?_) (.one ?_)
        · have h := s4 _ _ (ed3 x hx)
          rw [upd_ne (fun z => ?_)]
          · exact h
          · rw [z, s4 _ _ eD] at h
            cases h
        · rw [upd_ne (Ne.symm tD), upd_same]
    · rintro H3 ⟨us, hus, k3, g3, eD, ed3⟩
      rw [vsOf_len, List.take_length] at hus
      refine ⟨D, _, rfl, .inl ⟨SqL.of eD, fun t ht => ?_⟩⟩
      have s4 := same_upd (o := .tup (vsOf us)) ht
      have tg : t ≠ g := (ne_of_none g3 ht).symm
      refine ⟨_, rfl, g, C, dx, _, rfl, s4 _ _ g3, G.cl, G.nE, (by show 1 < 1000; decide), ?_⟩
      rw [flds_put2]
      refine q us _ hus ((k3.trans (.of_same s4)).trans .updb) ⟨⟨dx, t, upd_same, by rw [upd_ne tg]; exact upd_same⟩, fun x hx => ?_⟩
      have h := s4 _ _ (ed3 x hx)
      rw [upd_ne (fun z => ?_)]
      · exact h
      · rw [z, s4 _ _ g3] at h
        cases h
/-! ### the small ones -/
theorem scLen : FnScope ["self"] ["self"] (defScope sLen) := ⟨rfl, rfl, rfl, by decide +kernel, rfl, by decide +kernel, by decide +kernel⟩
theorem ok_len {f C : Addr} {mc : Value} {fd : FuncData} {k : Nat} (F : Fun K "__len__" "Graph.__len__" sLen f fd) (T : Bi mg) (G : GTxt K mg C mc) : FnOk P w K mg base CX0 (k + 1) f fd ["self"] (spLen C) := by
  refine F.ok scLen (fun vs H Q E h => ?_) (fun cdv A outer s H vs Q E hr h => ?_)
  · obtain ⟨g, n, us, rfl, _⟩ := h
    rfl
  · obtain ⟨g, n, us, rfl, ⟨⟨dx, t, h1, h2⟩, ed⟩, q⟩ := h
    refine ⟨_, pss_one (ps_ret (pe_callB call_len_seq (by rfl) T.len PySem.boot_len (pa_cons (pe_fld (pv 0) rfl) pa_nil))), ?_⟩
    refine ⟨_, rfl, g, C, dx, _, _, rfl, h1, G.cl, G.nE, look_e _ _, t, _, rfl, .inr (SqT.of h2), ?_⟩
    rw [vsOf_len]
    exact q
theorem scStates : FnScope ["self"] ["self"] (defScope sStates) := ⟨rfl, rfl, rfl, by decide +kernel, rfl, by decide +kernel, by decide +kernel⟩
theorem ok_states {f C : Addr} {mc : Value} {fd : FuncData} {k : Nat} (F : Fun K "states" "Graph.states" sStates f fd) (G : GTxt K mg C mc) : FnOk P w K mg base CX0 (k + 1) f fd ["self"] (spStates C) := by
  refine F.ok scStates (fun vs H Q E h => ?_) (fun cdv A outer s H vs Q E hr h => ?_)
  · obtain ⟨g, n, us, rfl, _⟩ := h
    rfl
  · obtain ⟨g, n, us, rfl, ⟨⟨dx, t, h1, h2⟩, ed⟩, q⟩ := h
    exact ⟨_, pss_one (ps_ret (pe_fld (pv 0) rfl)), _, rfl, g, C, dx, _, _, rfl, h1, G.cl, G.nS, look_s _ _, q⟩
theorem scEdges : FnScope ["self"] ["self"] (defScope sEdges) := ⟨rfl, rfl, rfl, by decide +kernel, rfl, by decide +kernel, by decide +kernel⟩
theorem ok_edges {f C : Addr} {mc : Value} {fd : FuncData} {k : Nat} (F : Fun K "edges" "Graph.edges" sEdges f fd) (T : Bi mg) (G : GTxt K mg C mc) : FnOk P w K mg base CX0 (k + 1) f fd ["self"] (spEdges C) := by
  refine F.ok scEdges (fun vs H Q E h => ?_) (fun cdv A outer s H vs Q E hr h => ?_)
  · obtain ⟨g, n, us, rfl, _⟩ := h
    rfl
  · obtain ⟨g, n, us, rfl, ⟨⟨dx, t, h1, h2⟩, ed⟩, q⟩ := h
    exact ⟨_, pss_one (ps_ret (pe_callTy call_list_of (by rfl) T.list (by decide +kernel) (pa_cons (pe_fld (pv 0) rfl) pa_nil))), _, rfl, g, C, dx, _, _, rfl, h1, G.cl, G.nE, look_e _ _, t, _, rfl, .inr (SqT.of h2), q⟩
theorem scRepr : FnScope ["self"] ["self"] (defScope sRepr) := ⟨rfl, rfl, rfl, by decide +kernel, rfl, by decide +kernel, by decide +kernel⟩
theorem log_small {n : Int} (h0 : 0 ≤ n) (h1 : n < 1000) : n.natAbs.log2 < 1920 := by
  have h : n.natAbs < 2 ^ 10 := by omega
  by_cases hz : n.natAbs = 0
  · rw [hz]
    decide
  · have := (Nat.log2_lt hz).mpr h
    omega
theorem len_small {n : Int} (h0 : 0 ≤ n) (h1 : n < 1000) : (Str.ofString (toString n)).length ≤ 3 := PyProof.Rows.toString_length_le h0 (by decide) (by omega)
theorem len_app (x y : Str) : (x ++ y).length = x.length + y.length := by
  show (x.cps ++ y.cps).size = x.cps.size + y.cps.size
  exact Array.size_append
theorem ok_repr {f C : Addr} {mc : Value} {fd : FuncData} {k : Nat} (F : Fun K "__repr__" "Graph.__repr__" sRepr f fd) (T : Bi mg) (G : GTxt K mg C mc) : FnOk P w K mg base CX0 (k + 1) f fd ["self"] (spRepr C) := by
  refine F.ok scRepr (fun vs H Q E h => ?_) (fun cdv A outer s H vs Q E hr h => ?_)
  · obtain ⟨g, n, us, rfl, _⟩ := h
    rfl
  · obtain ⟨g, n, us, rfl, ⟨⟨dx, t, h1, h2⟩, ed⟩, n0, n1, hl, q⟩ := h
    refine ⟨_, pss_one (ps_ret (pe_joined (.cons pe_str (.cons (pe_fmt (pe_fld (pv 0) rfl)) (.cons pe_str (.cons (pe_fmt (pe_callB call_len_seq (by rfl) T.len PySem.boot_len (pa_cons (pe_fld (pv 0) rfl) pa_nil))) (.cons pe_str .nil))))))), ?_⟩
    have hsz : ∀ m : Nat, m ≤ 1000 → m ≤ sizeLine := fun m h => Nat.le_of_lt (small1000 h)
    have l0 : (0 : Int) ≤ (us.length : Int) := by omega
    have l1 : (us.length : Int) < 1000 := by omega
    have a1 := len_small n0 n1
    have a2 := len_small l0 l1
    have z1 : (Str.ofString "Graph(").length = 6 := by decide +kernel
    have z2 : (Str.ofString " states, ").length = 9 := by decide +kernel
    have z3 : (Str.ofString " edges)").length = 7 := by decide +kernel
    have z0 : Str.empty ++ Str.ofString "Graph(" = Str.ofString "Graph(" := by decide +kernel
    refine ⟨_, rfl, hsz _ (by rw [z0]; omega), _, rfl, g, C, dx, _, _, rfl, h1, G.cl, G.nS, look_s _ _, .inr ⟨n, rfl, log_small n0 n1, _, rfl, hsz _ ?_, ?_⟩⟩
    · rw [z0, len_app]; omega
    refine ⟨_, rfl, hsz _ ?_, ?_⟩
    · rw [z0, len_app, len_app]; omega
    refine ⟨_, rfl, g, C, dx, _, _, rfl, h1, G.cl, G.nE, look_e _ _, t, _, rfl, .inr (SqT.of h2), .inr ⟨_, rfl, ?_, _, rfl, hsz _ ?_, ?_⟩⟩
    · rw [vsOf_len]; exact log_small l0 l1
    · rw [vsOf_len, z0, len_app, len_app, len_app]; omega
    refine ⟨_, rfl, hsz _ ?_, ?_⟩
    · rw [vsOf_len, z0, len_app, len_app, len_app, len_app]; omega
    rw [vsOf_len, z0]
    exact q
end
end Lw
set_option Elab.async false
set_option linter.all false
set_option maxRecDepth 100000
namespace Lw
open PySem L2
abbrev sGraph : Stmt := top 18
/-- what isinstance asks of the class, and that the built-in kinds are not of it -/
structure GIs (K : PySem.W.Frag) (C : Addr) : Prop where
  ins : C8.InsC K C
  non : PySem.W.kitOne K (.type "NoneType") (.ref C) = some false
  int : PySem.W.kitOne K (.type "int") (.ref C) = some false
  lst : PySem.W.kitOne K (.type "list") (.ref C) = some false
  tup : PySem.W.kitOne K (.type "tuple") (.ref C) = some false
def spGEq (K : PySem.W.Frag) (C : Addr) : Sp := fun vs H Q _ => ∃ (g : Addr) (n : Int) (us : Es) (y : V), vs = [.ref g, y] ∧ GraphAt C H g n us ∧
  ((∃ (g2 : Addr) (n2 : Int) (us2 : Es), y = .ref g2 ∧ GraphAt C H g2 n2 us2 ∧ Q (.bl (decide (n = n2) && decide (psOf us = psOf us2))) H) ∨ ((∃ t, TyX K H y t ∧ PySem.W.kitOne K t (.ref C) = some false) ∧ Q (.bl false) H))
theorem spGEq_mono {K : PySem.W.Frag} {C : Addr} (vs : List V) (H : Hp) (Q Q' : VK) (E : XK) (h : ∀ v H', Q v H' → Q' v H') (s : spGEq K C vs H Q E) : spGEq K C vs H Q' E := by
  obtain ⟨g, n, us, y, e, G, s⟩ := s
  rcases s with ⟨g2, n2, us2, e2, G2, q⟩ | ⟨t, q⟩
  · exact ⟨g, n, us, y, e, G, .inl ⟨g2, n2, us2, e2, G2, h _ _ q⟩⟩
  · exact ⟨g, n, us, y, e, G, .inr ⟨t, h _ _ q⟩⟩
theorem GraphAt.same {C : Addr} {H H' : Hp} {g : Addr} {n : Int} {us : Es} (h : GraphAt C H g n us) (s : Same H H') : GraphAt C H' g n us := by
  obtain ⟨⟨dx, t, h1, h2⟩, ed⟩ := h
  exact ⟨⟨dx, t, s _ _ h1, s _ _ h2⟩, ed.same s⟩
theorem PlanAt.same {H H' : Hp} {p q : Addr} {n : Int} {ts : Es} (h : PlanAt H p q n ts) (s : Same H H') : PlanAt H' p q n ts := ⟨s _ _ h.tp, s _ _ h.ls, h.ed.same s, h.va, h.n1⟩
def spGraph (C : Addr) : Sp := fun vs H Q _ => ∃ (p q : Addr) (n : Int) (ts : Es), vs = [.ref p] ∧ PlanAt H p q n ts ∧ n ≤ 8 ∧ ts.length ≤ 24 ∧ ∀ (g : Addr) (us : Es) (H' : Hp), psOf us = psOf ts → Same H H' → H g = none → GraphAt C H' g n us → Q (.ref g) H'
section
variable {P : Program} {w : World} {K : PySem.W.Frag} {mg : Str → Option Value} {base : Heap}
theorem scEq : FnScope ["self", "other"] ["self", "other"] (defScope sEq) := ⟨rfl, rfl, rfl, by decide +kernel, rfl, by decide +kernel, by decide +kernel⟩
set_option maxHeartbeats 4000000 in
theorem ok_eq {f C : Addr} {mc : Value} {fd : FuncData} {k : Nat} (F : Fun K "__eq__" "Graph.__eq__" sEq f fd) (T : Bi mg) (G : GTxt K mg C mc) (S : GIs K C) : FnOk P w K mg base CX0 (k + 1) f fd ["self", "other"] (spGEq K C) := by
  refine F.ok scEq (fun vs H Q E h => ?_) (fun cdv A outer s H vs Q E hr h => ?_)
  · obtain ⟨g, n, us, y, rfl, _⟩ := h
    rfl
  · obtain ⟨g, n, us, y, rfl, ⟨⟨dx, t, h1, h2⟩, ed⟩, hh⟩ := h
    refine ⟨_, pss_one (ps_ret (pe_and (pe_callB call_isi (by rfl) T.isi (by decide +kernel) (pa_cons (pv 1) (pa_cons (pe_glob (v := .ref C) (by rfl) G.mgG rfl) pa_nil)))
      (pe_and (pe_cmpR op_eq (pe_fld (pv 0) rfl) (pe_fld (pv 1) rfl) (nomark _)) (pe_one (pe_cmpR (op_eqD hr.units) (pe_fld (pv 0) rfl) (pe_fld (pv 1) rfl) (nomark _)))))), ?_⟩
    rcases hh with ⟨g2, n2, us2, rfl, ⟨⟨dx2, t2, h12, h22⟩, ed2⟩, q⟩ | ⟨⟨ty, hty, hk⟩, q⟩
    · refine ⟨_, rfl, _, _, _, _, true, rfl, .own _, .base (.ins h12 S.ins.cl S.ins.ha S.ins.hn S.ins.htk S.ins.hm), S.ins.me, true, rfl, iteT ?_⟩
      refine ⟨_, rfl, g, C, dx, _, _, rfl, h1, G.cl, G.nS, look_s _ _, _, rfl, g2, C, dx2, _, _, rfl, h12, G.cl, G.nS, look_s _ _, rfl, _, rfl, ?_⟩
      by_cases hn : n = n2
      · refine if_t (decide_eq_true (by rw [hn])) ?_
        refine ⟨_, rfl, g, C, dx, _, _, rfl, h1, G.cl, G.nE, look_e _ _, _, rfl, g2, C, dx2, _, _, rfl, h12, G.cl, G.nE, look_e _ _, _, _, .tup (SqT.of h2) (dEs_at ed), .tup (SqT.of h22) (dEs_at ed2), shT _, shT _, ?_⟩
        rw [decide_eq_true hn, Bool.true_and, ← eqv_es] at q
        exact q
      · refine if_f (decide_eq_false (fun z => hn (by injection z))) ?_
        rw [decide_eq_false hn, Bool.false_and] at q
        exact q
    · exact ⟨_, rfl, _, _, _, _, false, rfl, .own _, hty, hk, false, rfl, iteF q⟩
theorem scGraph : FnScope ["_law_plan_here"] ["_law_plan_here"] (defScope sGraph) := ⟨rfl, rfl, rfl, by decide +kernel, rfl, by decide +kernel, by decide +kernel⟩
theorem at0t {x y : V} : atI [x, y] 0 = some x := at0
set_option maxHeartbeats 4000000 in
theorem ok_graph {f C : Addr} {fd : FuncData} {k : Nat} (F : Fun K "_law_graph" "_law_graph" sGraph f fd) (T : Bi mg) (cG : C8.Mak P w K mg base 2 "Graph" C (spInit C) []) : FnOk P w K mg base CX0 (k + 4) f fd ["_law_plan_here"] (spGraph C) := by
  refine F.ok scGraph (fun vs H Q E h => ?_) (fun cdv A outer s H vs Q E hr h => ?_)
  · obtain ⟨p, q, n, ts, rfl, _⟩ := h
    rfl
  · obtain ⟨p, q0, n, ts, rfl, PA, n8, l24, q⟩ := h
    refine ⟨_, pss_one (ps_ret (C8.pe_mk cG hr (by omega) (by rfl) (pa_cons (pe_ix ix_tup (pv 0) pe_int (fun _ _ => rfl)) (pa_cons (pe_callTy call_list_of (by rfl) T.list (by decide +kernel) (pa_cons (pe_ix ix_tup (pv 0) pe_int (fun _ _ => rfl)) pa_nil)) pa_nil)))), ?_⟩
    refine ⟨_, rfl, p, _, _, _, rfl, rfl, SqT.of PA.tp, at0, _, rfl, p, _, _, _, rfl, rfl, SqT.of PA.tp, at1, q0, _, rfl, .inl (SqL.of PA.ls), fun e he => ?_⟩
    have s1 := same_upd (o := .lst (vsOf ts)) he
    intro g dx hg hdx nex
    have s2 := s1.trans ((same_upd (o := .own g) hdx))
    have hg2 : upd (upd H e (.lst (vsOf ts))) dx (.own g) g = none := by
      rw [upd_ne (Ne.symm nex)]
      exact hg
    have s3 := s2.trans (same_upd (o := .ins C dx []) hg2)
    have ng : H g = none := s1.free hg
    have e3 : upd (upd (upd H e (.lst (vsOf ts))) dx (.own g)) g (.ins C dx []) e = some (.lst (vsOf ts)) := same_upd hg2 _ _ (same_upd hdx _ _ upd_same)
    refine ⟨g, dx, e, n, ts, HO.lst, rfl, upd_same, .inl rfl, e3, PA.ed.same s3, PA.va, PA.n1, n8, l24, fun us H' hus kp G => ⟨rfl, ?_⟩⟩
    exact q g us H' hus (fun c o ec => kp c o (ne_of_none ec ng) (s3 c o ec)) ng G
end
end Lw
set_option Elab.async false
set_option linter.all false
set_option maxRecDepth 100000
/-! the own errors: a base over ValueError with a word, and errors of one field over it -/
namespace Lw
open PySem PySem.Spec PyProof.Rows L2
section
variable {X : Cx} {CX : CXT} {k : Nat} {C f : Addr} {mc : Value} {fd : FuncData} {ps : List Str} {sp : Sp} {ds : List Value} {dvs : List V} {E : XK} {x m : Str} {e : Expr} {es : List Expr} {ta : TA} {p1 p2 pos : Pos}
/-- C.m(e, ..), m a plain def of the class C -/
theorem pe_clsfn {pl : Sem Bool} (hg : Gl X x) (hm : X.mg x = some (.ref C)) (r : ClX.CRead X.K C mc) (kv : ClX.CVal X.K C mc m (.ref f) (.ref f)) (hk : PySem.W.keepIn X.K (.ref f) = true)
    (F : FnOk X.prog X.w X.K X.mg X.base CX k f fd ps sp) (hr : Room k X.A) (hb : Binds X.K fd ps ds) (hd : Vals dvs ds) (hx : Passes CX X E) (ha : PA X (e :: es) ta)
    (hc : eval (.Call (.Attribute (.Name x p1) m p2) (e :: es) [] pos) X.env = (do
      let ov ← eval (.Name x p1) X.env
      standAt p2.atName
      let (f, first) ← holding [ov] (getMethod ov m pl)
      callWith pos f first (backTo pos (starEach (e :: es) X.env)) (backToKw pos (keywordEach [] X.env))) := by rfl)
    (hdb : (x == ("__debug__" : Str)) = false := by decide) (he : starEach (e :: es) X.env = (false, eval e X.env) :: starEach es X.env := by rfl) (hpl : (backTo pos (starEach es X.env)).any (·.1) = false := by rfl) :
    PE X (.Call (.Attribute (.Name x p1) m p2) (e :: es) [] pos) (tCall sp dvs E ta) := by
  refine ⟨fun pins s σ H Q I h => ?_⟩
  refine PySem.W.methodCall_KW (ld_glob I hg hm ?_ hdb) hc
  refine PySem.W.method_cls I.kIn r.ga (ClX.getcval_ok I r kv fun s' I' => ?_)
  refine PySem.W.callWith_K (h₀ := X.base) I.ok.mod.kin hk (thn (ha.run pos pins s' σ H _ I' h) fun us s2 ⟨vs, H2, I2, rv, q⟩ => ⟨I2.kIn, ?_⟩) he hpl
  exact run_fn F hr hb hd hx I2 rv q
end
abbrev sWin : Stmt := inClass (top 2) 0
/-- a fresh error of the class at C, its dict at d with these fields -/
def spWin (K : PySem.W.Frag) : Sp := fun vs H Q _ => ∃ (a C : Addr) (wd told : Str), vs = [.ref a, .str wd, .str told] ∧ OexC K C ∧ PySem.W.findIn K (.ref C) "word" = some none ∧ H a = some (exo a C none) ∧
  ∀ d, H d = none → d ≠ a → Q .non (upd (upd H d (exd d [("word", .str wd)])) a (exo a C (some d)))
/-- the fields of an error -/
def erF (fld wd : Str) (n : Int) : List (Str × V) := [(fld, .int n), ("word", .str wd)]
theorem er_w {fld wd : Str} {n : Int} (h : (("word" : Str) == fld) = false) : (erF fld wd n).lookup ("word" : Str) = some (.str wd) := by
  simp [erF, List.lookup, h]
theorem er_n {fld wd : Str} {n : Int} : (erF fld wd n).lookup fld = some (.int n) := by
  simp [erF, List.lookup]
def spErr (C : Addr) (fld wd : Str) : Sp := fun vs H Q _ => ∃ (a : Addr) (n : Int), vs = [.ref a, .int n] ∧ n.natAbs < 10 ^ 100 ∧ H a = some (exo a C none) ∧
  ∀ d, H d = none → d ≠ a → Q .non (upd (upd (upd H d (exd d [("word", .str wd)])) a (exo a C (some d))) d (exd d (erF fld wd n)))
/-- an own error that can be raised by its name -/
structure ErrIn (P : Program) (w : World) (K : PySem.W.Frag) (mg : Str → Option Value) (base : Heap) (x : Str) (C : Addr) (fld wd : Str) : Prop where
  O : OexC K C
  mx : mg x = some (.ref C)
  ini : ∃ (fI : Addr) (fd : FuncData), PySem.W.findIn K (.ref C) "__init__" = some (some (.ref fI)) ∧ PySem.W.typeIn K (.ref fI) = some (.type "function") ∧ FnOk P w K mg base CX0 2 fI fd ["self", fld] (spErr C fld wd) ∧ Binds K fd ["self", fld] []
/-- what raising such an error asks, once its argument is read -/
theorem er_tail {H : Hp} {C : Addr} {n : Int} {fld wd : Str} {E : XK} (hn : n.natAbs < 10 ^ 100) (k : ∀ d, H d = none → E (.ref C) (some d) (upd H d (.xd (erF fld wd n)))) :
    [V.int n].length ≤ 1000 ∧ ∀ a, H a = none → spErr C fld wd (.ref a :: ([V.int n] ++ [])) (upd H a (exo a C none))
      (fun v H2 => v = .non ∧ ∃ (d : Addr) (fs : List (Str × V)), H2 a = some (exo a C (some d)) ∧ H2 d = some (exd d fs) ∧ H d = none ∧ E (.ref C) (some d) (upd (del H2 a) d (.xd fs))) (fun _ _ _ => False) := by
  refine ⟨by show 1 ≤ 1000; decide, fun a na => ⟨a, n, rfl, hn, upd_same, fun d hd ne => ⟨rfl, d, _, ?_, upd_same, ?_, ?_⟩⟩⟩
  · rw [upd_ne ne.symm]
    exact upd_same
  · rw [upd_ne ne] at hd
    exact hd
  · have hd' : H d = none := by
      rw [upd_ne ne] at hd
      exact hd
    have e : upd (del (upd (upd (upd (upd H a (exo a C none)) d (exd d [("word", .str wd)])) a (exo a C (some d))) d (exd d (erF fld wd n))) a) d (.xd (erF fld wd n)) = upd H d (.xd (erF fld wd n)) := by
      funext x
      by_cases e1 : x = d
      · subst e1
        rw [upd_same, upd_same]
      · rw [upd_ne e1, upd_ne e1]
        by_cases e2 : x = a
        · subst e2
          rw [del_same, na]
        · rw [del_ne e2, upd_ne e1, upd_ne e2, upd_ne e1, upd_ne e2]
    rw [e]
    exact k d hd'
theorem ps_raiseE {X : Cx} {W : WX} {x : Str} {C : Addr} {fld wd : Str} {j : Nat} {e : Expr} {ta : TA} {p pos pos2 : Pos} (hc : X.calm = true) (tk : Takes X W) (R : ErrIn X.prog X.w X.K X.mg X.base x C fld wd) (hr : Room j X.A) (hj : 3 ≤ j) (hg : Gl X x) (ha : PA X [e] ta)
    (hdb : (x == ("__debug__" : Str)) = false := by decide) (he : starEach [e] X.env = (false, eval e X.env) :: starEach [] X.env := by rfl) (hpl : (backTo pos (starEach [] X.env)).any (·.1) = false := by rfl) :
    PS X (.Raise (some (.Call (.Name x p) [e] [] pos)) none pos2) (fun _ σ H => tMkO C (spErr C fld wd) [] ta σ H fun cls d H' => W cls d σ H') := by
  obtain ⟨fI, fd, h1, h2, F, b⟩ := R.ini
  exact ps_raise hc tk (pmk_oex R.O h1 h2 F (hr.mono hj) b .nil pass0 hg R.mx ha hdb he hpl)
section
variable {P : Program} {w : World} {K : PySem.W.Frag} {mg : Str → Option Value} {base : Heap}
theorem scWin : FnScope ["self", "word", "told"] ["self", "word", "told"] (defScope sWin) := ⟨rfl, rfl, rfl, by decide +kernel, rfl, by decide +kernel, by decide +kernel⟩
theorem ok_win {f : Addr} {fd : FuncData} {k : Nat} {dvs : List V} (F : FunD K "__init__" "WindowError.__init__" (defArgs sWin) (defBody sWin) (defScope sWin) dvs [] f fd) (mVE : mg "ValueError" = none)
    (vV : PySem.W.findCls K (.type "ValueError") (.type "type") "__init__" = some (.val (.builtin "ValueError.__init__"))) : FnOk P w K mg base CX0 (k + 1) f fd ["self", "word", "told"] (spWin K) := by
  refine F.ok scWin (fun vs H Q E h => ?_) (fun cdv A outer s H vs Q E hr h => ?_)
  · obtain ⟨a, C, wd, told, rfl, _⟩ := h
    rfl
  · obtain ⟨a, C, wd, told, rfl, T, nw, ha, q⟩ := h
    refine ⟨_, pss_cons (ps_expr (pe_veinit (by rfl) mVE vV (pa_cons (pv 0) (pa_cons (pv 2) pa_nil)))) (pss_one (ps_ost (pv 0) (pv 1))), ?_⟩
    refine ⟨_, rfl, _, rfl, a, C, _, rfl, (by show 1 ≤ 1000; decide), T, ha, ?_⟩
    exact ⟨_, rfl, _, rfl, a, C, rfl, T, nw, .inl ⟨ha, fun d hd ne => q d hd ne⟩⟩
theorem log_big {n : Int} (h : n.natAbs < 10 ^ 100) : n.natAbs.log2 < 1920 := by
  by_cases hz : n.natAbs = 0
  · rw [hz]
    decide
  · exact (Nat.log2_lt hz).mpr (Nat.lt_trans h (by decide +kernel))
theorem len_app0 (x y : Str) : (x ++ y).length = x.length + y.length := by
  show (x.cps ++ y.cps).size = x.cps.size + y.cps.size
  exact Array.size_append
end
end Lw
set_option Elab.async false
set_option linter.all false
set_option maxRecDepth 100000
/-! try .. except C as n: .., with any clauses behind, where all that the body raises is of C -/
namespace Lw
open PySem PySem.Spec PyProof.Rows L2
section
variable {X : Cx} {pins : List (Addr × Obj)} {σ : L2.St} {H : Hp}
/-- an error on the ground: its object, the frame's state, and the state of a suite that handles it -/
theorem ground {a : Addr} {cls : Value} {d : Option Addr} {B h : Heap} {sI s' : Shared} (fo : X.env.frame = some X.env.locals) (J : Inv X pins σ H sI)
    (old : ∀ b o, sI.heap.get? b = some o → b ∉ frs X.stack → B.get? b = some o) (up : sI.heap.UpToSlots h) (os : s'.os = sI.os) (bare : AllBare s'.gens) (na : H a = none)
    (fl : HandSPX.FlyingZ B (X.env :: X.outer) a (Zc cls d) h) :
    ∃ oe, h.get? a = some oe ∧ Zc cls d oe ∧ (∃ vs, oe.data = .fields vs) ∧ Inv X pins σ H { s' with heap := h } ∧ Inv (X.suite a ((a, oe) :: (X.pn ++ pins))) [] σ H { s' with heap := h } := by
  obtain ⟨oe, vs, get, z, dat⟩ := fl.there
  have K : Inv X pins σ H { s' with heap := h } := J.landed old fl.1 up os bare
  have off : a ∉ frs (X.env :: X.outer) := by
    intro m
    obtain ⟨_, o, ho, no⟩ := fl.2.2.1.mem m
    have e : oe = o := Option.some.inj (get.symm.trans ho)
    exact no vs (e ▸ dat)
  refine ⟨oe, get, z, ⟨vs, dat⟩, K, K.suite get dat na (fun e => off ?_) (fun m => off ?_)⟩
  · refine List.mem_filterMap.mpr ⟨X.env, .head _, ?_⟩
    rw [fo, ← e]
  · obtain ⟨en, hen, hfr⟩ := List.mem_filterMap.mp m
    exact List.mem_filterMap.mpr ⟨en, .tail _ hen, hfr⟩
/-- what becomes of an error that leaves the body -/
abbrev Lands (X : Cx) (pins : List (Addr × Obj)) (D : Ends) (hds : List ExceptHandler) : Value → Shared → Prop := fun e s1 =>
  wpAny (model X.prog X.w) X.A (noteFrame e X.env) (fun _ s2 => wpAny (model X.prog X.w) X.A (setFlight e none) (fun _ s3 => wpAny (model X.prog X.w) X.A (handleBy e X.env hds) (SP X pins D) X.xe s3) X.xe s2) X.xe s1
/-- the ends of the suite: its name goes -/
abbrev without (D : Ends) (i : Nat) : Ends := { nx := fun τ G => D.nx (τ.set i none) G, rt := D.rt, bk := fun τ G => D.bk (τ.set i none) G, ct := fun τ G => D.ct (τ.set i none) G }
def wFirst (K : PySem.W.Frag) (c : Value) (i : Nat) (ts : Addr → Value → Option Addr → TS) (D : Ends) : WX := fun cls d τ G =>
  PySem.W.exmOne K cls c = some true ∧ ∀ a, G a = none → ts a cls d (without D i) (τ.set i (some (.ref a))) G
theorem SP.back {P' : Cx} {ps : List (Addr × Obj)} {D : Ends} {f : Flow} {s : Shared} (h : SP P' ps D f s) (k : ∀ {τ G}, Inv P' ps τ G s → Inv X pins τ G s) : SP X pins D f s := by
  match f, h with
  | .next, ⟨τ, G, J, q⟩ => exact ⟨τ, G, k J, q⟩
  | .brk, ⟨τ, G, J, q⟩ => exact ⟨τ, G, k J, q⟩
  | .cont, ⟨τ, G, J, q⟩ => exact ⟨τ, G, k J, q⟩
  | .ret u, ⟨v, τ, G, J, r, q⟩ => exact ⟨v, τ, G, k J, r, q⟩
end
section
variable {X : Cx} {x n : Str} {c : Value} {i : Nat} {body suite : List Stmt} {b0 : Stmt} {np pos pos' : Pos} {tb : WX → TS} {ts : Addr → Value → Option Addr → TS} {more : List ExceptHandler}
theorem ps_try_first (so : X.stack = X.env :: X.outer) (fo : X.env.frame = some X.env.locals) (nd : X.N.Nodup) (hi : X.N[i]? = some n) (loc : X.env.kindOf n = some .local) (nam : Names X x c)
    (inBody : ∀ (W : WX) (pn : List (Addr × Obj)) (xe : Value → Shared → Prop), Takes (X.tr pn xe) W → PassesOwn (model X.prog X.w) X.A X.env xe →
      PSs (X.tr pn xe) body (tb W))
    (inSuite : ∀ (a : Addr) (oe : Obj) (cls : Value) (d : Option Addr) (pn : List (Addr × Obj)), Zc cls d oe → (∃ vs, oe.data = .fields vs) →
      PSs (X.suite a ((a, oe) :: pn)) (b0 :: suite) (ts a cls d)) :
    PS X (.Try body (.ExceptHandler (some (.Name x np)) (some n) (b0 :: suite) pos' :: more) [] [] pos) (fun D σ H => tb (wFirst X.K c i ts D) D σ H) := by
  constructor
  intro pins s σ H D I h
  have frames : X.A.frames = some (X.env :: X.outer) := I.ok.frames.trans (congrArg some so)
  refine wpAny_Try_except (wpAny_mono ((inBody (wFirst X.K c i ts D) (X.pn ++ pins) (Lands X pins D (.ExceptHandler (some (.Name x np)) (some n) (b0 :: suite) pos' :: more)) ?_ PassesOwn.looking).run [] s σ H D (I.toTry _) h) ?_ fun _ _ z => z)
  · -- an error leaves the body: it lands, it is of c, the suite runs
    rintro _ s' ⟨a, B, sI, ps, τ, G, cls, d, rfl, J0, old, up, sky, na, os, bare, hit, run⟩
    have J : Inv X pins τ G sI := J0.ofTry I.ok
    refine Sky.land Zc.steady frames fo (show Sky B (X.env :: X.outer) a (Zc cls d) X.env.locals s'.heap from so ▸ sky) fun g fl up1 => ?_
    obtain ⟨oe, get, z, _, K, S⟩ := ground fo J old (up.trans up1) os bare na fl
    have isC : PySem.W.Looks (model X.prog X.w) g (typeOf (.ref a)) cls := fun A' Q' E' t keep q => wpAny_typeOf_ref (keep _ _ get) (z.1.symm ▸ q)
    refine wpAny_handleBy_cons (codeAny_handlers_test ?_) nofun
    have ask : ∀ {Q E : Value → Shared → Prop}, Q c { s' with heap := g } → wpAny (model X.prog X.w) (X.A.mark (some (.ref a))) (eval (.Name x np) X.env) Q E { s' with heap := g } := by
      intro Q' E' q
      rcases nam.2.2 with m | ⟨m, bt, ne⟩
      · exact ld_glob (X := X.suite a ((a, oe) :: (X.pn ++ pins))) S nam.1 m q nam.2.1
      · exact ld_blt (X := X.suite a ((a, oe) :: (X.pn ++ pins))) S nam.1 m bt q ne nam.2.1
    refine ask ((PySem.W.exm_one (M := model X.prog X.w) K.kIn isC hit).here (codeAny_handlers_suite_as (HandSPX.lands_againZ fl fun g2 fl2 up2 => ?_)))
    obtain ⟨oe2, _, z2, flds, _, S2⟩ := ground fo J old ((up.trans up1).trans up2) os bare na fl2
    refine store_ok (X := X.suite a ((a, oe2) :: (X.pn ++ pins))) (v := .ref a) S2 nd hi (.inl loc) rfl (fun s5 S5 => ?_) (.inr loc)
    refine wpAny_mono ((inSuite a oe2 cls d (X.pn ++ pins) z2 flds).run [] s5 _ G _ S5 (run a na)) ?_ fun _ _ z => z.elim
    have gone : ∀ {τ6 G6 s6} {Q : Shared → Prop}, Inv (X.suite a ((a, oe2) :: (X.pn ++ pins))) [] τ6 G6 s6 → (∀ s7, Inv X pins (τ6.set i none) G6 s7 → Q s7) → wpAny (model X.prog X.w) X.A (do bindName X.env n .none; unbindBehindTheSuite X.env n pos') (fun _ s7 => Q s7) X.xe s6 :=
      fun S6 after => gone_ok (S6.unsuite I.ok) nd hi loc after
    intro f s6 fin
    match f, fin with
    | .next, ⟨τ6, G6, S6, q⟩ => exact gone S6 fun s7 J7 => ⟨_, _, J7, q⟩
    | .brk, ⟨τ6, G6, S6, q⟩ => exact gone S6 fun s7 J7 => ⟨_, _, J7, q⟩
    | .cont, ⟨τ6, G6, S6, q⟩ => exact gone S6 fun s7 J7 => ⟨_, _, J7, q⟩
    | .ret u, ⟨v, τ6, G6, S6, r, q⟩ => exact gone S6 fun s7 J7 => ⟨_, _, _, J7, r, q⟩
  · -- the body ends by itself
    intro f s1 fin
    have fin := SP.back (X := X) (pins := pins) fin fun J => J.ofTry I.ok
    match f, fin with
    | .next, fin => exact wpAny_execs_nil fin
    | .brk, fin => exact fin
    | .cont, fin => exact fin
    | .ret u, fin => exact fin
end
end Lw
set_option Elab.async false
set_option linter.all false
set_option maxRecDepth 100000
/-! a def that raises nothing, called while an error is handled: p is the handled one, of which Z is known -/
namespace Lw
open PySem PySem.Spec PyProof.Rows L2
structure FnC (P : Program) (w : World) (K : PySem.W.Frag) (mg : Str → Option Value) (base : Heap) (k : Nat) (f : Addr) (fd : FuncData) (ps : List Str) (Z : Addr × Obj → Prop) (sp : Sp) : Prop where
  len : ∀ vs H Q E, sp vs H Q E → vs.length = ps.length
  run : ∀ (A : Around) (outer : List Env) (s : Shared) (H : Hp) (args : Args) (us : List Value) (vs : List V) (Q : VK) (E : XK) (p : Addr × Obj), L2H.RoomH k A → Z p → L2H.PinOk outer H s p → Env0 P w K mg base A outer s H → BindsTo s fd args (ps.zip us) → Vals vs us → sp vs H Q E →
    codeAny (model P w) A (.call (.ref f) args) (CR CX0 outer P w H s Q E) s
theorem fn_ofC {P : Program} {w : World} {K : PySem.W.Frag} {mg : Str → Option Value} {base : Heap} {k : Nat} {x qual : Str} {st : Stmt} {f : Addr} {fd : FuncData} {N ps : List Str} {Z : Addr × Obj → Prop} {sp : Sp} (F : Fun K x qual st f fd) (S : FnScope N ps (defScope st))
    (len : ∀ vs H Q E, sp vs H Q E → vs.length = ps.length)
    (hbody : ∀ (cdv : Value) (A : Around) (outer : List Env) (s : Shared) (H : Hp) (vs : List V) (Q : VK) (E : XK) (p : Addr × Obj), Z p → L2H.RoomH k (A.deeper (envOfC qual (defScope st) s.heap.objs.size f cdv)) → sp vs H Q E →
      ∃ t, PSs (L2H.cxH CX0 P w K mg base N qual (defScope st) f cdv A outer s H E p) (defBody st) t ∧ t { nx := fun _ H' => Q .non H', rt := Q } (L2.start N vs) H) : FnC P w K mg base (k + 1) f fd ps Z sp := by
  obtain ⟨oc, od, kV, doc, pm, an, cdv, ct, osl, rfl, lk, hcd⟩ := F.ex
  refine ⟨len, fun A outer s H args us vs Q E p hr hz hpin e0 hb r hsp => ?_⟩
  have hl := len _ _ _ _ hsp
  have up : ∀ b o, base.get? b = some o → s.heap.get? b = some o := fun b o e => (e0.bs b o e).1
  have KX : K.In s.heap := e0.mod.kin.keeps up
  refine codeAny_call_function hr.depth (KX _ _ lk) rfl S.co S.gen rfl (PySem.W.codeRec_of KX hcd) (hb _ _ _ _ ?_)
  refine wpAny_newFunctionEnv_cells S.kind (fun y hy => ?_) fun env he s1 x => ?_
  · exact (S.par y.1 (List.of_mem_zip hy).1).imp id fun q => ⟨q, PySem.W.cellsFrom_some _ _ _ (.inl q)⟩
  · subst he
    refine ⟨(e0.mod.nolimit.keeps up).keeps x.toInCall.keep, codeAny_func ?_⟩
    obtain ⟨t, ht, hq⟩ := hbody cdv A outer s H vs Q E p hz (hr.deeper _) hsp
    refine wpAny_mono (ht.run [] s1 (L2.start N vs) H _ (L2H.inv_startH S hpin e0 hl r x) hq) (fun fl s' hs => ?_) fun e s' hs => hs
    cases fl with
    | ret u =>
      obtain ⟨v, σ', H', J, rv, q⟩ := hs
      exact ⟨v, H', J.os, J.bare, J.base, J.hok, rv, q⟩
    | next =>
      obtain ⟨σ', H', J, q⟩ := hs
      exact ⟨.non, H', J.os, J.bare, J.base, J.hok, rfl, q⟩
    | brk => exact hs.elim fun _ z => z.elim fun _ z => z.2.elim
    | cont => exact hs.elim fun _ z => z.elim fun _ z => z.2.elim
section
variable {X : Cx} {k : Nat} {f : Addr} {fd : FuncData} {ps : List Str} {Z : Addr × Obj → Prop} {sp : Sp} {x : Str} {q pos : Pos} {e : Expr} {es : List Expr} {ta : TA} {p : Addr × Obj}
theorem pe_callC (F : FnC X.prog X.w X.K X.mg X.base k f fd ps Z sp) (hr : L2H.RoomH k X.A) (hp : p ∈ X.pn) (hz : Z p) (hg : Gl X x) (hm : X.mg x = some (.ref f)) (hk : PySem.W.keepIn X.K (.ref f) = true) (hb : Binds X.K fd ps [])
    (ha : PA X (e :: es) ta) (hdb : (x == ("__debug__" : Str)) = false := by decide) (he : starEach (e :: es) X.env = (false, eval e X.env) :: starEach es X.env := by rfl) (hpl : (backTo pos (starEach es X.env)).any (·.1) = false := by rfl) :
    PE X (.Call (.Name x q) (e :: es) [] pos) (tCall sp [] E0 ta) := by
  refine ⟨fun pins s σ H Q I h => wpAny_Call_Name_kw (ld_glob I hg hm ?_ hdb)⟩
  refine PySem.W.callWith_K (h₀ := X.base) I.ok.mod.kin hk (thn (ha.run pos pins s σ H _ I h) fun us s1 ⟨vs, H1, I1, r, q⟩ => ⟨I1.kIn, ?_⟩) he hpl
  replace q : sp (vs ++ []) H1 Q E0 := q
  rw [List.append_nil] at q
  have b := hb s1 us I1.kIn (by rw [List.append_nil, ← r.length]; exact F.len _ _ _ _ q)
  rw [List.append_nil] at b
  have P1 := I1.pin p (List.mem_append_left _ hp)
  refine wpAny_call (codeAny_mono (F.run X.A X.stack s1 H1 ⟨us, []⟩ us vs Q E0 p hr hz ⟨P1.1, P1.2.1, fun hm => (List.mem_cons.mp (I1.stkSub p.1 hm)).elim P1.2.2.1 P1.2.2.2.1, P1.2.2.2.2⟩ I1.env0 b r q) fun r s' hq => ?_)
  cases r with
  | error e => exact (show False from hq).elim
  | ok fl =>
    cases fl with
    | ret u => exact I1.after hq
    | next => exact False.elim hq
    | brk => exact False.elim hq
    | cont => exact False.elim hq
/-- a field of the handled error, wherever it is pinned -/
theorem pe_xfP {a C : Addr} {oe : Obj} {dd : Addr} {te : TE} {n : Str} (T : XfC X.K C) (hno : PySem.W.findIn X.K (.ref C) n = some none) (hz : Zc (.ref C) (some dd) oe) (hf : ∃ vs, oe.data = .fields vs) (hp : (a, oe) ∈ X.pn) (he : PE X e te)
    (hb : attributeBase e n X.env (eval e X.env) = eval e X.env := by rfl) :
    PE X (.Attribute e n pos) (fun σ H Q => te σ H fun y H1 => y = .ref a ∧ ∃ (fs : List (Str × V)) (v : V), H1 dd = some (.xd fs) ∧ fs.lookup n = some v ∧ Q v H1) := by
  refine ⟨fun pins s σ H Q I h => attr_of hb (thn (he.run pins s σ H _ I h) fun u s1 hh => ?_)⟩
  obtain ⟨y, H1, I1, ry, rfl, fs, v, ed, l, q⟩ := hh
  obtain rfl : u = Value.ref a := ry
  obtain ⟨ha, _⟩ := I1.pin (a, oe) (List.mem_append_left _ hp)
  obtain ⟨vs, hd⟩ := hf
  obtain ⟨mA, hns, hr⟩ := (show ObjOk X.prog X.w H1 s1.heap dd (.xd fs) from I1.hok dd _ ed)
  obtain ⟨od, ho, hl⟩ := lookIn_ns hns
  obtain ⟨u, hu, ru⟩ := RelO.some_of (v := v) (o := mA n) (by rw [← l]; exact hr n)
  have J : PySem.W.InstAt s1.heap a oe C (some od) := ⟨ha, hz.1, by unfold PySem.W.notCls; rw [hd] <;> rfl, by rw [hz.2]; exact ho⟩
  exact HandSPX.exc_get I1.kIn J T.ga T.gg T.exC (PySem.W.findObj_own T.hdC hno rfl (by rw [hl, hu])) (handed_of ru) ⟨v, H1, I1.tok _, ru, q⟩
end
end Lw
set_option Elab.async false
set_option linter.all false
set_option maxRecDepth 100000
namespace Lw
open PySem PySem.Spec PyProof.Rows L2
abbrev sField : Stmt := top 15
abbrev sTried : Stmt := top 16
/-- the handled error at a: of the class at C, its dict at dd -/
def Zh (C a dd : Addr) : Addr × Obj → Prop := fun p => p.1 = a ∧ Zc (.ref C) (some dd) p.2 ∧ ∃ vs, p.2.data = .fields vs
def spField (a dd : Addr) (fld wd : Str) : Sp := fun vs H Q _ => ∃ n : Int, vs = [.ref a] ∧ H dd = some (.xd (erF fld wd n)) ∧ ∀ H', Same H H' → Q (.int n) H'
theorem same_new {H : Hp} {p : Addr} {o : HO} (h : H p = none) : Same H (upd H p o) := fun b x e => by
  rw [upd_ne (ne_of_none e h)]
  exact e
theorem ifT {c : Bool} {A B : Prop} (hc : c = true) (h : A) : if c = true then A else B := by
  rw [if_pos hc]
  exact h
theorem ifF {c : Bool} {A B : Prop} (hc : c = false) (h : B) : if c = true then A else B := by
  rw [if_neg (by rw [hc]; exact Bool.false_ne_true)]
  exact h
section
variable {P : Program} {w : World} {K : PySem.W.Frag} {mg : Str → Option Value} {base : Heap}
theorem scField : FnScope ["_law_e", "_law_fields", "_law_word", "_law_ask"] ["_law_e"] (defScope sField) := ⟨rfl, rfl, rfl, by decide +kernel, rfl, by decide +kernel, by decide +kernel⟩
set_option maxHeartbeats 4000000 in
theorem ok_field_outofrange {f C a dd : Addr} {fd : FuncData} {k : Nat} (F : Fun K "_law_field" "_law_field" sField f fd) (T : XfC K C) (nw : PySem.W.findIn K (.ref C) "word" = some none) (nn : PySem.W.findIn K (.ref C) "number" = some none) :
    FnC P w K mg base (k + 1) f fd ["_law_e"] (Zh C a dd) (spField a dd "number" "outofrange") := by
  have w0 : (("word" : Str) == ("number" : Str)) = false := by decide +kernel
  refine fn_ofC F scField (fun vs H Q E h => ?_) (fun cdv A outer s H vs Q E p hz hr h => ?_)
  · obtain ⟨n, rfl, _⟩ := h
    rfl
  · obtain ⟨n, rfl, hd, q⟩ := h
    obtain ⟨pa, po⟩ := p
    obtain ⟨rfl, hzc, hf⟩ := hz
    have hm : (pa, po) ∈ [(pa, po)] := List.mem_singleton.mpr rfl
    refine ⟨_, pss_cons (ps_if (pt_cmpR op_in_seq (pe_xfP T nw hzc hf hm (pv 0)) (pe_lst (pa_cons pe_str (pa_cons pe_str (pa_cons pe_str (pa_cons pe_str pa_nil))))) (by rfl)) (pss_one ps_never) pss_nil) (pss_cons (ps_if (pt_cmpR op_in_seq (pe_xfP T nw hzc hf hm (pv 0)) (pe_lst (pa_cons pe_str (pa_cons pe_str pa_nil))) (by rfl)) (pss_one ps_never) pss_nil) (pss_cons (ps_if (pt_cmpR op_in_seq (pe_xfP T nw hzc hf hm (pv 0)) (pe_lst (pa_cons pe_str (pa_cons pe_str (pa_cons pe_str (pa_cons pe_str pa_nil))))) (by rfl)) (pss_one ps_never) pss_nil) (pss_cons (ps_if (pt_cmpR op_in_seq (pe_xfP T nw hzc hf hm (pv 0)) (pe_lst (pa_cons pe_str (pa_cons pe_str (pa_cons pe_str pa_nil)))) (by rfl)) (pss_one (ps_ret (pe_xfP T nn hzc hf hm (pv 0)))) pss_nil) (pss_cons ps_never (pss_cons ps_never (pss_cons ps_never (pss_one ps_never))))))), ?_⟩
    have sz : ∀ m : Nat, m ≤ 10 → m ≤ sizeLine := fun m h => Nat.le_trans h (by rw [sizeLine_eq]; decide)
    have s0 : Same H H := fun _ _ z => z
    refine ⟨_, rfl, rfl, _, _, s0 _ _ hd, er_w w0, sz 4 (by decide), fun l1 h1 => ⟨l1, _, rfl, .inl (SqL.of upd_same), rfl, (by decide +kernel), _, rfl, ifF (by decide +kernel) ?_⟩⟩
    have s1 := s0.trans (same_new (o := .lst [.str "invalidname", .str "duplicatename", .str "nameinuse", .str "unknownname"]) h1)
    refine ⟨_, rfl, rfl, _, _, s1 _ _ hd, er_w w0, sz 2 (by decide), fun l2 h2 => ⟨l2, _, rfl, .inl (SqL.of upd_same), rfl, (by decide +kernel), _, rfl, ifF (by decide +kernel) ?_⟩⟩
    have s2 := s1.trans (same_new (o := .lst [.str "limitexceeded", .str "capacityexceeded"]) h2)
    refine ⟨_, rfl, rfl, _, _, s2 _ _ hd, er_w w0, sz 4 (by decide), fun l3 h3 => ⟨l3, _, rfl, .inl (SqL.of upd_same), rfl, (by decide +kernel), _, rfl, ifF (by decide +kernel) ?_⟩⟩
    have s3 := s2.trans (same_new (o := .lst [.str "invalidgraph", .str "invalidrow", .str "invalidpath", .str "invalidcode"]) h3)
    refine ⟨_, rfl, rfl, _, _, s3 _ _ hd, er_w w0, sz 3 (by decide), fun l4 h4 => ⟨l4, _, rfl, .inl (SqL.of upd_same), rfl, (by decide +kernel), _, rfl, ifT (by decide +kernel) ?_⟩⟩
    have s4 := s3.trans (same_new (o := .lst [.str "outofrange", .str "invalidwidth", .str "invalidcapacity"]) h4)
    exact ⟨_, rfl, rfl, _, _, s4 _ _ hd, er_n, q _ s4⟩

abbrev sOutOfRange : Stmt := inClass (top 5) 0
theorem scOutOfRange : FnScope ["self", "number"] ["self", "number"] (defScope sOutOfRange) := ⟨rfl, rfl, rfl, by decide +kernel, rfl, by decide +kernel, by decide +kernel⟩
theorem ok_outofrange {f C CW fW : Addr} {mc : Value} {fd fdW : FuncData} {k : Nat} (F : Fun K "__init__" "OutOfRange.__init__" sOutOfRange f fd) (T : OexC K C) (nw : PySem.W.findIn K (.ref C) "word" = some none) (nn : PySem.W.findIn K (.ref C) "number" = some none)
    (gW : mg "WindowError" = some (.ref CW)) (rW : ClX.CRead K CW mc) (vW : ClX.CVal K CW mc "__init__" (.ref fW) (.ref fW)) (kW : PySem.W.keepIn K (.ref fW) = true) (FW : FnOk P w K mg base CX0 1 fW fdW ["self", "word", "told"] (spWin K)) (bW : Binds K fdW ["self", "word", "told"] []) :
    FnOk P w K mg base CX0 (k + 2) f fd ["self", "number"] (spErr C "number" "outofrange") := by
  refine F.ok scOutOfRange (fun vs H Q E h => ?_) (fun cdv A outer s H vs Q E hr h => ?_)
  · obtain ⟨a, n, rfl, _⟩ := h
    rfl
  · obtain ⟨a, n, rfl, hn, ha, q⟩ := h
    refine ⟨_, pss_cons (ps_expr (pe_clsfn (by rfl) gW rW vW kW FW (hr.mono (Nat.le_add_left 1 k)) bW .nil pass0 (pa_cons (pv 0) (pa_cons pe_str (pa_cons (pe_joined (.cons pe_str (.cons (pe_fmt (pv 1)) .nil))) pa_nil))))) (pss_one (ps_ost (pv 0) (pv 1))), ?_⟩
    have z0 : (Str.empty ++ Str.ofString "nothing has the number ").length = 23 := by decide +kernel
    have zn := int_text_len_1921 (log_big hn)
    have hsz : ∀ m : Nat, m ≤ 3000 → m ≤ sizeLine := fun m h => Nat.le_trans h (by rw [sizeLine_eq]; decide)
    refine ⟨_, rfl, _, rfl, hsz _ (by rw [z0]; decide), _, rfl, .inr ⟨n, rfl, log_big hn, _, rfl, hsz _ (by rw [len_app0, z0]; omega), ?_⟩⟩
    refine ⟨a, C, _, _, rfl, T, nw, ha, fun d hd ne => ?_⟩
    have ed : upd (upd H d (exd d [("word", .str "outofrange")])) a (exo a C (some d)) d = some (exd d [("word", .str "outofrange")]) := by
      rw [upd_ne ne]
      exact upd_same
    exact ⟨_, rfl, _, rfl, a, C, rfl, T, nn, .inr ⟨d, _, upd_same, ed, (by show 1 ≤ 900; decide), q d hd ne⟩⟩

end
end Lw
set_option Elab.async false
set_option linter.all false
set_option maxRecDepth 100000
namespace Lw
open PySem PySem.Spec PyProof.Rows L2
/-- an error that `_law_tried` tells: its word and its field -/
structure ErOk (P : Program) (w : World) (K : PySem.W.Frag) (mg : Str → Option Value) (base : Heap) (CW fF : Addr) (fdF : FuncData) (C : Addr) (fld wd : Str) : Prop where
  ex : PySem.W.exmOne K (.ref C) (.ref CW) = some true
  T : XfC K C
  nw : PySem.W.findIn K (.ref C) "word" = some none
  nf : (("word" : Str) == fld) = false
  FF : ∀ a dd, FnC P w K mg base 1 fF fdF ["_law_e"] (Zh C a dd) (spField a dd fld wd)
/-- what `_law_tried` makes of what it calls: ('', value), or the word and the field of an own error -/
def Tried (Er : Addr → Str → Str → Prop) : (XK → Hp → VK → Prop) → Hp → VK → Prop := fun tl H Q =>
  tl (fun cls d H' => ∃ (C dd : Addr) (fld wd : Str) (n : Int), Er C fld wd ∧ cls = .ref C ∧ d = some dd ∧ H' dd = some (.xd (erF fld wd n)) ∧ ∀ H2 p, Same H' H2 → H' p = none → H2 p = some (.tup [.str wd, .int n]) → Q (.ref p) H2) H
    (fun v H' => [V.str "", v].length ≤ sizeLine ∧ ∀ p, H' p = none → Q (.ref p) (upd H' p (.tup [.str "", v])))
section
variable {X : Cx}
theorem scTried : FnScope ["_law_ask", "_law_e"] ["_law_ask"] (defScope sTried) := ⟨rfl, rfl, rfl, by decide +kernel, rfl, by decide +kernel, by decide +kernel⟩
set_option maxHeartbeats 4000000 in
theorem tried_gives {q : Str} {g CW fF : Addr} {cdg : Value} {fdF : FuncData} (hr : Room 2 X.A) (gW : X.mg "WindowError" = some (.ref CW))
    (gF : X.mg "_law_field" = some (.ref fF)) (kF : PySem.W.keepIn X.K (.ref fF) = true) (bF : L2.Binds X.K fdF ["_law_e"] []) :
    LamX.GivesTo X ["_law_ask", "_law_e"] "_law_tried" (defScope sTried) g cdg (defBody sTried) "_law_ask" q (Tried (ErOk X.prog X.w X.K X.mg X.base CW fF fdF)) := by
  intro f c' s H Q tl act hc h
  have two : 2 ≤ sizeLine := by decide
  refine ⟨_, pss_one (ps_try_first (X := (cxOf C8.CX0 X.prog X.w X.K X.mg X.base ["_law_ask", "_law_e"] "_law_tried" (defScope sTried) g cdg X.A X.stack s H C8.E0).nox) (i := 1) (c := .ref CW)
      (tb := fun W D σ H => ∃ Ech : XK, (∀ cls d σ' H', Ech cls d H' → W cls d σ' H') ∧ σ[0]? = some (some (.ref f)) ∧ H c' = some (LamX.CodeO c' q) ∧ tl Ech H (fun v H' => [V.str "", v].length ≤ sizeLine ∧ ∀ p, H' p = none → D.rt (.ref p) (upd H' p (.tup [.str "", v]))))
      (ts := fun a cls d D σ H => ∃ (C dd : Addr) (fld wd : Str), ErOk X.prog X.w X.K X.mg X.base CW fF fdF C fld wd ∧ cls = .ref C ∧ d = some dd ∧ (∃ σ0 : L2.St, σ = σ0.set 1 (some (.ref a))) ∧ ∃ n : Int, H dd = some (.xd (erF fld wd n)) ∧ ∀ H2 p, Same H H2 → H p = none → H2 p = some (.tup [.str wd, .int n]) → D.rt (.ref p) H2)
      rfl rfl scTried.nd rfl rfl ⟨rfl, by decide, .inl gW⟩ (fun W pn xe tk _ => ?_) (fun a oe cls d pn hz hf => ?_)), ?_⟩
  · refine ⟨fun pins s' σ H' D I h' => ?_⟩
    obtain ⟨Ech, hW, h1, h2, h3⟩ := h'
    exact (pss_one (ps_ret (pe_tup (pa_cons pe_str (pa_cons (act W pn xe Ech _ _ tk hW) pa_nil))))).run pins s' σ H' D I ⟨h1, h2, h3⟩
  · refine ⟨fun pins s' σ H' D I h' => ?_⟩
    obtain ⟨C, dd, fld, wd, ok, rfl, rfl, ⟨σ0, rfl⟩, n, h2, h3⟩ := h'
    have h1 : (σ0.set 1 (some (.ref a)))[1]? = some (some (V.ref a)) := by
      have l2 : (σ0.set 1 (some (.ref a))).length = 2 := I.len
      rw [List.length_set] at l2
      rw [List.getElem?_set_self (by omega)]
    have hrm : L2H.RoomH 1 ((cxOf C8.CX0 X.prog X.w X.K X.mg X.base ["_law_ask", "_law_e"] "_law_tried" (defScope sTried) g cdg X.A X.stack s H C8.E0).nox.suite a ((a, oe) :: pn)).A := ⟨by have := hr.dp; show X.A.depth + 1 + 3 * 1 + 5 < _; omega, by have := hr.un; show X.A.units + 3 + 16 * 1 + 200 < _; omega⟩
    refine (pss_one (ps_ret (pe_tup (pa_cons (pe_xfP (X := ((cxOf C8.CX0 X.prog X.w X.K X.mg X.base ["_law_ask", "_law_e"] "_law_tried" (defScope sTried) g cdg X.A X.stack s H C8.E0).nox.suite a ((a, oe) :: pn))) ok.T ok.nw hz hf List.mem_cons_self (pv 1)) (pa_cons (pe_callC (X := ((cxOf C8.CX0 X.prog X.w X.K X.mg X.base ["_law_ask", "_law_e"] "_law_tried" (defScope sTried) g cdg X.A X.stack s H C8.E0).nox.suite a ((a, oe) :: pn))) (p := (a, oe)) (ok.FF a dd) hrm List.mem_cons_self ⟨rfl, hz, hf⟩ (by rfl) gF kF bF (pa_cons (pv 1) pa_nil)) pa_nil))))).run pins s' _ H' D I ?_
    refine ⟨_, h1, rfl, _, _, h2, er_w ok.nf, _, h1, n, rfl, h2, fun H2 s2 => ⟨two, fun p hp => ?_⟩⟩
    exact h3 _ p (s2.trans (same_new hp)) (s2.free hp) upd_same
  · exact ⟨_, fun cls d σ' H' ⟨C, dd, fld, wd, n, ok, e1, e2, e3, e4⟩ => ⟨by rw [e1]; exact ok.ex, fun a na => ⟨C, dd, fld, wd, ok, e1, e2, ⟨σ', rfl⟩, n, e3, e4⟩⟩, rfl, hc, h⟩
end
end Lw
set_option Elab.async false
set_option linter.all false
set_option maxRecDepth 100000
namespace Lw
open PySem L2
abbrev sEdge : Stmt := inClass (top 9) 9
abbrev sLeaving : Stmt := inClass (top 9) 10
abbrev sEntering : Stmt := inClass (top 9) 11
abbrev sCheckState : Stmt := inClass (top 9) 12
/-! ### numbers of edges that are chosen -/
def sel (f : Int × Int → Bool) (ps : List (Int × Int)) (i : Nat) : List Int := ((List.range i).filter fun j => (ps[j]?.map f).getD false).map fun j : Nat => (j : Int)
theorem sel_succ {f : Int × Int → Bool} {ps : List (Int × Int)} {i : Nat} {p : Int × Int} (h : ps[i]? = some p) : sel f ps (i + 1) = if f p = true then sel f ps i ++ [(i : Int)] else sel f ps i := by
  unfold sel
  rw [List.range_succ, List.filter_append, List.map_append]
  by_cases hf : f p = true
  · rw [if_pos hf]
    simp [h, hf]
  · rw [if_neg hf]
    simp [h, hf]
theorem sel_len (f : Int × Int → Bool) (ps : List (Int × Int)) (i : Nat) : (sel f ps i).length ≤ i := by
  unfold sel
  rw [List.length_map]
  refine Nat.le_trans (List.length_filter_le _ _) ?_
  simp
theorem psOf_at {us : Es} {i : Nat} {e : Addr × Int × Int} (h : us[i]? = some e) : (psOf us)[i]? = some e.2 := by
  unfold psOf
  rw [List.getElem?_map, h]
  rfl
theorem vsOf_get {us : Es} {i : Nat} {e : Addr × Int × Int} (h : us[i]? = some e) : (vsOf us)[i]? = some (.ref e.1) := by
  unfold vsOf
  rw [List.getElem?_map, h]
  rfl
/-! ### promises -/
def spEdge0 (C : Addr) : Sp := fun vs H Q _ => ∃ (g : Addr) (n : Int) (us : Es) (i : Nat) (e : Addr × Int × Int), vs = [.ref g, .int (i : Int)] ∧ GraphAt C H g n us ∧ us[i]? = some e ∧ Q (.ref e.1) H
def spEdgeX (C CO : Addr) : Sp := fun vs H _ E => ∃ (g : Addr) (n : Int) (us : Es) (i : Int), vs = [.ref g, .int i] ∧ GraphAt C H g n us ∧ ¬ (0 ≤ i ∧ i < (us.length : Int)) ∧ i.natAbs < 10 ^ 100 ∧ ∀ d, H d = none → E (.ref CO) (some d) (upd H d (.xd (erF "number" "outofrange" i)))
def spState0 (C : Addr) : Sp := fun vs H Q _ => ∃ (g : Addr) (n : Int) (us : Es) (i : Int), vs = [.ref g, .int i] ∧ GraphAt C H g n us ∧ 0 ≤ i ∧ i < n ∧ Q .non H
def spStateX (C CO : Addr) : Sp := fun vs H _ E => ∃ (g : Addr) (n : Int) (us : Es) (i : Int), vs = [.ref g, .int i] ∧ GraphAt C H g n us ∧ ¬ (0 ≤ i ∧ i < n) ∧ i.natAbs < 10 ^ 100 ∧ ∀ d, H d = none → E (.ref CO) (some d) (upd H d (.xd (erF "number" "outofrange" i)))
def spAll (C : Addr) (f : Int → Int × Int → Bool) : Sp := fun vs H Q _ => ∃ (g : Addr) (n : Int) (us : Es) (i : Int), vs = [.ref g, .int i] ∧ GraphAt C H g n us ∧ 0 ≤ i ∧ i < n ∧ us.length ≤ 1000 ∧
  ∀ p H', Same H H' → H p = none → H' p = some (.lst ((sel (f i) (psOf us) us.length).map V.int)) → Q (.ref p) H'
abbrev fstIs (i : Int) (p : Int × Int) : Bool := decide (p.1 = i)
abbrev sndIs (i : Int) (p : Int × Int) : Bool := decide (p.2 = i)
section
variable {P : Program} {w : World} {K : PySem.W.Frag} {mg : Str → Option Value} {base : Heap}
theorem scEdge : FnScope ["self", "number"] ["self", "number"] (defScope sEdge) := ⟨rfl, rfl, rfl, by decide +kernel, rfl, by decide +kernel, by decide +kernel⟩
theorem ok_edge0 {f C : Addr} {mc : Value} {fd : FuncData} {k : Nat} (F : Fun K "edge" "Graph.edge" sEdge f fd) (T : Bi mg) (G : GTxt K mg C mc) : FnOk P w K mg base CX0 (k + 1) f fd ["self", "number"] (spEdge0 C) := by
  refine F.ok scEdge (fun vs H Q E h => ?_) (fun cdv A outer s H vs Q E hr h => ?_)
  · obtain ⟨g, n, us, i, e, rfl, _⟩ := h
    rfl
  · obtain ⟨g, n, us, i, e, rfl, ⟨⟨dx, t, h1, h2⟩, ed⟩, hi, q⟩ := h
    refine ⟨_, pss_cons (ps_if (pt_not (pt_chain op_le op_lt pe_int (pv 1) (pe_callB call_len_seq (by rfl) T.len PySem.boot_len (pa_cons (pe_fld (pv 0) rfl) pa_nil)))) (pss_one ps_never) pss_nil)
      (pss_one (ps_ret (pe_ix ix_tup (pe_fld (pv 0) rfl) (pv 1) (fun _ _ => rfl)))), ?_⟩
    have hlt : i < us.length := (List.getElem?_eq_some_iff.mp hi).1
    refine ⟨_, rfl, _, _, rfl, rfl, _, rfl, if_t (decide_eq_true (by omega)) ⟨_, rfl, g, C, dx, _, _, rfl, h1, G.cl, G.nE, look_e _ _, t, _, rfl, .inr (SqT.of h2), _, _, rfl, rfl, _, rfl, if_f (by rw [vsOf_len, decide_eq_true (by omega)]; rfl) ?_⟩⟩
    exact ⟨_, rfl, g, C, dx, _, _, rfl, h1, G.cl, G.nE, look_e _ _, _, rfl, t, _, _, _, rfl, rfl, SqT.of h2, atI_nat (vsOf_get hi), q⟩
theorem ok_edgeX {f C CO : Addr} {mc : Value} {fd : FuncData} {k : Nat} (F : Fun K "edge" "Graph.edge" sEdge f fd) (T : Bi mg) (G : GTxt K mg C mc) (R : ErrIn P w K mg base "OutOfRange" CO "number" "outofrange") : FnOk P w K mg base (L2.CX P w) (k + 4) f fd ["self", "number"] (spEdgeX C CO) := by
  refine F.okX scEdge (fun vs H Q E h => ?_) (fun cdv A outer s H vs Q E hr h => ?_)
  · obtain ⟨g, n, us, i, rfl, _⟩ := h
    rfl
  · obtain ⟨g, n, us, i, rfl, ⟨⟨dx, t, h1, h2⟩, ed⟩, hi, hn, kE⟩ := h
    refine ⟨_, pss_cons (ps_if (pt_not (pt_chain op_le op_lt pe_int (pv 1) (pe_callB call_len_seq (by rfl) T.len PySem.boot_len (pa_cons (pe_fld (pv 0) rfl) pa_nil)))) (pss_one (ps_raiseE rfl (takes_of rfl rfl rfl rfl) R hr (by omega) (by rfl) (pa_cons (pv 1) pa_nil))) pss_nil)
      (pss_one ps_never), ?_⟩
    refine ⟨_, rfl, _, _, rfl, rfl, _, rfl, ?_⟩
    by_cases h0 : 0 ≤ i
    · refine if_t (decide_eq_true h0) ⟨_, rfl, g, C, dx, _, _, rfl, h1, G.cl, G.nE, look_e _ _, t, _, rfl, .inr (SqT.of h2), _, _, rfl, rfl, _, rfl, if_t (by rw [vsOf_len, decide_eq_false (by omega)]; rfl) ?_⟩
      exact ⟨_, rfl, er_tail hn kE⟩
    · refine if_f (decide_eq_false h0) ⟨_, rfl, if_t rfl ?_⟩
      exact ⟨_, rfl, er_tail hn kE⟩
theorem scCheckState : FnScope ["self", "state"] ["self", "state"] (defScope sCheckState) := ⟨rfl, rfl, rfl, by decide +kernel, rfl, by decide +kernel, by decide +kernel⟩
theorem ok_state0 {f C : Addr} {mc : Value} {fd : FuncData} {k : Nat} (F : Fun K "check_state" "Graph.check_state" sCheckState f fd) (G : GTxt K mg C mc) : FnOk P w K mg base CX0 (k + 1) f fd ["self", "state"] (spState0 C) := by
  refine F.ok scCheckState (fun vs H Q E h => ?_) (fun cdv A outer s H vs Q E hr h => ?_)
  · obtain ⟨g, n, us, i, rfl, _⟩ := h
    rfl
  · obtain ⟨g, n, us, i, rfl, ⟨⟨dx, t, h1, h2⟩, ed⟩, h0, hn, q⟩ := h
    refine ⟨_, pss_one (ps_if (pt_not (pt_chain op_le op_lt pe_int (pv 1) (pe_fld (pv 0) rfl))) (pss_one ps_never) pss_nil), ?_⟩
    refine ⟨_, rfl, _, _, rfl, rfl, _, rfl, if_t (decide_eq_true h0) ⟨_, rfl, g, C, dx, _, _, rfl, h1, G.cl, G.nS, look_s _ _, _, _, rfl, rfl, _, rfl, if_f (by rw [decide_eq_true hn]; rfl) q⟩⟩
theorem ok_stateX {f C CO : Addr} {mc : Value} {fd : FuncData} {k : Nat} (F : Fun K "check_state" "Graph.check_state" sCheckState f fd) (G : GTxt K mg C mc) (R : ErrIn P w K mg base "OutOfRange" CO "number" "outofrange") : FnOk P w K mg base (L2.CX P w) (k + 4) f fd ["self", "state"] (spStateX C CO) := by
  refine F.okX scCheckState (fun vs H Q E h => ?_) (fun cdv A outer s H vs Q E hr h => ?_)
  · obtain ⟨g, n, us, i, rfl, _⟩ := h
    rfl
  · obtain ⟨g, n, us, i, rfl, ⟨⟨dx, t, h1, h2⟩, ed⟩, hi, hn, kE⟩ := h
    refine ⟨_, pss_one (ps_if (pt_not (pt_chain op_le op_lt pe_int (pv 1) (pe_fld (pv 0) rfl))) (pss_one (ps_raiseE rfl (takes_of rfl rfl rfl rfl) R hr (by omega) (by rfl) (pa_cons (pv 1) pa_nil))) pss_nil), ?_⟩
    refine ⟨_, rfl, _, _, rfl, rfl, _, rfl, ?_⟩
    by_cases h0 : 0 ≤ i
    · refine if_t (decide_eq_true h0) ⟨_, rfl, g, C, dx, _, _, rfl, h1, G.cl, G.nS, look_s _ _, _, _, rfl, rfl, _, rfl, if_t (by rw [decide_eq_false (by omega)]; rfl) ?_⟩
      exact ⟨_, rfl, er_tail hn kE⟩
    · refine if_f (decide_eq_false h0) ⟨_, rfl, if_t rfl ?_⟩
      exact ⟨_, rfl, er_tail hn kE⟩
theorem scLeaving : FnScope ["self", "state", "number", "edge"] ["self", "state"] (defScope sLeaving) := ⟨rfl, rfl, rfl, by decide +kernel, rfl, by decide +kernel, by decide +kernel⟩
theorem scEntering : FnScope ["self", "state", "number", "edge"] ["self", "state"] (defScope sEntering) := ⟨rfl, rfl, rfl, by decide +kernel, rfl, by decide +kernel, by decide +kernel⟩
theorem dec_of_int {i j : Int} : decide (V.int i = V.int j) = decide (i = j) := by
  by_cases h : i = j
  · rw [h, decide_eq_true rfl, decide_eq_true rfl]
  · rw [decide_eq_false h, decide_eq_false (fun z => h (by injection z))]
set_option maxHeartbeats 4000000 in
theorem ok_leaving0 {f C : Addr} {mc : Value} {fd : FuncData} {k : Nat} (F : Fun K "leaving" "Graph.leaving" sLeaving f fd) (G : GTxt K mg C mc) (cS : C8.Met P w K mg base 1 C "check_state" (spState0 C) []) : FnOk P w K mg base CX0 (k + 2) f fd ["self", "state"] (spAll C fstIs) := by
  refine F.ok scLeaving (fun vs H Q E h => ?_) (fun cdv A outer s H vs Q E hr h => ?_)
  · obtain ⟨g, n, us, i, rfl, _⟩ := h
    rfl
  · obtain ⟨g, n, us, i, rfl, GA, h0, hn, hl, q⟩ := h
    obtain ⟨⟨dx, t, h1, h2⟩, ed⟩ := id GA
    refine ⟨_, pss_cons (ps_expr (C8.pe_mt cS hr (Nat.le_add_left 1 k) (pv 0) (pa_cons (pv 1) pa_nil)))
      (pss_one (ps_ret (pe_lc (own := [("number", 2), ("edge", 3)]) (g := gTup K 2 (gCons (gName 2) (gCons (gName 3) gNil))) (tt := tTest (tOp rEq (tOp (rIxT K) (tVar 3) (tC (.int 0))) (tVar 1))) (te := tVar 2) rfl scLeaving.nd (pi_enumA (by rfl) G.enum (pa_cons (pe_fld (pv 0) rfl) pa_nil))
          (blkOk_by (N := ["self", "state", "number", "edge"]) (sc := defScope sLeaving) (by decide +kernel))
          (fun _ _ _ _ _ => by exact pg_tup rfl (pgs_cons (pg_name (i := 2) scLeaving.nd rfl (Or.inl rfl)) (pgs_cons (pg_name (i := 3) scLeaving.nd rfl (Or.inl rfl)) pgs_nil)))
          (fun _ _ _ _ _ => by exact pts_one (pt_cmpR op_eq (pe_ix ix_tup (pv 3) pe_int (fun _ _ => rfl)) (pv 1) (nomark _)))
          (fun _ _ _ _ _ => by exact pv 2)))), ?_⟩
    refine ⟨_, rfl, g, dx, _, rfl, h1, look_no _ _ (by decide +kernel) (by decide +kernel), _, rfl, g, n, us, i, rfl, GA, h0, hn, ?_⟩
    refine ⟨_, rfl, g, C, dx, _, _, rfl, h1, G.cl, G.nE, look_e _ _, t, vsOf us, SqT, rfl, .inr rfl, SqT.of h2, fun J w D hD => ?_⟩
    refine lc_it w (fun j H' => Same H H' ∧ H' D = some (.lst ((sel (fstIs i) (psOf us) j).map V.int))) ⟨same_upd hD, upd_same⟩ (fun j H' _ p => SqT.of (p.1 _ _ h2)) ?_ ?_
    · rintro j x H1 H' hj ⟨sm, eD⟩ ⟨Ta, x, y, rfl, hT, rfl, gx, gy⟩
      obtain ⟨e, he, rfl⟩ := vsOf_at gy
      have ex : x = .int (j : Nat) := (Option.some.inj gx).symm
      subst ex
      have s1 := sm.trans (same_upd (o := .tup [.int (j : Nat), .ref e.1]) hT)
      have mem : e ∈ us := List.mem_of_getElem? he
      have eD1 := same_upd (o := .tup [.int (j : Nat), .ref e.1]) hT _ _ eD
      refine ⟨Ta, _, rfl, SqT.of upd_same, rfl, _, _, rfl, _, _, rfl, rfl, rfl, ?_⟩
      refine ⟨_, rfl, e.1, _, _, _, rfl, rfl, SqT.of (s1 _ _ (ed e mem)), at0, _, rfl, rfl, _, rfl, ?_⟩
      rw [dec_of_int, sel_succ (psOf_at he)]
      by_cases hc : e.2.1 = i
      · refine if_t (decide_eq_true hc) ?_
        rw [if_pos (decide_eq_true hc)]
        refine ⟨_, rfl, _, eD1, ?_, ?_, ?_⟩
        · rw [List.length_map]
          exact small1000 (Nat.le_trans (sel_len _ _ _) (by rw [vsOf_len] at hj; omega))
        · intro c o ec
          rw [upd_ne (ne_of_none ec hD)]
          exact s1 _ _ ec
        · rw [upd_same, List.map_append]
          rfl
      · refine if_f (decide_eq_false hc) ?_
        rw [if_neg (fun z => hc (of_decide_eq_true z))]
        exact ⟨s1, eD1⟩
    · rintro H1 ⟨sm, eD⟩
      rw [vsOf_len] at eD
      exact q D H1 sm hD eD
set_option maxHeartbeats 4000000 in
theorem ok_entering0 {f C : Addr} {mc : Value} {fd : FuncData} {k : Nat} (F : Fun K "entering" "Graph.entering" sEntering f fd) (G : GTxt K mg C mc) (cS : C8.Met P w K mg base 1 C "check_state" (spState0 C) []) : FnOk P w K mg base CX0 (k + 2) f fd ["self", "state"] (spAll C sndIs) := by
  refine F.ok scEntering (fun vs H Q E h => ?_) (fun cdv A outer s H vs Q E hr h => ?_)
  · obtain ⟨g, n, us, i, rfl, _⟩ := h
    rfl
  · obtain ⟨g, n, us, i, rfl, GA, h0, hn, hl, q⟩ := h
    obtain ⟨⟨dx, t, h1, h2⟩, ed⟩ := id GA
    refine ⟨_, pss_cons (ps_expr (C8.pe_mt cS hr (Nat.le_add_left 1 k) (pv 0) (pa_cons (pv 1) pa_nil)))
      (pss_one (ps_ret (pe_lc (own := [("number", 2), ("edge", 3)]) (g := gTup K 2 (gCons (gName 2) (gCons (gName 3) gNil))) (tt := tTest (tOp rEq (tOp (rIxT K) (tVar 3) (tC (.int 1))) (tVar 1))) (te := tVar 2) rfl scEntering.nd (pi_enumA (by rfl) G.enum (pa_cons (pe_fld (pv 0) rfl) pa_nil))
          (blkOk_by (N := ["self", "state", "number", "edge"]) (sc := defScope sEntering) (by decide +kernel))
          (fun _ _ _ _ _ => by exact pg_tup rfl (pgs_cons (pg_name (i := 2) scEntering.nd rfl (Or.inl rfl)) (pgs_cons (pg_name (i := 3) scEntering.nd rfl (Or.inl rfl)) pgs_nil)))
          (fun _ _ _ _ _ => by exact pts_one (pt_cmpR op_eq (pe_ix ix_tup (pv 3) pe_int (fun _ _ => rfl)) (pv 1) (nomark _)))
          (fun _ _ _ _ _ => by exact pv 2)))), ?_⟩
    refine ⟨_, rfl, g, dx, _, rfl, h1, look_no _ _ (by decide +kernel) (by decide +kernel), _, rfl, g, n, us, i, rfl, GA, h0, hn, ?_⟩
    refine ⟨_, rfl, g, C, dx, _, _, rfl, h1, G.cl, G.nE, look_e _ _, t, vsOf us, SqT, rfl, .inr rfl, SqT.of h2, fun J w D hD => ?_⟩
    refine lc_it w (fun j H' => Same H H' ∧ H' D = some (.lst ((sel (sndIs i) (psOf us) j).map V.int))) ⟨same_upd hD, upd_same⟩ (fun j H' _ p => SqT.of (p.1 _ _ h2)) ?_ ?_
    · rintro j x H1 H' hj ⟨sm, eD⟩ ⟨Ta, x, y, rfl, hT, rfl, gx, gy⟩
      obtain ⟨e, he, rfl⟩ := vsOf_at gy
      have ex : x = .int (j : Nat) := (Option.some.inj gx).symm
      subst ex
      have s1 := sm.trans (same_upd (o := .tup [.int (j : Nat), .ref e.1]) hT)
      have mem : e ∈ us := List.mem_of_getElem? he
      have eD1 := same_upd (o := .tup [.int (j : Nat), .ref e.1]) hT _ _ eD
      refine ⟨Ta, _, rfl, SqT.of upd_same, rfl, _, _, rfl, _, _, rfl, rfl, rfl, ?_⟩
      refine ⟨_, rfl, e.1, _, _, _, rfl, rfl, SqT.of (s1 _ _ (ed e mem)), at1, _, rfl, rfl, _, rfl, ?_⟩
      rw [dec_of_int, sel_succ (psOf_at he)]
      by_cases hc : e.2.2 = i
      · refine if_t (decide_eq_true hc) ?_
        rw [if_pos (decide_eq_true hc)]
        refine ⟨_, rfl, _, eD1, ?_, ?_, ?_⟩
        · rw [List.length_map]
          exact small1000 (Nat.le_trans (sel_len _ _ _) (by rw [vsOf_len] at hj; omega))
        · intro c o ec
          rw [upd_ne (ne_of_none ec hD)]
          exact s1 _ _ ec
        · rw [upd_same, List.map_append]
          rfl
      · refine if_f (decide_eq_false hc) ?_
        rw [if_neg (fun z => hc (of_decide_eq_true z))]
        exact ⟨s1, eD1⟩
    · rintro H1 ⟨sm, eD⟩
      rw [vsOf_len] at eD
      exact q D H1 sm hD eD
/-- a method of the class that may raise -/
structure MetX (P : Program) (w : World) (K : PySem.W.Frag) (mg : Str → Option Value) (base : Heap) (k : Nat) (C : Addr) (m : Str) (sp : Sp) : Prop where
  ex : ∃ (f : Addr) (fd : FuncData) (ps : List Str), Cls K C ∧ Meth K C m f ∧ FnOk P w K mg base (L2.CX P w) k f fd ps sp ∧ Binds K fd ps []
theorem pe_mtX {X : Cx} {W : WX} {E : XK} {k j : Nat} {C : Addr} {m : Str} {sp : Sp} {e o : Expr} {es : List Expr} {ta : TE} {t : TA} {apos pos : Pos} {pl : Sem Bool} (c : MetX X.prog X.w X.K X.mg X.base k C m sp) (tk : Takes X W) (hW : ∀ cls d σ H, E cls d H → W cls d σ H) (hr : Room j X.A) (hk : k ≤ j) (he : PE X o ta) (ha : PA X (e :: es) t)
    (hst : starEach (e :: es) X.env = (false, eval e X.env) :: starEach es X.env := by rfl) (hpl : (backTo pos (starEach es X.env)).any (·.1) = false := by rfl)
    (ht : eval (.Call (.Attribute o m apos) (e :: es) [] pos) X.env = (do
      let ov ← eval o X.env
      standAt apos.atName
      let (f, first) ← holding [ov] (getMethod ov m pl)
      callWith pos f first (backTo pos (starEach (e :: es) X.env)) (backToKw pos (keywordEach [] X.env))) := by rfl) :
    PE X (.Call (.Attribute o m apos) (e :: es) [] pos) (tMeth C m sp [] E ta t) := by
  obtain ⟨f, fd, ps, hc, hm, F, b⟩ := c.ex
  exact pe_meth (pl := pl) he hc hm F (hr.mono hk) b .nil (passes_call tk hW) ha hst hpl ht
theorem ok_leavingX {f C CO : Addr} {mc : Value} {fd : FuncData} {k : Nat} (F : Fun K "leaving" "Graph.leaving" sLeaving f fd) (G : GTxt K mg C mc) (cS : MetX P w K mg base 4 C "check_state" (spStateX C CO)) : FnOk P w K mg base (L2.CX P w) (k + 5) f fd ["self", "state"] (spStateX C CO) := by
  refine F.okX scLeaving (fun vs H Q E h => ?_) (fun cdv A outer s H vs Q E hr h => ?_)
  · obtain ⟨g, n, us, i, rfl, _⟩ := h
    rfl
  · obtain ⟨g, n, us, i, rfl, GA, hi, hn, kE⟩ := h
    obtain ⟨⟨dx, t, h1, h2⟩, ed⟩ := id GA
    refine ⟨_, pss_cons (ps_expr (pe_mtX cS (takes_of rfl rfl rfl rfl) (fun _ _ _ _ h => h) hr (by omega) (pv 0) (pa_cons (pv 1) pa_nil))) (pss_one ps_never), ?_⟩
    exact ⟨_, rfl, g, dx, _, rfl, h1, look_no _ _ (by decide +kernel) (by decide +kernel), _, rfl, g, n, us, i, rfl, GA, hi, hn, kE⟩
theorem ok_enteringX {f C CO : Addr} {mc : Value} {fd : FuncData} {k : Nat} (F : Fun K "entering" "Graph.entering" sEntering f fd) (G : GTxt K mg C mc) (cS : MetX P w K mg base 4 C "check_state" (spStateX C CO)) : FnOk P w K mg base (L2.CX P w) (k + 5) f fd ["self", "state"] (spStateX C CO) := by
  refine F.okX scEntering (fun vs H Q E h => ?_) (fun cdv A outer s H vs Q E hr h => ?_)
  · obtain ⟨g, n, us, i, rfl, _⟩ := h
    rfl
  · obtain ⟨g, n, us, i, rfl, GA, hi, hn, kE⟩ := h
    obtain ⟨⟨dx, t, h1, h2⟩, ed⟩ := id GA
    refine ⟨_, pss_cons (ps_expr (pe_mtX cS (takes_of rfl rfl rfl rfl) (fun _ _ _ _ h => h) hr (by omega) (pv 0) (pa_cons (pv 1) pa_nil))) (pss_one ps_never), ?_⟩
    exact ⟨_, rfl, g, dx, _, rfl, h1, look_no _ _ (by decide +kernel) (by decide +kernel), _, rfl, g, n, us, i, rfl, GA, hi, hn, kE⟩
end
end Lw
set_option Elab.async false
set_option linter.all false
set_option maxRecDepth 100000
namespace Lw
open PySem L2
abbrev sCounts : Stmt := inClass (top 9) 13
/-! ### xs[i] read for xs[i] += e -/
theorem get_list {X : Cx} : PGet X (fun o y H Q => ∃ (p : Addr) (xs : List V) (i : Int) (v : V), o = .ref p ∧ y = .int i ∧ SqL X.K H p xs ∧ 0 ≤ i ∧ xs[i.toNat]? = some v ∧ Q v H) := by
  intro pins s σ H o y ov iv Q I ro ri h
  obtain ⟨p, xs, i, v, rfl, rfl, hq, h0, hv, q⟩ := h
  cases ro
  obtain ⟨t, rfl⟩ := ri
  obtain ⟨its, r, pl, hz⟩ := I.list hq
  obtain ⟨u, hu, ru⟩ := r.get hv
  have hl := r.length
  have hn := line63
  have hi : i.toNat < xs.length := (List.getElem?_eq_some_iff.mp hv).1
  refine wpAny_getItem_list pl.isList h0 (by omega) (by simpa using hu) ⟨v, H, I, ru, q⟩
/-! ### numbers of equal pairs -/
def cnt (ps : List (Int × Int)) (a b : Nat) : Int := ((ps.filter fun p => decide (p = ((a : Int), (b : Int)))).length : Int)
theorem cnt_snoc (ps : List (Int × Int)) (p : Int × Int) (a b : Nat) : cnt (ps ++ [p]) a b = cnt ps a b + (if p = ((a : Int), (b : Int)) then 1 else 0) := by
  unfold cnt
  rw [List.filter_append, List.length_append]
  by_cases h : p = ((a : Int), (b : Int))
  · rw [if_pos h, List.filter_cons_of_pos (by rw [decide_eq_true h])]
    rfl
  · rw [if_neg h, List.filter_cons_of_neg (by rw [decide_eq_false h]; exact Bool.false_ne_true)]
    simp
def cntRow (ps : List (Int × Int)) (m a : Nat) : List V := (List.range m).map fun b => V.int (cnt ps a b)
theorem cntRow_len (ps : List (Int × Int)) (m a : Nat) : (cntRow ps m a).length = m := by
  unfold cntRow
  simp
theorem cntRow_at (ps : List (Int × Int)) {m a b : Nat} (h : b < m) : (cntRow ps m a)[b]? = some (V.int (cnt ps a b)) := by
  unfold cntRow
  rw [List.getElem?_map, List.getElem?_range h]
  rfl
theorem cntRow_set (ps : List (Int × Int)) {m a t : Nat} (h : t < m) : (cntRow ps m a).set t (V.int (cnt ps a t + 1)) = cntRow (ps ++ [((a : Int), (t : Int))]) m a := by
  apply List.ext_getElem?
  intro b
  by_cases hb : b < m
  · rw [cntRow_at _ hb, cnt_snoc]
    by_cases e : t = b
    · subst e
      rw [List.getElem?_set_self (by rw [cntRow_len]; exact h), if_pos rfl]
    · rw [List.getElem?_set_ne e, cntRow_at _ hb, if_neg (fun z => e (by have h2 : (t : Int) = (b : Int) := congrArg Prod.snd z; omega)), Int.add_zero]
  · rw [List.getElem?_eq_none (by rw [List.length_set, cntRow_len]; omega), List.getElem?_eq_none (by rw [cntRow_len]; omega)]
theorem cntRow_other (ps : List (Int × Int)) {m a s t : Nat} (h : a ≠ s) : cntRow (ps ++ [((s : Int), (t : Int))]) m a = cntRow ps m a := by
  unfold cntRow
  refine List.map_congr_left fun b _ => ?_
  rw [cnt_snoc, if_neg (fun z => h (by have h2 : (s : Int) = (a : Int) := congrArg Prod.fst z; omega)), Int.add_zero]
theorem cntRow_nil (m a : Nat) : cntRow [] m a = List.replicate m (V.int 0) := by
  unfold cntRow
  rw [show (fun b => V.int (cnt [] a b)) = fun _ => V.int 0 from rfl, List.map_const', List.length_range]
theorem nodup_at {rs : List Addr} (nd : rs.Nodup) {a b : Nat} {r : Addr} (h1 : rs[a]? = some r) (h2 : rs[b]? = some r) : a = b := by
  obtain ⟨l1, e1⟩ := List.getElem?_eq_some_iff.mp h1
  obtain ⟨l2, e2⟩ := List.getElem?_eq_some_iff.mp h2
  rcases Nat.lt_trichotomy a b with h | h | h
  · exact absurd (e1.trans e2.symm) (List.pairwise_iff_getElem.mp nd a b l1 l2 h)
  · exact h
  · exact absurd (e2.trans e1.symm) (List.pairwise_iff_getElem.mp nd b a l2 l1 h)
theorem ixN_of {n : Nat} {i : Int} (h0 : 0 ≤ i) (h : i.toNat < n) : ixN n i = some i.toNat := by
  unfold ixN
  rw [if_pos h0, if_pos (by omega)]
structure CntAt (H : Hp) (p : Addr) (rs : List Addr) (m : Nat) (ps : List (Int × Int)) : Prop where
  ls : H p = some (.lst (rs.map V.ref))
  len : rs.length = m
  row : ∀ (a : Nat) (r : Addr), rs[a]? = some r → H r = some (.lst (cntRow ps m a))
theorem CntAt.same {H H' : Hp} {p : Addr} {rs : List Addr} {m : Nat} {ps : List (Int × Int)} (h : CntAt H p rs m ps) (s : Same H H') : CntAt H' p rs m ps := ⟨s _ _ h.ls, h.len, fun a r e => s _ _ (h.row a r e)⟩
def spCounts (C : Addr) : Sp := fun vs H Q _ => ∃ (g : Addr) (n : Int) (us : Es), vs = [.ref g] ∧ GraphAt C H g n us ∧ 0 ≤ n ∧ n ≤ 100 ∧ us.length ≤ 1000 ∧ (∀ e ∈ us, 0 ≤ e.2.1 ∧ e.2.1 < n ∧ 0 ≤ e.2.2 ∧ e.2.2 < n) ∧
  ∀ p rs H', Same H H' → H p = none → (∀ r ∈ rs, H r = none) → CntAt H' p rs n.toNat (psOf us) → Q (.ref p) H'
section
variable {P : Program} {w : World} {K : PySem.W.Frag} {mg : Str → Option Value} {base : Heap}
theorem scCounts : FnScope ["self", "table", "source", "target"] ["self"] (defScope sCounts) := ⟨rfl, rfl, rfl, by decide +kernel, rfl, by decide +kernel, by decide +kernel⟩
set_option maxHeartbeats 8000000 in
theorem ok_counts {f C : Addr} {mc : Value} {fd : FuncData} {k : Nat} (F : Fun K "counts" "Graph.counts" sCounts f fd) (T : Bi mg) (G : GTxt K mg C mc) : FnOk P w K mg base CX0 (k + 1) f fd ["self"] (spCounts C) := by
  refine F.ok scCounts (fun vs H Q E h => ?_) (fun cdv A outer s H vs Q E hr h => ?_)
  · obtain ⟨g, n, us, rfl, _⟩ := h
    rfl
  · obtain ⟨g, n, us, rfl, ⟨⟨dx, t, h1, h2⟩, ed⟩, n0, n1, hl, rg, q⟩ := h
    refine ⟨_, pss_cons (ps_setLc (i := 1) (own := [("source", 2)]) (g := gName 2) (tt := tYes) (te := tOp rRep (tLst (tCons (tC (.int 0)) tNil)) (tFld K (tVar 0) "state_count")) rfl scCounts.nd rfl rfl (sw_true rfl rfl rfl (by decide +kernel))
          (pi_range1 (by rfl) T.range (pa_cons (pe_fld (pv 0) rfl) pa_nil))
          (blkOk_by (N := ["self", "table", "source", "target"]) (sc := defScope sCounts) (by decide +kernel))
          (fun _ _ _ _ _ => by exact pg_name (i := 2) scCounts.nd rfl (Or.inl rfl))
          (fun _ _ _ _ _ => pts_nil)
          (fun _ _ _ _ _ => by exact pe_op op_rep (pe_lst (pa_cons pe_int pa_nil)) (pe_fld (pv 0) rfl)))
      (pss_cons (ps_for PassesOwn.never rfl (pi_seqA (pe_fld (pv 0) rfl)) (pg_tup rfl (pgs_cons (pg_name (i := 2) scCounts.nd rfl (.inl rfl)) (pgs_cons (pg_name (i := 3) scCounts.nd rfl (.inl rfl)) pgs_nil)))
        (pss_one (ps_augS (pe_ix ix_list (pv 1) (pv 2) (fun _ _ => rfl)) (pv 3) get_list pe_int ip_add set_list)))
      (pss_one (ps_ret (pv 1)))), ?_⟩
    refine ⟨_, rfl, g, C, dx, _, _, rfl, h1, G.cl, G.nS, look_s _ _, n, rfl, by omega, by omega, fun D hD => ?_⟩
    refine lc_it (walk_range (lo := 0) (n := n.toNat)) (fun i H' => ∃ rs : List Addr, rs.length = i ∧ rs.Nodup ∧ Same H H' ∧ H' D = some (.lst (rs.map V.ref)) ∧ ∀ r ∈ rs, H r = none ∧ r ≠ D ∧ H' r = some (.lst (List.replicate n.toNat (V.int 0))))
      ⟨[], rfl, List.nodup_nil, same_upd hD, upd_same, fun r hr => by cases hr⟩ (fun _ _ _ _ => True.intro) ?_ ?_
    · rintro i x H1 H' hi ⟨rs, hrs, nd, sm, eD, hh⟩ ⟨rfl, rfl⟩
      refine ⟨rfl, ?_⟩
      refine ⟨(by show 1 ≤ sizeLine; decide), fun l hl => ?_⟩
      have s1 := same_upd (o := .lst [.int 0]) hl
      refine ⟨_, rfl, g, C, dx, _, _, rfl, s1 _ _ (sm _ _ h1), G.cl, G.nS, look_s _ _, l, n, _, rfl, rfl, upd_same, by omega, by omega, ?_, fun p hp => ?_⟩
      · show 1 * n.toNat ≤ sizeLine
        exact Nat.le_of_lt (small1000 (by omega))
      have s2 := s1.trans (same_upd (o := .lst (List.replicate n.toNat [V.int 0]).flatten) hp)
      have e0 : (List.replicate n.toNat [V.int 0]).flatten = List.replicate n.toNat (V.int 0) := by
        rw [List.flatten_replicate_singleton]
      have eD2 := s2 _ _ eD
      have pD : p ≠ D := fun z => by
        rw [z, s1 _ _ eD] at hp
        cases hp
      refine ⟨_, eD2, ?_, rs ++ [p], by simp [hrs], ?_, ?_, ?_, ?_⟩
      · rw [List.length_map]
        exact small1000 (by omega)
      · rw [List.nodup_append]
        refine ⟨nd, (by simp), fun a ha b hb => ?_⟩
        rw [List.mem_singleton.mp hb]
        intro z
        have := s1 _ _ (hh a ha).2.2
        rw [z, hp] at this
        cases this
      · intro c o ec
        rw [upd_ne (ne_of_none ec hD)]
        exact s2 _ _ (sm _ _ ec)
      · rw [upd_same, List.map_append]
        rfl
      · intro r hr
        rcases List.mem_append.mp hr with hr | hr
        · obtain ⟨a1, a2, a3⟩ := hh r hr
          exact ⟨a1, a2, by rw [upd_ne a2]; exact s2 _ _ a3⟩
        · rw [List.mem_singleton.mp hr]
          refine ⟨(sm.trans s1).free hp, pD, ?_⟩
          rw [upd_ne pD, upd_same, e0]
    · rintro H1 ⟨rs, hrs, nd, sm, eD, hh⟩
      refine ⟨_, rfl, g, C, dx, _, _, rfl, sm _ _ h1, G.cl, G.nE, look_e _ _, t, vsOf us, SqT, rfl, .inr rfl, SqT.of (sm _ _ h2), fun J w => ?_⟩
      have start : CntAt H1 D rs n.toNat ((psOf us).take 0) := ⟨eD, hrs, fun a r e => by
        rw [List.take_zero, cntRow_nil]
        exact (hh r (List.mem_of_getElem? e)).2.2⟩
      refine for_it w (fun i σ H' => ∃ v2 v3 : Option V, σ = [some (.ref g), some (.ref D), v2, v3] ∧ Same H H' ∧ CntAt H' D rs n.toNat ((psOf us).take i)) ⟨_, _, rfl, sm, start⟩ (fun i σ H' _ p => by obtain ⟨_, _, _, s, _⟩ := p; exact SqT.of (s _ _ h2)) ?_ ?_
      · rintro i x σ H2 H' hi ⟨v2, v3, rfl, sm2, ct⟩ ⟨rfl, gx⟩
        obtain ⟨e, he, rfl⟩ := vsOf_at gx
        have mem : e ∈ us := List.mem_of_getElem? he
        obtain ⟨r1, r2, r3, r4⟩ := rg e mem
        have ha : e.2.1.toNat < rs.length := by rw [ct.len]; omega
        obtain ⟨ra, hrr⟩ : ∃ ra, rs[e.2.1.toNat]? = some ra := ⟨_, List.getElem?_eq_getElem ha⟩
        have hmem : ra ∈ rs := List.mem_of_getElem? hrr
        have ea : e.2.1 = ((e.2.1.toNat : Nat) : Int) := (Int.toNat_of_nonneg r1).symm
        have eb : e.2.2 = ((e.2.2.toNat : Nat) : Int) := (Int.toNat_of_nonneg r3).symm
        have hb : e.2.2.toNat < n.toNat := by omega
        have ro := ct.row _ _ hrr
        refine ⟨e.1, _, rfl, SqT.of (sm2 _ _ (ed e mem)), rfl, _, _, rfl, _, _, rfl, rfl, ?_⟩
        refine ⟨_, rfl, _, rfl, D, _, _, .ref ra, rfl, rfl, SqL.of ct.ls, ?_, ?_⟩
        · rw [ea]
          refine atI_nat ?_
          rw [List.getElem?_map, hrr]
          rfl
        refine ⟨_, rfl, _, _, _, _, rfl, rfl, SqL.of ro, r3, cntRow_at _ hb, _, _, rfl, rfl, _, _, _, e.2.2.toNat, rfl, rfl, ro, ?_, ?_⟩
        · rw [cntRow_len]
          exact ixN_of r3 hb
        refine ⟨_, _, rfl, ?_, ?_⟩
        · intro c o ec
          rw [upd_ne (fun z => ?_)]
          · exact sm2 _ _ ec
          · rw [z, (hh _ hmem).1] at ec
            cases ec
        · have et : (psOf us).take (i + 1) = (psOf us).take i ++ [((e.2.1.toNat : Int), (e.2.2.toNat : Int))] := by
            rw [List.take_add_one, psOf_at he, ← ea, ← eb]
            rfl
          have nD : ra ≠ D := (hh _ hmem).2.1
          refine ⟨by rw [upd_ne nD.symm]; exact ct.ls, ct.len, fun a r hr => ?_⟩
          rw [et]
          by_cases hs : a = e.2.1.toNat
          · subst hs
            have : r = ra := by
              rw [hrr] at hr
              exact (Option.some.inj hr).symm
            subst this
            rw [upd_same, cntRow_set _ hb]
          · have hne : r ≠ ra := fun z => by
              rw [z] at hr
              exact hs (nodup_at nd hr hrr)
            rw [upd_ne hne, cntRow_other _ hs]
            exact ct.row a r hr
      · rintro σ H2 ⟨v2, v3, rfl, sm2, ct⟩
        rw [vsOf_len, show us.length = (psOf us).length by unfold psOf; rw [List.length_map], List.take_length] at ct
        exact ⟨_, rfl, q D rs H2 sm2 hD (fun r hr => (hh r hr).1) ct⟩
end
end Lw
set_option Elab.async false
set_option linter.all false
set_option maxRecDepth 100000
/-! g(lambda a=n: body), where g calls what it gets without arguments. The function's cells by the library's module on nested defs, what g does with it by its GivesTo. -/
namespace LamD
open PySem PySem.Spec PyProof.Rows L2
/-- the table at P bears one code object more -/
theorem grow {T : List (Addr × Str)} {H : Hp} {P c : Addr} {q : Str} {ps : Array Value} {pos : Pos} (hT : LamX.Tabs T H) (hq : ∀ r ∈ T, r.1 = P → r.2 = q) (hP : H P = some (.tbl ps)) (ok : TriplesOk ps.toList) (nc : H c = none) :
    LamX.ExtN H (upd (upd H P (.tbl (ps ++ #[rawInt pos.line, rawInt pos.col, .ref c]))) c (LamX.CodeO c q)) ∧
      LamX.Tabs T (upd (upd H P (.tbl (ps ++ #[rawInt pos.line, rawInt pos.col, .ref c]))) c (LamX.CodeO c q)) := by
  have nPc : P ≠ c := ne_of_none hP nc
  have ext : LamX.ExtN H (upd (upd H P (.tbl (ps ++ #[rawInt pos.line, rawInt pos.col, .ref c]))) c (LamX.CodeO c q)) := by
    intro b o hb no
    have bP : b ≠ P := by
      rintro rfl
      rw [hP] at hb
      exact no ps (Option.some.inj hb).symm
    rw [upd_ne (ne_of_none hb nc), upd_ne bP, hb]
  refine ⟨ext, ?_⟩
  intro r hr
  obtain ⟨ps', g1, g2, g3⟩ := hT r hr
  have old : ∀ (p : Pos) (v : Value), codeAmong p ps'.toList = some v → ∃ d, v = .ref d ∧ upd (upd H P (.tbl (ps ++ #[rawInt pos.line, rawInt pos.col, .ref c]))) c (LamX.CodeO c q) d = some (LamX.CodeO d r.2) := by
    intro p v hv
    obtain ⟨d, ed, hd⟩ := g3 p v hv
    exact ⟨d, ed, ext d _ hd LamX.codeO_ne⟩
  by_cases e : r.1 = P
  · have eps : ps' = ps := by
      rw [e, hP] at g1
      injection g1 with g1
      injection g1 with g1
      exact g1.symm
    subst eps
    refine ⟨ps' ++ #[rawInt pos.line, rawInt pos.col, .ref c], ?_, ?_, ?_⟩
    · rw [e, upd_ne nPc, upd_same]
    · rw [Array.toList_append]
      exact PySem.TriplesOk_snoc _ _ _ _ ok
    · intro p v hv
      rw [Array.toList_append] at hv
      cases LamX.among_app _ ok hv with
      | inl h => exact old p v h
      | inr h => exact ⟨c, h, by rw [upd_same, hq r hr e]⟩
  · exact ⟨ps', by rw [upd_ne (ne_of_none g1 nc), upd_ne e, g1], g2, old⟩
/-- what stands once the lambda is made: the function at f, its default at t, its code object at c -/
structure Made (X : Cx) (pins : List (Addr × Obj)) (σ : L2.St) (T : List (Addr × Str)) (params : Arguments) (body : Expr) (scope : Scope) (H H1 : Hp) (f t c : Addr) (u : Value) (s : Shared) : Prop where
  inv : Inv X pins σ H1 s
  ext : LamX.ExtN H H1
  tab : LamX.Tabs T H1
  fn : ∃ doc pm ctv, s.heap.get? f = some (PySem.W.kdv_obj "<lambda>" (X.env.qual ++ "<lambda>") params (.expr body) scope (cloFrom X.env.cells scope.names []) (.ref t) doc pm c ctv)
  dft : s.heap.get? t = some (PySem.W.kdv_tup [u])
  nf : H1 f = none ∧ f ∉ frs X.stack
  nt : H1 t = none ∧ t ∉ frs X.stack
  code : H1 c = some (LamX.CodeO c (X.env.qual ++ "<lambda>"))
section
variable {X : Cx} {pins : List (Addr × Obj)} {σ : L2.St} {H : Hp} {s : Shared}
theorem new_off {a : Addr} (I : Inv X pins σ H s) (h : s.heap.objs.size ≤ a) : a ∉ frs X.stack := by
  intro z
  cases List.mem_cons.mp (I.stkSub _ z) with
  | inl e => exact absurd (e ▸ I.lt) (Nat.not_lt.mpr h)
  | inr e => exact I.nofs h e
theorem made {T : List (Addr × Str)} {c P : Addr} {params : Arguments} {body e : Expr} {scope : Scope} {n : Int} {pos : Pos} {Q : Value → Shared → Prop} (I : Inv X pins σ H s) (TB : LamX.TabB X.base X.mg c P) (hcode : X.env.code = .ref c)
    (hm : (P, X.env.qual ++ "<lambda>") ∈ T) (hq : ∀ r ∈ T, r.1 = P → r.2 = X.env.qual ++ "<lambda>") (hT : LamX.Tabs T H) (hd : params.defaults = [e]) (hk : params.kw_defaults = []) (he : PE X e (tC (.int n)))
    (hc : closureFor scope X.env = pure (cloFrom X.env.cells scope.names [])) (h : ∀ f t c' u H1 s', RelV (.int n) u → Made X pins σ T params body scope H H1 f t c' u s' → Q (.ref f) s') :
    wpAny (model X.prog X.w) X.A (eval (.Lambda params body scope pos) X.env) Q X.xe s := by
  refine PySem.W.kdv_lam (hd ▸ rfl) hk ?_
  rw [hd]
  refine PySem.W.kdv_all1 (wpAny_mono (he.run pins s σ H (fun v H' => v = .int n ∧ H' = H) I ⟨rfl, rfl⟩) ?_ fun _ _ z => z)
  rintro u s0 ⟨_, H0, J0, ru, rfl, eH⟩
  rw [eH] at J0
  refine PySem.W.kdv_all0 ?_
  rw [makeFunction_eq]
  simp only [List.zip_nil_right, List.filterMap_nil, List.isEmpty_nil, List.isEmpty_cons, Bool.false_eq_true, if_true, if_false, pure_bind]
  refine wpAny_bind (wpAny_newTextTuple ?_)
  have J : Inv X pins σ H { s0 with heap := s0.heap.push (PySem.W.kdv_tup [u]) } := J0.kept (t' := s0.toks) (fun b o z => Heap.get?_push_of_some _ z)
  have at_t : (s0.heap.push (PySem.W.kdv_tup [u])).get? s0.heap.objs.size = some (PySem.W.kdv_tup [u]) := Heap.get?_push_size _ rfl
  have nt : H s0.heap.objs.size = none ∧ s0.heap.objs.size ∉ frs X.stack := ⟨J0.hok.fresh (Nat.le_refl _), new_off J0 (Nat.le_refl _)⟩
  have lt_t : s0.heap.objs.size < (s0.heap.push (PySem.W.kdv_tup [u])).objs.size := by
    rw [Heap.size_push]
    exact Nat.lt_succ_self _
  generalize s0.heap.push (PySem.W.kdv_tup [u]) = g, s0.heap.objs.size = t at J at_t nt lt_t ⊢
  obtain ⟨ps, hP, ok, known⟩ := hT _ hm
  have objP : g.get? P = some { cls := .none, data := .fields ps } := J.hok P _ hP
  have glob := J.mod.glob.keeps J.bk
  have head := TB.code.keeps J.bk
  have blt := TB.bm.keeps J.bk
  match z : codeAmong pos ps.toList with
  | some v =>
    obtain ⟨d, rfl, hd'⟩ := known pos v z
    refine PySem.W.kdv_makeTailHit (mg := X.mg) hc J.ok.glob glob hcode head objP ok z blt fun ctv doc g' tk up le => ?_
    refine h g'.objs.size t d u H _ ru ⟨J.kept fun b o q => Heap.get?_push_of_some _ (up b o q), LamX.ExtN.refl _, hT, ⟨_, _, _, Heap.get?_push_size _ rfl⟩, Heap.get?_push_of_some _ (up _ _ at_t), ⟨J.hok.fresh le, new_off J le⟩, nt, hd'⟩
  | none =>
    refine PySem.W.kdv_makeTail (mg := X.mg) hc J.ok.glob glob hcode head objP ok z TB.gP blt fun d ctv doc g' tk up ge lt rec tab => ?_
    obtain ⟨_, od, vs, tq, eq, get, dat, nam⟩ := rec
    injection eq with eq
    subst eq
    have nd : H d = none := J.hok.fresh ge
    have le : g.objs.size ≤ g'.objs.size := Nat.le_of_lt (Nat.lt_of_le_of_lt ge lt)
    obtain ⟨ext, tabs⟩ := grow (pos := pos) hT hq hP ok nd
    have J2 := LamX.inv_table (t' := tk) (h' := g'.push (PySem.W.kdv_obj "<lambda>" (X.env.qual ++ "<lambda>") params (.expr body) scope (cloFrom X.env.cells scope.names []) (.ref t) doc ((X.mg "__name__").getD .none) d ctv)) J hP
      (fun b o q r => Heap.get?_push_of_some _ (up b o q r)) (Heap.get?_push_of_some _ tab) ge ⟨od, vs, tq, Heap.get?_push_of_some _ get, dat, nam⟩
    have offP : ∀ b, H b = none → b ≠ P := fun b q r => by
      rw [r, hP] at q
      cases q
    have none' : ∀ b, H b = none → b ≠ d → upd (upd H P (.tbl (ps ++ #[rawInt pos.line, rawInt pos.col, .ref d]))) d (LamX.CodeO d (X.env.qual ++ "<lambda>")) b = none := fun b q r => by
      rw [upd_ne r, upd_ne (offP b q), q]
    refine h g'.objs.size t d u _ _ ru ⟨J2, ext, tabs, ⟨_, _, _, Heap.get?_push_size _ rfl⟩, Heap.get?_push_of_some _ (up _ _ (offP t nt.1) at_t), ⟨none' _ (J.hok.fresh le) (Nat.ne_of_gt lt), new_off J le⟩, ⟨none' _ nt.1 (Nat.ne_of_lt (Nat.lt_of_lt_of_le lt_t ge)), nt.2⟩, upd_same⟩
/-- cells of the maker stand while others run -/
theorem cells_on {F : List Addr} {H H' : Hp} {h h' : Heap} {cl : List (Str × Addr)} {fr : List Str} {ws : List (Option V)} (C : NdefX.CellsAt cl fr ws h H) (un : Un F [] H H' h h') : NdefX.CellsAt cl fr ws h' H' := by
  have keep : ∀ y a v, cl.lookup y = some a → h.IsCell a v → h'.IsCell a v := by
    rintro y a v hy ⟨o, ho, hv⟩
    obtain ⟨sl, hs⟩ := un.any ho (C.all y a hy).1 (by simp)
    exact ⟨_, hs, hv⟩
  refine ⟨C.len, ?_, C.inj, ?_⟩
  · intro y a hy
    obtain ⟨na, v, o, ho, hv⟩ := C.all y a hy
    exact ⟨un.free a o ho na (by simp), v, keep y a v hy ⟨o, ho, hv⟩⟩
  · intro i y hi
    obtain ⟨a, ha, hv⟩ := C.has i y hi
    refine ⟨a, ha, fun v hw => ?_⟩
    obtain ⟨u, ru, hu⟩ := hv v hw
    exact ⟨u, ru, keep y a _ ha hu⟩
end
/-- the lambda as a nested def's record; its body is an expression, which the record does not hold -/
abbrev rec (X : Cx) (params : Arguments) (scope : Scope) (c : Addr) : NdefX.NF := ⟨"<lambda>", X.env.qual ++ "<lambda>", params, [], scope, cloFrom X.env.cells scope.names [], c⟩
/-- g(lambda a=n: body): N names the lambda's own slots, a first, then what it captures; js: where these stand with the maker -/
def tLamD (T : List (Addr × Str)) (TT : (XK → Hp → VK → Prop) → Hp → VK → Prop) (N : List Str) (n : Int) (js : List Nat) (t : XK → TE) : TE := fun σ H Q =>
  LamX.Tabs T H ∧ ∀ H1, LamX.ExtN H H1 → LamX.Tabs T H1 → TT (fun E H' Q' => t E (NdefX.startF N [.int n] (js.map (NdefX.slotAt σ))) H' Q') H1 Q
section
variable {X : Cx}
theorem pe_lamD {T : List (Addr × Str)} {TT : (XK → Hp → VK → Prop) → Hp → VK → Prop} {x a al : Str} {g c P : Addr} {k : Nat} {n : Int} {pg : Arguments} {bg : List Stmt} {sg : Scope} {dV kV doc pm cdv ct oc : Value} {an od : Option Addr} {osl : Array (Option Value)} {Ng N fr : List Str} {js : List Nat}
    {params : Arguments} {body e : Expr} {scope : Scope} {t : XK → TE} {p lpos pos : Pos}
    (hg : Gl X x) (hm : X.mg x = some (.ref g)) (hk : PySem.W.keepIn X.K (.ref g) = true)
    (lk : X.K.lookup g = some ⟨oc, od, .func (PySem.W.fnOf x x pg bg sg dV kV doc pm an cdv ct), osl⟩)
    (hcg : PySem.W.codeIn X.K cdv x = true) (hb : L2.Binds X.K (PySem.W.fnOf x x pg bg sg dV kV doc pm an cdv ct) [a] [])
    (Sg : FnScope Ng [a] sg) (hNg : Ng[0]? = some a) (hva : Vis sg a)
    (gives : LamX.GivesTo X Ng x sg g cdv bg a (X.env.qual ++ "<lambda>") TT) (TB : LamX.TabB X.base X.mg c P)
    (hcode : X.env.code = .ref c) (hmT : (P, X.env.qual ++ "<lambda>") ∈ T) (hqT : ∀ r ∈ T, r.1 = P → r.2 = X.env.qual ++ "<lambda>") (hr : Room (k + 2) X.A)
    (S : NdefX.NScope N [al] fr scope) (df : NdefX.ndefB X.env.scope scope fr = true) (hjs : js.map (fun j => X.N[j]?) = fr.map some)
    (hdf : params.defaults = [e]) (hk0 : params.kw_defaults = []) (he : PE X e (tC (.int n)))
    (hbind : ∀ (s : Shared) (q : Str) (cl : List (Str × Addr)) (t : Addr) (u doc pm cv ctv : Value), s.heap.get? t = some (PySem.W.kdv_tup [u]) → BindsTo s (PySem.W.kdv_fn "<lambda>" q params (.expr body) scope cl (.ref t) doc pm cv ctv) ⟨[], []⟩ [(al, u)])
    (hbody : ∀ (A : Around) (outer : List Env) (s : Shared) (H : Hp) (E : XK) (f c' : Addr), Room k (A.deeper (NdefX.envF (rec X params scope c') f s.heap.objs.size)) → PE (NdefX.ncx (L2.CX X.prog X.w) X.prog X.w X.K X.mg X.base N (rec X params scope c') f A outer s H E) body (t E))
    (d1 : (x == ("__debug__" : Str)) = false := by decide) (d2 : (a == ("__debug__" : Str)) = false := by decide) (d3 : (a == ("__classdict__" : Str)) = false := by decide) :
    PE X (.Call (.Name x p) [.Lambda params body scope lpos] [] pos) (tLamD T TT N n js t) := by
  constructor
  rintro pins s σ H Q I ⟨hT, hQ⟩
  have fre := NdefX.ndef_free df
  have cap := NdefX.Caps.made I.ok fre (NdefX.ndef_fr df) hjs
  have clo : closureFor scope X.env = pure (cloFrom X.env.cells scope.names []) := closure_ok fun y hy hk => (fre y hy hk).elim (fun z => I.ok.has _ (.inl z)) (fun z => I.ok.has _ (.inr z))
  refine wpAny_Call_Name_kw (ld_glob I hg hm (PySem.W.callWith_K (h₀ := X.base) I.ok.mod.kin hk ?_ rfl rfl) d1)
  refine Calls.spliced_cons (made I TB hcode hmT hqT hT hdf hk0 he clo fun f t0 c' u H1 s' ru M => ?_)
  refine Calls.spliced_nil (And.intro M.inv.kIn ?_)
  have cells := NdefX.cells_of M.inv cap
  obtain ⟨doc', pm', ctv, hf⟩ := M.fn
  have run : codeAny (model X.prog X.w) X.A (.call (.ref g) ⟨[.ref f], []⟩) (CR C8.CX0 X.stack X.prog X.w H1 s' Q C8.E0) s' := by
    refine LamX.run_ofS (vs := [.ref f]) lk hcg Sg hr M.inv.env0 (hb s' [.ref f] M.inv.kIn rfl) (.cons rfl .nil) rfl fun room => ?_
    refine Exists.elim (gives f c' s' H1 Q _ (fun W pn xe E p1 p2 tk hW => ?_) M.code (hQ H1 M.ext M.tab)) fun tt h => ⟨tt, h.1.nox, h.2⟩
    -- a() in g: the function at f is still there, and so are its default and its cells
    constructor
    rintro pz sz σz Hz Qz Iz ⟨slot, hcz, ht⟩
    refine wpAny_Call_Name_kw (wpAny_mono ((pe_var (pos := p1) hNg hva d2 d3).run pz sz σz Hz (fun v H' => v = .ref f ∧ H' = Hz) Iz ⟨_, slot, rfl, rfl⟩) ?_ fun _ _ z => z)
    rintro v s1 ⟨_, H', I1, rv, rfl, eH⟩
    rw [eH] at I1
    cases rv
    have nin : ∀ b : Addr, b ∉ ([] : List Addr) := fun b => List.not_mem_nil
    have fat := I1.base.keep f _ hf M.nf.1 M.nf.2 (nin f)
    have tat := I1.base.keep t0 _ M.dft M.nt.1 M.nt.2 (nin t0)
    refine PySem.W.callWith_F0 ⟨_, _, _, _, fat⟩ (wpAny_call (codeAny_mono (R := CR (L2.CX X.prog X.w) (envOfC x sg s'.heap.objs.size g cdv :: X.stack) X.prog X.w Hz s1 Qz E) ?_ fun r s2 hq => ?_))
    · obtain ⟨⟨oc2, vs2, t2, q1, q2, q3⟩, _⟩ := I1.hok c' _ hcz
      refine PySem.W.kla_callFunE room.depth fat rfl S.co S.gen rfl ⟨c', oc2, vs2, t2, rfl, q1, q2, q3⟩ (hbind s1 _ _ _ _ _ _ _ _ tat _ _ _ _ ?_)
      refine wpAny_newFunctionEnv S.nocell (fun y hy => (List.mem_singleton.mp hy) ▸ S.par _ (List.mem_singleton.mpr rfl)) (fun h2 ns sb => ⟨I1.nolimit.fresh _ sb, ?_⟩) S.kind
      have up : ∀ b o, s1.heap.get? b = some o → h2.get? b = some o := fun b o q => sb.extBut b o (Nat.ne_of_lt (Heap.lt_size q)) (Heap.get?_push_of_some _ q)
      have J := NdefX.inv_startN (CX := L2.CX X.prog X.w) (f := f) (F := rec X params scope c') (E := E) (h₁ := h2) (tk := s1.toks + 1) (us := [u]) (vs := [.int n]) S room.hd I1.env0 rfl (.cons ru .nil) (cells_on cells I1.base) ns up
      refine PySem.W.kla_codeExpr (wpAny_mono ((hbody _ _ s1 Hz E f c' (room.deeper _)).run [] _ _ Hz Qz J ht) ?_ fun _ _ z => z)
      rintro v s3 ⟨w, H3, J3, rw, qw⟩
      exact ⟨w, H3, J3.os, J3.bare, J3.base, J3.hok, rw, qw⟩
    · match r, hq with
      | .error e, hq => exact passes_call tk hW pz σz Hz s1 e s2 I1 hq
      | .ok (.ret v), hq => exact I1.after hq
  refine wpAny_call (codeAny_mono run fun r s2 hq => ?_)
  match r, hq with
  | .ok (.ret v), hq => exact M.inv.after hq
end
end LamD
set_option Elab.async false
set_option linter.all false
set_option maxRecDepth 100000
namespace Lw
open PySem L2
/-! ### like things -/
theorem at_es {us ts : Es} (he : psOf us = psOf ts) {i : Nat} {x y : Addr × Int × Int} (hx : us[i]? = some x) (hy : ts[i]? = some y) : x.2 = y.2 := by
  have h1 := psOf_at hx
  have h2 := psOf_at hy
  rw [he, h2] at h1
  exact (Option.some.inj h1).symm
theorem len_es {us ts : Es} (he : psOf us = psOf ts) : us.length = ts.length := by
  have := congrArg List.length he
  unfold psOf at this
  simpa using this
theorem lk_es {H : Hp} {us ts : Es} {e q : Addr} {k : Nat} (h1 : Ed H us) (h2 : Ed H ts) (he : psOf us = psOf ts) (e1 : H e = some (.lst (vsOf us))) (e2 : H q = some (.lst (vsOf ts))) (hl : us.length ≤ 1000) : Lk H (k + 3) (.ref e) (.ref q) := by
  refine .inr (.inl ⟨e, q, _, _, rfl, rfl, e1, e2, by rw [vsOf_len, vsOf_len, len_es he], by rw [vsOf_len]; exact hl, fun i u v hu hv => ?_⟩)
  obtain ⟨x, hx, rfl⟩ := vsOf_at hu
  obtain ⟨y, hy, rfl⟩ := vsOf_at hv
  have exy := at_es he hx hy
  have m1 := h1 x (List.mem_of_getElem? hx)
  have m2 := h2 y (List.mem_of_getElem? hy)
  rw [← exy] at m2
  refine .inr (.inr ⟨x.1, y.1, _, _, rfl, rfl, m1, m2, rfl, (by show 2 ≤ 1000; decide), fun j u v hu hv => ?_⟩)
  rw [hu] at hv
  have e3 := Option.some.inj hv
  subst e3
  refine .inl ⟨rfl, ?_⟩
  have := List.mem_of_getElem? hu
  simp only [List.mem_cons, List.not_mem_nil, or_false] at this
  rcases this with rfl | rfl <;> rfl
theorem lk_ints {H : Hp} {a b : Addr} {xs : List Int} {k : Nat} (h1 : H a = some (.lst (xs.map V.int))) (h2 : H b = some (.lst (xs.map V.int))) (hl : xs.length ≤ 1000) : Lk H (k + 2) (.ref a) (.ref b) := by
  refine .inr (.inl ⟨a, b, _, _, rfl, rfl, h1, h2, rfl, by rw [List.length_map]; exact hl, fun i u v hu hv => ?_⟩)
  rw [hu] at hv
  have e := Option.some.inj hv
  subst e
  obtain ⟨z, _, rfl⟩ := List.mem_map.mp (List.mem_of_getElem? hu)
  exact .inl ⟨rfl, rfl⟩
theorem lk_two {H : Hp} {F D p1 p2 d1 d2 : Addr} {k : Nat} (hF : H F = some (.lst [.ref p1, .ref p2])) (hD : H D = some (.lst [.ref d1, .ref d2])) (h1 : Lk H k (.ref p1) (.ref d1)) (h2 : Lk H k (.ref p2) (.ref d2)) : Lk H (k + 1) (.ref F) (.ref D) := by
  refine .inr (.inl ⟨F, D, _, _, rfl, rfl, hF, hD, rfl, (by show 2 ≤ 1000; decide), fun i u v hu hv => ?_⟩)
  match i, hu, hv with
  | 0, hu, hv =>
    cases hu; cases hv
    exact h1
  | 1, hu, hv =>
    cases hu; cases hv
    exact h2
  | i + 2, hu, hv => cases hu
theorem lk_cnt {H : Hp} {p q : Addr} {rs ds : List Addr} {m k : Nat} {ps : List (Int × Int)} (h1 : CntAt H p rs m ps) (h2 : CntAt H q ds m ps) (hm : m ≤ 100) : Lk H (k + 3) (.ref p) (.ref q) := by
  refine .inr (.inl ⟨p, q, _, _, rfl, rfl, h1.ls, h2.ls, by rw [List.length_map, List.length_map, h1.len, h2.len], by rw [List.length_map, h1.len]; omega, fun i u v hu hv => ?_⟩)
  rw [List.getElem?_map] at hu hv
  obtain ⟨r, hr, rfl⟩ := Option.map_eq_some_iff.mp hu
  obtain ⟨d, hd, rfl⟩ := Option.map_eq_some_iff.mp hv
  have e : cntRow ps m i = ((List.range m).map fun b => cnt ps i b).map V.int := by
    unfold cntRow
    rw [List.map_map]
    rfl
  have a1 := h1.row i r hr
  have a2 := h2.row i d hd
  rw [e] at a1 a2
  exact lk_ints a1 a2 (by rw [List.length_map, List.length_range]; omega)
theorem cntRow_succ (ps : List (Int × Int)) (m a : Nat) : cntRow ps (m + 1) a = cntRow ps m a ++ [V.int (cnt ps a m)] := by
  unfold cntRow
  rw [List.range_succ, List.map_append]
  rfl
theorem same_at {H H' : Hp} {p : Addr} {o : HO} (s : Same H H') (n : H p = none) : Same H (upd H' p o) := fun c o' e => by
  rw [upd_ne (ne_of_none e n)]
  exact s c o' e
/-! ### tables of code objects -/
def Tq (Pt : Addr) (qn : Str) : List (Addr × Str) := [(Pt, qn)]
theorem tabs_keep {T : List (Addr × Str)} {H H' : Hp} {b l : Addr} {ns : List Int} (t : LamX.Tabs T H) (B : BagAt H b l ns) (k : KeepB b H H') : LamX.Tabs T H' := fun p hp => by
  obtain ⟨ps, h1, h2, h3⟩ := t p hp
  obtain ⟨ys, hb⟩ := B.at_b
  refine ⟨ps, k _ _ (fun e => by rw [e, hb] at h1; cases h1) h1, h2, fun pos cv hc => ?_⟩
  obtain ⟨c, e1, e2⟩ := h3 pos cv hc
  exact ⟨c, e1, k _ _ (fun e => by rw [e, hb] at e2; cases e2) e2⟩
theorem BagAt.extN {H H' : Hp} {b l : Addr} {ns : List Int} (B : BagAt H b l ns) (e : LamX.ExtN H H') : BagAt H' b l ns := by
  obtain ⟨o, ho, hB⟩ := B.ob
  obtain ⟨i, r, s, rfl, h2⟩ := id hB
  exact ⟨⟨_, e _ _ ho (fun ps z => by cases z), hB⟩, e _ _ B.sc (fun ps z => by cases z), B.ln⟩
theorem Ed.extN {H H' : Hp} {ts : Es} (h : Ed H ts) (e : LamX.ExtN H H') : Ed H' ts := fun x hx => e _ _ (h x hx) (fun ps z => by cases z)
theorem PlanAt.extN {H H' : Hp} {p q : Addr} {n : Int} {ts : Es} (h : PlanAt H p q n ts) (e : LamX.ExtN H H') : PlanAt H' p q n ts := ⟨e _ _ h.tp (fun ps z => by cases z), e _ _ h.ls (fun ps z => by cases z), h.ed.extN e, h.va, h.n1⟩
theorem GraphAt.extN {C : Addr} {H H' : Hp} {g : Addr} {n : Int} {us : Es} (h : GraphAt C H g n us) (e : LamX.ExtN H H') : GraphAt C H' g n us := by
  obtain ⟨⟨dx, t, h1, h2⟩, ed⟩ := h
  exact ⟨⟨dx, t, e _ _ h1 (fun ps z => by cases z), e _ _ h2 (fun ps z => by cases z)⟩, ed.extN e⟩
theorem GraphAt.keep {C : Addr} {H H' : Hp} {g b l : Addr} {ns : List Int} {n : Int} {us : Es} (h : GraphAt C H g n us) (B : BagAt H b l ns) (k : KeepB b H H') : GraphAt C H' g n us := by
  obtain ⟨⟨dx, t, h1, h2⟩, ed⟩ := h
  exact ⟨⟨dx, t, k _ _ (B.ne_ins h1) h1, k _ _ (B.ne_tup h2) h2⟩, ed.keep B k⟩
theorem PlanAt.keep {H H' : Hp} {p q b l : Addr} {ns : List Int} {n : Int} {ts : Es} (h : PlanAt H p q n ts) (B : BagAt H b l ns) (k : KeepB b H H') : PlanAt H' p q n ts := ⟨k _ _ (B.ne_tup h.tp) h.tp, k _ _ (B.ne_vs h.ls) h.ls, h.ed.keep B k, h.va, h.n1⟩
/-- a turn's things: the bag, the tables, the plan at p (its list at q), the graph at g of the same edges -/
structure Gt (C b l Pt : Addr) (qn : Str) (ns : List Int) (p q g : Addr) (n : Int) (ts us : Es) (H : Hp) : Prop where
  bag : BagAt H b l ns
  tab : LamX.Tabs (Tq Pt qn) H
  pl : PlanAt H p q n ts
  gr : GraphAt C H g n us
  eqp : psOf us = psOf ts
  n8 : n ≤ 8
  l24 : ts.length ≤ 24
section
variable {C b l Pt p q g : Addr} {qn : Str} {ns : List Int} {n : Int} {ts us : Es} {H H' : Hp}
theorem Gt.same (h : Gt C b l Pt qn ns p q g n ts us H) (s : Same H H') : Gt C b l Pt qn ns p q g n ts us H' := ⟨h.bag.same s, h.tab.ext s, h.pl.same s, h.gr.same s, h.eqp, h.n8, h.l24⟩
theorem Gt.keep (h : Gt C b l Pt qn ns p q g n ts us H) (k : KeepB b H H') (B : BagAt H' b l ns) : Gt C b l Pt qn ns p q g n ts us H' := ⟨B, tabs_keep h.tab h.bag k, h.pl.keep h.bag k, h.gr.keep h.bag k, h.eqp, h.n8, h.l24⟩
theorem Gt.extN (h : Gt C b l Pt qn ns p q g n ts us H) (e : LamX.ExtN H H') (t : LamX.Tabs (Tq Pt qn) H') : Gt C b l Pt qn ns p q g n ts us H' := ⟨h.bag.extN e, t, h.pl.extN e, h.gr.extN e, h.eqp, h.n8, h.l24⟩
theorem Gt.off {c : Addr} {xs : List V} {o : HO} (h : Gt C b l Pt qn ns p q g n ts us H) (hc : H c = some (.lst xs)) (cb : c ≠ b) (cl : c ≠ l) (cq : c ≠ q) : Gt C b l Pt qn ns p q g n ts us (upd H c o) := by
  have k : ∀ d x, H d = some x → (∀ ys, x ≠ .lst ys) → upd H c o d = some x := fun d x e nx => by
    rw [upd_ne (fun z => by rw [z, hc] at e; exact nx xs (Option.some.inj e).symm)]
    exact e
  obtain ⟨dx, t, h1, h2⟩ := h.gr.ob
  refine ⟨h.bag.off cb cl, fun r hr => ?_, ⟨k _ _ h.pl.tp (fun ys z => by cases z), by rw [upd_ne cq.symm]; exact h.pl.ls, fun e he => k _ _ (h.pl.ed e he) (fun ys z => by cases z), h.pl.va, h.pl.n1⟩,
    ⟨⟨dx, t, k _ _ h1 (fun ys z => by cases z), k _ _ h2 (fun ys z => by cases z)⟩, fun e he => k _ _ (h.gr.ed e he) (fun ys z => by cases z)⟩, h.eqp, h.n8, h.l24⟩
  obtain ⟨ps, a1, a2, a3⟩ := h.tab r hr
  refine ⟨ps, k _ _ a1 (fun ys z => by cases z), a2, fun pos cv hcv => ?_⟩
  obtain ⟨c0, b1, b2⟩ := a3 pos cv hcv
  exact ⟨c0, b1, k _ _ b2 (fun ys z => by unfold LamX.CodeO at z; cases z)⟩
theorem Gt.len (h : Gt C b l Pt qn ns p q g n ts us H) : us.length = ts.length := len_es h.eqp
theorem Gt.rg (h : Gt C b l Pt qn ns p q g n ts us H) : ∀ e ∈ us, 0 ≤ e.2.1 ∧ e.2.1 < n ∧ 0 ≤ e.2.2 ∧ e.2.2 < n := fun e he => by
  obtain ⟨i, hi, rfl⟩ := List.getElem_of_mem he
  have h1 := psOf_at (List.getElem?_eq_getElem hi)
  rw [h.eqp] at h1
  unfold psOf at h1
  rw [List.getElem?_map] at h1
  obtain ⟨y, hy, hy2⟩ := Option.map_eq_some_iff.mp h1
  rw [← hy2]
  exact h.pl.va.rg y (List.mem_of_getElem? hy)
end
/-! ### words of errors as data -/
def dOut (a : Int) : PyData := .tuple [.str "outofrange", .int a]
theorem sh_out3 (a b c : Int) : SeqAt.shaped (.list [dOut a, dOut b, dOut c]) = true := by
  show (PyData.canLayAll0 [dOut a, dOut b, dOut c] && decide (PyData.depthAll [dOut a, dOut b, dOut c] + 1 ≤ 64)) = true
  have h1 : PyData.canLayAll0 [dOut a, dOut b, dOut c] = PyData.canLayAll0 [dOut 0, dOut 0, dOut 0] := rfl
  have h2 : PyData.depthAll [dOut a, dOut b, dOut c] = PyData.depthAll [dOut 0, dOut 0, dOut 0] := rfl
  rw [h1, h2]
  decide +kernel
theorem eq_out1 (n : Int) : PyData.eqv (dOut n) (dOut n) = true := by
  show (PyData.eqv (.str "outofrange") (.str "outofrange") && (PyData.eqv (.int n) (.int n) && true)) = true
  have h1 : PyData.eqv (.str "outofrange") (.str "outofrange") = true := by decide +kernel
  have h2 : PyData.eqv (.int n) (.int n) = true := by
    show (n == n) = true
    simp
  rw [h1, h2]
  rfl
theorem eq_out3 (a b c : Int) : PyData.eqv (.list [dOut a, dOut b, dOut c]) (.list [dOut a, dOut b, dOut c]) = true := by
  show (PyData.eqv (dOut a) (dOut a) && (PyData.eqv (dOut b) (dOut b) && (PyData.eqv (dOut c) (dOut c) && true))) = true
  rw [eq_out1, eq_out1, eq_out1]
  rfl
end Lw
namespace Lw
open PySem L2
theorem sh_pair (a b : Int) : SeqAt.shaped (.tuple [.int a, .int b]) = true := by
  show (PyData.canLayAll0 [.int a, .int b] && decide (PyData.depthAll [.int a, .int b] + 1 ≤ 64)) = true
  have h1 : PyData.canLayAll0 [.int a, .int b] = PyData.canLayAll0 [.int 0, .int 0] := rfl
  have h2 : PyData.depthAll [.int a, .int b] = PyData.depthAll [.int 0, .int 0] := rfl
  rw [h1, h2]
  decide +kernel
theorem eq_pair (p : Int × Int) (a b : Int) : PyData.eqv (.tuple [.int p.1, .int p.2]) (.tuple [.int a, .int b]) = decide (p = (a, b)) := by
  show (p.1 == a && (p.2 == b && true)) = decide (p = (a, b))
  obtain ⟨x, y⟩ := p
  by_cases h1 : x = a <;> by_cases h2 : y = b <;> simp [h1, h2]
end Lw
set_option Elab.async false
set_option linter.all false
set_option maxRecDepth 100000
namespace Lw
open PySem L2
abbrev sLaw : Stmt := top 19
abbrev NL : List Str := ["_law_script", "_law_bag_here", "_law_turn", "_law_plan_here", "_law_size", "_law_pairs", "_law_graph_here", "_law_state", "_law_due", "_law_again", "_law_found", "_law_far", "_law_odd", "_law_words", "_law_k", "_law_pair", "_law_one", "_law_other"]
theorem scLaw : FnScope NL ["_law_script"] (defScope sLaw) := ⟨rfl, rfl, rfl, by decide +kernel, rfl, by decide +kernel, by decide +kernel⟩
/-- the defs and the class that the law calls -/
structure Lib (P : Program) (w : World) (K : PySem.W.Frag) (mg : Str → Option Value) (base : Heap) (C CO : Addr) (mc : Value) : Prop where
  T : Bi mg
  G : GTxt K mg C mc
  bag : C8.Cal P w K mg base 1 "_law_bag" (spBag K) []
  of : C8.Cal P w K mg base 2 "_law_of" (spOf K) []
  plan : C8.Cal P w K mg base 2 "_law_plan" spPlan []
  like : C8.Cal P w K mg base 6 "_law_like" (spLike 5) []
  graph : C8.Cal P w K mg base 4 "_law_graph" (spGraph C) []
  edge0 : C8.Met P w K mg base 1 C "edge" (spEdge0 C) []
  leaving0 : C8.Met P w K mg base 2 C "leaving" (spAll C fstIs) []
  entering0 : C8.Met P w K mg base 2 C "entering" (spAll C sndIs) []
  counts : C8.Met P w K mg base 1 C "counts" (spCounts C) []
  leavingX : MetX P w K mg base 5 C "leaving" (spStateX C CO)
  enteringX : MetX P w K mg base 5 C "entering" (spStateX C CO)
  edgeX : MetX P w K mg base 4 C "edge" (spEdgeX C CO)
  tried : ∃ (g : Addr) (oc : Value) (od : Option Addr) (dV kV doc pm : Value) (an : Option Addr) (cdv ct : Value) (osl : Array (Option Value)), mg "_law_tried" = some (.ref g) ∧ PySem.W.keepIn K (.ref g) = true ∧
    K.lookup g = some ⟨oc, od, .func (PySem.W.fnOf "_law_tried" "_law_tried" (defArgs sTried) (defBody sTried) (defScope sTried) dV kV doc pm an cdv ct), osl⟩ ∧ PySem.W.codeIn K cdv "_law_tried" = true ∧ Binds K (PySem.W.fnOf "_law_tried" "_law_tried" (defArgs sTried) (defBody sTried) (defScope sTried) dV kV doc pm an cdv ct) ["_law_ask"] []
  err : ∃ (CW fF : Addr) (fdF : FuncData), mg "WindowError" = some (.ref CW) ∧ mg "_law_field" = some (.ref fF) ∧ PySem.W.keepIn K (.ref fF) = true ∧ Binds K fdF ["_law_e"] [] ∧ ErOk P w K mg base CW fF fdF CO "number" "outofrange"
def spLaw (K : PySem.W.Frag) (Pt : Addr) : Sp := fun vs H Q _ => ∃ (a : Addr) (ns : List Int), vs = [.ref a] ∧ SqL K H a (ns.map V.int) ∧ ns.length ≤ 63 ∧ H Pt = some (.tbl #[]) ∧ ∀ H', Q (.bl true) H'
section
variable {P : Program} {w : World} {K : PySem.W.Frag} {mg : Str → Option Value} {base : Heap}
set_option maxHeartbeats 16000000 in
theorem ok_law {f C CO c Pt : Addr} {mc : Value} {oc dV kV doc pm ct : Value} {od an : Option Addr} {osl : Array (Option Value)} (lk : K.lookup f = some ⟨oc, od, .func (PySem.W.fnOf "law" "law" (defArgs sLaw) (defBody sLaw) (defScope sLaw) dV kV doc pm an (.ref c) ct), osl⟩) (hcd : PySem.W.codeIn K (.ref c) "law" = true)
    (TB : LamX.TabB base mg c Pt) (L : Lib P w K mg base C CO mc) : FnOk P w K mg base CX0 10 f (PySem.W.fnOf "law" "law" (defArgs sLaw) (defBody sLaw) (defScope sLaw) dV kV doc pm an (.ref c) ct) ["_law_script"] (spLaw K Pt) := by
  refine fn_of lk hcd scLaw (fun vs H Q E h => ?_) (fun A outer s H vs Q E hr h => ?_)
  · obtain ⟨a, ns, rfl, _⟩ := h
    rfl
  · obtain ⟨a, ns, rfl, hS, hln, htb, q⟩ := h
    have T := L.T
    obtain ⟨gT, ocT, odT, dVT, kVT, docT, pmT, anT, cdvT, ctT, oslT, mT, kT, lkT, hcT, bT⟩ := L.tried
    obtain ⟨CW, fF, fdF, gW, gF, kF, bF, EO⟩ := L.err
    suffices hh : ∃ t, PSs (cxOf CX0 P w K mg base NL "law" (defScope sLaw) f (.ref c) A outer s H E).nox (defBody sLaw) t ∧ t { nx := fun _ H' => Q .non H', rt := Q } (start NL [.ref a]) H by
      obtain ⟨t, h1, h2⟩ := hh
      exact ⟨t, h1.nox, h2⟩
    obtain ⟨qn, hqn⟩ : ∃ q, (cxOf CX0 P w K mg base NL "law" (defScope sLaw) f (.ref c) A outer s H E).nox.env.qual ++ "<lambda>" = q := ⟨_, rfl⟩
    refine ⟨_, pss_cons (ps_set (i := 1) scLaw.nd rfl (by first | exact Or.inl rfl | exact Or.inr rfl) (C8.pe_c L.bag hr (by decide) (by rfl) (pa_cons (pv 0) pa_nil))) (pss_cons (ps_for PassesOwn.never rfl (pi_range1 (by rfl) T.range (pa_cons pe_int pa_nil)) (pg_name (i := 2) scLaw.nd rfl (by first | exact Or.inl rfl | exact Or.inr rfl)) (pss_cons (ps_set (i := 3) scLaw.nd rfl (by first | exact Or.inl rfl | exact Or.inr rfl) (C8.pe_c L.plan hr (by decide) (by rfl) (pa_cons (pv 1) (pa_cons pe_int (pa_cons pe_int pa_nil))))) (pss_cons (ps_asg (pv 3) (pg_tup rfl (pgs_cons (pg_name (i := 4) scLaw.nd rfl (by first | exact Or.inl rfl | exact Or.inr rfl)) (pgs_cons (pg_name (i := 5) scLaw.nd rfl (by first | exact Or.inl rfl | exact Or.inr rfl)) pgs_nil)))) (pss_cons (ps_set (i := 6) scLaw.nd rfl (by first | exact Or.inl rfl | exact Or.inr rfl) (C8.pe_c L.graph hr (by decide) (by rfl) (pa_cons (pv 3) pa_nil))) (C8.pss_cut (ps_if (pt_not (pt_val (C8.pe_c L.like hr (by decide) (by rfl) (pa_cons (pe_lc (own := [("_law_k", 14)]) (g := gName 14) (tt := tYes) (te := tMeth C "edge" (spEdge0 C) [] E0 (tVar 6) (tCons (tVar 14) tNil)) rfl scLaw.nd (pi_range1 (by rfl) T.range (pa_cons (pe_callB call_len_seq (by rfl) T.len PySem.boot_len (pa_cons (pv 5) pa_nil)) pa_nil)) (blkOk_by (N := NL) (sc := defScope sLaw) (by decide +kernel)) (fun _ _ _ _ _ => by exact (pg_name (i := 14) scLaw.nd rfl (by first | exact Or.inl rfl | exact Or.inr rfl))) (fun _ _ _ _ _ => pts_nil) (fun _ _ _ _ _ => by exact (C8.pe_mt L.edge0 hr (by decide) (pv 6) (pa_cons (pv 14) pa_nil)))) (pa_cons (pv 5) pa_nil))))) (pss_one (ps_ret pe_bl)) pss_nil) (C8.pss_cut (ps_for PassesOwn.never rfl (pi_range1 (by rfl) T.range (pa_cons (pv 4) pa_nil)) (pg_name (i := 7) scLaw.nd rfl (by first | exact Or.inl rfl | exact Or.inr rfl)) (pss_cons (ps_set (i := 8) scLaw.nd rfl (by first | exact Or.inl rfl | exact Or.inr rfl) (pe_lst (pa_cons (pe_lc (own := [("_law_k", 14)]) (g := gName 14) (tt := tTest (tOp rEq (tOp (rIxT K) (tOp (rIxL K) (tVar 5) (tVar 14)) (tC (.int 0))) (tVar 7))) (te := (tVar 14)) rfl scLaw.nd (pi_range1 (by rfl) T.range (pa_cons (pe_callB call_len_seq (by rfl) T.len PySem.boot_len (pa_cons (pv 5) pa_nil)) pa_nil)) (blkOk_by (N := NL) (sc := defScope sLaw) (by decide +kernel)) (fun _ _ _ _ _ => by exact (pg_name (i := 14) scLaw.nd rfl (by first | exact Or.inl rfl | exact Or.inr rfl))) (fun _ _ _ _ _ => by exact pts_one (pt_cmpR op_eq (pe_ix ix_tup (pe_ix ix_list (pv 5) (pv 14) (fun _ _ => rfl)) pe_int (fun _ _ => rfl)) (pv 7) (nomark _))) (fun _ _ _ _ _ => by exact (pv 14))) pa_nil))) (pss_cons (ps_expr (pe_bm PySem.F.plainAttrs_list PySem.F.slot_list_append PySem.F.type_list_append mt_append (pv 8) (pa_cons (pe_lc (own := [("_law_k", 14)]) (g := gName 14) (tt := tTest (tOp rEq (tOp (rIxT K) (tOp (rIxL K) (tVar 5) (tVar 14)) (tC (.int 1))) (tVar 7))) (te := (tVar 14)) rfl scLaw.nd (pi_range1 (by rfl) T.range (pa_cons (pe_callB call_len_seq (by rfl) T.len PySem.boot_len (pa_cons (pv 5) pa_nil)) pa_nil)) (blkOk_by (N := NL) (sc := defScope sLaw) (by decide +kernel)) (fun _ _ _ _ _ => by exact (pg_name (i := 14) scLaw.nd rfl (by first | exact Or.inl rfl | exact Or.inr rfl))) (fun _ _ _ _ _ => by exact pts_one (pt_cmpR op_eq (pe_ix ix_tup (pe_ix ix_list (pv 5) (pv 14) (fun _ _ => rfl)) pe_int (fun _ _ => rfl)) (pv 7) (nomark _))) (fun _ _ _ _ _ => by exact (pv 14))) pa_nil))) (pss_one (ps_for PassesOwn.never rfl (pi_range1 (by rfl) T.range (pa_cons pe_int pa_nil)) (pg_name (i := 9) scLaw.nd rfl (by first | exact Or.inl rfl | exact Or.inr rfl)) (pss_cons (ps_set (i := 10) scLaw.nd rfl (by first | exact Or.inl rfl | exact Or.inr rfl) (pe_lst (pa_cons (C8.pe_mt L.leaving0 hr (by decide) (pv 6) (pa_cons (pv 7) pa_nil)) (pa_cons (C8.pe_mt L.entering0 hr (by decide) (pv 6) (pa_cons (pv 7) pa_nil)) pa_nil)))) (pss_cons (ps_if (pt_not (pt_val (C8.pe_c L.like hr (by decide) (by rfl) (pa_cons (pv 10) (pa_cons (pv 8) pa_nil))))) (pss_one (ps_ret pe_bl)) pss_nil) (pss_cons (ps_expr (pe_bm PySem.F.plainAttrs_list PySem.F.slot_list_append PySem.F.type_list_append mt_append (pe_ix ix_list (pv 10) pe_int (fun _ _ => rfl)) (pa_cons (pe_un un_neg pe_int) pa_nil))) (pss_one (ps_expr (pe_bm0 PySem.F.plainAttrs_list PySem.F.slot_list_clear PySem.F.type_list_clear mt_clear (pe_ix ix_list (pv 10) pe_int (fun _ _ => rfl))))))))))))) (C8.pss_cut (ps_setLc (i := 8) (own := [("_law_one", 16)]) (g := gName 16) (tt := tYes) (te := tLc (iRng1 (tCons (tVar 4) tNil)) (gName 17) tYes (tCB (fun xs H Q => ∃ p ys, xs = [V.ref p] ∧ (SqL K H p ys ∨ SqT K H p ys) ∧ Q (.int ys.length) H) (tCons (tLc (iList K (tVar 5)) (gName 15) (tTest (tOp (rEqD K) (tVar 15) (tTup (tCons (tVar 16) (tCons (tVar 17) tNil))))) (tC (.int 1)) [15]) tNil)) [17]) rfl scLaw.nd rfl rfl (sw_true rfl rfl rfl (by decide +kernel)) (pi_range1 (by rfl) T.range (pa_cons (pv 4) pa_nil)) (blkOk_by (N := NL) (sc := defScope sLaw) (by decide +kernel)) (fun _ _ _ _ _ => by exact (pg_name (i := 16) scLaw.nd rfl (by first | exact Or.inl rfl | exact Or.inr rfl))) (fun _ _ _ _ _ => pts_nil) (fun _ _ _ _ _ => by exact (pe_lc (own := [("_law_other", 17)]) (g := gName 17) (tt := tYes) (te := tCB (fun xs H Q => ∃ p ys, xs = [V.ref p] ∧ (SqL K H p ys ∨ SqT K H p ys) ∧ Q (.int ys.length) H) (tCons (tLc (iList K (tVar 5)) (gName 15) (tTest (tOp (rEqD K) (tVar 15) (tTup (tCons (tVar 16) (tCons (tVar 17) tNil))))) (tC (.int 1)) [15]) tNil)) rfl scLaw.nd (pi_range1 (by rfl) T.range (pa_cons (pv 4) pa_nil)) (blkOk_by (N := NL) (sc := { kind := .function, names := [(".0", .local), ("_law_one", .cell), ("range", .globalImplicit), ("_law_pairs", .cell), ("_law_size", .cell)], isGenerator := false, isCoroutine := false }) (by decide +kernel)) (fun _ _ _ _ _ => by exact (pg_name (i := 17) scLaw.nd rfl (by first | exact Or.inl rfl | exact Or.inr rfl))) (fun _ _ _ _ _ => pts_nil) (fun _ _ _ _ _ => by exact (pe_callB call_len_seq (by rfl) T.len PySem.boot_len (pa_cons (pe_lc (own := [("_law_pair", 15)]) (g := gName 15) (tt := tTest (tOp (rEqD K) (tVar 15) (tTup (tCons (tVar 16) (tCons (tVar 17) tNil))))) (te := tC (.int 1)) rfl scLaw.nd (pi_list (pv 5)) (blkOk_by (N := NL) (sc := { kind := .function, names := [(".0", .local), ("_law_other", .cell), ("len", .globalImplicit), ("_law_one", .cell), ("_law_pairs", .cell)], isGenerator := false, isCoroutine := false }) (by decide +kernel)) (fun _ _ _ _ _ => by exact (pg_name (i := 15) scLaw.nd rfl (by first | exact Or.inl rfl | exact Or.inr rfl))) (fun _ _ _ _ _ => by exact pts_one (pt_cmpR (op_eqD hr.units) (pv 15) (pe_tup (pa_cons (pv 16) (pa_cons (pv 17) pa_nil))) (nomark _))) (fun _ _ _ _ _ => by exact pe_int)) pa_nil)))))) (pss_cons (ps_set (i := 10) scLaw.nd rfl (by first | exact Or.inl rfl | exact Or.inr rfl) (C8.pe_mt0 L.counts hr (by decide) (pv 6))) (pss_cons (ps_expr (pe_bm PySem.F.plainAttrs_list PySem.F.slot_list_append PySem.F.type_list_append mt_append (pe_ix ix_list (pv 10) pe_int (fun _ _ => rfl)) (pa_cons pe_int pa_nil))) (C8.pss_cut (ps_if (pt_not (pt_val (C8.pe_c L.like hr (by decide) (by rfl) (pa_cons (C8.pe_mt0 L.counts hr (by decide) (pv 6)) (pa_cons (pv 8) pa_nil))))) (pss_one (ps_ret pe_bl)) pss_nil) (C8.pss_cut (ps_asg (pe_tup (pa_cons (C8.pe_c L.of hr (by decide) (by rfl) (pa_cons (pv 1) (pa_cons (pe_lst (pa_cons (pe_un un_neg pe_int) (pa_cons (pv 4) (pa_cons (pe_op op_pow pe_int pe_int) pa_nil)))) pa_nil))) (pa_cons (C8.pe_c L.of hr (by decide) (by rfl) (pa_cons (pv 1) (pa_cons (pe_lst (pa_cons (pe_un un_neg pe_int) (pa_cons (pe_callB call_len_seq (by rfl) T.len PySem.boot_len (pa_cons (pv 5) pa_nil)) (pa_cons (pe_op op_pow pe_int pe_int) pa_nil)))) pa_nil))) pa_nil))) (pg_tup rfl (pgs_cons (pg_name (i := 11) scLaw.nd rfl (by first | exact Or.inl rfl | exact Or.inr rfl)) (pgs_cons (pg_name (i := 12) scLaw.nd rfl (by first | exact Or.inl rfl | exact Or.inr rfl)) pgs_nil)))) (pss_cons (ps_set (i := 13) scLaw.nd rfl (by first | exact Or.inl rfl | exact Or.inr rfl) (pe_lst (pa_cons (LamX.pe_lamcall (T := Tq Pt qn) (t := fun E => tMeth C "leaving" (spStateX C CO) [] E (tVar 6) (tCons (tVar 11) tNil)) (k := 5) (by rfl) mT kT lkT hcT bT scTried rfl (.inl rfl) (tried_gives (hr.mono (by decide)) gW gF kF bF) TB rfl (by rw [hqn]; exact List.mem_singleton.mpr rfl) (fun p hp _ => by rw [List.mem_singleton.mp hp]; exact hqn.symm) (hr.mono (by decide)) (LamX.lamS_by (sc := defScope sLaw) (by decide +kernel)) rfl (fun _ _ _ _ _ => rfl) (fun A2 o2 s2 H2 E2 f2 c2 hr2 => by exact pe_mtX L.leavingX (takes_of rfl rfl rfl rfl) (fun _ _ _ _ h => h) hr2 (Nat.le_refl _) (pv 6) (pa_cons (pv 11) pa_nil))) (pa_cons (LamD.pe_lamD (T := Tq Pt qn) (t := fun E => tMeth C "entering" (spStateX C CO) [] E (tVar 1) (tCons (tVar 2) tNil)) (k := 5) (n := 0) (al := "_law_a") (N := ["_law_a", "_law_graph_here", "_law_far"]) (fr := ["_law_graph_here", "_law_far"]) (js := [6, 11]) (by rfl) mT kT lkT hcT bT scTried rfl (.inl rfl) (tried_gives (hr.mono (by decide)) gW gF kF bF) TB rfl (by rw [hqn]; exact List.mem_singleton.mpr rfl) (fun p hp _ => by rw [List.mem_singleton.mp hp]; exact hqn.symm) (hr.mono (by decide)) (NdefX.nscope_by (by decide +kernel)) (by exact (show NdefX.ndefB (defScope sLaw) _ _ = true from by decide +kernel)) rfl rfl rfl pe_int (fun s q cl t u doc pm cv ctv ht => BindsTo.of_defaults rfl ht rfl rfl rfl) (fun A2 o2 s2 H2 E2 f2 c2 hr2 => by exact pe_mtX L.enteringX (takes_of rfl rfl rfl rfl) (fun _ _ _ _ h => h) hr2 (Nat.le_refl _) (pv 1) (pa_cons (pv 2) pa_nil))) pa_nil)))) (pss_cons (ps_expr (pe_bm PySem.F.plainAttrs_list PySem.F.slot_list_append PySem.F.type_list_append mt_append (pv 13) (pa_cons (LamX.pe_lamcall (T := Tq Pt qn) (t := fun E => tMeth C "edge" (spEdgeX C CO) [] E (tVar 6) (tCons (tVar 12) tNil)) (k := 4) (by rfl) mT kT lkT hcT bT scTried rfl (.inl rfl) (tried_gives (hr.mono (by decide)) gW gF kF bF) TB rfl (by rw [hqn]; exact List.mem_singleton.mpr rfl) (fun p hp _ => by rw [List.mem_singleton.mp hp]; exact hqn.symm) (hr.mono (by decide)) (LamX.lamS_by (sc := defScope sLaw) (by decide +kernel)) rfl (fun _ _ _ _ _ => rfl) (fun A2 o2 s2 H2 E2 f2 c2 hr2 => by exact pe_mtX L.edgeX (takes_of rfl rfl rfl rfl) (fun _ _ _ _ h => h) hr2 (Nat.le_refl _) (pv 6) (pa_cons (pv 12) pa_nil))) pa_nil))) (pss_one (ps_if (pt_cmpR (op_neD hr.units) (pv 13) (pe_op op_cat (pe_op op_rep (pe_lst (pa_cons (pe_tup (pa_cons pe_str (pa_cons (pv 11) pa_nil))) pa_nil)) pe_int) (pe_lst (pa_cons (pe_tup (pa_cons pe_str (pa_cons (pv 12) pa_nil))) pa_nil))) (nomark _)) (pss_one (ps_ret pe_bl)) pss_nil))))))))))))))) (pss_one (ps_ret pe_bl))), ?_⟩
    have four : ∀ m : Nat, m ≤ 1000 → m ≤ sizeLine := fun m h => Nat.le_of_lt (small1000 h)
    refine ⟨_, rfl, a, ns, rfl, hS, hln, fun b l H1 s1 nb nl B => ?_⟩
    have tb1 : LamX.Tabs (Tq Pt qn) H1 := LamX.Tabs.ext (fun p hp => by rw [List.mem_singleton.mp hp]; exact LamX.TabS.nil htb) s1
    refine ⟨5, rfl, by decide, by decide, ?_⟩
    refine for_it (walk_range (lo := 0) (n := (5 : Int).toNat)) (fun i σ H' => ∃ v2 v3 v4 v5 v6 v7 v8 v9 v10 v11 v12 v13 v14 v15 v16 v17 : Option V, σ = [some (.ref a), some (.ref b), v2, v3, v4, v5, v6, v7, v8, v9, v10, v11, v12, v13, v14, v15, v16, v17] ∧ BagAt H' b l ns ∧ LamX.Tabs (Tq Pt qn) H')
      ⟨_, _, _, _, _, _, _, _, _, _, _, _, _, _, _, _, rfl, B, tb1⟩ (fun _ _ _ _ _ => True.intro) ?_ ?_
    · rintro i x σ H2 H' hi ⟨v2, v3, v4, v5, v6, v7, v8, v9, v10, v11, v12, v13, v14, v15, v16, v17, rfl, B2, tb2⟩ ⟨rfl, rfl⟩
      refine ⟨_, rfl, b, l, ns, 5, 20, rfl, B2, by decide, by decide, by decide, fun p q0 n ts H3 kp3 B3 np nq PA hn hl => ?_⟩
      refine ⟨_, rfl, p, _, rfl, SqT.of PA.tp, rfl, _, _, rfl, _, _, rfl, rfl, ?_⟩
      refine ⟨_, rfl, p, q0, n, ts, rfl, PA, by omega, by omega, fun g us H4 hus s4 ng GR => ?_⟩
      have Gt4 : Gt C b l Pt qn ns p q0 g n ts us H4 := ⟨B3.same s4, (tabs_keep tb2 B2 kp3).ext s4, PA.same s4, GR, hus, by omega, by omega⟩
      have n1 := PA.n1
      have lts : ts.length ≤ 20 := by omega
      have lus : us.length = ts.length := Gt4.len
      clear kp3 B3 B2 tb2 s4 np nq ng GR
      -- the edges
      refine ⟨fun σ H' => ∃ v2 v7 v8 v9 v10 v11 v12 v13 v14 v15 v16 v17 : Option V, σ = [some (.ref a), some (.ref b), v2, some (.ref p), some (.int n), some (.ref q0), some (.ref g), v7, v8, v9, v10, v11, v12, v13, v14, v15, v16, v17] ∧ Gt C b l Pt qn ns p q0 g n ts us H', ?_, ?_⟩
      · refine ⟨_, rfl, q0, _, rfl, .inl (SqL.of Gt4.pl.ls), _, rfl, by rw [vsOf_len]; omega, by rw [vsOf_len]; omega, fun D hD => ?_⟩
        obtain ⟨dx, t, h1, h2⟩ := Gt4.gr.ob
        refine lc_it (walk_range (lo := 0) (n := ((vsOf ts).length : Int).toNat)) (fun i H' => Same H4 H' ∧ H' D = some (.lst ((vsOf us).take i))) ⟨same_upd hD, by rw [List.take_zero]; exact upd_same⟩ (fun _ _ _ _ => True.intro) ?_ ?_
        · rintro j x H5 H' hj ⟨sm, eD⟩ ⟨rfl, rfl⟩
          have hj' : j < us.length := by
            rw [Int.toNat_natCast, vsOf_len] at hj
            omega
          refine ⟨rfl, ?_⟩
          refine ⟨_, rfl, g, dx, _, rfl, sm _ _ h1, look_no _ _ (by decide +kernel) (by decide +kernel), _, rfl, g, n, us, j, us[j], by show [V.ref g, V.int (0 + (j : Int))] = _; rw [Int.zero_add], Gt4.gr.same sm, List.getElem?_eq_getElem hj', _, eD, ?_, same_at sm hD, ?_⟩
          · rw [List.length_take]
            exact small1000 (by rw [vsOf_len]; omega)
          · rw [upd_same, List.take_add_one, vsOf_get (List.getElem?_eq_getElem hj')]
            rfl
        · rintro H5 ⟨sm, eD⟩
          rw [Int.toNat_natCast, vsOf_len, ← lus, ← vsOf_len us, List.take_length] at eD
          refine ⟨_, rfl, _, _, rfl, lk_es (k := 2) (Gt4.same sm).gr.ed (Gt4.same sm).pl.ed hus eD (Gt4.same sm).pl.ls (by omega), fun Hc sc => ⟨true, rfl, if_f rfl ?_⟩⟩
          exact ⟨_, _, _, _, _, _, _, _, _, _, _, _, rfl, (Gt4.same sm).same sc⟩
      · rintro σ H5 ⟨v2, v7, v8, v9, v10, v11, v12, v13, v14, v15, v16, v17, rfl, G5⟩
        clear Gt4
        -- leaving, entering
        refine ⟨fun σ H' => ∃ v2 v7 v8 v9 v10 v11 v12 v13 v14 v15 v16 v17 : Option V, σ = [some (.ref a), some (.ref b), v2, some (.ref p), some (.int n), some (.ref q0), some (.ref g), v7, v8, v9, v10, v11, v12, v13, v14, v15, v16, v17] ∧ Gt C b l Pt qn ns p q0 g n ts us H', ?_, ?_⟩
        · refine ⟨_, rfl, n, rfl, by omega, by omega, ?_⟩
          refine for_it (walk_range (lo := 0) (n := n.toNat)) (fun i σ H' => ∃ v2 v7 v8 v9 v10 v11 v12 v13 v14 v15 v16 v17 : Option V, σ = [some (.ref a), some (.ref b), v2, some (.ref p), some (.int n), some (.ref q0), some (.ref g), v7, v8, v9, v10, v11, v12, v13, v14, v15, v16, v17] ∧ Same H5 H')
            ⟨_, _, _, _, _, _, _, _, _, _, _, _, rfl, fun _ _ z => z⟩ (fun _ _ _ _ _ => True.intro) ?_ ?_
          · rintro si x σ H0' H6 hsi ⟨v2, v7, v8, v9, v10, v11, v12, v13, v14, v15, v16, v17, rfl, sm6⟩ ⟨rfl, rfl⟩
            obtain ⟨st, hst⟩ : ∃ st : Int, 0 + (si : Int) = st := ⟨_, rfl⟩
            have st0 : 0 ≤ st := by omega
            have st1 : st < n := by omega
            show gName 7 (V.int (0 + (si : Int))) _ _ _
            rw [hst]
            have G6 := G5.same sm6
            -- the first list
            refine ⟨_, rfl, q0, _, rfl, .inl (SqL.of G6.pl.ls), _, rfl, by rw [vsOf_len]; omega, by rw [vsOf_len]; omega, fun D1 hD1 => ?_⟩
            refine lc_it (walk_range (lo := 0) (n := ((vsOf ts).length : Int).toNat)) (fun i H' => Same H6 H' ∧ H' D1 = some (.lst ((sel (fstIs st) (psOf ts) i).map V.int))) ⟨same_upd hD1, upd_same⟩ (fun _ _ _ _ => True.intro) ?_ ?_
            · rintro j x H7 H' hj ⟨sm, eD⟩ ⟨rfl, rfl⟩
              have hj' : j < ts.length := by
                rw [Int.toNat_natCast, vsOf_len] at hj
                exact hj
              have he := List.getElem?_eq_getElem hj'
              generalize ts[j] = e at he
              have Gj := G6.same sm
              refine ⟨rfl, ?_⟩
              refine ⟨_, rfl, _, rfl, q0, _, _, .ref e.1, rfl, rfl, SqL.of Gj.pl.ls, by rw [Int.zero_add]; exact atI_nat (vsOf_get he), e.1, _, _, _, rfl, rfl, SqT.of (Gj.pl.ed e (List.mem_of_getElem? he)), at0, _, rfl, rfl, _, rfl, ?_⟩
              rw [dec_of_int, sel_succ (psOf_at he)]
              by_cases hc : e.2.1 = st
              · refine if_t (decide_eq_true hc) ?_
                rw [if_pos (decide_eq_true hc)]
                refine ⟨_, rfl, _, eD, ?_, same_at sm hD1, ?_⟩
                · rw [List.length_map]
                  exact small1000 (Nat.le_trans (sel_len _ _ _) (by omega))
                · rw [upd_same, List.map_append]
                  show some (HO.lst (_ ++ [V.int (0 + (j : Int))])) = some (HO.lst (_ ++ [V.int ((j : Nat) : Int)]))
                  rw [Int.zero_add]
              · refine if_f (decide_eq_false hc) ?_
                rw [if_neg (fun z => hc (of_decide_eq_true z))]
                exact ⟨sm, eD⟩
            · rintro H7 ⟨sm7, eD1⟩
              rw [Int.toNat_natCast, vsOf_len] at eD1
              refine ⟨four 1 (by decide), fun L1 hL1 => ?_⟩
              have sm8 := same_upd (o := .lst [.ref D1]) hL1
              have eL1 : upd H7 L1 (.lst [.ref D1]) L1 = some (.lst [.ref D1]) := upd_same
              have eD8 := sm8 _ _ eD1
              have sm8' := sm7.trans sm8
              have nL1 : H6 L1 = none := sm7.free hL1
              have LD1 : L1 ≠ D1 := fun z => by rw [z, eD1] at hL1; cases hL1
              generalize upd H7 L1 (.lst [.ref D1]) = H8 at *
              have G8 := G6.same sm8'
              -- the second list
              refine ⟨_, rfl, .inl ⟨rfl, _, SqL.of eL1⟩, _, rfl, q0, _, rfl, .inl (SqL.of G8.pl.ls), _, rfl, by rw [vsOf_len]; omega, by rw [vsOf_len]; omega, fun D2 hD2 => ?_⟩
              refine lc_it (walk_range (lo := 0) (n := ((vsOf ts).length : Int).toNat)) (fun i H' => Same H8 H' ∧ H' D2 = some (.lst ((sel (sndIs st) (psOf ts) i).map V.int))) ⟨same_upd hD2, upd_same⟩ (fun _ _ _ _ => True.intro) ?_ ?_
              · rintro j x H9 H' hj ⟨sm, eD⟩ ⟨rfl, rfl⟩
                have hj' : j < ts.length := by
                  rw [Int.toNat_natCast, vsOf_len] at hj
                  exact hj
                have he := List.getElem?_eq_getElem hj'
                generalize ts[j] = e at he
                have Gj := G8.same sm
                refine ⟨rfl, ?_⟩
                refine ⟨_, rfl, _, rfl, q0, _, _, .ref e.1, rfl, rfl, SqL.of Gj.pl.ls, by rw [Int.zero_add]; exact atI_nat (vsOf_get he), e.1, _, _, _, rfl, rfl, SqT.of (Gj.pl.ed e (List.mem_of_getElem? he)), at1, _, rfl, rfl, _, rfl, ?_⟩
                rw [dec_of_int, sel_succ (psOf_at he)]
                by_cases hc : e.2.2 = st
                · refine if_t (decide_eq_true hc) ?_
                  rw [if_pos (decide_eq_true hc)]
                  refine ⟨_, rfl, _, eD, ?_, same_at sm hD2, ?_⟩
                  · rw [List.length_map]
                    exact small1000 (Nat.le_trans (sel_len _ _ _) (by omega))
                  · rw [upd_same, List.map_append]
                    show some (HO.lst (_ ++ [V.int (0 + (j : Int))])) = some (HO.lst (_ ++ [V.int ((j : Nat) : Int)]))
                    rw [Int.zero_add]
                · refine if_f (decide_eq_false hc) ?_
                  rw [if_neg (fun z => hc (of_decide_eq_true z))]
                  exact ⟨sm, eD⟩
              · rintro H9 ⟨sm9, eD2⟩
                rw [Int.toNat_natCast, vsOf_len] at eD2
                have eL9 := sm9 _ _ eL1
                have eD9 := sm9 _ _ eD8
                refine ⟨L1, _, _, rfl, rfl, eL9, (by show 1 < sizeLine; decide), ?_⟩
                have LD2 : L1 ≠ D2 := fun z => by rw [z] at eL1; rw [eL1] at hD2; cases hD2
                have sm10 : Same H6 (upd H9 L1 (.lst ([.ref D1] ++ [.ref D2]))) := same_at (sm8'.trans sm9) nL1
                have eL10 : upd H9 L1 (.lst ([.ref D1] ++ [.ref D2])) L1 = some (.lst [.ref D1, .ref D2]) := upd_same
                have eA10 : upd H9 L1 (.lst ([.ref D1] ++ [.ref D2])) D1 = some (.lst ((sel (fstIs st) (psOf ts) ts.length).map V.int)) := by
                  rw [upd_ne LD1.symm]
                  exact eD9
                have eB10 : upd H9 L1 (.lst ([.ref D1] ++ [.ref D2])) D2 = some (.lst ((sel (sndIs st) (psOf ts) ts.length).map V.int)) := by
                  rw [upd_ne LD2.symm]
                  exact eD2
                generalize upd H9 L1 (.lst ([.ref D1] ++ [.ref D2])) = H10 at *
                clear eD8 eD9 eL9 eD1 eD2 eL1 hD2 hL1 hD1 sm9 sm8 sm8' sm7
                refine ⟨2, rfl, by decide, by decide, ?_⟩
                refine for_it (walk_range (lo := 0) (n := (2 : Int).toNat)) (fun i σ H' => ∃ v2 v9 v10 v11 v12 v13 v14 v15 v16 v17 : Option V, σ = [some (.ref a), some (.ref b), v2, some (.ref p), some (.int n), some (.ref q0), some (.ref g), some (.int st), some (.ref L1), v9, v10, v11, v12, v13, v14, v15, v16, v17] ∧ Same H6 H' ∧ H' L1 = some (.lst [.ref D1, .ref D2]) ∧ H' D1 = some (.lst ((sel (fstIs st) (psOf ts) ts.length).map V.int)) ∧ H' D2 = some (.lst ((sel (sndIs st) (psOf ts) ts.length).map V.int)))
                  ⟨_, _, _, _, _, _, _, _, _, _, rfl, sm10, eL10, eA10, eB10⟩ (fun _ _ _ _ _ => True.intro) ?_ ?_
                · rintro ag x σ H11 H' hag ⟨v2, v9, v10, v11, v12, v13, v14, v15, v16, v17, rfl, sm11, eL, eA, eB⟩ ⟨rfl, rfl⟩
                  have G11 := G6.same sm11
                  obtain ⟨dx, t, h1, h2⟩ := G11.gr.ob
                  refine ⟨_, rfl, g, dx, _, rfl, h1, look_no _ _ (by decide +kernel) (by decide +kernel), _, rfl, g, n, us, st, rfl, G11.gr, st0, st1, by omega, fun p1 Ha sa np1 e1 => ?_⟩
                  refine ⟨_, rfl, g, dx, _, rfl, sa _ _ h1, look_no _ _ (by decide +kernel) (by decide +kernel), _, rfl, g, n, us, st, rfl, G11.gr.same sa, st0, st1, by omega, fun p2 Hb sb np2 e2 => ?_⟩
                  have e1b := sb _ _ e1
                  have sab := sa.trans sb
                  refine ⟨four 2 (by decide), fun Fa hF => ?_⟩
                  have sf := same_upd (o := .lst [.ref p1, .ref p2]) hF
                  have sF := sab.trans sf
                  have eF : upd Hb Fa (.lst [.ref p1, .ref p2]) Fa = some (.lst [.ref p1, .ref p2]) := upd_same
                  have e1F := sf _ _ e1b
                  have e2F := sf _ _ e2
                  have p12 : p1 ≠ p2 := fun z => by rw [← z, e1] at np2; cases np2
                  have nFa : Hb Fa = none := hF
                  have F1 : Fa ≠ p1 := fun z => by rw [z, e1b] at nFa; cases nFa
                  have F2 : Fa ≠ p2 := fun z => by rw [z, e2] at nFa; cases nFa
                  generalize upd Hb Fa (.lst [.ref p1, .ref p2]) = Hc at *
                  rw [hus, lus] at e1F e2F
                  refine ⟨_, rfl, _, rfl, _, _, rfl, lk_two (k := 4) eF (sF _ _ eL) (lk_ints (k := 2) e1F (sF _ _ eA) ?_) (lk_ints (k := 2) e2F (sF _ _ eB) ?_), fun Hd sd => ⟨true, rfl, if_f rfl ?_⟩⟩
                  · exact Nat.le_trans (sel_len _ _ _) (by omega)
                  · exact Nat.le_trans (sel_len _ _ _) (by omega)
                  have sD := sF.trans sd
                  have eFd := sd _ _ eF
                  have e1d := sd _ _ e1F
                  have e2d := sd _ _ e2F
                  have np1' : H' p1 = none := np1
                  have np2' : H' p2 = none := sa.free np2
                  refine ⟨_, rfl, Fa, _, _, _, rfl, rfl, SqL.of eFd, at0, .inl ⟨rfl, _, SqL.of e1d⟩, 1, rfl, p1, _, _, rfl, rfl, e1d, ?_, ?_⟩
                  · rw [List.length_map]
                    exact small1000 (Nat.le_trans (sel_len _ _ _) (by omega))
                  have sE : Same H' (upd Hd p1 (.lst ((sel (fstIs st) (psOf ts) ts.length).map V.int ++ [.int (-1)]))) := same_at sD np1'
                  have eFe : upd Hd p1 (.lst ((sel (fstIs st) (psOf ts) ts.length).map V.int ++ [.int (-1)])) Fa = some (.lst [.ref p1, .ref p2]) := by
                    rw [upd_ne F1]
                    exact eFd
                  have e2e : upd Hd p1 (.lst ((sel (fstIs st) (psOf ts) ts.length).map V.int ++ [.int (-1)])) p2 = some (.lst ((sel (sndIs st) (psOf ts) ts.length).map V.int)) := by
                    rw [upd_ne p12.symm]
                    exact e2d
                  generalize upd Hd p1 (.lst ((sel (fstIs st) (psOf ts) ts.length).map V.int ++ [.int (-1)])) = He at *
                  refine ⟨_, rfl, Fa, _, _, _, rfl, rfl, SqL.of eFe, at1, .inl ⟨rfl, _, SqL.of e2e⟩, p2, _, rfl, rfl, e2e, ?_⟩
                  have sG : Same H' (upd He p2 (.lst [])) := same_at sE np2'
                  exact ⟨_, _, _, _, _, _, _, _, _, _, rfl, sm11.trans sG, sG _ _ eL, sG _ _ eA, sG _ _ eB⟩
                · rintro σ H11 ⟨v2, v9, v10, v11, v12, v13, v14, v15, v16, v17, rfl, sm11, eL, eA, eB⟩
                  exact ⟨_, _, _, _, _, _, _, _, _, _, _, _, rfl, sm6.trans sm11⟩
          · rintro σ H6 ⟨v2, v7, v8, v9, v10, v11, v12, v13, v14, v15, v16, v17, rfl, sm6⟩
            exact ⟨_, _, _, _, _, _, _, _, _, _, _, _, rfl, G5.same sm6⟩
        · rintro σ H6 ⟨v2, v7, v8, v9, v10, v11, v12, v13, v14, v15, v16, v17, rfl, G6⟩
          clear G5
          -- counts, by the law
          refine ⟨fun σ H' => ∃ v2 v7 v9 v10 v11 v12 v13 v14 v15 v16 v17 : Option V, ∃ (D : Addr) (ds : List Addr), σ = [some (.ref a), some (.ref b), v2, some (.ref p), some (.int n), some (.ref q0), some (.ref g), v7, some (.ref D), v9, v10, v11, v12, v13, v14, v15, v16, v17] ∧ Gt C b l Pt qn ns p q0 g n ts us H' ∧ CntAt H' D ds n.toNat (psOf ts), ?_, ?_⟩
          · refine ⟨_, rfl, n, rfl, by omega, by omega, fun D hD => ?_⟩
            refine lc_it (walk_range (lo := 0) (n := n.toNat)) (fun i H' => ∃ rs : List Addr, rs.length = i ∧ Same H6 H' ∧ H' D = some (.lst (rs.map V.ref)) ∧ ∀ (a : Nat) (r : Addr), rs[a]? = some r → r ≠ D ∧ H' r = some (.lst (cntRow (psOf ts) n.toNat a)))
              ⟨[], rfl, same_upd hD, upd_same, fun a r hr => by cases hr⟩ (fun _ _ _ _ => True.intro) ?_ ?_
            · rintro oi x H7 H' hoi ⟨rs, hrs, sm, eD, hh⟩ ⟨rfl, rfl⟩
              refine ⟨rfl, ?_⟩
              refine ⟨_, rfl, n, rfl, by omega, by omega, fun D2 hD2 => ?_⟩
              have D2D : D2 ≠ D := fun z => by rw [z, eD] at hD2; cases hD2
              refine lc_it (walk_range (lo := 0) (n := n.toNat)) (fun j H'' => Same H' H'' ∧ H'' D2 = some (.lst (cntRow (psOf ts) j oi))) ⟨same_upd hD2, upd_same⟩ (fun _ _ _ _ => True.intro) ?_ ?_
              · rintro oj x H8 H'' hoj ⟨sm8, eD2⟩ ⟨rfl, rfl⟩
                refine ⟨rfl, ?_⟩
                have G8 := (G6.same sm).same sm8
                refine ⟨_, rfl, q0, rfl, ⟨_, SqL.of G8.pl.ls⟩, fun D3 hD3 => ?_⟩
                refine lc_it (walk_list (xs := vsOf ts)) (fun t H3 => Same H'' H3 ∧ H3 D3 = some (.lst (List.replicate (((psOf ts).take t).filter fun p => decide (p = ((oi : Int), (oj : Int)))).length (V.int 1)))) ⟨same_upd hD3, upd_same⟩ (fun t H3 _ h => SqL.of ((G8.same h.1).pl.ls)) ?_ ?_
                · rintro t x H9 H3 ht ⟨sm9, eD3⟩ ⟨rfl, gx⟩
                  obtain ⟨e, he, rfl⟩ := vsOf_at gx
                  have G9 := G8.same sm9
                  refine ⟨rfl, ?_⟩
                  refine ⟨_, rfl, _, rfl, _, rfl, four 2 (by decide), fun tp htp => ?_⟩
                  have s10 := same_upd (o := .tup [.int (0 + (oi : Int)), .int (0 + (oj : Int))]) htp
                  have eD10 := s10 _ _ eD3
                  refine ⟨_, _, .tup (SqT.of (s10 _ _ (G9.pl.ed e (List.mem_of_getElem? he)))) (.cons (.int _) (.cons (.int _) .nil)), .tup (SqT.of upd_same) (.cons (.int _) (.cons (.int _) .nil)), sh_pair _ _, sh_pair _ _, _, rfl, ?_⟩
                  rw [eq_pair, Int.zero_add, Int.zero_add, List.take_add_one, psOf_at he]
                  by_cases hc : e.2 = ((oi : Int), (oj : Int))
                  · refine if_t (decide_eq_true hc) ?_
                    refine ⟨_, eD10, ?_, same_at (sm9.trans s10) hD3, ?_⟩
                    · rw [List.length_replicate]
                      refine small1000 (Nat.le_trans (List.length_filter_le _ _) ?_)
                      rw [List.length_take]
                      unfold psOf
                      rw [List.length_map]
                      omega
                    · rw [upd_same, List.filter_append, List.length_append]
                      show _ = some (HO.lst (List.replicate (_ + (List.filter _ [e.2]).length) _))
                      rw [List.filter_cons_of_pos (by rw [decide_eq_true hc]), List.filter_nil]
                      show _ = some (HO.lst (List.replicate (_ + 1) _))
                      rw [List.replicate_succ']
                  · refine if_f (decide_eq_false hc) ?_
                    refine ⟨sm9.trans s10, ?_⟩
                    rw [eD10, List.filter_append]
                    show _ = some (HO.lst (List.replicate ((_ ++ List.filter _ [e.2]).length) _))
                    rw [List.filter_cons_of_neg (by rw [decide_eq_false hc]; exact Bool.false_ne_true), List.filter_nil, List.append_nil]
                · rintro H9 ⟨sm9, eD3⟩
                  rw [vsOf_len, show ts.length = (psOf ts).length by unfold psOf; rw [List.length_map], List.take_length] at eD3
                  refine ⟨D3, _, rfl, .inl (SqL.of eD3), _, sm9 _ _ eD2, ?_, same_at (sm8.trans sm9) hD2, ?_⟩
                  · rw [cntRow_len]
                    exact small1000 (by omega)
                  · rw [upd_same, cntRow_succ, List.length_replicate]
                    rfl
              · rintro H8 ⟨sm8, eD2⟩
                refine ⟨_, sm8 _ _ eD, ?_, rs ++ [D2], by simp [hrs], same_at (sm.trans sm8) hD, ?_, ?_⟩
                · rw [List.length_map]
                  exact small1000 (by omega)
                · rw [upd_same, List.map_append]
                  rfl
                · intro aa r hr
                  by_cases hlt : aa < rs.length
                  · rw [List.getElem?_append_left hlt] at hr
                    obtain ⟨z1, z2⟩ := hh aa r hr
                    exact ⟨z1, by rw [upd_ne z1]; exact sm8 _ _ z2⟩
                  · rw [List.getElem?_append_right (by omega)] at hr
                    cases hz : aa - rs.length with
                    | zero =>
                      rw [hz] at hr
                      have z : D2 = r := Option.some.inj hr
                      subst z
                      have ea : aa = oi := by omega
                      subst ea
                      exact ⟨D2D, by rw [upd_ne D2D]; exact eD2⟩
                    | succ m =>
                      rw [hz] at hr
                      cases hr
            · rintro H7 ⟨rs, hrs, sm, eD, hh⟩
              exact ⟨_, _, _, _, _, _, _, _, _, _, _, D, rs, rfl, G6.same sm, eD, hrs, fun aa r hr => (hh aa r hr).2⟩
          · rintro σ H7 ⟨v2, v7, v9, v10, v11, v12, v13, v14, v15, v16, v17, D, ds, rfl, G7, CD⟩
            clear G6
            obtain ⟨dx, t, h1, h2⟩ := G7.gr.ob
            refine ⟨_, rfl, g, dx, _, rfl, h1, look_no _ _ (by decide +kernel) (by decide +kernel), g, n, us, rfl, G7.gr, by omega, by omega, by omega, G7.rg, fun p1 rs H8 s8 np1 nrs CA => ?_⟩
            have hr0 : 0 < rs.length := by rw [CA.len]; omega
            have hr0' : rs[0]? = some rs[0] := List.getElem?_eq_getElem hr0
            have nr0 := nrs _ (List.mem_of_getElem? hr0')
            generalize rs[0] = r0 at hr0' nr0
            have er0 := CA.row 0 _ hr0'
            refine ⟨_, rfl, p1, _, _, .ref r0, rfl, rfl, SqL.of CA.ls, atI_nat (j := 0) (by rw [List.getElem?_map, hr0']; rfl), .inl ⟨rfl, _, SqL.of er0⟩, r0, _, _, rfl, rfl, er0, by rw [cntRow_len]; exact small1000 (by omega), ?_⟩
            have s9 : Same H7 (upd H8 r0 (.lst (cntRow (psOf us) n.toNat 0 ++ [.int 0]))) := same_at s8 nr0
            generalize upd H8 r0 (.lst (cntRow (psOf us) n.toNat 0 ++ [.int 0])) = H9 at *
            have G9 := G7.same s9
            have CD9 := CD.same s9
            refine ⟨fun σ H' => ∃ v2 v7 v8 v9 v10 v11 v12 v13 v14 v15 v16 v17 : Option V, σ = [some (.ref a), some (.ref b), v2, some (.ref p), some (.int n), some (.ref q0), some (.ref g), v7, v8, v9, v10, v11, v12, v13, v14, v15, v16, v17] ∧ Gt C b l Pt qn ns p q0 g n ts us H', ?_, ?_⟩
            · obtain ⟨dx, t, h1, h2⟩ := G9.gr.ob
              refine ⟨_, rfl, g, dx, _, rfl, h1, look_no _ _ (by decide +kernel) (by decide +kernel), g, n, us, rfl, G9.gr, by omega, by omega, by omega, G9.rg, fun p2 rs2 H10 s10 np2 nrs2 CB => ?_⟩
              rw [hus] at CB
              refine ⟨_, rfl, _, _, rfl, lk_cnt (k := 2) CB (CD9.same s10) (by omega), fun Hc sc => ⟨true, rfl, if_f rfl ?_⟩⟩
              exact ⟨_, _, _, _, _, _, _, _, _, _, _, _, rfl, (G9.same s10).same sc⟩
            · rintro σ H10 ⟨v2, v7, v8, v9, v10, v11, v12, v13, v14, v15, v16, v17, rfl, G10⟩
              clear G9 G7 CD CD9 CA
              have big : (10 : Int) ^ (20 : Int).toNat = 100000000000000000000 := by decide +kernel
              have small : ∀ z : Int, -1 ≤ z → z ≤ 100000000000000000000 → z.natAbs < 10 ^ 100 := fun z h1 h2 => Nat.lt_of_lt_of_le (show z.natAbs < 100000000000000000001 by omega) (by decide +kernel)
              -- far, odd
              refine ⟨fun σ H' => ∃ v2 v7 v8 v9 v10 v13 v14 v15 v16 v17 : Option V, ∃ (far odd : Int), σ = [some (.ref a), some (.ref b), v2, some (.ref p), some (.int n), some (.ref q0), some (.ref g), v7, v8, v9, v10, some (.int far), some (.int odd), v13, v14, v15, v16, v17] ∧ Gt C b l Pt qn ns p q0 g n ts us H' ∧ ¬ (0 ≤ far ∧ far < n) ∧ far.natAbs < 10 ^ 100 ∧ ¬ (0 ≤ odd ∧ odd < (us.length : Int)) ∧ odd.natAbs < 10 ^ 100, ?_, ?_⟩
              · refine ⟨_, rfl, 1, rfl, _, rfl, _, _, rfl, rfl, ⟨by decide, by decide, by decide⟩, four 3 (by decide), fun t1 ht1 => ?_⟩
                have s11 := same_upd (o := .lst [.int (-1), .int n, .int ((10 : Int) ^ (20 : Int).toNat)]) ht1
                have e11 : upd H10 t1 (.lst [.int (-1), .int n, .int ((10 : Int) ^ (20 : Int).toNat)]) t1 = some (.lst [.int (-1), .int n, .int ((10 : Int) ^ (20 : Int).toNat)]) := upd_same
                have G11 := G10.same s11
                have t1b : t1 ≠ b := G10.bag.ne_new ht1
                generalize upd H10 t1 (.lst [.int (-1), .int n, .int ((10 : Int) ^ (20 : Int).toNat)]) = H11 at *
                refine ⟨b, l, t1, ns, _, rfl, G11.bag, SqL.of e11, t1b, by simp, (by show 3 ≤ 1000; decide), fun i1 v1 o1 hi1 BO1 => ?_⟩
                obtain ⟨far, rfl, hfar, hfs⟩ : ∃ far : Int, v1 = .int far ∧ ¬ (0 ≤ far ∧ far < n) ∧ far.natAbs < 10 ^ 100 := by
                  have hm := List.mem_of_getElem? hi1
                  simp only [List.mem_cons, List.not_mem_nil, or_false] at hm
                  rcases hm with rfl | rfl | rfl
                  · exact ⟨-1, rfl, by omega, small _ (by omega) (by omega)⟩
                  · exact ⟨n, rfl, by omega, small _ (by omega) (by omega)⟩
                  · exact ⟨_, rfl, by rw [big]; omega, small _ (by rw [big]; omega) (by rw [big]; omega)⟩
                have G12 := G11.keep (.updb (o := o1)) (G11.bag.upd BO1)
                generalize upd H11 b o1 = H12 at *
                refine ⟨_, rfl, 1, rfl, _, rfl, q0, _, rfl, .inl (SqL.of G12.pl.ls), _, _, rfl, rfl, ⟨by decide, by decide, by decide⟩, four 3 (by decide), fun t2 ht2 => ?_⟩
                have s13 := same_upd (o := .lst [.int (-1), .int ((vsOf ts).length : Int), .int ((10 : Int) ^ (20 : Int).toNat)]) ht2
                have e13 : upd H12 t2 (.lst [.int (-1), .int ((vsOf ts).length : Int), .int ((10 : Int) ^ (20 : Int).toNat)]) t2 = some (.lst [.int (-1), .int ((vsOf ts).length : Int), .int ((10 : Int) ^ (20 : Int).toNat)]) := upd_same
                have G13 := G12.same s13
                have t2b : t2 ≠ b := G12.bag.ne_new ht2
                generalize upd H12 t2 (.lst [.int (-1), .int ((vsOf ts).length : Int), .int ((10 : Int) ^ (20 : Int).toNat)]) = H13 at *
                refine ⟨b, l, t2, ns, _, rfl, G13.bag, SqL.of e13, t2b, by simp, (by show 3 ≤ 1000; decide), fun i2 v2 o2 hi2 BO2 => ?_⟩
                obtain ⟨odd, rfl, hodd, hos⟩ : ∃ odd : Int, v2 = .int odd ∧ ¬ (0 ≤ odd ∧ odd < (us.length : Int)) ∧ odd.natAbs < 10 ^ 100 := by
                  have hm := List.mem_of_getElem? hi2
                  simp only [List.mem_cons, List.not_mem_nil, or_false] at hm
                  rcases hm with rfl | rfl | rfl
                  · exact ⟨-1, rfl, by omega, small _ (by omega) (by omega)⟩
                  · exact ⟨_, rfl, by rw [vsOf_len]; omega, small _ (by rw [vsOf_len]; omega) (by rw [vsOf_len]; omega)⟩
                  · exact ⟨_, rfl, by rw [big]; omega, small _ (by rw [big]; omega) (by rw [big]; omega)⟩
                have G14 := G13.keep (.updb (o := o2)) (G13.bag.upd BO2)
                generalize upd H13 b o2 = H14 at *
                refine ⟨four 2 (by decide), fun tp htp => ?_⟩
                have s15 := same_upd (o := .tup [.int far, .int odd]) htp
                refine ⟨tp, _, rfl, SqT.of upd_same, rfl, _, _, rfl, _, _, rfl, rfl, ?_⟩
                exact ⟨_, _, _, _, _, _, _, _, _, _, far, odd, rfl, G14.same s15, hfar, hfs, hodd, hos⟩
              · rintro σ H11 ⟨v2, v7, v8, v9, v10, v13, v14, v15, v16, v17, far, odd, rfl, G11, hfar, hfs, hodd, hos⟩
                clear G10
                -- leaving(far)
                refine ⟨G11.tab, fun H12 eN1 T12 => ?_⟩
                have G12 := G11.extN eN1 T12
                obtain ⟨dx, t, h1, h2⟩ := G12.gr.ob
                refine ⟨_, rfl, g, dx, _, rfl, h1, look_no _ _ (by decide +kernel) (by decide +kernel), _, rfl, g, n, us, far, rfl, G12.gr, hfar, hfs, fun d1 hd1 => ⟨CO, d1, _, _, far, EO, rfl, rfl, upd_same, fun H13 p1 s13 np1 e13 => ?_⟩⟩
                have G13 := (G12.same (same_upd hd1)).same s13
                -- entering(far)
                refine ⟨G13.tab, fun H14 eN2 T14 => ?_⟩
                have G14 := G13.extN eN2 T14
                have e14 := eN2 _ _ e13 (fun ps z => by cases z)
                obtain ⟨dx2, t2, h12, h22⟩ := G14.gr.ob
                refine ⟨_, rfl, g, dx2, _, rfl, h12, look_no _ _ (by decide +kernel) (by decide +kernel), _, rfl, g, n, us, far, rfl, G14.gr, hfar, hfs, fun d2 hd2 => ⟨CO, d2, _, _, far, EO, rfl, rfl, upd_same, fun H15 p2 s15 np2 e15 => ?_⟩⟩
                have s15' := (same_upd (o := .xd (erF "number" "outofrange" far)) hd2).trans s15
                have G15 := G14.same s15'
                have e14 := s15' _ _ e14
                refine ⟨four 2 (by decide), fun W hW => ?_⟩
                have s16 := same_upd (o := .lst [.ref p1, .ref p2]) hW
                have G16 := G15.same s16
                have eW : upd H15 W (.lst [.ref p1, .ref p2]) W = some (.lst [.ref p1, .ref p2]) := upd_same
                have e1 := s16 _ _ e14
                have e2 := s16 _ _ e15
                generalize upd H15 W (.lst [.ref p1, .ref p2]) = H16 at *
                -- edge(odd)
                refine ⟨_, rfl, .inl ⟨rfl, _, SqL.of eW⟩, G16.tab, fun H17 eN3 T17 => ?_⟩
                have G17 := G16.extN eN3 T17
                have e1 := eN3 _ _ e1 (fun ps z => by cases z)
                have e2 := eN3 _ _ e2 (fun ps z => by cases z)
                have eW := eN3 _ _ eW (fun ps z => by cases z)
                obtain ⟨dx3, t3, h13, h23⟩ := G17.gr.ob
                refine ⟨_, rfl, g, dx3, _, rfl, h13, look_no _ _ (by decide +kernel) (by decide +kernel), _, rfl, g, n, us, odd, rfl, G17.gr, hodd, hos, fun d3 hd3 => ⟨CO, d3, _, _, odd, EO, rfl, rfl, upd_same, fun H18 p3 s18 np3 e3 => ?_⟩⟩
                have s18' := (same_upd (o := .xd (erF "number" "outofrange" odd)) hd3).trans s18
                have G18 := G17.same s18'
                have e1 := s18' _ _ e1
                have e2 := s18' _ _ e2
                have eW := s18' _ _ eW
                refine ⟨W, _, _, rfl, rfl, eW, (by show 2 < sizeLine; decide), ?_⟩
                have nlst : ∀ {c : Addr} {xs : List V} {o : HO}, H18 c = some (.tup xs) → upd H18 W o c = some (.tup xs) := fun {c xs o} hc => by
                  rw [upd_ne (fun z => by rw [z, eW] at hc; cases hc)]
                  exact hc
                have e1 := nlst (o := .lst ([.ref p1, .ref p2] ++ [.ref p3])) e1
                have e2 := nlst (o := .lst ([.ref p1, .ref p2] ++ [.ref p3])) e2
                have e3 := nlst (o := .lst ([.ref p1, .ref p2] ++ [.ref p3])) e3
                have eW' : upd H18 W (.lst ([.ref p1, .ref p2] ++ [.ref p3])) W = some (.lst [.ref p1, .ref p2, .ref p3]) := upd_same
                have G19 := G18.off (o := .lst ([.ref p1, .ref p2] ++ [.ref p3])) eW (G15.bag.ne_new hW) (ne_of_none G15.bag.sc hW).symm (ne_of_none G15.pl.ls hW).symm
                generalize upd H18 W (.lst ([.ref p1, .ref p2] ++ [.ref p3])) = H19 at *
                clear G11 G12 G13 G14 G15 G16 G17 G18 eW
                refine ⟨_, rfl, _, rfl, four 2 (by decide), fun t1 ht1 => ?_⟩
                have s20 := same_upd (o := .tup [.str "outofrange", .int far]) ht1
                have f1 : upd H19 t1 (.tup [.str "outofrange", .int far]) t1 = some (.tup [.str "outofrange", .int far]) := upd_same
                generalize upd H19 t1 (.tup [.str "outofrange", .int far]) = H20 at *
                refine ⟨four 1 (by decide), fun l1 hl1 => ?_⟩
                have s21 := same_upd (o := .lst [.ref t1]) hl1
                have g1 : upd H20 l1 (.lst [.ref t1]) l1 = some (.lst [.ref t1]) := upd_same
                generalize upd H20 l1 (.lst [.ref t1]) = H21 at *
                refine ⟨l1, 2, _, rfl, rfl, g1, by decide, by decide, four 2 (by decide), fun l2 hl2 => ?_⟩
                have s22 := same_upd (o := .lst (List.replicate (2 : Int).toNat [V.ref t1]).flatten) hl2
                have g2 : upd H21 l2 (.lst (List.replicate (2 : Int).toNat [V.ref t1]).flatten) l2 = some (.lst [.ref t1, .ref t1]) := upd_same
                generalize upd H21 l2 (.lst (List.replicate (2 : Int).toNat [.ref t1]).flatten) = H22 at *
                refine ⟨_, rfl, four 2 (by decide), fun t2 ht2 => ?_⟩
                have s23 := same_upd (o := .tup [.str "outofrange", .int odd]) ht2
                have f2 : upd H22 t2 (.tup [.str "outofrange", .int odd]) t2 = some (.tup [.str "outofrange", .int odd]) := upd_same
                generalize upd H22 t2 (.tup [.str "outofrange", .int odd]) = H23 at *
                refine ⟨four 1 (by decide), fun l3 hl3 => ?_⟩
                have s24 := same_upd (o := .lst [.ref t2]) hl3
                have g3 : upd H23 l3 (.lst [.ref t2]) l3 = some (.lst [.ref t2]) := upd_same
                generalize upd H23 l3 (.lst [.ref t2]) = H24 at *
                refine ⟨l2, l3, [.ref t1, .ref t1], [.ref t2], rfl, rfl, s24 _ _ (s23 _ _ g2), g3, four 3 (by decide), fun l4 hl4 => ?_⟩
                have s25 := same_upd (o := .lst ([.ref t1, .ref t1] ++ [.ref t2])) hl4
                have g4 : upd H24 l4 (.lst ([.ref t1, .ref t1] ++ [.ref t2])) l4 = some (.lst [.ref t1, .ref t1, .ref t2]) := upd_same
                generalize upd H24 l4 (.lst ([.ref t1, .ref t1] ++ [.ref t2])) = H25 at *
                have sA : Same H19 H25 := ((((s20.trans s21).trans s22).trans s23).trans s24).trans s25
                have sB : Same H20 H25 := (((s21.trans s22).trans s23).trans s24).trans s25
                have sC : Same H23 H25 := s24.trans s25
                refine ⟨.list [dOut far, dOut far, dOut odd], .list [dOut far, dOut far, dOut odd], .lst (SqL.of (sA _ _ eW')) (.cons (.tup (SqT.of (sA _ _ e1)) (.cons (.str _) (.cons (.int _) .nil))) (.cons (.tup (SqT.of (sA _ _ e2)) (.cons (.str _) (.cons (.int _) .nil))) (.cons (.tup (SqT.of (sA _ _ e3)) (.cons (.str _) (.cons (.int _) .nil))) .nil))),
                  .lst (SqL.of g4) (.cons (.tup (SqT.of (sB _ _ f1)) (.cons (.str _) (.cons (.int _) .nil))) (.cons (.tup (SqT.of (sB _ _ f1)) (.cons (.str _) (.cons (.int _) .nil))) (.cons (.tup (SqT.of (sC _ _ f2)) (.cons (.str _) (.cons (.int _) .nil))) .nil))), sh_out3 _ _ _, sh_out3 _ _ _, _, rfl, if_f (by rw [eq_out3]; rfl) ?_⟩
                exact ⟨_, _, _, _, _, _, _, _, _, _, _, _, _, _, _, _, rfl, (G19.same sA).bag, (G19.same sA).tab⟩
    · rintro σ H2 ⟨v2, v3, v4, v5, v6, v7, v8, v9, v10, v11, v12, v13, v14, v15, v16, v17, rfl, B2, tb2⟩
      exact q _
end
end Lw
set_option Elab.async false
set_option linter.all false
set_option maxRecDepth 100000
namespace Lw
open PySem L2
theorem exm_own {K : PySem.W.Frag} {C S : Addr} (h1 : PySem.W.subIn K (.ref S) (.type "BaseException") = some true) (h2 : PySem.W.isClsIn K S = true) (h3 : PySem.W.typeIn K (.ref S) = some (.type "type")) (h4 : PySem.W.subIn K (.ref C) (.ref S) = some true) :
    PySem.W.exmOne K (.ref C) (.ref S) = some true := by
  have e1 : (PySem.W.subIn K (.ref S) (.type "BaseException") == some true) = true := by rw [h1] <;> rfl
  have e2 : ((PySem.W.clsIn K S).isSome && PySem.W.typeIn K (.ref S) == some (.type "type")) = true := by
    have h2' : (PySem.W.clsIn K S).isSome = true := h2
    rw [h2', h3] <;> rfl
  show (if (PySem.W.subIn K (.ref S) (.type "BaseException") == some true) = true then (if ((PySem.W.clsIn K S).isSome && PySem.W.typeIn K (.ref S) == some (.type "type")) = true then PySem.W.subIn K (.ref C) (.ref S) else none) else none) = some true
  rw [if_pos e1, if_pos e2]
  exact h4
theorem hd_at {K : PySem.W.Frag} {c P : Addr} (e : PySem.W.codeHdIn K c P = true) : ∃ (e : Value) (dd : Option Addr) (vs : Array Value) (sl : Array (Option Value)), K.lookup c = some ⟨e, dd, .fields vs, sl⟩ ∧ vs[11]? = some (.ref P) := by
  unfold PySem.W.codeHdIn at e
  split at e
  · rename_i vs _ hk
    simp only [Bool.and_eq_true] at e
    obtain ⟨⟨⟨⟨⟨e1, _⟩, _⟩, _⟩, _⟩, _⟩ := e
    split at e1
    · rename_i P' h11
      have hP : P' = P := beq_iff_eq.mp e1
      subst hP
      exact ⟨_, _, _, _, hk, h11⟩
    · cases e1
  · cases e
theorem kit_me {K : PySem.W.Frag} {C : Addr} : PySem.W.kitOne K (.ref C) (.ref C) = some true := by
  unfold PySem.W.kitOne
  simp
set_option maxHeartbeats 4000000 in
theorem all_mk {l : PySem.W.OpenLaw} {w : World} {K : PySem.W.Frag} {h : Heap} {mg : Str → Option Value} {fa C f_bag f_pull f_of f_plan f_like f_field f_tried CW TJ f_win COutOfRange f_OutOfRange f_check f_init f_graph f_edge f_cst f_lea f_ent f_cou f_law cW Pt : Addr} (X : K.In h) (G : h.Ns mainGlobals mg) (hfa : mg "law" = some (.ref fa)) (own : LamX.OwnTab K fa h)
    {t8 t24 : Tok}
    {od_bag an_bag : Option Addr} {sl_bag : Array (Option Value)} {oc_bag kV_bag dc_bag pm_bag cd_bag ct_bag : Value}
    {od_pull an_pull : Option Addr} {sl_pull : Array (Option Value)} {oc_pull kV_pull dc_pull pm_pull cd_pull ct_pull : Value}
    {od_of an_of : Option Addr} {sl_of : Array (Option Value)} {oc_of kV_of dc_of pm_of cd_of ct_of : Value}
    {od_plan an_plan : Option Addr} {sl_plan : Array (Option Value)} {oc_plan kV_plan dc_plan pm_plan cd_plan ct_plan : Value}
    {od_like an_like : Option Addr} {sl_like : Array (Option Value)} {oc_like kV_like dc_like pm_like cd_like ct_like : Value}
    {od_field an_field : Option Addr} {sl_field : Array (Option Value)} {oc_field kV_field dc_field pm_field cd_field ct_field : Value}
    {od_tried an_tried : Option Addr} {sl_tried : Array (Option Value)} {oc_tried kV_tried dc_tried pm_tried cd_tried ct_tried : Value}
    {od_TJ : Option Addr} {sl_TJ : Array (Option Value)} {oc_TJ : Value} {n_TJ : Nat} {tj1 tj2 : Tok}
    {od_win an_win : Option Addr} {sl_win : Array (Option Value)} {oc_win kV_win dc_win pm_win cd_win ct_win : Value}
    {nm_OutOfRange qc_OutOfRange : Str} {N_OutOfRange : Addr} {bs_OutOfRange bm_OutOfRange : List Value} {sn_OutOfRange : List Str} {su_OutOfRange : List Value} {ab_OutOfRange : Bool} {co_OutOfRange : Option Bool} {dd_OutOfRange : Option Addr} {m0_OutOfRange m1_OutOfRange m2_OutOfRange m3_OutOfRange m5_OutOfRange : Option Value}
    {od_OutOfRange an_OutOfRange : Option Addr} {sl_OutOfRange : Array (Option Value)} {oc_OutOfRange kV_OutOfRange dc_OutOfRange pm_OutOfRange cd_OutOfRange ct_OutOfRange : Value}
    {od_check an_check : Option Addr} {sl_check : Array (Option Value)} {oc_check kV_check dc_check pm_check cd_check ct_check : Value}
    {od_init an_init : Option Addr} {sl_init : Array (Option Value)} {oc_init kV_init dc_init pm_init cd_init ct_init : Value}
    {od_graph an_graph : Option Addr} {sl_graph : Array (Option Value)} {oc_graph kV_graph dc_graph pm_graph cd_graph ct_graph : Value}
    {od_edge an_edge : Option Addr} {sl_edge : Array (Option Value)} {oc_edge kV_edge dc_edge pm_edge cd_edge ct_edge : Value}
    {od_cst an_cst : Option Addr} {sl_cst : Array (Option Value)} {oc_cst kV_cst dc_cst pm_cst cd_cst ct_cst : Value}
    {od_lea an_lea : Option Addr} {sl_lea : Array (Option Value)} {oc_lea kV_lea dc_lea pm_lea cd_lea ct_lea : Value}
    {od_ent an_ent : Option Addr} {sl_ent : Array (Option Value)} {oc_ent kV_ent dc_ent pm_ent cd_ent ct_ent : Value}
    {od_cou an_cou : Option Addr} {sl_cou : Array (Option Value)} {oc_cou kV_cou dc_cou pm_cou cd_cou ct_cou : Value}
    {od_law an_law : Option Addr} {sl_law : Array (Option Value)} {oc_law kV_law dc_law pm_law  ct_law : Value}
    (z_len : PySem.W.nsIn K mainGlobals "len" = some none)
    (z_list : PySem.W.nsIn K mainGlobals "list" = some none)
    (z_tuple : PySem.W.nsIn K mainGlobals "tuple" = some none)
    (z_bool : PySem.W.nsIn K mainGlobals "bool" = some none)
    (z_int : PySem.W.nsIn K mainGlobals "int" = some none)
    (z_str : PySem.W.nsIn K mainGlobals "str" = some none)
    (z_isinstance : PySem.W.nsIn K mainGlobals "isinstance" = some none)
    (z_all : PySem.W.nsIn K mainGlobals "all" = some none)
    (z_zip : PySem.W.nsIn K mainGlobals "zip" = some none)
    (z_range : PySem.W.nsIn K mainGlobals "range" = some none)
    (z_ValueError : PySem.W.nsIn K mainGlobals "ValueError" = some none)
    (z_enumerate : PySem.W.nsIn K mainGlobals "enumerate" = some none)
    (aC : PySem.W.nsIn K mainGlobals "Graph" = some (some (.ref C)))
    (gpg : PySem.W.plainGet K C Str.empty = true)
    (ghd : PySem.W.hasDictIn K C = true)
    (gpo : PySem.W.plainOver K C = true)
    (gsa : PySem.W.findIn K (.ref C) "__setattr__" = some (some (.builtin "object.__setattr__")))
    (gmk : PySem.W.makesIn K C = true)
    (gkc : PySem.W.keepIn K (.ref C) = true)
    (gnS : PySem.W.findIn K (.ref C) "state_count" = some none)
    (gnE : PySem.W.findIn K (.ref C) "edge_pairs" = some none)
    (grd : PySem.W.readsIn K C (.type "type") = true)
    (gga : PySem.W.specialIn K (.ref C) "__getattribute__" = some (some (.builtin "type.__getattribute__")))
    (gv8 : PySem.W.findCls K (.ref C) (.type "type") "MAX_STATES" = some (.val (.int 8 t8)))
    (gv24 : PySem.W.findCls K (.ref C) (.type "type") "MAX_EDGES" = some (.val (.int 24 t24)))
    (a_bag : PySem.W.nsIn K mainGlobals "_law_bag" = some (some (.ref f_bag)))
    (l_bag : K.lookup f_bag = some ⟨oc_bag, od_bag, .func (PySem.W.fnOf "_law_bag" "_law_bag" (defArgs sBag) (defBody sBag) (defScope sBag) .none kV_bag dc_bag pm_bag an_bag cd_bag ct_bag), sl_bag⟩)
    (c_bag : PySem.W.codeIn K cd_bag "_law_bag" = true)
    (k_bag : PySem.W.keepIn K (.ref f_bag) = true)
    (a_pull : PySem.W.nsIn K mainGlobals "_law_pull" = some (some (.ref f_pull)))
    (l_pull : K.lookup f_pull = some ⟨oc_pull, od_pull, .func (PySem.W.fnOf "_law_pull" "_law_pull" (defArgs sPull) (defBody sPull) (defScope sPull) .none kV_pull dc_pull pm_pull an_pull cd_pull ct_pull), sl_pull⟩)
    (c_pull : PySem.W.codeIn K cd_pull "_law_pull" = true)
    (k_pull : PySem.W.keepIn K (.ref f_pull) = true)
    (a_of : PySem.W.nsIn K mainGlobals "_law_of" = some (some (.ref f_of)))
    (l_of : K.lookup f_of = some ⟨oc_of, od_of, .func (PySem.W.fnOf "_law_of" "_law_of" (defArgs sOf) (defBody sOf) (defScope sOf) .none kV_of dc_of pm_of an_of cd_of ct_of), sl_of⟩)
    (c_of : PySem.W.codeIn K cd_of "_law_of" = true)
    (k_of : PySem.W.keepIn K (.ref f_of) = true)
    (a_plan : PySem.W.nsIn K mainGlobals "_law_plan" = some (some (.ref f_plan)))
    (l_plan : K.lookup f_plan = some ⟨oc_plan, od_plan, .func (PySem.W.fnOf "_law_plan" "_law_plan" (defArgs sPlan) (defBody sPlan) (defScope sPlan) .none kV_plan dc_plan pm_plan an_plan cd_plan ct_plan), sl_plan⟩)
    (c_plan : PySem.W.codeIn K cd_plan "_law_plan" = true)
    (k_plan : PySem.W.keepIn K (.ref f_plan) = true)
    (a_like : PySem.W.nsIn K mainGlobals "_law_like" = some (some (.ref f_like)))
    (l_like : K.lookup f_like = some ⟨oc_like, od_like, .func (PySem.W.fnOf "_law_like" "_law_like" (defArgs sLike) (defBody sLike) (defScope sLike) .none kV_like dc_like pm_like an_like cd_like ct_like), sl_like⟩)
    (c_like : PySem.W.codeIn K cd_like "_law_like" = true)
    (k_like : PySem.W.keepIn K (.ref f_like) = true)
    (a_field : PySem.W.nsIn K mainGlobals "_law_field" = some (some (.ref f_field)))
    (l_field : K.lookup f_field = some ⟨oc_field, od_field, .func (PySem.W.fnOf "_law_field" "_law_field" (defArgs sField) (defBody sField) (defScope sField) .none kV_field dc_field pm_field an_field cd_field ct_field), sl_field⟩)
    (c_field : PySem.W.codeIn K cd_field "_law_field" = true)
    (k_field : PySem.W.keepIn K (.ref f_field) = true)
    (a_tried : PySem.W.nsIn K mainGlobals "_law_tried" = some (some (.ref f_tried)))
    (l_tried : K.lookup f_tried = some ⟨oc_tried, od_tried, .func (PySem.W.fnOf "_law_tried" "_law_tried" (defArgs sTried) (defBody sTried) (defScope sTried) .none kV_tried dc_tried pm_tried an_tried cd_tried ct_tried), sl_tried⟩)
    (c_tried : PySem.W.codeIn K cd_tried "_law_tried" = true)
    (k_tried : PySem.W.keepIn K (.ref f_tried) = true)
    (aX : PySem.W.nsIn K mainGlobals "WindowError" = some (some (.ref CW)))
    (eX : PySem.W.subIn K (.ref CW) (.type "BaseException") = some true)
    (tX : PySem.W.typeIn K (.ref CW) = some (.type "type"))
    (iX : PySem.W.isClsIn K CW = true)
    (a_win : PySem.W.findCls K (.ref CW) (.type "type") "__init__" = some (.val (.ref f_win)))
    (l_win : K.lookup f_win = some ⟨oc_win, od_win, .func (PySem.W.fnOf "__init__" "WindowError.__init__" (defArgs sWin) (defBody sWin) (defScope sWin) (.ref TJ) kV_win dc_win pm_win an_win cd_win ct_win), sl_win⟩)
    (c_win : PySem.W.codeIn K cd_win "WindowError.__init__" = true)
    (k_win : PySem.W.keepIn K (.ref f_win) = true)
    (lTJ : K.lookup TJ = some ⟨oc_TJ, od_TJ, .seq #[.str "windowerror" tj1, .str "" tj2] n_TJ, sl_TJ⟩)
    (rdX : PySem.W.readsIn K CW (.type "type") = true)
    (gtX : PySem.W.specialIn K (.ref CW) "__getattribute__" = some (some (.builtin "type.__getattribute__")))
    (vV : PySem.W.findCls K (.type "ValueError") (.type "type") "__init__" = some (.val (.builtin "ValueError.__init__")))
    (aCOutOfRange : PySem.W.nsIn K mainGlobals "OutOfRange" = some (some (.ref COutOfRange)))
    (xLOutOfRange : K.lookup COutOfRange = some (excClassObj nm_OutOfRange qc_OutOfRange COutOfRange N_OutOfRange bs_OutOfRange bm_OutOfRange true sn_OutOfRange su_OutOfRange ab_OutOfRange co_OutOfRange dd_OutOfRange m0_OutOfRange m1_OutOfRange m2_OutOfRange m3_OutOfRange m5_OutOfRange "ValueError.__new__"))
    (rVOutOfRange : PySem.HandSPX.refsVE bm_OutOfRange = true)
    (saOutOfRange : PySem.W.findIn K (.ref COutOfRange) "__setattr__" = some (some (.builtin "object.__setattr__")))
    (gaOutOfRange : PySem.W.findIn K (.ref COutOfRange) "__getattribute__" = some (some (.builtin "BaseException.__getattribute__")))
    (ggOutOfRange : PySem.W.findIn K (.ref COutOfRange) "__getattr__" = some none)
    (nwOutOfRange : PySem.W.findIn K (.ref COutOfRange) "word" = some none)
    (nnOutOfRange : PySem.W.findIn K (.ref COutOfRange) "number" = some none)
    (kCOutOfRange : PySem.W.keepIn K (.ref COutOfRange) = true)
    (eCOutOfRange : PySem.W.subIn K (.ref COutOfRange) (.type "BaseException") = some true)
    (tCOutOfRange : PySem.W.typeIn K (.ref COutOfRange) = some (.type "type"))
    (hCOutOfRange : PySem.W.hasDictIn K COutOfRange = true)
    (sXOutOfRange : PySem.W.subIn K (.ref COutOfRange) (.ref CW) = some true)
    (a_OutOfRange : PySem.W.findIn K (.ref COutOfRange) "__init__" = some (some (.ref f_OutOfRange)))
    (tIOutOfRange : PySem.W.typeIn K (.ref f_OutOfRange) = some (.type "function"))
    (l_OutOfRange : K.lookup f_OutOfRange = some ⟨oc_OutOfRange, od_OutOfRange, .func (PySem.W.fnOf "__init__" "OutOfRange.__init__" (defArgs sOutOfRange) (defBody sOutOfRange) (defScope sOutOfRange) .none kV_OutOfRange dc_OutOfRange pm_OutOfRange an_OutOfRange cd_OutOfRange ct_OutOfRange), sl_OutOfRange⟩)
    (c_OutOfRange : PySem.W.codeIn K cd_OutOfRange "OutOfRange.__init__" = true)
    (k_OutOfRange : PySem.W.keepIn K (.ref f_OutOfRange) = true)
    (a_check : PySem.W.nsIn K mainGlobals "check_edges" = some (some (.ref f_check)))
    (l_check : K.lookup f_check = some ⟨oc_check, od_check, .func (PySem.W.fnOf "check_edges" "check_edges" (defArgs sCheck) (defBody sCheck) (defScope sCheck) .none kV_check dc_check pm_check an_check cd_check ct_check), sl_check⟩)
    (c_check : PySem.W.codeIn K cd_check "check_edges" = true)
    (k_check : PySem.W.keepIn K (.ref f_check) = true)
    (a_init : PySem.W.findIn K (.ref C) "__init__" = some (some (.ref f_init)))
    (i_init : PySem.W.isFn K (.ref f_init) = true)
    (l_init : K.lookup f_init = some ⟨oc_init, od_init, .func (PySem.W.fnOf "__init__" "Graph.__init__" (defArgs sInit) (defBody sInit) (defScope sInit) .none kV_init dc_init pm_init an_init cd_init ct_init), sl_init⟩)
    (c_init : PySem.W.codeIn K cd_init "Graph.__init__" = true)
    (k_init : PySem.W.keepIn K (.ref f_init) = true)
    (a_graph : PySem.W.nsIn K mainGlobals "_law_graph" = some (some (.ref f_graph)))
    (l_graph : K.lookup f_graph = some ⟨oc_graph, od_graph, .func (PySem.W.fnOf "_law_graph" "_law_graph" (defArgs sGraph) (defBody sGraph) (defScope sGraph) .none kV_graph dc_graph pm_graph an_graph cd_graph ct_graph), sl_graph⟩)
    (c_graph : PySem.W.codeIn K cd_graph "_law_graph" = true)
    (k_graph : PySem.W.keepIn K (.ref f_graph) = true)
    (a_edge : PySem.W.findIn K (.ref C) "edge" = some (some (.ref f_edge)))
    (i_edge : PySem.W.isFn K (.ref f_edge) = true)
    (l_edge : K.lookup f_edge = some ⟨oc_edge, od_edge, .func (PySem.W.fnOf "edge" "Graph.edge" (defArgs sEdge) (defBody sEdge) (defScope sEdge) .none kV_edge dc_edge pm_edge an_edge cd_edge ct_edge), sl_edge⟩)
    (c_edge : PySem.W.codeIn K cd_edge "Graph.edge" = true)
    (k_edge : PySem.W.keepIn K (.ref f_edge) = true)
    (a_cst : PySem.W.findIn K (.ref C) "check_state" = some (some (.ref f_cst)))
    (i_cst : PySem.W.isFn K (.ref f_cst) = true)
    (l_cst : K.lookup f_cst = some ⟨oc_cst, od_cst, .func (PySem.W.fnOf "check_state" "Graph.check_state" (defArgs sCheckState) (defBody sCheckState) (defScope sCheckState) .none kV_cst dc_cst pm_cst an_cst cd_cst ct_cst), sl_cst⟩)
    (c_cst : PySem.W.codeIn K cd_cst "Graph.check_state" = true)
    (k_cst : PySem.W.keepIn K (.ref f_cst) = true)
    (a_lea : PySem.W.findIn K (.ref C) "leaving" = some (some (.ref f_lea)))
    (i_lea : PySem.W.isFn K (.ref f_lea) = true)
    (l_lea : K.lookup f_lea = some ⟨oc_lea, od_lea, .func (PySem.W.fnOf "leaving" "Graph.leaving" (defArgs sLeaving) (defBody sLeaving) (defScope sLeaving) .none kV_lea dc_lea pm_lea an_lea cd_lea ct_lea), sl_lea⟩)
    (c_lea : PySem.W.codeIn K cd_lea "Graph.leaving" = true)
    (k_lea : PySem.W.keepIn K (.ref f_lea) = true)
    (a_ent : PySem.W.findIn K (.ref C) "entering" = some (some (.ref f_ent)))
    (i_ent : PySem.W.isFn K (.ref f_ent) = true)
    (l_ent : K.lookup f_ent = some ⟨oc_ent, od_ent, .func (PySem.W.fnOf "entering" "Graph.entering" (defArgs sEntering) (defBody sEntering) (defScope sEntering) .none kV_ent dc_ent pm_ent an_ent cd_ent ct_ent), sl_ent⟩)
    (c_ent : PySem.W.codeIn K cd_ent "Graph.entering" = true)
    (k_ent : PySem.W.keepIn K (.ref f_ent) = true)
    (a_cou : PySem.W.findIn K (.ref C) "counts" = some (some (.ref f_cou)))
    (i_cou : PySem.W.isFn K (.ref f_cou) = true)
    (l_cou : K.lookup f_cou = some ⟨oc_cou, od_cou, .func (PySem.W.fnOf "counts" "Graph.counts" (defArgs sCounts) (defBody sCounts) (defScope sCounts) .none kV_cou dc_cou pm_cou an_cou cd_cou ct_cou), sl_cou⟩)
    (c_cou : PySem.W.codeIn K cd_cou "Graph.counts" = true)
    (k_cou : PySem.W.keepIn K (.ref f_cou) = true)
    (a_law : PySem.W.nsIn K mainGlobals "law" = some (some (.ref f_law)))
    (l_law : K.lookup f_law = some ⟨oc_law, od_law, .func (PySem.W.fnOf "law" "law" (defArgs sLaw) (defBody sLaw) (defScope sLaw) .none kV_law dc_law pm_law an_law (.ref cW) ct_law), sl_law⟩)
    (c_law : PySem.W.codeIn K (.ref cW) "law" = true)
    (k_law : PySem.W.keepIn K (.ref f_law) = true)
    (tW : PySem.W.tabIn K "law" = some (cW, Pt))
    (hW : PySem.W.codeHdIn K cW Pt = true)
    (nP : K.lookup Pt = none) :
    LamX.LawAtS l w K CX0 10 63 "_law_script" mg fa h := by
  have e := hfa.symm.trans (PySem.W.mg_of X G a_law)
  cases e
  have T : Bi mg := ⟨PySem.W.mg_none_of X G z_len, PySem.W.mg_none_of X G z_list, PySem.W.mg_none_of X G z_tuple, PySem.W.mg_none_of X G z_bool, PySem.W.mg_none_of X G z_int, PySem.W.mg_none_of X G z_str, PySem.W.mg_none_of X G z_isinstance, PySem.W.mg_none_of X G z_all, PySem.W.mg_none_of X G z_zip, PySem.W.mg_none_of X G z_range⟩
  have cl : Cls K C := ⟨gpg, ghd, gpo, gsa⟩
  have GT : GTxt K mg C (.type "type") := ⟨cl, gnS, gnE, PySem.W.mg_of X G aC, ⟨grd, gga⟩, ⟨_, gv8, ⟨_, rfl⟩⟩, ⟨_, gv24, ⟨_, rfl⟩⟩, PySem.W.mg_none_of X G z_enumerate⟩
  have F_bag := fun_mk (st := sBag) l_bag c_bag k_bag
  have b_bag := F_bag.binds (ps := ["_law_script"]) fun _ _ _ _ _ _ us hl => match us, hl with | [_], _ => rfl
  have F_pull := fun_mk (st := sPull) l_pull c_pull k_pull
  have b_pull := F_pull.binds (ps := ["_law_bag_here", "_law_many"]) fun _ _ _ _ _ _ us hl => match us, hl with | [_, _], _ => rfl
  have F_of := fun_mk (st := sOf) l_of c_of k_of
  have b_of := F_of.binds (ps := ["_law_bag_here", "_law_things"]) fun _ _ _ _ _ _ us hl => match us, hl with | [_, _], _ => rfl
  have F_plan := fun_mk (st := sPlan) l_plan c_plan k_plan
  have b_plan := F_plan.binds (ps := ["_law_bag_here", "_law_most", "_law_many"]) fun _ _ _ _ _ _ us hl => match us, hl with | [_, _, _], _ => rfl
  have F_like := fun_mk (st := sLike) l_like c_like k_like
  have b_like := F_like.binds (ps := ["_law_found", "_law_due"]) fun _ _ _ _ _ _ us hl => match us, hl with | [_, _], _ => rfl
  have F_field := fun_mk (st := sField) l_field c_field k_field
  have b_field := F_field.binds (ps := ["_law_e"]) fun _ _ _ _ _ _ us hl => match us, hl with | [_], _ => rfl
  have F_tried := fun_mk (st := sTried) l_tried c_tried k_tried
  have b_tried := F_tried.binds (ps := ["_law_ask"]) fun _ _ _ _ _ _ us hl => match us, hl with | [_], _ => rfl
  have F_win : FunD K "__init__" "WindowError.__init__" (defArgs sWin) (defBody sWin) (defScope sWin) [.str "windowerror", .str ""] [] f_win (PySem.W.fnOf "__init__" "WindowError.__init__" (defArgs sWin) (defBody sWin) (defScope sWin) (.ref TJ) kV_win dc_win pm_win an_win cd_win ct_win) :=
    ⟨⟨_, _, _, _, _, _, _, _, _, _, rfl, l_win, c_win, .inr ⟨by simp, TJ, _, [.str "windowerror" tj1, .str "" tj2], _, rfl, lTJ, rfl, .cons ⟨_, rfl⟩ (.cons ⟨_, rfl⟩ .nil)⟩, .inl rfl⟩, k_win⟩
  have b_win : Binds K (PySem.W.fnOf "__init__" "WindowError.__init__" (defArgs sWin) (defBody sWin) (defScope sWin) (.ref TJ) kV_win dc_win pm_win an_win cd_win ct_win) ["self", "word", "told"] [] := by
    obtain ⟨ds, hv, hb⟩ := F_win.binds1 (ps := ["self", "word", "told"]) 3 2 (by simp) rfl (fun _ _ _ _ _ _ _ us its hu hi => match us, its, hu, hi with | [_, _, _], [_, _], _, _ => ⟨_, rfl, rfl⟩)
    cases hv
    exact hb
  have F_OutOfRange := fun_mk (st := sOutOfRange) l_OutOfRange c_OutOfRange k_OutOfRange
  have b_OutOfRange := F_OutOfRange.binds (ps := ["self", "number"]) fun _ _ _ _ _ _ us hl => match us, hl with | [_, _], _ => rfl
  have TOOutOfRange : OexC K COutOfRange := ⟨⟨nm_OutOfRange, qc_OutOfRange, N_OutOfRange, bs_OutOfRange, bm_OutOfRange, sn_OutOfRange, su_OutOfRange, ab_OutOfRange, co_OutOfRange, dd_OutOfRange, m0_OutOfRange, m1_OutOfRange, m2_OutOfRange, m3_OutOfRange, m5_OutOfRange, xLOutOfRange, rVOutOfRange⟩, saOutOfRange, eCOutOfRange, tCOutOfRange, kCOutOfRange⟩
  have xfOutOfRange : XfC K COutOfRange := ⟨gaOutOfRange, ggOutOfRange, eCOutOfRange, hCOutOfRange⟩
  have F_check := fun_mk (st := sCheck) l_check c_check k_check
  have b_check := F_check.binds (ps := ["states", "edges"]) fun _ _ _ _ _ _ us hl => match us, hl with | [_, _], _ => rfl
  have F_init := fun_mk (st := sInit) l_init c_init k_init
  have b_init := F_init.binds (ps := ["self", "states", "edges"]) fun _ _ _ _ _ _ us hl => match us, hl with | [_, _, _], _ => rfl
  have F_graph := fun_mk (st := sGraph) l_graph c_graph k_graph
  have b_graph := F_graph.binds (ps := ["_law_plan_here"]) fun _ _ _ _ _ _ us hl => match us, hl with | [_], _ => rfl
  have F_edge := fun_mk (st := sEdge) l_edge c_edge k_edge
  have b_edge := F_edge.binds (ps := ["self", "number"]) fun _ _ _ _ _ _ us hl => match us, hl with | [_, _], _ => rfl
  have F_cst := fun_mk (st := sCheckState) l_cst c_cst k_cst
  have b_cst := F_cst.binds (ps := ["self", "state"]) fun _ _ _ _ _ _ us hl => match us, hl with | [_, _], _ => rfl
  have F_lea := fun_mk (st := sLeaving) l_lea c_lea k_lea
  have b_lea := F_lea.binds (ps := ["self", "state"]) fun _ _ _ _ _ _ us hl => match us, hl with | [_, _], _ => rfl
  have F_ent := fun_mk (st := sEntering) l_ent c_ent k_ent
  have b_ent := F_ent.binds (ps := ["self", "state"]) fun _ _ _ _ _ _ us hl => match us, hl with | [_, _], _ => rfl
  have F_cou := fun_mk (st := sCounts) l_cou c_cou k_cou
  have b_cou := F_cou.binds (ps := ["self"]) fun _ _ _ _ _ _ us hl => match us, hl with | [_], _ => rfl
  obtain ⟨ev, dv, vsv, slv, e1, e2⟩ := hd_at hW
  have hP := own cW Pt _ _ _ _ _ _ l_law rfl rfl e1 e2
  refine ⟨PySem.W.fnOf "law" "law" (defArgs sLaw) (defBody sLaw) (defScope sLaw) .none kV_law dc_law pm_law an_law (.ref cW) ct_law, [(cW, Pt)], spLaw K Pt, fun p hp => by rw [List.mem_singleton.mp hp]; exact hP, fun p hp => by rw [List.mem_singleton.mp hp]; exact nP, fun p hp => by rw [List.mem_singleton.mp hp]; exact PySem.W.codeHd_of_K X hW, fun s v => .of_eq rfl, fun H a ns hl _ hH hS => ⟨a, ns, rfl, hS, hl, hH _ (List.mem_singleton.mpr rfl), fun _ => rfl⟩, fun base _ _ TB => ?_⟩
  have cal_bag : C8.Cal l.prog w K mg base 1 "_law_bag" (spBag K) [] := ⟨f_bag, _, _, [], ok_bag (k := 0) F_bag T, PySem.W.mg_of X G a_bag, k_bag, b_bag, .nil⟩
  have cal_pull : C8.Cal l.prog w K mg base 1 "_law_pull" spPull [] := ⟨f_pull, _, _, [], ok_pull (k := 0) F_pull T.len, PySem.W.mg_of X G a_pull, k_pull, b_pull, .nil⟩
  have cal_of : C8.Cal l.prog w K mg base 2 "_law_of" (spOf K) [] := ⟨f_of, _, _, [], ok_of (k := 0) F_of T cal_pull, PySem.W.mg_of X G a_of, k_of, b_of, .nil⟩
  have cal_plan : C8.Cal l.prog w K mg base 2 "_law_plan" spPlan [] := ⟨f_plan, _, _, [], ok_plan (k := 0) F_plan T cal_pull, PySem.W.mg_of X G a_plan, k_plan, b_plan, .nil⟩
  have cal_like : C8.Cal l.prog w K mg base 1 "_law_like" (spLike 0) [] := ⟨f_like, _, _, [], like0 (k := 0) F_like, PySem.W.mg_of X G a_like, k_like, b_like, .nil⟩
  have cal_like : C8.Cal l.prog w K mg base 2 "_law_like" (spLike 1) [] := ⟨f_like, _, _, [], ok_like (n := 1) (k := 0) F_like T (fun _ => cal_like), PySem.W.mg_of X G a_like, k_like, b_like, .nil⟩
  have cal_like : C8.Cal l.prog w K mg base 3 "_law_like" (spLike 2) [] := ⟨f_like, _, _, [], ok_like (n := 2) (k := 1) F_like T (fun _ => cal_like), PySem.W.mg_of X G a_like, k_like, b_like, .nil⟩
  have cal_like : C8.Cal l.prog w K mg base 4 "_law_like" (spLike 3) [] := ⟨f_like, _, _, [], ok_like (n := 3) (k := 2) F_like T (fun _ => cal_like), PySem.W.mg_of X G a_like, k_like, b_like, .nil⟩
  have cal_like : C8.Cal l.prog w K mg base 5 "_law_like" (spLike 4) [] := ⟨f_like, _, _, [], ok_like (n := 4) (k := 3) F_like T (fun _ => cal_like), PySem.W.mg_of X G a_like, k_like, b_like, .nil⟩
  have cal_like : C8.Cal l.prog w K mg base 6 "_law_like" (spLike 5) [] := ⟨f_like, _, _, [], ok_like (n := 5) (k := 4) F_like T (fun _ => cal_like), PySem.W.mg_of X G a_like, k_like, b_like, .nil⟩
  have o_win := ok_win (P := l.prog) (w := w) (mg := mg) (base := base) (k := 0) F_win (PySem.W.mg_none_of X G z_ValueError) vV
  have o_OutOfRange := ok_outofrange (P := l.prog) (w := w) (mg := mg) (base := base) (k := 0) F_OutOfRange TOOutOfRange nwOutOfRange nnOutOfRange (PySem.W.mg_of X G aX) ⟨rdX, gtX⟩ ⟨a_win, rfl⟩ k_win o_win b_win
  have R_OutOfRange : ErrIn l.prog w K mg base "OutOfRange" COutOfRange "number" "outofrange" := ⟨TOOutOfRange, PySem.W.mg_of X G aCOutOfRange, f_OutOfRange, _, a_OutOfRange, tIOutOfRange, o_OutOfRange, b_OutOfRange⟩
  have EO_OutOfRange : ErOk l.prog w K mg base CW f_field _ COutOfRange "number" "outofrange" := ⟨exm_own eX iX tX sXOutOfRange, xfOutOfRange, nwOutOfRange, by decide +kernel, fun a dd => ok_field_outofrange (k := 0) F_field xfOutOfRange nwOutOfRange nnOutOfRange⟩
  have cal_check : C8.Cal l.prog w K mg base 1 "check_edges" (spCheck K) [] := ⟨f_check, _, _, [], ok_check (k := 0) F_check T GT, PySem.W.mg_of X G a_check, k_check, b_check, .nil⟩
  have mG : C8.Mak l.prog w K mg base 2 "Graph" C (spInit C) [] := ⟨f_init, _, _, [], ⟨gmk, a_init, i_init, gkc⟩, ok_init (k := 0) F_init T GT cal_check, PySem.W.mg_of X G aC, b_init, .nil⟩
  have cal_graph : C8.Cal l.prog w K mg base 4 "_law_graph" (spGraph C) [] := ⟨f_graph, _, _, [], ok_graph (k := 0) F_graph T mG, PySem.W.mg_of X G a_graph, k_graph, b_graph, .nil⟩
  have m_edge : C8.Met l.prog w K mg base 1 C "edge" (spEdge0 C) [] := ⟨f_edge, _, _, [], cl, ⟨a_edge, i_edge, k_edge⟩, ok_edge0 (k := 0) F_edge T GT, b_edge, .nil⟩
  have m_cst : C8.Met l.prog w K mg base 1 C "check_state" (spState0 C) [] := ⟨f_cst, _, _, [], cl, ⟨a_cst, i_cst, k_cst⟩, ok_state0 (k := 0) F_cst GT, b_cst, .nil⟩
  have m_lea : C8.Met l.prog w K mg base 2 C "leaving" (spAll C fstIs) [] := ⟨f_lea, _, _, [], cl, ⟨a_lea, i_lea, k_lea⟩, ok_leaving0 (k := 0) F_lea GT m_cst, b_lea, .nil⟩
  have m_ent : C8.Met l.prog w K mg base 2 C "entering" (spAll C sndIs) [] := ⟨f_ent, _, _, [], cl, ⟨a_ent, i_ent, k_ent⟩, ok_entering0 (k := 0) F_ent GT m_cst, b_ent, .nil⟩
  have m_cou : C8.Met l.prog w K mg base 1 C "counts" (spCounts C) [] := ⟨f_cou, _, _, [], cl, ⟨a_cou, i_cou, k_cou⟩, ok_counts (k := 0) F_cou T GT, b_cou, .nil⟩
  have x_edge : MetX l.prog w K mg base 4 C "edge" (spEdgeX C COutOfRange) := ⟨f_edge, _, _, cl, ⟨a_edge, i_edge, k_edge⟩, ok_edgeX (k := 0) F_edge T GT R_OutOfRange, b_edge⟩
  have x_cst : MetX l.prog w K mg base 4 C "check_state" (spStateX C COutOfRange) := ⟨f_cst, _, _, cl, ⟨a_cst, i_cst, k_cst⟩, ok_stateX (k := 0) F_cst GT R_OutOfRange, b_cst⟩
  have x_lea : MetX l.prog w K mg base 5 C "leaving" (spStateX C COutOfRange) := ⟨f_lea, _, _, cl, ⟨a_lea, i_lea, k_lea⟩, ok_leavingX (k := 0) F_lea GT x_cst, b_lea⟩
  have x_ent : MetX l.prog w K mg base 5 C "entering" (spStateX C COutOfRange) := ⟨f_ent, _, _, cl, ⟨a_ent, i_ent, k_ent⟩, ok_enteringX (k := 0) F_ent GT x_cst, b_ent⟩
  exact ok_law l_law c_law (TB _ (List.mem_singleton.mpr rfl)) (C := C) (CO := COutOfRange) (mc := .type "type") ⟨T, GT, cal_bag, cal_of, cal_plan, cal_like, cal_graph, m_edge, m_lea, m_ent, m_cou, x_lea, x_ent, x_edge, ⟨f_tried, _, _, _, _, _, _, _, _, _, _, PySem.W.mg_of X G a_tried, k_tried, l_tried, c_tried, b_tried⟩, ⟨CW, f_field, _, PySem.W.mg_of X G aX, PySem.W.mg_of X G a_field, k_field, b_field, EO_OutOfRange⟩⟩
theorem walk {l : PySem.W.OpenLaw} {q : Program} {loose : List Str} {XP : (Str → Option Value) → Heap → Prop} {YP : World → Heap → Prop} {d : DefRec} {K : Params → PySem.W.Frag} (hn : l.most = some 63) (hdf : d.params.defaults = []) (hrec : ((PyProof.Rows.recsOf q).any fun e => e.name == d.name) = true)
    (hY : ∀ (w : World) (h : Heap), YP w h → (K w.params).In h)
    (F : ∀ (w : World) (mg : Str → Option Value) (fa : Addr) (h : Heap), YP w h → (K w.params).In h → h.Ns mainGlobals mg → mg d.name = some (.ref fa) → LamX.OwnTab (K w.params) fa h → LamX.LawAtS l w (K w.params) CX0 10 63 "_law_script" mg fa h) :
    PySem.W.WalkO q loose XP YP l.row.toRowW d [] (fun f vs => PySem.call f vs) :=
  LamX.walk_ofOwn (n := 63) (k := 10) (x := "_law_script") (CX := fun _ => CX0) hn (by decide) hdf ⟨rfl, by decide, by decide⟩ hrec hY F fun _ _ _ _ _ z => z
end Lw
open PySem PySem.W PyProof.Rows
set_option Elab.async false
set_option maxRecDepth 100000 in
set_option maxHeartbeats 0 in
theorem PySem.Challenge.cw_windowkin_k03_edges_of_states_holds : PySem.Challenge.rw_windowkin_k03_edges_of_states.Holds := by
  w_on; o_law; k_head; (case hw => w_witness2)
  k_fill
  refine Lw.walk (l := PySem.Challenge.rw_windowkin_k03_edges_of_states) rfl rfl ?R (fun w h Y => PySem.W.km_in_of Y) ?F
  (case R => first | rfl | decide +kernel)
  case F =>
    intro w mg fa h Y KX G hmg own
    refine' Lw.all_mk KX G hmg own ?z_len ?z_list ?z_tuple ?z_bool ?z_int ?z_str ?z_isinstance ?z_all ?z_zip ?z_range ?z_ValueError ?z_enumerate ?aC ?gpg ?ghd ?gpo ?gsa ?gmk ?gkc ?gnS ?gnE ?grd ?gga ?gv8 ?gv24 ?a_bag ?l_bag ?c_bag ?k_bag ?a_pull ?l_pull ?c_pull ?k_pull ?a_of ?l_of ?c_of ?k_of ?a_plan ?l_plan ?c_plan ?k_plan ?a_like ?l_like ?c_like ?k_like ?a_field ?l_field ?c_field ?k_field ?a_tried ?l_tried ?c_tried ?k_tried ?aX ?eX ?tX ?iX ?a_win ?l_win ?c_win ?k_win ?lTJ ?rdX ?gtX ?vV ?aCOutOfRange ?xLOutOfRange ?rVOutOfRange ?saOutOfRange ?gaOutOfRange ?ggOutOfRange ?nwOutOfRange ?nnOutOfRange ?kCOutOfRange ?eCOutOfRange ?tCOutOfRange ?hCOutOfRange ?sXOutOfRange ?a_OutOfRange ?tIOutOfRange ?l_OutOfRange ?c_OutOfRange ?k_OutOfRange ?a_check ?l_check ?c_check ?k_check ?a_init ?i_init ?l_init ?c_init ?k_init ?a_graph ?l_graph ?c_graph ?k_graph ?a_edge ?i_edge ?l_edge ?c_edge ?k_edge ?a_cst ?i_cst ?l_cst ?c_cst ?k_cst ?a_lea ?i_lea ?l_lea ?c_lea ?k_lea ?a_ent ?i_ent ?l_ent ?c_ent ?k_ent ?a_cou ?i_cou ?l_cou ?c_cou ?k_cou ?a_law ?l_law ?c_law ?k_law ?tW ?hW ?nP
    (case z_len => k_is)
    (case z_list => k_is)
    (case z_tuple => k_is)
    (case z_bool => k_is)
    (case z_int => k_is)
    (case z_str => k_is)
    (case z_isinstance => k_is)
    (case z_all => k_is)
    (case z_zip => k_is)
    (case z_range => k_is)
    (case z_ValueError => k_is)
    (case z_enumerate => k_is)
    (case aC => k_is)
    (case gpg => k_is)
    (case ghd => k_is)
    (case gpo => k_is)
    (case gsa => k_is)
    (case gmk => k_is)
    (case gkc => k_is)
    (case gnS => k_is)
    (case gnE => k_is)
    (case grd => k_is)
    (case gga => k_is)
    (case gv8 => k_is)
    (case gv24 => k_is)
    (case a_bag => k_is)
    (case l_bag => k_is)
    (case c_bag => k_is)
    (case k_bag => k_is)
    (case a_pull => k_is)
    (case l_pull => k_is)
    (case c_pull => k_is)
    (case k_pull => k_is)
    (case a_of => k_is)
    (case l_of => k_is)
    (case c_of => k_is)
    (case k_of => k_is)
    (case a_plan => k_is)
    (case l_plan => k_is)
    (case c_plan => k_is)
    (case k_plan => k_is)
    (case a_like => k_is)
    (case l_like => k_is)
    (case c_like => k_is)
    (case k_like => k_is)
    (case a_field => k_is)
    (case l_field => k_is)
    (case c_field => k_is)
    (case k_field => k_is)
    (case a_tried => k_is)
    (case l_tried => k_is)
    (case c_tried => k_is)
    (case k_tried => k_is)
    (case aX => k_is)
    (case eX => first | k_is | rfl | decide +kernel)
    (case tX => k_is)
    (case iX => k_is)
    (case a_win => k_is)
    (case l_win => k_is)
    (case c_win => k_is)
    (case k_win => k_is)
    (case lTJ => k_is)
    (case rdX => k_is)
    (case gtX => k_is)
    (case vV => k_is)
    (case aCOutOfRange => k_is)
    (case xLOutOfRange => k_is)
    (case rVOutOfRange => first | rfl | decide +kernel | k_is)
    (case saOutOfRange => k_is)
    (case gaOutOfRange => k_is)
    (case ggOutOfRange => k_is)
    (case nwOutOfRange => k_is)
    (case nnOutOfRange => k_is)
    (case kCOutOfRange => k_is)
    (case eCOutOfRange => k_is)
    (case tCOutOfRange => k_is)
    (case hCOutOfRange => k_is)
    (case sXOutOfRange => first | k_is | rfl | decide +kernel)
    (case a_OutOfRange => k_is)
    (case tIOutOfRange => k_is)
    (case l_OutOfRange => k_is)
    (case c_OutOfRange => k_is)
    (case k_OutOfRange => k_is)
    (case a_check => k_is)
    (case l_check => k_is)
    (case c_check => k_is)
    (case k_check => k_is)
    (case a_init => k_is)
    (case i_init => k_is)
    (case l_init => k_is)
    (case c_init => k_is)
    (case k_init => k_is)
    (case a_graph => k_is)
    (case l_graph => k_is)
    (case c_graph => k_is)
    (case k_graph => k_is)
    (case a_edge => k_is)
    (case i_edge => k_is)
    (case l_edge => k_is)
    (case c_edge => k_is)
    (case k_edge => k_is)
    (case a_cst => k_is)
    (case i_cst => k_is)
    (case l_cst => k_is)
    (case c_cst => k_is)
    (case k_cst => k_is)
    (case a_lea => k_is)
    (case i_lea => k_is)
    (case l_lea => k_is)
    (case c_lea => k_is)
    (case k_lea => k_is)
    (case a_ent => k_is)
    (case i_ent => k_is)
    (case l_ent => k_is)
    (case c_ent => k_is)
    (case k_ent => k_is)
    (case a_cou => k_is)
    (case i_cou => k_is)
    (case l_cou => k_is)
    (case c_cou => k_is)
    (case k_cou => k_is)
    (case a_law => k_is)
    (case l_law => k_is)
    (case c_law => k_is)
    (case k_law => k_is)
    (case tW => first | k_is | rfl | decide +kernel)
    (case hW => first | k_is | rfl | decide +kernel)
    (case nP => first | k_is | rfl | decide +kernel)
