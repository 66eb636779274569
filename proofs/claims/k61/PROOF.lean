import PyProof.Rows.All
import Wide.All
import OpenK.AllK
import Wide.FinOn
import HandS.ForMost
import HandS.Wide
import HandS.Codes
import PySem.Challenge.RW_windowkin_k61_whole_kin_is_an_equivalenc
import HandS.IsInst
import HandS.Walk
import HandS.Zip
import KE.GoesMore
import HandS.ClsMeth
import HandS.Property
import HandS.FStr
import HandS.TupAny
import HandS.TupMul
import HandS.Strs
import HandS.More
import HandS.OwnEq
import PyProof.NeKinds
import PyProof.ZipIter
import PyProof.ListNew
import KE.KStar
import KE.KDictZip
import HandS.Star
import HandS.List
import PyProof.EqAt
import PyProof.EqKinds
import HandS.Exc
import KE.GoesZip
import KE.GoesEnum
import HandS.WideBits
import HandS.RevRange
import HandS.SortInts
import PyProof.TupleOfSeq
import HandS.Rev
import HandS.DictTup
import HandS.Dict
import PyProof.DictMoreH
import HandS.Conv
import HandS.DictComp
import KE.KUnpackStar
import HandS.EndOwn
import KE.KNestM
import KE.OsRunLaw
import HandS.Head0
import HandS.Head1
import HandS.Head2
set_option Elab.async false
set_option linter.all false
set_option maxRecDepth 100000
namespace Lw
open PySem L2
def top (i : Nat) : Stmt := PySem.Challenge.pw_windowkin_k61_whole_kin_is_an_equivalenc.main.body.getD i (.Pass ⟨0, 0, 0, 0⟩)
abbrev sBag : Stmt := top 66
abbrev sPull : Stmt := top 67
abbrev sOf : Stmt := top 68
/-! ### heaps -/
theorem same_upd {H : Hp} {p : Addr} {o : HO} (h : H p = none) : Same H (upd H p o) := fun b x e => by
  rw [upd_ne (ne_of_none e h)]
  exact e
theorem upd_upd {H : Hp} {p : Addr} {o o' : HO} : upd (upd H p o) p o' = upd H p o' := by
  funext c
  by_cases e : c = p
  · subst e
    rw [upd_same, upd_same]
  · rw [upd_ne e, upd_ne e, upd_ne e]
theorem upd_self {H : Hp} {p : Addr} {o : HO} (h : H p = some o) : upd H p o = H := by
  funext c
  by_cases e : c = p
  · subst e
    rw [upd_same, h]
  · rw [upd_ne e]
/-! ### the bag: the script's own list at l, a place, a rest, a salt -/
def BagO (l : Addr) (ns : List Int) (o : HO) : Prop := ∃ (i : Nat) (r s : Int), o = .lst [.ref l, .int (i : Int), .int r, .int s] ∧ i ≤ ns.length ∧ 0 ≤ r ∧ 0 ≤ s ∧ s < 2147483563
structure BagAt (H : Hp) (b l : Addr) (ns : List Int) : Prop where
  ob : ∃ o, H b = some o ∧ BagO l ns o
  sc : H l = some (.lst (ns.map V.int))
  ln : ns.length ≤ 63
theorem BagAt.ne {H : Hp} {b l : Addr} {ns : List Int} (h : BagAt H b l ns) : l ≠ b := fun e => by
  obtain ⟨o, ho, i, r, s, rfl, _⟩ := h.ob
  have h2 := h.sc
  rw [e, ho] at h2
  cases ns with
  | nil => cases h2
  | cons x r => cases h2
theorem BagAt.upd {H : Hp} {b l : Addr} {ns : List Int} {o : HO} (h : BagAt H b l ns) (ho : BagO l ns o) : BagAt (upd H b o) b l ns :=
  ⟨⟨o, upd_same, ho⟩, by rw [upd_ne h.ne]; exact h.sc, h.ln⟩
/-- the bag where all that was tracked stands -/
theorem BagAt.same {H H' : Hp} {b l : Addr} {ns : List Int} (h : BagAt H b l ns) (e : Same H H') : BagAt H' b l ns :=
  ⟨h.ob.imp fun _ z => ⟨e _ _ z.1, z.2⟩, e _ _ h.sc, h.ln⟩
def spPull : Sp := fun vs H Q _ => ∃ (b l : Addr) (ns : List Int) (m : Int), vs = [.ref b, .int m] ∧ BagAt H b l ns ∧ 0 < m ∧ m < 2 ^ 100 ∧
  ∀ (v : Int) (o : HO), 0 ≤ v → v < m → BagO l ns o → Q (.int v) (upd H b o)
def spBag (K : PySem.W.Frag) : Sp := fun vs H Q _ => ∃ (a : Addr) (ns : List Int), vs = [.ref a] ∧ SqL K H a (ns.map V.int) ∧ ns.length ≤ 63 ∧
  ∀ (b l : Addr) (H' : Hp), Same H H' → H b = none → H l = none → BagAt H' b l ns → Q (.ref b) H'
section
variable {P : Program} {w : World} {K : PySem.W.Frag} {mg : Str → Option Value} {base : Heap}
/-! ### _law_pull -/
theorem scPull : FnScope ["_law_bag_here", "_law_many", "_law_cell", "_law_got", "_law_seed"] ["_law_bag_here", "_law_many"] (defScope sPull) := ⟨rfl, rfl, rfl, by decide +kernel, rfl, by decide +kernel, by decide +kernel⟩
theorem at0 {x : V} {r : List V} : atI (x :: r) 0 = some x := by
  have h := atI_nat (xs := x :: r) (j := 0) (v := x) rfl
  exact h
theorem at1 {x y : V} {r : List V} : atI (x :: y :: r) 1 = some y := by
  have h := atI_nat (xs := x :: y :: r) (j := 1) (v := y) rfl
  exact h
theorem at2 {x y z : V} {r : List V} : atI (x :: y :: z :: r) 2 = some z := by
  have h := atI_nat (xs := x :: y :: z :: r) (j := 2) (v := z) rfl
  exact h
theorem at3 {x y z u : V} {r : List V} : atI (x :: y :: z :: u :: r) 3 = some u := by
  have h := atI_nat (xs := x :: y :: z :: u :: r) (j := 3) (v := u) rfl
  exact h
set_option maxHeartbeats 4000000 in
theorem ok_pull {f : Addr} {fd : FuncData} {k : Nat} (F : Fun K "_law_pull" "_law_pull" sPull f fd) (mlen : mg "len" = none) : FnOk P w K mg base CX0 (k + 1) f fd ["_law_bag_here", "_law_many"] spPull := by
  refine F.ok scPull (fun vs H Q E h => ?_) (fun cdv A outer s H vs Q E hr h => ?_)
  · obtain ⟨b, l, ns, m, rfl, _⟩ := h
    rfl
  · obtain ⟨b, l, ns, m, rfl, B, hm, hm2, q⟩ := h
    refine ⟨_, C8.pss_cut (ps_if (PW.pt (pw_and (pt_cmpR op_eq (pe_ix ix_list (pv 0) pe_int (fun _ _ => rfl)) pe_int (nomark _))
        (pw_and1 (pt_cmpR op_lt (pe_ix ix_list (pv 0) pe_int (fun _ _ => rfl)) (pe_callB call_len_seq (by rfl) mlen PySem.boot_len (pa_cons (pe_ix ix_list (pv 0) pe_int (fun _ _ => rfl)) pa_nil)) (nomark _)))))
        (pss_cons (ps_set (i := 2) scPull.nd rfl (Or.inl rfl) (pe_ix ix_list (pe_ix ix_list (pv 0) pe_int (fun _ _ => rfl)) (pe_ix ix_list (pv 0) pe_int (fun _ _ => rfl)) (fun _ _ => rfl)))
        (pss_cons (ps_asg (pe_op op_add (pe_ix ix_list (pv 0) pe_int (fun _ _ => rfl)) pe_int) (pg_sub (pv 0) pe_int set_list))
        (pss_one (ps_if (pt_cmpR op_ge (pv 2) (pe_op op_pow pe_int pe_int) (nomark _))
          (pss_one (ps_asg (pe_op op_sub (pv 2) (pe_op op_pow pe_int pe_int)) (pg_sub (pv 0) pe_int set_list)))
          (pss_one (ps_asg (pe_op op_mod (pe_op op_add (pe_op op_add (pe_op op_mul (pe_ix ix_list (pv 0) pe_int (fun _ _ => rfl)) pe_int) (pe_op op_mul (pe_op op_mod (pv 2) pe_int) pe_int)) pe_int) pe_int) (pg_sub (pv 0) pe_int set_list)))))))
        pss_nil)
      (pss_cons (ps_if (pt_cmpR op_gt (pe_ix ix_list (pv 0) pe_int (fun _ _ => rfl)) pe_int (nomark _))
        (pss_cons (ps_set (i := 3) scPull.nd rfl (Or.inl rfl) (pe_op op_mod (pe_ix ix_list (pv 0) pe_int (fun _ _ => rfl)) (pv 1)))
        (pss_cons (ps_asg (pe_op op_fdivW (pe_ix ix_list (pv 0) pe_int (fun _ _ => rfl)) (pv 1)) (pg_sub (pv 0) pe_int set_list))
        (pss_one (ps_ret (pv 3))))) pss_nil)
      (pss_cons (ps_set (i := 4) scPull.nd rfl (Or.inl rfl) (pe_ix ix_list (pv 0) pe_int (fun _ _ => rfl)))
      (pss_cons (ps_asg (pe_op op_mod (pe_op op_add (pe_op op_add (pe_op op_mul (pe_op op_mul (pv 4) (pv 4)) pe_int) (pe_op op_mul (pv 4) pe_int)) pe_int) pe_int) (pg_sub (pv 0) pe_int set_list))
      (pss_one (ps_ret (pe_op op_mod (pe_op op_add (pe_op op_fdiv (pe_ix ix_list (pv 0) pe_int (fun _ _ => rfl)) pe_int) (pe_op op_mul (pe_op op_mod (pe_ix ix_list (pv 0) pe_int (fun _ _ => rfl)) pe_int) pe_int)) (pv 1))))))), ?_⟩
    obtain ⟨o, ho, i, r, sa, rfl, hi, hr0, hs0, hs1⟩ := B.ob
    refine ⟨fun σ H' => ∃ (v2 : Option V) (o : HO), σ = [some (.ref b), some (.int m), v2, none, none] ∧ H' = upd H b o ∧ BagO l ns o, ?_, ?_⟩
    · refine ⟨_, rfl, b, _, _, _, rfl, rfl, SqL.of ho, at2, rfl, _, rfl, ?_⟩
      have stay : H = upd H b (.lst [.ref l, .int (i : Int), .int r, .int sa]) := (upd_self ho).symm
      refine ite2 (fun c => ?_) (fun c => ?_)
      · have c0 : r = 0 := by
          have c1 := of_decide_eq_true c
          injection c1
        subst c0
        refine ⟨_, rfl, b, _, _, _, rfl, rfl, SqL.of ho, at1, _, rfl, b, _, _, _, rfl, rfl, SqL.of ho, at0, l, _, rfl, .inl (SqL.of B.sc), _, _, rfl, rfl, _, rfl, ?_⟩
        rw [List.length_map]
        refine ite2 (fun c => ?_) (fun c => ?_)
        · have c1 : (i : Int) < (ns.length : Int) := of_decide_eq_true c
          have c2 : i < ns.length := by omega
          have g1 : (ns.map V.int)[i]? = some (.int ns[i]) := by
            rw [List.getElem?_map, List.getElem?_eq_getElem c2]
            rfl
          refine ⟨_, rfl, b, _, _, _, rfl, rfl, SqL.of ho, at0, _, rfl, b, _, _, _, rfl, rfl, SqL.of ho, at1, l, _, _, _, rfl, rfl, SqL.of B.sc, atI_nat g1, ?_⟩
          refine ⟨_, rfl, b, _, _, _, rfl, rfl, SqL.of ho, at1, _, _, rfl, rfl, _, rfl, b, _, _, 1, rfl, rfl, ho, rfl, ?_⟩
          refine ⟨_, rfl, _, _, rfl, rfl, ⟨by decide, by decide, by decide⟩, _, _, rfl, rfl, _, rfl, ?_⟩
          refine ite2 (fun c => ?_) (fun c => ?_)
          · have c3 : (10 : Int) ^ (18 : Int).toNat ≤ ns[i] := of_decide_eq_true c
            refine ⟨_, rfl, _, _, rfl, rfl, ⟨by decide, by decide, by decide⟩, _, _, rfl, rfl, _, rfl, b, _, _, 2, rfl, rfl, upd_same, rfl, ?_⟩
            refine ⟨_, _, rfl, upd_upd, i + 1, ns[i] - 10 ^ (18 : Int).toNat, sa, by rfl, by omega, by omega, hs0, hs1⟩
          · refine ⟨_, rfl, b, _, _, _, rfl, rfl, SqL.of upd_same, at3, _, _, rfl, rfl, .inl ⟨by omega, by omega⟩, _, rfl, _, _, rfl, rfl, (by show (0 : Int) < 2147483563; decide), _, _, rfl, rfl, .inl ⟨by omega, by omega⟩, _, _, rfl, rfl, _, _, rfl, rfl, _, _, rfl, rfl, (by show (0 : Int) < 2147483563; decide), _, rfl, b, _, _, 3, rfl, rfl, upd_same, rfl, ?_⟩
            refine ⟨_, _, rfl, upd_upd, i + 1, 0, _, by rfl, by omega, by omega, ?_, ?_⟩
            · exact Int.emod_nonneg _ (by decide)
            · exact Int.emod_lt_of_pos _ (by decide)
        · refine ⟨none, _, rfl, stay, i, 0, sa, rfl, hi, by omega, hs0, hs1⟩
      · refine iteF ?_
        exact ⟨none, _, rfl, stay, i, r, sa, rfl, hi, hr0, hs0, hs1⟩
    · rintro σ H' ⟨v2, o, rfl, rfl, i, r, sa, rfl, hi, hr0, hs0, hs1⟩
      refine ⟨_, rfl, b, _, _, _, rfl, rfl, SqL.of upd_same, at2, _, _, rfl, rfl, _, rfl, ?_⟩
      refine ite2 (fun c => ?_) (fun c => ?_)
      · have c1 : 0 < r := of_decide_eq_true c
        refine ⟨_, rfl, b, _, _, _, rfl, rfl, SqL.of upd_same, at2, _, rfl, _, _, rfl, rfl, hm, ?_⟩
        refine ⟨_, rfl, b, _, _, _, rfl, rfl, SqL.of upd_same, at2, _, rfl, _, _, rfl, rfl, wide_div hm (b := 100) (by omega) (by decide) (by decide), _, rfl, b, _, _, 2, rfl, rfl, upd_same, rfl, ?_⟩
        refine ⟨_, rfl, ?_⟩
        rw [upd_upd]
        refine q _ _ (Int.emod_nonneg _ (by omega)) (Int.emod_lt_of_pos _ hm) ⟨i, r / m, sa, rfl, hi, Int.ediv_nonneg hr0 (by omega), hs0, hs1⟩
      · refine ⟨_, rfl, b, _, _, _, rfl, rfl, SqL.of upd_same, at3, ?_⟩
        have hq : sa * sa < 2 ^ 64 := by
          have : sa * sa ≤ sa * 2147483563 := Int.mul_le_mul_of_nonneg_left (by omega) hs0
          omega
        have hq0 : 0 ≤ sa * sa := Int.mul_nonneg hs0 hs0
        refine ⟨_, rfl, _, rfl, _, _, rfl, rfl, .inl ⟨by omega, by omega⟩, _, _, rfl, rfl, .inl ⟨by omega, by omega⟩, _, rfl, _, _, rfl, rfl, .inl ⟨by omega, by omega⟩, _, _, rfl, rfl, _, _, rfl, rfl, _, _, rfl, rfl, (by show (0 : Int) < 2147483563; decide), _, rfl, b, _, _, 3, rfl, rfl, upd_same, rfl, ?_⟩
        rw [upd_upd]
        obtain ⟨x, hx⟩ : ∃ x : Int, (sa * sa * 3 + sa * 16807 + 1013904223) % 2147483563 = x := ⟨_, rfl⟩
        have x0 : 0 ≤ x := hx ▸ Int.emod_nonneg _ (by decide)
        have x1 : x < 2147483563 := hx ▸ Int.emod_lt_of_pos _ (by decide)
        refine ⟨_, rfl, b, _, _, _, rfl, rfl, SqL.of upd_same, at3, _, _, rfl, rfl, ⟨by decide, by decide⟩, _, rfl, b, _, _, _, rfl, rfl, SqL.of upd_same, at3, _, _, rfl, rfl, (by show (0 : Int) < 8191; decide), _, _, rfl, rfl, .inl ⟨by omega, by omega⟩, _, _, rfl, rfl, _, rfl, _, _, rfl, rfl, hm, ?_⟩
        exact q _ _ (Int.emod_nonneg _ (by omega)) (Int.emod_lt_of_pos _ hm) ⟨i, r, x, by rw [← hx]; rfl, hi, hr0, x0, x1⟩
end
end Lw
set_option Elab.async false
set_option linter.all false
set_option maxRecDepth 100000
namespace Lw
open PySem L2
/-- the built-in names that the law's helpers ask for -/
structure Bi (mg : Str → Option Value) : Prop where
  len : mg "len" = none
  list : mg "list" = none
  tuple : mg "tuple" = none
  bool : mg "bool" = none
  int : mg "int" = none
  str : mg "str" = none
  isi : mg "isinstance" = none
  all : mg "all" = none
  zip : mg "zip" = none
  range : mg "range" = none
def spOf (K : PySem.W.Frag) : Sp := fun vs H Q _ => ∃ (b l t : Addr) (ns : List Int) (xs : List V), vs = [.ref b, .ref t] ∧ BagAt H b l ns ∧ SqL K H t xs ∧ t ≠ b ∧ xs ≠ [] ∧ xs.length ≤ 1000 ∧
  ∀ (i : Nat) (v : V) (o : HO), xs[i]? = some v → BagO l ns o → Q v (upd H b o)
theorem if_t {c : Bool} {A B : Prop} (hc : c = true) (h : A) : if c = true then A else B := by
  rw [if_pos hc]
  exact h
theorem if_f {c : Bool} {A B : Prop} (hc : c = false) (h : B) : if c = true then A else B := by
  rw [hc, if_neg Bool.false_ne_true]
  exact h
theorem cut_all {xs : List V} (h : xs.length ≤ 63) : cutV xs none (some 63) = xs := by
  unfold cutV
  rw [HT.sIx_none, show HT.sIx xs.length xs.length (some 63) = min 63 xs.length from HT.sIx_nat xs.length xs.length 63, Nat.min_eq_right h]
  simp
section
variable {P : Program} {w : World} {K : PySem.W.Frag} {mg : Str → Option Value} {base : Heap}
theorem SqL.upd_ne {H : Hp} {a b : Addr} {xs : List V} {o : HO} (h : SqL K H a xs) (e : a ≠ b) : SqL K (upd H b o) a xs := by
  unfold SqL Rd at h ⊢
  rw [L2.upd_ne e]
  exact h
/-! ### _law_bag -/
theorem scBag : FnScope ["_law_script", "_law_salt", "_law_cell"] ["_law_script"] (defScope sBag) := ⟨rfl, rfl, rfl, by decide +kernel, rfl, by decide +kernel, by decide +kernel⟩
set_option maxHeartbeats 4000000 in
theorem ok_bag {f : Addr} {fd : FuncData} {k : Nat} (F : Fun K "_law_bag" "_law_bag" sBag f fd) (T : Bi mg) : FnOk P w K mg base CX0 (k + 1) f fd ["_law_script"] (spBag K) := by
  refine F.ok scBag (fun vs H Q E h => ?_) (fun cdv A outer s H vs Q E hr h => ?_)
  · obtain ⟨b, ns, rfl, _⟩ := h
    rfl
  · obtain ⟨a, ns, rfl, hS, hl, q⟩ := h
    refine ⟨_, pss_cons (ps_set (i := 1) scBag.nd rfl (Or.inl rfl) pe_int)
      (pss_cons (ps_for PassesOwn.never rfl (pi_list (pe_slice sl_list (pv 0) po_none (po_some pe_int))) (pg_name (i := 2) scBag.nd rfl (Or.inl rfl))
        (pss_one (ps_set (i := 1) scBag.nd rfl (Or.inl rfl) (pe_op op_mod (pe_op op_add (pe_op op_add (pe_op op_mul (pv 1) pe_int) (pe_op op_mod (pv 2) pe_int)) pe_int) pe_int))))
      (pss_one (ps_ret (pe_lst (pa_cons (pe_callTy call_list_of (by rfl) T.list (by decide +kernel) (pa_cons (pe_slice sl_list (pv 0) po_none (po_some pe_int)) pa_nil)) (pa_cons pe_int (pa_cons pe_int (pa_cons (pv 1) pa_nil)))))))), ?_⟩
    have hl' : (ns.map V.int).length ≤ 63 := by rw [List.length_map]; exact hl
    refine ⟨_, rfl, _, rfl, a, _, rfl, hS, fun p hp => ?_⟩
    rw [cut_all hl']
    have s1 : Same H (upd H p (.lst (ns.map V.int))) := same_upd hp
    refine ⟨p, rfl, ⟨_, SqL.of upd_same⟩, for_list (K := K) (a := p) (xs := ns.map V.int) (fun i σ H' => ∃ (v : Option V) (sa : Int), σ = [some (.ref a), some (.int sa), v] ∧ H' = upd H p (.lst (ns.map V.int)) ∧ 0 ≤ sa ∧ sa < 2147483563)
      ⟨none, 3803, rfl, rfl, by decide, by decide⟩ (fun i σ H' _ ⟨_, _, _, e, _⟩ => by subst e; exact SqL.of upd_same) ?_ ?_⟩
    · rintro i y σ H' hi ⟨v, sa, rfl, rfl, h0, h1⟩
      obtain ⟨z, rfl⟩ : ∃ z, y = V.int z := by
        rw [List.getElem?_map] at hi
        cases e : ns[i]? with
        | none =>
          rw [e] at hi
          cases hi
        | some z =>
          rw [e] at hi
          exact ⟨z, (Option.some.inj hi).symm⟩
      refine ⟨_, rfl, _, _, rfl, rfl, .inl ⟨by omega, by omega⟩, _, rfl, _, _, rfl, rfl, (by show (0 : Int) < 2147483563; decide), _, _, rfl, rfl, _, _, rfl, rfl, _, _, rfl, rfl, (by show (0 : Int) < 2147483563; decide), ?_⟩
      exact ⟨_, _, rfl, rfl, Int.emod_nonneg _ (by decide), Int.emod_lt_of_pos _ (by decide)⟩
    · rintro σ H' ⟨v, sa, rfl, rfl, h0, h1⟩
      refine ⟨_, rfl, _, rfl, a, _, rfl, s1.seq hS, fun p2 hp2 => ?_⟩
      rw [cut_all hl']
      refine ⟨p2, _, rfl, .inl (SqL.of upd_same), fun l hl2 => ?_⟩
      have s2 := s1.trans (same_upd (o := .lst (ns.map V.int)) hp2)
      have s3 := s2.trans (same_upd (o := .lst (ns.map V.int)) hl2)
      refine ⟨_, rfl, (by show 4 ≤ sizeLine; decide), fun b hb => ?_⟩
      have nl : H l = none := s2.free hl2
      have nb : H b = none := s3.free hb
      have lb : l ≠ b := fun e => by
        rw [← e, upd_same] at hb
        cases hb
      refine q b l _ (s3.trans (same_upd hb)) nb nl ⟨⟨_, upd_same, 0, 0, sa, rfl, Nat.zero_le _, by decide, h0, h1⟩, ?_, hl⟩
      rw [upd_ne lb, upd_same]
/-! ### _law_of -/
theorem scOf : FnScope ["_law_bag_here", "_law_things"] ["_law_bag_here", "_law_things"] (defScope sOf) := ⟨rfl, rfl, rfl, by decide +kernel, rfl, by decide +kernel, by decide +kernel⟩
set_option maxHeartbeats 4000000 in
theorem ok_of {f : Addr} {fd : FuncData} {k : Nat} (F : Fun K "_law_of" "_law_of" sOf f fd) (T : Bi mg) (cP : C8.Cal P w K mg base 1 "_law_pull" spPull []) : FnOk P w K mg base CX0 (k + 2) f fd ["_law_bag_here", "_law_things"] (spOf K) := by
  refine F.ok scOf (fun vs H Q E h => ?_) (fun cdv A outer s H vs Q E hr h => ?_)
  · obtain ⟨b, l, t, ns, xs, rfl, _⟩ := h
    rfl
  · obtain ⟨b, l, t, ns, xs, rfl, B, hS, ne, nn, hl, q⟩ := h
    refine ⟨_, pss_one (ps_ret (pe_ix ix_list (pv 1) (C8.pe_c cP hr (Nat.le_add_left 1 k) (by rfl) (pa_cons (pv 0) (pa_cons (pe_callB call_len_seq (by rfl) T.len PySem.boot_len (pa_cons (pv 1) pa_nil)) pa_nil))) (fun _ _ => rfl))), ?_⟩
    have l0 : 0 < xs.length := List.length_pos_iff.mpr nn
    refine ⟨_, rfl, _, rfl, _, rfl, t, xs, rfl, .inl hS, b, l, ns, _, rfl, B, by omega, by omega, fun v o v0 v1 BO => ?_⟩
    have hv : v.toNat < xs.length := by omega
    have hvv : ((v.toNat : Nat) : Int) = v := Int.toNat_of_nonneg v0
    have g : atI xs v = some xs[v.toNat] := by
      have := atI_nat (xs := xs) (j := v.toNat) (v := xs[v.toNat]) (List.getElem?_eq_getElem hv)
      rw [hvv] at this
      exact this
    exact ⟨t, xs, v, _, rfl, rfl, SqL.upd_ne hS ne, g, q v.toNat _ o (List.getElem?_eq_getElem hv) BO⟩
/-! ### _law_like of like things is True -/
def atomV : V → Bool
  | .non => true
  | .bl _ => true
  | .int _ => true
  | .str _ => true
  | _ => false
def Lk (H : Hp) : Nat → V → V → Prop
  | 0, _, _ => False
  | n + 1, x, y => (x = y ∧ atomV x = true) ∨
    (∃ (a b : Addr) (xs ys : List V), x = .ref a ∧ y = .ref b ∧ H a = some (.lst xs) ∧ H b = some (.lst ys) ∧ xs.length = ys.length ∧ xs.length ≤ 1000 ∧ ∀ (i : Nat) u v, xs[i]? = some u → ys[i]? = some v → Lk H n u v) ∨
    (∃ (a b : Addr) (xs ys : List V), x = .ref a ∧ y = .ref b ∧ H a = some (.tup xs) ∧ H b = some (.tup ys) ∧ xs.length = ys.length ∧ xs.length ≤ 1000 ∧ ∀ (i : Nat) u v, xs[i]? = some u → ys[i]? = some v → Lk H n u v)
theorem Lk.same {H H' : Hp} (s : Same H H') : ∀ (n : Nat) (x y : V), Lk H n x y → Lk H' n x y
  | 0, _, _, h => h
  | n + 1, x, y, h => by
    rcases h with h | ⟨a, b, xs, ys, e1, e2, e3, e4, e5, e6, h⟩ | ⟨a, b, xs, ys, e1, e2, e3, e4, e5, e6, h⟩
    · exact .inl h
    · exact .inr (.inl ⟨a, b, xs, ys, e1, e2, s _ _ e3, s _ _ e4, e5, e6, fun i u v h1 h2 => Lk.same s n u v (h i u v h1 h2)⟩)
    · exact .inr (.inr ⟨a, b, xs, ys, e1, e2, s _ _ e3, s _ _ e4, e5, e6, fun i u v h1 h2 => Lk.same s n u v (h i u v h1 h2)⟩)
def spLike (n : Nat) : Sp := fun vs H Q _ => ∃ x y, vs = [x, y] ∧ Lk H n x y ∧ ∀ H', Same H H' → Q (.bl true) H'
theorem walk_zipT {a b : Addr} {xs ys : List V} {n : Nat} (hn : n = min xs.length ys.length) : Walk (RZ.ItzT K a b) n (fun H => SqT K H a xs ∧ SqT K H b ys) (YPair (fun i => xs[i]?) (fun i => ys[i]?)) := by
  subst hn
  refine ⟨fun i H hi q => ?_, fun H q => ?_, fun i H x H' hi q y => ?_⟩
  · have h1 : i < xs.length := by omega
    have h2 : i < ys.length := by omega
    exact ⟨xs, ys, xs[i], ys[i], q.1, q.2, by simp [h1], by simp [h2]⟩
  · exact ⟨xs, ys, q.1, q.2, by omega⟩
  · obtain ⟨T, u, v, e1, e2, e3, g1, g2⟩ := y
    exact ⟨T, u, v, e1, e2, e3, g1 xs q.1, g2 ys q.2⟩
/-- what the law asks of an atom: its type's name -/
def tyV : V → String
  | .non => "NoneType"
  | .bl _ => "bool"
  | .int _ => "int"
  | .str _ => "str"
  | _ => "none"
theorem tyV_of {H : Hp} {x : V} (h : atomV x = true) : TyX K H x (.type (tyV x)) := by
  cases x with
  | non => exact .base .non
  | bl b => exact .base (.bl b)
  | int i => exact .base (.int i)
  | str z => exact .base (.str z)
  | _ => cases h
theorem tyV_cases {x : V} (h : atomV x = true) : tyV x = "NoneType" ∨ tyV x = "bool" ∨ tyV x = "int" ∨ tyV x = "str" := by
  cases x with
  | non => exact .inl rfl
  | bl b => exact .inr (.inl rfl)
  | int i => exact .inr (.inr (.inl rfl))
  | str z => exact .inr (.inr (.inr rfl))
  | _ => cases h
/-- isinstance of an atom: some answer, by the type alone -/
def isB (x : V) (T : String) : Bool := (kitB (tyV x) T).getD false
theorem isB_of {x : V} {T : String} (h : atomV x = true) (hT : T = "list" ∨ T = "tuple" ∨ T = "bool" ∨ T = "int" ∨ T = "str") : PySem.W.kitOne K (.type (tyV x)) (.type T) = some (isB x T) := by
  refine kit_ty ?_
  unfold isB
  rcases tyV_cases h with e | e | e | e <;> rw [e] <;> rcases hT with e | e | e | e | e <;> rw [e] <;> decide +kernel
theorem isB_no {x : V} (h : atomV x = true) : PySem.W.kitAny K (.type (tyV x)) [.type "list", .type "tuple"] = some false := by
  rcases tyV_cases h with e | e | e | e <;> rw [e]
  all_goals
    refine kitAny_cons (b := false) (kit_ty (by decide +kernel)) (fun _ => ?_) (fun z => by cases z)
    refine kitAny_cons (b := false) (kit_ty (by decide +kernel)) (fun _ => rfl) (fun z => by cases z)
theorem all_true (n : Nat) : (List.replicate n true).all id = true := by
  rw [List.all_replicate]
  simp
end
end Lw
set_option Elab.async false
set_option linter.all false
set_option maxRecDepth 100000
namespace Lw
open PySem L2
abbrev sPlan : Stmt := top 69
/-! ### edges: their tuples' places, and their two ends -/
abbrev Es := List (Addr × Int × Int)
def Ed (H : Hp) (ts : Es) : Prop := ∀ e ∈ ts, H e.1 = some (.tup [.int e.2.1, .int e.2.2])
def vsOf (ts : Es) : List V := ts.map fun e => .ref e.1
def psOf (ts : Es) : List (Int × Int) := ts.map (·.2)
/-- all that stood, but at b, stands -/
def KeepB (b : Addr) (H H' : Hp) : Prop := ∀ c o, c ≠ b → H c = some o → H' c = some o
theorem KeepB.rfl' {b : Addr} {H : Hp} : KeepB b H H := fun _ _ _ e => e
theorem KeepB.trans {b : Addr} {H H1 H2 : Hp} (x : KeepB b H H1) (y : KeepB b H1 H2) : KeepB b H H2 := fun c o n e => y c o n (x c o n e)
theorem KeepB.of_same {b : Addr} {H H' : Hp} (s : Same H H') : KeepB b H H' := fun c o _ e => s c o e
theorem KeepB.updb {b : Addr} {H : Hp} {o : HO} : KeepB b H (upd H b o) := fun c o n e => by
  rw [upd_ne n]
  exact e
theorem KeepB.new {b p : Addr} {H H' : Hp} {o : HO} (x : KeepB b H H') (n : H' p = none) : KeepB b H (upd H' p o) := x.trans (.of_same (same_upd n))
/-- a store at what was not there at first -/
theorem KeepB.at {b p : Addr} {H H' : Hp} {o : HO} (x : KeepB b H H') (n : H p = none) : KeepB b H (upd H' p o) := fun c o' nb e => by
  rw [upd_ne (ne_of_none e n)]
  exact x c o' nb e
theorem KeepB.free {b p : Addr} {H H' : Hp} {ob : HO} (x : KeepB b H H') (hb : H' b = some ob) (n : H' p = none) : H p = none := by
  cases e : H p with
  | none => rfl
  | some o =>
    have np : p ≠ b := fun z => by
      rw [z, hb] at n
      cases n
    rw [x p o np e] at n
    cases n
theorem BagAt.at_b {H : Hp} {b l : Addr} {ns : List Int} (B : BagAt H b l ns) : ∃ xs, H b = some (.lst xs) := by
  obtain ⟨o, ho, i, r, s, rfl, _⟩ := B.ob
  exact ⟨_, ho⟩
theorem BagAt.ne_tup {H : Hp} {b l c : Addr} {ns : List Int} {xs : List V} (B : BagAt H b l ns) (h : H c = some (.tup xs)) : c ≠ b := fun e => by
  obtain ⟨ys, hb⟩ := B.at_b
  rw [e, hb] at h
  cases h
theorem BagAt.ne_ins {H : Hp} {b l c C dx : Addr} {ns : List Int} {fs : List (Str × V)} (B : BagAt H b l ns) (h : H c = some (.ins C dx fs)) : c ≠ b := fun e => by
  obtain ⟨ys, hb⟩ := B.at_b
  rw [e, hb] at h
  cases h
theorem BagAt.ne_new {H : Hp} {b l c : Addr} {ns : List Int} (B : BagAt H b l ns) (h : H c = none) : c ≠ b := fun e => by
  obtain ⟨ys, hb⟩ := B.at_b
  rw [e, hb] at h
  cases h
theorem vsOf_cons_ne {l : Addr} {ts : Es} {i : Nat} {r s : Int} : vsOf ts ≠ [.ref l, .int (i : Int), .int r, .int s] := fun e => by
  have h : (vsOf ts)[1]? = some (V.int (i : Int)) := by rw [e]; rfl
  unfold vsOf at h
  rw [List.getElem?_map] at h
  cases g : ts[1]? with
  | none => rw [g] at h; cases h
  | some x => rw [g] at h; cases h
theorem BagAt.ne_vs {H : Hp} {b l c : Addr} {ns : List Int} {ts : Es} (B : BagAt H b l ns) (h : H c = some (.lst (vsOf ts))) : c ≠ b := fun e => by
  obtain ⟨o, ho, i, r, s, rfl, _⟩ := B.ob
  rw [e, ho] at h
  injection h with h
  injection h with h
  exact vsOf_cons_ne h.symm
theorem Ed.keep {H H' : Hp} {b l : Addr} {ns : List Int} {ts : Es} (h : Ed H ts) (B : BagAt H b l ns) (k : KeepB b H H') : Ed H' ts := fun e he => k _ _ (B.ne_tup (h e he)) (h e he)
theorem Ed.same {H H' : Hp} {ts : Es} (h : Ed H ts) (k : Same H H') : Ed H' ts := fun e he => k _ _ (h e he)
theorem Ed.app {H : Hp} {ts us : Es} (h : Ed H ts) (h2 : Ed H us) : Ed H (ts ++ us) := fun e he => (List.mem_append.mp he).elim (h e) (h2 e)
theorem Ed.nil {H : Hp} : Ed H [] := fun e he => nomatch he
theorem Ed.one {H : Hp} {t : Addr} {x y : Int} (h : H t = some (.tup [.int x, .int y])) : Ed H [(t, x, y)] := fun e he => by
  have z := List.mem_singleton.mp he
  subst z
  exact h
/-- the bag where all but the bag stands -/
theorem BagAt.new {H : Hp} {b l p : Addr} {ns : List Int} {o : HO} (B : BagAt H b l ns) (n : H p = none) : BagAt (L2.upd H p o) b l ns := B.same (same_upd n)
theorem BagAt.off {H : Hp} {b l p : Addr} {ns : List Int} {o : HO} (B : BagAt H b l ns) (nb : p ≠ b) (nl : p ≠ l) : BagAt (L2.upd H p o) b l ns := by
  obtain ⟨ob, hob, hB⟩ := B.ob
  exact ⟨⟨ob, by rw [upd_ne nb.symm]; exact hob, hB⟩, by rw [upd_ne nl.symm]; exact B.sc, B.ln⟩
structure Valid (n : Int) (ts : Es) : Prop where
  rg : ∀ e ∈ ts, 0 ≤ e.2.1 ∧ e.2.1 < n ∧ 0 ≤ e.2.2 ∧ e.2.2 < n
  sr : ∀ k : Int, 0 ≤ k → k < n → ∃ e ∈ ts, e.2.1 = k
structure PlanAt (H : Hp) (p q : Addr) (n : Int) (ts : Es) : Prop where
  tp : H p = some (.tup [.int n, .ref q])
  ls : H q = some (.lst (vsOf ts))
  ed : Ed H ts
  va : Valid n ts
  n1 : 1 ≤ n
def spPlan : Sp := fun vs H Q _ => ∃ (b l : Addr) (ns : List Int) (most many : Int), vs = [.ref b, .int most, .int many] ∧ BagAt H b l ns ∧ 1 ≤ most ∧ most ≤ many ∧ many ≤ 100 ∧
  ∀ (p q : Addr) (n : Int) (ts : Es) (H' : Hp), KeepB b H H' → BagAt H' b l ns → H p = none → H q = none → PlanAt H' p q n ts → n ≤ most → (ts.length : Int) ≤ many → Q (.ref p) H'
theorem cut_lo {xs : List V} {k : Nat} (h : k ≤ xs.length) : cutV xs none (some (k : Int)) = xs.take k := by
  unfold cutV
  rw [HT.sIx_none, HT.sIx_nat, Nat.min_eq_left h]
  simp
theorem cut_hi {xs : List V} {k : Nat} (h : k ≤ xs.length) : cutV xs (some (k : Int)) none = xs.drop k := by
  unfold cutV
  rw [HT.sIx_none, HT.sIx_nat, Nat.min_eq_left h]
  rw [List.take_of_length_le]
  rw [List.length_drop]
  exact Nat.le_refl _
section
variable {P : Program} {w : World} {K : PySem.W.Frag} {mg : Str → Option Value} {base : Heap}
theorem scPlan : FnScope ["_law_bag_here", "_law_most", "_law_many", "_law_size", "_law_pairs", "_law_k", "_law_at", "_law_state"] ["_law_bag_here", "_law_most", "_law_many"] (defScope sPlan) := ⟨rfl, rfl, rfl, by decide +kernel, rfl, by decide +kernel, by decide +kernel⟩
set_option maxHeartbeats 8000000 in
theorem ok_plan {f : Addr} {fd : FuncData} {k : Nat} (F : Fun K "_law_plan" "_law_plan" sPlan f fd) (T : Bi mg) (cP : C8.Cal P w K mg base 1 "_law_pull" spPull []) : FnOk P w K mg base CX0 (k + 2) f fd ["_law_bag_here", "_law_most", "_law_many"] spPlan := by
  refine F.ok scPlan (fun vs H Q E h => ?_) (fun cdv A outer s H vs Q E hr h => ?_)
  · obtain ⟨b, l, ns, m1, m2, rfl, _⟩ := h
    rfl
  · obtain ⟨b, l, ns, most, many, rfl, B, hm1, hm2, hm3, q⟩ := h
    have hk : 1 ≤ k + 1 := Nat.le_add_left 1 k
    refine ⟨_, pss_cons (ps_set (i := 3) scPlan.nd rfl (Or.inr rfl) (pe_op op_add pe_int (C8.pe_c cP hr hk (by rfl) (pa_cons (pv 0) (pa_cons (pv 1) pa_nil)))))
      (pss_cons (ps_setLc (i := 4) (own := [("_law_state", 7)]) (g := gName 7) (tt := tYes) (te := tTup (tCons (tVar 7) (tCons (tCall spPull [] E0 (tCons (tVar 0) (tCons (tVar 3) tNil))) tNil))) rfl scPlan.nd rfl rfl (sw_true rfl rfl rfl (by decide +kernel))
          (pi_range1 (by rfl) T.range (pa_cons (pv 3) pa_nil))
          (blkOk_by (N := ["_law_bag_here", "_law_most", "_law_many", "_law_size", "_law_pairs", "_law_k", "_law_at", "_law_state"]) (sc := defScope sPlan) (by decide +kernel))
          (fun _ _ _ _ _ => by exact pg_name (i := 7) scPlan.nd rfl (Or.inl rfl))
          (fun _ _ _ _ _ => pts_nil)
          (fun _ _ _ _ _ => by exact pe_tup (pa_cons (pv 7) (pa_cons (C8.pe_c cP hr hk (by rfl) (pa_cons (pv 0) (pa_cons (pv 3) pa_nil))) pa_nil))))
      (pss_cons (ps_for PassesOwn.never rfl (pi_range1 (by rfl) T.range (pa_cons (C8.pe_c cP hr hk (by rfl) (pa_cons (pv 0) (pa_cons (pe_op op_add (pe_op op_sub (pv 2) (pv 3)) pe_int) pa_nil))) pa_nil)) (pg_name (i := 5) scPlan.nd rfl (Or.inl rfl))
        (pss_cons (ps_set (i := 6) scPlan.nd rfl (Or.inl rfl) (C8.pe_c cP hr hk (by rfl) (pa_cons (pv 0) (pa_cons (pe_op op_add (pe_callB call_len_seq (by rfl) T.len PySem.boot_len (pa_cons (pv 4) pa_nil)) pe_int) pa_nil))))
        (pss_one (ps_set (i := 4) scPlan.nd rfl (Or.inl rfl) (pe_op op_cat (pe_op op_cat (pe_slice sl_list (pv 4) po_none (po_some (pv 6)))
          (pe_lst (pa_cons (pe_tup (pa_cons (C8.pe_c cP hr hk (by rfl) (pa_cons (pv 0) (pa_cons (pv 3) pa_nil))) (pa_cons (C8.pe_c cP hr hk (by rfl) (pa_cons (pv 0) (pa_cons (pv 3) pa_nil))) pa_nil))) pa_nil)))
          (pe_slice sl_list (pv 4) (po_some (pv 6)) po_none))))))
      (pss_one (ps_ret (pe_tup (pa_cons (pv 3) (pa_cons (pv 4) pa_nil))))))), ?_⟩
    -- size
    refine ⟨_, rfl, _, rfl, b, l, ns, most, rfl, B, by omega, by omega, fun v o v0 v1 BO => ?_⟩
    refine ⟨_, _, rfl, rfl, ?_⟩
    have B1 := B.upd BO
    have k1 : KeepB b H (upd H b o) := .updb
    have hv0 : 0 ≤ 1 + v := by omega
    -- pairs: the comprehension
    refine ⟨_, rfl, 1 + v, rfl, by omega, by omega, fun D hD => ?_⟩
    have hbD : D ≠ b := B1.ne_new hD
    have nD : H D = none := by
      rw [upd_ne hbD] at hD
      exact hD
    refine lc_it (walk_range (lo := 0) (n := (1 + v).toNat)) (fun i H' => ∃ ts : Es, ts.length = i ∧ KeepB b H H' ∧ BagAt H' b l ns ∧ H' D = some (.lst (vsOf ts)) ∧ Ed H' ts ∧ ∀ (j : Nat) (e : Addr × Int × Int), ts[j]? = some e → e.2.1 = (j : Int) ∧ 0 ≤ e.2.2 ∧ e.2.2 < 1 + v)
      ⟨[], rfl, k1.new hD, B1.new hD, upd_same, .nil, fun j e he => by simp at he⟩ (fun _ _ _ _ => True.intro) ?_ ?_
    · rintro i x H1 H' hi ⟨ts, hts, kp, Bi, eD, ed, hj⟩ ⟨rfl, rfl⟩
      refine ⟨rfl, ?_⟩
      refine ⟨_, rfl, _, rfl, _, rfl, b, l, ns, _, rfl, Bi, by omega, by omega, fun v2 o2 v20 v21 BO2 => ?_⟩
      refine ⟨(by show 2 ≤ sizeLine; decide), fun t ht => ?_⟩
      have B2 := Bi.upd BO2
      have B3 := B2.new (o := .tup [.int (0 + (i : Int)), .int v2]) ht
      have ed3 : Ed (upd (upd H' b o2) t (.tup [.int (0 + (i : Int)), .int v2])) ts := (ed.keep Bi .updb).same (same_upd ht)
      have eD2 : upd H' b o2 D = some (.lst (vsOf ts)) := by
        rw [upd_ne hbD]
        exact eD
      have tD : D ≠ t := ne_of_none eD2 ht
      refine ⟨vsOf ts, by rw [upd_ne tD]; exact eD2, ?_, ts ++ [(t, (i : Int), v2)], by simp [hts], ?_, ?_, ?_, ?_, ?_⟩
      · unfold vsOf
        rw [List.length_map]
        exact small1000 (by omega)
      · exact ((kp.trans .updb).new ht).at nD
      · exact B3.off hbD (ne_of_none B.sc nD).symm
      · rw [upd_same]
        unfold vsOf
        rw [List.map_append]
        rfl
      · refine Ed.app (fun e he => ?_) (.one ?_)
        · have h1 := ed3 e he
          rw [upd_ne (fun z => ?_)]
          · exact h1
          · rw [z, upd_ne tD, eD2] at h1
            cases h1
        · rw [upd_ne (Ne.symm tD), upd_same]
          show some (HO.tup [V.int (0 + (i : Int)), V.int v2]) = _
          rw [Int.zero_add]
      · intro j e he
        by_cases hlt : j < ts.length
        · rw [List.getElem?_append_left hlt] at he
          exact hj j e he
        · rw [List.getElem?_append_right (by omega)] at he
          cases hz : j - ts.length with
          | zero =>
            rw [hz] at he
            have z : (t, (i : Int), v2) = e := Option.some.inj he
            subst z
            exact ⟨by show (i : Int) = (j : Int); omega, v20, v21⟩
          | succ m =>
            rw [hz] at he
            cases he
    · rintro H1 ⟨ts, hts, kp, Bi, eD, ed, hj⟩
      have va : Valid (1 + v) ts := by
        refine ⟨fun e he => ?_, fun k k0 k1 => ?_⟩
        · obtain ⟨j, hjl, hje⟩ := List.getElem_of_mem he
          have h1 := hj j e (by rw [List.getElem?_eq_getElem hjl, hje])
          exact ⟨by omega, by omega, h1.2.1, h1.2.2⟩
        · have hk' : k.toNat < ts.length := by omega
          have h1 := hj k.toNat ts[k.toNat] (List.getElem?_eq_getElem hk')
          exact ⟨ts[k.toNat], List.getElem_mem hk', by rw [h1.1]; omega⟩
      -- the loop
      have ln1 : (ts.length : Int) = 1 + v := by omega
      refine ⟨_, rfl, _, rfl, _, rfl, _, _, rfl, rfl, _, _, rfl, rfl, b, l, ns, _, rfl, Bi, by omega, by omega, fun r o2 r0 r1 BO2 => ?_⟩
      refine ⟨r, rfl, by omega, by omega, ?_⟩
      refine for_it (walk_range (lo := 0) (n := r.toNat)) (fun i σ H' => ∃ (us : Es) (qa : Addr) (v5 v6 v7 : Option V), σ = [some (.ref b), some (.int most), some (.int many), some (.int (1 + v)), some (.ref qa), v5, v6, v7] ∧
          (us.length : Int) = 1 + v + (i : Int) ∧ KeepB b H H' ∧ BagAt H' b l ns ∧ H qa = none ∧ H' qa = some (.lst (vsOf us)) ∧ Ed H' us ∧ Valid (1 + v) us)
        ⟨ts, D, none, none, none, rfl, by omega, kp.trans .updb, Bi.upd BO2, nD, by rw [upd_ne hbD]; exact eD, ed.keep Bi .updb, va⟩ (fun _ _ _ _ _ => True.intro) ?_ ?_
      · rintro i x σ H2 H' hi ⟨us, qa, v5, v6, v7, rfl, hus, kp2, B2, nq, eq, ed2, va2⟩ ⟨rfl, rfl⟩
        have qb : qa ≠ b := B2.ne_vs eq
        -- at = pull(bag, len(pairs) + 1)
        refine ⟨_, rfl, _, rfl, qa, _, rfl, .inl (SqL.of eq), _, _, rfl, rfl, b, l, ns, _, rfl, B2, ?_, ?_, fun at_ o3 a0 a1 BO3 => ?_⟩
        · show (0 : Int) < ((vsOf us).length : Int) + 1
          omega
        · show ((vsOf us).length : Int) + 1 < 2 ^ 100
          unfold vsOf
          rw [List.length_map]
          omega
        have a1' : at_ < (us.length : Int) + 1 := by
          have z : at_ < ((vsOf us).length : Int) + 1 := a1
          unfold vsOf at z
          rw [List.length_map] at z
          exact z
        have hat : ((at_.toNat : Nat) : Int) = at_ := Int.toNat_of_nonneg a0
        have hatl : at_.toNat ≤ (vsOf us).length := by
          unfold vsOf
          rw [List.length_map]
          omega
        have B3 := B2.upd BO3
        have eq3 : upd H' b o3 qa = some (.lst (vsOf us)) := by
          rw [upd_ne qb]
          exact eq
        have ed3 : Ed (upd H' b o3) us := ed2.keep B2 .updb
        have kp3 : KeepB b H (upd H' b o3) := kp2.trans .updb
        generalize upd H' b o3 = H3 at *
        -- pairs[:at]
        refine ⟨_, rfl, _, rfl, at_, rfl, qa, _, rfl, SqL.of eq3, fun p1 hp1 => ?_⟩
        rw [← hat, cut_lo hatl]
        have B4 := B3.new (o := .lst ((vsOf us).take at_.toNat)) hp1
        have kp4 := kp3.new (o := .lst ((vsOf us).take at_.toNat)) hp1
        have s4 := same_upd (o := .lst ((vsOf us).take at_.toNat)) hp1
        have eq4 := s4 _ _ eq3
        have ed4 := ed3.same s4
        have e14 : upd H3 p1 (.lst ((vsOf us).take at_.toNat)) p1 = some (.lst ((vsOf us).take at_.toNat)) := upd_same
        generalize upd H3 p1 (.lst ((vsOf us).take at_.toNat)) = H4 at *
        -- the new edge
        refine ⟨_, rfl, _, rfl, b, l, ns, _, rfl, B4, by omega, by omega, fun x1 o5 x10 x11 BO5 => ?_⟩
        have B5 := B4.upd BO5
        have p1b : p1 ≠ b := B3.ne_new hp1
        refine ⟨_, rfl, _, rfl, b, l, ns, _, rfl, B5, by omega, by omega, fun x2 o6 x20 x21 BO6 => ?_⟩
        have B6 := B5.upd BO6
        have kp6 : KeepB b H4 (upd (upd H4 b o5) b o6) := KeepB.updb.trans .updb
        have ed6 := ed4.keep B4 kp6
        have eq6 := kp6 _ _ qb eq4
        have e16 := kp6 _ _ p1b e14
        have kp6' := kp4.trans kp6
        generalize upd (upd H4 b o5) b o6 = H6 at *
        refine ⟨(by show 2 ≤ sizeLine; decide), fun t ht => ?_⟩
        have s7 := same_upd (o := .tup [.int x1, .int x2]) ht
        have B7 := B6.same s7
        have e7 : upd H6 t (.tup [.int x1, .int x2]) t = some (.tup [.int x1, .int x2]) := upd_same
        have kp7 := kp6'.trans (.of_same s7)
        have eq7 := s7 _ _ eq6
        have e17 := s7 _ _ e16
        have ed7 := ed6.same s7
        generalize upd H6 t (.tup [.int x1, .int x2]) = H7 at *
        refine ⟨(by show 1 ≤ sizeLine; decide), fun p2 hp2 => ?_⟩
        have s8 := same_upd (o := .lst [.ref t]) hp2
        have e8 : upd H7 p2 (.lst [.ref t]) p2 = some (.lst [.ref t]) := upd_same
        have B8 := B7.same s8
        have kp8 := kp7.trans (.of_same s8)
        have eq8 := s8 _ _ eq7
        have e18 := s8 _ _ e17
        have et8 := s8 _ _ e7
        have ed8 := ed7.same s8
        generalize upd H7 p2 (.lst [.ref t]) = H8 at *
        have hsz : ∀ m : Nat, m ≤ 1000 → m ≤ sizeLine := fun m h => Nat.le_of_lt (small1000 h)
        have lus : us.length ≤ 200 := by omega
        have lvs : (vsOf us).length = us.length := by
          unfold vsOf
          rw [List.length_map]
        refine ⟨p1, p2, _, _, rfl, rfl, e18, e8, hsz _ (by simp; omega), fun p3 hp3 => ?_⟩
        have s9 := same_upd (o := .lst ((vsOf us).take at_.toNat ++ [.ref t])) hp3
        have e9 : upd H8 p3 (.lst ((vsOf us).take at_.toNat ++ [.ref t])) p3 = some (.lst ((vsOf us).take at_.toNat ++ [.ref t])) := upd_same
        have B9 := B8.same s9
        have kp9 := kp8.trans (.of_same s9)
        have eq9 := s9 _ _ eq8
        have et9 := s9 _ _ et8
        have ed9 := ed8.same s9
        generalize upd H8 p3 (.lst ((vsOf us).take at_.toNat ++ [.ref t])) = H9 at *
        refine ⟨_, rfl, _, rfl, _, rfl, qa, _, rfl, SqL.of eq9, fun p4 hp4 => ?_⟩
        rw [cut_hi hatl]
        have s10 := same_upd (o := .lst ((vsOf us).drop at_.toNat)) hp4
        have e10 : upd H9 p4 (.lst ((vsOf us).drop at_.toNat)) p4 = some (.lst ((vsOf us).drop at_.toNat)) := upd_same
        have B10 := B9.same s10
        have kp10 := kp9.trans (.of_same s10)
        have e910 := s10 _ _ e9
        have et10 := s10 _ _ et9
        have ed10 := ed9.same s10
        generalize upd H9 p4 (.lst ((vsOf us).drop at_.toNat)) = H10 at *
        refine ⟨p3, p4, _, _, rfl, rfl, e910, e10, hsz _ (by simp; omega), fun p5 hp5 => ?_⟩
        have s11 := same_upd (o := .lst ((vsOf us).take at_.toNat ++ [.ref t] ++ (vsOf us).drop at_.toNat)) hp5
        obtain ⟨yb, hyb⟩ := B10.at_b
        refine ⟨us.take at_.toNat ++ [(t, x1, x2)] ++ us.drop at_.toNat, p5, _, _, _, rfl, ?_, kp10.trans (.of_same s11), B10.same s11, kp10.free hyb hp5, ?_, ?_, ?_⟩
        · simp
          omega
        · rw [upd_same]
          unfold vsOf
          rw [List.map_append, List.map_append, List.map_take, List.map_drop]
          rfl
        · have f1 : Ed H10 (us.take at_.toNat) := fun e he => ed10 e (List.mem_of_mem_take he)
          have f2 : Ed H10 (us.drop at_.toNat) := fun e he => ed10 e (List.mem_of_mem_drop he)
          exact Ed.same (Ed.app (Ed.app f1 (.one et10)) f2) s11
        · refine ⟨fun e he => ?_, fun kk k0 k1 => ?_⟩
          · rw [List.mem_append, List.mem_append] at he
            rcases he with (he | he) | he
            · exact va2.rg e (List.mem_of_mem_take he)
            · have z := List.mem_singleton.mp he
              subst z
              exact ⟨x10, x11, x20, x21⟩
            · exact va2.rg e (List.mem_of_mem_drop he)
          · obtain ⟨e, he, hk2⟩ := va2.sr kk k0 k1
            refine ⟨e, ?_, hk2⟩
            rw [← List.take_append_drop at_.toNat us, List.mem_append] at he
            rw [List.mem_append, List.mem_append]
            exact he.elim (fun z => .inl (.inl z)) .inr
      · rintro σ H2 ⟨us, qa, v5, v6, v7, rfl, hus, kp2, B2, nq, eq, ed2, va2⟩
        refine ⟨_, rfl, _, rfl, (by show 2 ≤ sizeLine; decide), fun p hp => ?_⟩
        obtain ⟨yb, hyb⟩ := B2.at_b
        have s1 := same_upd (o := .tup [.int (1 + v), .ref qa]) hp
        exact q p qa (1 + v) us _ (kp2.trans (.of_same s1)) (B2.same s1) (kp2.free hyb hp) nq ⟨upd_same, s1 _ _ eq, ed2.same s1, va2, by omega⟩ (by omega) (by omega)
end
end Lw
set_option Elab.async false
set_option linter.all false
set_option maxRecDepth 100000
/-! enumerate(t) of a tuple; enumerate and for over what is a list or a tuple -/
namespace Lw
open PySem PySem.Spec PyProof.Rows L2
/-- the two objects that enumerate(t) makes: the tuple's iterator, the counter over it -/
abbrev itO (l : Addr) : Obj := { cls := .type "tuple_iterator", data := .fields #[.ref l, .int 0 0] }
abbrev enO (i : Addr) : Obj := { cls := .type "enumerate", data := .fields #[.none, .bool false, .ref i, rawInt 0, .none, .none] }
theorem enumT_new (l : Addr) (o : Obj) (items : Array Value) (n : Nat) (hc : o.cls = .type "tuple") (hd : o.data = .seq items n) :
    Meets (Builtin.«enumerate.__new__» ⟨[.type "enumerate", .ref l], []⟩) (fun _ R s => s.heap.get? l = some o ∧
      R (.ok (.ret (.ref (s.heap.push (itO l)).objs.size))) { s with heap := (s.heap.push (itO l)).push (enO s.heap.objs.size) }) := by
  obtain ⟨oc, dct, dt, sl⟩ := o
  dsimp only at hc hd
  subst hc hd
  refine .of_wp fun P w A R s hyp => ?_
  rcases s with ⟨h, gn, dr, tk, os⟩
  rcases hyp with ⟨hl, fin⟩
  have sub := sub_enumerate
  have isT : Heap.IsTuple (Shared.heap ⟨h, gn, dr, tk, os⟩) l items := ⟨_, hl, rfl, n, rfl⟩
  wp_walk using AutoSeq1.wpAny_loadPart' hl
  refine wpAny_stack_any fun st => wpAny_pure ?_
  split
  next c _ _ _ _ _ => cases (c == Value.type "enumerate") <;> (wp_walk using AutoSeq1.wpAny_loadPart' hl, wpAny_pyIter_tuple isT) <;> exact ⟨_, rfl, fin⟩
  next => (wp_walk using AutoSeq1.wpAny_loadPart' hl, wpAny_pyIter_tuple isT) <;> exact ⟨_, rfl, fin⟩
theorem enumT_call {P : Program} {w : World} {A : Around} {E : Value → Shared → Prop} {s : Shared} {l : Addr} {items : Array Value} {Q : Value → Shared → Prop} (hL : s.heap.IsTuple l items)
    (h : IsEnum ((s.heap.push (itO l)).push (enO s.heap.objs.size)) (s.heap.objs.size + 1) s.heap.objs.size 0 .none → Heap.IsTupleIter ((s.heap.push (itO l)).push (enO s.heap.objs.size)) s.heap.objs.size l 0 →
      Q (.ref (s.heap.objs.size + 1)) { s with heap := (s.heap.push (itO l)).push (enO s.heap.objs.size) }) :
    wpAny (model P w) A (call (.type "enumerate") [.ref l]) Q E s := by
  obtain ⟨o, get, cls, n, dat⟩ := hL
  have size1 : (s.heap.push (itO l)).objs.size = s.heap.objs.size + 1 := Heap.size_push ..
  have en : IsEnum ((s.heap.push (itO l)).push (enO s.heap.objs.size)) (s.heap.objs.size + 1) s.heap.objs.size 0 .none := by
    rw [← size1]
    exact Heap.get?_push_size _ rfl
  have it : Heap.IsTupleIter ((s.heap.push (itO l)).push (enO s.heap.objs.size)) s.heap.objs.size l 0 := ⟨itO l, Heap.get?_push_of_some _ (Heap.get?_push_size _ rfl), rfl, rfl⟩
  refine callType_new F.called_enumerate (by decide) (F.typeCall_enumerate_1 _) (F.newCall_enumerate_1 _) (F.args_object_init_2 · _) F.entry_enumerate_new (enumT_new l o items n cls dat) ⟨get, ?_⟩
  rw [size1]
  exact ⟨⟨_, en, rfl⟩, h en it⟩
/-- the turns of enumerate(t): a new pair of the number and the item -/
def IteT (K : PySem.W.Frag) (a : Addr) : It where
  go i H := ∃ (xs : List V) (x : V), SqT K H a xs ∧ xs[i]? = some x
  yld i H v H' := ∃ T x, v = .ref T ∧ H T = none ∧ H' = upd H T (.tup [.int (i : Nat), x]) ∧ ∀ xs, SqT K H a xs → xs[i]? = some x
  stop i H := ∃ xs : List V, SqT K H a xs ∧ xs.length ≤ i
/-- the state of the walk at turn i -/
structure EnAt (a e it : Addr) (i : Nat) (h : Heap) : Prop where
  en : ∃ old, IsEnum h e it ((i : Nat) : Int) old
  itr : h.IsTupleIter it a i
  ne : e ≠ it ∧ e ≠ a
theorem two {e it b : Addr} (h : b ∈ [e, it]) : b = e ∨ b = it := by
  simp only [List.mem_cons, List.not_mem_nil, or_false] at h
  exact h
theorem EnAt.keep {a e it : Addr} {i : Nat} {h h' : Heap} (z : EnAt a e it i h) (k : ∀ b ∈ [e, it], ∀ o, h.get? b = some o → h'.get? b = some o) : EnAt a e it i h' := by
  obtain ⟨old, he⟩ := z.en
  exact ⟨⟨old, k e (.head _) _ he⟩, z.itr.at (k it (.tail _ (.head _))), z.ne⟩
theorem enumT_item {X : Cx} {elts : List Expr} {kk : Nat} {tpos : Pos} {a e it : Addr} (ai : a ≠ it) (calm : X.calm = true) {i : Nat} {pins : List (Addr × Obj)} {s : Shared} {σ : L2.St} {H : Hp} {E : Value → Shared → Prop} (I : Inv X pins σ H s)
    (off : ∀ b ∈ [e, it], FpOk X pins H b) (z : EnAt a e it i s.heap) {xs : List V} {x : V} (hq : SqT X.K H a xs) (hx : xs[i]? = some x) :
    wpAny (model X.prog X.w) X.A (pyNext (.ref e)) (fun r s1 => ∃ u, r = some u ∧ wpAny (model X.prog X.w) X.A (letOwnedTupleGo (.Tuple elts kk tpos) (.ref e) u)
      (fun _ s2 => ∃ y H', Inv X pins σ H' s2 ∧ RelV y u ∧ (IteT X.K a).yld i H y H' ∧ EnAt a e it (i + 1) s2.heap ∧ ∀ b ∈ [e, it], H' b = none) E s1) E s := by
  obtain ⟨old, he⟩ := z.en
  obtain ⟨its, vals, tup, _⟩ := I.tuple hq
  obtain ⟨u, hu, ru⟩ := vals.get hx
  have eb := Heap.lt_size he
  have ib : it < s.heap.objs.size := z.itr.elim fun _ q => Heap.lt_size q.1
  have hi : i < its.toArray.size := by
    rw [List.size_toArray]
    exact (List.getElem?_eq_some_iff.mp hu).1
  have out : e ∉ [it, a] := fun m => (two m).elim z.ne.1 z.ne.2
  refine wpAny_pyNext_enum_itemD (Draws.tuple (A := X.A.in1) (show X.A.in1.handled = none from I.ok.hd calm) it a ai its.toArray) he ⟨z.itr, tup⟩ hi z.ne.1 out ?_
  intro y h' tk hy eo st new _ stay
  obtain rfl : y = u := by
    rw [List.getElem?_toArray, hu] at hy
    exact (Option.some.inj hy).symm
  refine ⟨_, rfl, wpAny_letOwnedTupleGo_enum (s := { s with heap := h', toks := tk + 1 }) eo fun h2 en2 sb => ?_⟩
  have new2 : h2.get? s.heap.objs.size = some { cls := .type "tuple", data := .seq #[.int i tk, y] } := by
    rw [sb.2 _ (Nat.ne_of_gt eb)]
    exact new
  have okN : ObjOk X.prog X.w (upd H s.heap.objs.size (.tup [.int (i : Nat), x])) h2 s.heap.objs.size (.tup [.int (i : Nat), x]) := ⟨by show 2 ≤ sizeLine; decide, _, .cons ⟨_, rfl⟩ (.cons ru .nil), _, new2, rfl, _, rfl⟩
  have rest : ∀ b o, b ∉ [e, it] → s.heap.get? b = some o → h2.get? b = some o := by
    intro b o nb hb
    have be : b ≠ e := fun q => nb (q ▸ .head _)
    have bi : b ≠ it := fun q => nb (q ▸ .tail _ (.head _))
    rw [sb.2 b be]
    exact stay b o be bi hb
  refine ⟨.ref s.heap.objs.size, _, I.turnedNew (ch := [e, it]) rest off (Nat.le_refl _) okN, rfl, ⟨_, x, rfl, I.hok.fresh (Nat.le_refl _), rfl, fun ys hys => I.tuple_inj hys hq ▸ hx⟩, ⟨⟨y, ?_⟩, ?_, z.ne⟩, ?_⟩
  · rw [Int.natCast_succ]
    exact en2
  · exact st.1.at fun o q => by rw [sb.2 it z.ne.1.symm]; exact q
  · intro b hb
    have lt : b < s.heap.objs.size := (two hb).elim (fun q => q ▸ eb) (fun q => q ▸ ib)
    rw [upd_ne (Nat.ne_of_lt lt)]
    exact (off b hb).1
/-- the tuple's iterator at its end -/
theorem over {P : Program} {w : World} {A : Around} (calm : A.handled = none) {it a : Addr} {items : Array Value} {i : Nat} (hi : items.size ≤ i) : Draws P w A it [it, a] i (fun _ _ => True) (fun j h => j = i ∧ h.IsTupleIter it a i ∧ h.IsTuple a items) where
  live _ _ z := z.2.1.elim fun o q => ⟨o, q.1⟩
  frame _ _ _ z k := ⟨z.1, z.2.1.at (k it (.head _)), z.2.2.at (k a (.tail _ (.head _)))⟩
  item j _ _ _ lt z _ := absurd z.1 (Nat.ne_of_lt lt)
  done _ _ _ z h := wpAny_nextOf_tuple_end calm z.2.1 z.2.2 (Array.getElem?_eq_none hi) h
theorem enumT_turn {P : Program} {w : World} {K : PySem.W.Frag} {elts : List Expr} {kk : Nat} {tpos : Pos} {a e it : Addr} (ai : a ≠ it) : Turn P w K (.Tuple elts kk tpos) (IteT K a) [e, it] e (EnAt a e it) where
  mem := .head _
  obj i h z b hb := by
    obtain ⟨old, he⟩ := z.en
    obtain ⟨o, ho, _, hd⟩ := z.itr
    rcases two hb with rfl | rfl
    · exact ⟨_, he, nofun⟩
    · exact ⟨o, ho, by rw [hd]; nofun⟩
  keep i h h' z k := z.keep k
  item := by
    rintro X rfl rfl rfl calm i pins s σ H E I off z ⟨xs, x, hq, hx⟩
    exact enumT_item ai calm I off z hq hx
  done := by
    rintro X rfl rfl rfl calm i pins s σ H E I off z ⟨xs, hq, hx⟩
    obtain ⟨old, he⟩ := z.en
    obtain ⟨its, vals, tup, _⟩ := I.tuple hq
    obtain ⟨f0, f1, _, f3, f4, f5⟩ := off it (.tail _ (.head _))
    have len := vals.length
    refine wpAny_pyNext_enum_endD (over (A := X.A.in1) (show X.A.in1.handled = none from I.ok.hd calm) (items := its.toArray) (by rw [List.size_toArray]; omega)) he ⟨rfl, z.itr, tup⟩ fun h' up => ⟨rfl, I.turned (t' := s.toks) (fun b o hb q => up b o hb q) f0 f1 f3 f4 f5⟩
  self A i s Q E z h := z.en.elim fun _ he => wpAny_pyIter_enum he h
theorem walk_enumT {K : PySem.W.Frag} {a : Addr} {xs : List V} : Walk (IteT K a) xs.length (fun H => SqT K H a xs) (YPair (fun i => some (.int (i : Nat))) (fun i => xs[i]?)) := by
  constructor
  · intro i H hi hq
    exact ⟨xs, xs[i], hq, List.getElem?_eq_getElem hi⟩
  · intro H hq
    exact ⟨xs, hq, Nat.le_refl _⟩
  · rintro i H _ _ hi hq ⟨T, x, rfl, nT, rfl, at_⟩
    exact ⟨T, _, x, rfl, nT, rfl, rfl, at_ xs hq⟩
/-! ### a list or a tuple -/
abbrev SqF := PySem.W.Frag → Hp → Addr → List V → Prop
/-- enumerate(e) -/
def iEnumA (K : PySem.W.Frag) (ta : TA) : TI := fun σ H R => ta σ H fun vs H1 => ∃ (a : Addr) (xs : List V) (S : SqF), vs = [.ref a] ∧ (S = SqL ∨ S = SqT) ∧ S K H1 a xs ∧
  ∀ J, Walk J xs.length (fun H => S K H a xs) (YPair (fun i => some (.int (i : Nat))) (fun i => xs[i]?)) → R J H1
/-- e itself -/
def iSeqA (K : PySem.W.Frag) (tl : TE) : TI := fun σ H R => tl σ H fun x H1 => ∃ (a : Addr) (xs : List V) (S : SqF), x = .ref a ∧ (S = SqL ∨ S = SqT) ∧ S K H1 a xs ∧ ∀ J, Walk J xs.length (fun H => S K H a xs) (YAt xs) → R J H1
section
variable {X : Cx}
/-- new addresses are nobody's -/
theorem new_ok {pins : List (Addr × Obj)} {s : Shared} {σ : L2.St} {H : Hp} {b : Addr} (I : Inv X pins σ H s) (h : s.heap.objs.size ≤ b) : FpOk X pins H b := I.fpOk h (I.hok.fresh h)
theorem pi_enumA {e : Expr} {ta : TA} {p pos tpos : Pos} {elts : List Expr} {kk : Nat} (hg : Gl X "enumerate") (hm : X.mg "enumerate" = none) (ha : PA X [e] ta) (hs : starEach [e] X.env = [(false, eval e X.env)] := by rfl) :
    PI X (.Tuple elts kk tpos) (.Call (.Name "enumerate" p) [e] [] pos) (iEnumA X.K ta) := by
  constructor
  intro pins s σ H R I h
  refine Call_ (ld_blt I hg hm boot_enumerate (PyProof.Rows.callWith_type1 (wpAny_mono (ha.run pos pins s σ H _ I h) ?_ fun _ _ z => z) hs rfl))
  rintro us s1 ⟨_, H1, I1, vals, a, xs, S, rfl, hS, hq, go⟩
  obtain ⟨_, rfl, rfl⟩ : ∃ u, us = [u] ∧ u = Value.ref a := by
    match us, vals with
    | [u], .cons r .nil => exact ⟨u, rfl, r⟩
  have free : ∀ b ∈ [s1.heap.objs.size + 1, s1.heap.objs.size], FpOk X pins H1 b := fun b hb => new_ok I1 ((two hb).elim (fun q => q ▸ Nat.le_succ _) (fun q => q ▸ Nat.le_refl _))
  rcases hS with rfl | rfl
  · obtain ⟨its, rv, lst, _⟩ := I1.list hq
    refine call_enumerate_list lst.isList fun g en it _ up => wpAny_pyIter_enum en ?_
    exact ⟨_, [s1.heap.objs.size + 1, s1.heap.objs.size], _, Ite X.K a, H1, rfl, I1.kept (t' := s1.toks) up, turn_enum a _ _, ⟨⟨.none, en⟩, it, Nat.succ_ne_self _⟩, free, go _ walk_enum⟩
  · obtain ⟨its, rv, tup, _⟩ := I1.tuple hq
    have old : a < s1.heap.objs.size := tup.elim fun _ q => Heap.lt_size q.1
    refine enumT_call (items := its.toArray) tup fun en it => wpAny_pyIter_enum en ?_
    refine ⟨_, [s1.heap.objs.size + 1, s1.heap.objs.size], _, IteT X.K a, H1, rfl, I1.kept (t' := s1.toks) fun b o q => Heap.get?_push_of_some _ (Heap.get?_push_of_some _ q), enumT_turn (Nat.ne_of_lt old), ⟨⟨.none, en⟩, it, Nat.succ_ne_self _, ?_⟩, free, go _ walk_enumT⟩
    exact fun q => absurd old (Nat.not_lt.mpr (q ▸ Nat.le_succ _))
theorem pi_seqA {tg l : Expr} {tl : TE} (hl : PE X l tl) : PI X tg l (iSeqA X.K tl) := by
  constructor
  intro pins s σ H R I h
  refine wpAny_mono (hl.run pins s σ H _ I h) ?_ fun _ _ z => z
  rintro v s1 ⟨_, H1, I1, rv, a, xs, S, rfl, hS, hq, go⟩
  cases rv
  have free : ∀ b ∈ [s1.heap.objs.size], FpOk X pins H1 b := fun b hb => new_ok I1 (List.mem_singleton.mp hb ▸ Nat.le_refl _)
  have keep : ∀ o : Obj, Inv X pins σ H1 { s1 with heap := s1.heap.push o } := fun o => I1.kept (t' := s1.toks) fun b o' q => Heap.get?_push_of_some _ q
  rcases hS with rfl | rfl
  · obtain ⟨its, r, lst, _⟩ := I1.list hq
    exact wpAny_pyIter_list lst.isList ⟨_, _, _, Itl X.K a, H1, rfl, keep _, turn_list a _, ⟨_, Heap.get?_push_size _ rfl, rfl, rfl⟩, free, go _ walk_list⟩
  · obtain ⟨its, r, tup, _⟩ := I1.tuple hq
    exact wpAny_pyIter_tuple (items := its.toArray) tup ⟨_, _, _, Itt X.K a, H1, rfl, keep _, turn_tuple a _, ⟨_, Heap.get?_push_size _ rfl, rfl, rfl⟩, free, go _ walk_tup⟩
end
end Lw
set_option Elab.async false
set_option linter.all false
set_option maxRecDepth 100000
namespace Lw
open PySem L2
abbrev sCheck : Stmt := top 42
abbrev sInit : Stmt := inClass (top 43) 2
/-- what the walk asks of the class Graph -/
structure GTxt (K : PySem.W.Frag) (mg : Str → Option Value) (C : Addr) (mc : Value) : Prop where
  cl : Cls K C
  nS : NoAttr K C "state_count"
  nE : NoAttr K C "edge_pairs"
  mgG : mg "Graph" = some (.ref C)
  rd : ClX.CRead K C mc
  v8 : ∃ u, ClX.CVal K C mc "MAX_STATES" (.int 8) u
  v24 : ∃ u, ClX.CVal K C mc "MAX_EDGES" (.int 24) u
  enum : mg "enumerate" = none
def flds (n : Int) (t : Addr) : List (Str × V) := [("state_count", V.int n), ("edge_pairs", V.ref t)]
def spCheck (K : PySem.W.Frag) : Sp := fun vs H Q _ => ∃ (n : Int) (e : Addr) (ts : Es) (S : SqF), vs = [.int n, .ref e] ∧ (S = SqL ∨ S = SqT) ∧ S K H e (vsOf ts) ∧ Ed H ts ∧ Valid n ts ∧ 1 ≤ n ∧ n ≤ 100 ∧ ts.length ≤ 100 ∧ ∀ H', Same H H' → Q .non H'
structure GraphAt (C : Addr) (H : Hp) (g : Addr) (n : Int) (us : Es) : Prop where
  ob : ∃ dx t, H g = some (.ins C dx (flds n t)) ∧ H t = some (.tup (vsOf us))
  ed : Ed H us
def spInit (C : Addr) : Sp := fun vs H Q _ => ∃ (g dx e : Addr) (n : Int) (ts : Es) (mk : List V → HO), vs = [.ref g, .int n, .ref e] ∧ H g = some (.ins C dx []) ∧ (mk = HO.lst ∨ mk = HO.tup) ∧ H e = some (mk (vsOf ts)) ∧ Ed H ts ∧ Valid n ts ∧ 1 ≤ n ∧ n ≤ 8 ∧ ts.length ≤ 24 ∧
  ∀ (us : Es) (H' : Hp), psOf us = psOf ts → KeepB g H H' → GraphAt C H' g n us → Q .non H'
theorem sq_same {K : PySem.W.Frag} {S : SqF} {H H' : Hp} {e : Addr} {xs : List V} (hS : S = SqL ∨ S = SqT) (h : S K H e xs) (s : Same H H') : S K H' e xs := by
  rcases hS with rfl | rfl
  · exact s.seq h
  · rcases h with (h | ⟨o, h⟩) | h
    · exact .inl (.inl (s _ _ h))
    · exact .inl (.inr ⟨o, s _ _ h⟩)
    · exact .inr h
theorem vsOf_len (ts : Es) : (vsOf ts).length = ts.length := by
  unfold vsOf
  rw [List.length_map]
theorem vsOf_at {ts : Es} {i : Nat} {v : V} (h : (vsOf ts)[i]? = some v) : ∃ e, ts[i]? = some e ∧ v = .ref e.1 := by
  unfold vsOf at h
  rw [List.getElem?_map] at h
  cases g : ts[i]? with
  | none =>
    rw [g] at h
    cases h
  | some e =>
    rw [g] at h
    exact ⟨e, rfl, (Option.some.inj h).symm⟩
section
variable {P : Program} {w : World} {K : PySem.W.Frag} {mg : Str → Option Value} {base : Heap}
theorem scCheck : FnScope ["states", "edges", "place", "source", "target", "sources", "state"] ["states", "edges"] (defScope sCheck) := ⟨rfl, rfl, rfl, by decide +kernel, rfl, by decide +kernel, by decide +kernel⟩
theorem inV_yes {k : Int} {ks : List Int} (h : k ∈ ks) : inV (.int k) (ks.map V.int) = true := by
  unfold inV
  rw [List.any_map, List.any_eq_true]
  exact ⟨k, h, by simp [eqV]⟩
theorem flat_ints (ks : List Int) : (ks.map V.int).all flatV = true := by
  rw [List.all_map, List.all_eq_true]
  intro x _
  rfl
set_option maxHeartbeats 8000000 in
theorem ok_check {f C : Addr} {mc : Value} {fd : FuncData} {k : Nat} (F : Fun K "check_edges" "check_edges" sCheck f fd) (T : Bi mg) (G : GTxt K mg C mc) : FnOk P w K mg base CX0 (k + 1) f fd ["states", "edges"] (spCheck K) := by
  refine F.ok scCheck (fun vs H Q E h => ?_) (fun cdv A outer s H vs Q E hr h => ?_)
  · obtain ⟨n, e, ts, S, rfl, _⟩ := h
    rfl
  · obtain ⟨n, e, ts, S, rfl, hS, hq, ed, va, n1, n8, hl, q⟩ := h
    refine ⟨_, pss_cons (ps_for PassesOwn.never rfl (pi_enumA (by rfl) G.enum (pa_cons (pv 1) pa_nil))
          (pg_tup rfl (pgs_cons (pg_name (i := 2) scCheck.nd rfl (.inl rfl)) (pgs_cons (pg_tup rfl (pgs_cons (pg_name (i := 3) scCheck.nd rfl (.inl rfl)) (pgs_cons (pg_name (i := 4) scCheck.nd rfl (.inl rfl)) pgs_nil))) pgs_nil)))
        (pss_one (ps_if (pt_not (PW.pt (pw_and (pt_chain op_le op_lt pe_int (pv 3) (pv 0)) (pw_and1 (pt_chain op_le op_lt pe_int (pv 4) (pv 0)))))) (pss_one ps_never) pss_nil)))
      (pss_cons (ps_setLc (i := 5) (own := [("source", 3), ("target", 4)]) (g := gTup K 2 (gCons (gName 3) (gCons (gName 4) gNil))) (tt := tYes) (te := tVar 3) rfl scCheck.nd rfl rfl (sw_true rfl rfl rfl (by decide +kernel))
          (pi_seqA (pv 1))
          (blkOk_by (N := ["states", "edges", "place", "source", "target", "sources", "state"]) (sc := defScope sCheck) (by decide +kernel))
          (fun _ _ _ _ _ => by exact pg_tup rfl (pgs_cons (pg_name (i := 3) scCheck.nd rfl (Or.inl rfl)) (pgs_cons (pg_name (i := 4) scCheck.nd rfl (Or.inl rfl)) pgs_nil)))
          (fun _ _ _ _ _ => pts_nil)
          (fun _ _ _ _ _ => by exact pv 3))
      (pss_one (ps_for PassesOwn.never rfl (pi_range1 (by rfl) T.range (pa_cons (pv 0) pa_nil)) (pg_name (i := 6) scCheck.nd rfl (Or.inl rfl))
        (pss_one (ps_if (pt_cmpR op_notIn_seq (pv 6) (pv 5) (by rfl)) (pss_one ps_never) pss_nil))))), ?_⟩
    have gsz : ∀ m : Nat, m ≤ 1000 → m < sizeLine := fun m h => small1000 h
    -- for place, (source, target) in enumerate(edges)
    refine ⟨_, rfl, e, vsOf ts, S, rfl, hS, hq, fun J w => ?_⟩
    refine for_it w (fun i σ H' => ∃ v2 v3 v4 : Option V, σ = [some (.int n), some (.ref e), v2, v3, v4, none, none] ∧ Same H H') ⟨none, none, none, rfl, fun _ _ z => z⟩ (fun i σ H' _ p => by obtain ⟨_, _, _, _, s⟩ := p; exact sq_same hS hq s) ?_ ?_
    · rintro i x σ H1 H' hi ⟨v2, v3, v4, rfl, sm⟩ ⟨Ta, x, y, rfl, hT, rfl, gx, gy⟩
      obtain ⟨ee, hee, rfl⟩ := vsOf_at gy
      have ex : x = .int (i : Nat) := (Option.some.inj gx).symm
      subst ex
      have s1 := sm.trans (same_upd (o := .tup [.int (i : Nat), .ref ee.1]) hT)
      have mem : ee ∈ ts := List.mem_of_getElem? hee
      have r := va.rg ee mem
      refine ⟨Ta, _, rfl, SqT.of upd_same, rfl, _, _, rfl, _, _, rfl, ⟨ee.1, _, rfl, SqT.of (s1 _ _ (ed ee mem)), rfl, _, _, rfl, _, _, rfl, rfl, ?_⟩⟩
      refine ⟨rfl, ?_⟩
      refine ⟨_, rfl, _, _, rfl, rfl, _, rfl, if_t (decide_eq_true r.1) ⟨_, rfl, _, _, rfl, rfl, ?_⟩⟩
      refine ⟨_, rfl, if_t (decide_eq_true r.2.1) ?_⟩
      refine ⟨_, rfl, _, _, rfl, rfl, _, rfl, if_t (decide_eq_true r.2.2.1) ⟨_, rfl, _, _, rfl, rfl, ?_⟩⟩
      refine ⟨_, rfl, ?_⟩
      refine if_f (by rw [decide_eq_true r.2.2.2]; rfl) ?_
      exact ⟨_, _, _, rfl, s1⟩
    · rintro σ H1 ⟨v2, v3, v4, rfl, sm⟩
      -- sources
      refine ⟨_, rfl, e, vsOf ts, S, rfl, hS, sq_same hS hq sm, fun J w => fun D hD => ?_⟩
      have nD : H D = none := sm.free hD
      refine lc_it w (fun i H' => Same H H' ∧ H' D = some (.lst ((ts.take i).map fun e => V.int e.2.1))) ⟨sm.trans (same_upd hD), upd_same⟩ (fun i H' _ p => sq_same hS hq p.1) ?_ ?_
      · rintro i x H2 H' hi ⟨sm2, eD⟩ ⟨rfl, gx⟩
        obtain ⟨ee, hee, rfl⟩ := vsOf_at gx
        have mem : ee ∈ ts := List.mem_of_getElem? hee
        refine ⟨ee.1, _, rfl, SqT.of (sm2 _ _ (ed ee mem)), rfl, _, _, rfl, _, _, rfl, rfl, rfl, ?_⟩
        refine ⟨_, rfl, _, eD, ?_, ?_, ?_⟩
        · rw [List.length_map, List.length_take]
          exact gsz _ (by omega)
        · intro c o ec
          rw [upd_ne (ne_of_none ec nD)]
          exact sm2 _ _ ec
        · rw [upd_same, List.take_add_one, hee, List.map_append]
          rfl
      · rintro H2 ⟨sm2, eD⟩
        rw [vsOf_len, List.take_length] at eD
        refine ⟨_, rfl, n, rfl, by omega, by omega, ?_⟩
        refine for_it (walk_range (lo := 0) (n := n.toNat)) (fun i σ H' => ∃ v2 v3 v4 v6 : Option V, σ = [some (.int n), some (.ref e), v2, v3, v4, some (.ref D), v6] ∧ Same H H' ∧ H' D = some (.lst (ts.map fun e => V.int e.2.1))) ⟨_, _, _, _, rfl, sm2, eD⟩ (fun _ _ _ _ _ => True.intro) ?_ ?_
        · rintro i x σ H3 H' hi ⟨v2, v3, v4, v6, rfl, sm3, eD3⟩ ⟨rfl, rfl⟩
          obtain ⟨ee, hee, hk⟩ := va.sr (i : Int) (by omega) (by omega)
          have e1 : (ts.map fun e => V.int e.2.1) = (ts.map fun e => e.2.1).map V.int := by
            rw [List.map_map]
            rfl
          have e2 : inV (.int (0 + (i : Int))) (ts.map fun e => V.int e.2.1) = true := by
            rw [e1, Int.zero_add, ← hk]
            exact inV_yes (List.mem_map_of_mem (f := fun e : Addr × Int × Int => e.2.1) hee)
          refine ⟨_, rfl, _, rfl, D, _, rfl, .inl (SqL.of eD3), rfl, by rw [e1]; exact flat_ints _, _, rfl, ?_⟩
          refine if_f (by rw [e2]; rfl) ?_
          exact ⟨_, _, _, _, rfl, sm3, eD3⟩
        · rintro σ H3 ⟨v2, v3, v4, v6, rfl, sm3, eD3⟩
          exact q H3 sm3
end
end Lw
set_option Elab.async false
set_option linter.all false
set_option maxRecDepth 100000
namespace Lw
open PySem L2
abbrev sEq : Stmt := inClass (top 43) 4
abbrev sLen : Stmt := inClass (top 43) 5
abbrev sRepr : Stmt := inClass (top 43) 6
abbrev sStates : Stmt := inClass (top 43) 7
abbrev sEdges : Stmt := inClass (top 43) 8
/-! ### edges as data -/
def dEs (ts : Es) : List PyData := ts.map fun e => .tuple [.int e.2.1, .int e.2.2]
theorem dEs_at {K : PySem.W.Frag} {H : Hp} : ∀ {ts : Es}, Ed H ts → DpAll K H (vsOf ts) (dEs ts)
  | [], _ => .nil
  | e :: ts, h => .cons (.tup (SqT.of (h e List.mem_cons_self)) (.cons (.int _) (.cons (.int _) .nil))) (dEs_at (ts := ts) fun x hx => h x (List.mem_cons_of_mem _ hx))
theorem dEs_lay : ∀ ts : Es, PyData.canLayAll0 (dEs ts) = true
  | [] => rfl
  | e :: ts => by
    show (true && PyData.canLayAll0 (dEs ts)) = true
    rw [dEs_lay ts]
    rfl
theorem dEs_depth : ∀ ts : Es, PyData.depthAll (dEs ts) ≤ 1
  | [] => Nat.zero_le _
  | e :: ts => by
    show max 1 (PyData.depthAll (dEs ts)) ≤ 1
    exact Nat.max_le.mpr ⟨Nat.le_refl _, dEs_depth ts⟩
theorem shT (ts : Es) : SeqAt.shaped (.tuple (dEs ts)) = true := by
  show (PyData.canLayAll0 (dEs ts) && decide (PyData.depthAll (dEs ts) + 1 ≤ 64)) = true
  rw [dEs_lay, decide_eq_true (by have := dEs_depth ts; omega)]
  rfl
theorem shL (ts : Es) : SeqAt.shaped (.list (dEs ts)) = true := by
  show (PyData.canLayAll0 (dEs ts) && decide (PyData.depthAll (dEs ts) + 1 ≤ 64)) = true
  rw [dEs_lay, decide_eq_true (by have := dEs_depth ts; omega)]
  rfl
theorem eqv_es : ∀ us ts : Es, PyData.eqvAll (dEs us) (dEs ts) = decide (psOf us = psOf ts)
  | [], [] => rfl
  | [], e :: ts => rfl
  | e :: us, [] => rfl
  | e :: us, f :: ts => by
    have ih := eqv_es us ts
    show ((e.2.1 == f.2.1 && (e.2.2 == f.2.2 && true)) && PyData.eqvAll (dEs us) (dEs ts)) = decide (e.2 :: psOf us = f.2 :: psOf ts)
    rw [ih]
    obtain ⟨a, x, y⟩ := e
    obtain ⟨b, z, u⟩ := f
    by_cases h1 : x = z <;> by_cases h2 : y = u <;> by_cases h3 : psOf us = psOf ts <;> simp [h1, h2, h3]
/-! ### the object -/
theorem ks : ¬ (("state_count" : Str) = "edge_pairs") := by decide +kernel
theorem flds_put1 (n : Int) : putF "state_count" (.int n) [] = ([("state_count", V.int n)] : List (Str × V)) := rfl
theorem flds_put2 (n : Int) (t : Addr) : putF "edge_pairs" (.ref t) ([("state_count", V.int n)] : List (Str × V)) = flds n t := by
  show (if ("state_count" : Str) = "edge_pairs" then _ else (("state_count" : Str), V.int n) :: putF "edge_pairs" (.ref t) []) = flds n t
  rw [if_neg ks]
  rfl
theorem look_s (n : Int) (t : Addr) : (flds n t).lookup ("state_count" : Str) = some (.int n) := by
  unfold flds
  simp [List.lookup]
theorem look_e (n : Int) (t : Addr) : (flds n t).lookup ("edge_pairs" : Str) = some (.ref t) := by
  unfold flds
  have h : (("edge_pairs" : Str) == ("state_count" : Str)) = false := by decide +kernel
  simp [List.lookup, h]
theorem look_no (n : Int) (t : Addr) {m : Str} (h1 : (m == ("state_count" : Str)) = false) (h2 : (m == ("edge_pairs" : Str)) = false) : (flds n t).lookup m = none := by
  unfold flds
  simp [List.lookup, h1, h2]
theorem sq_or {K : PySem.W.Frag} {S : SqF} {H : Hp} {e : Addr} {xs : List V} (hS : S = SqL ∨ S = SqT) (h : S K H e xs) : SqL K H e xs ∨ SqT K H e xs := by
  rcases hS with rfl | rfl
  · exact .inl h
  · exact .inr h
def grText (n m : Int) : Str := ((((("Graph(" : Str) ++ (toString n : Str)) ++ (" states, " : Str)) ++ (toString m : Str)) ++ (" edges)" : Str))
def spLen (C : Addr) : Sp := fun vs H Q _ => ∃ (g : Addr) (n : Int) (us : Es), vs = [.ref g] ∧ GraphAt C H g n us ∧ Q (.int us.length) H
def spStates (C : Addr) : Sp := fun vs H Q _ => ∃ (g : Addr) (n : Int) (us : Es), vs = [.ref g] ∧ GraphAt C H g n us ∧ Q (.int n) H
def spRepr (C : Addr) : Sp := fun vs H Q _ => ∃ (g : Addr) (n : Int) (us : Es), vs = [.ref g] ∧ GraphAt C H g n us ∧ 0 ≤ n ∧ n < 1000 ∧ us.length < 1000 ∧ Q (.str (grText n us.length)) H
def spEdges (C : Addr) : Sp := fun vs H Q _ => ∃ (g : Addr) (n : Int) (us : Es), vs = [.ref g] ∧ GraphAt C H g n us ∧ ∀ p, H p = none → Q (.ref p) (upd H p (.lst (vsOf us)))
section
variable {P : Program} {w : World} {K : PySem.W.Frag} {mg : Str → Option Value} {base : Heap}
theorem scInit : FnScope ["self", "states", "edges", "source", "target"] ["self", "states", "edges"] (defScope sInit) := ⟨rfl, rfl, rfl, by decide +kernel, rfl, by decide +kernel, by decide +kernel⟩
set_option maxHeartbeats 8000000 in
theorem ok_init {f C : Addr} {mc : Value} {fd : FuncData} {k : Nat} (F : Fun K "__init__" "Graph.__init__" sInit f fd) (T : Bi mg) (G : GTxt K mg C mc) (cC : C8.Cal P w K mg base 1 "check_edges" (spCheck K) []) : FnOk P w K mg base CX0 (k + 2) f fd ["self", "states", "edges"] (spInit C) := by
  refine F.ok scInit (fun vs H Q E h => ?_) (fun cdv A outer s H vs Q E hr h => ?_)
  · obtain ⟨g, dx, e, n, ts, mk, rfl, _⟩ := h
    rfl
  · obtain ⟨g, dx, e, n, ts, mk, rfl, hg, hmk, he, ed, va, n1, n8, hl, q⟩ := h
    have ge : e ≠ g := by
      rintro rfl
      rw [hg] at he
      rcases hmk with rfl | rfl <;> cases he
    obtain ⟨S, hS, hq0⟩ : ∃ S : SqF, (S = SqL ∨ S = SqT) ∧ ∀ H', H' e = some (mk (vsOf ts)) → S K H' e (vsOf ts) := by
      rcases hmk with rfl | rfl
      · exact ⟨SqL, .inl rfl, fun H' h => SqL.of h⟩
      · exact ⟨SqT, .inr rfl, fun H' h => SqT.of h⟩
    have hq := hq0 H he
    have hk : 1 ≤ k + 1 := Nat.le_add_left 1 k
    refine ⟨_, pss_cons (ps_if (pt_cmpR op_lt (pv 1) pe_int (nomark _)) (pss_one ps_never) pss_nil)
      (pss_cons (ps_if (pt_cmpR op_gt (pv 1) (ClX.pe_cval (pe_glob (v := .ref C) (by rfl) G.mgG rfl)) (nomark _)) (pss_one ps_never) pss_nil)
      (pss_cons (ps_if (pt_cmpR op_gt (pe_callB call_len_seq (by rfl) T.len PySem.boot_len (pa_cons (pv 2) pa_nil)) (ClX.pe_cval (pe_glob (v := .ref C) (by rfl) G.mgG rfl)) (nomark _)) (pss_one ps_never) pss_nil)
      (pss_cons (ps_expr (C8.pe_c cC hr hk (by rfl) (pa_cons (pv 1) (pa_cons (pv 2) pa_nil))))
      (pss_cons (ps_fld (pv 0) (pv 1) rfl)
      (pss_one (ps_fld (pv 0) (pe_callTy call_tuple_of (by rfl) T.tuple (by decide +kernel) (pa_cons
        (pe_lc (own := [("source", 3), ("target", 4)]) (g := gTup K 2 (gCons (gName 3) (gCons (gName 4) gNil))) (tt := tYes) (te := tTup (tCons (tVar 3) (tCons (tVar 4) tNil))) rfl scInit.nd (pi_seqA (pv 2))
          (blkOk_by (N := ["self", "states", "edges", "source", "target"]) (sc := defScope sInit) (by decide +kernel))
          (fun _ _ _ _ _ => by exact pg_tup rfl (pgs_cons (pg_name (i := 3) scInit.nd rfl (Or.inl rfl)) (pgs_cons (pg_name (i := 4) scInit.nd rfl (Or.inl rfl)) pgs_nil)))
          (fun _ _ _ _ _ => pts_nil)
          (fun _ _ _ _ _ => by exact pe_tup (pa_cons (pv 3) (pa_cons (pv 4) pa_nil)))) pa_nil)) rfl)))))), ?_⟩
    obtain ⟨u8, hv8⟩ := G.v8
    obtain ⟨u24, hv24⟩ := G.v24
    refine ⟨_, rfl, _, _, rfl, rfl, _, rfl, if_f (decide_eq_false (by omega)) ?_⟩
    refine ⟨_, rfl, C, mc, _, _, rfl, G.rd, hv8, _, _, rfl, rfl, _, rfl, if_f (decide_eq_false (by omega)) ?_⟩
    refine ⟨_, rfl, e, _, rfl, sq_or hS hq, C, mc, _, _, rfl, G.rd, hv24, _, _, rfl, rfl, _, rfl, if_f (decide_eq_false (by rw [vsOf_len]; omega)) ?_⟩
    refine ⟨_, rfl, _, rfl, n, e, ts, S, rfl, hS, hq, ed, va, n1, by omega, by omega, fun H1 s1 => ?_⟩
    refine ⟨_, rfl, _, rfl, g, C, dx, [], rfl, s1 _ _ hg, G.cl, G.nS, (by show 0 < 1000; decide), ?_⟩
    rw [flds_put1]
    have k2 : KeepB g H (upd H1 g (.ins C dx [("state_count", V.int n)])) := KeepB.trans (.of_same s1) .updb
    have g2 : upd H1 g (.ins C dx [("state_count", V.int n)]) g = some (.ins C dx [("state_count", V.int n)]) := upd_same
    generalize upd H1 g (.ins C dx [("state_count", V.int n)]) = H2 at *
    refine ⟨_, rfl, e, vsOf ts, S, rfl, hS, hq0 _ (k2 _ _ ge he), fun J w => fun D hD => ?_⟩
    have nDg : D ≠ g := fun z => by
      rw [z, g2] at hD
      cases hD
    have nD : H D = none := k2.free g2 hD
    refine lc_it w (fun i H' => ∃ us : Es, psOf us = psOf (ts.take i) ∧ KeepB g H H' ∧ H' g = some (.ins C dx [("state_count", V.int n)]) ∧ H' D = some (.lst (vsOf us)) ∧ Ed H' us)
      ⟨[], rfl, k2.new hD, by rw [upd_ne nDg.symm]; exact g2, upd_same, .nil⟩ (fun i H' _ p => by obtain ⟨us, _, k3, _⟩ := p; exact hq0 _ (k3 _ _ ge he)) ?_ ?_
    · rintro i x H3 H' hi ⟨us, hus, k3, g3, eD, ed3⟩ ⟨rfl, gx⟩
      obtain ⟨ee, hee, rfl⟩ := vsOf_at gx
      have mem : ee ∈ ts := List.mem_of_getElem? hee
      have eg : ee.1 ≠ g := fun z => by
        have h := ed ee mem
        rw [z, hg] at h
        cases h
      refine ⟨ee.1, _, rfl, SqT.of (k3 _ _ eg (ed ee mem)), rfl, _, _, rfl, _, _, rfl, rfl, rfl, ?_⟩
      refine ⟨_, rfl, _, rfl, (by show 2 ≤ sizeLine; decide), fun t ht => ?_⟩
      have s4 := same_upd (o := .tup [.int ee.2.1, .int ee.2.2]) ht
      have tD : D ≠ t := ne_of_none eD ht
      refine ⟨_, s4 _ _ eD, ?_, us ++ [(t, ee.2)], ?_, ?_, ?_, ?_, ?_⟩
      · have h1 : us.length = (ts.take i).length := by
          have := congrArg List.length hus
          unfold psOf at this
          simpa using this
        rw [vsOf_len, h1, List.length_take]
        exact small1000 (by omega)
      · unfold psOf at hus ⊢
        rw [List.map_append, hus, List.take_add_one, hee, List.map_append]
        rfl
      · exact (k3.new ht).at nD
      · rw [upd_ne nDg.symm]
        exact s4 _ _ g3
      · rw [upd_same]
        unfold vsOf
        rw [List.map_append]
        rfl
      · refine Ed.app (fun x hx => ?_) (.one ?_)
        · have h := s4 _ _ (ed3 x hx)
          rw [upd_ne (fun z => ?_)]
          · exact h
          · rw [z, s4 _ _ eD] at h
            cases h
        · rw [upd_ne (Ne.symm tD), upd_same]
    · rintro H3 ⟨us, hus, k3, g3, eD, ed3⟩
      rw [vsOf_len, List.take_length] at hus
      refine ⟨D, _, rfl, .inl ⟨SqL.of eD, fun t ht => ?_⟩⟩
      have s4 := same_upd (o := .tup (vsOf us)) ht
      have tg : t ≠ g := (ne_of_none g3 ht).symm
      refine ⟨_, rfl, g, C, dx, _, rfl, s4 _ _ g3, G.cl, G.nE, (by show 1 < 1000; decide), ?_⟩
      rw [flds_put2]
      refine q us _ hus ((k3.trans (.of_same s4)).trans .updb) ⟨⟨dx, t, upd_same, by rw [upd_ne tg]; exact upd_same⟩, fun x hx => ?_⟩
      have h := s4 _ _ (ed3 x hx)
      rw [upd_ne (fun z => ?_)]
      · exact h
      · rw [z, s4 _ _ g3] at h
        cases h
/-! ### the small ones -/
theorem scLen : FnScope ["self"] ["self"] (defScope sLen) := ⟨rfl, rfl, rfl, by decide +kernel, rfl, by decide +kernel, by decide +kernel⟩
theorem ok_len {f C : Addr} {mc : Value} {fd : FuncData} {k : Nat} (F : Fun K "__len__" "Graph.__len__" sLen f fd) (T : Bi mg) (G : GTxt K mg C mc) : FnOk P w K mg base CX0 (k + 1) f fd ["self"] (spLen C) := by
  refine F.ok scLen (fun vs H Q E h => ?_) (fun cdv A outer s H vs Q E hr h => ?_)
  · obtain ⟨g, n, us, rfl, _⟩ := h
    rfl
  · obtain ⟨g, n, us, rfl, ⟨⟨dx, t, h1, h2⟩, ed⟩, q⟩ := h
    refine ⟨_, pss_one (ps_ret (pe_callB call_len_seq (by rfl) T.len PySem.boot_len (pa_cons (pe_fld (pv 0) rfl) pa_nil))), ?_⟩
    refine ⟨_, rfl, g, C, dx, _, _, rfl, h1, G.cl, G.nE, look_e _ _, t, _, rfl, .inr (SqT.of h2), ?_⟩
    rw [vsOf_len]
    exact q
theorem scStates : FnScope ["self"] ["self"] (defScope sStates) := ⟨rfl, rfl, rfl, by decide +kernel, rfl, by decide +kernel, by decide +kernel⟩
theorem ok_states {f C : Addr} {mc : Value} {fd : FuncData} {k : Nat} (F : Fun K "states" "Graph.states" sStates f fd) (G : GTxt K mg C mc) : FnOk P w K mg base CX0 (k + 1) f fd ["self"] (spStates C) := by
  refine F.ok scStates (fun vs H Q E h => ?_) (fun cdv A outer s H vs Q E hr h => ?_)
  · obtain ⟨g, n, us, rfl, _⟩ := h
    rfl
  · obtain ⟨g, n, us, rfl, ⟨⟨dx, t, h1, h2⟩, ed⟩, q⟩ := h
    exact ⟨_, pss_one (ps_ret (pe_fld (pv 0) rfl)), _, rfl, g, C, dx, _, _, rfl, h1, G.cl, G.nS, look_s _ _, q⟩
theorem scEdges : FnScope ["self"] ["self"] (defScope sEdges) := ⟨rfl, rfl, rfl, by decide +kernel, rfl, by decide +kernel, by decide +kernel⟩
theorem ok_edges {f C : Addr} {mc : Value} {fd : FuncData} {k : Nat} (F : Fun K "edges" "Graph.edges" sEdges f fd) (T : Bi mg) (G : GTxt K mg C mc) : FnOk P w K mg base CX0 (k + 1) f fd ["self"] (spEdges C) := by
  refine F.ok scEdges (fun vs H Q E h => ?_) (fun cdv A outer s H vs Q E hr h => ?_)
  · obtain ⟨g, n, us, rfl, _⟩ := h
    rfl
  · obtain ⟨g, n, us, rfl, ⟨⟨dx, t, h1, h2⟩, ed⟩, q⟩ := h
    exact ⟨_, pss_one (ps_ret (pe_callTy call_list_of (by rfl) T.list (by decide +kernel) (pa_cons (pe_fld (pv 0) rfl) pa_nil))), _, rfl, g, C, dx, _, _, rfl, h1, G.cl, G.nE, look_e _ _, t, _, rfl, .inr (SqT.of h2), q⟩
theorem scRepr : FnScope ["self"] ["self"] (defScope sRepr) := ⟨rfl, rfl, rfl, by decide +kernel, rfl, by decide +kernel, by decide +kernel⟩
theorem log_small {n : Int} (h0 : 0 ≤ n) (h1 : n < 1000) : n.natAbs.log2 < 1920 := by
  have h : n.natAbs < 2 ^ 10 := by omega
  by_cases hz : n.natAbs = 0
  · rw [hz]
    decide
  · have := (Nat.log2_lt hz).mpr h
    omega
theorem len_small {n : Int} (h0 : 0 ≤ n) (h1 : n < 1000) : (Str.ofString (toString n)).length ≤ 3 := PyProof.Rows.toString_length_le h0 (by decide) (by omega)
theorem len_app (x y : Str) : (x ++ y).length = x.length + y.length := by
  show (x.cps ++ y.cps).size = x.cps.size + y.cps.size
  exact Array.size_append
theorem ok_repr {f C : Addr} {mc : Value} {fd : FuncData} {k : Nat} (F : Fun K "__repr__" "Graph.__repr__" sRepr f fd) (T : Bi mg) (G : GTxt K mg C mc) : FnOk P w K mg base CX0 (k + 1) f fd ["self"] (spRepr C) := by
  refine F.ok scRepr (fun vs H Q E h => ?_) (fun cdv A outer s H vs Q E hr h => ?_)
  · obtain ⟨g, n, us, rfl, _⟩ := h
    rfl
  · obtain ⟨g, n, us, rfl, ⟨⟨dx, t, h1, h2⟩, ed⟩, n0, n1, hl, q⟩ := h
    refine ⟨_, pss_one (ps_ret (pe_joined (.cons pe_str (.cons (pe_fmt (pe_fld (pv 0) rfl)) (.cons pe_str (.cons (pe_fmt (pe_callB call_len_seq (by rfl) T.len PySem.boot_len (pa_cons (pe_fld (pv 0) rfl) pa_nil))) (.cons pe_str .nil))))))), ?_⟩
    have hsz : ∀ m : Nat, m ≤ 1000 → m ≤ sizeLine := fun m h => Nat.le_of_lt (small1000 h)
    have l0 : (0 : Int) ≤ (us.length : Int) := by omega
    have l1 : (us.length : Int) < 1000 := by omega
    have a1 := len_small n0 n1
    have a2 := len_small l0 l1
    have z1 : (Str.ofString "Graph(").length = 6 := by decide +kernel
    have z2 : (Str.ofString " states, ").length = 9 := by decide +kernel
    have z3 : (Str.ofString " edges)").length = 7 := by decide +kernel
    have z0 : Str.empty ++ Str.ofString "Graph(" = Str.ofString "Graph(" := by decide +kernel
    refine ⟨_, rfl, hsz _ (by rw [z0]; omega), _, rfl, g, C, dx, _, _, rfl, h1, G.cl, G.nS, look_s _ _, .inr ⟨n, rfl, log_small n0 n1, _, rfl, hsz _ ?_, ?_⟩⟩
    · rw [z0, len_app]; omega
    refine ⟨_, rfl, hsz _ ?_, ?_⟩
    · rw [z0, len_app, len_app]; omega
    refine ⟨_, rfl, g, C, dx, _, _, rfl, h1, G.cl, G.nE, look_e _ _, t, _, rfl, .inr (SqT.of h2), .inr ⟨_, rfl, ?_, _, rfl, hsz _ ?_, ?_⟩⟩
    · rw [vsOf_len]; exact log_small l0 l1
    · rw [vsOf_len, z0, len_app, len_app, len_app]; omega
    refine ⟨_, rfl, hsz _ ?_, ?_⟩
    · rw [vsOf_len, z0, len_app, len_app, len_app, len_app]; omega
    rw [vsOf_len, z0]
    exact q
end
end Lw
set_option Elab.async false
set_option linter.all false
set_option maxRecDepth 100000
namespace Lw
open PySem L2
/-- what isinstance asks of the class, and that the built-in kinds are not of it -/
structure GIs (K : PySem.W.Frag) (C : Addr) : Prop where
  ins : C8.InsC K C
  non : PySem.W.kitOne K (.type "NoneType") (.ref C) = some false
  int : PySem.W.kitOne K (.type "int") (.ref C) = some false
  lst : PySem.W.kitOne K (.type "list") (.ref C) = some false
  tup : PySem.W.kitOne K (.type "tuple") (.ref C) = some false
def spGEq (K : PySem.W.Frag) (C : Addr) : Sp := fun vs H Q _ => ∃ (g : Addr) (n : Int) (us : Es) (y : V), vs = [.ref g, y] ∧ GraphAt C H g n us ∧
  ((∃ (g2 : Addr) (n2 : Int) (us2 : Es), y = .ref g2 ∧ GraphAt C H g2 n2 us2 ∧ Q (.bl (decide (n = n2) && decide (psOf us = psOf us2))) H) ∨ ((∃ t, TyX K H y t ∧ PySem.W.kitOne K t (.ref C) = some false) ∧ Q (.bl false) H))
theorem spGEq_mono {K : PySem.W.Frag} {C : Addr} (vs : List V) (H : Hp) (Q Q' : VK) (E : XK) (h : ∀ v H', Q v H' → Q' v H') (s : spGEq K C vs H Q E) : spGEq K C vs H Q' E := by
  obtain ⟨g, n, us, y, e, G, s⟩ := s
  rcases s with ⟨g2, n2, us2, e2, G2, q⟩ | ⟨t, q⟩
  · exact ⟨g, n, us, y, e, G, .inl ⟨g2, n2, us2, e2, G2, h _ _ q⟩⟩
  · exact ⟨g, n, us, y, e, G, .inr ⟨t, h _ _ q⟩⟩
theorem GraphAt.same {C : Addr} {H H' : Hp} {g : Addr} {n : Int} {us : Es} (h : GraphAt C H g n us) (s : Same H H') : GraphAt C H' g n us := by
  obtain ⟨⟨dx, t, h1, h2⟩, ed⟩ := h
  exact ⟨⟨dx, t, s _ _ h1, s _ _ h2⟩, ed.same s⟩
theorem PlanAt.same {H H' : Hp} {p q : Addr} {n : Int} {ts : Es} (h : PlanAt H p q n ts) (s : Same H H') : PlanAt H' p q n ts := ⟨s _ _ h.tp, s _ _ h.ls, h.ed.same s, h.va, h.n1⟩
section
variable {P : Program} {w : World} {K : PySem.W.Frag} {mg : Str → Option Value} {base : Heap}
theorem scEq : FnScope ["self", "other"] ["self", "other"] (defScope sEq) := ⟨rfl, rfl, rfl, by decide +kernel, rfl, by decide +kernel, by decide +kernel⟩
set_option maxHeartbeats 4000000 in
theorem ok_eq {f C : Addr} {mc : Value} {fd : FuncData} {k : Nat} (F : Fun K "__eq__" "Graph.__eq__" sEq f fd) (T : Bi mg) (G : GTxt K mg C mc) (S : GIs K C) : FnOk P w K mg base CX0 (k + 1) f fd ["self", "other"] (spGEq K C) := by
  refine F.ok scEq (fun vs H Q E h => ?_) (fun cdv A outer s H vs Q E hr h => ?_)
  · obtain ⟨g, n, us, y, rfl, _⟩ := h
    rfl
  · obtain ⟨g, n, us, y, rfl, ⟨⟨dx, t, h1, h2⟩, ed⟩, hh⟩ := h
    refine ⟨_, pss_one (ps_ret (pe_and (pe_callB call_isi (by rfl) T.isi (by decide +kernel) (pa_cons (pv 1) (pa_cons (pe_glob (v := .ref C) (by rfl) G.mgG rfl) pa_nil)))
      (pe_and (pe_cmpR op_eq (pe_fld (pv 0) rfl) (pe_fld (pv 1) rfl) (nomark _)) (pe_one (pe_cmpR (op_eqD hr.units) (pe_fld (pv 0) rfl) (pe_fld (pv 1) rfl) (nomark _)))))), ?_⟩
    rcases hh with ⟨g2, n2, us2, rfl, ⟨⟨dx2, t2, h12, h22⟩, ed2⟩, q⟩ | ⟨⟨ty, hty, hk⟩, q⟩
    · refine ⟨_, rfl, _, _, _, _, true, rfl, .own _, .base (.ins h12 S.ins.cl S.ins.ha S.ins.hn S.ins.htk S.ins.hm), S.ins.me, true, rfl, iteT ?_⟩
      refine ⟨_, rfl, g, C, dx, _, _, rfl, h1, G.cl, G.nS, look_s _ _, _, rfl, g2, C, dx2, _, _, rfl, h12, G.cl, G.nS, look_s _ _, rfl, _, rfl, ?_⟩
      by_cases hn : n = n2
      · refine if_t (decide_eq_true (by rw [hn])) ?_
        refine ⟨_, rfl, g, C, dx, _, _, rfl, h1, G.cl, G.nE, look_e _ _, _, rfl, g2, C, dx2, _, _, rfl, h12, G.cl, G.nE, look_e _ _, _, _, .tup (SqT.of h2) (dEs_at ed), .tup (SqT.of h22) (dEs_at ed2), shT _, shT _, ?_⟩
        rw [decide_eq_true hn, Bool.true_and, ← eqv_es] at q
        exact q
      · refine if_f (decide_eq_false (fun z => hn (by injection z))) ?_
        rw [decide_eq_false hn, Bool.false_and] at q
        exact q
    · exact ⟨_, rfl, _, _, _, _, false, rfl, .own _, hty, hk, false, rfl, iteF q⟩
end
end Lw
set_option Elab.async false
set_option linter.all false
set_option maxRecDepth 100000
namespace Lw
open PySem L2
abbrev sGraph : Stmt := top 70
def spGraph (C : Addr) : Sp := fun vs H Q _ => ∃ (p q : Addr) (n : Int) (ts : Es), vs = [.ref p] ∧ PlanAt H p q n ts ∧ n ≤ 8 ∧ ts.length ≤ 24 ∧ ∀ (g : Addr) (us : Es) (H' : Hp), psOf us = psOf ts → Same H H' → H g = none → GraphAt C H' g n us → Q (.ref g) H'
section
variable {P : Program} {w : World} {K : PySem.W.Frag} {mg : Str → Option Value} {base : Heap}
theorem scGraph : FnScope ["_law_plan_here"] ["_law_plan_here"] (defScope sGraph) := ⟨rfl, rfl, rfl, by decide +kernel, rfl, by decide +kernel, by decide +kernel⟩
theorem at0t {x y : V} : atI [x, y] 0 = some x := at0
set_option maxHeartbeats 4000000 in
theorem ok_graph {f C : Addr} {fd : FuncData} {k : Nat} (F : Fun K "_law_graph" "_law_graph" sGraph f fd) (T : Bi mg) (cG : C8.Mak P w K mg base 2 "Graph" C (spInit C) []) : FnOk P w K mg base CX0 (k + 4) f fd ["_law_plan_here"] (spGraph C) := by
  refine F.ok scGraph (fun vs H Q E h => ?_) (fun cdv A outer s H vs Q E hr h => ?_)
  · obtain ⟨p, q, n, ts, rfl, _⟩ := h
    rfl
  · obtain ⟨p, q0, n, ts, rfl, PA, n8, l24, q⟩ := h
    refine ⟨_, pss_one (ps_ret (C8.pe_mk cG hr (by omega) (by rfl) (pa_cons (pe_ix ix_tup (pv 0) pe_int (fun _ _ => rfl)) (pa_cons (pe_callTy call_list_of (by rfl) T.list (by decide +kernel) (pa_cons (pe_ix ix_tup (pv 0) pe_int (fun _ _ => rfl)) pa_nil)) pa_nil)))), ?_⟩
    refine ⟨_, rfl, p, _, _, _, rfl, rfl, SqT.of PA.tp, at0, _, rfl, p, _, _, _, rfl, rfl, SqT.of PA.tp, at1, q0, _, rfl, .inl (SqL.of PA.ls), fun e he => ?_⟩
    have s1 := same_upd (o := .lst (vsOf ts)) he
    intro g dx hg hdx nex
    have s2 := s1.trans ((same_upd (o := .own g) hdx))
    have hg2 : upd (upd H e (.lst (vsOf ts))) dx (.own g) g = none := by
      rw [upd_ne (Ne.symm nex)]
      exact hg
    have s3 := s2.trans (same_upd (o := .ins C dx []) hg2)
    have ng : H g = none := s1.free hg
    have e3 : upd (upd (upd H e (.lst (vsOf ts))) dx (.own g)) g (.ins C dx []) e = some (.lst (vsOf ts)) := same_upd hg2 _ _ (same_upd hdx _ _ upd_same)
    refine ⟨g, dx, e, n, ts, HO.lst, rfl, upd_same, .inl rfl, e3, PA.ed.same s3, PA.va, PA.n1, n8, l24, fun us H' hus kp G => ⟨rfl, ?_⟩⟩
    exact q g us H' hus (fun c o ec => kp c o (ne_of_none ec ng) (s3 c o ec)) ng G
end
end Lw
set_option Elab.async false
set_option linter.all false
set_option maxRecDepth 100000
namespace Lw
open PySem L2
theorem psOf_at {us : Es} {i : Nat} {e : Addr × Int × Int} (h : us[i]? = some e) : (psOf us)[i]? = some e.2 := by
  unfold psOf
  rw [List.getElem?_map, h]
  rfl
abbrev sCounts : Stmt := inClass (top 43) 13
/-! ### xs[i] read for xs[i] += e -/
theorem get_list {X : Cx} : PGet X (fun o y H Q => ∃ (p : Addr) (xs : List V) (i : Int) (v : V), o = .ref p ∧ y = .int i ∧ SqL X.K H p xs ∧ 0 ≤ i ∧ xs[i.toNat]? = some v ∧ Q v H) := by
  intro pins s σ H o y ov iv Q I ro ri h
  obtain ⟨p, xs, i, v, rfl, rfl, hq, h0, hv, q⟩ := h
  cases ro
  obtain ⟨t, rfl⟩ := ri
  obtain ⟨its, r, pl, hz⟩ := I.list hq
  obtain ⟨u, hu, ru⟩ := r.get hv
  have hl := r.length
  have hn := line63
  have hi : i.toNat < xs.length := (List.getElem?_eq_some_iff.mp hv).1
  refine wpAny_getItem_list pl.isList h0 (by omega) (by simpa using hu) ⟨v, H, I, ru, q⟩
/-! ### numbers of equal pairs -/
def cnt (ps : List (Int × Int)) (a b : Nat) : Int := ((ps.filter fun p => decide (p = ((a : Int), (b : Int)))).length : Int)
theorem cnt_snoc (ps : List (Int × Int)) (p : Int × Int) (a b : Nat) : cnt (ps ++ [p]) a b = cnt ps a b + (if p = ((a : Int), (b : Int)) then 1 else 0) := by
  unfold cnt
  rw [List.filter_append, List.length_append]
  by_cases h : p = ((a : Int), (b : Int))
  · rw [if_pos h, List.filter_cons_of_pos (by rw [decide_eq_true h])]
    rfl
  · rw [if_neg h, List.filter_cons_of_neg (by rw [decide_eq_false h]; exact Bool.false_ne_true)]
    simp
def cntRow (ps : List (Int × Int)) (m a : Nat) : List V := (List.range m).map fun b => V.int (cnt ps a b)
theorem cntRow_len (ps : List (Int × Int)) (m a : Nat) : (cntRow ps m a).length = m := by
  unfold cntRow
  simp
theorem cntRow_at (ps : List (Int × Int)) {m a b : Nat} (h : b < m) : (cntRow ps m a)[b]? = some (V.int (cnt ps a b)) := by
  unfold cntRow
  rw [List.getElem?_map, List.getElem?_range h]
  rfl
theorem cntRow_set (ps : List (Int × Int)) {m a t : Nat} (h : t < m) : (cntRow ps m a).set t (V.int (cnt ps a t + 1)) = cntRow (ps ++ [((a : Int), (t : Int))]) m a := by
  apply List.ext_getElem?
  intro b
  by_cases hb : b < m
  · rw [cntRow_at _ hb, cnt_snoc]
    by_cases e : t = b
    · subst e
      rw [List.getElem?_set_self (by rw [cntRow_len]; exact h), if_pos rfl]
    · rw [List.getElem?_set_ne e, cntRow_at _ hb, if_neg (fun z => e (by have h2 : (t : Int) = (b : Int) := congrArg Prod.snd z; omega)), Int.add_zero]
  · rw [List.getElem?_eq_none (by rw [List.length_set, cntRow_len]; omega), List.getElem?_eq_none (by rw [cntRow_len]; omega)]
theorem cntRow_other (ps : List (Int × Int)) {m a s t : Nat} (h : a ≠ s) : cntRow (ps ++ [((s : Int), (t : Int))]) m a = cntRow ps m a := by
  unfold cntRow
  refine List.map_congr_left fun b _ => ?_
  rw [cnt_snoc, if_neg (fun z => h (by have h2 : (s : Int) = (a : Int) := congrArg Prod.fst z; omega)), Int.add_zero]
theorem cntRow_nil (m a : Nat) : cntRow [] m a = List.replicate m (V.int 0) := by
  unfold cntRow
  rw [show (fun b => V.int (cnt [] a b)) = fun _ => V.int 0 from rfl, List.map_const', List.length_range]
theorem nodup_at {rs : List Addr} (nd : rs.Nodup) {a b : Nat} {r : Addr} (h1 : rs[a]? = some r) (h2 : rs[b]? = some r) : a = b := by
  obtain ⟨l1, e1⟩ := List.getElem?_eq_some_iff.mp h1
  obtain ⟨l2, e2⟩ := List.getElem?_eq_some_iff.mp h2
  rcases Nat.lt_trichotomy a b with h | h | h
  · exact absurd (e1.trans e2.symm) (List.pairwise_iff_getElem.mp nd a b l1 l2 h)
  · exact h
  · exact absurd (e2.trans e1.symm) (List.pairwise_iff_getElem.mp nd b a l2 l1 h)
theorem ixN_of {n : Nat} {i : Int} (h0 : 0 ≤ i) (h : i.toNat < n) : ixN n i = some i.toNat := by
  unfold ixN
  rw [if_pos h0, if_pos (by omega)]
structure CntAt (H : Hp) (p : Addr) (rs : List Addr) (m : Nat) (ps : List (Int × Int)) : Prop where
  ls : H p = some (.lst (rs.map V.ref))
  len : rs.length = m
  row : ∀ (a : Nat) (r : Addr), rs[a]? = some r → H r = some (.lst (cntRow ps m a))
theorem CntAt.same {H H' : Hp} {p : Addr} {rs : List Addr} {m : Nat} {ps : List (Int × Int)} (h : CntAt H p rs m ps) (s : Same H H') : CntAt H' p rs m ps := ⟨s _ _ h.ls, h.len, fun a r e => s _ _ (h.row a r e)⟩
def spCounts (C : Addr) : Sp := fun vs H Q _ => ∃ (g : Addr) (n : Int) (us : Es), vs = [.ref g] ∧ GraphAt C H g n us ∧ 0 ≤ n ∧ n ≤ 100 ∧ us.length ≤ 1000 ∧ (∀ e ∈ us, 0 ≤ e.2.1 ∧ e.2.1 < n ∧ 0 ≤ e.2.2 ∧ e.2.2 < n) ∧
  ∀ p rs H', Same H H' → H p = none → (∀ r ∈ rs, H r = none) → CntAt H' p rs n.toNat (psOf us) → Q (.ref p) H'
section
variable {P : Program} {w : World} {K : PySem.W.Frag} {mg : Str → Option Value} {base : Heap}
theorem scCounts : FnScope ["self", "table", "source", "target"] ["self"] (defScope sCounts) := ⟨rfl, rfl, rfl, by decide +kernel, rfl, by decide +kernel, by decide +kernel⟩
set_option maxHeartbeats 8000000 in
theorem ok_counts {f C : Addr} {mc : Value} {fd : FuncData} {k : Nat} (F : Fun K "counts" "Graph.counts" sCounts f fd) (T : Bi mg) (G : GTxt K mg C mc) : FnOk P w K mg base CX0 (k + 1) f fd ["self"] (spCounts C) := by
  refine F.ok scCounts (fun vs H Q E h => ?_) (fun cdv A outer s H vs Q E hr h => ?_)
  · obtain ⟨g, n, us, rfl, _⟩ := h
    rfl
  · obtain ⟨g, n, us, rfl, ⟨⟨dx, t, h1, h2⟩, ed⟩, n0, n1, hl, rg, q⟩ := h
    refine ⟨_, pss_cons (ps_setLc (i := 1) (own := [("source", 2)]) (g := gName 2) (tt := tYes) (te := tOp rRep (tLst (tCons (tC (.int 0)) tNil)) (tFld K (tVar 0) "state_count")) rfl scCounts.nd rfl rfl (sw_true rfl rfl rfl (by decide +kernel))
          (pi_range1 (by rfl) T.range (pa_cons (pe_fld (pv 0) rfl) pa_nil))
          (blkOk_by (N := ["self", "table", "source", "target"]) (sc := defScope sCounts) (by decide +kernel))
          (fun _ _ _ _ _ => by exact pg_name (i := 2) scCounts.nd rfl (Or.inl rfl))
          (fun _ _ _ _ _ => pts_nil)
          (fun _ _ _ _ _ => by exact pe_op op_rep (pe_lst (pa_cons pe_int pa_nil)) (pe_fld (pv 0) rfl)))
      (pss_cons (ps_for PassesOwn.never rfl (pi_seqA (pe_fld (pv 0) rfl)) (pg_tup rfl (pgs_cons (pg_name (i := 2) scCounts.nd rfl (.inl rfl)) (pgs_cons (pg_name (i := 3) scCounts.nd rfl (.inl rfl)) pgs_nil)))
        (pss_one (ps_augS (pe_ix ix_list (pv 1) (pv 2) (fun _ _ => rfl)) (pv 3) get_list pe_int ip_add set_list)))
      (pss_one (ps_ret (pv 1)))), ?_⟩
    refine ⟨_, rfl, g, C, dx, _, _, rfl, h1, G.cl, G.nS, look_s _ _, n, rfl, by omega, by omega, fun D hD => ?_⟩
    refine lc_it (walk_range (lo := 0) (n := n.toNat)) (fun i H' => ∃ rs : List Addr, rs.length = i ∧ rs.Nodup ∧ Same H H' ∧ H' D = some (.lst (rs.map V.ref)) ∧ ∀ r ∈ rs, H r = none ∧ r ≠ D ∧ H' r = some (.lst (List.replicate n.toNat (V.int 0))))
      ⟨[], rfl, List.nodup_nil, same_upd hD, upd_same, fun r hr => by cases hr⟩ (fun _ _ _ _ => True.intro) ?_ ?_
    · rintro i x H1 H' hi ⟨rs, hrs, nd, sm, eD, hh⟩ ⟨rfl, rfl⟩
      refine ⟨rfl, ?_⟩
      refine ⟨(by show 1 ≤ sizeLine; decide), fun l hl => ?_⟩
      have s1 := same_upd (o := .lst [.int 0]) hl
      refine ⟨_, rfl, g, C, dx, _, _, rfl, s1 _ _ (sm _ _ h1), G.cl, G.nS, look_s _ _, l, n, _, rfl, rfl, upd_same, by omega, by omega, ?_, fun p hp => ?_⟩
      · show 1 * n.toNat ≤ sizeLine
        exact Nat.le_of_lt (small1000 (by omega))
      have s2 := s1.trans (same_upd (o := .lst (List.replicate n.toNat [V.int 0]).flatten) hp)
      have e0 : (List.replicate n.toNat [V.int 0]).flatten = List.replicate n.toNat (V.int 0) := by
        rw [List.flatten_replicate_singleton]
      have eD2 := s2 _ _ eD
      have pD : p ≠ D := fun z => by
        rw [z, s1 _ _ eD] at hp
        cases hp
      refine ⟨_, eD2, ?_, rs ++ [p], by simp [hrs], ?_, ?_, ?_, ?_⟩
      · rw [List.length_map]
        exact small1000 (by omega)
      · rw [List.nodup_append]
        refine ⟨nd, (by simp), fun a ha b hb => ?_⟩
        rw [List.mem_singleton.mp hb]
        intro z
        have := s1 _ _ (hh a ha).2.2
        rw [z, hp] at this
        cases this
      · intro c o ec
        rw [upd_ne (ne_of_none ec hD)]
        exact s2 _ _ (sm _ _ ec)
      · rw [upd_same, List.map_append]
        rfl
      · intro r hr
        rcases List.mem_append.mp hr with hr | hr
        · obtain ⟨a1, a2, a3⟩ := hh r hr
          exact ⟨a1, a2, by rw [upd_ne a2]; exact s2 _ _ a3⟩
        · rw [List.mem_singleton.mp hr]
          refine ⟨(sm.trans s1).free hp, pD, ?_⟩
          rw [upd_ne pD, upd_same, e0]
    · rintro H1 ⟨rs, hrs, nd, sm, eD, hh⟩
      refine ⟨_, rfl, g, C, dx, _, _, rfl, sm _ _ h1, G.cl, G.nE, look_e _ _, t, vsOf us, SqT, rfl, .inr rfl, SqT.of (sm _ _ h2), fun J w => ?_⟩
      have start : CntAt H1 D rs n.toNat ((psOf us).take 0) := ⟨eD, hrs, fun a r e => by
        rw [List.take_zero, cntRow_nil]
        exact (hh r (List.mem_of_getElem? e)).2.2⟩
      refine for_it w (fun i σ H' => ∃ v2 v3 : Option V, σ = [some (.ref g), some (.ref D), v2, v3] ∧ Same H H' ∧ CntAt H' D rs n.toNat ((psOf us).take i)) ⟨_, _, rfl, sm, start⟩ (fun i σ H' _ p => by obtain ⟨_, _, _, s, _⟩ := p; exact SqT.of (s _ _ h2)) ?_ ?_
      · rintro i x σ H2 H' hi ⟨v2, v3, rfl, sm2, ct⟩ ⟨rfl, gx⟩
        obtain ⟨e, he, rfl⟩ := vsOf_at gx
        have mem : e ∈ us := List.mem_of_getElem? he
        obtain ⟨r1, r2, r3, r4⟩ := rg e mem
        have ha : e.2.1.toNat < rs.length := by rw [ct.len]; omega
        obtain ⟨ra, hrr⟩ : ∃ ra, rs[e.2.1.toNat]? = some ra := ⟨_, List.getElem?_eq_getElem ha⟩
        have hmem : ra ∈ rs := List.mem_of_getElem? hrr
        have ea : e.2.1 = ((e.2.1.toNat : Nat) : Int) := (Int.toNat_of_nonneg r1).symm
        have eb : e.2.2 = ((e.2.2.toNat : Nat) : Int) := (Int.toNat_of_nonneg r3).symm
        have hb : e.2.2.toNat < n.toNat := by omega
        have ro := ct.row _ _ hrr
        refine ⟨e.1, _, rfl, SqT.of (sm2 _ _ (ed e mem)), rfl, _, _, rfl, _, _, rfl, rfl, ?_⟩
        refine ⟨_, rfl, _, rfl, D, _, _, .ref ra, rfl, rfl, SqL.of ct.ls, ?_, ?_⟩
        · rw [ea]
          refine atI_nat ?_
          rw [List.getElem?_map, hrr]
          rfl
        refine ⟨_, rfl, _, _, _, _, rfl, rfl, SqL.of ro, r3, cntRow_at _ hb, _, _, rfl, rfl, _, _, _, e.2.2.toNat, rfl, rfl, ro, ?_, ?_⟩
        · rw [cntRow_len]
          exact ixN_of r3 hb
        refine ⟨_, _, rfl, ?_, ?_⟩
        · intro c o ec
          rw [upd_ne (fun z => ?_)]
          · exact sm2 _ _ ec
          · rw [z, (hh _ hmem).1] at ec
            cases ec
        · have et : (psOf us).take (i + 1) = (psOf us).take i ++ [((e.2.1.toNat : Int), (e.2.2.toNat : Int))] := by
            rw [List.take_add_one, psOf_at he, ← ea, ← eb]
            rfl
          have nD : ra ≠ D := (hh _ hmem).2.1
          refine ⟨by rw [upd_ne nD.symm]; exact ct.ls, ct.len, fun a r hr => ?_⟩
          rw [et]
          by_cases hs : a = e.2.1.toNat
          · subst hs
            have : r = ra := by
              rw [hrr] at hr
              exact (Option.some.inj hr).symm
            subst this
            rw [upd_same, cntRow_set _ hb]
          · have hne : r ≠ ra := fun z => by
              rw [z] at hr
              exact hs (nodup_at nd hr hrr)
            rw [upd_ne hne, cntRow_other _ hs]
            exact ct.row a r hr
      · rintro σ H2 ⟨v2, v3, rfl, sm2, ct⟩
        rw [vsOf_len, show us.length = (psOf us).length by unfold psOf; rw [List.length_map], List.take_length] at ct
        exact ⟨_, rfl, q D rs H2 sm2 hD (fun r hr => (hh r hr).1) ct⟩
end
end Lw
set_option Elab.async false
set_option linter.all false
set_option maxRecDepth 100000
/-! plans as pairs: which states can be merged, merges, splits, renamings, the least plan -/
namespace Lw
abbrev Ps := List (Int × Int)
theorem psL_len (us : Es) : (psOf us).length = us.length := by
  unfold psOf
  rw [List.length_map]
theorem cnt_pos {ps : Ps} {a b : Nat} : 0 < cnt ps a b ↔ ((a : Int), (b : Int)) ∈ ps := by
  unfold cnt
  constructor
  · intro h
    have h2 : 0 < (ps.filter fun p => decide (p = ((a : Int), (b : Int)))).length := by omega
    obtain ⟨p, hp⟩ := List.exists_mem_of_length_pos h2
    rw [List.mem_filter] at hp
    rw [← of_decide_eq_true hp.2]
    exact hp.1
  · intro h
    have h2 : 0 < (ps.filter fun p => decide (p = ((a : Int), (b : Int)))).length := List.length_pos_of_mem (List.mem_filter.mpr ⟨h, decide_eq_true rfl⟩)
    omega
/-- every pair within n states, every state a source -/
structure VaP (n : Int) (ps : Ps) : Prop where
  rg : ∀ p ∈ ps, 0 ≤ p.1 ∧ p.1 < n ∧ 0 ≤ p.2 ∧ p.2 < n
  sr : ∀ k : Int, 0 ≤ k → k < n → ∃ p ∈ ps, p.1 = k
theorem Valid.ps {n : Int} {ts : Es} (h : Valid n ts) : VaP n (psOf ts) := by
  refine ⟨fun p hp => ?_, fun k k0 k1 => ?_⟩
  · obtain ⟨e, he, rfl⟩ := List.mem_map.mp hp
    exact h.rg e he
  · obtain ⟨e, he, ek⟩ := h.sr k k0 k1
    exact ⟨e.2, List.mem_map.mpr ⟨e, he, rfl⟩, ek⟩
theorem VaP.es {n : Int} {ts : Es} (h : VaP n (psOf ts)) : Valid n ts := by
  refine ⟨fun e he => h.rg e.2 (List.mem_map.mpr ⟨e, he, rfl⟩), fun k k0 k1 => ?_⟩
  obtain ⟨p, hp, ek⟩ := h.sr k k0 k1
  obtain ⟨e, he, rfl⟩ := List.mem_map.mp hp
  exact ⟨e, he, ek⟩
/-! ### states that can be merged -/
def colL (n : Nat) (ps : Ps) (i : Nat) : List Int := (List.range n).map fun r => cnt ps r i
theorem colL_len (n : Nat) (ps : Ps) (i : Nat) : (colL n ps i).length = n := by
  unfold colL
  simp
theorem colL_at {n : Nat} (ps : Ps) (i : Nat) {r : Nat} (h : r < n) : (colL n ps i)[r]? = some (cnt ps r i) := by
  unfold colL
  rw [List.getElem?_map, List.getElem?_range h]
  rfl
theorem colL_take {n : Nat} (ps : Ps) (i : Nat) {r : Nat} (h : r < n) : (colL n ps i).take (r + 1) = (colL n ps i).take r ++ [cnt ps r i] := by
  rw [List.take_add_one, colL_at ps i h]
  rfl
theorem colL_eq {n : Nat} {ps : Ps} {i j r : Nat} (h : colL n ps i = colL n ps j) (hr : r < n) : cnt ps r i = cnt ps r j := by
  have := colL_at ps i hr
  rw [h, colL_at ps j hr] at this
  exact (Option.some.inj this).symm
def pickd (n : Nat) (ps : Ps) (i d : Nat) : List (Int × Int) := if colL n ps i = colL n ps (i + 1 + d) then [((i : Int), ((i + 1 + d : Nat) : Int))] else []
def mrow (n : Nat) (ps : Ps) (i m : Nat) : Ps := (List.range m).flatMap (pickd n ps i)
theorem mrow_succ (n : Nat) (ps : Ps) (i m : Nat) : mrow n ps i (m + 1) = mrow n ps i m ++ pickd n ps i m := by
  unfold mrow
  rw [List.range_succ, List.flatMap_append]
  simp
def mrgsTo (n : Nat) (ps : Ps) (m : Nat) : Ps := (List.range m).flatMap fun i => mrow n ps i (n - (i + 1))
theorem mrgsTo_succ (n : Nat) (ps : Ps) (m : Nat) : mrgsTo n ps (m + 1) = mrgsTo n ps m ++ mrow n ps m (n - (m + 1)) := by
  unfold mrgsTo
  rw [List.range_succ, List.flatMap_append]
  simp
def mrgs (n : Nat) (ps : Ps) : Ps := mrgsTo n ps n
theorem pickd_len (n : Nat) (ps : Ps) (i d : Nat) : (pickd n ps i d).length ≤ 1 := by
  unfold pickd
  split <;> simp
theorem mrow_len (n : Nat) (ps : Ps) (i m : Nat) : (mrow n ps i m).length ≤ m := by
  induction m with
  | zero => exact Nat.le_refl _
  | succ m ih =>
    rw [mrow_succ, List.length_append]
    have := pickd_len n ps i m
    omega
theorem mrgsTo_len (n : Nat) (ps : Ps) (m : Nat) : (mrgsTo n ps m).length ≤ m * n := by
  induction m with
  | zero => exact Nat.zero_le _
  | succ m ih =>
    rw [mrgsTo_succ, List.length_append, Nat.succ_mul]
    have := mrow_len n ps m (n - (m + 1))
    omega
theorem mrgs_mem {n : Nat} {ps : Ps} {p : Int × Int} (h : p ∈ mrgs n ps) : ∃ i j : Nat, p = ((i : Int), (j : Int)) ∧ i < j ∧ j < n ∧ colL n ps i = colL n ps j := by
  unfold mrgs mrgsTo mrow at h
  rw [List.mem_flatMap] at h
  obtain ⟨i, hi, h⟩ := h
  rw [List.mem_flatMap] at h
  obtain ⟨d, hd, h⟩ := h
  have hd := List.mem_range.mp hd
  unfold pickd at h
  split at h
  · rename_i e
    rw [List.mem_singleton] at h
    exact ⟨i, i + 1 + d, h, by omega, by omega, e⟩
  · cases h
/-! ### a merge -/
def nmS (a b s : Int) : Int := if s = b then a else if b < s then s - 1 else s
def mrgP (a b : Int) (ps : Ps) : Ps := (ps.filter fun p => decide (p.2 ≠ b)).map fun p => (nmS a b p.1, nmS a b p.2)
theorem nmS_rg {a b s n : Int} (h0 : 0 ≤ a) (h1 : a < b) (h2 : b < n) (s0 : 0 ≤ s) (s1 : s < n) : 0 ≤ nmS a b s ∧ nmS a b s < n - 1 := by
  unfold nmS
  by_cases e : s = b
  · rw [if_pos e]
    omega
  · rw [if_neg e]
    by_cases e2 : b < s
    · rw [if_pos e2]
      omega
    · rw [if_neg e2]
      omega
theorem mrg_valid {n : Nat} {ps : Ps} {i j : Nat} (h : VaP n ps) (h1 : i < j) (h2 : j < n) (e : colL n ps i = colL n ps j) : VaP ((n : Int) - 1) (mrgP i j ps) := by
  refine ⟨fun p hp => ?_, fun k k0 k1 => ?_⟩
  · obtain ⟨q, hq, rfl⟩ := List.mem_map.mp hp
    obtain ⟨a1, a2, a3, a4⟩ := h.rg q (List.mem_filter.mp hq).1
    have x := nmS_rg (a := i) (b := j) (n := n) (by omega) (by omega) (by omega) a1 a2
    have y := nmS_rg (a := i) (b := j) (n := n) (by omega) (by omega) (by omega) a3 a4
    exact ⟨x.1, x.2, y.1, y.2⟩
  · obtain ⟨s, s0, s1, sj, sk⟩ : ∃ s : Int, 0 ≤ s ∧ s < n ∧ s ≠ j ∧ nmS i j s = k := by
      by_cases c : k < j
      · refine ⟨k, k0, by omega, by omega, ?_⟩
        unfold nmS
        rw [if_neg (by omega), if_neg (by omega)]
      · refine ⟨k + 1, by omega, by omega, by omega, ?_⟩
        unfold nmS
        rw [if_neg (by omega), if_pos (by omega)]
        omega
    obtain ⟨p, hp, es⟩ := h.sr s s0 s1
    by_cases c : p.2 = j
    · have es' : s = ((s.toNat : Nat) : Int) := (Int.toNat_of_nonneg s0).symm
      have m1 : (((s.toNat : Nat) : Int), ((j : Nat) : Int)) ∈ ps := by
        rw [← es', ← c, ← es]
        exact hp
      have m2 := cnt_pos.mpr m1
      rw [← colL_eq e (by omega)] at m2
      have m3 := cnt_pos.mp m2
      refine ⟨_, List.mem_map.mpr ⟨_, List.mem_filter.mpr ⟨m3, decide_eq_true (by show ((i : Nat) : Int) ≠ _; omega)⟩, rfl⟩, ?_⟩
      show nmS i j ((s.toNat : Nat) : Int) = k
      rw [← es']
      exact sk
    · refine ⟨_, List.mem_map.mpr ⟨p, List.mem_filter.mpr ⟨hp, decide_eq_true c⟩, rfl⟩, ?_⟩
      show nmS i j p.1 = k
      rw [es]
      exact sk
theorem mrgP_len (a b : Int) (ps : Ps) : (mrgP a b ps).length ≤ ps.length := by
  unfold mrgP
  rw [List.length_map]
  exact List.length_filter_le _ _
/-! ### the least plan -/
def lst : Nat → Ps → Ps × Nat × Ps
  | 0, ps => ([], 0, ps)
  | n + 1, ps => match mrgs (n + 1) ps with
    | [] => ([], n + 1, ps)
    | p :: _ => (p :: (lst n (mrgP p.1 p.2 ps)).1, (lst n (mrgP p.1 p.2 ps)).2)
theorem lst_done {n : Nat} {ps : Ps} (h : mrgs n ps = []) : lst n ps = ([], n, ps) := by
  cases n with
  | zero => rfl
  | succ n =>
    show (match mrgs (n + 1) ps with | [] => ([], n + 1, ps) | p :: _ => _) = _
    rw [h]
theorem lst_step {n : Nat} {ps : Ps} {p : Int × Int} {r : Ps} (h : mrgs n ps = p :: r) : lst n ps = (p :: (lst (n - 1) (mrgP p.1 p.2 ps)).1, (lst (n - 1) (mrgP p.1 p.2 ps)).2) := by
  cases n with
  | zero => cases h
  | succ n =>
    show (match mrgs (n + 1) ps with | [] => ([], n + 1, ps) | p :: _ => (p :: (lst n (mrgP p.1 p.2 ps)).1, (lst n (mrgP p.1 p.2 ps)).2)) = _
    rw [h]
    rfl
theorem lst_end (n : Nat) : ∀ ps, mrgs (lst n ps).2.1 (lst n ps).2.2 = [] := by
  induction n with
  | zero => intro ps; rfl
  | succ n ih =>
    intro ps
    cases h : mrgs (n + 1) ps with
    | nil =>
      rw [lst_done h]
      exact h
    | cons p r =>
      rw [lst_step h]
      exact ih _
theorem lst_len (n : Nat) : ∀ ps, (lst n ps).1.length ≤ n := by
  induction n with
  | zero => intro ps; exact Nat.le_refl _
  | succ n ih =>
    intro ps
    cases h : mrgs (n + 1) ps with
    | nil =>
      rw [lst_done h]
      exact Nat.zero_le _
    | cons p r =>
      rw [lst_step h]
      have := ih (mrgP p.1 p.2 ps)
      show (lst n (mrgP p.1 p.2 ps)).1.length + 1 ≤ n + 1
      omega
/-- merges one after another, each allowed -/
inductive Chn : Nat → Ps → Ps → Nat → Ps → Prop
  | nil {n : Nat} {ps : Ps} : Chn n ps [] n ps
  | cons {n : Nat} {ps st qs : Ps} {i j m : Nat} : i < j → j < n → colL n ps i = colL n ps j → Chn (n - 1) (mrgP i j ps) st m qs → Chn n ps (((i : Int), (j : Int)) :: st) m qs
theorem lst_chn (n : Nat) : ∀ ps, Chn n ps (lst n ps).1 (lst n ps).2.1 (lst n ps).2.2 := by
  induction n with
  | zero => intro ps; exact .nil
  | succ n ih =>
    intro ps
    cases h : mrgs (n + 1) ps with
    | nil =>
      rw [lst_done h]
      exact .nil
    | cons p r =>
      rw [lst_step h]
      obtain ⟨i, j, rfl, h1, h2, h3⟩ := mrgs_mem (show p ∈ mrgs (n + 1) ps by rw [h]; exact List.mem_cons_self)
      exact .cons h1 h2 h3 (ih _)
theorem lst_valid (n : Nat) : ∀ ps, VaP (n : Int) ps → 1 ≤ n → VaP ((lst n ps).2.1 : Int) (lst n ps).2.2 ∧ 1 ≤ (lst n ps).2.1 ∧ (lst n ps).2.1 ≤ n ∧ (lst n ps).2.2.length ≤ ps.length := by
  induction n with
  | zero => intro ps h h1; omega
  | succ n ih =>
    intro ps h h1
    cases e : mrgs (n + 1) ps with
    | nil =>
      rw [lst_done e]
      exact ⟨h, h1, Nat.le_refl _, Nat.le_refl _⟩
    | cons p r =>
      obtain ⟨i, j, rfl, h1, h2, h3⟩ := mrgs_mem (show p ∈ mrgs (n + 1) ps by rw [e]; exact List.mem_cons_self)
      rw [lst_step e]
      have v := mrg_valid h h1 h2 h3
      have v : VaP (n : Int) (mrgP i j ps) := by
        have : ((n + 1 : Nat) : Int) - 1 = (n : Int) := by omega
        rw [this] at v
        exact v
      obtain ⟨a1, a2, a3, a4⟩ := ih _ v (by omega)
      have := mrgP_len i j ps
      exact ⟨a1, a2, Nat.le_succ_of_le a3, Nat.le_trans a4 this⟩
end Lw
set_option Elab.async false
set_option linter.all false
/-! rows as sequences, and their normal form -/
namespace Lw
/-- the edge at a place -/
def sq (xs ys : List Int) (i : Nat) : Int := if i < xs.length then xs.getD i 0 else ys.getD ((i - xs.length) % ys.length) 0
def Per (s : Nat → Int) (m p : Nat) : Prop := ∀ i, m ≤ i → s i = s (i + p)
structure IsNF (s : Nat → Int) (m p : Nat) : Prop where
  p1 : 1 ≤ p
  per : Per s m p
  minp : ∀ m' p', 1 ≤ p' → Per s m' p' → p ≤ p'
  minm : ∀ m', Per s m' p → m ≤ m'
theorem IsNF.uniq {s : Nat → Int} {m p m' p' : Nat} (h : IsNF s m p) (h' : IsNF s m' p') : m = m' ∧ p = p' := by
  have e : p = p' := Nat.le_antisymm (h.minp m' p' h'.p1 h'.per) (h'.minp m p h.p1 h.per)
  subst e
  exact ⟨Nat.le_antisymm (h.minm m' h'.per) (h'.minm m h.per), rfl⟩
/-- the first n from m on -/
def seg (s : Nat → Int) (m n : Nat) : List Int := (List.range n).map fun k => s (m + k)
theorem seg_len (s : Nat → Int) (m n : Nat) : (seg s m n).length = n := by
  unfold seg
  simp
theorem seg_get (s : Nat → Int) (m n k : Nat) (h : k < n) : (seg s m n).getD k 0 = s (m + k) := by
  unfold seg
  simp [List.getD, h]
theorem seg_get? (s : Nat → Int) (m n k : Nat) (h : k < n) : (seg s m n)[k]? = some (s (m + k)) := by
  unfold seg
  simp [h]
theorem Per.mono {s : Nat → Int} {m m' p : Nat} (h : Per s m p) (hm : m ≤ m') : Per s m' p := fun i hi => h i (Nat.le_trans hm hi)
theorem Per.mul {s : Nat → Int} {m p : Nat} (h : Per s m p) : ∀ (k i : Nat), m ≤ i → s i = s (i + k * p)
  | 0, i, _ => by simp
  | k + 1, i, hi => by
    rw [h.mul k i hi, h (i + k * p) (by omega)]
    congr 1
    rw [Nat.succ_mul]
    omega
/-- the tail of a row is periodic -/
theorem sq_per (xs ys : List Int) (hy : ys ≠ []) : Per (sq xs ys) xs.length ys.length := fun i hi => by
  have h0 : 0 < ys.length := List.length_pos_iff.mpr hy
  unfold sq
  rw [if_neg (by omega), if_neg (by omega), show i + ys.length - xs.length = (i - xs.length) + ys.length by omega, Nat.add_mod_right]
/-- two places behind m that differ by a multiple of p -/
theorem Per.cong {s : Nat → Int} {m p : Nat} (h : Per s m p) (hp : 0 < p) {i j : Nat} (hi : m ≤ i) (hj : m ≤ j) (e : i % p = j % p) : s i = s j := by
  rcases Nat.le_total i j with hij | hij
  · have : j = i + ((j - i) / p) * p := by
      have h1 : (j - i) % p = 0 := Nat.sub_mod_eq_zero_of_mod_eq e.symm
      have h2 := Nat.div_add_mod (j - i) p
      rw [h1, Nat.mul_comm] at h2
      omega
    rw [this]
    exact h.mul _ i hi
  · have : i = j + ((i - j) / p) * p := by
      have h1 : (i - j) % p = 0 := Nat.sub_mod_eq_zero_of_mod_eq e
      have h2 := Nat.div_add_mod (i - j) p
      rw [h1, Nat.mul_comm] at h2
      omega
    rw [this]
    exact (h.mul _ j hj).symm
/-- a period that holds somewhere holds from where the row repeats -/
theorem Per.back {s : Nat → Int} {h n m p : Nat} (t : Per s h n) (hn : 0 < n) (q : Per s m p) : Per s h p := fun i hi => by
  have e1 := t.mul m i hi
  have e2 := t.mul m (i + p) (by omega)
  have hm : m ≤ i + m * n := by
    have : m ≤ m * n := Nat.le_mul_of_pos_right m hn
    omega
  rw [e1, e2, q (i + m * n) hm]
  congr 1
  omega
/-- the least period divides every period of the tail -/
theorem least_dvd {s : Nat → Int} {h n p : Nat} (t : Per s h n) (q : Per s h p) (hp : 0 < p) (hmin : ∀ p', 1 ≤ p' → Per s h p' → p ≤ p') : n % p = 0 := by
  by_cases hz : n % p = 0
  · exact hz
  · exfalso
    have hr : Per s h (n % p) := fun i hi => by
      have e1 := q.mul (n / p) (i + n % p) (by omega)
      have e2 := Nat.div_add_mod n p
      rw [e1, t i hi]
      congr 1
      rw [Nat.mul_comm] at e2
      omega
    have := hmin (n % p) (by omega) hr
    have := Nat.mod_lt n hp
    omega
/-- a least period and a least beginning give the normal form -/
theorem nf_of {s : Nat → Int} {h n m p : Nat} (t : Per s h n) (hn : 0 < n) (hp : 1 ≤ p) (hmin : ∀ p', 1 ≤ p' → Per s h p' → p ≤ p') (q : Per s m p) (hm : ∀ m', Per s m' p → m ≤ m') : IsNF s m p :=
  ⟨hp, q, fun m' p' h1 q' => hmin p' h1 (t.back hn q'), hm⟩
/-- the row of a normal form is the same row -/
theorem sq_seg {s : Nat → Int} {m p : Nat} (hp : 0 < p) (q : Per s m p) : sq (seg s 0 m) (seg s m p) = s := by
  funext i
  unfold sq
  rw [seg_len, seg_len]
  by_cases hi : i < m
  · rw [if_pos hi, seg_get s 0 m i hi, Nat.zero_add]
  · rw [if_neg hi, seg_get s m p _ (Nat.mod_lt _ hp)]
    refine q.cong hp (Nat.le_add_right _ _) (by omega) ?_
    rw [Nat.add_mod, Nat.mod_mod, ← Nat.add_mod, show m + (i - m) = i by omega]
/-- the tail's period, seen in a window of one turn -/
theorem per_window {s : Nat → Int} {h n p a b : Nat} (t : Per s h n) (hn : 0 < n) (ha : a ≤ h) (hb : h + n ≤ b) (w : ∀ i, a ≤ i → i < b → s i = s (i + p)) : Per s a p := fun i hi => by
  by_cases hlt : i < b
  · exact w i hi hlt
  · have hlo : h + (i - h) % n < b := by
      have := Nat.mod_lt (i - h) hn
      omega
    have e1 : s i = s (h + (i - h) % n) := t.cong hn (by omega) (by omega) (by
      rw [Nat.add_mod h ((i - h) % n), Nat.mod_mod, ← Nat.add_mod, show h + (i - h) = i by omega])
    have e2 : s (i + p) = s (h + (i - h) % n + p) := t.cong hn (by omega) (by omega) (by
      have e : (h + (i - h) % n) % n = i % n := by
        rw [Nat.add_mod h ((i - h) % n), Nat.mod_mod, ← Nat.add_mod, show h + (i - h) = i by omega]
      rw [Nat.add_mod i p, Nat.add_mod (h + (i - h) % n) p, e])
    rw [e1, e2]
    exact w _ (by omega) hlo
end Lw
set_option Elab.async false
set_option linter.all false
set_option maxRecDepth 100000
/-! tuples of ints, rows -/
namespace Lw
open PySem L2
/-! ### tuples of ints -/
def TI (H : Hp) (a : Addr) (xs : List Int) : Prop := H a = some (.tup (xs.map V.int))
theorem TI.same {H H' : Hp} {a : Addr} {xs : List Int} (h : TI H a xs) (s : Same H H') : TI H' a xs := s _ _ h
section
variable {K : PySem.W.Frag}
theorem slA {H : Hp} {a : Addr} {xs : List V} {lo hi : Option Int} {Q : VK} (h : H a = some (.tup xs)) (q : ∀ r H', Same H H' → H' r = some (.tup (cutV xs lo hi)) → Q (.ref r) H') : rSlA K (.ref a) lo hi H Q := by
  refine ⟨a, xs, rfl, SqT.of h, fun z => q a H (fun _ _ e => e) ?_, fun _ p hp => q p _ (same_upd hp) upd_same⟩
  rw [h]
  unfold cutV
  rw [z.1, z.2]
  simp
theorem catA {H : Hp} {a b : Addr} {xs ys : List V} {Q : VK} (h : H a = some (.tup xs)) (h2 : H b = some (.tup ys)) (hl : xs.length + ys.length ≤ 1000) (q : ∀ r H', Same H H' → H' r = some (.tup (xs ++ ys)) → Q (.ref r) H') : rCatA K (.ref a) (.ref b) H Q := by
  refine ⟨a, b, xs, ys, rfl, rfl, SqT.of h, SqT.of h2, Nat.le_of_lt (small1000 hl), fun z => q b H (fun _ _ e => e) ?_, fun _ z => q a H (fun _ _ e => e) ?_, fun _ _ p hp => q p _ (same_upd hp) upd_same⟩
  · rw [h2, z]
    rfl
  · rw [h, z, List.append_nil]
theorem cut_lo' {xs : List V} {k : Nat} (h : k ≤ xs.length) : cutV xs none (some (k : Int)) = xs.take k := by
  unfold cutV
  rw [HT.sIx_none, HT.sIx_nat, Nat.min_eq_left h]
  simp
theorem cut_hi' {xs : List V} {k : Nat} (h : k ≤ xs.length) : cutV xs (some (k : Int)) none = xs.drop k := by
  unfold cutV
  rw [HT.sIx_none, HT.sIx_nat, Nat.min_eq_left h]
  rw [List.take_of_length_le]
  rw [List.length_drop]
  exact Nat.le_refl _
end
def rot (ys : List Int) (j : Nat) : List Int := ys.drop j ++ ys.take j
theorem dp_ints {K : PySem.W.Frag} {H : Hp} : ∀ xs : List Int, DpAll K H (xs.map V.int) (xs.map PyData.int)
  | [] => .nil
  | x :: xs => .cons (.int x) (dp_ints xs)
theorem eqv_ints : ∀ xs ys : List Int, PyData.eqvAll (xs.map PyData.int) (ys.map PyData.int) = decide (xs = ys)
  | [], [] => rfl
  | [], _ :: _ => rfl
  | _ :: _, [] => rfl
  | x :: xs, y :: ys => by
    show ((x == y) && PyData.eqvAll (xs.map PyData.int) (ys.map PyData.int)) = decide (x :: xs = y :: ys)
    rw [eqv_ints xs ys]
    by_cases h : x = y <;> by_cases h2 : xs = ys <;> simp [h, h2]
theorem lay_ints : ∀ xs : List Int, PyData.canLayAll0 (xs.map PyData.int) = true
  | [] => rfl
  | x :: xs => by
    show (true && PyData.canLayAll0 (xs.map PyData.int)) = true
    rw [lay_ints xs]
    rfl
theorem dep_ints : ∀ xs : List Int, PyData.depthAll (xs.map PyData.int) = 0
  | [] => rfl
  | x :: xs => by
    show max 0 (PyData.depthAll (xs.map PyData.int)) = 0
    rw [dep_ints xs]
    rfl
theorem sh_ints (xs : List Int) : SeqAt.shaped (.tuple (xs.map PyData.int)) = true := by
  show (PyData.canLayAll0 (xs.map PyData.int) && decide (PyData.depthAll (xs.map PyData.int) + 1 ≤ 64)) = true
  rw [lay_ints, dep_ints]
  rfl
/-! ### rows -/
def RowAt (H : Hp) (r : Addr) (xs ys : List Int) : Prop := ∃ h c, H r = some (.tup [.ref h, .ref c]) ∧ TI H h xs ∧ TI H c ys
theorem RowAt.same {H H' : Hp} {r : Addr} {xs ys : List Int} (h : RowAt H r xs ys) (s : Same H H') : RowAt H' r xs ys := by
  obtain ⟨a, c, h1, h2, h3⟩ := h
  exact ⟨a, c, s _ _ h1, h2.same s, h3.same s⟩
theorem int_at {xs : List Int} {j : Nat} (h : j < xs.length) : atI (xs.map V.int) (j : Int) = some (.int (xs.getD j 0)) := by
  refine atI_nat ?_
  rw [List.getElem?_map, List.getElem?_eq_getElem h]
  simp [List.getD, h]
theorem TI.keep {H H' : Hp} {b l a : Addr} {ns xs : List Int} (h : TI H a xs) (B : BagAt H b l ns) (k : KeepB b H H') : TI H' a xs := k _ _ (B.ne_tup h) h
theorem RowAt.keep {H H' : Hp} {b l r : Addr} {ns xs ys : List Int} (h : RowAt H r xs ys) (B : BagAt H b l ns) (k : KeepB b H H') : RowAt H' r xs ys := by
  obtain ⟨a, c, h1, h2, h3⟩ := h
  exact ⟨a, c, k _ _ (B.ne_tup h1) h1, h2.keep B k, h3.keep B k⟩
end Lw
set_option Elab.async false
set_option linter.all false
set_option maxRecDepth 100000
/-! t.index(n), t a tuple of ints that holds n -/
namespace Lw
open PySem PySem.Spec PyProof.Rows L2
def rTix (K : PySem.W.Frag) : V → List V → Hp → VK → Prop := fun x xs H Q => ∃ (p : Addr) (ys : List Int) (z : Int) (j : Nat), x = .ref p ∧ xs = [.int z] ∧ SqT K H p (ys.map V.int) ∧ ys[j]? = some z ∧ (∀ m, m < j → ys[m]? ≠ some z) ∧ Q (.int (j : Nat)) H
theorem mt_tIx {X : Cx} : MtR X "tuple.index" (rTix X.K) := by
  rintro pins t σ H _ _ v us Q I rx rs ⟨p, ys, z, j, rfl, rfl, hq, hy, first, q⟩
  cases rx
  cases rs with
  | cons r1 r2 =>
    cases r2
    obtain ⟨tk, rfl⟩ := r1
    obtain ⟨its, r, ⟨⟨c, dd, dat, sl⟩, get, hc, m, hd⟩, _⟩ := I.tuple hq
    simp only at hc hd
    subst hc hd
    have len : its.toArray.size = ys.length := by rw [List.size_toArray, ← r.length, List.length_map]
    have item : ∀ (i : Nat) (hi : i < its.toArray.size), ∃ k, its.toArray[i] = Value.int (ys.getD i 0) k := fun i hi => by
      have hi' : i < ys.length := len ▸ hi
      obtain ⟨u, hu, k, ek⟩ := r.get (i := i) (x := .int (ys.getD i 0)) (by simp [hi'])
      refine ⟨k, ?_⟩
      rw [← ek, ← (List.getElem?_eq_some_iff.mp hu).2]
      simp
    have flat : (ys.map V.int).all flatV = true := by
      rw [List.all_map]
      exact List.all_eq_true.mpr fun _ _ => rfl
    have yj : ys.getD j 0 = z := by simp [List.getD, hy]
    have jl : j < its.toArray.size := by
      rw [len]
      exact (List.getElem?_eq_some_iff.mp hy).1
    refine call_meets PySem.F.slot_tuple_index ⟨_, get, rfl⟩ PySem.F.entry_tuple_index (PySem.F.args_tuple_index_2 _ _) (_root_.TI.tuple_indexAt p its.toArray m dd sl (.int z tk) (eqU (.int z)) j jl ?_ ?_)
      ⟨get, fun u hu => mem_eqAt (x := .int z) ⟨tk, rfl⟩ rfl r flat u (by simpa using hu), ⟨.int (j : Nat), H, I.tok _, ⟨_, rfl⟩, q⟩⟩
    · obtain ⟨k, e⟩ := item j jl
      rw [e, yj]
      show (z == z) = true
      simp
    · intro i hi ij
      obtain ⟨k, e⟩ := item i hi
      rw [e]
      have hi' : i < ys.length := len ▸ hi
      have ne : ys.getD i 0 ≠ z := fun w => first i ij (by simp [List.getD, hi'] at w ⊢; exact w)
      show (ys.getD i 0 == z) = false
      simpa using ne
end Lw
set_option Elab.async false
set_option linter.all false
set_option maxRecDepth 100000
/-! a tuple made by tuple(xs), of which it is known that it has no attributes of its own; its method index -/
namespace Lw
open PySem PySem.Spec PyProof.Rows L2
def FT (H : Hp) (a : Addr) (xs : List Int) : Prop := ∃ ob : Obj, ob.dict = none ∧ H a = some (.frz ob (.tup (xs.map V.int)))
theorem FT.sq {K : PySem.W.Frag} {H : Hp} {a : Addr} {xs : List Int} (h : FT H a xs) : SqT K H a (xs.map V.int) := by
  obtain ⟨ob, _, e⟩ := h
  exact .inl (.inr ⟨ob, e⟩)
theorem FT.same {H H' : Hp} {a : Addr} {xs : List Int} (h : FT H a xs) (s : Same H H') : FT H' a xs := by
  obtain ⟨ob, d, e⟩ := h
  exact ⟨ob, d, s _ _ e⟩
section
variable {X : Cx}
theorem call_tupleF : CallR X (.type "tuple") (fun xs H Q => ∃ (p : Addr) (ys : List V), xs = [.ref p] ∧ SqL X.K H p ys ∧ ∀ (l : Addr) (ob : Obj), H l = none → ob.dict = none → Q (.ref l) (upd H l (.frz ob (.tup ys)))) := by
  rintro pins t σ H _ us Q I r ⟨p, ys, rfl, hq, q⟩
  rw [Vals.ref1 r]
  obtain ⟨its, vs, pl, sz⟩ := I.list hq
  have len := vs.length
  refine call_tuple_list pl.isList (fun h' up => ?_) (by simp only [List.size_toArray] <;> omega)
  have J : Inv X pins σ H { t with heap := h' } := I.kept (t' := t.toks) up
  refine ⟨.ref h'.objs.size, _, J.laid (t' := t.toks) (o := .frz { cls := .type "tuple", data := .seq its.toArray } (.tup ys)) (fun b o e => Heap.get?_push_of_some _ e) (Nat.le_refl _) ⟨Heap.get?_push_size _ rfl, sz, its, vs, IsTup.new _ _⟩, rfl, q _ _ (J.hok.fresh (Nat.le_refl _)) rfl⟩
def tTix (K : PySem.W.Frag) (to : TE) (ta : TA) : TE := fun σ H Q => to σ H fun x H1 => (∃ (p : Addr) (ys : List Int), x = .ref p ∧ FT H1 p ys) ∧ ta σ H1 fun xs H2 => rTix K x xs H2 Q
theorem pe_tIx {o e : Expr} {to : TE} {ta : TA} {apos cpos : Pos} (ho : PE X o to) (ha : PA X [e] ta) (hbase : attributeBase o "index" X.env (eval o X.env) = eval o X.env := by rfl)
    (hfew : ((backTo cpos (starEach [e] X.env)).all (fun x => !x.1) && (backToKw cpos (keywordEach [] X.env)).all (fun x => x.1.isSome) && decide ([e].length + ([] : List Keyword).length + (if ([] : List Keyword).isEmpty then 0 else 1) < 30)) = true := by rfl)
    (hline : (apos.endLine == cpos.line) = true := by rfl) (hst : starEach [e] X.env = (false, eval e X.env) :: starEach [] X.env := by rfl) (hpl : (backTo cpos (starEach [] X.env)).any (·.1) = false := by rfl) :
    PE X (.Call (.Attribute o "index" apos) [e] [] cpos) (tTix X.K to ta) := by
  constructor
  intro pins t σ H Q I h
  refine wpAny_Call_method_late hbase hfew hline rfl (wpAny_mono (ho.run pins t σ H _ I h) ?_ fun _ _ z => z)
  rintro v t1 ⟨_, H1, I1, rv, ⟨p, ys, rfl, ft⟩, q1⟩
  cases rv
  obtain ⟨ob, nd, hp⟩ := id ft
  obtain ⟨get, _⟩ := I1.hok p _ hp
  obtain ⟨its, vs, ⟨o2, g2, c2, _⟩, _⟩ := I1.tuple ft.sq
  refine ⟨"tuple", "tuple.index", PySem.F.plainAttrs_tuple, PySem.F.slot_tuple_index, PySem.F.type_tuple_index, ⟨o2, g2, c2⟩, fun b eb => ?_, ?_⟩
  · cases eb
    exact ⟨ob, get, nd⟩
  have go := ha.run cpos pins t1 σ H1 _ I1 q1
  rw [hst] at go ⊢
  refine Calls.callWith_builtin (by show (false || (backTo cpos (starEach [] X.env)).any (·.1)) = false; rw [hpl] <;> rfl) (Calls.evalArgs_plain (wpAny_mono go ?_ fun _ _ z => z))
  rintro us t2 ⟨xs, H2, I2, r2, q2⟩
  exact mt_tIx pins t2 σ H2 (.ref p) xs (.ref p) us Q I2 rfl r2 q2
end
end Lw
set_option Elab.async false
set_option linter.all false
set_option maxRecDepth 100000
/-! shuffled numbers: all numbers below m, in some order -/
namespace Lw
open PySem L2
abbrev sShuf : Stmt := top 76
def nums (m : Nat) : List Int := (List.range m).map fun k => ((k : Nat) : Int)
def PmN (m : Nat) (xs : List Int) : Prop := xs.Perm (nums m)
theorem nums_succ (m : Nat) : nums (m + 1) = nums m ++ [(m : Int)] := by
  unfold nums
  rw [List.range_succ, List.map_append]
  rfl
theorem PmN.len {m : Nat} {xs : List Int} (h : PmN m xs) : xs.length = m := by
  have := h.length_eq
  unfold nums at this
  simpa using this
theorem PmN.mem {m : Nat} {xs : List Int} (h : PmN m xs) {z : Int} : z ∈ xs ↔ 0 ≤ z ∧ z < m := by
  rw [h.mem_iff]
  unfold nums
  rw [List.mem_map]
  constructor
  · rintro ⟨k, hk, rfl⟩
    have := List.mem_range.mp hk
    omega
  · intro hz
    exact ⟨z.toNat, List.mem_range.mpr (by omega), Int.toNat_of_nonneg hz.1⟩
theorem PmN.snoc {m : Nat} {xs : List Int} (h : PmN m xs) (v : Nat) : PmN (m + 1) (xs.take v ++ [(m : Int)] ++ xs.drop v) := by
  unfold PmN
  rw [nums_succ]
  have h1 : (xs.take v ++ [(m : Int)] ++ xs.drop v).Perm ((m : Int) :: xs) := by
    rw [List.append_assoc]
    refine List.perm_append_comm.trans ?_
    show ((m : Int) :: xs.drop v ++ xs.take v).Perm ((m : Int) :: xs)
    rw [List.cons_append]
    refine .cons _ (List.perm_append_comm.trans ?_)
    rw [List.take_append_drop]
  exact h1.trans ((List.Perm.cons _ h).trans (List.perm_append_comm (l₁ := [(m : Int)]) (l₂ := nums m)))
def spShuf : Sp := fun vs H Q _ => ∃ (b l : Addr) (ns : List Int) (m : Nat), vs = [.ref b, .int (m : Int)] ∧ BagAt H b l ns ∧ m ≤ 40 ∧
  ∀ (t : Addr) (H' : Hp) (xs : List Int), KeepB b H H' → BagAt H' b l ns → FT H' t xs → PmN m xs → Q (.ref t) H'
theorem BagAt.ne_frz {H : Hp} {a b l : Addr} {ns : List Int} {ob : Obj} {u : HO} (B : BagAt H b l ns) (h : H a = some (.frz ob u)) : a ≠ b := fun z => by
  obtain ⟨o, ho, i, r, s, rfl, _⟩ := B.ob
  rw [z, ho] at h
  cases h
theorem FT.keep {H H' : Hp} {a b l : Addr} {ns xs : List Int} (h : FT H a xs) (B : BagAt H b l ns) (k : KeepB b H H') : FT H' a xs := by
  obtain ⟨ob, d, e⟩ := h
  exact ⟨ob, d, k _ _ (B.ne_frz e) e⟩
section
variable {P : Program} {w : World} {K : PySem.W.Frag} {mg : Str → Option Value} {base : Heap} {f : Addr} {fd : FuncData} {k : Nat}
theorem scShuf : FnScope ["_law_bag_here", "_law_many", "_law_found", "_law_k"] ["_law_bag_here", "_law_many"] (defScope sShuf) := ⟨rfl, rfl, rfl, by decide +kernel, rfl, by decide +kernel, by decide +kernel⟩
set_option maxHeartbeats 4000000 in
theorem ok_shuf (F : Fun K "_law_shuffled" "_law_shuffled" sShuf f fd) (T : Bi mg) (cP : C8.Cal P w K mg base 1 "_law_pull" spPull []) : FnOk P w K mg base CX0 (k + 2) f fd ["_law_bag_here", "_law_many"] spShuf := by
  refine F.ok scShuf (fun vs H Q E h => ?_) (fun cdv A outer s H vs Q E hr h => ?_)
  · obtain ⟨b, l, ns, m, rfl, _⟩ := h
    rfl
  · obtain ⟨b, l, ns, m, rfl, B, hm, q⟩ := h
    refine ⟨_, pss_cons (ps_set (i := 2) scShuf.nd rfl (Or.inl rfl) (pe_lst pa_nil))
      (pss_cons (ps_for PassesOwn.never rfl (pi_range1 (by rfl) T.range (pa_cons (pv 1) pa_nil)) (pg_name (i := 3) scShuf.nd rfl (Or.inl rfl))
        (pss_one (ps_expr (pe_bm PySem.F.plainAttrs_list PySem.F.slot_list_insert PySem.F.type_list_insert mt_insert (pv 2) (pa_cons (C8.pe_c cP hr (by omega) (by rfl) (pa_cons (pv 0) (pa_cons (pe_op op_add (pe_callB call_len_seq (by rfl) T.len PySem.boot_len (pa_cons (pv 2) pa_nil)) pe_int) pa_nil))) (pa_cons (pv 3) pa_nil))))))
      (pss_one (ps_ret (pe_callTy call_tupleF (by rfl) T.tuple (by decide +kernel) (pa_cons (pv 2) pa_nil))))), ?_⟩
    refine ⟨(by show 0 ≤ sizeLine; exact Nat.zero_le _), fun L hL => ?_⟩
    have nb := B.ne_new hL
    have nl := (ne_of_none B.sc hL).symm
    refine ⟨_, rfl, (m : Int), rfl, by omega, by omega, ?_⟩
    refine for_it (walk_range (lo := 0) (n := ((m : Int)).toNat)) (fun i σ H' => ∃ (v3 : Option V) (xs : List Int), σ = [some (.ref b), some (.int (m : Int)), some (.ref L), v3] ∧ KeepB b H H' ∧ BagAt H' b l ns ∧ H' L = some (.lst (xs.map V.int)) ∧ PmN i xs)
      ⟨none, [], rfl, .of_same (same_upd hL), B.new hL, upd_same, .refl _⟩ (fun _ _ _ _ _ => True.intro) ?_ ?_
    · rintro i x σ H1 H2 hi ⟨v3, xs, rfl, k1, B1, e1, pm⟩ ⟨rfl, rfl⟩
      have hl := pm.len
      have hi : i < m := by omega
      refine ⟨_, rfl, .inl ⟨rfl, _, SqL.of e1⟩, _, rfl, _, rfl, L, _, rfl, .inl (SqL.of e1), _, _, rfl, rfl, b, l, ns, _, rfl, B1, by rw [List.length_map]; omega, ?_, fun v o v0 v1 BO => ?_⟩
      · rw [List.length_map, hl]
        have : (i : Int) + 1 ≤ 41 := by omega
        exact Int.lt_of_le_of_lt this (by decide)
      have e2 : upd H2 b o L = some (.lst (xs.map V.int)) := (upd_ne nb).trans e1
      have B2 := B1.upd BO
      have k2 := k1.trans (KeepB.updb (o := o))
      generalize upd H2 b o = H3 at *
      rw [List.length_map] at v1
      refine ⟨_, rfl, L, _, v, .int (0 + (i : Int)), rfl, rfl, e2, by rw [List.length_map]; exact small1000 (by omega), v0, Int.lt_of_lt_of_le v1 (by have : (2 : Int) ^ 63 = 9223372036854775808 := rfl; omega), ?_⟩
      refine ⟨_, xs.take v.toNat ++ [(i : Int)] ++ xs.drop v.toNat, rfl, k2.at hL, B2.off nb nl, ?_, pm.snoc _⟩
      rw [upd_same, List.map_append, List.map_append, List.map_take, List.map_drop, Int.zero_add]
      rfl
    · rintro σ H1 ⟨v3, xs, rfl, k1, B1, e1, pm⟩
      rw [Int.toNat_natCast] at pm
      refine ⟨_, rfl, L, _, rfl, SqL.of e1, fun t ob ht nd => ?_⟩
      exact q t _ xs (k1.new ht) (B1.new ht) ⟨ob, nd, upd_same⟩ pm
end
end Lw
set_option Elab.async false
set_option linter.all false
set_option maxRecDepth 100000
/-! the law's table of counts -/
namespace Lw
open PySem L2
abbrev sCnts : Stmt := top 72
def spCnts : Sp := fun vs H Q _ => ∃ (p q : Addr) (n : Int) (ts : Es), vs = [.ref p] ∧ PlanAt H p q n ts ∧ n ≤ 40 ∧ ∀ (D : Addr) (H' : Hp) (rs : List Addr), Same H H' → CntAt H' D rs n.toNat (psOf ts) → Q (.ref D) H'
section
variable {P : Program} {w : World} {K : PySem.W.Frag} {mg : Str → Option Value} {base : Heap} {f : Addr} {fd : FuncData} {k : Nat}
abbrev NCn : List Str := ["_law_plan_here", "_law_table", "_law_state", "_law_source", "_law_target", "_law_row"]
theorem scCnts : FnScope NCn ["_law_plan_here"] (defScope sCnts) := ⟨rfl, rfl, rfl, by decide +kernel, rfl, by decide +kernel, by decide +kernel⟩
set_option maxHeartbeats 4000000 in
theorem ok_cnts (F : Fun K "_law_counts" "_law_counts" sCnts f fd) (T : Bi mg) : FnOk P w K mg base CX0 (k + 1) f fd ["_law_plan_here"] spCnts := by
  refine F.ok scCnts (fun vs H Q E h => ?_) (fun cdv A outer s H vs Q E hr h => ?_)
  · obtain ⟨p, q, n, ts, rfl, _⟩ := h
    rfl
  · obtain ⟨p, q0, n, ts, rfl, PA, hn, q⟩ := h
    have n1 := PA.n1
    refine ⟨_, pss_cons (ps_setLc (i := 1) (own := [("_law_state", 2)]) (g := gName 2) (tt := tYes) (te := tOp rRep (tLst (tCons (tC (.int 0)) tNil)) (tOp (rIxT K) (tVar 0) (tC (.int 0)))) rfl scCnts.nd rfl rfl (sw_true rfl rfl rfl (by decide +kernel))
          (pi_range1 (by rfl) T.range (pa_cons (pe_ix ix_tup (pv 0) pe_int (fun _ _ => rfl)) pa_nil))
          (blkOk_by (N := NCn) (sc := defScope sCnts) (by decide +kernel))
          (fun _ _ _ _ _ => by exact pg_name (i := 2) scCnts.nd rfl (Or.inl rfl))
          (fun _ _ _ _ _ => pts_nil)
          (fun _ _ _ _ _ => by exact pe_op op_rep (pe_lst (pa_cons pe_int pa_nil)) (pe_ix ix_tup (pv 0) pe_int (fun _ _ => rfl))))
      (pss_cons (ps_for PassesOwn.never rfl (pi_seqA (pe_ix ix_tup (pv 0) pe_int (fun _ _ => rfl))) (pg_tup rfl (pgs_cons (pg_name (i := 3) scCnts.nd rfl (.inl rfl)) (pgs_cons (pg_name (i := 4) scCnts.nd rfl (.inl rfl)) pgs_nil)))
        (pss_cons (ps_set (i := 5) scCnts.nd rfl (.inl rfl) (pe_ix ix_list (pv 1) (pv 3) (fun _ _ => rfl)))
        (pss_one (ps_asg (pe_op op_add (pe_ix ix_list (pv 5) (pv 4) (fun _ _ => rfl)) pe_int) (pg_sub (pv 5) (pv 4) set_list)))))
      (pss_one (ps_ret (pv 1)))), ?_⟩
    refine ⟨_, rfl, p, _, _, _, rfl, rfl, SqT.of PA.tp, rfl, n, rfl, by omega, by omega, fun D hD => ?_⟩
    refine lc_it (walk_range (lo := 0) (n := n.toNat)) (fun i H' => ∃ rs : List Addr, rs.length = i ∧ rs.Nodup ∧ Same H H' ∧ H' D = some (.lst (rs.map V.ref)) ∧ ∀ r ∈ rs, H r = none ∧ r ≠ D ∧ H' r = some (.lst (List.replicate n.toNat (V.int 0))))
      ⟨[], rfl, List.nodup_nil, same_upd hD, upd_same, fun r hr => by cases hr⟩ (fun _ _ _ _ => True.intro) ?_ ?_
    · rintro i x H0 H1 hi ⟨rs, hrs, nd, sm, eD, hh⟩ ⟨rfl, rfl⟩
      refine ⟨rfl, ?_⟩
      refine ⟨(by show 1 ≤ sizeLine; decide), fun l hl => ?_⟩
      have s1 := same_upd (o := .lst [.int 0]) hl
      refine ⟨_, rfl, p, _, _, _, rfl, rfl, SqT.of (s1 _ _ (sm _ _ PA.tp)), rfl, l, n, _, rfl, rfl, upd_same, by omega, by omega, ?_, fun p2 hp => ?_⟩
      · show 1 * n.toNat ≤ sizeLine
        exact Nat.le_of_lt (small1000 (by omega))
      have s2 := s1.trans (same_upd (o := .lst (List.replicate n.toNat [V.int 0]).flatten) hp)
      have e0 : (List.replicate n.toNat [V.int 0]).flatten = List.replicate n.toNat (V.int 0) := by
        rw [List.flatten_replicate_singleton]
      have eD2 := s2 _ _ eD
      have pD : p2 ≠ D := fun z => by
        rw [z, s1 _ _ eD] at hp
        cases hp
      refine ⟨_, eD2, ?_, rs ++ [p2], by simp [hrs], ?_, ?_, ?_, ?_⟩
      · rw [List.length_map]
        exact small1000 (by omega)
      · rw [List.nodup_append]
        refine ⟨nd, (by simp), fun a ha b hb => ?_⟩
        rw [List.mem_singleton.mp hb]
        intro z
        have := s1 _ _ (hh a ha).2.2
        rw [z, hp] at this
        cases this
      · intro c o ec
        rw [upd_ne (ne_of_none ec hD)]
        exact s2 _ _ (sm _ _ ec)
      · rw [upd_same, List.map_append]
        rfl
      · intro r hr
        rcases List.mem_append.mp hr with hr | hr
        · obtain ⟨a1, a2, a3⟩ := hh r hr
          exact ⟨a1, a2, by rw [upd_ne a2]; exact s2 _ _ a3⟩
        · rw [List.mem_singleton.mp hr]
          refine ⟨(sm.trans s1).free hp, pD, ?_⟩
          rw [upd_ne pD, upd_same, e0]
    · rintro H1 ⟨rs, hrs, nd, sm, eD, hh⟩
      refine ⟨_, rfl, p, _, _, _, rfl, rfl, SqT.of (sm _ _ PA.tp), rfl, q0, vsOf ts, SqL, rfl, .inl rfl, SqL.of (sm _ _ PA.ls), fun J w => ?_⟩
      have start : CntAt H1 D rs n.toNat ((psOf ts).take 0) := ⟨eD, hrs, fun a r e => by
        rw [List.take_zero, cntRow_nil]
        exact (hh r (List.mem_of_getElem? e)).2.2⟩
      refine for_it w (fun i σ H' => ∃ v3 v4 v5 : Option V, σ = [some (.ref p), some (.ref D), none, v3, v4, v5] ∧ Same H H' ∧ CntAt H' D rs n.toNat ((psOf ts).take i)) ⟨_, _, _, rfl, sm, start⟩ (fun i σ H' _ p => by obtain ⟨_, _, _, _, s, _⟩ := p; exact SqL.of (s _ _ PA.ls)) ?_ ?_
      · rintro i x σ H2 H3 hi ⟨v3, v4, v5, rfl, sm2, ct⟩ ⟨rfl, gx⟩
        obtain ⟨e, he, rfl⟩ := vsOf_at gx
        have mem : e ∈ ts := List.mem_of_getElem? he
        obtain ⟨r1, r2, r3, r4⟩ := PA.va.rg e mem
        have ha : e.2.1.toNat < rs.length := by rw [ct.len]; omega
        obtain ⟨ra, hrr⟩ : ∃ ra, rs[e.2.1.toNat]? = some ra := ⟨_, List.getElem?_eq_getElem ha⟩
        have hmem : ra ∈ rs := List.mem_of_getElem? hrr
        have ea : e.2.1 = ((e.2.1.toNat : Nat) : Int) := (Int.toNat_of_nonneg r1).symm
        have eb : e.2.2 = ((e.2.2.toNat : Nat) : Int) := (Int.toNat_of_nonneg r3).symm
        have hb : e.2.2.toNat < n.toNat := by omega
        have ro := ct.row _ _ hrr
        refine ⟨e.1, _, rfl, SqT.of (sm2 _ _ (PA.ed e mem)), rfl, _, _, rfl, _, _, rfl, rfl, ?_⟩
        refine ⟨_, rfl, _, rfl, D, _, _, .ref ra, rfl, rfl, SqL.of ct.ls, ?_, ?_⟩
        · rw [ea]
          refine atI_nat ?_
          rw [List.getElem?_map, hrr]
          rfl
        refine ⟨_, rfl, _, rfl, ra, _, _, .int (cnt ((psOf ts).take i) e.2.1.toNat e.2.2.toNat), rfl, rfl, SqL.of ro, ?_, _, _, rfl, rfl, _, rfl, _, rfl, ra, _, _, e.2.2.toNat, rfl, rfl, ro, ?_, ?_⟩
        · rw [eb]
          exact atI_nat (cntRow_at _ hb)
        · rw [cntRow_len]
          exact ixN_of r3 hb
        refine ⟨_, _, _, rfl, ?_, ?_⟩
        · intro c o ec
          rw [upd_ne (fun z => ?_)]
          · exact sm2 _ _ ec
          · rw [z, (hh _ hmem).1] at ec
            cases ec
        · have et : (psOf ts).take (i + 1) = (psOf ts).take i ++ [((e.2.1.toNat : Int), (e.2.2.toNat : Int))] := by
            rw [List.take_add_one, psOf_at he, ← ea, ← eb]
            rfl
          have nD : ra ≠ D := (hh _ hmem).2.1
          refine ⟨by rw [upd_ne nD.symm]; exact ct.ls, ct.len, fun a r hr => ?_⟩
          rw [et]
          by_cases hs : a = e.2.1.toNat
          · subst hs
            have : r = ra := by
              rw [hrr] at hr
              exact (Option.some.inj hr).symm
            subst this
            rw [upd_same, ← cntRow_set _ hb]
          · have hne : r ≠ ra := fun z => by
              rw [z] at hr
              exact hs (nodup_at nd hr hrr)
            rw [upd_ne hne, cntRow_other _ hs]
            exact ct.row a r hr
      · rintro σ H2 ⟨v3, v4, v5, rfl, sm2, ct⟩
        rw [vsOf_len, show ts.length = (psOf ts).length by unfold psOf; rw [List.length_map], List.take_length] at ct
        exact ⟨_, rfl, q D H2 rs sm2 ct⟩
end
end Lw
set_option Elab.async false
set_option linter.all false
set_option maxRecDepth 100000
/-! lists of pairs in the heap -/
namespace Lw
open PySem L2
/-- a list of pairs -/
structure LsAt (H : Hp) (D : Addr) (us : Es) : Prop where
  ls : H D = some (.lst (vsOf us))
  ed : Ed H us
theorem LsAt.same {H H' : Hp} {D : Addr} {us : Es} (h : LsAt H D us) (s : Same H H') : LsAt H' D us := ⟨s _ _ h.ls, h.ed.same s⟩
theorem LsAt.keep {H H' : Hp} {D b l : Addr} {ns : List Int} {us : Es} (h : LsAt H D us) (B : BagAt H b l ns) (k : KeepB b H H') : LsAt H' D us := ⟨k _ _ (B.ne_vs h.ls) h.ls, h.ed.keep B k⟩
theorem shl_ints (xs : List Int) : SeqAt.shaped (.list (xs.map PyData.int)) = true := by
  show (PyData.canLayAll0 (xs.map PyData.int) && decide (PyData.depthAll (xs.map PyData.int) + 1 ≤ 64)) = true
  rw [lay_ints, dep_ints]
  rfl
theorem eqv_lst (xs ys : List Int) : PyData.eqv (.list (xs.map PyData.int)) (.list (ys.map PyData.int)) = decide (xs = ys) := eqv_ints xs ys
theorem cntRow_col (ps : Ps) {m r a : Nat} (h : a < m) : atI (cntRow ps m r) ((a : Nat) : Int) = some (.int (cnt ps r a)) := atI_nat (cntRow_at ps h)
theorem psOf_app (us vs : Es) : psOf (us ++ vs) = psOf us ++ psOf vs := by
  unfold psOf
  rw [List.map_append]
theorem LsAt.snoc {H H4 : Hp} {D tt : Addr} {us : Es} {x y : Int} (L : LsAt H4 D us) (e : H4 tt = some (.tup [.int x, .int y])) (nt : tt ≠ D) : LsAt (upd H4 D (.lst (vsOf us ++ [.ref tt]))) D (us ++ [(tt, x, y)]) := by
  refine ⟨?_, fun z hz => ?_⟩
  · rw [upd_same]
    unfold vsOf
    rw [List.map_append]
    rfl
  · rcases List.mem_append.mp hz with hz | hz
    · have := L.ed z hz
      rw [upd_ne fun w => ?_]
      · exact this
      · rw [w, L.ls] at this
        cases this
    · rw [List.mem_singleton.mp hz, upd_ne nt]
      exact e
theorem take_snoc {α : Type} {xs : List α} {i : Nat} {x : α} (h : xs[i]? = some x) : xs.take (i + 1) = xs.take i ++ [x] := by
  rw [List.take_add_one, h]
  rfl
abbrev pat (ps : Ps) (k : Nat) : Int × Int := ps.getD k (0, 0)
theorem pat_at {ps : Ps} {k : Nat} (h : k < ps.length) : ps[k]? = some (pat ps k) := by
  simp [List.getD, h]
theorem pat_mem {ps : Ps} {k : Nat} (h : k < ps.length) : pat ps k ∈ ps := List.mem_of_getElem? (pat_at h)
/-- the graph at g, of at most eight states and 24 edges, all in range, every state a source -/
structure Gok (C : Addr) (H : Hp) (g : Addr) (n : Nat) (ps : Ps) : Prop where
  at_ : ∃ us : Es, GraphAt C H g (n : Int) us ∧ psOf us = ps
  va : VaP (n : Int) ps
  n1 : 1 ≤ n
  n8 : n ≤ 8
  l24 : ps.length ≤ 24
theorem Gok.same {C : Addr} {H H' : Hp} {g : Addr} {n : Nat} {ps : Ps} (h : Gok C H g n ps) (s : Same H H') : Gok C H' g n ps := by
  obtain ⟨us, e1, e2⟩ := h.at_
  exact ⟨⟨us, e1.same s, e2⟩, h.va, h.n1, h.n8, h.l24⟩
/-- a list is written -/
theorem Gok.off {C : Addr} {H : Hp} {g S : Addr} {n : Nat} {ps : Ps} {xs : List V} {u : HO} (h : Gok C H g n ps) (e : H S = some (.lst xs)) : Gok C (upd H S u) g n ps := by
  have ne : ∀ {a : Addr} {o : HO}, H a = some o → (∀ z, o ≠ .lst z) → upd H S u a = some o := fun {a o} h z => by
    rw [upd_ne fun w => ?_]
    · exact h
    · rw [w, e] at h
      exact z _ (Option.some.inj h).symm
  obtain ⟨us, ⟨⟨dx, t, h1, h2⟩, ed⟩, eu⟩ := h.at_
  exact ⟨⟨us, ⟨⟨dx, t, ne h1 (fun z w => by cases w), ne h2 (fun z w => by cases w)⟩, fun x hx => ne (ed x hx) (fun z w => by cases w)⟩, eu⟩, h.va, h.n1, h.n8, h.l24⟩
theorem make_same {C : Addr} {H : Hp} {g dx : Addr} (hg : H g = none) (hdx : H dx = none) (ne : dx ≠ g) : Same H (upd (upd H dx (.own g)) g (.ins C dx [])) := by
  refine (same_upd hdx).trans (same_upd ?_)
  rw [upd_ne (Ne.symm ne)]
  exact hg
theorem PlanAt.keep' {H H' : Hp} {p q b l : Addr} {ns : List Int} {n : Int} {ts : Es} (h : PlanAt H p q n ts) (B : BagAt H b l ns) (k : KeepB b H H') : PlanAt H' p q n ts := ⟨k _ _ (B.ne_tup h.tp) h.tp, k _ _ (B.ne_vs h.ls) h.ls, h.ed.keep B k, h.va, h.n1⟩
theorem psOf_pat {ts : Es} {e : Addr × Int × Int} {k : Nat} (h : ts[k]? = some e) : pat (psOf ts) k = e.2 := by
  have := psOf_at h
  simp [pat, List.getD, this]
theorem yes_if {σ : St} {H : Hp} {A B : Hp → Prop} (h : A H) : tYes σ H (fun b H => if b = true then A H else B H) := by
  show (if true = true then A H else B H)
  exact if_t rfl h
theorem dS : decide (V.str "split" = V.str "split") = true := by decide +kernel
theorem dM : decide (V.str "merge" = V.str "split") = false := by decide +kernel
theorem dR : decide (V.str "rename" = V.str "split") = false := by decide +kernel
theorem dMM : decide (V.str "merge" = V.str "merge") = true := by decide +kernel
theorem dRM : decide (V.str "rename" = V.str "merge") = false := by decide +kernel
end Lw
set_option Elab.async false
set_option linter.all false
set_option maxRecDepth 100000
/-! the law's pairs of states that can be merged -/
namespace Lw
open PySem L2
abbrev sMgrs : Stmt := top 73
def spMgrs : Sp := fun vs H Q _ => ∃ (p q : Addr) (n : Int) (ts : Es), vs = [.ref p] ∧ PlanAt H p q n ts ∧ n ≤ 20 ∧ ∀ (D : Addr) (H' : Hp) (us : Es), Same H H' → H D = none → LsAt H' D us → psOf us = mrgs n.toNat (psOf ts) → Q (.ref D) H'
abbrev NMg : List Str := ["_law_plan_here", "_law_found", "_law_table", "_law_one", "_law_other", "_law_row"]
abbrev scMC : Scope := { kind := .function, names := [(".0", .local), ("_law_other", .cell), ("_law_one", .cell), ("_law_table", .cell)], isGenerator := false, isCoroutine := false }
section
variable {P : Program} {w : World} {K : PySem.W.Frag} {mg : Str → Option Value} {base : Heap} {f : Addr} {fd : FuncData} {k : Nat}
theorem scMgrs : FnScope NMg ["_law_plan_here"] (defScope sMgrs) := ⟨rfl, rfl, rfl, by decide +kernel, rfl, by decide +kernel, by decide +kernel⟩
/-- the row's item at a place, for each row of the table -/
abbrev tCol (K : PySem.W.Frag) (j : Nat) : TE := tLc (iSeqA K (tVar 2)) (gName 5) tYes (tOp (rIxL K) (tVar 5) (tVar j)) [5]
theorem col3 {H : Hp} {T : Addr} {rs : List Addr} {n a : Nat} {v0 v1 v4 v5 : Option V} {Q : VK} {ps : Ps} (tw : CntAt H T rs n ps) (ha : a < n) (hn : n ≤ 40) (q : ∀ (D : Addr) (H' : Hp), Same H H' → H' D = some (.lst ((colL n ps a).map V.int)) → Q (.ref D) H') :
    tCol K 3 [v0, v1, some (.ref T), some (.int (a : Int)), v4, v5] H Q := by
  refine ⟨_, rfl, T, _, SqL, rfl, .inl rfl, SqL.of tw.ls, fun J w D hD => ?_⟩
  refine lc_it w (fun i H' => Same H H' ∧ H' D = some (.lst (((colL n ps a).take i).map V.int))) ⟨same_upd hD, by rw [upd_same]; rfl⟩ (fun i H' _ p => SqL.of (p.1 _ _ tw.ls)) ?_ ?_
  · rintro i x H1 H2 hi ⟨sm, eD⟩ ⟨rfl, gx⟩
    rw [List.getElem?_map] at gx
    obtain ⟨r, hr, rfl⟩ := Option.map_eq_some_iff.mp gx
    rw [List.length_map, tw.len] at hi
    refine ⟨rfl, ?_⟩
    refine ⟨_, rfl, _, rfl, r, _, _, .int (cnt ps i a), rfl, rfl, SqL.of (sm _ _ (tw.row i r hr)), cntRow_col ps ha, _, eD, ?_, ?_, ?_⟩
    · rw [List.length_map, List.length_take, colL_len]
      exact small1000 (by omega)
    · intro b o e
      rw [upd_ne (ne_of_none e hD)]
      exact sm _ _ e
    · rw [upd_same, colL_take ps a hi, List.map_append]
      rfl
  · rintro H1 ⟨sm, eD⟩
    rw [List.length_map, tw.len, List.take_of_length_le (by rw [colL_len]; exact Nat.le_refl _)] at eD
    exact q D H1 sm eD
theorem col4 {H : Hp} {T : Addr} {rs : List Addr} {n a : Nat} {v0 v1 v3 v5 : Option V} {Q : VK} {ps : Ps} (tw : CntAt H T rs n ps) (ha : a < n) (hn : n ≤ 40) (q : ∀ (D : Addr) (H' : Hp), Same H H' → H' D = some (.lst ((colL n ps a).map V.int)) → Q (.ref D) H') :
    tCol K 4 [v0, v1, some (.ref T), v3, some (.int (a : Int)), v5] H Q := by
  refine ⟨_, rfl, T, _, SqL, rfl, .inl rfl, SqL.of tw.ls, fun J w D hD => ?_⟩
  refine lc_it w (fun i H' => Same H H' ∧ H' D = some (.lst (((colL n ps a).take i).map V.int))) ⟨same_upd hD, by rw [upd_same]; rfl⟩ (fun i H' _ p => SqL.of (p.1 _ _ tw.ls)) ?_ ?_
  · rintro i x H1 H2 hi ⟨sm, eD⟩ ⟨rfl, gx⟩
    rw [List.getElem?_map] at gx
    obtain ⟨r, hr, rfl⟩ := Option.map_eq_some_iff.mp gx
    rw [List.length_map, tw.len] at hi
    refine ⟨rfl, ?_⟩
    refine ⟨_, rfl, _, rfl, r, _, _, .int (cnt ps i a), rfl, rfl, SqL.of (sm _ _ (tw.row i r hr)), cntRow_col ps ha, _, eD, ?_, ?_, ?_⟩
    · rw [List.length_map, List.length_take, colL_len]
      exact small1000 (by omega)
    · intro b o e
      rw [upd_ne (ne_of_none e hD)]
      exact sm _ _ e
    · rw [upd_same, colL_take ps a hi, List.map_append]
      rfl
  · rintro H1 ⟨sm, eD⟩
    rw [List.length_map, tw.len, List.take_of_length_le (by rw [colL_len]; exact Nat.le_refl _)] at eD
    exact q D H1 sm eD
theorem cols {H : Hp} {T : Addr} {rs : List Addr} {n a c : Nat} {ps : Ps} {v0 v1 v5 : Option V} {Q : Bool → Hp → Prop} (tw : CntAt H T rs n ps) (ha : a < n) (hc : c < n) (hn : n ≤ 40) (q : ∀ H' : Hp, Same H H' → Q (decide (colL n ps a = colL n ps c)) H') :
    tTest (tOp (rEqD K) (tCol K 3) (tCol K 4)) [v0, v1, some (.ref T), some (.int (a : Int)), some (.int (c : Int)), v5] H Q :=
  col3 (Q := fun x H1 => tCol K 4 [v0, v1, some (.ref T), some (.int (a : Int)), some (.int (c : Int)), v5] H1 fun y H2 => rEqD K x y H2 fun z H3 => ∃ k, z = .bl k ∧ Q k H3) tw ha hn fun D1 H8 s8 d1 => col4 (tw.same s8) hc hn fun D2 H9 s9 d2 =>
    ⟨_, _, .lst (SqL.of (s9 _ _ d1)) (dp_ints _), .lst (SqL.of d2) (dp_ints _), shl_ints _, shl_ints _, _, rfl, by rw [eqv_lst]; exact q _ (s8.trans s9)⟩
set_option maxHeartbeats 8000000 in
theorem ok_mgrs (F : Fun K "_law_mergers" "_law_mergers" sMgrs f fd) (T : Bi mg) (cC : C8.Cal P w K mg base 1 "_law_counts" spCnts []) : FnOk P w K mg base CX0 (k + 2) f fd ["_law_plan_here"] spMgrs := by
  refine F.ok scMgrs (fun vs H Q E h => ?_) (fun cdv A outer s H vs Q E hr h => ?_)
  · obtain ⟨p, q, n, ts, rfl, _⟩ := h
    rfl
  · obtain ⟨p, q0, n, ts, rfl, PA, hn, q⟩ := h
    have n1 := PA.n1
    refine ⟨_, pss_cons (ps_asg (pe_tup (pa_cons (pe_lst pa_nil) (pa_cons (C8.pe_c cC hr (by omega) (by rfl) (pa_cons (pv 0) pa_nil)) pa_nil))) (pg_tup rfl (pgs_cons (pg_name (i := 1) scMgrs.nd rfl (.inl rfl)) (pgs_cons (pg_name (i := 2) scMgrs.nd rfl (.inr rfl)) pgs_nil))))
      (pss_cons (ps_for PassesOwn.never rfl (pi_range1 (by rfl) T.range (pa_cons (pe_ix ix_tup (pv 0) pe_int (fun _ _ => rfl)) pa_nil)) (pg_name (i := 3) scMgrs.nd rfl (.inr rfl))
        (pss_one (ps_set (i := 1) scMgrs.nd rfl (.inl rfl) (pe_op op_cat (pv 1)
          (pe_lc (own := [("_law_other", 4)]) (g := gName 4) (tt := tTest (tOp (rEqD K) (tCol K 3) (tCol K 4))) (te := tTup (tCons (tVar 3) (tCons (tVar 4) tNil))) rfl scMgrs.nd
            (pi_range2 (by rfl) T.range (pa_cons (pe_op op_add (pv 3) pe_int) (pa_cons (pe_ix ix_tup (pv 0) pe_int (fun _ _ => rfl)) pa_nil)))
            (blkOk_by (N := NMg) (sc := defScope sMgrs) (by decide +kernel))
            (fun _ _ _ _ _ => by exact pg_name (i := 4) scMgrs.nd rfl (Or.inr rfl))
            (fun _ _ _ _ _ => by exact pts_one (pt_cmpR (op_eqD hr.units)
              (pe_lc (own := [("_law_row", 5)]) (g := gName 5) (tt := tYes) (te := tOp (rIxL K) (tVar 5) (tVar 3)) rfl scMgrs.nd (pi_seqA (pv 2)) (blkOk_by (N := NMg) (sc := scMC) (by decide +kernel)) (fun _ _ _ _ _ => by exact pg_name (i := 5) scMgrs.nd rfl (Or.inl rfl)) (fun _ _ _ _ _ => pts_nil) (fun _ _ _ _ _ => by exact pe_ix ix_list (pv 5) (pv 3) (fun _ _ => rfl)))
              (pe_lc (own := [("_law_row", 5)]) (g := gName 5) (tt := tYes) (te := tOp (rIxL K) (tVar 5) (tVar 4)) rfl scMgrs.nd (pi_seqA (pv 2)) (blkOk_by (N := NMg) (sc := scMC) (by decide +kernel)) (fun _ _ _ _ _ => by exact pg_name (i := 5) scMgrs.nd rfl (Or.inl rfl)) (fun _ _ _ _ _ => pts_nil) (fun _ _ _ _ _ => by exact pe_ix ix_list (pv 5) (pv 4) (fun _ _ => rfl)))
              (nomark _)))
            (fun _ _ _ _ _ => by exact pe_tup (pa_cons (pv 3) (pa_cons (pv 4) pa_nil))))))))
      (pss_one (ps_ret (pv 1)))), ?_⟩
    refine ⟨(by show 0 ≤ sizeLine; exact Nat.zero_le _), fun L hL => ?_⟩
    have s1 := same_upd (o := .lst []) hL
    have e1 : upd H L (.lst []) L = some (.lst []) := upd_same
    generalize upd H L (.lst []) = H1 at *
    refine ⟨_, rfl, p, q0, n, ts, rfl, PA.same s1, by omega, fun T H2 rs s2 tw => ?_⟩
    refine ⟨(by show 2 ≤ sizeLine; decide), fun tp htp => ?_⟩
    have s3 := same_upd (o := .tup [.ref L, .ref T]) htp
    refine ⟨tp, _, rfl, SqT.of upd_same, rfl, _, _, rfl, _, _, rfl, rfl, ?_⟩
    have tw := tw.same s3
    have sm := (s1.trans s2).trans s3
    have eL := s3 _ _ (s2 _ _ e1)
    generalize upd H2 tp (.tup [.ref L, .ref T]) = H3 at *
    refine ⟨_, rfl, p, _, _, _, rfl, rfl, SqT.of (sm _ _ PA.tp), rfl, n, rfl, by omega, by omega, ?_⟩
    refine for_it (walk_range (lo := 0) (n := n.toNat)) (fun i σ H' => ∃ (v3 : Option V) (D : Addr) (us : Es), σ = [some (.ref p), some (.ref D), some (.ref T), v3, none, none] ∧ Same H H' ∧ H D = none ∧ CntAt H' T rs n.toNat (psOf ts) ∧ LsAt H' D us ∧ psOf us = mrgsTo n.toNat (psOf ts) i)
      ⟨none, L, [], rfl, sm, hL, tw, ⟨eL, Ed.nil⟩, rfl⟩ (fun _ _ _ _ _ => True.intro) ?_ ?_
    · rintro i x σ H4 H5 hi ⟨v3, D, us, rfl, sm4, nD, tw4, ls4, ln⟩ ⟨rfl, hx⟩
      have hx : x = .int (i : Int) := by
        rw [hx]
        show V.int (0 + (i : Int)) = _
        rw [Int.zero_add]
      subst hx
      have lu : us.length ≤ 400 := by
        have h1 := congrArg List.length ln
        have h2 := mrgsTo_len n.toNat (psOf ts) i
        rw [psL_len] at h1
        have h3 : i * n.toNat ≤ 20 * 20 := Nat.mul_le_mul (by omega) (by omega)
        omega
      refine ⟨_, rfl, _, rfl, _, _, rfl, rfl, _, rfl, p, _, _, _, rfl, rfl, SqT.of (sm4 _ _ PA.tp), rfl, _, _, rfl, ⟨by omega, by omega, by omega, by omega⟩, fun M hM => ?_⟩
      refine lc_it (walk_range (lo := (i : Int) + 1) (n := (n - ((i : Int) + 1)).toNat)) (fun j H' => ∃ vs : Es, psOf vs = mrow n.toNat (psOf ts) i j ∧ Same H5 H' ∧ LsAt H' M vs)
        ⟨[], rfl, same_upd hM, upd_same, Ed.nil⟩ (fun _ _ _ _ => True.intro) ?_ ?_
      · rintro j x H6 H7 hj ⟨vs, hvs, sm6, eM⟩ ⟨rfl, hx⟩
        have hx : x = .int ((i + 1 + j : Nat) : Int) := by
          rw [hx]
          show V.int ((i : Int) + 1 + (j : Int)) = _
          congr 1
        subst hx
        have lv : vs.length ≤ 40 := by
          have h1 := congrArg List.length hvs
          have h2 := mrow_len n.toNat (psOf ts) i j
          rw [psL_len] at h1
          omega
        refine ⟨rfl, ?_⟩
        have tw6 := tw4.same sm6
        show tTest (tOp (rEqD K) (tCol K 3) (tCol K 4)) [some (.ref p), some (.ref D), some (.ref T), some (.int (i : Int)), some (.int ((i + 1 + j : Nat) : Int)), none] H7 _
        refine cols tw6 (by omega) (by omega) (by omega) fun H9 s69 => ?_
        refine ite2 (fun hc => ?_) (fun hc => ?_)
        · have hc := of_decide_eq_true hc
          refine ⟨_, rfl, _, rfl, (by show 2 ≤ sizeLine; decide), fun t ht => ?_⟩
          have s10 := s69.trans (same_upd (o := .tup [.int (i : Int), .int ((i + 1 + j : Nat) : Int)]) ht)
          have e10 : upd H9 t (.tup [.int (i : Int), .int ((i + 1 + j : Nat) : Int)]) t = some (.tup [.int (i : Int), .int ((i + 1 + j : Nat) : Int)]) := upd_same
          generalize upd H9 t (.tup [.int (i : Int), .int ((i + 1 + j : Nat) : Int)]) = H10 at *
          have nM : t ≠ M := fun z => by
            rw [z, s69 _ _ eM.ls] at ht
            cases ht
          refine ⟨_, s10 _ _ eM.ls, ?_, vs ++ [(t, (i : Int), ((i + 1 + j : Nat) : Int))], ?_, ?_, ?_, ?_⟩
          · rw [vsOf_len]
            exact small1000 (by omega)
          · rw [psOf_app, hvs, mrow_succ]
            unfold pickd
            rw [if_pos hc]
            rfl
          · intro b o e
            rw [upd_ne (ne_of_none e hM)]
            exact s10 _ _ (sm6 _ _ e)
          · rw [upd_same]
            unfold vsOf
            rw [List.map_append]
            rfl
          · intro e he
            rcases List.mem_append.mp he with he | he
            · have := s10 _ _ (eM.ed e he)
              rw [upd_ne fun z => ?_]
              · exact this
              · rw [z, s10 _ _ eM.ls] at this
                cases this
            · rw [List.mem_singleton.mp he, upd_ne nM]
              exact e10
        · refine ⟨vs, ?_, sm6.trans s69, eM.same s69⟩
          rw [hvs, mrow_succ]
          unfold pickd
          rw [if_neg (fun z => hc (decide_eq_true z)), List.append_nil]
      · rintro H6 ⟨vs, hvs, sm6, eM⟩
        have lv : vs.length ≤ 40 := by
          have h1 := congrArg List.length hvs
          have h2 := mrow_len n.toNat (psOf ts) i (n - ((i : Int) + 1)).toNat
          rw [psL_len] at h1
          omega
        refine ⟨D, M, _, _, rfl, rfl, (ls4.same sm6).ls, eM.ls, ?_, fun R hR => ?_⟩
        · rw [vsOf_len, vsOf_len]
          exact Nat.le_of_lt (small1000 (by omega))
        have s7 := sm6.trans (same_upd (o := .lst (vsOf us ++ vsOf vs)) hR)
        refine ⟨_, R, us ++ vs, rfl, sm4.trans s7, (sm4.trans sm6).free hR, tw4.same s7, ⟨?_, (ls4.ed.same s7).app (eM.ed.same (same_upd hR))⟩, ?_⟩
        · rw [upd_same]
          unfold vsOf
          rw [List.map_append]
        · rw [psOf_app, ln, hvs, mrgsTo_succ, show (n - ((i : Int) + 1)).toNat = n.toNat - (i + 1) by omega]
    · rintro σ H4 ⟨v3, D, us, rfl, sm4, nD, tw4, ls4, ln⟩
      exact ⟨_, rfl, q D H4 us sm4 nD ls4 ln⟩
end
end Lw
set_option Elab.async false
set_option linter.all false
set_option maxRecDepth 100000
/-! the law's merge -/
namespace Lw
open PySem L2
abbrev sMrg : Stmt := top 74
abbrev NMe : List Str := ["_law_plan_here", "_law_one", "_law_other", "_law_state", "_law_names", "_law_pair", "_law_kept", "_law_source", "_law_target"]
def nmL (n : Nat) (a b : Int) : List Int := (nums n).map (nmS a b)
theorem nmL_len (n : Nat) (a b : Int) : (nmL n a b).length = n := by
  unfold nmL nums
  simp
theorem nmL_at {n : Nat} (a b : Int) {s : Nat} (h : s < n) : (nmL n a b)[s]? = some (nmS a b (s : Int)) := by
  unfold nmL nums
  rw [List.map_map, List.getElem?_map, List.getElem?_range h]
  rfl
theorem nmL_take {n : Nat} (a b : Int) {s : Nat} (h : s < n) : (nmL n a b).take (s + 1) = (nmL n a b).take s ++ [nmS a b (s : Int)] := by
  rw [List.take_add_one, nmL_at a b h]
  rfl
theorem nmL_ix {n : Nat} {a b z : Int} (h0 : 0 ≤ z) (h : z < n) : atI ((nmL n a b).map V.int) z = some (.int (nmS a b z)) := by
  have e : z = ((z.toNat : Nat) : Int) := (Int.toNat_of_nonneg h0).symm
  rw [e]
  refine atI_nat ?_
  rw [List.getElem?_map, nmL_at a b (by omega)]
  rfl
/-- the edges that stay -/
def kpt (b : Int) (ts : Es) : Es := ts.filter fun e => decide (e.2.2 ≠ b)
theorem kpt_ps (a b : Int) (ts : Es) : (psOf (kpt b ts)).map (fun p => (nmS a b p.1, nmS a b p.2)) = mrgP a b (psOf ts) := by
  unfold mrgP kpt psOf
  rw [List.filter_map]
  rfl
theorem kpt_snoc (b : Int) (ts : Es) (e : Addr × Int × Int) : kpt b (ts ++ [e]) = kpt b ts ++ (if e.2.2 ≠ b then [e] else []) := by
  unfold kpt
  rw [List.filter_append]
  by_cases h : e.2.2 ≠ b
  · rw [if_pos h, List.filter_cons_of_pos (by exact decide_eq_true h)]
    rfl
  · rw [if_neg h, List.filter_cons_of_neg (by rw [decide_eq_false h]; exact Bool.false_ne_true)]
    rfl
theorem kpt_len (b : Int) (ts : Es) : (kpt b ts).length ≤ ts.length := List.length_filter_le _ _
def spMrg : Sp := fun vs H Q _ => ∃ (p q : Addr) (n i j : Nat) (ts : Es), vs = [.ref p, .int (i : Int), .int (j : Int)] ∧ PlanAt H p q (n : Int) ts ∧ n ≤ 20 ∧ ts.length ≤ 60 ∧ i < j ∧ j < n ∧ colL n (psOf ts) i = colL n (psOf ts) j ∧
  ∀ (p' q' : Addr) (us : Es) (H' : Hp), Same H H' → H p' = none → H q' = none → PlanAt H' p' q' ((n - 1 : Nat) : Int) us → psOf us = mrgP i j (psOf ts) → Q (.ref p') H'
abbrev rInt1 : List V → Hp → VK → Prop := fun xs H Q => (∃ i, xs = [.int i] ∧ Q (.int i) H) ∨ ∃ k, xs = [.bl k] ∧ Q (.int (if k then 1 else 0)) H
abbrev tNm : TE := tIf (tTest (tOp rEq (tVar 3) (tVar 2))) (tVar 1) (tOp (rI0 fun i j => .int (i - j)) (tVar 3) (tCB rInt1 (tCons (tOp (rI0 fun i j => .bl (decide (j < i))) (tVar 3) (tVar 2)) tNil)))
section
variable {P : Program} {w : World} {K : PySem.W.Frag} {mg : Str → Option Value} {base : Heap} {f : Addr} {fd : FuncData} {k : Nat}
theorem scMrg : FnScope NMe ["_law_plan_here", "_law_one", "_law_other"] (defScope sMrg) := ⟨rfl, rfl, rfl, by decide +kernel, rfl, by decide +kernel, by decide +kernel⟩
set_option maxHeartbeats 8000000 in
theorem ok_mrg (F : Fun K "_law_merge" "_law_merge" sMrg f fd) (T : Bi mg) : FnOk P w K mg base CX0 (k + 1) f fd ["_law_plan_here", "_law_one", "_law_other"] spMrg := by
  refine F.ok scMrg (fun vs H Q E h => ?_) (fun cdv A outer s H vs Q E hr h => ?_)
  · obtain ⟨p, q, n, i, j, ts, rfl, _⟩ := h
    rfl
  · obtain ⟨p, q0, n, i, j, ts, rfl, PA, hn, hl, ij, jn, ec, q⟩ := h
    refine ⟨_, pss_cons (ps_set (i := 4) scMrg.nd rfl (.inr rfl)
        (pe_lc (own := [("_law_state", 3)]) (g := gName 3) (tt := tYes) (te := tNm) rfl scMrg.nd (pi_range1 (by rfl) T.range (pa_cons (pe_ix ix_tup (pv 0) pe_int (fun _ _ => rfl)) pa_nil)) (blkOk_by (N := NMe) (sc := defScope sMrg) (by decide +kernel))
          (fun _ _ _ _ _ => by exact pg_name (i := 3) scMrg.nd rfl (Or.inl rfl)) (fun _ _ _ _ _ => pts_nil)
          (fun _ _ _ _ _ => by exact pe_ifExp (pt_cmpR op_eq (pv 3) (pv 2) (nomark _)) (pv 1) (pe_op op_sub (pv 3) (pe_callTy call_int1 (by rfl) T.int (by decide +kernel) (pa_cons (pe_cmpR op_gt (pv 3) (pv 2) (nomark _)) pa_nil))))))
      (pss_cons (ps_setLc (i := 6) (own := [("_law_pair", 5)]) (g := gName 5) (tt := tTest (tOp rNe (tOp (rIxT K) (tVar 5) (tC (.int 1))) (tVar 2))) (te := tVar 5) rfl scMrg.nd rfl rfl (sw_true rfl rfl rfl (by decide +kernel)) (pi_seqA (pe_ix ix_tup (pv 0) pe_int (fun _ _ => rfl))) (blkOk_by (N := NMe) (sc := defScope sMrg) (by decide +kernel))
          (fun _ _ _ _ _ => by exact pg_name (i := 5) scMrg.nd rfl (Or.inl rfl))
          (fun _ _ _ _ _ => by exact pts_one (pt_cmpR op_ne (pe_ix ix_tup (pv 5) pe_int (fun _ _ => rfl)) (pv 2) (nomark _)))
          (fun _ _ _ _ _ => by exact pv 5))
      (pss_one (ps_ret (pe_tup (pa_cons (pe_op op_sub (pe_ix ix_tup (pv 0) pe_int (fun _ _ => rfl)) pe_int) (pa_cons
        (pe_lc (own := [("_law_source", 7), ("_law_target", 8)]) (g := gTup K 2 (gCons (gName 7) (gCons (gName 8) gNil))) (tt := tYes) (te := tTup (tCons (tOp (rIxL K) (tVar 4) (tVar 7)) (tCons (tOp (rIxL K) (tVar 4) (tVar 8)) tNil))) rfl scMrg.nd (pi_seqA (pv 6)) (blkOk_by (N := NMe) (sc := defScope sMrg) (by decide +kernel))
          (fun _ _ _ _ _ => by exact pg_tup rfl (pgs_cons (pg_name (i := 7) scMrg.nd rfl (Or.inl rfl)) (pgs_cons (pg_name (i := 8) scMrg.nd rfl (Or.inl rfl)) pgs_nil))) (fun _ _ _ _ _ => pts_nil)
          (fun _ _ _ _ _ => by exact pe_tup (pa_cons (pe_ix ix_list (pv 4) (pv 7) (fun _ _ => rfl)) (pa_cons (pe_ix ix_list (pv 4) (pv 8) (fun _ _ => rfl)) pa_nil)))) pa_nil)))))), ?_⟩
    -- the names
    refine ⟨_, rfl, p, _, _, _, rfl, rfl, SqT.of PA.tp, rfl, (n : Int), rfl, by omega, by omega, fun D hD => ?_⟩
    refine lc_it (walk_range (lo := 0) (n := ((n : Int)).toNat)) (fun m H' => Same H H' ∧ H' D = some (.lst (((nmL n i j).take m).map V.int))) ⟨same_upd hD, by rw [upd_same]; rfl⟩ (fun _ _ _ _ => True.intro) ?_ ?_
    · rintro m x H1 H2 hm ⟨s1, eD⟩ ⟨rfl, hx⟩
      have hx : x = .int (m : Int) := by
        rw [hx]
        show V.int (0 + (m : Int)) = _
        rw [Int.zero_add]
      subst hx
      have hm : m < n := by omega
      have fin : ∀ z : Int, z = nmS i j (m : Int) → ∃ acc, H2 D = some (.lst acc) ∧ acc.length < sizeLine ∧ Same H (upd H2 D (.lst (acc ++ [.int z]))) ∧ upd H2 D (.lst (acc ++ [.int z])) D = some (.lst (((nmL n i j).take (m + 1)).map V.int)) := fun z hz => by
        refine ⟨_, eD, ?_, ?_, ?_⟩
        · rw [List.length_map, List.length_take, nmL_len]
          exact small1000 (by omega)
        · intro b o e
          rw [upd_ne (ne_of_none e hD)]
          exact s1 _ _ e
        · rw [upd_same, nmL_take _ _ hm, List.map_append, hz]
          rfl
      refine ⟨rfl, ?_⟩
      refine ⟨_, rfl, _, rfl, rfl, _, rfl, ite2 (fun hc => ?_) (fun hc => ?_)⟩
      · have hc : (m : Int) = (j : Int) := by
          have := of_decide_eq_true hc
          injection this
        refine ⟨_, rfl, fin _ ?_⟩
        unfold nmS
        rw [if_pos hc]
      · have hc : ¬ (m : Int) = (j : Int) := fun z => hc (decide_eq_true (congrArg V.int z))
        refine ⟨_, rfl, _, rfl, _, rfl, _, _, rfl, rfl, .inr ⟨_, rfl, _, _, rfl, rfl, fin _ ?_⟩⟩
        unfold nmS
        rw [if_neg hc]
        by_cases h2 : (j : Int) < (m : Int)
        · rw [if_pos h2, decide_eq_true h2]
          rfl
        · rw [if_neg h2, decide_eq_false h2]
          exact Int.sub_zero _
    · rintro H1 ⟨s1, eD⟩
      rw [Int.toNat_natCast, List.take_of_length_le (by rw [nmL_len]; exact Nat.le_refl _)] at eD
      -- what is kept
      refine ⟨_, rfl, p, _, _, _, rfl, rfl, SqT.of (s1 _ _ PA.tp), rfl, q0, vsOf ts, SqL, rfl, .inl rfl, SqL.of (s1 _ _ PA.ls), fun J w D2 hD2 => ?_⟩
      refine lc_it w (fun m H' => Same H1 H' ∧ H' D2 = some (.lst (vsOf (kpt j (ts.take m))))) ⟨same_upd hD2, by rw [upd_same]; rfl⟩ (fun m H' _ p => SqL.of (p.1 _ _ (s1 _ _ PA.ls))) ?_ ?_
      · rintro m x H2 H3 hm ⟨s2, e2⟩ ⟨rfl, gx⟩
        obtain ⟨ed, he, rfl⟩ := vsOf_at gx
        have mem := List.mem_of_getElem? he
        rw [vsOf_len] at hm
        refine ⟨rfl, ?_⟩
        refine ⟨_, rfl, ed.1, _, _, .int ed.2.2, rfl, rfl, SqT.of (s2 _ _ (s1 _ _ (PA.ed ed mem))), rfl, _, rfl, rfl, _, rfl, ite2 (fun hc => ?_) (fun hc => ?_)⟩
        · have hc : ed.2.2 ≠ (j : Int) := fun z => by
            rw [z, decide_eq_true rfl] at hc
            cases hc
          refine ⟨_, rfl, _, e2, ?_, ?_, ?_⟩
          · rw [vsOf_len]
            have := kpt_len j (ts.take m)
            rw [List.length_take] at this
            exact small1000 (by omega)
          · intro b o e
            rw [upd_ne (ne_of_none e hD2)]
            exact s2 _ _ e
          · rw [upd_same, take_snoc he, kpt_snoc, if_pos hc]
            unfold vsOf
            rw [List.map_append]
            rfl
        · have hc : ¬ ed.2.2 ≠ (j : Int) := fun z => hc (by rw [decide_eq_false (fun e => z (V.int.inj e))]; rfl)
          refine ⟨s2, ?_⟩
          rw [e2, take_snoc he, kpt_snoc, if_neg hc, List.append_nil]
      · rintro H2 ⟨s2, e2⟩
        rw [vsOf_len, List.take_length] at e2
        have lk := kpt_len j ts
        have eD := s2 _ _ eD
        have s12 := s1.trans s2
        -- the new pairs
        refine ⟨_, rfl, p, _, _, _, rfl, rfl, SqT.of (s12 _ _ PA.tp), rfl, _, _, rfl, rfl, ?_⟩
        refine ⟨_, rfl, D2, _, SqL, rfl, .inl rfl, SqL.of e2, fun J2 w2 D3 hD3 => ?_⟩
        refine lc_it w2 (fun m H' => ∃ us : Es, Same H2 H' ∧ LsAt H' D3 us ∧ psOf us = (psOf ((kpt j ts).take m)).map fun p => (nmS i j p.1, nmS i j p.2)) ⟨[], same_upd hD3, ⟨upd_same, Ed.nil⟩, rfl⟩ (fun m H' _ p => by obtain ⟨us, s, _⟩ := p; exact SqL.of (s _ _ e2)) ?_ ?_
        · rintro m x H3 H4 hm ⟨us, s3, L3, hus⟩ ⟨rfl, gx⟩
          obtain ⟨ed, he, rfl⟩ := vsOf_at gx
          have mem : ed ∈ ts := (List.mem_filter.mp (List.mem_of_getElem? he)).1
          rw [vsOf_len] at hm
          obtain ⟨r1, r2, r3, r4⟩ := PA.va.rg ed mem
          have lu : us.length ≤ 60 := by
            have := congrArg List.length hus
            rw [psL_len, List.length_map, psL_len, List.length_take] at this
            omega
          refine ⟨ed.1, _, rfl, SqT.of (s3 _ _ (s12 _ _ (PA.ed ed mem))), rfl, _, _, rfl, _, _, rfl, rfl, rfl, ?_⟩
          refine ⟨_, rfl, _, rfl, D, _, _, _, rfl, rfl, SqL.of (s3 _ _ eD), nmL_ix r1 r2, _, rfl, _, rfl, D, _, _, _, rfl, rfl, SqL.of (s3 _ _ eD), nmL_ix r3 r4, (by show 2 ≤ sizeLine; decide), fun t ht => ?_⟩
          have s5 := same_upd (o := .tup [.int (nmS i j ed.2.1), .int (nmS i j ed.2.2)]) ht
          have e5 : upd H4 t (.tup [.int (nmS i j ed.2.1), .int (nmS i j ed.2.2)]) t = some (.tup [.int (nmS i j ed.2.1), .int (nmS i j ed.2.2)]) := upd_same
          have nt : t ≠ D3 := fun z => by
            rw [z, L3.ls] at ht
            cases ht
          generalize upd H4 t (.tup [.int (nmS i j ed.2.1), .int (nmS i j ed.2.2)]) = H5 at *
          have L5 := L3.same s5
          refine ⟨_, L5.ls, ?_, us ++ [(t, nmS i j ed.2.1, nmS i j ed.2.2)], ?_, ⟨?_, ?_⟩, ?_⟩
          · rw [vsOf_len]
            exact small1000 (by omega)
          · intro b o e
            rw [upd_ne (ne_of_none e hD3)]
            exact s5 _ _ (s3 _ _ e)
          · rw [upd_same]
            unfold vsOf
            rw [List.map_append]
            rfl
          · intro e he2
            rcases List.mem_append.mp he2 with he2 | he2
            · have := L5.ed e he2
              rw [upd_ne fun z => ?_]
              · exact this
              · rw [z, L5.ls] at this
                cases this
            · rw [List.mem_singleton.mp he2, upd_ne nt]
              exact e5
          · rw [psOf_app, hus, take_snoc he, psOf_app, List.map_append]
            rfl
        · rintro H3 ⟨us, s3, L3, hus⟩
          rw [vsOf_len, List.take_length, kpt_ps] at hus
          refine ⟨(by show 2 ≤ sizeLine; decide), fun p' hp' => ?_⟩
          have s4 := same_upd (o := .tup [(fun i j : Int => V.int (i - j)) (n : Int) 1, .ref D3]) hp'
          have sA := (s12.trans s3).trans s4
          have va := mrg_valid PA.va.ps ij jn ec
          have en : ((n - 1 : Nat) : Int) = (n : Int) - 1 := by omega
          refine q p' D3 us _ sA ((s12.trans s3).free hp') (s12.free hD3) ⟨?_, s4 _ _ L3.ls, L3.ed.same s4, ?_, by omega⟩ hus
          · rw [en]
            exact upd_same
          · rw [en]
            refine VaP.es ?_
            rw [hus]
            exact va
end
end Lw
set_option Elab.async false
set_option linter.all false
set_option maxRecDepth 100000
/-! the law's least plan -/
namespace Lw
open PySem L2
/-- merges as descriptors -/
def StL (H : Hp) (S : Addr) (st : Ps) : Prop := ∃ ds : List Addr, H S = some (.lst (ds.map V.ref)) ∧ ds.length = st.length ∧ ∀ (k : Nat) (d : Addr) (p : Int × Int), ds[k]? = some d → st[k]? = some p → H d = some (.tup [.str "merge", .int p.1, .int p.2])
theorem StL.same {H H' : Hp} {S : Addr} {st : Ps} (h : StL H S st) (s : Same H H') : StL H' S st := by
  obtain ⟨ds, h1, h2, h3⟩ := h
  exact ⟨ds, s _ _ h1, h2, fun k d p a b => s _ _ (h3 k d p a b)⟩
section
variable {P : Program} {w : World} {K : PySem.W.Frag} {mg : Str → Option Value} {base : Heap} {f : Addr} {fd : FuncData} {k : Nat}
theorem ne_es (us : Es) : (!PyData.eqv (.list (dEs us)) (.list [])) = !us.isEmpty := by
  cases us <;> rfl
theorem sh0 : SeqAt.shaped (.list []) = true := by decide +kernel
end
end Lw
set_option Elab.async false
set_option linter.all false
set_option maxRecDepth 100000
/-! a plan with other names -/
namespace Lw
open PySem L2
abbrev sLRn : Stmt := top 75
abbrev NRn : List Str := ["_law_plan_here", "_law_states", "_law_edges", "_law_k", "_law_old"]
/-- qs is ps with the names ss of its states, es of its edges -/
structure RenP (ss es : List Int) (ps qs : Ps) : Prop where
  len : qs.length = ps.length
  at_ : ∀ (k j : Nat) (p : Int × Int), es[j]? = some (k : Int) → ps[j]? = some p → qs[k]? = some (ss.getD p.1.toNat 0, ss.getD p.2.toNat 0)
theorem first_at {ys : List Int} {z : Int} (h : z ∈ ys) : ∃ j : Nat, ys[j]? = some z ∧ ∀ m : Nat, m < j → ys[m]? ≠ some z := by
  induction ys with
  | nil => cases h
  | cons y ys ih =>
    by_cases e : y = z
    · exact ⟨0, by rw [e]; rfl, fun m hm => by omega⟩
    · have h : z ∈ ys := (List.mem_cons.mp h).resolve_left (Ne.symm e)
      obtain ⟨j, h1, h2⟩ := ih h
      refine ⟨j + 1, h1, fun m hm => ?_⟩
      cases m with
      | zero =>
        intro w
        exact e (Option.some.inj w)
      | succ m => exact h2 m (by omega)
theorem PmN.at_mem {m : Nat} {xs : List Int} (h : PmN m xs) {j : Nat} (hj : j < m) : 0 ≤ xs.getD j 0 ∧ xs.getD j 0 < m := by
  have hl := h.len
  have : xs.getD j 0 ∈ xs := by
    simp [List.getD, show j < xs.length by omega]
  exact h.mem.mp this
theorem ren_valid {n : Nat} {ss es : List Int} {ps qs : Ps} (h : VaP n ps) (hs : PmN n ss) (he : PmN ps.length es) (r : RenP ss es ps qs) : VaP n qs := by
  refine ⟨fun q hq => ?_, fun k k0 k1 => ?_⟩
  · obtain ⟨k, hk, eq⟩ := List.getElem_of_mem hq
    have hk' : k < ps.length := by rw [← r.len]; exact hk
    have hm : (k : Int) ∈ es := he.mem.mpr ⟨by omega, by omega⟩
    obtain ⟨j, hj, _⟩ := first_at hm
    have jl : j < ps.length := by
      have := (List.getElem?_eq_some_iff.mp hj).1
      rw [he.len] at this
      exact this
    have e := r.at_ k j _ hj (List.getElem?_eq_getElem jl)
    rw [List.getElem?_eq_getElem hk, eq] at e
    have e := Option.some.inj e
    obtain ⟨a1, a2, a3, a4⟩ := h.rg _ (List.getElem_mem jl)
    have x := hs.at_mem (j := (ps[j]).1.toNat) (by omega)
    have y := hs.at_mem (j := (ps[j]).2.toNat) (by omega)
    rw [e]
    exact ⟨x.1, x.2, y.1, y.2⟩
  · have hm : k ∈ ss := hs.mem.mpr ⟨k0, k1⟩
    obtain ⟨s, hsk, _⟩ := first_at hm
    have sl : s < n := by
      have := (List.getElem?_eq_some_iff.mp hsk).1
      rw [hs.len] at this
      exact this
    obtain ⟨p, hp, ep⟩ := h.sr (s : Int) (by omega) (by omega)
    obtain ⟨j, jl, ej⟩ := List.getElem_of_mem hp
    have e1 := he.at_mem jl
    have je : j < es.length := by rw [he.len]; exact jl
    have e2 : es[j]? = some ((es.getD j 0).toNat : Int) := by
      rw [Int.toNat_of_nonneg e1.1]
      simp [List.getD, je]
    have e3 := r.at_ _ j _ e2 (List.getElem?_eq_getElem jl)
    refine ⟨_, List.mem_of_getElem? e3, ?_⟩
    show ss.getD (ps[j]).1.toNat 0 = k
    rw [ej, ep, Int.toNat_natCast]
    simp [List.getD, hsk]
def spLRn : Sp := fun vs H Q _ => ∃ (p q t u : Addr) (n : Nat) (ts : Es) (ss es : List Int), vs = [.ref p, .ref t, .ref u] ∧ PlanAt H p q (n : Int) ts ∧ n ≤ 20 ∧ ts.length ≤ 60 ∧ FT H t ss ∧ FT H u es ∧ PmN n ss ∧ PmN ts.length es ∧
  ∀ (p' q' : Addr) (us : Es) (H' : Hp), Same H H' → H p' = none → H q' = none → PlanAt H' p' q' (n : Int) us → RenP ss es (psOf ts) (psOf us) → Q (.ref p') H'
abbrev tPr (K : PySem.W.Frag) (z : Int) : TE := tOp (rIxT K) (tVar 1) (tOp (rIxT K) (tOp (rIxL K) (tOp (rIxT K) (tVar 0) (tC (.int 1))) (tVar 3)) (tC (.int z)))
section
variable {P : Program} {w : World} {K : PySem.W.Frag} {mg : Str → Option Value} {base : Heap} {f : Addr} {fd : FuncData} {k : Nat}
theorem scLRn : FnScope NRn ["_law_plan_here", "_law_states", "_law_edges"] (defScope sLRn) := ⟨rfl, rfl, rfl, by decide +kernel, rfl, by decide +kernel, by decide +kernel⟩
theorem ix_ints {xs : List Int} {z : Int} (h0 : 0 ≤ z) (h : z.toNat < xs.length) : atI (xs.map V.int) z = some (.int (xs.getD z.toNat 0)) := by
  have := int_at (xs := xs) (j := z.toNat) h
  rw [Int.toNat_of_nonneg h0] at this
  exact this
theorem es_at {ts : Es} {e : Addr × Int × Int} {j : Nat} (h : ts[j]? = some e) : atI (vsOf ts) (j : Int) = some (.ref e.1) := by
  refine atI_nat ?_
  unfold vsOf
  rw [List.getElem?_map, h]
  rfl
set_option maxHeartbeats 8000000 in
theorem ok_lrn (F : Fun K "_law_renamed" "_law_renamed" sLRn f fd) (T : Bi mg) : FnOk P w K mg base CX0 (k + 1) f fd ["_law_plan_here", "_law_states", "_law_edges"] spLRn := by
  refine F.ok scLRn (fun vs H Q E h => ?_) (fun cdv A outer s H vs Q E hr h => ?_)
  · obtain ⟨p, q, t, u, n, ts, ss, es, rfl, _⟩ := h
    rfl
  · obtain ⟨p, q0, t, u, n, ts, ss, es, rfl, PA, hn, hl, ft, fu, ps, pe, q⟩ := h
    refine ⟨_, pss_cons (ps_setLc (i := 4) (own := [("_law_k", 3)]) (g := gName 3) (tt := tYes) (te := tTix K (tVar 2) (tCons (tVar 3) tNil)) rfl scLRn.nd rfl rfl (sw_true rfl rfl rfl (by decide +kernel)) (pi_range1 (by rfl) T.range (pa_cons (pe_callB call_len_seq (by rfl) T.len PySem.boot_len (pa_cons (pv 2) pa_nil)) pa_nil)) (blkOk_by (N := NRn) (sc := defScope sLRn) (by decide +kernel))
          (fun _ _ _ _ _ => by exact pg_name (i := 3) scLRn.nd rfl (Or.inl rfl)) (fun _ _ _ _ _ => pts_nil)
          (fun _ _ _ _ _ => by exact pe_tIx (pv 2) (pa_cons (pv 3) pa_nil)))
      (pss_one (ps_ret (pe_tup (pa_cons (pe_ix ix_tup (pv 0) pe_int (fun _ _ => rfl)) (pa_cons
        (pe_lc (own := [("_law_k", 3)]) (g := gName 3) (tt := tYes) (te := tTup (tCons (tPr K 0) (tCons (tPr K 1) tNil))) rfl scLRn.nd (pi_seqA (pv 4)) (blkOk_by (N := NRn) (sc := defScope sLRn) (by decide +kernel))
          (fun _ _ _ _ _ => by exact pg_name (i := 3) scLRn.nd rfl (Or.inl rfl)) (fun _ _ _ _ _ => pts_nil)
          (fun _ _ _ _ _ => by exact pe_tup (pa_cons (pe_ix ix_tup (pv 1) (pe_ix ix_tup (pe_ix ix_list (pe_ix ix_tup (pv 0) pe_int (fun _ _ => rfl)) (pv 3) (fun _ _ => rfl)) pe_int (fun _ _ => rfl)) (fun _ _ => rfl)) (pa_cons (pe_ix ix_tup (pv 1) (pe_ix ix_tup (pe_ix ix_list (pe_ix ix_tup (pv 0) pe_int (fun _ _ => rfl)) (pv 3) (fun _ _ => rfl)) pe_int (fun _ _ => rfl)) (fun _ _ => rfl)) pa_nil)))) pa_nil))))), ?_⟩
    have le := pe.len
    have lv : (es.map V.int).length = ts.length := by rw [List.length_map, le]
    refine ⟨_, rfl, u, _, rfl, .inr fu.sq, _, rfl, by omega, by omega, fun D hD => ?_⟩
    refine lc_it (walk_range (lo := 0) (n := (((es.map V.int).length : Nat) : Int).toNat)) (fun m H' => Same H H' ∧ ∃ os : List Nat, os.length = m ∧ (∀ (k j : Nat), os[k]? = some j → es[j]? = some (k : Int)) ∧ H' D = some (.lst (os.map fun j : Nat => V.int ((j : Nat) : Int)))) ⟨same_upd hD, [], rfl, fun k j h => by simp at h, upd_same⟩ (fun _ _ _ _ => True.intro) ?_ ?_
    · rintro m x H1 H2 hm ⟨s1, os, lo, ho, eD⟩ ⟨rfl, hx⟩
      have hx : x = .int (m : Int) := by
        rw [hx]
        show V.int (0 + (m : Int)) = _
        rw [Int.zero_add]
      subst hx
      have hm : m < ts.length := by omega
      obtain ⟨j, h1, h2⟩ := first_at (pe.mem.mpr ⟨Int.natCast_nonneg m, by omega⟩)
      refine ⟨rfl, ?_⟩
      refine ⟨_, rfl, ⟨u, es, rfl, fu.same s1⟩, _, rfl, u, es, (m : Int), j, rfl, rfl, (fu.same s1).sq, h1, h2, _, eD, ?_, ?_, os ++ [j], by simp [lo], ?_, ?_⟩
      · rw [List.length_map]
        exact small1000 (by omega)
      · intro b o e
        rw [upd_ne (ne_of_none e hD)]
        exact s1 _ _ e
      · intro k i hk
        by_cases c : k < os.length
        · rw [List.getElem?_append_left c] at hk
          exact ho k i hk
        · have ck : k = os.length := by
            have := (List.getElem?_eq_some_iff.mp hk).1
            rw [List.length_append, List.length_singleton] at this
            omega
          rw [ck, List.getElem?_concat_length] at hk
          cases hk
          rw [ck, lo]
          exact h1
      · rw [upd_same, List.map_append]
        rfl
    · rintro H1 ⟨s1, os, lo, ho, eD⟩
      rw [Int.toNat_natCast, lv] at lo
      refine ⟨_, rfl, p, _, _, _, rfl, rfl, SqT.of (s1 _ _ PA.tp), rfl, ?_⟩
      refine ⟨_, rfl, D, _, SqL, rfl, .inl rfl, SqL.of eD, fun J w D2 hD2 => ?_⟩
      refine lc_it w (fun m H' => ∃ us : Es, Same H1 H' ∧ LsAt H' D2 us ∧ us.length = m ∧ ∀ (k j : Nat) (e : Addr × Int × Int), k < m → os[k]? = some j → ts[j]? = some e → (psOf us)[k]? = some (ss.getD e.2.1.toNat 0, ss.getD e.2.2.toNat 0)) ⟨[], same_upd hD2, ⟨upd_same, Ed.nil⟩, rfl, fun k j e h => by omega⟩ (fun m H' _ p => by obtain ⟨us, s, _⟩ := p; exact SqL.of (s _ _ eD)) ?_ ?_
      · rintro m x H2 H3 hm ⟨us, s2, L2, lu, hu⟩ ⟨rfl, gx⟩
        rw [List.length_map] at hm
        rw [List.getElem?_map] at gx
        obtain ⟨j, hj, rfl⟩ := Option.map_eq_some_iff.mp gx
        have jl : j < ts.length := by
          have := (List.getElem?_eq_some_iff.mp (ho m j hj)).1
          omega
        obtain ⟨ed, he⟩ : ∃ e, ts[j]? = some e := ⟨_, List.getElem?_eq_getElem jl⟩
        have mem := List.mem_of_getElem? he
        obtain ⟨r1, r2, r3, r4⟩ := PA.va.rg ed mem
        have PA3 := (PA.same s1).same s2
        have ft3 := (ft.same s1).same s2
        have ls := ps.len
        refine ⟨rfl, ?_⟩
        refine ⟨_, rfl, _, rfl, p, _, _, _, rfl, rfl, SqT.of PA3.tp, rfl, _, rfl, q0, _, _, _, rfl, rfl, SqL.of PA3.ls, es_at he, ed.1, _, _, _, rfl, rfl, SqT.of (PA3.ed ed mem), rfl, t, _, _, _, rfl, rfl, ft3.sq, ix_ints r1 (by omega), ?_⟩
        refine ⟨_, rfl, _, rfl, p, _, _, _, rfl, rfl, SqT.of PA3.tp, rfl, _, rfl, q0, _, _, _, rfl, rfl, SqL.of PA3.ls, es_at he, ed.1, _, _, _, rfl, rfl, SqT.of (PA3.ed ed mem), rfl, t, _, _, _, rfl, rfl, ft3.sq, ix_ints r3 (by omega), (by show 2 ≤ sizeLine; decide), fun tt ht => ?_⟩
        have s4 := same_upd (o := .tup [.int (ss.getD ed.2.1.toNat 0), .int (ss.getD ed.2.2.toNat 0)]) ht
        have e4 : upd H3 tt (.tup [.int (ss.getD ed.2.1.toNat 0), .int (ss.getD ed.2.2.toNat 0)]) tt = some (.tup [.int (ss.getD ed.2.1.toNat 0), .int (ss.getD ed.2.2.toNat 0)]) := upd_same
        have nt : tt ≠ D2 := fun z => by
          rw [z, L2.ls] at ht
          cases ht
        generalize upd H3 tt (.tup [.int (ss.getD ed.2.1.toNat 0), .int (ss.getD ed.2.2.toNat 0)]) = H4 at *
        have L4 := L2.same s4
        refine ⟨_, L4.ls, ?_, us ++ [(tt, ss.getD ed.2.1.toNat 0, ss.getD ed.2.2.toNat 0)], ?_, ⟨?_, ?_⟩, by simp [lu], ?_⟩
        · rw [vsOf_len]
          exact small1000 (by omega)
        · intro b o e
          rw [upd_ne (ne_of_none e hD2)]
          exact s4 _ _ (s2 _ _ e)
        · rw [upd_same]
          unfold vsOf
          rw [List.map_append]
          rfl
        · intro e he2
          rcases List.mem_append.mp he2 with he2 | he2
          · have := L4.ed e he2
            rw [upd_ne fun z => ?_]
            · exact this
            · rw [z, L4.ls] at this
              cases this
          · rw [List.mem_singleton.mp he2, upd_ne nt]
            exact e4
        · intro k2 j2 e2 hk h1 h2
          rw [psOf_app]
          by_cases c : k2 < us.length
          · rw [List.getElem?_append_left (by rw [psL_len]; exact c)]
            exact hu k2 j2 e2 (by omega) h1 h2
          · have ck : k2 = us.length := by omega
            subst ck
            have hh : (psOf us ++ psOf [(tt, ss.getD ed.2.1.toNat 0, ss.getD ed.2.2.toNat 0)])[us.length]? = some (ss.getD ed.2.1.toNat 0, ss.getD ed.2.2.toNat 0) := by
              rw [← psL_len us]
              exact List.getElem?_concat_length
            rw [lu, hj] at h1
            cases h1
            rw [he] at h2
            cases h2
            exact hh
      · rintro H2 ⟨us, s2, L2, lu, hu⟩
        rw [List.length_map, lo] at lu hu
        refine ⟨(by show 2 ≤ sizeLine; decide), fun p' hp' => ?_⟩
        have s3 := same_upd (o := .tup [.int (n : Int), .ref D2]) hp'
        have sA := (s1.trans s2).trans s3
        have rp : RenP ss es (psOf ts) (psOf us) := by
          refine ⟨by rw [psL_len, psL_len, lu], fun k j p h1 h2 => ?_⟩
          have jl := (List.getElem?_eq_some_iff.mp h2).1
          rw [psL_len] at jl
          have kl : k < ts.length := by
            have := pe.mem.mp (List.mem_of_getElem? h1)
            omega
          obtain ⟨j2, hj2⟩ : ∃ j2, os[k]? = some j2 := ⟨_, List.getElem?_eq_getElem (by omega)⟩
          have e1 := ho k j2 hj2
          have nd : es.Nodup := by
            refine pe.nodup_iff.mpr ?_
            unfold nums
            refine List.Pairwise.map _ (fun a b h z => h (by omega)) List.nodup_range
          have ej : j2 = j := by
            obtain ⟨l1, g1⟩ := List.getElem?_eq_some_iff.mp e1
            obtain ⟨l2, g2⟩ := List.getElem?_eq_some_iff.mp h1
            exact (List.getElem_inj nd).mp (g1.trans g2.symm)
          subst ej
          have h3 : psOf ts = ts.map fun e => e.2 := rfl
          rw [h3, List.getElem?_map] at h2
          obtain ⟨e, he, rfl⟩ := Option.map_eq_some_iff.mp h2
          exact hu k j2 e kl hj2 he
        refine q p' D2 us _ sA ((s1.trans s2).free hp') (s1.free hD2) ⟨upd_same, s3 _ _ L2.ls, L2.ed.same s3, VaP.es (ren_valid PA.va.ps ps (by rw [psL_len]; exact pe) rp), PA.n1⟩ rp
end
end Lw
set_option Elab.async false
set_option linter.all false
set_option maxRecDepth 100000
/-! a split plan -/
namespace Lw
open PySem L2
abbrev sLSp : Stmt := top 71
abbrev NSp : List Str := ["_law_plan_here", "_law_state", "_law_part", "_law_size", "_law_pairs", "_law_k", "_law_edges"]
/-- the numbers of the edges that leave a state -/
def lvT (ps : Ps) (s : Int) (m : Nat) : List Int := (List.range m).flatMap fun k => if (pat ps k).1 = s then [((k : Nat) : Int)] else []
abbrev lvL (ps : Ps) (s : Int) : List Int := lvT ps s ps.length
theorem lvT_succ (ps : Ps) (s : Int) (m : Nat) : lvT ps s (m + 1) = lvT ps s m ++ (if (pat ps m).1 = s then [((m : Nat) : Int)] else []) := by
  unfold lvT
  rw [List.range_succ, List.flatMap_append]
  simp
theorem lvT_len (ps : Ps) (s : Int) (m : Nat) : (lvT ps s m).length ≤ m := by
  induction m with
  | zero => exact Nat.le_refl _
  | succ m ih =>
    rw [lvT_succ, List.length_append]
    split <;> simp <;> omega
theorem lvT_mem {ps : Ps} {s z : Int} {m : Nat} : z ∈ lvT ps s m ↔ ∃ k : Nat, z = (k : Int) ∧ k < m ∧ (pat ps k).1 = s := by
  unfold lvT
  rw [List.mem_flatMap]
  constructor
  · rintro ⟨k, hk, h⟩
    split at h
    · rename_i e
      rw [List.mem_singleton] at h
      exact ⟨k, h, List.mem_range.mp hk, e⟩
    · cases h
  · rintro ⟨k, rfl, hk, e⟩
    refine ⟨k, List.mem_range.mpr hk, ?_⟩
    rw [if_pos e]
    exact List.mem_singleton.mpr rfl
theorem lvT_nodup (ps : Ps) (s : Int) (m : Nat) : (lvT ps s m).Nodup := by
  induction m with
  | zero => exact List.nodup_nil
  | succ m ih =>
    rw [lvT_succ, List.nodup_append]
    refine ⟨ih, by split <;> simp, fun a ha b hb => ?_⟩
    obtain ⟨k, rfl, hk, _⟩ := lvT_mem.mp ha
    split at hb
    · rw [List.mem_singleton.mp hb]
      omega
    · cases hb
theorem sub_miss {xs ys : List Int} (h : xs.Sublist ys) (nd : ys.Nodup) (hl : xs.length < ys.length) : ∃ y ∈ ys, y ∉ xs := by
  induction h with
  | slnil => exact absurd hl (Nat.lt_irrefl _)
  | cons a h ih =>
    rename_i l1 l2
    have := List.nodup_cons.mp nd
    exact ⟨a, List.mem_cons_self, fun z => this.1 (h.subset z)⟩
  | cons_cons a h ih =>
    rename_i l1 l2
    have n2 := List.nodup_cons.mp nd
    obtain ⟨y, h1, h2⟩ := ih n2.2 (by simpa using hl)
    refine ⟨y, List.mem_cons_of_mem _ h1, fun z => ?_⟩
    rcases List.mem_cons.mp z with z | z
    · rw [z] at h1
      exact n2.1 h1
    · exact h2 z
structure SplOk (n : Int) (ps : Ps) (s : Int) (part : List Int) : Prop where
  s0 : 0 ≤ s
  s1 : s < n
  sub : part.Sublist (lvL ps s)
  ne : part ≠ []
  lt : part.length < (lvL ps s).length
def splE (n : Int) (part : List Int) (ps : Ps) (k : Nat) : Int × Int := (if (k : Int) ∈ part then n else (pat ps k).1, (pat ps k).2)
def splA (n : Int) (part : List Int) (ps : Ps) (m : Nat) : Ps := (List.range m).map (splE n part ps)
def splB (n s : Int) (part : List Int) (ps : Ps) (m : Nat) : Ps := (List.range m).flatMap fun k => if (pat ps k).2 = s then [((splE n part ps k).1, n)] else []
def splP (n s : Int) (part : List Int) (ps : Ps) : Ps := splA n part ps ps.length ++ splB n s part ps ps.length
theorem splA_succ (n : Int) (part : List Int) (ps : Ps) (m : Nat) : splA n part ps (m + 1) = splA n part ps m ++ [splE n part ps m] := by
  unfold splA
  rw [List.range_succ, List.map_append]
  rfl
theorem splB_succ (n s : Int) (part : List Int) (ps : Ps) (m : Nat) : splB n s part ps (m + 1) = splB n s part ps m ++ (if (pat ps m).2 = s then [((splE n part ps m).1, n)] else []) := by
  unfold splB
  rw [List.range_succ, List.flatMap_append]
  simp
theorem splB_len (n s : Int) (part : List Int) (ps : Ps) (m : Nat) : (splB n s part ps m).length ≤ m := by
  induction m with
  | zero => exact Nat.le_refl _
  | succ m ih =>
    rw [splB_succ, List.length_append]
    split <;> simp <;> omega
theorem spl_valid {n : Int} {ps : Ps} {s : Int} {part : List Int} (h : VaP n ps) (o : SplOk n ps s part) : VaP (n + 1) (splP n s part ps) := by
  have s0 := o.s0
  have s1 := o.s1
  have rE : ∀ k, k < ps.length → 0 ≤ (splE n part ps k).1 ∧ (splE n part ps k).1 < n + 1 ∧ 0 ≤ (splE n part ps k).2 ∧ (splE n part ps k).2 < n + 1 := fun k hk => by
    obtain ⟨a1, a2, a3, a4⟩ := h.rg _ (pat_mem hk)
    unfold splE
    refine ⟨?_, ?_, a3, by show (pat ps k).2 < n + 1; omega⟩
    · show 0 ≤ if (k : Int) ∈ part then n else (pat ps k).1
      split <;> omega
    · show (if (k : Int) ∈ part then n else (pat ps k).1) < n + 1
      split <;> omega
  have inA : ∀ k, k < ps.length → splE n part ps k ∈ splP n s part ps := fun k hk => by
    unfold splP splA
    exact List.mem_append_left _ (List.mem_map.mpr ⟨k, List.mem_range.mpr hk, rfl⟩)
  refine ⟨fun p hp => ?_, fun k k0 k1 => ?_⟩
  · unfold splP at hp
    rcases List.mem_append.mp hp with hp | hp
    · unfold splA at hp
      obtain ⟨k, hk, rfl⟩ := List.mem_map.mp hp
      exact rE k (List.mem_range.mp hk)
    · unfold splB at hp
      obtain ⟨k, hk, hp⟩ := List.mem_flatMap.mp hp
      split at hp
      · rw [List.mem_singleton] at hp
        have := rE k (List.mem_range.mp hk)
        rw [hp]
        exact ⟨this.1, this.2.1, by show 0 ≤ n; omega, by show n < n + 1; omega⟩
      · cases hp
  · by_cases c : k = n
    · obtain ⟨z, hz⟩ := List.exists_mem_of_ne_nil _ o.ne
      obtain ⟨i, rfl, il, _⟩ := lvT_mem.mp (o.sub.subset hz)
      refine ⟨_, inA i il, ?_⟩
      unfold splE
      show (if ((i : Nat) : Int) ∈ part then n else (pat ps i).1) = k
      rw [if_pos hz, c]
    · by_cases cs : k = s
      · obtain ⟨y, hy, hn⟩ := sub_miss o.sub (lvT_nodup _ _ _) o.lt
        obtain ⟨i, rfl, il, e⟩ := lvT_mem.mp hy
        refine ⟨_, inA i il, ?_⟩
        unfold splE
        show (if ((i : Nat) : Int) ∈ part then n else (pat ps i).1) = k
        rw [if_neg hn, e, cs]
      · obtain ⟨p, hp, ep⟩ := h.sr k k0 (by omega)
        obtain ⟨i, il, ei⟩ := List.getElem_of_mem hp
        have ei : pat ps i = p := by
          have := pat_at il
          rw [List.getElem?_eq_getElem il, ei] at this
          exact (Option.some.inj this).symm
        refine ⟨_, inA i il, ?_⟩
        unfold splE
        show (if ((i : Nat) : Int) ∈ part then n else (pat ps i).1) = k
        rw [if_neg, ei, ep]
        intro z
        obtain ⟨j, ej, _, e⟩ := lvT_mem.mp (o.sub.subset z)
        have : i = j := by omega
        subst this
        rw [ei, ep] at e
        exact cs e
theorem inV_dec (k : Int) (ks : List Int) : inV (.int k) (ks.map V.int) = decide (k ∈ ks) := by
  unfold inV
  rw [List.any_map]
  induction ks with
  | nil => rfl
  | cons x ks ih =>
    rw [List.any_cons, ih]
    show ((x == k) || decide (k ∈ ks)) = decide (k ∈ x :: ks)
    by_cases e : x = k
    · simp [e]
    · have e' : ¬ k = x := fun z => e z.symm
      simp [e, e']
def spLSp : Sp := fun vs H Q _ => ∃ (p q t : Addr) (n : Nat) (ts : Es) (s : Int) (part : List Int), vs = [.ref p, .int s, .ref t] ∧ PlanAt H p q (n : Int) ts ∧ n ≤ 20 ∧ ts.length ≤ 60 ∧ TI H t part ∧ SplOk n (psOf ts) s part ∧
  ∀ (p' q' : Addr) (us : Es) (H' : Hp), Same H H' → H p' = none → H q' = none → PlanAt H' p' q' ((n + 1 : Nat) : Int) us → psOf us = splP n s part (psOf ts) → Q (.ref p') H'
abbrev tAt (K : PySem.W.Frag) (i z : Nat) : TE := tOp (rIxT K) (tOp (rIxL K) (tVar i) (tVar 5)) (tC (.int z))
abbrev tSpE (K : PySem.W.Frag) : TE := tTup (tCons (tIf (tTest (tOp (rIn K false) (tVar 5) (tVar 2))) (tVar 3) (tAt K 4 0)) (tCons (tAt K 4 1) tNil))
section
variable {P : Program} {w : World} {K : PySem.W.Frag} {mg : Str → Option Value} {base : Heap} {f : Addr} {fd : FuncData} {k : Nat}
theorem scLSp : FnScope NSp ["_law_plan_here", "_law_state", "_law_part"] (defScope sLSp) := ⟨rfl, rfl, rfl, by decide +kernel, rfl, by decide +kernel, by decide +kernel⟩
set_option maxHeartbeats 8000000 in
theorem ok_lsp (F : Fun K "_law_split" "_law_split" sLSp f fd) (T : Bi mg) : FnOk P w K mg base CX0 (k + 1) f fd ["_law_plan_here", "_law_state", "_law_part"] spLSp := by
  refine F.ok scLSp (fun vs H Q E h => ?_) (fun cdv A outer s0 H vs Q E hr h => ?_)
  · obtain ⟨p, q, t, n, ts, s, part, rfl, _⟩ := h
    rfl
  · obtain ⟨p, q0, t, n, ts, s, part, rfl, PA, hn, hl, ti, ok, q⟩ := h
    refine ⟨_, pss_cons (ps_asg (pv 0) (pg_tup rfl (pgs_cons (pg_name (i := 3) scLSp.nd rfl (.inr rfl)) (pgs_cons (pg_name (i := 4) scLSp.nd rfl (.inr rfl)) pgs_nil))))
      (pss_cons (ps_set (i := 6) scLSp.nd rfl (.inr rfl)
        (pe_lc (own := [("_law_k", 5)]) (g := gName 5) (tt := tYes) (te := tSpE K) rfl scLSp.nd (pi_range1 (by rfl) T.range (pa_cons (pe_callB call_len_seq (by rfl) T.len PySem.boot_len (pa_cons (pv 4) pa_nil)) pa_nil)) (blkOk_by (N := NSp) (sc := defScope sLSp) (by decide +kernel))
          (fun _ _ _ _ _ => by exact pg_name (i := 5) scLSp.nd rfl (Or.inl rfl)) (fun _ _ _ _ _ => pts_nil)
          (fun _ _ _ _ _ => by exact pe_tup (pa_cons (pe_ifExp (pt_cmpR op_in_seq (pv 5) (pv 2) (by rfl)) (pv 3) (pe_ix ix_tup (pe_ix ix_list (pv 4) (pv 5) (fun _ _ => rfl)) pe_int (fun _ _ => rfl))) (pa_cons (pe_ix ix_tup (pe_ix ix_list (pv 4) (pv 5) (fun _ _ => rfl)) pe_int (fun _ _ => rfl)) pa_nil)))))
      (pss_one (ps_ret (pe_tup (pa_cons (pe_op op_add (pv 3) pe_int) (pa_cons (pe_op op_cat (pv 6)
        (pe_lc (own := [("_law_k", 5)]) (g := gName 5) (tt := tTest (tOp rEq (tAt K 4 1) (tVar 1))) (te := tTup (tCons (tAt K 6 0) (tCons (tVar 3) tNil))) rfl scLSp.nd (pi_range1 (by rfl) T.range (pa_cons (pe_callB call_len_seq (by rfl) T.len PySem.boot_len (pa_cons (pv 4) pa_nil)) pa_nil)) (blkOk_by (N := NSp) (sc := defScope sLSp) (by decide +kernel))
          (fun _ _ _ _ _ => by exact pg_name (i := 5) scLSp.nd rfl (Or.inl rfl))
          (fun _ _ _ _ _ => by exact pts_one (pt_cmpR op_eq (pe_ix ix_tup (pe_ix ix_list (pv 4) (pv 5) (fun _ _ => rfl)) pe_int (fun _ _ => rfl)) (pv 1) (nomark _)))
          (fun _ _ _ _ _ => by exact pe_tup (pa_cons (pe_ix ix_tup (pe_ix ix_list (pv 6) (pv 5) (fun _ _ => rfl)) pe_int (fun _ _ => rfl)) (pa_cons (pv 3) pa_nil))))) pa_nil)))))), ?_⟩
    refine ⟨_, rfl, p, _, rfl, SqT.of PA.tp, rfl, _, _, rfl, _, _, rfl, rfl, ?_⟩
    have lv := vsOf_len ts
    have lps := psL_len ts
    -- the edges
    refine ⟨_, rfl, q0, _, rfl, .inl (SqL.of PA.ls), _, rfl, by omega, by omega, fun D hD => ?_⟩
    refine lc_it (walk_range (lo := 0) (n := (((vsOf ts).length : Nat) : Int).toNat)) (fun m H' => ∃ us : Es, Same H H' ∧ LsAt H' D us ∧ psOf us = splA n part (psOf ts) m) ⟨[], same_upd hD, ⟨upd_same, Ed.nil⟩, rfl⟩ (fun _ _ _ _ => True.intro) ?_ ?_
    · rintro m x H1 H2 hm ⟨us, s1, L1, hu⟩ ⟨rfl, hx⟩
      have hx : x = .int (m : Int) := by
        rw [hx]
        show V.int (0 + (m : Int)) = _
        rw [Int.zero_add]
      subst hx
      have hm : m < ts.length := by omega
      obtain ⟨ed, he⟩ : ∃ e, ts[m]? = some e := ⟨_, List.getElem?_eq_getElem hm⟩
      have PA2 := PA.same s1
      have ee := PA2.ed ed (List.mem_of_getElem? he)
      have lu : us.length = m := by
        have := congrArg List.length hu
        unfold splA at this
        rw [psL_len, List.length_map, List.length_range] at this
        exact this
      have fin : ∀ z : Int, z = (splE n part (psOf ts) m).1 → ∀ tt, H2 tt = none → ∃ acc, upd H2 tt (.tup [.int z, .int ed.2.2]) D = some (.lst acc) ∧ acc.length < sizeLine ∧ ∃ us : Es, Same H (upd (upd H2 tt (.tup [.int z, .int ed.2.2])) D (.lst (acc ++ [.ref tt]))) ∧ LsAt (upd (upd H2 tt (.tup [.int z, .int ed.2.2])) D (.lst (acc ++ [.ref tt]))) D us ∧ psOf us = splA n part (psOf ts) (m + 1) := fun z hz tt ht => by
        have s4 := same_upd (o := .tup [.int z, .int ed.2.2]) ht
        have nt : tt ≠ D := fun w => by
          rw [w, L1.ls] at ht
          cases ht
        have L4 := L1.same s4
        refine ⟨_, L4.ls, ?_, us ++ [(tt, z, ed.2.2)], ?_, L4.snoc (H := H2) upd_same nt, ?_⟩
        · rw [vsOf_len]
          exact small1000 (by omega)
        · intro b o e
          rw [upd_ne (ne_of_none e hD)]
          exact s4 _ _ (s1 _ _ e)
        · rw [psOf_app, hu, splA_succ, hz]
          show _ ++ [((splE n part (psOf ts) m).1, ed.2.2)] = _ ++ [splE n part (psOf ts) m]
          unfold splE
          rw [psOf_pat he]
      refine ⟨rfl, ?_⟩
      refine ⟨_, rfl, _, rfl, t, _, rfl, .inr (SqT.of (s1 _ _ ti)), rfl, flat_ints part, _, rfl, ?_⟩
      have ei : (if (false : Bool) = true then !inV (V.int (m : Int)) (part.map V.int) else inV (V.int (m : Int)) (part.map V.int)) = decide ((m : Int) ∈ part) := by
        rw [if_neg Bool.false_ne_true, inV_dec]
      rw [ei]
      refine ite2 (fun hc => ?_) (fun hc => ?_)
      · have hc := of_decide_eq_true hc
        refine ⟨_, rfl, _, rfl, _, rfl, q0, _, _, _, rfl, rfl, SqL.of PA2.ls, es_at he, ed.1, _, _, _, rfl, rfl, SqT.of ee, rfl, (by show 2 ≤ sizeLine; decide), fun tt ht => fin _ ?_ tt ht⟩
        unfold splE
        show (n : Int) = if ((m : Nat) : Int) ∈ part then (n : Int) else _
        rw [if_pos hc]
      · have hc : ¬ ((m : Nat) : Int) ∈ part := fun z => hc (decide_eq_true z)
        refine ⟨_, rfl, _, rfl, q0, _, _, _, rfl, rfl, SqL.of PA2.ls, es_at he, ed.1, _, _, _, rfl, rfl, SqT.of ee, rfl, _, rfl, _, rfl, q0, _, _, _, rfl, rfl, SqL.of PA2.ls, es_at he, ed.1, _, _, _, rfl, rfl, SqT.of ee, rfl, (by show 2 ≤ sizeLine; decide), fun tt ht => fin _ ?_ tt ht⟩
        unfold splE
        show ed.2.1 = if ((m : Nat) : Int) ∈ part then (n : Int) else (pat (psOf ts) m).1
        rw [if_neg hc, psOf_pat he]
    · rintro H1 ⟨us, s1, L1, hu⟩
      rw [Int.toNat_natCast, lv] at hu
      have lu : us.length = ts.length := by
        have := congrArg List.length hu
        unfold splA at this
        rw [psL_len, List.length_map, List.length_range] at this
        exact this
      -- the copies
      refine ⟨_, rfl, _, _, rfl, rfl, _, rfl, _, rfl, q0, _, rfl, .inl (SqL.of (s1 _ _ PA.ls)), _, rfl, by omega, by omega, fun D2 hD2 => ?_⟩
      refine lc_it (walk_range (lo := 0) (n := (((vsOf ts).length : Nat) : Int).toNat)) (fun m H' => ∃ ws : Es, Same H1 H' ∧ LsAt H' D2 ws ∧ psOf ws = splB n s part (psOf ts) m) ⟨[], same_upd hD2, ⟨upd_same, Ed.nil⟩, rfl⟩ (fun _ _ _ _ => True.intro) ?_ ?_
      · rintro m x H2 H3 hm ⟨ws, s2, L2, hw⟩ ⟨rfl, hx⟩
        have hx : x = .int (m : Int) := by
          rw [hx]
          show V.int (0 + (m : Int)) = _
          rw [Int.zero_add]
        subst hx
        have hm : m < ts.length := by omega
        obtain ⟨ed, he⟩ : ∃ e, ts[m]? = some e := ⟨_, List.getElem?_eq_getElem hm⟩
        obtain ⟨eu, hu2⟩ : ∃ e, us[m]? = some e := ⟨_, List.getElem?_eq_getElem (by omega)⟩
        have PA3 := (PA.same s1).same s2
        have L13 := L1.same s2
        have eu1 : eu.2 = splE n part (psOf ts) m := by
          have h1 := psOf_at hu2
          rw [hu] at h1
          unfold splA at h1
          rw [List.getElem?_map, List.getElem?_range hm] at h1
          exact (Option.some.inj h1).symm
        have lw : ws.length ≤ 60 := by
          have h1 := congrArg List.length hw
          have h2 := splB_len n s part (psOf ts) m
          rw [psL_len] at h1
          omega
        refine ⟨rfl, ?_⟩
        refine ⟨_, rfl, _, rfl, q0, _, _, _, rfl, rfl, SqL.of PA3.ls, es_at he, ed.1, _, _, _, rfl, rfl, SqT.of (PA3.ed ed (List.mem_of_getElem? he)), rfl, _, rfl, rfl, _, rfl, ite2 (fun hc => ?_) (fun hc => ?_)⟩
        · have hc : ed.2.2 = s := by
            have := of_decide_eq_true hc
            injection this
          refine ⟨_, rfl, _, rfl, D, _, _, _, rfl, rfl, SqL.of L13.ls, es_at hu2, eu.1, _, _, _, rfl, rfl, SqT.of (L13.ed eu (List.mem_of_getElem? hu2)), rfl, _, rfl, (by show 2 ≤ sizeLine; decide), fun tt ht => ?_⟩
          have s4 := same_upd (o := .tup [.int eu.2.1, .int (n : Int)]) ht
          have nt : tt ≠ D2 := fun w => by
            rw [w, L2.ls] at ht
            cases ht
          have L4 := L2.same s4
          refine ⟨_, L4.ls, ?_, ws ++ [(tt, eu.2.1, (n : Int))], ?_, L4.snoc (H := H3) upd_same nt, ?_⟩
          · rw [vsOf_len]
            exact small1000 (by omega)
          · intro b o e
            rw [upd_ne (ne_of_none e hD2)]
            exact s4 _ _ (s2 _ _ e)
          · rw [psOf_app, hw, splB_succ, psOf_pat he, if_pos hc]
            show _ ++ [(eu.2.1, (n : Int))] = _
            rw [eu1]
        · have hc : ¬ ed.2.2 = s := fun z => hc (decide_eq_true (congrArg V.int z))
          refine ⟨ws, s2, L2, ?_⟩
          rw [hw, splB_succ, psOf_pat he, if_neg hc, List.append_nil]
      · rintro H2 ⟨ws, s2, L2, hw⟩
        rw [Int.toNat_natCast, lv] at hw
        have lw : ws.length ≤ 60 := by
          have h1 := congrArg List.length hw
          have h2 := splB_len n s part (psOf ts) ts.length
          rw [psL_len] at h1
          omega
        have L12 := L1.same s2
        refine ⟨D, D2, _, _, rfl, rfl, L12.ls, L2.ls, ?_, fun R hR => ?_⟩
        · rw [vsOf_len, vsOf_len]
          exact Nat.le_of_lt (small1000 (by omega))
        have s3 := same_upd (o := .lst (vsOf us ++ vsOf ws)) hR
        have eR : upd H2 R (.lst (vsOf us ++ vsOf ws)) R = some (.lst (vsOf us ++ vsOf ws)) := upd_same
        have L3 := (L12.ed.same s3).app (L2.ed.same s3)
        generalize upd H2 R (.lst (vsOf us ++ vsOf ws)) = H3 at *
        refine ⟨(by show 2 ≤ sizeLine; decide), fun p' hp' => ?_⟩
        have s4 := same_upd (o := .tup [(fun i j : Int => V.int (i + j)) (n : Int) 1, .ref R]) hp'
        have s12 := s1.trans s2
        have sA := (s12.trans s3).trans s4
        have e1 : psOf (us ++ ws) = splP n s part (psOf ts) := by
          rw [psOf_app, hu, hw]
          unfold splP
          rw [lps]
        have en : ((n + 1 : Nat) : Int) = (n : Int) + 1 := by omega
        refine q p' R (us ++ ws) _ sA ((s12.trans s3).free hp') (s12.free hR) ⟨?_, ?_, L3.same s4, ?_, by omega⟩ e1
        · rw [en]
          exact upd_same
        · rw [s4 _ _ eR]
          unfold vsOf
          rw [List.map_append]
        · rw [en]
          refine VaP.es ?_
          rw [e1]
          exact spl_valid PA.va.ps ok
end
end Lw
set_option Elab.async false
set_option linter.all false
set_option maxRecDepth 100000
/-! a step that a plan allows: the rows that leave, the states that can be split -/
namespace Lw
open PySem L2
abbrev sStF : Stmt := top 77
inductive Sd where
  | spl (s : Int) (ps : List Int)
  | mrg (a b : Int)
  | ren (ss es : List Int)
def SdAt (H : Hp) (d : Addr) : Sd → Prop
  | .spl s ps => ∃ t, H d = some (.tup [.str "split", .int s, .ref t]) ∧ TI H t ps
  | .mrg a b => H d = some (.tup [.str "merge", .int a, .int b])
  | .ren ss es => ∃ t u, H d = some (.tup [.str "rename", .ref t, .ref u]) ∧ FT H t ss ∧ FT H u es
theorem SdAt.same {H H' : Hp} {d : Addr} {x : Sd} (h : SdAt H d x) (s : Same H H') : SdAt H' d x := by
  cases x with
  | spl => obtain ⟨t, h1, h2⟩ := h; exact ⟨t, s _ _ h1, h2.same s⟩
  | mrg => exact s _ _ h
  | ren => obtain ⟨t, u, h1, h2, h3⟩ := h; exact ⟨t, u, s _ _ h1, h2.same s, h3.same s⟩
/-- how many edges enter a state -/
def inN (ps : Ps) (s : Int) : Nat := (ps.filter fun p => decide (p.2 = s)).length
theorem inN_snoc (ps : Ps) (p : Int × Int) (s : Int) : inN (ps ++ [p]) s = inN ps s + (if p.2 = s then 1 else 0) := by
  unfold inN
  rw [List.filter_append, List.length_append]
  by_cases h : p.2 = s
  · rw [if_pos h, List.filter_cons_of_pos (by rw [decide_eq_true h])]
    rfl
  · rw [if_neg h, List.filter_cons_of_neg (by rw [decide_eq_false h]; exact Bool.false_ne_true)]
    rfl
/-- a step that a plan allows -/
def SdOk (n : Nat) (ps : Ps) : Sd → Prop
  | .spl s part => SplOk n ps s part ∧ n < 8 ∧ inN ps s + ps.length ≤ 24
  | .mrg a b => (a, b) ∈ mrgs n ps
  | .ren ss es => PmN n ss ∧ PmN ps.length es
/-- the rows of numbers that leave the states, none of them the bag -/
structure LvAt (b : Addr) (H : Hp) (D : Addr) (ws : List (Addr × List Int)) (ps : Ps) : Prop where
  ls : H D = some (.lst (ws.map fun e => V.ref e.1))
  nb : D ≠ b
  row : ∀ e ∈ ws, H e.1 = some (.lst (e.2.map V.int)) ∧ e.1 ≠ b
  val : ∀ (i : Nat) (e : Addr × List Int), ws[i]? = some e → e.2 = lvL ps (i : Int)
theorem LvAt.keep {b : Addr} {H H' : Hp} {D : Addr} {ws : List (Addr × List Int)} {ps : Ps} (h : LvAt b H D ws ps) (k : KeepB b H H') : LvAt b H' D ws ps := ⟨k _ _ h.nb h.ls, h.nb, fun e he => by
  obtain ⟨h1, h2⟩ := h.row e he
  exact ⟨k _ _ h2 h1, h2⟩, h.val⟩
theorem LvAt.same {b : Addr} {H H' : Hp} {D : Addr} {ws : List (Addr × List Int)} {ps : Ps} (h : LvAt b H D ws ps) (s : Same H H') : LvAt b H' D ws ps := h.keep (.of_same s)
/-- states that can be split -/
def Able (n : Int) (ps : Ps) (xs : List Int) : Prop := ∀ z ∈ xs, 0 ≤ z ∧ z < n ∧ 1 < (lvL ps z).length ∧ inN ps z + ps.length ≤ 24
abbrev NSf : List Str := ["_law_bag_here", "_law_plan_here", "_law_size", "_law_pairs", "_law_state", "_law_k", "_law_leaving", "_law_pair", "_law_able", "_law_way", "_law_mergers_here", "_law_one", "_law_other", "_law_part"]
abbrev scF1 : Scope := { kind := .function, names := [(".0", .local), ("_law_state", .cell), ("range", .globalImplicit), ("len", .globalImplicit), ("_law_pairs", .cell)], isGenerator := false, isCoroutine := false }
abbrev scF2 : Scope := { kind := .function, names := [(".0", .local), ("_law_state", .cell), ("len", .globalImplicit), ("_law_leaving", .cell), ("_law_pairs", .cell)], isGenerator := false, isCoroutine := false }
abbrev tLen (K : PySem.W.Frag) (t : TE) : TE := tCB (fun xs H Q => ∃ p ys, xs = [V.ref p] ∧ (SqL K H p ys ∨ SqT K H p ys) ∧ Q (.int ys.length) H) (tCons t tNil)
abbrev tLv1 (K : PySem.W.Frag) : TE := tLc (iRng1 (tCons (tLen K (tVar 3)) tNil)) (gName 5) (tTest (tOp rEq (tOp (rIxT K) (tOp (rIxL K) (tVar 3) (tVar 5)) (tC (.int 0))) (tVar 4))) (tVar 5) [5]
abbrev tIn1 (K : PySem.W.Frag) : TE := tLc (iSeqA K (tVar 3)) (gName 7) (tTest (tOp rEq (tOp (rIxT K) (tVar 7) (tC (.int 1))) (tVar 4))) (tC (.int 1)) [7]
abbrev tAb (K : PySem.W.Frag) : TT := tAnd (tTest (tOp (rI0 fun i j => .bl (decide (j < i))) (tLen K (tOp (rIxL K) (tVar 6) (tVar 4))) (tC (.int 1)))) (tTest (tOp (rI0 fun i j => .bl (decide (i ≤ j))) (tOp (rI0 fun i j => .int (i + j)) (tLen K (tIn1 K)) (tLen K (tVar 3))) (tC (.int 24))))
section
variable {P : Program} {w : World} {K : PySem.W.Frag} {mg : Str → Option Value} {base : Heap} {f : Addr} {fd : FuncData} {k : Nat}
theorem scStF : FnScope NSf ["_law_bag_here", "_law_plan_here"] (defScope sStF) := ⟨rfl, rfl, rfl, by decide +kernel, rfl, by decide +kernel, by decide +kernel⟩
/-- the numbers of the edges that leave a state -/
theorem lv1 {H : Hp} {q : Addr} {ts : Es} {s : Int} {v0 v1 v2 v5 v6 v7 v8 v9 v10 v11 v12 v13 : Option V} {Q : VK} (hq : H q = some (.lst (vsOf ts))) (ed : Ed H ts) (hl : ts.length ≤ 60)
    (h : ∀ (D : Addr) (H' : Hp), Same H H' → H D = none → H' D = some (.lst ((lvL (psOf ts) s).map V.int)) → Q (.ref D) H') :
    tLv1 K [v0, v1, v2, some (.ref q), some (.int s), v5, v6, v7, v8, v9, v10, v11, v12, v13] H Q := by
  have ln := vsOf_len ts
  refine ⟨_, rfl, q, _, rfl, .inl (SqL.of hq), _, rfl, by omega, by omega, fun D hD => ?_⟩
  refine lc_it (walk_range (lo := 0) (n := ((vsOf ts).length : Int).toNat)) (fun i H' => Same H H' ∧ H' D = some (.lst ((lvT (psOf ts) s i).map V.int))) ⟨same_upd hD, upd_same⟩ (fun _ _ _ _ => True.intro) ?_ ?_
  · rintro i x H1 H2 hi ⟨sm, eD⟩ ⟨rfl, hxx⟩
    have hxx : x = .int (i : Int) := by
      rw [hxx]
      show V.int (0 + (i : Int)) = _
      rw [Int.zero_add]
    subst hxx
    have hi : i < ts.length := by omega
    obtain ⟨e, he⟩ : ∃ e, ts[i]? = some e := ⟨_, List.getElem?_eq_getElem hi⟩
    refine ⟨rfl, ?_⟩
    refine ⟨_, rfl, _, rfl, q, _, _, .ref e.1, rfl, rfl, SqL.of (sm _ _ hq), es_at he, e.1, _, _, .int e.2.1, rfl, rfl, SqT.of (sm _ _ (ed e (List.mem_of_getElem? he))), rfl, _, rfl, rfl, _, rfl, ite2 (fun hc => ?_) (fun hc => ?_)⟩
    · have hc : e.2.1 = s := by
        have := of_decide_eq_true hc
        injection this
      refine ⟨_, rfl, _, eD, ?_, ?_, ?_⟩
      · rw [List.length_map]
        have := lvT_len (psOf ts) s i
        exact small1000 (by omega)
      · intro b o e
        rw [upd_ne (ne_of_none e hD)]
        exact sm _ _ e
      · rw [upd_same, lvT_succ, psOf_pat he, if_pos hc, List.map_append]
        rfl
    · have hc : ¬ e.2.1 = s := fun z => hc (decide_eq_true (congrArg V.int z))
      refine ⟨sm, ?_⟩
      rw [eD, lvT_succ, psOf_pat he, if_neg hc, List.append_nil]
  · rintro H1 ⟨sm, eD⟩
    rw [Int.toNat_natCast, ln, ← psL_len ts] at eD
    exact h D H1 sm hD eD
/-- ones for the edges that enter a state -/
theorem in1 {H : Hp} {q : Addr} {ts : Es} {s : Int} {v0 v1 v2 v5 v6 v7 v8 v9 v10 v11 v12 v13 : Option V} {Q : VK} (hq : H q = some (.lst (vsOf ts))) (ed : Ed H ts) (hl : ts.length ≤ 60)
    (h : ∀ (D : Addr) (H' : Hp) (xs : List V), Same H H' → H' D = some (.lst xs) → xs.length = inN (psOf ts) s → Q (.ref D) H') :
    tIn1 K [v0, v1, v2, some (.ref q), some (.int s), v5, v6, v7, v8, v9, v10, v11, v12, v13] H Q := by
  have ln := vsOf_len ts
  refine ⟨_, rfl, q, _, SqL, rfl, .inl rfl, SqL.of hq, fun J w D hD => ?_⟩
  refine lc_it w (fun i H' => Same H H' ∧ ∃ xs : List V, H' D = some (.lst xs) ∧ xs.length = inN ((psOf ts).take i) s) ⟨same_upd hD, [], upd_same, rfl⟩ (fun i H' _ p => SqL.of (p.1 _ _ hq)) ?_ ?_
  · rintro i x H1 H2 hi ⟨sm, xs, eD, hx⟩ ⟨rfl, gx⟩
    obtain ⟨e, he, rfl⟩ := vsOf_at gx
    have lx : xs.length ≤ 60 := by
      have : inN ((psOf ts).take i) s ≤ ((psOf ts).take i).length := List.length_filter_le _ _
      rw [List.length_take, psL_len] at this
      omega
    have tk := take_snoc (psOf_at he)
    refine ⟨rfl, ?_⟩
    refine ⟨_, rfl, e.1, _, _, .int e.2.2, rfl, rfl, SqT.of (sm _ _ (ed e (List.mem_of_getElem? he))), rfl, _, rfl, rfl, _, rfl, ite2 (fun hc => ?_) (fun hc => ?_)⟩
    · have hc : e.2.2 = s := by
        have := of_decide_eq_true hc
        injection this
      refine ⟨_, eD, ?_, ?_, xs ++ [.int 1], upd_same, ?_⟩
      · exact small1000 (by omega)
      · intro b o e
        rw [upd_ne (ne_of_none e hD)]
        exact sm _ _ e
      · rw [List.length_append, List.length_singleton, tk, inN_snoc, if_pos hc, hx]
    · have hc : ¬ e.2.2 = s := fun z => hc (decide_eq_true (congrArg V.int z))
      exact ⟨sm, xs, eD, by rw [tk, inN_snoc, if_neg hc, hx, Nat.add_zero]⟩
  · rintro H1 ⟨sm, xs, eD, hx⟩
    rw [ln, ← psL_len ts, List.take_length] at hx
    exact h D H1 xs sm eD hx
theorem abL {H : Hp} {q : Addr} {ts : Es} {s : Int} {v0 v1 v2 v5 v6 v7 v8 v9 v10 v11 v12 v13 : Option V} {Q : VK} (hq : H q = some (.lst (vsOf ts))) (ed : Ed H ts) (hl : ts.length ≤ 60) (h : ∀ H' : Hp, Same H H' → Q (.bl (decide (((inN (psOf ts) s : Nat) : Int) + ((ts.length : Nat) : Int) ≤ 24))) H') :
    tOp (rI0 fun i j => .bl (decide (i ≤ j))) (tOp (rI0 fun i j => .int (i + j)) (tLen K (tIn1 K)) (tLen K (tVar 3))) (tC (.int 24)) [v0, v1, v2, some (.ref q), some (.int s), v5, v6, v7, v8, v9, v10, v11, v12, v13] H Q := by
  have g := in1 (K := K) (v0 := v0) (v1 := v1) (v2 := v2) (v5 := v5) (v6 := v6) (v7 := v7) (v8 := v8) (v9 := v9) (v10 := v10) (v11 := v11) (v12 := v12) (v13 := v13) (s := s) hq ed hl
    (Q := fun x H1 => ∃ p ys, [x] = [V.ref p] ∧ (SqL K H1 p ys ∨ SqT K H1 p ys) ∧ tLen K (tVar 3) [v0, v1, v2, some (.ref q), some (.int s), v5, v6, v7, v8, v9, v10, v11, v12, v13] H1 fun y H2 => rI0 (fun i j => .int (i + j)) (.int (ys.length : Int)) y H2 fun z H3 => rI0 (fun i j => .bl (decide (i ≤ j))) z (.int 24) H3 Q)
    fun D2 H4 ys s4 e4 ly => ⟨D2, ys, rfl, .inl (SqL.of e4), _, rfl, q, _, rfl, .inl (SqL.of (s4 _ _ hq)), _, _, rfl, rfl, _, _, rfl, rfl, by rw [ly, vsOf_len]; exact h _ s4⟩
  exact g
end
end Lw
set_option Elab.async false
set_option linter.all false
set_option maxRecDepth 100000
namespace Lw
open PySem L2
def spStF : Sp := fun vs H Q _ => ∃ (b l p q : Addr) (ns : List Int) (n : Int) (ts : Es), vs = [.ref b, .ref p] ∧ BagAt H b l ns ∧ PlanAt H p q n ts ∧ n ≤ 8 ∧ ts.length ≤ 40 ∧
  ∀ (d : Addr) (H' : Hp) (x : Sd), KeepB b H H' → BagAt H' b l ns → SdAt H' d x → SdOk n.toNat (psOf ts) x → Q (.ref d) H'
theorem ne_is (xs : List Int) : (!PyData.eqv (.list (xs.map PyData.int)) (.list [])) = !xs.isEmpty := by
  cases xs <;> rfl
theorem three : 3 ≤ sizeLine := by decide
/-- what is known at the choice -/
structure Ch (b l : Addr) (ns : List Int) (H : Hp) (p q : Addr) (n : Int) (ts : Es) (Lv : Addr) (ws : List (Addr × List Int)) (A : Addr) (zs : List Int) (M : Addr) (us : Es) : Prop where
  bag : BagAt H b l ns
  pl : PlanAt H p q n ts
  lv : LvAt b H Lv ws (psOf ts)
  ab : H A = some (.lst (zs.map V.int))
  na : A ≠ b
  al : Able n (psOf ts) zs
  mg : LsAt H M us
  me : psOf us = mrgs n.toNat (psOf ts)
  nm : M ≠ b
  lw : ws.length = n.toNat
  lz : zs.length ≤ 8
theorem Ch.keep {b l : Addr} {ns : List Int} {H H' : Hp} {p q : Addr} {n : Int} {ts : Es} {Lv : Addr} {ws : List (Addr × List Int)} {A : Addr} {zs : List Int} {M : Addr} {us : Es} (c : Ch b l ns H p q n ts Lv ws A zs M us) (k : KeepB b H H') (B : BagAt H' b l ns) : Ch b l ns H' p q n ts Lv ws A zs M us :=
  { c with bag := B, pl := c.pl.keep' c.bag k, lv := c.lv.keep k, ab := k _ _ c.na c.ab, mg := c.mg.keep c.bag k }
theorem Ch.same {b l : Addr} {ns : List Int} {H H' : Hp} {p q : Addr} {n : Int} {ts : Es} {Lv : Addr} {ws : List (Addr × List Int)} {A : Addr} {zs : List Int} {M : Addr} {us : Es} (c : Ch b l ns H p q n ts Lv ws A zs M us) (s : Same H H') : Ch b l ns H' p q n ts Lv ws A zs M us := c.keep (.of_same s) (c.bag.same s)
abbrev tPu (m : Int) : TE := tCall spPull [] E0 (tCons (tVar 0) (tCons (tC (.int m)) tNil))
section
variable {P : Program} {w : World} {K : PySem.W.Frag} {mg : Str → Option Value} {base : Heap} {f : Addr} {fd : FuncData} {k : Nat}
set_option maxHeartbeats 16000000 in
theorem ok_stf (F : Fun K "_law_step_for" "_law_step_for" sStF f fd) (T : Bi mg) (cP : C8.Cal P w K mg base 1 "_law_pull" spPull []) (cO : C8.Cal P w K mg base 2 "_law_of" (spOf K) []) (cM : C8.Cal P w K mg base 2 "_law_mergers" spMgrs []) (cS : C8.Cal P w K mg base 2 "_law_shuffled" spShuf []) :
    FnOk P w K mg base CX0 (k + 3) f fd ["_law_bag_here", "_law_plan_here"] spStF := by
  refine F.ok scStF (fun vs H Q E h => ?_) (fun cdv A outer s H vs Q E hr h => ?_)
  · obtain ⟨b, l, p, q, ns, n, ts, rfl, _⟩ := h
    rfl
  · obtain ⟨b, l, p, q, ns, n, ts, rfl, B, PA, hn, ht9, qq⟩ := h
    have n1 := PA.n1
    have lvs : (vsOf ts).length = ts.length := by
      unfold vsOf
      rw [List.length_map]
    have t1 : 1 ≤ ts.length := by
      obtain ⟨e, he, _⟩ := PA.va.sr 0 (Int.le_refl 0) (by omega)
      exact List.length_pos_of_mem he
    refine ⟨_, pss_cons (ps_asg (pv 1) (pg_tup rfl (pgs_cons (pg_name (i := 2) scStF.nd rfl (.inl rfl)) (pgs_cons (pg_name (i := 3) scStF.nd rfl (.inr rfl)) pgs_nil))))
      (pss_cons (ps_set (i := 6) scStF.nd rfl (.inr rfl)
        (pe_lc (own := [("_law_state", 4)]) (g := gName 4) (tt := tYes) (te := tLv1 K) rfl scStF.nd (pi_range1 (by rfl) T.range (pa_cons (pv 2) pa_nil)) (blkOk_by (N := NSf) (sc := defScope sStF) (by decide +kernel))
          (fun _ _ _ _ _ => by exact pg_name (i := 4) scStF.nd rfl (Or.inr rfl)) (fun _ _ _ _ _ => pts_nil)
          (fun _ _ _ _ _ => by exact (pe_lc (own := [("_law_k", 5)]) (g := gName 5) (tt := tTest (tOp rEq (tOp (rIxT K) (tOp (rIxL K) (tVar 3) (tVar 5)) (tC (.int 0))) (tVar 4))) (te := tVar 5) rfl scStF.nd (pi_range1 (by rfl) T.range (pa_cons (pe_callB call_len_seq (by rfl) T.len PySem.boot_len (pa_cons (pv 3) pa_nil)) pa_nil)) (blkOk_by (N := NSf) (sc := scF1) (by decide +kernel))
            (fun _ _ _ _ _ => by exact pg_name (i := 5) scStF.nd rfl (Or.inl rfl))
            (fun _ _ _ _ _ => by exact pts_one (pt_cmpR op_eq (pe_ix ix_tup (pe_ix ix_list (pv 3) (pv 5) (fun _ _ => rfl)) pe_int (fun _ _ => rfl)) (pv 4) (nomark _)))
            (fun _ _ _ _ _ => by exact pv 5)))))
      (C8.pss_cut (ps_setLc (i := 8) (own := [("_law_state", 4)]) (g := gName 4) (tt := tAb K) (te := tVar 4) rfl scStF.nd rfl rfl (sw_true rfl rfl rfl (by decide +kernel)) (pi_range1 (by rfl) T.range (pa_cons (pv 2) pa_nil)) (blkOk_by (N := NSf) (sc := defScope sStF) (by decide +kernel))
          (fun _ _ _ _ _ => by exact pg_name (i := 4) scStF.nd rfl (Or.inr rfl))
          (fun _ _ _ _ _ => by exact pts_one (PW.pt (pw_and (pt_cmpR op_gt (pe_callB call_len_seq (by rfl) T.len PySem.boot_len (pa_cons (pe_ix ix_list (pv 6) (pv 4) (fun _ _ => rfl)) pa_nil)) pe_int (nomark _))
            (pw_and1 (pt_cmpR op_le (pe_op op_add (pe_callB call_len_seq (by rfl) T.len PySem.boot_len (pa_cons
                (pe_lc (own := [("_law_pair", 7)]) (g := gName 7) (tt := tTest (tOp rEq (tOp (rIxT K) (tVar 7) (tC (.int 1))) (tVar 4))) (te := tC (.int 1)) rfl scStF.nd (pi_seqA (pv 3)) (blkOk_by (N := NSf) (sc := scF2) (by decide +kernel))
                  (fun _ _ _ _ _ => by exact pg_name (i := 7) scStF.nd rfl (Or.inl rfl))
                  (fun _ _ _ _ _ => by exact pts_one (pt_cmpR op_eq (pe_ix ix_tup (pv 7) pe_int (fun _ _ => rfl)) (pv 4) (nomark _)))
                  (fun _ _ _ _ _ => by exact pe_int)) pa_nil)) (pe_callB call_len_seq (by rfl) T.len PySem.boot_len (pa_cons (pv 3) pa_nil))) pe_int (nomark _))))))
          (fun _ _ _ _ _ => by exact pv 4))
      (C8.pss_cut (ps_par (i := 9) (j := 10) (by rfl) scStF.nd rfl rfl (by decide) rfl rfl (pa_cons (C8.pe_c cP hr (by omega) (by rfl) (pa_cons (pv 0) (pa_cons pe_int pa_nil))) (pa_cons (C8.pe_c cM hr (by omega) (by rfl) (pa_cons (pv 1) pa_nil)) pa_nil)) (by rfl))
      (C8.pss_cut (ps_if (PW.pt (pw_and (pt_cmpR op_lt (pv 9) pe_int (nomark _)) (pw_and1 (pt_cmpR (op_neD hr.units) (pv 10) (pe_lst pa_nil) (nomark _)))))
          (pss_cons (ps_asg (C8.pe_c cO hr (by omega) (by rfl) (pa_cons (pv 0) (pa_cons (pv 10) pa_nil))) (pg_tup rfl (pgs_cons (pg_name (i := 11) scStF.nd rfl (.inl rfl)) (pgs_cons (pg_name (i := 12) scStF.nd rfl (.inl rfl)) pgs_nil))))
          (pss_one (ps_ret (pe_tup (pa_cons pe_str (pa_cons (pv 11) (pa_cons (pv 12) pa_nil))))))) pss_nil)
      (C8.pss_cut (ps_if (PW.pt (pw_and (pt_cmpR op_lt (pv 9) pe_int (nomark _)) (pw_and (pt_cmpR (op_neD hr.units) (pv 8) (pe_lst pa_nil) (nomark _)) (pw_and1 (pt_cmpR op_lt (pv 2) pe_int (nomark _))))))
          (pss_cons (ps_set (i := 4) scStF.nd rfl (.inl rfl) (C8.pe_c cO hr (by omega) (by rfl) (pa_cons (pv 0) (pa_cons (pv 8) pa_nil))))
          (pss_cons (ps_setLc (i := 13) (own := [("_law_k", 5)]) (g := gName 5) (tt := tTest (tOp rEq (tPu 2) (tC (.int 0)))) (te := tVar 5) rfl scStF.nd rfl rfl (sw_true rfl rfl rfl (by decide +kernel)) (pi_seqA (pe_ix ix_list (pv 6) (pv 4) (fun _ _ => rfl))) (blkOk_by (N := NSf) (sc := defScope sStF) (by decide +kernel))
            (fun _ _ _ _ _ => by exact pg_name (i := 5) scStF.nd rfl (Or.inl rfl))
            (fun _ _ _ _ _ => by exact pts_one (pt_cmpR op_eq (C8.pe_c cP hr (by omega) (by rfl) (pa_cons (pv 0) (pa_cons pe_int pa_nil))) pe_int (nomark _)))
            (fun _ _ _ _ _ => by exact pv 5))
          (C8.pss_cut (ps_set (i := 13) scStF.nd rfl (.inl rfl) (pe_ifExp (pt_chain op_lt op_lt pe_int (pe_callB call_len_seq (by rfl) T.len PySem.boot_len (pa_cons (pv 13) pa_nil)) (pe_callB call_len_seq (by rfl) T.len PySem.boot_len (pa_cons (pe_ix ix_list (pv 6) (pv 4) (fun _ _ => rfl)) pa_nil))) (pv 13) (pe_slice sl_list (pe_ix ix_list (pv 6) (pv 4) (fun _ _ => rfl)) (po_some pe_int) po_none)))
          (pss_one (ps_ret (pe_tup (pa_cons pe_str (pa_cons (pv 4) (pa_cons (pe_callTy call_tuple_of (by rfl) T.tuple (by decide +kernel) (pa_cons (pv 13) pa_nil)) pa_nil))))))))) pss_nil)
      (pss_one (ps_ret (pe_tup (pa_cons pe_str (pa_cons (C8.pe_c cS hr (by omega) (by rfl) (pa_cons (pv 0) (pa_cons (pv 2) pa_nil))) (pa_cons (C8.pe_c cS hr (by omega) (by rfl) (pa_cons (pv 0) (pa_cons (pe_callB call_len_seq (by rfl) T.len PySem.boot_len (pa_cons (pv 3) pa_nil)) pa_nil))) pa_nil))))))))))), ?_⟩
    refine ⟨_, rfl, p, _, rfl, SqT.of PA.tp, rfl, _, _, rfl, _, _, rfl, rfl, ?_⟩
    -- the rows that leave
    refine ⟨_, rfl, n, rfl, by omega, by omega, fun D hD => ?_⟩
    have nD := B.ne_new hD
    refine lc_it (walk_range (lo := 0) (n := n.toNat)) (fun i H' => ∃ ws : List (Addr × List Int), ws.length = i ∧ Same H H' ∧ LvAt b H' D ws (psOf ts) ∧ ∀ e ∈ ws, e.1 ≠ D) ⟨[], rfl, same_upd hD, ⟨upd_same, nD, (fun e he => by cases he), (fun i e he => by simp at he)⟩, fun e he => by cases he⟩ (fun _ _ _ _ => True.intro) ?_ ?_
    · rintro i x H1 H2 hi ⟨ws, hws, sm, lv, nd⟩ ⟨rfl, hx⟩
      have hx : x = .int (i : Int) := by
        rw [hx]
        show V.int (0 + (i : Int)) = _
        rw [Int.zero_add]
      subst hx
      refine ⟨rfl, ?_⟩
      refine yes_if ?_
      show tLv1 K [some (.ref b), some (.ref p), some (.int n), some (.ref q), some (.int (i : Int)), none, none, none, none, none, none, none, none, none] H2 _
      refine lv1 (sm _ _ PA.ls) (PA.ed.same sm) (by omega) fun D1 H3 s3 hD1 e1 => ?_
      have lv3 := lv.same s3
      have n1D : D1 ≠ D := fun z => by
        rw [z, lv.ls] at hD1
        cases hD1
      refine ⟨_, lv3.ls, ?_, ws ++ [(D1, lvL (psOf ts) (i : Int))], by simp [hws], ?_, ⟨?_, nD, ?_, ?_⟩, ?_⟩
      · rw [List.length_map]
        exact small1000 (by omega)
      · intro c o ec
        rw [upd_ne (ne_of_none ec hD)]
        exact s3 _ _ (sm _ _ ec)
      · rw [upd_same, List.map_append]
        rfl
      · intro e he
        rcases List.mem_append.mp he with he | he
        · rw [upd_ne (nd e he)]
          exact lv3.row e he
        · rw [List.mem_singleton.mp he, upd_ne n1D]
          exact ⟨e1, (B.same sm).ne_new hD1⟩
      · intro j e he
        by_cases c : j < ws.length
        · rw [List.getElem?_append_left c] at he
          exact lv.val j e he
        · have cj : j = ws.length := by
            have := (List.getElem?_eq_some_iff.mp he).1
            rw [List.length_append, List.length_singleton] at this
            omega
          rw [cj, List.getElem?_concat_length] at he
          cases he
          rw [cj, hws]
      · intro e he
        rcases List.mem_append.mp he with he | he
        · exact nd e he
        · rw [List.mem_singleton.mp he]
          exact n1D
    rintro H1 ⟨ws, hws, sm1, lv, -⟩
    -- the states that can be split
    refine ⟨fun σ H' => ∃ (C : Addr) (zs : List Int), σ = [some (.ref b), some (.ref p), some (.int n), some (.ref q), none, none, some (.ref D), none, some (.ref C), none, none, none, none, none] ∧ Same H H' ∧ LvAt b H' D ws (psOf ts) ∧ H' C = some (.lst (zs.map V.int)) ∧ C ≠ b ∧ Able n (psOf ts) zs ∧ zs.length ≤ 8, ?_, ?_⟩
    · refine ⟨_, rfl, n, rfl, by omega, by omega, fun C hC => ?_⟩
      have nC := (B.same sm1).ne_new hC
      refine lc_it (walk_range (lo := 0) (n := n.toNat)) (fun i H' => ∃ zs : List Int, Same H1 H' ∧ H' C = some (.lst (zs.map V.int)) ∧ zs.length ≤ i ∧ Able n (psOf ts) zs) ⟨[], same_upd hC, upd_same, Nat.le_refl _, fun e he => by cases he⟩ (fun _ _ _ _ => True.intro) ?_ ?_
      · rintro i x H2 H3 hi ⟨zs, s2, eC, hz, ab⟩ ⟨rfl, hx⟩
        have hx : x = .int (i : Int) := by
          rw [hx]
          show V.int (0 + (i : Int)) = _
          rw [Int.zero_add]
        subst hx
        obtain ⟨e, he⟩ : ∃ e, ws[i]? = some e := ⟨_, List.getElem?_eq_getElem (by omega)⟩
        have lv2 := lv.same s2
        refine ⟨rfl, ?_⟩
        refine ⟨_, rfl, _, rfl, D, _, _, .ref e.1, rfl, rfl, SqL.of lv2.ls, atI_nat ?_, e.1, _, rfl, .inl (SqL.of (lv2.row e (List.mem_of_getElem? he)).1), _, _, rfl, rfl, _, rfl, ite2 (fun h1 => ?_) (fun h1 => ?_)⟩
        · rw [List.getElem?_map, he]
          rfl
        · have h1 := of_decide_eq_true h1
          rw [List.length_map] at h1
          refine abL (sm1.trans s2 _ _ PA.ls) (PA.ed.same (sm1.trans s2)) (by omega) fun H4 s4 => ⟨_, rfl, ite2 (fun h2 => ?_) (fun h2 => ?_)⟩
          · refine ⟨_, rfl, _, s4 _ _ eC, ?_, zs ++ [(i : Int)], ?_, ?_, ?_, ?_⟩
            · rw [List.length_map]
              exact small1000 (by omega)
            · intro c o ec
              rw [upd_ne (ne_of_none ec hC)]
              exact s4 _ _ (s2 _ _ ec)
            · rw [upd_same, List.map_append]
              rfl
            · rw [List.length_append, List.length_singleton]
              omega
            · intro z hz
              rcases List.mem_append.mp hz with hz | hz
              · exact ab z hz
              · rw [List.mem_singleton.mp hz]
                have h2 := of_decide_eq_true h2
                have hv := lv.val i e he
                refine ⟨by omega, by omega, by rw [← hv]; omega, ?_⟩
                rw [psL_len]
                omega
          · exact ⟨zs, s2.trans s4, s4 _ _ eC, by omega, ab⟩
        · exact if_f rfl ⟨zs, s2, eC, by omega, ab⟩
      · rintro H2 ⟨zs, s2, eC, hz, ab⟩
        exact ⟨C, zs, rfl, sm1.trans s2, lv.same s2, eC, nC, ab, by omega⟩
    rintro _ H2 ⟨C, zs, rfl, sm2, lv, eC, nC, ab, lz⟩
    have B2 := B.same sm2
    -- the way
    refine ⟨fun σ H' => ∃ (v : Int) (M : Addr) (us : Es), σ = [some (.ref b), some (.ref p), some (.int n), some (.ref q), none, none, some (.ref D), none, some (.ref C), some (.int v), some (.ref M), none, none, none] ∧ KeepB b H H' ∧ Ch b l ns H' p q n ts D ws C zs M us, ?_, ?_⟩
    · refine ⟨_, rfl, b, l, ns, 5, rfl, B2, by decide, by decide, fun v o v0 v1 BO => ?_⟩
      have B3 := B2.upd BO
      have k3 : KeepB b H (upd H2 b o) := (KeepB.of_same sm2).trans .updb
      have lv := lv.keep (KeepB.updb (o := o))
      have eC := KeepB.updb (o := o) _ _ nC eC
      generalize upd H2 b o = H3 at *
      refine ⟨_, rfl, p, q, n, ts, rfl, PA.keep' B k3, by omega, fun M H4 us s4 nM ma hu => ?_⟩
      refine ⟨_, _, rfl, v, M, us, rfl, k3.trans (.of_same s4), ?_⟩
      have B5 := B3.same s4
      exact ⟨B5, (PA.keep' B k3).same s4, lv.same s4, s4 _ _ eC, nC, ab, ma, hu, B5.ne_vs ma.ls, hws, lz⟩
    rintro _ H3 ⟨v, M, us, rfl, k3, ch⟩
    -- a merge
    refine ⟨fun σ H' => σ = [some (.ref b), some (.ref p), some (.int n), some (.ref q), none, none, some (.ref D), none, some (.ref C), some (.int v), some (.ref M), none, none, none] ∧ KeepB b H H' ∧ Ch b l ns H' p q n ts D ws C zs M us, ?_, ?_⟩
    · refine ⟨_, rfl, _, _, rfl, rfl, _, rfl, ite2 (fun h1 => ?_) (fun h1 => if_f rfl ⟨rfl, k3, ch⟩)⟩
      refine ⟨_, rfl, (by show 0 ≤ sizeLine; exact Nat.zero_le _), fun z hz => ?_⟩
      have s4 := same_upd (o := .lst []) hz
      have k4 := k3.trans (.of_same s4)
      have ch := ch.same s4
      refine ⟨_, _, .lst (SqL.of ch.mg.ls) (dEs_at ch.mg.ed), .lst (SqL.of upd_same) .nil, shL us, rfl, _, rfl, ?_⟩
      generalize upd H3 z (.lst []) = H4 at *
      rw [ne_es]
      cases us with
      | nil => exact if_f rfl ⟨rfl, k4, ch⟩
      | cons u0 us =>
        refine if_t rfl ?_
        refine ⟨_, rfl, _, rfl, b, l, M, ns, _, rfl, ch.bag, SqL.of ch.mg.ls, ch.nm, by unfold vsOf; simp, ?_, fun i v o hv BO => ?_⟩
        · unfold vsOf
          rw [List.length_map]
          have h1 := congrArg List.length ch.me
          have h2 := mrgsTo_len n.toNat (psOf ts) n.toNat
          have h3 : n.toNat * n.toNat ≤ 8 * 8 := Nat.mul_le_mul (by omega) (by omega)
          rw [psL_len] at h1
          unfold mrgs at h1
          omega
        obtain ⟨e, he, rfl⟩ := vsOf_at hv
        have mem := List.mem_of_getElem? he
        have ch5 := ch.keep (KeepB.updb (o := o)) (ch.bag.upd BO)
        have k5 := k4.trans (KeepB.updb (o := o))
        generalize upd H4 b o = H5 at *
        refine ⟨e.1, _, rfl, SqT.of (ch5.mg.ed e mem), rfl, _, _, rfl, _, _, rfl, rfl, ?_⟩
        refine ⟨_, rfl, _, rfl, three, fun d hd => ?_⟩
        refine qq d _ (.mrg e.2.1 e.2.2) (k5.new hd) (ch5.bag.new hd) upd_same ?_
        show (e.2.1, e.2.2) ∈ mrgs n.toNat (psOf ts)
        rw [← ch5.me]
        exact List.mem_map.mpr ⟨e, mem, rfl⟩
    rintro _ H4 ⟨rfl, k4, ch⟩
    -- a split
    refine ⟨fun σ H' => σ = [some (.ref b), some (.ref p), some (.int n), some (.ref q), none, none, some (.ref D), none, some (.ref C), some (.int v), some (.ref M), none, none, none] ∧ KeepB b H H' ∧ Ch b l ns H' p q n ts D ws C zs M us, ?_, ?_⟩
    · refine ⟨_, rfl, _, _, rfl, rfl, _, rfl, ite2 (fun h1 => ?_) (fun h1 => if_f rfl ⟨rfl, k4, ch⟩)⟩
      refine ⟨_, rfl, (by show 0 ≤ sizeLine; exact Nat.zero_le _), fun z hz => ?_⟩
      have s5 := same_upd (o := .lst []) hz
      have k5 := k4.trans (.of_same s5)
      have ch := ch.same s5
      refine ⟨_, _, .lst (SqL.of ch.ab) (dp_ints _), .lst (SqL.of upd_same) .nil, shl_ints _, rfl, _, rfl, ?_⟩
      generalize upd H4 z (.lst []) = H5 at *
      rw [ne_is]
      by_cases hz0 : zs = []
      · exact if_f (by rw [hz0]; rfl) (if_f rfl ⟨rfl, k5, ch⟩)
      refine if_t (by cases zs with | nil => exact absurd rfl hz0 | cons => rfl) ?_
      refine ⟨_, rfl, _, _, rfl, rfl, _, rfl, ite2 (fun h8 => ?_) (fun h8 => ⟨rfl, k5, ch⟩)⟩
      have h8 := of_decide_eq_true h8
      refine ⟨_, rfl, _, rfl, b, l, C, ns, _, rfl, ch.bag, SqL.of ch.ab, ch.na, by simpa using hz0, ?_, fun i v2 o hv BO => ?_⟩
      · rw [List.length_map]
        exact Nat.le_trans ch.lz (by decide)
      rw [List.getElem?_map] at hv
      obtain ⟨st, hst, rfl⟩ := Option.map_eq_some_iff.mp hv
      obtain ⟨st0, st4, stl, sti⟩ := ch.al st (List.mem_of_getElem? hst)
      obtain ⟨e, he⟩ : ∃ e, ws[st.toNat]? = some e := ⟨_, List.getElem?_eq_getElem (by rw [ch.lw]; omega)⟩
      have mem := List.mem_of_getElem? he
      have est : st = ((st.toNat : Nat) : Int) := (Int.toNat_of_nonneg st0).symm
      have ev : e.2 = lvL (psOf ts) st := by
        have := ch.lv.val _ e he
        rw [← est] at this
        exact this
      have hel : 1 < e.2.length := by
        rw [ev]
        exact stl
      have le40 : e.2.length ≤ 40 := by
        have h1 := lvT_len (psOf ts) st (psOf ts).length
        have h2 := psL_len ts
        rw [ev]
        show (lvT (psOf ts) st (psOf ts).length).length ≤ 40
        omega
      have ch6 := ch.keep (KeepB.updb (o := o)) (ch.bag.upd BO)
      have k6 := k5.trans (KeepB.updb (o := o))
      generalize upd H5 b o = H6 at *
      have aix : atI (ws.map fun e => V.ref e.1) st = some (.ref e.1) := by
        rw [est]
        refine atI_nat ?_
        rw [List.getElem?_map, he]
        rfl
      obtain ⟨r1, r2⟩ := ch6.lv.row e mem
      refine ⟨_, rfl, _, rfl, D, _, _, .ref e.1, rfl, rfl, SqL.of ch6.lv.ls, aix, e.1, _, SqL, rfl, .inl rfl, SqL.of r1, fun J w D3 hD3 => ?_⟩
      have n3 := ch6.bag.ne_new hD3
      refine lc_it w (fun i H' => KeepB b H6 H' ∧ BagAt H' b l ns ∧ ∃ ys : List Int, H' D3 = some (.lst (ys.map V.int)) ∧ ys.Sublist (e.2.take i)) ⟨.of_same (same_upd hD3), ch6.bag.new hD3, [], upd_same, List.nil_sublist _⟩ (fun i H' _ p => SqL.of (p.1 _ _ r2 r1)) ?_ ?_
      · rintro i x H7 H8 hi ⟨k7, B7, ys, e7, m7⟩ ⟨rfl, gx⟩
        rw [List.getElem?_map] at gx
        obtain ⟨y, hy, rfl⟩ := Option.map_eq_some_iff.mp gx
        rw [List.length_map] at hi
        have ly : ys.length ≤ 40 := by
          have := m7.length_le
          rw [List.length_take] at this
          omega
        have tk := take_snoc hy
        refine ⟨rfl, ?_⟩
        refine ⟨_, rfl, b, l, ns, 2, rfl, B7, by decide, by decide, fun pv po p0 p1 BO => ?_⟩
        have B8 := B7.upd BO
        have k8 := k7.trans (KeepB.updb (o := po))
        have e8 := KeepB.updb (o := po) _ _ n3 e7
        generalize upd H8 b po = H9 at *
        refine ⟨rfl, _, rfl, ite2 (fun h => ?_) (fun h => ⟨k8, B8, ys, e8, by rw [tk]; exact m7.trans (List.sublist_append_left _ _)⟩)⟩
        refine ⟨_, rfl, _, e8, ?_, k8.at hD3, B8.off n3 (ne_of_none ch6.bag.sc hD3).symm, ys ++ [y], ?_, ?_⟩
        · rw [List.length_map]
          exact small1000 (by omega)
        · rw [upd_same, List.map_append]
          rfl
        · rw [tk]
          exact m7.append (List.Sublist.refl _)
      rintro H7 ⟨k7, B7, ys, e7, m7⟩
      rw [List.length_map, List.take_length] at m7
      have ch7 := ch6.keep k7 B7
      have k7 := k6.trans k7
      obtain ⟨r1, r2⟩ := ch7.lv.row e mem
      refine ⟨fun σ H' => ∃ (D4 : Addr) (ys : List Int), σ = [some (.ref b), some (.ref p), some (.int n), some (.ref q), some (.int st), none, some (.ref D), none, some (.ref C), some (.int v), some (.ref M), none, none, some (.ref D4)] ∧ KeepB b H H' ∧ BagAt H' b l ns ∧ H' D4 = some (.lst (ys.map V.int)) ∧ SplOk n (psOf ts) st ys, ?_, ?_⟩
      · have fin : ∀ ys : List Int, ys ≠ [] → ys.Sublist e.2 → ys.length < e.2.length → SplOk n (psOf ts) st ys := fun ys h1 h2 h3 => ⟨st0, st4, by rw [← ev]; exact h2, h1, by rw [← ev]; exact h3⟩
        have dr : ∀ (D4 : Addr), H7 D4 = none → ∃ (D5 : Addr) (ys : List Int), [some (V.ref b), some (.ref p), some (.int n), some (.ref q), some (.int st), none, some (.ref D), none, some (.ref C), some (.int v), some (.ref M), none, none, some (.ref D4)] = [some (V.ref b), some (.ref p), some (.int n), some (.ref q), some (.int st), none, some (.ref D), none, some (.ref C), some (.int v), some (.ref M), none, none, some (.ref D5)] ∧ KeepB b H (upd H7 D4 (.lst (cutV (e.2.map V.int) (some 1) none))) ∧ BagAt (upd H7 D4 (.lst (cutV (e.2.map V.int) (some 1) none))) b l ns ∧ upd H7 D4 (.lst (cutV (e.2.map V.int) (some 1) none)) D5 = some (.lst (ys.map V.int)) ∧ SplOk n (psOf ts) st ys := fun D4 hD4 => by
          refine ⟨D4, e.2.drop 1, rfl, k7.new hD4, B7.new hD4, ?_, fin _ ?_ (List.drop_sublist _ _) (by rw [List.length_drop]; omega)⟩
          · rw [upd_same]
            have := cut_hi (xs := e.2.map V.int) (k := 1) (by rw [List.length_map]; omega)
            rw [List.map_drop, ← this]
            rfl
          · intro z
            have := congrArg List.length z
            rw [List.length_drop] at this
            simp at this
            omega
        refine ⟨_, rfl, D3, _, rfl, .inl (SqL.of e7), _, _, rfl, rfl, _, rfl, ite2 (fun h1 => ?_) (fun h1 => ?_)⟩
        · refine ⟨_, rfl, _, rfl, D, _, _, .ref e.1, rfl, rfl, SqL.of ch7.lv.ls, aix, e.1, _, rfl, .inl (SqL.of r1), _, _, rfl, rfl, _, rfl, ite2 (fun h2 => ?_) (fun h2 => ?_)⟩
          · have h2 := of_decide_eq_true h2
            rw [List.length_map, List.length_map] at h2
            refine ⟨_, rfl, D3, ys, rfl, k7, B7, e7, fin ys (fun z => ?_) m7 (by omega)⟩
            rw [z] at h1
            cases h1
          · refine ⟨_, rfl, _, rfl, D, _, _, .ref e.1, rfl, rfl, SqL.of ch7.lv.ls, aix, _, rfl, e.1, _, rfl, SqL.of r1, fun D4 hD4 => dr D4 hD4⟩
        · refine ⟨_, rfl, if_f rfl ?_⟩
          refine ⟨_, rfl, _, rfl, D, _, _, .ref e.1, rfl, rfl, SqL.of ch7.lv.ls, aix, _, rfl, e.1, _, rfl, SqL.of r1, fun D4 hD4 => dr D4 hD4⟩
      · rintro _ H8 ⟨D4, ys, rfl, k8, B8, e8, fy⟩
        refine ⟨_, rfl, _, rfl, D4, _, rfl, .inl ⟨SqL.of e8, fun t ht => ?_⟩⟩
        have k9 := k8.new (o := .tup (ys.map V.int)) ht
        have B9 := B8.new (o := .tup (ys.map V.int)) ht
        refine ⟨three, fun d hd => ?_⟩
        have en : ((n.toNat : Nat) : Int) = n := Int.toNat_of_nonneg (by omega)
        exact qq d _ (.spl st ys) (k9.new hd) (B9.new hd) ⟨t, upd_same, same_upd hd _ _ upd_same⟩ ⟨by rw [en]; exact fy, by omega, sti⟩
    rintro _ H5 ⟨rfl, k5, ch⟩
    -- a renaming
    refine ⟨_, rfl, _, rfl, b, l, ns, n.toNat, (congrArg (fun z => [V.ref b, V.int z]) (Int.toNat_of_nonneg (by omega)).symm), ch.bag, by omega, fun t H6 xs k6 B6 ti pm => ?_⟩
    have ch6 := ch.keep k6 B6
    refine ⟨_, rfl, _, rfl, q, _, rfl, .inl (SqL.of ch6.pl.ls), b, l, ns, _, rfl, B6, by rw [lvs]; omega, fun u H7 ys k7 B7 tj pm2 => ?_⟩
    refine ⟨three, fun d hd => ?_⟩
    rw [lvs] at pm2
    exact qq d _ (.ren xs ys) (((k5.trans k6).trans k7).new hd) (B7.new hd) ⟨t, u, upd_same, (ti.keep B6 k7).same (same_upd hd), tj.same (same_upd hd)⟩ ⟨pm, by rw [psL_len]; exact pm2⟩
end
end Lw
set_option Elab.async false
set_option linter.all false
set_option maxRecDepth 100000
/-! the search for new numbers of states: what it finds, and that it finds one whenever there is one -/
namespace Lw
def srtI (xs : List Int) : List Int := xs.mergeSort fun a b => decide (a ≤ b)
theorem srtI_perm (xs : List Int) : (srtI xs).Perm xs := List.mergeSort_perm _ _
theorem srtI_pw (xs : List Int) : (srtI xs).Pairwise (· ≤ ·) := by
  have := List.pairwise_mergeSort (le := fun a b : Int => decide (a ≤ b)) (fun a b c h1 h2 => by
    have h1 := of_decide_eq_true h1
    have h2 := of_decide_eq_true h2
    exact decide_eq_true (by omega)) (fun a b => by
    by_cases h : a ≤ b
    · simp [h]
    · have : b ≤ a := by omega
      simp [this]) xs
  exact this.imp fun h => of_decide_eq_true h
theorem srt_uniq {xs ys : List Int} (h1 : ys.Perm xs) (h2 : ys.Pairwise (· ≤ ·)) : ys = srtI xs :=
  List.Perm.eq_of_pairwise (le := (· ≤ ·)) (fun a b _ _ h1 h2 => by omega) h2 (srtI_pw xs) (h1.trans (srtI_perm xs).symm)
theorem srt_perm {xs ys : List Int} (h : xs.Perm ys) : srtI xs = srtI ys := srt_uniq ((srtI_perm xs).trans h) (srtI_pw xs)
theorem perm_full {α : Type} [DecidableEq α] : ∀ {xs ys : List α}, xs.Nodup → (∀ x ∈ xs, x ∈ ys) → xs.length = ys.length → xs.Perm ys
  | [], ys, _, _, hl => by
    have : ys = [] := List.length_eq_zero_iff.mp (by simpa using hl.symm)
    rw [this]
  | x :: xs, ys, nd, sub, hl => by
    have hx := sub x List.mem_cons_self
    have p := List.perm_cons_erase hx
    obtain ⟨n1, n2⟩ := List.nodup_cons.mp nd
    have r := perm_full (xs := xs) (ys := ys.erase x) n2 (fun z hz => by
      have h1 := sub z (List.mem_cons_of_mem _ hz)
      have h2 : z ∈ x :: ys.erase x := (p.mem_iff).mp h1
      rcases List.mem_cons.mp h2 with e | e
      · exact (n1 (e ▸ hz)).elim
      · exact e) (by
      have := p.length_eq
      simp only [List.length_cons] at this hl
      omega)
    exact (List.Perm.cons x r).trans p.symm
def rowL (n : Nat) (ps : Ps) (i : Nat) : List Int := (List.range n).map fun j => cnt ps i j
theorem rowL_len (n : Nat) (ps : Ps) (i : Nat) : (rowL n ps i).length = n := by
  unfold rowL
  simp
def prof (n : Nat) (ps : Ps) (i : Nat) : Int × List Int × List Int := (cnt ps i i, srtI (rowL n ps i), srtI (colL n ps i))
def fitB (ps qs : Ps) (s : List Nat) (k b : Nat) : Bool := decide (cnt ps s.length b = cnt qs k (s.getD b 0)) && decide (cnt ps b s.length = cnt qs (s.getD b 0) k)
def fitsB (ps qs : Ps) (s : List Nat) (k : Nat) : Bool := (List.range s.length).all (fitB ps qs s k)
def candB (n : Nat) (ps qs : Ps) (s : List Nat) (k : Nat) : Bool := !decide (k ∈ s) && (decide (prof n qs k = prof n ps s.length) && fitsB ps qs s k)
def cands (n : Nat) (ps qs : Ps) (s : List Nat) : List Nat := (List.range n).filter (candB n ps qs s)
def go (n : Nat) (ps qs : Ps) : Nat → List Nat → Option (List Nat)
  | 0, s => some s
  | d + 1, s => (cands n ps qs s).findSome? fun k => go n ps qs d (s ++ [k])
def vals (n : Nat) (ps qs : Ps) (st : List (List Nat)) : Option (List Nat) := st.findSome? fun s => go n ps qs (n - s.length) s
def exts (n : Nat) (ps qs : Ps) (s : List Nat) : List (List Nat) := (cands n ps qs s).map fun k => s ++ [k]
theorem cands_len (n : Nat) (ps qs : Ps) (s : List Nat) : (cands n ps qs s).length ≤ n := by
  unfold cands
  have := List.length_filter_le (candB n ps qs s) (List.range n)
  simpa using this
theorem vals_full {n : Nat} {ps qs : Ps} {s : List Nat} {r : List (List Nat)} (h : s.length = n) : vals n ps qs (s :: r) = some s := by
  unfold vals
  rw [List.findSome?_cons, h, Nat.sub_self]
  rfl
theorem vals_step {n : Nat} {ps qs : Ps} {s : List Nat} {r : List (List Nat)} (h : s.length < n) : vals n ps qs (s :: r) = vals n ps qs (exts n ps qs s ++ r) := by
  unfold vals exts
  rw [List.findSome?_cons, List.findSome?_append, List.findSome?_map]
  obtain ⟨d, hd⟩ : ∃ d, n - s.length = d + 1 := ⟨n - s.length - 1, by omega⟩
  have e : go n ps qs (n - s.length) s = (cands n ps qs s).findSome? ((fun s => go n ps qs (n - s.length) s) ∘ fun k => s ++ [k]) := by
    rw [hd]
    show (cands n ps qs s).findSome? _ = _
    congr 1
    funext k
    show go n ps qs d (s ++ [k]) = go n ps qs (n - (s ++ [k]).length) (s ++ [k])
    rw [List.length_append, List.length_singleton, show n - (s.length + 1) = d by omega]
  rw [e]
  cases (cands n ps qs s).findSome? ((fun s => go n ps qs (n - s.length) s) ∘ fun k => s ++ [k]) <;> rfl
def wgt (n : Nat) : Nat → Nat
  | 0 => 1
  | d + 1 => 1 + n * wgt n d
def wts (n : Nat) (st : List (List Nat)) : Nat := (st.map fun s => wgt n (n - s.length)).sum
theorem wts_full {n : Nat} {s : List Nat} {r : List (List Nat)} : wts n r < wts n (s :: r) := by
  unfold wts
  rw [List.map_cons, List.sum_cons]
  have : 0 < wgt n (n - s.length) := by
    cases n - s.length with
    | zero => exact Nat.one_pos
    | succ d => unfold wgt; omega
  omega
theorem wts_exts {n d : Nat} {s : List Nat} (h : n - s.length = d + 1) : ∀ ks : List Nat, wts n (ks.map fun k => s ++ [k]) = ks.length * wgt n d := by
  intro ks
  induction ks with
  | nil => simp [wts]
  | cons k ks ih =>
    unfold wts at ih ⊢
    rw [List.map_cons, List.map_cons, List.sum_cons, ih, List.length_append, List.length_singleton, show n - (s.length + 1) = d by omega, List.length_cons, Nat.succ_mul]
    omega
theorem wts_step {n : Nat} {ps qs : Ps} {s : List Nat} {r : List (List Nat)} (h : s.length < n) : wts n (exts n ps qs s ++ r) < wts n (s :: r) := by
  obtain ⟨d, hd⟩ : ∃ d, n - s.length = d + 1 := ⟨n - s.length - 1, by omega⟩
  have e1 := wts_exts hd (cands n ps qs s)
  have e2 : wts n (exts n ps qs s ++ r) = wts n (exts n ps qs s) + wts n r := by
    unfold wts
    rw [List.map_append, List.sum_append]
  have e3 : wts n (s :: r) = wgt n (n - s.length) + wts n r := by
    unfold wts
    rw [List.map_cons, List.sum_cons]
  rw [e2, e3, hd]
  have e4 : wts n (exts n ps qs s) ≤ n * wgt n d := by
    unfold exts
    rw [e1]
    exact Nat.mul_le_mul_right _ (cands_len n ps qs s)
  show _ < 1 + n * wgt n d + _
  omega
/-- numbers for the first states, as the counts ask -/
structure Gd (n : Nat) (ps qs : Ps) (s : List Nat) : Prop where
  nd : s.Nodup
  lt : ∀ x ∈ s, x < n
  ct : ∀ a b : Nat, a < s.length → b < s.length → cnt ps a b = cnt qs (s.getD a 0) (s.getD b 0)
theorem getD_app {s : List Nat} {k b : Nat} (h : b < s.length) : (s ++ [k]).getD b 0 = s.getD b 0 := by
  simp only [List.getD, List.getElem?_append_left h]
theorem getD_last {s : List Nat} {k : Nat} : (s ++ [k]).getD s.length 0 = k := by
  simp only [List.getD, List.getElem?_concat_length, Option.getD_some]
theorem Gd.snoc {n : Nat} {ps qs : Ps} {s : List Nat} {k : Nat} (h : Gd n ps qs s) (c : k ∈ cands n ps qs s) : Gd n ps qs (s ++ [k]) := by
  unfold cands at c
  obtain ⟨c1, c2⟩ := List.mem_filter.mp c
  unfold candB fitsB at c2
  rw [Bool.and_eq_true, Bool.and_eq_true, List.all_eq_true] at c2
  obtain ⟨c2, c3, c4⟩ := c2
  have c2 : k ∉ s := by simpa using c2
  have c3 := congrArg Prod.fst (of_decide_eq_true c3)
  refine ⟨?_, fun x hx => ?_, fun a b ha hb => ?_⟩
  · refine List.nodup_append.mpr ⟨h.nd, by simp, fun a ha b hb => ?_⟩
    rw [List.mem_singleton.mp hb]
    exact fun e => c2 (e ▸ ha)
  · rcases List.mem_append.mp hx with hx | hx
    · exact h.lt x hx
    · rw [List.mem_singleton.mp hx]
      exact List.mem_range.mp c1
  · rw [List.length_append, List.length_singleton] at ha hb
    have f : ∀ b, b < s.length → cnt ps s.length b = cnt qs k (s.getD b 0) ∧ cnt ps b s.length = cnt qs (s.getD b 0) k := fun b hb => by
      have := c4 b (List.mem_range.mpr hb)
      unfold fitB at this
      rw [Bool.and_eq_true] at this
      exact ⟨of_decide_eq_true this.1, of_decide_eq_true this.2⟩
    by_cases h1 : a < s.length
    · by_cases h2 : b < s.length
      · rw [getD_app h1, getD_app h2]
        exact h.ct a b h1 h2
      · rw [show b = s.length by omega, getD_app h1, getD_last]
        exact (f a h1).2
    · rw [show a = s.length by omega, getD_last]
      by_cases h2 : b < s.length
      · rw [getD_app h2]
        exact (f b h2).1
      · rw [show b = s.length by omega, getD_last]
        exact c3.symm
theorem go_sound {n : Nat} {ps qs : Ps} : ∀ (d : Nat) (s t : List Nat), go n ps qs d s = some t → s.length + d = n → Gd n ps qs s → t.length = n ∧ Gd n ps qs t
  | 0, s, t, h, hl, g => by
    cases h
    exact ⟨by omega, g⟩
  | d + 1, s, t, h, hl, g => by
    obtain ⟨k, hk, e⟩ := List.exists_of_findSome?_eq_some h
    exact go_sound d (s ++ [k]) t e (by rw [List.length_append, List.length_singleton]; omega) (g.snoc hk)
theorem Gd.perm {n : Nat} {ps qs : Ps} {s : List Nat} (h : Gd n ps qs s) (hl : s.length = n) : s.Perm (List.range n) := perm_full h.nd (fun x hx => List.mem_range.mpr (h.lt x hx)) (by rw [hl, List.length_range])
theorem map_getD {n : Nat} {s : List Nat} (hl : s.length = n) (f : Nat → Int) : (List.range n).map (fun i => f (s.getD i 0)) = s.map f := by
  refine List.ext_getElem (by simp [hl]) fun i h1 h2 => ?_
  have : i < s.length := by simpa using h2
  simp [List.getD, this]
theorem Gd.prof {n : Nat} {ps qs : Ps} {s : List Nat} (h : Gd n ps qs s) (hl : s.length = n) {i : Nat} (hi : i < n) : prof n qs (s.getD i 0) = prof n ps i := by
  have p := h.perm hl
  have e1 : rowL n ps i = s.map fun j => cnt qs (s.getD i 0) j := by
    rw [← map_getD hl]
    exact List.map_congr_left fun j hj => h.ct i j (by omega) (by have := List.mem_range.mp hj; omega)
  have e2 : colL n ps i = s.map fun j => cnt qs j (s.getD i 0) := by
    rw [← map_getD hl]
    exact List.map_congr_left fun j hj => h.ct j i (by have := List.mem_range.mp hj; omega) (by omega)
  show (cnt qs (s.getD i 0) (s.getD i 0), srtI (rowL n qs (s.getD i 0)), srtI (colL n qs (s.getD i 0))) = (cnt ps i i, srtI (rowL n ps i), srtI (colL n ps i))
  rw [h.ct i i (by omega) (by omega), e1, e2, srt_perm (p.map fun j => cnt qs (s.getD i 0) j), srt_perm (p.map fun j => cnt qs j (s.getD i 0))]
  rfl
theorem go_complete {n : Nat} {ps qs : Ps} {t : List Nat} (g : Gd n ps qs t) (hl : t.length = n) : ∀ d, d ≤ n → (go n ps qs d (t.take (n - d))).isSome = true
  | 0, _ => rfl
  | d + 1, hd => by
    have ih := go_complete g hl d (by omega)
    have lt : n - (d + 1) < t.length := by omega
    have lk : (t.take (n - (d + 1))).length = n - (d + 1) := by rw [List.length_take]; omega
    have e : t.take (n - d) = t.take (n - (d + 1)) ++ [t.getD (n - (d + 1)) 0] := by
      rw [show n - d = n - (d + 1) + 1 by omega, List.take_add_one]
      congr 1
      simp [List.getD, lt]
    have tk : ∀ b, b < n - (d + 1) → (t.take (n - (d + 1))).getD b 0 = t.getD b 0 := fun b hb => by
      simp only [List.getD, List.getElem?_take, if_pos hb]
    have hk : t.getD (n - (d + 1)) 0 ∈ cands n ps qs (t.take (n - (d + 1))) := by
      have hm : t.getD (n - (d + 1)) 0 = t[n - (d + 1)] := by simp [List.getD, lt]
      unfold cands
      refine List.mem_filter.mpr ⟨List.mem_range.mpr (g.lt _ (by rw [hm]; exact List.getElem_mem lt)), ?_⟩
      unfold candB fitsB
      rw [Bool.and_eq_true, Bool.and_eq_true, List.all_eq_true, lk]
      refine ⟨?_, decide_eq_true (g.prof hl (by omega)), fun b hb => ?_⟩
      · have : t.getD (n - (d + 1)) 0 ∉ t.take (n - (d + 1)) := fun z => by
          obtain ⟨b, hb, eb⟩ := List.getElem_of_mem z
          rw [lk] at hb
          rw [List.getElem_take, hm] at eb
          have := (List.getElem_inj g.nd).mp eb
          omega
        simpa using this
      · have hb := List.mem_range.mp hb
        unfold fitB
        rw [Bool.and_eq_true, lk, tk b hb]
        exact ⟨decide_eq_true (g.ct _ _ (by omega) (by omega)), decide_eq_true (g.ct _ _ (by omega) (by omega))⟩
    rw [e] at ih
    show ((cands n ps qs (t.take (n - (d + 1)))).findSome? fun k => go n ps qs d (t.take (n - (d + 1)) ++ [k])).isSome = true
    rw [List.findSome?_isSome_iff]
    exact ⟨_, hk, ih⟩
end Lw
set_option Elab.async false
set_option linter.all false
set_option maxRecDepth 100000
/-! graphs that differ by names alone; numbers for the edges -/
namespace Lw
/-- a pair with other names -/
def rn (t : List Nat) (p : Int × Int) : Int × Int := (((t.getD p.1.toNat 0 : Nat) : Int), ((t.getD p.2.toNat 0 : Nat) : Int))
def Iso (n : Nat) (ps qs : Ps) : Prop := ∃ t : List Nat, t.Perm (List.range n) ∧ (ps.map (rn t)).Perm qs
theorem pm_len {n : Nat} {t : List Nat} (h : t.Perm (List.range n)) : t.length = n := by
  rw [h.length_eq, List.length_range]
theorem pm_nd {n : Nat} {t : List Nat} (h : t.Perm (List.range n)) : t.Nodup := h.nodup_iff.mpr List.nodup_range
theorem pm_lt {n : Nat} {t : List Nat} (h : t.Perm (List.range n)) {x : Nat} (hx : x ∈ t) : x < n := List.mem_range.mp (h.mem_iff.mp hx)
theorem pm_at {n : Nat} {t : List Nat} (h : t.Perm (List.range n)) {i : Nat} (hi : i < n) : t[i]? = some (t.getD i 0) ∧ t.getD i 0 < n := by
  have hl := pm_len h
  have e : t[i]? = some (t.getD i 0) := by simp [List.getD, show i < t.length by omega]
  exact ⟨e, pm_lt h (List.mem_of_getElem? e)⟩
theorem pm_inj {n : Nat} {t : List Nat} (h : t.Perm (List.range n)) {i j : Nat} (hi : i < n) (hj : j < n) (e : t.getD i 0 = t.getD j 0) : i = j := by
  have hl := pm_len h
  have a : t.getD i 0 = t[i]'(by omega) := by simp [List.getD, show i < t.length by omega]
  have b : t.getD j 0 = t[j]'(by omega) := by simp [List.getD, show j < t.length by omega]
  rw [a, b] at e
  exact (List.getElem_inj (pm_nd h)).mp e
theorem pm_sur {n : Nat} {t : List Nat} (h : t.Perm (List.range n)) {x : Nat} (hx : x < n) : ∃ i, i < n ∧ t.getD i 0 = x := by
  obtain ⟨i, hi, e⟩ := List.getElem_of_mem (h.mem_iff.mpr (List.mem_range.mpr hx))
  refine ⟨i, by rw [← pm_len h]; exact hi, ?_⟩
  simp [List.getD, hi, e]
/-- all pairs within n states -/
def Rg (n : Nat) (ps : Ps) : Prop := ∀ p ∈ ps, 0 ≤ p.1 ∧ p.1 < (n : Int) ∧ 0 ≤ p.2 ∧ p.2 < (n : Int)
theorem rn_eq {n : Nat} {t : List Nat} (h : t.Perm (List.range n)) {p : Int × Int} (hp : 0 ≤ p.1 ∧ p.1 < (n : Int) ∧ 0 ≤ p.2 ∧ p.2 < (n : Int)) {a b : Nat} (ha : a < n) (hb : b < n) :
    rn t p = (((t.getD a 0 : Nat) : Int), ((t.getD b 0 : Nat) : Int)) ↔ p = ((a : Int), (b : Int)) := by
  constructor
  · intro e
    have e1 := congrArg Prod.fst e
    have e2 := congrArg Prod.snd e
    have e1 := pm_inj h (by omega) ha (Int.ofNat.inj e1)
    have e2 := pm_inj h (by omega) hb (Int.ofNat.inj e2)
    refine Prod.ext ?_ ?_
    · show p.1 = (a : Int)
      omega
    · show p.2 = (b : Int)
      omega
  · rintro rfl
    rfl
theorem cnt_map {n : Nat} {t : List Nat} {ps : Ps} (h : t.Perm (List.range n)) (r : Rg n ps) {a b : Nat} (ha : a < n) (hb : b < n) : cnt (ps.map (rn t)) (t.getD a 0) (t.getD b 0) = cnt ps a b := by
  unfold cnt
  rw [List.filter_map, List.length_map]
  congr 2
  refine List.filter_congr fun p hp => ?_
  show decide (rn t p = _) = decide (p = _)
  rw [decide_eq_decide]
  exact rn_eq h (r p hp) ha hb
theorem cnt_perm {ps qs : Ps} (h : ps.Perm qs) (a b : Nat) : cnt ps a b = cnt qs a b := by
  unfold cnt
  rw [(h.filter _).length_eq]
theorem cnt_count (ps : Ps) (a b : Nat) : cnt ps a b = ((ps.count ((a : Int), (b : Int)) : Nat) : Int) := by
  unfold cnt
  rw [List.count_eq_length_filter]
  congr 2
  refine List.filter_congr fun p _ => ?_
  rw [Bool.eq_iff_iff, decide_eq_true_iff, beq_iff_eq]
theorem rn_rg {n : Nat} {t : List Nat} {ps : Ps} (h : t.Perm (List.range n)) (r : Rg n ps) : Rg n (ps.map (rn t)) := by
  intro p hp
  obtain ⟨q, hq, rfl⟩ := List.mem_map.mp hp
  obtain ⟨a1, a2, a3, a4⟩ := r q hq
  have x := (pm_at h (i := q.1.toNat) (by omega)).2
  have y := (pm_at h (i := q.2.toNat) (by omega)).2
  show 0 ≤ ((t.getD q.1.toNat 0 : Nat) : Int) ∧ ((t.getD q.1.toNat 0 : Nat) : Int) < n ∧ 0 ≤ ((t.getD q.2.toNat 0 : Nat) : Int) ∧ ((t.getD q.2.toNat 0 : Nat) : Int) < n
  omega
theorem iso_of_gd {n : Nat} {ps qs : Ps} {t : List Nat} (g : Gd n ps qs t) (hl : t.length = n) (rp : Rg n ps) (rq : Rg n qs) : (ps.map (rn t)).Perm qs := by
  have h := g.perm hl
  rw [List.perm_iff_count]
  intro x
  by_cases hx : 0 ≤ x.1 ∧ x.1 < (n : Int) ∧ 0 ≤ x.2 ∧ x.2 < (n : Int)
  · obtain ⟨a, ha, ea⟩ := pm_sur h (x := x.1.toNat) (by omega)
    obtain ⟨b, hb, eb⟩ := pm_sur h (x := x.2.toNat) (by omega)
    have ex : x = (((t.getD a 0 : Nat) : Int), ((t.getD b 0 : Nat) : Int)) := by
      rw [ea, eb]
      refine Prod.ext ?_ ?_
      · show x.1 = ((x.1.toNat : Nat) : Int)
        omega
      · show x.2 = ((x.2.toNat : Nat) : Int)
        omega
    have e1 := cnt_map h rp ha hb
    rw [g.ct a b (by omega) (by omega), cnt_count, cnt_count, ← ex] at e1
    omega
  · rw [List.count_eq_zero_of_not_mem, List.count_eq_zero_of_not_mem]
    · exact fun z => hx (rq x z)
    · exact fun z => hx (rn_rg h rp x z)
theorem gd_of_iso {n : Nat} {ps qs : Ps} {t : List Nat} (h : t.Perm (List.range n)) (hp : (ps.map (rn t)).Perm qs) (rp : Rg n ps) : Gd n ps qs t := by
  have hl := pm_len h
  refine ⟨pm_nd h, fun x hx => pm_lt h hx, fun a b ha hb => ?_⟩
  rw [← cnt_perm hp, cnt_map h rp (by omega) (by omega)]
/-- new numbers of the states, or none -/
def fsn (n : Nat) (ps qs : Ps) : Option (List Nat) := go n ps qs n []
theorem gd_nil (n : Nat) (ps qs : Ps) : Gd n ps qs [] := ⟨List.nodup_nil, fun x hx => absurd hx List.not_mem_nil, fun a b ha _ => absurd ha (Nat.not_lt_zero _)⟩
theorem fsn_some {n : Nat} {ps qs : Ps} {t : List Nat} (h : fsn n ps qs = some t) : t.length = n ∧ Gd n ps qs t := go_sound n [] t h (by simp) (gd_nil n ps qs)
theorem fsn_iso {n : Nat} {ps qs : Ps} (rp : Rg n ps) (rq : Rg n qs) : (fsn n ps qs).isSome = true ↔ Iso n ps qs := by
  constructor
  · intro h
    obtain ⟨t, ht⟩ := Option.isSome_iff_exists.mp h
    obtain ⟨hl, g⟩ := fsn_some ht
    exact ⟨t, g.perm hl, iso_of_gd g hl rp rq⟩
  · rintro ⟨t, h, hp⟩
    have := go_complete (gd_of_iso h hp rp) (pm_len h) n (Nat.le_refl _)
    rw [Nat.sub_self, List.take_zero] at this
    exact this
/-- the places turned back -/
def invP (n : Nat) (t : List Nat) : List Nat := (List.range n).map fun j => t.idxOf j
theorem inv_at {n : Nat} {t : List Nat} {j : Nat} (hj : j < n) : (invP n t).getD j 0 = t.idxOf j := by
  unfold invP
  simp [List.getD, hj]
theorem idx_at {n : Nat} {t : List Nat} (h : t.Perm (List.range n)) {i : Nat} (hi : i < n) : t.idxOf (t.getD i 0) = i := by
  have e := pm_at h hi
  have m : t.getD i 0 ∈ t := List.mem_of_getElem? e.1
  have l := List.idxOf_lt_length_of_mem m
  refine pm_inj h (by rw [← pm_len h]; exact l) hi ?_
  have g := List.getElem_idxOf l
  generalize t.getD i 0 = x at *
  simp [List.getD, l, g]
theorem inv_perm {n : Nat} {t : List Nat} (h : t.Perm (List.range n)) : (invP n t).Perm (List.range n) := by
  have e : invP n t = (List.range n).map fun j => t.idxOf j := rfl
  have p : (t.map fun j => t.idxOf j).Perm (invP n t) := h.map _
  have q : t.map (fun j => t.idxOf j) = List.range n := by
    refine List.ext_getElem (by simp [pm_len h]) fun i h1 h2 => ?_
    have hi : i < n := by simpa using h2
    have := idx_at h hi
    have hl := pm_len h
    simp [List.getD, show i < t.length by omega] at this
    simp [this]
  rw [q] at p
  exact p.symm
theorem rn_inv {n : Nat} {t : List Nat} (h : t.Perm (List.range n)) {p : Int × Int} (hp : 0 ≤ p.1 ∧ p.1 < (n : Int) ∧ 0 ≤ p.2 ∧ p.2 < (n : Int)) : rn (invP n t) (rn t p) = p := by
  have x := pm_at h (i := p.1.toNat) (by omega)
  have y := pm_at h (i := p.2.toNat) (by omega)
  show ((((invP n t).getD (t.getD p.1.toNat 0) 0 : Nat) : Int), (((invP n t).getD (t.getD p.2.toNat 0) 0 : Nat) : Int)) = p
  rw [inv_at x.2, inv_at y.2, idx_at h (by omega), idx_at h (by omega)]
  refine Prod.ext ?_ ?_
  · show ((p.1.toNat : Nat) : Int) = p.1
    omega
  · show ((p.2.toNat : Nat) : Int) = p.2
    omega
theorem Iso.symm {n : Nat} {ps qs : Ps} (h : Iso n ps qs) (r : Rg n ps) : Iso n qs ps := by
  obtain ⟨t, h1, h2⟩ := h
  refine ⟨invP n t, inv_perm h1, ?_⟩
  refine (h2.symm.map (rn (invP n t))).trans ?_
  rw [List.map_map]
  have : ps.map (rn (invP n t) ∘ rn t) = ps := by
    conv => rhs; rw [← List.map_id ps]
    exact List.map_congr_left fun p hp => rn_inv h1 (r p hp)
  rw [this]
theorem Iso.len {n : Nat} {ps qs : Ps} (h : Iso n ps qs) : ps.length = qs.length := by
  obtain ⟨t, h1, h2⟩ := h
  have := h2.length_eq
  rw [List.length_map] at this
  exact this
/-! ### numbers for the edges -/
def posn (qs : Ps) (m : Nat) (p : Int × Int) : List Nat := (List.range m).filter fun k => decide (qs[k]? = some p)
theorem posn_succ {qs : Ps} {m : Nat} (p : Int × Int) {x : Int × Int} (h : qs[m]? = some x) : posn qs (m + 1) p = posn qs m p ++ (if x = p then [m] else []) := by
  unfold posn
  rw [List.range_succ, List.filter_append]
  congr 1
  by_cases e : x = p
  · rw [if_pos e, List.filter_cons_of_pos (by rw [h, e]; exact decide_eq_true rfl)]
    rfl
  · rw [if_neg e, List.filter_cons_of_neg (by rw [h, decide_eq_false fun z => e (Option.some.inj z)]; exact Bool.false_ne_true)]
    rfl
theorem posn_len {qs : Ps} : ∀ (m : Nat) (p : Int × Int), m ≤ qs.length → (posn qs m p).length = (qs.take m).count p
  | 0, p, _ => by simp [posn]
  | m + 1, p, h => by
    have e : qs[m]? = some (qs[m]'(by omega)) := List.getElem?_eq_getElem (by omega)
    rw [posn_succ p e, List.length_append, posn_len m p (by omega), take_snoc e, List.count_append]
    congr 1
    by_cases c : qs[m]'(by omega) = p
    · rw [if_pos c, c]
      simp
    · rw [if_neg c]
      simp [c]
def enN (t : List Nat) (ps qs : Ps) (k : Nat) : Nat := (posn qs qs.length (rn t (pat ps k))).getD (((ps.take k).map (rn t)).count (rn t (pat ps k))) 0
def ens (t : List Nat) (ps qs : Ps) : List Nat := (List.range ps.length).map (enN t ps qs)
theorem en_lt {t : List Nat} {ps qs : Ps} (h : (ps.map (rn t)).Perm qs) {k : Nat} (hk : k < ps.length) : ((ps.take k).map (rn t)).count (rn t (pat ps k)) < (posn qs qs.length (rn t (pat ps k))).length := by
  rw [posn_len _ _ (Nat.le_refl _), List.take_length, ← h.count_eq]
  have e : ps = ps.take k ++ (pat ps k :: ps.drop (k + 1)) := by
    have h1 : ps[k]? = some (pat ps k) := pat_at hk
    have h2 : ps.drop k = pat ps k :: ps.drop (k + 1) := by
      rw [List.drop_eq_getElem_cons hk]
      rw [List.getElem?_eq_getElem hk] at h1
      rw [Option.some.inj h1]
    rw [← h2, List.take_append_drop]
  have c := congrArg (fun z : Ps => (z.map (rn t)).count (rn t (pat ps k))) e
  rw [List.map_append, List.count_append, List.map_cons, List.count_cons_self] at c
  omega
theorem getD_get {xs : List Nat} {i : Nat} (h : i < xs.length) : xs[i]? = some (xs.getD i 0) := by
  simp [List.getD, h]
theorem en_at {t : List Nat} {ps qs : Ps} (h : (ps.map (rn t)).Perm qs) {k : Nat} (hk : k < ps.length) : (posn qs qs.length (rn t (pat ps k)))[((ps.take k).map (rn t)).count (rn t (pat ps k))]? = some (enN t ps qs k) := by
  exact getD_get (en_lt h hk)
theorem en_mem {t : List Nat} {ps qs : Ps} (h : (ps.map (rn t)).Perm qs) {k : Nat} (hk : k < ps.length) : enN t ps qs k < qs.length ∧ qs[enN t ps qs k]? = some (rn t (pat ps k)) := by
  have m := List.mem_of_getElem? (en_at h hk)
  unfold posn at m
  obtain ⟨m1, m2⟩ := List.mem_filter.mp m
  exact ⟨List.mem_range.mp m1, of_decide_eq_true m2⟩
theorem en_inj {t : List Nat} {ps qs : Ps} (h : (ps.map (rn t)).Perm qs) {k l : Nat} (kl : k < l) (hl : l < ps.length) : enN t ps qs k ≠ enN t ps qs l := by
  intro e
  have hk : k < ps.length := by omega
  have e1 := (en_mem h hk).2
  have e2 := (en_mem h hl).2
  rw [e, e2] at e1
  have ep := Option.some.inj e1
  have a1 := en_at h hk
  have a2 := en_at h hl
  rw [e, ← ep] at a1
  have nd : (posn qs qs.length (rn t (pat ps l))).Nodup := List.Pairwise.filter _ List.nodup_range
  obtain ⟨l1, g1⟩ := List.getElem?_eq_some_iff.mp a1
  obtain ⟨l2, g2⟩ := List.getElem?_eq_some_iff.mp a2
  have ec := (List.getElem_inj nd).mp (g1.trans g2.symm)
  have e3 : ps.take l = ps.take k ++ (pat ps k :: (ps.take l).drop (k + 1)) := by
    have h1 : ps[k]? = some (pat ps k) := pat_at hk
    have h2 : (ps.take l).drop k = pat ps k :: (ps.take l).drop (k + 1) := by
      have lt : k < (ps.take l).length := by rw [List.length_take]; omega
      rw [List.drop_eq_getElem_cons lt, List.getElem_take]
      rw [List.getElem?_eq_getElem hk] at h1
      rw [Option.some.inj h1]
    rw [← h2]
    have := List.take_append_drop k (ps.take l)
    rw [List.take_take, Nat.min_eq_left (by omega)] at this
    exact this.symm
  rw [e3, List.map_append, List.count_append, List.map_cons, ← ep, List.count_cons_self] at ec
  omega
theorem ens_len (t : List Nat) (ps qs : Ps) : (ens t ps qs).length = ps.length := by
  unfold ens
  simp
theorem ens_at {t : List Nat} {ps qs : Ps} {k : Nat} (hk : k < ps.length) : (ens t ps qs).getD k 0 = enN t ps qs k := by
  unfold ens
  simp [List.getD, hk]
theorem ens_perm {t : List Nat} {ps qs : Ps} (h : (ps.map (rn t)).Perm qs) : (ens t ps qs).Perm (List.range ps.length) := by
  have hl : ps.length = qs.length := by
    have := h.length_eq
    rw [List.length_map] at this
    exact this
  refine perm_full ?_ (fun x hx => ?_) (by rw [ens_len, List.length_range])
  · unfold ens List.Nodup
    rw [List.pairwise_map]
    refine List.Pairwise.imp_of_mem ?_ (List.pairwise_lt_range (n := ps.length))
    intro a b ha hb ab
    exact en_inj h ab (List.mem_range.mp hb)
  · unfold ens at hx
    obtain ⟨k, hk, rfl⟩ := List.mem_map.mp hx
    rw [List.mem_range, hl]
    exact (en_mem h (List.mem_range.mp hk)).1
theorem ens_back {t : List Nat} {ps qs : Ps} (h : (ps.map (rn t)).Perm qs) {j : Nat} (hj : j < ps.length) : qs[j]? = some (rn t (pat ps ((ens t ps qs).idxOf j))) := by
  obtain ⟨k, hk, e⟩ := pm_sur (ens_perm h) hj
  have e2 : (ens t ps qs).idxOf j = k := by
    rw [← e]
    exact idx_at (ens_perm h) hk
  rw [e2]
  rw [ens_at hk] at e
  rw [← e]
  exact (en_mem h hk).2
end Lw
set_option Elab.async false
set_option linter.all false
/-! sums, products and powers of tables of numbers -/
namespace Lw
def sm : Nat → (Nat → Nat) → Nat
  | 0, _ => 0
  | n + 1, f => sm n f + f n
theorem sm_congr {n : Nat} {f g : Nat → Nat} (h : ∀ k, k < n → f k = g k) : sm n f = sm n g := by
  induction n with
  | zero => rfl
  | succ n ih =>
    show sm n f + f n = sm n g + g n
    rw [ih fun k hk => h k (Nat.lt_succ_of_lt hk), h n (Nat.lt_succ_self n)]
theorem sm_add (n : Nat) (f g : Nat → Nat) : sm n (fun k => f k + g k) = sm n f + sm n g := by
  induction n with
  | zero => rfl
  | succ n ih =>
    show sm n (fun k => f k + g k) + (f n + g n) = sm n f + f n + (sm n g + g n)
    rw [ih]
    omega
theorem sm_mulr (n : Nat) (f : Nat → Nat) (c : Nat) : sm n (fun k => f k * c) = sm n f * c := by
  induction n with
  | zero => exact (Nat.zero_mul c).symm
  | succ n ih =>
    show sm n (fun k => f k * c) + f n * c = (sm n f + f n) * c
    rw [ih, Nat.add_mul]
theorem sm_mull (n : Nat) (f : Nat → Nat) (c : Nat) : sm n (fun k => c * f k) = c * sm n f := by
  rw [Nat.mul_comm c, ← sm_mulr]
  exact sm_congr fun k _ => Nat.mul_comm _ _
theorem sm_zero (n : Nat) : sm n (fun _ => 0) = 0 := by
  induction n with
  | zero => rfl
  | succ n ih => exact ih
theorem sm_comm (n m : Nat) (f : Nat → Nat → Nat) : sm n (fun i => sm m (fun j => f i j)) = sm m (fun j => sm n (fun i => f i j)) := by
  induction n with
  | zero => exact (sm_zero m).symm
  | succ n ih =>
    show sm n (fun i => sm m (fun j => f i j)) + sm m (fun j => f n j) = sm m (fun j => sm n (fun i => f i j) + f n j)
    rw [ih, sm_add]
theorem sm_one {n b : Nat} (x : Nat → Nat) (h : b < n) : sm n (fun k => (if k = b then 1 else 0) * x k) = x b := by
  induction n with
  | zero => exact absurd h (Nat.not_lt_zero b)
  | succ n ih =>
    show sm n (fun k => (if k = b then 1 else 0) * x k) + (if n = b then 1 else 0) * x n = x b
    by_cases e : n = b
    · subst e
      rw [if_pos rfl, Nat.one_mul]
      have : sm n (fun k => (if k = n then 1 else 0) * x k) = 0 := by
        refine (sm_congr (g := fun _ => 0) fun k hk => ?_).trans (sm_zero n)
        rw [if_neg (Nat.ne_of_lt hk), Nat.zero_mul]
      rw [this, Nat.zero_add]
    · rw [if_neg e, Nat.zero_mul, Nat.add_zero]
      exact ih (by omega)
theorem sm_list (n : Nat) (f : Nat → Nat) : ((List.range n).map f).sum = sm n f := by
  induction n with
  | zero => rfl
  | succ n ih =>
    rw [List.range_succ, List.map_append, List.sum_append, ih]
    show sm n f + (f n + 0) = sm n f + f n
    omega
theorem sm_int (n : Nat) (f : Nat → Nat) : ((List.range n).map fun k => ((f k : Nat) : Int)).sum = ((sm n f : Nat) : Int) := by
  induction n with
  | zero => rfl
  | succ n ih =>
    rw [List.range_succ, List.map_append, List.sum_append, ih]
    show ((sm n f : Nat) : Int) + (((f n : Nat) : Int) + 0) = ((sm n f + f n : Nat) : Int)
    omega
theorem sm_le {n : Nat} {f : Nat → Nat} {c : Nat} (h : ∀ k, k < n → f k ≤ c) : sm n f ≤ n * c := by
  induction n with
  | zero => exact Nat.zero_le _
  | succ n ih =>
    show sm n f + f n ≤ (n + 1) * c
    rw [Nat.add_mul, Nat.one_mul]
    exact Nat.add_le_add (ih fun k hk => h k (Nat.lt_succ_of_lt hk)) (h n (Nat.lt_succ_self n))
abbrev Mx := Nat → Nat → Nat
def mul (n : Nat) (A B : Mx) : Mx := fun i j => sm n fun k => A i k * B k j
def pw (n : Nat) (A : Mx) : Nat → Mx
  | 0 => fun i j => if i = j then 1 else 0
  | k + 1 => mul n (pw n A k) A
theorem mul_congr {n : Nat} {A A' B B' : Mx} {i j : Nat} (h1 : ∀ k, k < n → A i k = A' i k) (h2 : ∀ k, k < n → B k j = B' k j) : mul n A B i j = mul n A' B' i j := sm_congr fun k hk => by rw [h1 k hk, h2 k hk]
theorem mul_assoc (n : Nat) (A B C : Mx) (i j : Nat) : mul n (mul n A B) C i j = mul n A (mul n B C) i j := by
  show sm n (fun k => sm n (fun l => A i l * B l k) * C k j) = sm n (fun l => A i l * sm n (fun k => B l k * C k j))
  rw [show (fun k => sm n (fun l => A i l * B l k) * C k j) = fun k => sm n (fun l => A i l * B l k * C k j) from funext fun k => (sm_mulr n _ _).symm, sm_comm]
  refine sm_congr fun l _ => ?_
  rw [← sm_mull]
  exact sm_congr fun k _ => Nat.mul_assoc _ _ _
theorem one_mul {n : Nat} (A : Mx) {i j : Nat} (h : i < n) : mul n (pw n A 0) A i j = A i j := by
  show sm n (fun k => (if i = k then 1 else 0) * A k j) = A i j
  rw [← sm_one (fun k => A k j) h]
  exact sm_congr fun k _ => by
    by_cases e : k = i
    · rw [if_pos e, if_pos e.symm]
    · rw [if_neg e, if_neg (Ne.symm e)]
theorem mul_one {n : Nat} (A B : Mx) {i j : Nat} (h : j < n) : mul n A (pw n B 0) i j = A i j := by
  show sm n (fun k => A i k * (if k = j then 1 else 0)) = A i j
  rw [← sm_one (fun k => A i k) h]
  exact sm_congr fun k _ => Nat.mul_comm _ _
theorem pw_one {n : Nat} (A : Mx) {i j : Nat} (h : i < n) : pw n A 1 i j = A i j := one_mul A h
theorem pw_add {n : Nat} (A : Mx) (a b : Nat) {i j : Nat} (hj : j < n) : pw n A (a + b) i j = mul n (pw n A a) (pw n A b) i j := by
  induction b generalizing j with
  | zero => exact (mul_one (pw n A a) A hj).symm
  | succ b ih =>
    show mul n (pw n A (a + b)) A i j = mul n (pw n A a) (mul n (pw n A b) A) i j
    rw [← mul_assoc]
    exact mul_congr (fun k hk => ih hk) fun _ _ => rfl
theorem mul_le {n : Nat} {A B : Mx} {c d : Nat} {i j : Nat} (h1 : ∀ k, k < n → A i k ≤ c) (h2 : ∀ k, k < n → B k j ≤ d) : mul n A B i j ≤ n * (c * d) := sm_le fun k hk => Nat.mul_le_mul (h1 k hk) (h2 k hk)
theorem pw_le {n : Nat} {A : Mx} (h8 : n ≤ 8) (h : ∀ i j, A i j ≤ 31) (k i j : Nat) : pw n A k i j ≤ 2 ^ (8 * k) := by
  induction k generalizing i j with
  | zero =>
    show (if i = j then 1 else 0) ≤ 1
    split <;> omega
  | succ k ih =>
    refine Nat.le_trans (mul_le (fun k _ => ih i k) fun k _ => h k j) ?_
    have e : 2 ^ (8 * (k + 1)) = 2 ^ (8 * k) * 256 := by
      rw [Nat.mul_add, Nat.pow_add]
    rw [e]
    calc n * (2 ^ (8 * k) * 31) ≤ 8 * (2 ^ (8 * k) * 31) := Nat.mul_le_mul_right _ h8
      _ = 2 ^ (8 * k) * 248 := by rw [← Nat.mul_assoc, Nat.mul_comm 8, Nat.mul_assoc]
      _ ≤ 2 ^ (8 * k) * 256 := Nat.mul_le_mul_left _ (by decide)
theorem pw_log {n : Nat} {A : Mx} (h8 : n ≤ 8) (h : ∀ i j, A i j ≤ 31) (k i j : Nat) : (pw n A k i j).log2 ≤ 8 * k := by
  by_cases z : pw n A k i j = 0
  · rw [z]
    exact Nat.zero_le _
  · have := pw_le h8 h k i j
    exact Nat.le_of_lt_succ ((Nat.log2_lt z).mpr (Nat.lt_of_le_of_lt this (Nat.pow_lt_pow_right (by decide) (Nat.lt_succ_self _))))
/-- numbers of paths by their starts -/
theorem vec_step {n : Nat} (A : Mx) (k : Nat) {i : Nat} (h : i < n) : sm n (fun t => A i t * sm n (fun j => pw n A k t j)) = sm n (fun j => pw n A (k + 1) i j) := by
  rw [show (fun t => A i t * sm n (fun j => pw n A k t j)) = fun t => sm n (fun j => A i t * pw n A k t j) from funext fun t => (sm_mull n _ _).symm, sm_comm]
  refine sm_congr fun j hj => ?_
  rw [Nat.add_comm k 1, pw_add A 1 k hj]
  exact sm_congr fun t _ => by rw [pw_one A h]
/-- powers of a power of two's bits -/
theorem pw_bit {n : Nat} (A : Mx) (e s : Nat) {i j : Nat} (hj : j < n) : (if (e >>> s) % 2 = 1 then mul n (mul n (pw n A (e >>> (s + 1))) (pw n A (e >>> (s + 1)))) A i j else mul n (pw n A (e >>> (s + 1))) (pw n A (e >>> (s + 1))) i j) = pw n A (e >>> s) i j := by
  have h1 : e >>> (s + 1) = (e >>> s) / 2 := by rw [Nat.shiftRight_succ]
  rw [h1]
  generalize e >>> s = q
  by_cases o : q % 2 = 1
  · rw [if_pos o]
    have : q = (q / 2 + q / 2) + 1 := by omega
    conv => rhs; rw [this]
    show _ = mul n (pw n A (q / 2 + q / 2)) A i j
    exact mul_congr (fun k hk => (pw_add A _ _ hk).symm) fun _ _ => rfl
  · rw [if_neg o]
    have : q = q / 2 + q / 2 := by omega
    conv => rhs; rw [this]
    exact (pw_add A _ _ hj).symm
theorem pw_single (A : Mx) (k : Nat) : pw 1 A k 0 0 = (A 0 0) ^ k := by
  induction k with
  | zero => rfl
  | succ k ih =>
    show 0 + pw 1 A k 0 0 * A 0 0 = (A 0 0) ^ (k + 1)
    rw [ih, Nat.zero_add, Nat.pow_succ]
/-! ### edges -/
def cntN (ps : List (Int × Int)) (a b : Nat) : Nat := (ps.filter fun p => decide (p = ((a : Int), (b : Int)))).length
theorem cntN_snoc (ps : List (Int × Int)) (p : Int × Int) (a b : Nat) : cntN (ps ++ [p]) a b = cntN ps a b + (if p = ((a : Int), (b : Int)) then 1 else 0) := by
  unfold cntN
  rw [List.filter_append, List.length_append]
  by_cases h : p = ((a : Int), (b : Int))
  · rw [if_pos h, List.filter_cons_of_pos (by rw [decide_eq_true h])]
    rfl
  · rw [if_neg h, List.filter_cons_of_neg (by rw [decide_eq_false h]; exact Bool.false_ne_true)]
    simp
theorem cntN_le (ps : List (Int × Int)) (a b : Nat) : cntN ps a b ≤ ps.length := List.length_filter_le _ _
/-- one more edge s -> t, summed over the targets -/
theorem out_snoc {n s t : Nat} (ps : List (Int × Int)) (x : Nat → Nat) (ht : t < n) (i : Nat) : sm n (fun j => cntN (ps ++ [((s : Int), (t : Int))]) i j * x j) = sm n (fun j => cntN ps i j * x j) + (if i = s then x t else 0) := by
  have e : sm n (fun j => cntN (ps ++ [((s : Int), (t : Int))]) i j * x j) = sm n (fun j => cntN ps i j * x j + (if i = s then (if j = t then 1 else 0) else 0) * x j) := sm_congr fun j _ => by
    rw [cntN_snoc, Nat.add_mul]
    congr 2
    by_cases h1 : i = s
    · subst h1
      rw [if_pos rfl]
      by_cases h2 : j = t
      · subst h2
        rw [if_pos rfl, if_pos rfl]
      · rw [if_neg h2, if_neg fun z => h2 (by have : (t : Int) = (j : Int) := congrArg Prod.snd z; omega)]
    · rw [if_neg h1, if_neg fun z => h1 (by have : (s : Int) = (i : Int) := congrArg Prod.fst z; omega)]
  rw [e, sm_add]
  congr 1
  by_cases h1 : i = s
  · rw [if_pos h1]
    simp only [if_pos h1]
    exact sm_one x ht
  · rw [if_neg h1]
    simp only [if_neg h1, Nat.zero_mul]
    exact sm_zero n
/-- .. over the sources -/
theorem in_snoc {n s t : Nat} (ps : List (Int × Int)) (x : Nat → Nat) (hs : s < n) (j : Nat) : sm n (fun i => x i * cntN (ps ++ [((s : Int), (t : Int))]) i j) = sm n (fun i => x i * cntN ps i j) + (if j = t then x s else 0) := by
  have e : sm n (fun i => x i * cntN (ps ++ [((s : Int), (t : Int))]) i j) = sm n (fun i => x i * cntN ps i j + (if j = t then (if i = s then 1 else 0) else 0) * x i) := sm_congr fun i _ => by
    rw [cntN_snoc, Nat.mul_add]
    congr 1
    rw [Nat.mul_comm]
    congr 1
    by_cases h1 : j = t
    · subst h1
      rw [if_pos rfl]
      by_cases h2 : i = s
      · subst h2
        rw [if_pos rfl, if_pos rfl]
      · rw [if_neg h2, if_neg fun z => h2 (by have : (s : Int) = (i : Int) := congrArg Prod.fst z; omega)]
    · rw [if_neg h1, if_neg fun z => h1 (by have : (t : Int) = (j : Int) := congrArg Prod.snd z; omega)]
  rw [e, sm_add]
  congr 1
  by_cases h1 : j = t
  · rw [if_pos h1]
    simp only [if_pos h1]
    exact sm_one x hs
  · rw [if_neg h1]
    simp only [if_neg h1, Nat.zero_mul]
    exact sm_zero n
theorem sm_none {n : Nat} (x : Nat → Nat) (i : Nat) : sm n (fun j => cntN [] i j * x j) = 0 := by
  rw [← sm_zero n]
  exact sm_congr fun j _ => Nat.zero_mul _
theorem sm_none' {n : Nat} (x : Nat → Nat) (j : Nat) : sm n (fun i => x i * cntN [] i j) = 0 := by
  rw [← sm_zero n]
  exact sm_congr fun j _ => Nat.mul_zero _
end Lw
set_option Elab.async false
set_option linter.all false
/-! tables with states put together: what all ways down have in common, and the sums along the diagonal -/
namespace Lw
theorem sm_pick {m b : Nat} (x : Nat → Nat) (h : b < m) : sm m (fun a => (if b = a then 1 else 0) * x a) = x b := by
  rw [← sm_one x h]
  exact sm_congr fun k _ => by
    by_cases e : k = b
    · rw [if_pos e, if_pos e.symm]
    · rw [if_neg e, if_neg (Ne.symm e)]
/-- the table B comes from A: nm puts states together whose columns are equal, rep picks one of each kind -/
structure El (n : Nat) (A : Mx) (m : Nat) (B : Mx) (nm rep : Nat → Nat) : Prop where
  nl : ∀ i, i < n → nm i < m
  rl : ∀ a, a < m → rep a < n
  sec : ∀ a, a < m → nm (rep a) = a
  col : ∀ u t, u < n → t < n → A u (rep (nm t)) = A u t
  val : ∀ a b, a < m → b < m → B a b = sm n fun u => (if nm u = a then 1 else 0) * A u (rep b)
inductive Rd : Nat → Mx → Nat → Mx → Prop
  | refl {n : Nat} {A B : Mx} : (∀ i j, i < n → j < n → A i j = B i j) → Rd n A n B
  | step {n m l : Nat} {A B C : Mx} {nm rep : Nat → Nat} : El n A m B nm rep → Rd m B l C → Rd n A l C
theorem El.congr {n m : Nat} {A A' B : Mx} {nm rep : Nat → Nat} (h : El n A m B nm rep) (e : ∀ i j, i < n → j < n → A' i j = A i j) : El n A' m B nm rep :=
  ⟨h.nl, h.rl, h.sec, fun u t hu ht => by rw [e u _ hu (h.rl _ (h.nl t ht)), e u t hu ht, h.col u t hu ht], fun a b ha hb => by
    rw [h.val a b ha hb]
    exact sm_congr fun u hu => by rw [e u _ hu (h.rl b hb)]⟩
theorem Rd.congr {n l : Nat} {A A' C : Mx} (h : Rd n A l C) (e : ∀ i j, i < n → j < n → A' i j = A i j) : Rd n A' l C := by
  cases h with
  | refl h => exact .refl fun i j hi hj => (e i j hi hj).trans (h i j hi hj)
  | step h r => exact .step (h.congr e) r
theorem Rd.trans {n m l : Nat} {A B C : Mx} (h : Rd n A m B) (g : Rd m B l C) : Rd n A l C := by
  induction h with
  | refl h => exact g.congr h
  | step e r ih => exact .step e (ih g)
theorem Rd.one {n m : Nat} {A B : Mx} {nm rep : Nat → Nat} (h : El n A m B nm rep) : Rd n A m B := .step h (.refl fun _ _ _ _ => rfl)
/-- all states led to those of another table, with the sums over each kind -/
structure Am (n : Nat) (A : Mx) (m : Nat) (B : Mx) (f : Nat → Nat) : Prop where
  lt : ∀ i, i < n → f i < m
  sur : ∀ a, a < m → ∃ i, i < n ∧ f i = a
  val : ∀ a t, a < m → t < n → B a (f t) = sm n fun u => (if f u = a then 1 else 0) * A u t
theorem Am.refl {n : Nat} {A B : Mx} (h : ∀ i j, i < n → j < n → A i j = B i j) : Am n A n B id :=
  ⟨fun _ hi => hi, fun a ha => ⟨a, ha, rfl⟩, fun a t ha ht => by
    show B a t = sm n fun u => (if u = a then 1 else 0) * A u t
    rw [sm_one (fun u => A u t) ha, h a t ha ht]⟩
theorem El.am {n m : Nat} {A B : Mx} {nm rep : Nat → Nat} (h : El n A m B nm rep) : Am n A m B nm :=
  ⟨h.nl, fun a ha => ⟨rep a, h.rl a ha, h.sec a ha⟩, fun a t ha ht => by
    rw [h.val a _ ha (h.nl t ht)]
    exact sm_congr fun u hu => by rw [h.col u t hu ht]⟩
/-- sums over kinds of kinds -/
theorem sm_kinds {n m : Nat} {nm : Nat → Nat} (hl : ∀ u, u < n → nm u < m) (p : Nat → Nat) (x : Nat → Nat) : sm m (fun a => p a * sm n fun u => (if nm u = a then 1 else 0) * x u) = sm n fun u => p (nm u) * x u := by
  rw [show (fun a => p a * sm n fun u => (if nm u = a then 1 else 0) * x u) = fun a => sm n fun u => p a * ((if nm u = a then 1 else 0) * x u) from funext fun a => (sm_mull n _ _).symm, sm_comm]
  refine sm_congr fun u hu => ?_
  rw [← sm_pick (fun a => p a * x u) (hl u hu)]
  exact sm_congr fun a _ => by rw [← Nat.mul_assoc, Nat.mul_comm (p a), Nat.mul_assoc]
theorem Am.behind {n m l : Nat} {A B C : Mx} {f g : Nat → Nat} (h : Am n A m B f) (k : Am m B l C g) : Am n A l C (fun u => g (f u)) := by
  refine ⟨fun i hi => k.lt _ (h.lt i hi), fun a ha => ?_, fun x t hx ht => ?_⟩
  · obtain ⟨b, hb, rfl⟩ := k.sur a ha
    obtain ⟨i, hi, rfl⟩ := h.sur b hb
    exact ⟨i, hi, rfl⟩
  · rw [k.val x _ hx (h.lt t ht), ← sm_kinds (m := m) h.lt (fun a => if g a = x then 1 else 0) fun u => A u t]
    exact sm_congr fun a ha => by rw [h.val a t ha ht]
/-- no two columns are equal -/
def Lea (l : Nat) (C : Mx) : Prop := ∀ i j, i < l → j < l → (∀ r, r < l → C r i = C r j) → i = j
theorem Am.push {n m l : Nat} {A B C : Mx} {nm rep f : Nat → Nat} (h : El n A m B nm rep) (k : Am n A l C f) (le : Lea l C) : Am m B l C (fun a => f (rep a)) := by
  have key : ∀ t, t < n → f (rep (nm t)) = f t := fun t ht => by
    have hr := h.rl _ (h.nl t ht)
    refine le _ _ (k.lt _ hr) (k.lt t ht) fun r hr' => ?_
    rw [k.val r _ hr' hr, k.val r t hr' ht]
    exact sm_congr fun u hu => by rw [h.col u t hu ht]
  refine ⟨fun a ha => k.lt _ (h.rl a ha), fun x hx => ?_, fun x b hx hb => ?_⟩
  · obtain ⟨i, hi, e⟩ := k.sur x hx
    exact ⟨nm i, h.nl i hi, (key i hi).trans e⟩
  · rw [k.val x _ hx (h.rl b hb)]
    have e1 : (sm m fun a => (if f (rep a) = x then 1 else 0) * B a b) = sm m fun a => (if f (rep a) = x then 1 else 0) * sm n fun u => (if nm u = a then 1 else 0) * A u (rep b) := sm_congr fun a ha => by rw [h.val a b ha hb]
    rw [e1, sm_kinds (m := m) h.nl (fun a => if f (rep a) = x then 1 else 0) fun u => A u (rep b)]
    exact sm_congr fun u hu => by rw [key u hu]
theorem Rd.am {n l : Nat} {A C : Mx} (h : Rd n A l C) : ∃ f, Am n A l C f := by
  induction h with
  | refl h => exact ⟨_, .refl h⟩
  | step e r ih =>
    obtain ⟨f, hf⟩ := ih
    exact ⟨_, e.am.behind hf⟩
theorem Rd.push {n m l : Nat} {A B C : Mx} {f : Nat → Nat} (h : Rd n A m B) (k : Am n A l C f) (le : Lea l C) : ∃ g, Am m B l C g := by
  induction h generalizing f with
  | refl h =>
    exact ⟨f, k.lt, k.sur, fun a t ha ht => by
      rw [k.val a t ha ht]
      exact sm_congr fun u hu => by rw [h u t hu ht]⟩
  | step e r ih => exact ih (k.push e le)
theorem le_of_sur {n m : Nat} {f : Nat → Nat} (h : ∀ a, a < m → ∃ i, i < n ∧ f i = a) : m ≤ n := by
  have sub : ∀ (xs ys : List Nat), xs.Nodup → (∀ x ∈ xs, x ∈ ys) → xs.length ≤ ys.length := by
    intro xs
    induction xs with
    | nil => intro ys _ _; exact Nat.zero_le _
    | cons x xs ih =>
      intro ys nd sb
      obtain ⟨n1, n2⟩ := List.nodup_cons.mp nd
      have hx := sb x List.mem_cons_self
      have p := List.perm_cons_erase hx
      have := ih (ys.erase x) n2 fun z hz => by
        have h2 : z ∈ x :: ys.erase x := (p.mem_iff).mp (sb z (List.mem_cons_of_mem _ hz))
        rcases List.mem_cons.mp h2 with e | e
        · exact (n1 (e ▸ hz)).elim
        · exact e
      have e := p.length_eq
      simp only [List.length_cons] at e ⊢
      omega
  have := sub (List.range m) ((List.range n).map f) List.nodup_range fun x hx => by
    obtain ⟨i, hi, e⟩ := h x (List.mem_range.mp hx)
    exact List.mem_map.mpr ⟨i, List.mem_range.mpr hi, e⟩
  simpa using this
/-- two least tables below one: as many states, and each leads to the other -/
theorem Rd.least {n l m : Nat} {A B C : Mx} (h : Rd n A l B) (k : Rd n A m C) (hb : Lea l B) (hc : Lea m C) : l = m ∧ ∃ f, Am l B m C f := by
  obtain ⟨f, hf⟩ := h.am
  obtain ⟨g, hg⟩ := k.am
  obtain ⟨f2, h2⟩ := k.push hf hb
  obtain ⟨g2, k2⟩ := h.push hg hc
  have a := le_of_sur h2.sur
  have b := le_of_sur k2.sur
  exact ⟨by omega, g2, k2⟩
/-! ### sums along the diagonal -/
theorem mul_assoc2 (n m : Nat) (A B C : Mx) (i j : Nat) : mul m (mul n A B) C i j = mul n A (mul m B C) i j := by
  show sm m (fun k => sm n (fun l => A i l * B l k) * C k j) = sm n (fun l => A i l * sm m (fun k => B l k * C k j))
  rw [show (fun k => sm n (fun l => A i l * B l k) * C k j) = fun k => sm n (fun l => A i l * B l k * C k j) from funext fun k => (sm_mulr n _ _).symm, sm_comm]
  refine sm_congr fun l _ => ?_
  rw [← sm_mull]
  exact sm_congr fun k _ => Nat.mul_assoc _ _ _
def tr (n : Nat) (A : Mx) (k : Nat) : Nat := sm n fun i => pw n A k i i
theorem El.tr {n m : Nat} {A B : Mx} {nm rep : Nat → Nat} (h : El n A m B nm rep) (k : Nat) : tr n A (k + 1) = tr m B (k + 1) := by
  let X : Mx := fun u b => A u (rep b)
  let D : Mx := fun a u => if nm u = a then 1 else 0
  have hA : ∀ i j, i < n → j < n → A i j = mul m X D i j := fun i j hi hj => by
    show _ = sm m fun b => X i b * (if nm j = b then 1 else 0)
    rw [show (fun b => X i b * (if nm j = b then 1 else 0)) = fun b => (if nm j = b then 1 else 0) * X i b from funext fun b => Nat.mul_comm _ _, sm_pick (fun b => X i b) (h.nl j hj)]
    exact (h.col i j hi hj).symm
  have hB : ∀ a b, a < m → b < m → mul n D X a b = B a b := fun a b ha hb => (h.val a b ha hb).symm
  have P : ∀ k, ∀ i j, i < n → j < n → pw n A (k + 1) i j = mul m (mul m X (pw m B k)) D i j := by
    intro k
    induction k with
    | zero =>
      intro i j hi hj
      rw [pw_one A hi, hA i j hi hj]
      exact mul_congr (fun b hb => (mul_one X B hb).symm) fun _ _ => rfl
    | succ k ih =>
      intro i j hi hj
      show mul n (pw n A (k + 1)) A i j = _
      rw [mul_congr (fun t ht => ih i t hi ht) fun t ht => hA t j ht hj, mul_assoc2]
      rw [show mul m (mul m X (pw m B k)) (mul n D (mul m X D)) i j = mul m (mul m X (pw m B k)) (mul m B D) i j from mul_congr (fun _ _ => rfl) fun a ha => by
        rw [← mul_assoc2]
        exact mul_congr (fun b hb => hB a b ha hb) fun _ _ => rfl]
      rw [← mul_assoc2]
      exact mul_congr (fun b _ => mul_assoc2 m m X (pw m B k) B i b) fun _ _ => rfl
  have e1 : Lw.tr n A (k + 1) = sm n fun i => sm m fun b => mul m X (pw m B k) i b * D b i := sm_congr fun i hi => P k i i hi hi
  rw [e1, sm_comm]
  refine sm_congr fun b hb => ?_
  show (sm n fun i => mul m X (pw m B k) i b * D b i) = pw m B (k + 1) b b
  rw [show (fun i => mul m X (pw m B k) i b * D b i) = fun i => D b i * mul m X (pw m B k) i b from funext fun i => Nat.mul_comm _ _]
  show mul n D (mul m X (pw m B k)) b b = _
  rw [← mul_assoc2, Nat.add_comm k 1, pw_add B 1 k hb]
  exact mul_congr (fun t ht => by rw [hB b t hb ht, pw_one B hb]) fun _ _ => rfl
theorem Rd.tr {n l : Nat} {A C : Mx} (h : Rd n A l C) (k : Nat) : Lw.tr n A (k + 1) = Lw.tr l C (k + 1) := by
  induction h with
  | refl h =>
    have pc : ∀ {n : Nat} {A B : Mx}, (∀ i j, i < n → j < n → A i j = B i j) → ∀ k i j, i < n → j < n → pw n A k i j = pw n B k i j := by
      intro n A B h k
      induction k with
      | zero => intro i j _ _; rfl
      | succ k ih => exact fun i j hi hj => mul_congr (fun t ht => ih i t hi ht) fun t ht => h t j ht hj
    exact sm_congr fun i hi => pc h _ i i hi hi
  | step e r ih => exact (e.tr k).trans ih
end Lw
set_option Elab.async false
set_option linter.all false
set_option maxRecDepth 100000
/-! merges, splits and renamings of plans as tables with states put together -/
namespace Lw
theorem cntN_app (xs ys : Ps) (a b : Nat) : cntN (xs ++ ys) a b = cntN xs a b + cntN ys a b := by
  unfold cntN
  rw [List.filter_append, List.length_append]
theorem cntN_one (p : Int × Int) (a b : Nat) : cntN [p] a b = if p = ((a : Int), (b : Int)) then 1 else 0 := by
  have := cntN_snoc [] p a b
  rw [List.nil_append] at this
  rw [this]
  show 0 + _ = _
  rw [Nat.zero_add]
theorem cntN_flat (m : Nat) (g : Nat → Ps) (a b : Nat) : cntN ((List.range m).flatMap g) a b = sm m fun k => cntN (g k) a b := by
  induction m with
  | zero => rfl
  | succ m ih =>
    rw [List.range_succ, List.flatMap_append, cntN_app, ih]
    show _ + cntN (g m ++ []) a b = _ + cntN (g m) a b
    rw [List.append_nil]
theorem ps_range (ps : Ps) : ps = (List.range ps.length).map (pat ps) := by
  refine List.ext_getElem? fun i => ?_
  rw [List.getElem?_map]
  by_cases h : i < ps.length
  · rw [List.getElem?_range h, pat_at h]
    rfl
  · rw [List.getElem?_eq_none (by omega), List.getElem?_eq_none (by rw [List.length_range]; omega)]
    rfl
theorem map_flat {α β : Type} (g : α → β) (L : List α) : L.map g = L.flatMap fun k => [g k] := by
  induction L with
  | nil => rfl
  | cons x L ih => rw [List.map_cons, List.flatMap_cons, ih]; rfl
theorem cntN_ps (ps : Ps) (a b : Nat) : cntN ps a b = sm ps.length fun k => if pat ps k = ((a : Int), (b : Int)) then 1 else 0 := by
  have h : cntN ps a b = cntN ((List.range ps.length).flatMap fun k => [pat ps k]) a b := by rw [← map_flat, ← ps_range]
  rw [h, cntN_flat]
  exact sm_congr fun k _ => cntN_one _ _ _
theorem filt_flat {α β : Type} (f : Nat → α) (q : α → Bool) (g : α → β) (L : List Nat) : ((L.map f).filter q).map g = L.flatMap fun k => if q (f k) = true then [g (f k)] else [] := by
  induction L with
  | nil => rfl
  | cons x L ih =>
    rw [List.map_cons, List.flatMap_cons]
    by_cases h : q (f x) = true
    · rw [List.filter_cons_of_pos h, List.map_cons, ih, if_pos h]
      rfl
    · rw [List.filter_cons_of_neg h, ih, if_neg h]
      rfl
/-- one pair, summed over the sources -/
theorem sm_pair {n s t : Nat} {p : Int × Int} (hp : p = ((s : Int), (t : Int))) (hs : s < n) (c : Nat → Nat) (d : Nat) : (sm n fun u => c u * (if p = ((u : Int), (d : Int)) then 1 else 0)) = if t = d then c s else 0 := by
  by_cases e : t = d
  · rw [if_pos e, ← sm_one c hs]
    refine sm_congr fun u _ => ?_
    rw [Nat.mul_comm]
    congr 1
    by_cases w : u = s
    · rw [if_pos w, if_pos (by rw [hp, w, e])]
    · rw [if_neg w, if_neg]
      intro z
      rw [hp] at z
      have := congrArg Prod.fst z
      simp only at this
      omega
  · rw [if_neg e]
    refine (sm_congr (g := fun _ => 0) fun u _ => ?_).trans (sm_zero n)
    rw [if_neg, Nat.mul_zero]
    intro z
    rw [hp] at z
    have := congrArg Prod.snd z
    simp only at this
    omega
theorem pat_nat {n : Nat} {ps : Ps} (r : Rg n ps) {k : Nat} (hk : k < ps.length) : ∃ s t : Nat, pat ps k = ((s : Int), (t : Int)) ∧ s < n ∧ t < n := by
  obtain ⟨a1, a2, a3, a4⟩ := r _ (pat_mem hk)
  refine ⟨(pat ps k).1.toNat, (pat ps k).2.toNat, ?_, by omega, by omega⟩
  refine Prod.ext ?_ ?_
  · show (pat ps k).1 = (((pat ps k).1.toNat : Nat) : Int)
    omega
  · show (pat ps k).2 = (((pat ps k).2.toNat : Nat) : Int)
    omega
/-! ### a merge -/
def nmN (i j s : Nat) : Nat := if s = j then i else if j < s then s - 1 else s
def rpN (j a : Nat) : Nat := if a < j then a else a + 1
theorem nmN_nmS (i j s : Nat) : nmS (i : Int) (j : Int) (s : Int) = ((nmN i j s : Nat) : Int) := by
  unfold nmS nmN
  by_cases e : s = j
  · rw [if_pos (by omega), if_pos e]
  · rw [if_neg (by omega), if_neg e]
    by_cases f : j < s
    · rw [if_pos (by omega), if_pos f]
      omega
    · rw [if_neg (by omega), if_neg f]
theorem nm_rp {i j t b : Nat} (ij : i < j) : (t ≠ j ∧ nmN i j t = b) ↔ t = rpN j b := by
  unfold nmN rpN
  by_cases e : t = j
  · rw [if_pos e]
    refine ⟨fun z => absurd e z.1, fun z => ?_⟩
    by_cases c : b < j
    · rw [if_pos c] at z
      omega
    · rw [if_neg c] at z
      omega
  · rw [if_neg e]
    by_cases f : j < t
    · rw [if_pos f]
      by_cases c : b < j
      · rw [if_pos c]
        omega
      · rw [if_neg c]
        omega
    · rw [if_neg f]
      by_cases c : b < j
      · rw [if_pos c]
        omega
      · rw [if_neg c]
        omega
theorem mrg_el {n i j : Nat} {ps : Ps} (ij : i < j) (jn : j < n) (e : colL n ps i = colL n ps j) (r : Rg n ps) : El n (cntN ps) (n - 1) (cntN (mrgP i j ps)) (nmN i j) (rpN j) := by
  have col0 : ∀ u, u < n → cntN ps u i = cntN ps u j := fun u hu => Int.ofNat.inj (colL_eq e hu)
  have rp1 : ∀ a, nmN i j (rpN j a) = a := fun a => ((nm_rp (i := i) (j := j) (t := rpN j a) (b := a) ij).mpr rfl).2
  refine ⟨fun s hs => ?_, fun a ha => ?_, fun a _ => rp1 a, fun u t hu ht => ?_, fun a b ha hb => ?_⟩
  · unfold nmN
    split
    · omega
    · split <;> omega
  · unfold rpN
    split <;> omega
  · by_cases c : t = j
    · have h1 : nmN i j t = i := by
        unfold nmN
        rw [if_pos c]
      have h2 : rpN j i = i := by
        unfold rpN
        rw [if_pos ij]
      rw [h1, h2, c]
      exact col0 u hu
    · rw [← (nm_rp (i := i) (j := j) (t := t) (b := nmN i j t) ij).mp ⟨c, rfl⟩]
  · have h1 : mrgP i j ps = (List.range ps.length).flatMap fun k => if decide ((pat ps k).2 ≠ (j : Int)) = true then [(nmS i j (pat ps k).1, nmS i j (pat ps k).2)] else [] := by
      rw [← filt_flat (pat ps) (fun p => decide (p.2 ≠ (j : Int))) (fun p => (nmS i j p.1, nmS i j p.2)), ← ps_range]
      rfl
    rw [h1, cntN_flat]
    have h2 : (sm n fun u => (if nmN i j u = a then 1 else 0) * cntN ps u (rpN j b)) = sm ps.length fun k => sm n fun u => (if nmN i j u = a then 1 else 0) * (if pat ps k = ((u : Int), ((rpN j b : Nat) : Int)) then 1 else 0) := by
      rw [sm_comm]
      refine sm_congr fun u _ => ?_
      rw [sm_mull, ← cntN_ps]
    rw [h2]
    refine sm_congr fun k hk => ?_
    obtain ⟨s, t, hp, hs, ht⟩ := pat_nat r hk
    rw [sm_pair hp hs, hp]
    show cntN (if decide ((t : Int) ≠ (j : Int)) = true then [(nmS i j (s : Int), nmS i j (t : Int))] else []) a b = _
    rw [nmN_nmS, nmN_nmS]
    by_cases c : t = rpN j b
    · obtain ⟨c1, c2⟩ := (nm_rp ij).mpr c
      rw [if_pos c, if_pos (decide_eq_true (by omega)), cntN_one, c2]
      by_cases w : nmN i j s = a
      · rw [if_pos w, if_pos (by rw [w])]
      · rw [if_neg w, if_neg]
        intro z
        have := congrArg Prod.fst z
        simp only at this
        omega
    · rw [if_neg c]
      by_cases d : t = j
      · rw [if_neg (by rw [decide_eq_true_eq]; omega)]
        rfl
      · rw [if_pos (decide_eq_true (by omega)), cntN_one, if_neg]
        intro z
        have := congrArg Prod.snd z
        simp only at this
        exact c ((nm_rp ij).mp ⟨d, by omega⟩)
/-! ### a split -/
theorem spl_el {n sN : Nat} {ps : Ps} {part : List Int} (ok : SplOk n ps (sN : Int) part) (r : Rg n ps) : El (n + 1) (cntN (splP n sN part ps)) n (cntN ps) (fun u => if u = n then sN else u) id := by
  have s1 := ok.s1
  have hsn : sN < n := by omega
  have src : ∀ k, k < ps.length → ∃ x x' y : Nat, pat ps k = ((x : Int), (y : Int)) ∧ splE n part ps k = ((x' : Int), (y : Int)) ∧ x < n ∧ y < n ∧ x' < n + 1 ∧ (if x' = n then sN else x') = x := fun k hk => by
    obtain ⟨x, y, hp, hx, hy⟩ := pat_nat r hk
    by_cases c : (k : Int) ∈ part
    · refine ⟨x, n, y, hp, ?_, hx, hy, Nat.lt_succ_self n, ?_⟩
      · unfold splE
        rw [if_pos c, hp]
      · rw [if_pos rfl]
        obtain ⟨i, ei, _, e⟩ := lvT_mem.mp (ok.sub.subset c)
        have : k = i := by omega
        subst this
        rw [hp] at e
        simp only at e
        omega
    · refine ⟨x, x, y, hp, ?_, hx, hy, by omega, by rw [if_neg (by omega)]⟩
      unfold splE
      rw [if_neg c, hp]
  have cA : ∀ u d, d < n → cntN (splP n sN part ps) u d = sm ps.length fun k => if splE n part ps k = ((u : Int), (d : Int)) then 1 else 0 := fun u d hd => by
    unfold splP splA splB
    rw [cntN_app, map_flat, cntN_flat, cntN_flat]
    have : (sm ps.length fun k => cntN (if (pat ps k).2 = (sN : Int) then [((splE n part ps k).1, (n : Int))] else []) u d) = 0 := by
      refine (sm_congr (g := fun _ => 0) fun k _ => ?_).trans (sm_zero _)
      split
      · rw [cntN_one, if_neg]
        intro z
        have := congrArg Prod.snd z
        simp only at this
        omega
      · rfl
    rw [this, Nat.add_zero]
    exact sm_congr fun k _ => cntN_one _ _ _
  have cB : ∀ u, cntN (splP n sN part ps) u n = sm ps.length fun k => if splE n part ps k = ((u : Int), (sN : Int)) then 1 else 0 := fun u => by
    unfold splP splA splB
    rw [cntN_app, map_flat, cntN_flat, cntN_flat]
    have : (sm ps.length fun k => cntN [splE n part ps k] u n) = 0 := by
      refine (sm_congr (g := fun _ => 0) fun k hk => ?_).trans (sm_zero _)
      obtain ⟨x, x', y, h1, h2, hx, hy, _⟩ := src k hk
      rw [cntN_one, h2, if_neg]
      intro z
      have := congrArg Prod.snd z
      simp only at this
      omega
    rw [this, Nat.zero_add]
    refine sm_congr fun k hk => ?_
    obtain ⟨x, x', y, h1, h2, hx, hy, _⟩ := src k hk
    rw [h1, h2]
    show cntN (if (y : Int) = (sN : Int) then [((x' : Int), (n : Int))] else []) u n = _
    by_cases c : y = sN
    · rw [if_pos (by omega), cntN_one, c]
      by_cases w : x' = u
      · rw [if_pos (by rw [w]), if_pos (by rw [w])]
      · rw [if_neg, if_neg]
        · intro z
          have := congrArg Prod.fst z
          simp only at this
          omega
        · intro z
          have := congrArg Prod.fst z
          simp only at this
          omega
    · rw [if_neg (by omega), if_neg]
      · rfl
      · intro z
        have := congrArg Prod.snd z
        simp only at this
        omega
  refine ⟨fun u hu => ?_, fun a ha => by show a < n + 1; omega, fun a ha => ?_, fun u t hu ht => ?_, fun a b ha hb => ?_⟩
  · split <;> omega
  · show (if a = n then sN else a) = a
    rw [if_neg (by omega)]
  · show cntN _ u (if t = n then sN else t) = _
    by_cases c : t = n
    · rw [if_pos c, c, cB u, cA u sN hsn]
    · rw [if_neg c]
  · show cntN ps a b = sm (n + 1) fun u => (if (if u = n then sN else u) = a then 1 else 0) * cntN (splP n sN part ps) u b
    have h2 : (sm (n + 1) fun u => (if (if u = n then sN else u) = a then 1 else 0) * cntN (splP n sN part ps) u b) = sm ps.length fun k => sm (n + 1) fun u => (if (if u = n then sN else u) = a then 1 else 0) * (if splE n part ps k = ((u : Int), (b : Int)) then 1 else 0) := by
      rw [sm_comm]
      refine sm_congr fun u _ => ?_
      rw [cA u b hb, sm_mull]
    rw [h2, cntN_ps]
    refine sm_congr fun k hk => ?_
    obtain ⟨x, x', y, h1, h2, hx, hy, hx', e⟩ := src k hk
    rw [sm_pair h2 hx' (fun u => if (if u = n then sN else u) = a then 1 else 0), h1]
    show _ = if y = b then (if (if x' = n then sN else x') = a then 1 else 0) else 0
    rw [e]
    by_cases c : y = b
    · rw [if_pos c]
      by_cases w : x = a
      · rw [if_pos w, if_pos (by rw [w, c])]
      · rw [if_neg w, if_neg]
        intro z
        have := congrArg Prod.fst z
        simp only at this
        omega
    · rw [if_neg c, if_neg]
      intro z
      have := congrArg Prod.snd z
      simp only at this
      omega
/-! ### other names -/
theorem iso_el {n : Nat} {ps qs : Ps} (h : Iso n ps qs) (r : Rg n ps) : ∃ nm rep, El n (cntN ps) n (cntN qs) nm rep := by
  obtain ⟨t, pm, pe⟩ := h
  have cn : ∀ a b, a < n → b < n → cntN qs (t.getD a 0) (t.getD b 0) = cntN ps a b := fun a b ha hb => by
    have h1 := cnt_map pm r ha hb
    rw [cnt_perm pe] at h1
    exact Int.ofNat.inj h1
  have rl : ∀ a, a < n → t.idxOf a < n ∧ t.getD (t.idxOf a) 0 = a := fun a ha => by
    obtain ⟨i, hi, rfl⟩ := pm_sur pm ha
    rw [idx_at pm hi]
    exact ⟨hi, rfl⟩
  refine ⟨fun i => t.getD i 0, fun a => t.idxOf a, fun i hi => (pm_at pm hi).2, fun a ha => (rl a ha).1, fun a ha => (rl a ha).2, fun u s hu hs => ?_, fun a b ha hb => ?_⟩
  · show cntN ps u (t.idxOf (t.getD s 0)) = _
    rw [idx_at pm hs]
  · obtain ⟨a', ha', rfl⟩ := pm_sur pm ha
    obtain ⟨b', hb', rfl⟩ := pm_sur pm hb
    rw [cn a' b' ha' hb', idx_at pm hb', ← sm_one (fun u => cntN ps u b') ha']
    refine sm_congr fun u hu => ?_
    congr 1
    by_cases e : u = a'
    · rw [if_pos e, if_pos (by rw [e])]
    · rw [if_neg e, if_neg fun z => e (pm_inj pm hu ha' z)]
theorem VaP.rg' {n : Nat} {ps : Ps} (h : VaP (n : Int) ps) : Rg n ps := fun p hp => h.rg p hp
/-! ### chains, least plans -/
theorem Chn.rd {n m : Nat} {ps st qs : Ps} (h : Chn n ps st m qs) (v : VaP (n : Int) ps) (n1 : 1 ≤ n) : Rd n (cntN ps) m (cntN qs) ∧ VaP (m : Int) qs ∧ 1 ≤ m ∧ st.length + m = n := by
  induction h with
  | nil => exact ⟨.refl fun _ _ _ _ => rfl, v, n1, Nat.zero_add _⟩
  | cons ij jn e r ih =>
    rename_i n ps st qs i j m
    have v2 := mrg_valid v ij jn e
    have en : ((n : Nat) : Int) - 1 = ((n - 1 : Nat) : Int) := by omega
    rw [en] at v2
    obtain ⟨h1, h2, h3, h4⟩ := ih v2 (by omega)
    exact ⟨.step (mrg_el ij jn e v.rg') h1, h2, h3, by rw [List.length_cons]; omega⟩
theorem lea_mrgs {n : Nat} {ps : Ps} (h : mrgs n ps = []) : Lea n (cntN ps) := by
  have key : ∀ i j, i < j → j < n → (∀ r, r < n → cntN ps r i = cntN ps r j) → False := fun i j ij jn e => by
    have ec : colL n ps i = colL n ps j := by
      unfold colL
      refine List.map_congr_left fun r hr => ?_
      exact congrArg Int.ofNat (e r (List.mem_range.mp hr))
    have : ((i : Int), (j : Int)) ∈ mrgs n ps := by
      unfold mrgs mrgsTo mrow
      refine List.mem_flatMap.mpr ⟨i, List.mem_range.mpr (by omega), List.mem_flatMap.mpr ⟨j - (i + 1), List.mem_range.mpr (by omega), ?_⟩⟩
      unfold pickd
      have ej : i + 1 + (j - (i + 1)) = j := by omega
      rw [ej, if_pos ec]
      exact List.mem_singleton.mpr rfl
    rw [h] at this
    cases this
  intro i j hi hj e
  rcases Nat.lt_trichotomy i j with c | c | c
  · exact (key i j c hj e).elim
  · exact c
  · exact (key j i c hi fun r hr => (e r hr).symm).elim
/-- least plans below one plan are equal up to names -/
theorem least_iso {n l m : Nat} {A : Mx} {ps qs : Ps} (h : Rd n A l (cntN ps)) (k : Rd n A m (cntN qs)) (hp : mrgs l ps = []) (hq : mrgs m qs = []) (rp : Rg l ps) (rq : Rg m qs) : l = m ∧ Iso l ps qs := by
  obtain ⟨e, f, am⟩ := h.least k (lea_mrgs hp) (lea_mrgs hq)
  subst e
  refine ⟨rfl, ?_⟩
  have tl : ((List.range l).map f).length = l := by simp
  have pm : ((List.range l).map f).Perm (List.range l) := by
    refine (perm_full List.nodup_range (fun x hx => ?_) (by simp)).symm
    obtain ⟨i, hi, rfl⟩ := am.sur x (List.mem_range.mp hx)
    exact List.mem_map.mpr ⟨i, List.mem_range.mpr hi, rfl⟩
  have at_ : ∀ i, i < l → ((List.range l).map f).getD i 0 = f i := fun i hi => by
    simp [List.getD, List.getElem?_map, List.getElem?_range hi]
  have inj : ∀ i j, i < l → j < l → f i = f j → i = j := fun i j hi hj e => pm_inj pm hi hj (by rw [at_ i hi, at_ j hj, e])
  refine ⟨(List.range l).map f, pm, iso_of_gd ⟨pm_nd pm, fun x hx => pm_lt pm hx, fun a b ha hb => ?_⟩ tl rp rq⟩
  rw [tl] at ha hb
  rw [at_ a ha, at_ b hb]
  show ((cntN ps a b : Nat) : Int) = ((cntN qs (f a) (f b) : Nat) : Int)
  rw [am.val (f a) b (am.lt a ha) hb, ← sm_one (fun u => cntN ps u b) ha]
  congr 1
  refine sm_congr fun u hu => ?_
  congr 1
  by_cases e : u = a
  · rw [if_pos e, if_pos (by rw [e])]
  · rw [if_neg e, if_neg fun z => e (inj u a hu ha z)]
end Lw
set_option Elab.async false
set_option linter.all false
set_option maxRecDepth 100000
/-! a plan with other names is the same up to names -/
namespace Lw
theorem pmN_nat {m : Nat} {xs : List Int} (h : PmN m xs) : (xs.map Int.toNat).Perm (List.range m) := by
  have := h.map Int.toNat
  unfold nums at this
  rw [List.map_map] at this
  have e : (List.range m).map (Int.toNat ∘ fun k => ((k : Nat) : Int)) = List.range m := by
    conv => rhs; rw [← List.map_id (List.range m)]
    exact List.map_congr_left fun k _ => Int.toNat_natCast k
  rw [e] at this
  exact this
theorem getD_nat {xs : List Int} {i : Nat} (h0 : 0 ≤ xs.getD i 0) : (((xs.map Int.toNat).getD i 0 : Nat) : Int) = xs.getD i 0 := by
  by_cases h : i < xs.length
  · simp [List.getD, h] at h0 ⊢
    omega
  · simp [List.getD, h]
theorem map_pat (qs : Ps) : (List.range qs.length).map (pat qs) = qs := by
  refine List.ext_getElem (by simp) fun i h1 h2 => ?_
  simp [List.getD, h2]
theorem iso_ren {n : Nat} {ss es : List Int} {ps qs : Ps} (h : VaP n ps) (hs : PmN n ss) (he : PmN ps.length es) (r : RenP ss es ps qs) : Iso n ps qs := by
  have pe := pmN_nat he
  refine ⟨ss.map Int.toNat, pmN_nat hs, ?_⟩
  have le := he.len
  have e : (es.map Int.toNat).map (pat qs) = ps.map (rn (ss.map Int.toNat)) := by
    refine List.ext_getElem (by simp [le]) fun j h1 h2 => ?_
    have hj : j < ps.length := by simpa using h2
    have je : j < es.length := by omega
    have m := he.at_mem hj
    have e1 : es[j]? = some ((es[j].toNat : Nat) : Int) := by
      rw [List.getElem?_eq_getElem je]
      have : es.getD j 0 = es[j] := by simp [List.getD, je]
      rw [this] at m
      congr 1
      omega
    have e2 := r.at_ _ j _ e1 (List.getElem?_eq_getElem hj)
    obtain ⟨a1, a2, a3, a4⟩ := h.rg _ (List.getElem_mem hj)
    have x := hs.at_mem (j := (ps[j]).1.toNat) (by omega)
    have y := hs.at_mem (j := (ps[j]).2.toNat) (by omega)
    rw [List.getElem_map, List.getElem_map, List.getElem_map]
    show qs.getD (es[j].toNat) (0, 0) = ((((ss.map Int.toNat).getD (ps[j]).1.toNat 0 : Nat) : Int), (((ss.map Int.toNat).getD (ps[j]).2.toNat 0 : Nat) : Int))
    rw [getD_nat x.1, getD_nat y.1]
    unfold List.getD at e2 ⊢
    rw [e2]
    rfl
  rw [← e]
  have p := pe.map (pat qs)
  rw [← r.len, map_pat] at p
  exact p
end Lw
set_option Elab.async false
set_option linter.all false
set_option maxRecDepth 100000
/-! a step taken; plans behind some splits, and how they lead back -/
namespace Lw
open PySem L2
abbrev sStd : Stmt := top 78
abbrev sSps : Stmt := top 80
/-- what a step makes of a plan -/
def StpP (n : Nat) (ps : Ps) : Sd → Nat → Ps → Prop
  | .spl s part => fun m qs => m = n + 1 ∧ qs = splP n s part ps
  | .mrg a b => fun m qs => m = n - 1 ∧ qs = mrgP a b ps
  | .ren ss es => fun m qs => m = n ∧ RenP ss es ps qs
def spStd : Sp := fun vs H Q _ => ∃ (p q d : Addr) (n : Nat) (ts : Es) (x : Sd), vs = [.ref p, .ref d] ∧ PlanAt H p q (n : Int) ts ∧ n ≤ 19 ∧ ts.length ≤ 60 ∧ SdAt H d x ∧ SdOk n (psOf ts) x ∧
  ∀ (p' q' : Addr) (m : Nat) (us : Es) (H' : Hp), Same H H' → H p' = none → H q' = none → PlanAt H' p' q' (m : Int) us → StpP n (psOf ts) x m (psOf us) → Q (.ref p') H'
def spSps : Sp := fun vs H Q _ => ∃ (b l p q : Addr) (ns : List Int) (n many most : Nat) (ts : Es), vs = [.ref b, .ref p, .int (many : Int), .int (most : Int)] ∧ BagAt H b l ns ∧ PlanAt H p q (n : Int) ts ∧ n ≤ 8 ∧ many ≤ 20 ∧ most ≤ 24 ∧ ts.length ≤ most ∧
  ∀ (p' q' : Addr) (m : Nat) (us : Es) (H' : Hp), KeepB b H H' → BagAt H' b l ns → PlanAt H' p' q' (m : Int) us → m ≤ 8 → us.length ≤ most → Rd m (cntN (psOf us)) n (cntN (psOf ts)) → H q' = none → Q (.ref p') H'
section
variable {P : Program} {w : World} {K : PySem.W.Frag} {mg : Str → Option Value} {base : Heap} {f : Addr} {fd : FuncData} {k : Nat}
theorem scStd : FnScope ["_law_plan_here", "_law_step"] ["_law_plan_here", "_law_step"] (defScope sStd) := ⟨rfl, rfl, rfl, by decide +kernel, rfl, by decide +kernel, by decide +kernel⟩
theorem scSps : FnScope ["_law_bag_here", "_law_plan_here", "_law_many", "_law_most", "_law_here", "_law_turn", "_law_step"] ["_law_bag_here", "_law_plan_here", "_law_many", "_law_most"] (defScope sSps) := ⟨rfl, rfl, rfl, by decide +kernel, rfl, by decide +kernel, by decide +kernel⟩
set_option maxHeartbeats 8000000 in
theorem ok_std (F : Fun K "_law_stepped" "_law_stepped" sStd f fd) (cS : C8.Cal P w K mg base 1 "_law_split" spLSp []) (cM : C8.Cal P w K mg base 1 "_law_merge" spMrg []) (cR : C8.Cal P w K mg base 1 "_law_renamed" spLRn []) : FnOk P w K mg base CX0 (k + 2) f fd ["_law_plan_here", "_law_step"] spStd := by
  refine F.ok scStd (fun vs H Q E h => ?_) (fun cdv A outer s H vs Q E hr h => ?_)
  · obtain ⟨p, q, d, n, ts, x, rfl, _⟩ := h
    rfl
  · obtain ⟨p, q0, d, n, ts, x, rfl, PA, hn, hl, at_, ok, q⟩ := h
    refine ⟨_, pss_cons (ps_if (pt_cmpR op_eq (pe_ix ix_tup (pv 1) pe_int (fun _ _ => rfl)) pe_str (nomark _)) (pss_one (ps_ret (C8.pe_c cS hr (by omega) (by rfl) (pa_cons (pv 0) (pa_cons (pe_ix ix_tup (pv 1) pe_int (fun _ _ => rfl)) (pa_cons (pe_ix ix_tup (pv 1) pe_int (fun _ _ => rfl)) pa_nil)))))) pss_nil)
      (pss_one (ps_ret (pe_ifExp (pt_cmpR op_eq (pe_ix ix_tup (pv 1) pe_int (fun _ _ => rfl)) pe_str (nomark _)) (C8.pe_c cM hr (by omega) (by rfl) (pa_cons (pv 0) (pa_cons (pe_ix ix_tup (pv 1) pe_int (fun _ _ => rfl)) (pa_cons (pe_ix ix_tup (pv 1) pe_int (fun _ _ => rfl)) pa_nil))))
        (C8.pe_c cR hr (by omega) (by rfl) (pa_cons (pv 0) (pa_cons (pe_ix ix_tup (pv 1) pe_int (fun _ _ => rfl)) (pa_cons (pe_ix ix_tup (pv 1) pe_int (fun _ _ => rfl)) pa_nil))))))), ?_⟩
    cases x with
    | spl st part =>
      obtain ⟨t, e1, e2⟩ := at_
      obtain ⟨o1, o2, o3⟩ := ok
      refine ⟨_, rfl, d, _, _, _, rfl, rfl, SqT.of e1, rfl, rfl, _, rfl, if_t dS ?_⟩
      refine ⟨_, rfl, _, rfl, d, _, _, _, rfl, rfl, SqT.of e1, rfl, _, rfl, d, _, _, _, rfl, rfl, SqT.of e1, rfl, p, q0, t, n, ts, st, part, rfl, PA, by omega, hl, e2, o1, fun p' q' us H' s1 n1 n2 PA' eu => ?_⟩
      exact q p' q' _ us H' s1 n1 n2 PA' ⟨rfl, eu⟩
    | mrg a b =>
      obtain ⟨i, j, eij, ij, jn, ec⟩ := mrgs_mem ok
      have e1 : H d = some (.tup [.str "merge", .int a, .int b]) := at_
      injection eij with ea eb
      subst ea eb
      refine ⟨_, rfl, d, _, _, _, rfl, rfl, SqT.of e1, rfl, rfl, _, rfl, if_f dM ?_⟩
      refine ⟨_, rfl, d, _, _, _, rfl, rfl, SqT.of e1, rfl, rfl, _, rfl, if_t dMM ?_⟩
      refine ⟨_, rfl, _, rfl, d, _, _, _, rfl, rfl, SqT.of e1, rfl, _, rfl, d, _, _, _, rfl, rfl, SqT.of e1, rfl, p, q0, n, i, j, ts, rfl, PA, by omega, hl, ij, jn, ec, fun p' q' us H' s1 n1 n2 PA' eu => ?_⟩
      exact q p' q' _ us H' s1 n1 n2 PA' ⟨rfl, eu⟩
    | ren ss es =>
      obtain ⟨t, u, e1, e2, e3⟩ := at_
      obtain ⟨o1, o2⟩ := ok
      rw [psL_len] at o2
      refine ⟨_, rfl, d, _, _, _, rfl, rfl, SqT.of e1, rfl, rfl, _, rfl, if_f dR ?_⟩
      refine ⟨_, rfl, d, _, _, _, rfl, rfl, SqT.of e1, rfl, rfl, _, rfl, if_f dRM ?_⟩
      refine ⟨_, rfl, _, rfl, d, _, _, _, rfl, rfl, SqT.of e1, rfl, _, rfl, d, _, _, _, rfl, rfl, SqT.of e1, rfl, p, q0, t, u, n, ts, ss, es, rfl, PA, by omega, hl, e2, e3, o1, o2, fun p' q' us H' s1 n1 n2 PA' eu => ?_⟩
      exact q p' q' _ us H' s1 n1 n2 PA' ⟨rfl, eu⟩
set_option maxHeartbeats 8000000 in
theorem ok_sps (F : Fun K "_law_splits" "_law_splits" sSps f fd) (T : Bi mg) (cF : C8.Cal P w K mg base 3 "_law_step_for" spStF []) (cT : C8.Cal P w K mg base 2 "_law_stepped" spStd []) (cR : C8.Cal P w K mg base 1 "_law_renamed" spLRn []) (cH : C8.Cal P w K mg base 2 "_law_shuffled" spShuf []) :
    FnOk P w K mg base CX0 (k + 4) f fd ["_law_bag_here", "_law_plan_here", "_law_many", "_law_most"] spSps := by
  refine F.ok scSps (fun vs H Q E h => ?_) (fun cdv A outer s H vs Q E hr h => ?_)
  · obtain ⟨b, l, p, q, ns, n, many, most, ts, rfl, _⟩ := h
    rfl
  · obtain ⟨b, l, p, q0, ns, n, many, most, ts, rfl, B, PA, hn, hm, ho, hl, q⟩ := h
    refine ⟨_, pss_cons (ps_set (i := 4) scSps.nd rfl (.inl rfl) (pv 1))
      (pss_cons (ps_for PassesOwn.never rfl (pi_range1 (by rfl) T.range (pa_cons (pv 2) pa_nil)) (pg_name (i := 5) scSps.nd rfl (.inl rfl))
        (pss_cons (ps_set (i := 6) scSps.nd rfl (.inl rfl) (C8.pe_c cF hr (by omega) (by rfl) (pa_cons (pv 0) (pa_cons (pv 4) pa_nil))))
        (pss_one (ps_if (PW.pt (pw_and (pt_cmpR op_eq (pe_ix ix_tup (pv 6) pe_int (fun _ _ => rfl)) pe_str (nomark _)) (pw_and1 (pt_cmpR op_le (pe_callB call_len_seq (by rfl) T.len PySem.boot_len (pa_cons (pe_ix ix_tup (C8.pe_c cT hr (by omega) (by rfl) (pa_cons (pv 4) (pa_cons (pv 6) pa_nil))) pe_int (fun _ _ => rfl)) pa_nil)) (pv 3) (nomark _)))))
          (pss_one (ps_set (i := 4) scSps.nd rfl (.inl rfl) (C8.pe_c cT hr (by omega) (by rfl) (pa_cons (pv 4) (pa_cons (pv 6) pa_nil))))) pss_nil))))
      (pss_one (ps_ret (C8.pe_c cR hr (by omega) (by rfl) (pa_cons (pv 4) (pa_cons (C8.pe_c cH hr (by omega) (by rfl) (pa_cons (pv 0) (pa_cons (pe_ix ix_tup (pv 4) pe_int (fun _ _ => rfl)) pa_nil))) (pa_cons (C8.pe_c cH hr (by omega) (by rfl) (pa_cons (pv 0) (pa_cons (pe_callB call_len_seq (by rfl) T.len PySem.boot_len (pa_cons (pe_ix ix_tup (pv 4) pe_int (fun _ _ => rfl)) pa_nil)) pa_nil))) pa_nil))))))), ?_⟩
    refine ⟨_, rfl, _, rfl, (many : Int), rfl, by omega, by omega, ?_⟩
    refine for_it (walk_range (lo := 0) (n := ((many : Int)).toNat)) (fun i σ H' => ∃ (v5 v6 : Option V) (p' q' : Addr) (m : Nat) (us : Es), σ = [some (.ref b), some (.ref p), some (.int (many : Int)), some (.int (most : Int)), some (.ref p'), v5, v6] ∧ KeepB b H H' ∧ BagAt H' b l ns ∧ PlanAt H' p' q' (m : Int) us ∧ m ≤ 8 ∧ us.length ≤ most ∧ Rd m (cntN (psOf us)) n (cntN (psOf ts)))
      ⟨none, none, p, q0, n, ts, rfl, .of_same (fun _ _ z => z), B, PA, hn, hl, .refl fun _ _ _ _ => rfl⟩ (fun _ _ _ _ _ => True.intro) ?_ ?_
    · rintro i x σ H1 H2 hi ⟨v5, v6, p', q', m, us, rfl, k1, B1, PA1, hm1, hl1, rd1⟩ ⟨rfl, rfl⟩
      refine ⟨_, rfl, _, rfl, b, l, p', q', ns, (m : Int), us, rfl, B1, PA1, by omega, by omega, fun d H3 x k3 B3 sd ok => ?_⟩
      rw [Int.toNat_natCast] at ok
      have PA3 := PA1.keep' B1 k3
      have k13 := k1.trans k3
      have out : ∃ (v5 v6 : Option V) (p'' q'' : Addr) (m : Nat) (us : Es), [some (V.ref b), some (.ref p), some (.int (many : Int)), some (.int (most : Int)), some (.ref p'), some (.int (0 + (i : Int))), some (.ref d)] = [some (V.ref b), some (.ref p), some (.int (many : Int)), some (.int (most : Int)), some (.ref p''), v5, v6] ∧ KeepB b H H3 ∧ BagAt H3 b l ns ∧ PlanAt H3 p'' q'' (m : Int) us ∧ m ≤ 8 ∧ us.length ≤ most ∧ Rd m (cntN (psOf us)) n (cntN (psOf ts)) := ⟨_, _, p', q', m, us, rfl, k13, B3, PA3, hm1, hl1, rd1⟩
      cases x with
      | mrg a b2 =>
        have e1 : H3 d = some (.tup [.str "merge", .int a, .int b2]) := sd
        exact ⟨_, rfl, d, _, _, _, rfl, rfl, SqT.of e1, rfl, rfl, _, rfl, if_f dM (if_f rfl out)⟩
      | ren ss es =>
        obtain ⟨t, u, e1, _⟩ := sd
        exact ⟨_, rfl, d, _, _, _, rfl, rfl, SqT.of e1, rfl, rfl, _, rfl, if_f dR (if_f rfl out)⟩
      | spl st part =>
        obtain ⟨t, e1, e2⟩ := id sd
        refine ⟨_, rfl, d, _, _, _, rfl, rfl, SqT.of e1, rfl, rfl, _, rfl, if_t dS ?_⟩
        refine ⟨_, rfl, _, rfl, p', q', d, m, us, .spl st part, rfl, PA3, by omega, by omega, sd, ok, fun p2 q2 m2 ws H4 s4 n4 n4q PA4 st4 => ?_⟩
        refine ⟨p2, _, _, _, rfl, rfl, SqT.of PA4.tp, rfl, q2, _, rfl, .inl (SqL.of PA4.ls), _, rfl, _, _, rfl, rfl, _, rfl, ite2 (fun hc => ?_) (fun hc => ?_)⟩
        · have hc := of_decide_eq_true hc
          rw [vsOf_len] at hc
          refine ⟨_, rfl, _, rfl, p', q', d, m, us, .spl st part, rfl, PA3.same s4, by omega, by omega, sd.same s4, ok, fun p5 q5 m5 zs H5 s5 n5 n5q PA5 st5 => ?_⟩
          obtain ⟨em5, ez5⟩ := st5
          obtain ⟨em4, ez4⟩ := st4
          have lz : zs.length = ws.length := by
            have := congrArg List.length (ez5.trans ez4.symm)
            rw [psL_len, psL_len] at this
            exact this
          obtain ⟨o1, o2, _⟩ := ok
          have rd5 : Rd m5 (cntN (psOf zs)) n (cntN (psOf ts)) := by
            have o0 := o1.s0
            obtain ⟨sN, rfl⟩ : ∃ k : Nat, st = (k : Int) := ⟨st.toNat, (Int.toNat_of_nonneg o0).symm⟩
            rw [em5, ez5]
            exact .step (spl_el o1 PA1.va.ps.rg') rd1
          exact ⟨_, _, p5, q5, m5, zs, rfl, (k13.trans (.of_same s4)).trans (.of_same s5), (B3.same s4).same s5, PA5, by omega, by omega, rd5⟩
        · exact ⟨_, _, p', q', m, us, rfl, k13.trans (.of_same s4), B3.same s4, PA3.same s4, hm1, hl1, rd1⟩
    · rintro σ H1 ⟨v5, v6, p', q', m, us, rfl, k1, B1, PA1, hm1, hl1, rd1⟩
      have n1 := PA1.n1
      refine ⟨_, rfl, _, rfl, _, rfl, p', _, _, _, rfl, rfl, SqT.of PA1.tp, rfl, b, l, ns, m, rfl, B1, by omega, fun t H2 xs k2 B2 ft pm => ?_⟩
      have PA2 := PA1.keep' B1 k2
      refine ⟨_, rfl, _, rfl, p', _, _, _, rfl, rfl, SqT.of PA2.tp, rfl, q', _, rfl, .inl (SqL.of PA2.ls), b, l, ns, _, rfl, B2, by rw [vsOf_len]; omega, fun u H3 ys k3 B3 fu pm2 => ?_⟩
      rw [vsOf_len] at pm2
      have PA3 := PA2.keep' B2 k3
      refine ⟨p', q', t, u, m, us, xs, ys, rfl, PA3, by omega, by omega, ft.keep B2 k3, fu, pm, pm2, fun p5 q5 zs H4 s4 np nq PA4 rp => ?_⟩
      have lz := rp.len
      rw [psL_len, psL_len] at lz
      have io := (iso_ren PA1.va.ps pm (by rw [psL_len]; exact pm2) rp).symm PA1.va.ps.rg'
      obtain ⟨nm, rep, el⟩ := iso_el io PA4.va.ps.rg'
      exact q p5 q5 m zs H4 (((k1.trans k2).trans k3).trans (.of_same s4)) (B3.same s4) PA4 hm1 (by omega) (.step el rd1) (((k1.trans k2).trans k3).free B3.ob.choose_spec.1 nq)
end
end Lw
set_option Elab.async false
set_option linter.all false
set_option maxRecDepth 100000
/-! a < b < c < d as a test; a property by its getter -/
namespace Lw
open PySem PySem.Spec PyProof.Rows L2
def tChain3 (r1 r2 r3 : R2) (ta tb tc td : TE) : TT := fun σ H Q => ta σ H fun x H1 => tb σ H1 fun y H2 => r1 x y H2 fun z H3 => ∃ k, z = .bl k ∧ (if k = true then
  tc σ H3 fun u H4 => r2 y u H4 fun z2 H5 => ∃ k2, z2 = .bl k2 ∧ (if k2 = true then td σ H5 fun v H6 => r3 u v H6 fun z3 H7 => ∃ k3, z3 = .bl k3 ∧ Q k3 H7 else Q false H5) else Q false H3)
section
variable {X : Cx}
theorem pt_chain3 {a b c d : Expr} {ta tb tc td : TE} {pos : Pos} {o1 o2 o3 : CmpOp} {r1 r2 r3 : R2} (h1 : OpR X (compareOp o1) r1) (h2 : OpR X (compareOp o2) r2) (h3 : OpR X (compareOp o3) r3) (ha : PE X a ta) (hb : PE X b tb) (hc : PE X c tc) (hd : PE X d td)
    (hm : lastMarks [o1, o2, o3] [b, c, d] = false := by with_unfolding_all rfl) : PT X (.Compare a [o1, o2, o3] [b, c, d] pos) (tChain3 r1 r2 r3 ta tb tc td) := by
  constructor
  intro pins t σ H Q I h
  refine isTrue_chain (wpAny_mono (ha.run pins t σ H _ I h) ?_ fun _ _ z => z) hm
  rintro va t1 ⟨x, H1, I1, ra, q1⟩
  refine test_link (wpAny_mono (hb.run pins t1 σ H1 _ I1 q1) ?_ fun _ _ z => z)
  rintro vb t2 ⟨y, H2, I2, rb, q2⟩
  refine wpAny_mono (h1 pins t2 σ H2 x y va vb _ I2 ra rb q2) ?_ fun _ _ z => z
  rintro e1 t3 ⟨_, H3, I3, re1, k1, rfl, q3⟩
  cases re1
  refine wpAny_truthy_bool ?_
  cases k1 with
  | false => exact ite_ff ⟨H3, I3, q3⟩
  | true =>
    refine ite_tt (test_link (wpAny_mono (hc.run pins t3 σ H3 _ I3 q3) ?_ fun _ _ z => z))
    rintro vc t4 ⟨u, H4, I4, rc, q4⟩
    refine wpAny_mono (h2 pins t4 σ H4 y u vb vc _ I4 rb rc q4) ?_ fun _ _ z => z
    rintro e2 t5 ⟨_, H5, I5, re2, k2, rfl, q5⟩
    cases re2
    refine wpAny_truthy_bool ?_
    cases k2 with
    | false => exact ite_ff ⟨H5, I5, q5⟩
    | true =>
      refine ite_tt (test_last (wpAny_mono (hd.run pins t5 σ H5 _ I5 q5) ?_ fun _ _ z => z))
      rintro vd t6 ⟨v, H6, I6, rd, q6⟩
      refine wpAny_mono (h3 pins t6 σ H6 u v vc vd _ I6 rc rd q6) ?_ fun _ _ z => z
      rintro e3 t7 ⟨_, H7, I7, re3, k3, rfl, q7⟩
      cases re3
      exact wpAny_truthy_bool ⟨H7, I7, q7⟩
end
/-- a property -/
structure Prp (P : Program) (w : World) (K : PySem.W.Frag) (mg : Str → Option Value) (base : Heap) (k : Nat) (C : Addr) (f : Str) (sp : Sp) : Prop where
  ex : ∃ (p g : Addr) (fd : FuncData), Cls K C ∧ PropOf K C f p g ∧ FnOk P w K mg base CX0 k g fd ["self"] sp ∧ Binds K fd ["self"] []
theorem pe_pr {X : Cx} {k j : Nat} {C : Addr} {f : Str} {sp : Sp} {e : Expr} {ta : TE} {pos : Pos} (h : Prp X.prog X.w X.K X.mg X.base k C f sp) (hr : Room j X.A) (hk : k + 1 ≤ j) (he : PE X e ta) (hab : attributeBase e f X.env (eval e X.env) = eval e X.env := by rfl) : PE X (.Attribute e f pos) (tProp C sp [] E0 ta) := by
  obtain ⟨p, g, fd, c, hp, F, b⟩ := h.ex
  exact pe_prop he c hp F (hr.mono hk) b .nil pass0 hab
end Lw
set_option Elab.async false
set_option linter.all false
set_option maxRecDepth 100000
/-! an edge by its number -/
namespace Lw
open PySem L2
abbrev sEdge : Stmt := inClass (top 43) 9
def spEdge0 (C : Addr) : Sp := fun vs H Q _ => ∃ (g : Addr) (n : Int) (us : Es) (i : Nat) (e : Addr × Int × Int), vs = [.ref g, .int (i : Int)] ∧ GraphAt C H g n us ∧ us[i]? = some e ∧ Q (.ref e.1) H
section
variable {P : Program} {w : World} {K : PySem.W.Frag} {mg : Str → Option Value} {base : Heap}
theorem scEdge : FnScope ["self", "number"] ["self", "number"] (defScope sEdge) := ⟨rfl, rfl, rfl, by decide +kernel, rfl, by decide +kernel, by decide +kernel⟩
theorem ok_edge0 {f C : Addr} {mc : Value} {fd : FuncData} {k : Nat} (F : Fun K "edge" "Graph.edge" sEdge f fd) (T : Bi mg) (G : GTxt K mg C mc) : FnOk P w K mg base CX0 (k + 1) f fd ["self", "number"] (spEdge0 C) := by
  refine F.ok scEdge (fun vs H Q E h => ?_) (fun cdv A outer s H vs Q E hr h => ?_)
  · obtain ⟨g, n, us, i, e, rfl, _⟩ := h
    rfl
  · obtain ⟨g, n, us, i, e, rfl, ⟨⟨dx, t, h1, h2⟩, ed⟩, hi, q⟩ := h
    refine ⟨_, pss_cons (ps_if (pt_not (pt_chain op_le op_lt pe_int (pv 1) (pe_callB call_len_seq (by rfl) T.len PySem.boot_len (pa_cons (pe_fld (pv 0) rfl) pa_nil)))) (pss_one ps_never) pss_nil)
      (pss_one (ps_ret (pe_ix ix_tup (pe_fld (pv 0) rfl) (pv 1) (fun _ _ => rfl)))), ?_⟩
    have hlt : i < us.length := (List.getElem?_eq_some_iff.mp hi).1
    refine ⟨_, rfl, _, _, rfl, rfl, _, rfl, if_t (decide_eq_true (by omega)) ⟨_, rfl, g, C, dx, _, _, rfl, h1, G.cl, G.nE, look_e _ _, t, _, rfl, .inr (SqT.of h2), _, _, rfl, rfl, _, rfl, if_f (by rw [vsOf_len, decide_eq_true (by omega)]; rfl) ?_⟩⟩
    exact ⟨_, rfl, g, C, dx, _, _, rfl, h1, G.cl, G.nE, look_e _ _, _, rfl, t, _, _, _, rfl, rfl, SqT.of h2, es_at hi, q⟩
end
end Lw
set_option Elab.async false
set_option linter.all false
set_option maxRecDepth 100000
set_option maxHeartbeats 2000000
/-! `!=` of two lists or tuples whose items are equal one by one, by an own __eq__ or by being the same object -/
namespace NeQ
open PySem PySem.SeqAt GQ
open AutoSeq1 (wpAny_loadPart')
open MeetsSeq MeetsSeq2 MeetsSeq3 SeqRoads2
section
variable {P : Program} {W : World} {B : Around} {Z : Result → Shared → Prop}
theorem ne_run (l b : Addr) (N : Nat) (J : Nat → Shared → Prop) (rd : ListI P W B (fun e t => Z (.error e) t) l b N J) (out : ∀ t, J N t → Z (.ok (.ret (.bool false))) t) :
    ∀ k i : Nat, N - i = k → i ≤ N → ∀ t, J i t → wpAny (model P W) B.in1 (Builtin.«list.__eq__.loop» ⟨[.ref l, .ref b, rawInt i, rawInt 3], []⟩) (FinOf P W B Z) (fun e t => Z (.error e) t) t := by
  intro k
  induction k with
  | zero =>
    intro i hk hi t ht
    obtain ⟨us, vs, cu, cv, gl, gb, su, sv, _⟩ := rd _ _ ht
    have ei : i = N := by omega
    have fin : Z (.ok (.ret (.bool false))) t := out t (ei ▸ ht)
    obtain ⟨hp, g, d, tk, os⟩ := t
    wp_walk using wpAny_loadPart' gl, wpAny_loadPart' gb
    have no1 : us[((i : Nat) : Int).toNat]? = none := by simp; omega
    have no2 : vs[((i : Nat) : Int).toNat]? = none := by simp; omega
    rw [no1, no2]
    wp_walk using wpAny_loadPart' gl, wpAny_loadPart' gb
    show Z (.ok (.ret (.bool (us.size != vs.size)))) _
    rw [su, sv]
    simpa using fin
  | succ k ih =>
    intro i hk hi t ht
    obtain ⟨us, vs, cu, cv, gl, gb, su, sv, turn⟩ := rd _ _ ht
    have l1 : i < us.size := by omega
    have l2 : i < vs.size := by omega
    have one := turn l1 l2
    obtain ⟨hp, g, d, tk, os⟩ := t
    wp_walk using wpAny_loadPart' gl, wpAny_loadPart' gb
    rw [show us[((i : Nat) : Int).toNat]? = some us[i] by simp [l1], show vs[((i : Nat) : Int).toNat]? = some vs[i] by simp [l2]]
    refine wpAny_bind (wpAny_mono one (fun r t2 z => ?_) fun _ _ z => z)
    obtain ⟨er, h2⟩ := z
    subst er
    have go := ih (i + 1) (by omega) (by omega) t2 h2
    obtain ⟨hp2, g2, d2, tk2, os2⟩ := t2
    wp_walk
    rw [show ((i : Int) + 1) = ((i + 1 : Nat) : Int) by omega]
    refine ⟨plainId_quiet plain_eq_loop _, codeAny_builtin entry_eq_loop ?_⟩
    rw [Around.under_plainId plain_eq_loop _]
    exact go
theorem ne_lists (l b : Addr) (N : Nat) (J : Nat → Shared → Prop) (rd : ListI P W B (fun e t => Z (.error e) t) l b N J) (out : ∀ t, J N t → Z (.ok (.ret (.bool false))) t) {t : Shared} (ht : J 0 t) :
    wpAny (model P W) B.in1 (Builtin.«list.__ne__» ⟨[.ref l, .ref b], []⟩) (FinOf P W B Z) (fun e t => Z (.error e) t) t := by
  obtain ⟨us, vs, cu, cv, gl, gb, su, sv, _⟩ := rd _ _ ht
  have go := ne_run (B := B) (Z := Z) l b N J rd out _ 0 rfl (Nat.zero_le _) t ht
  obtain ⟨hp, g, d, tk, os⟩ := t
  have ll := AutoSeq1.sub_list_list
  have same : ¬ (us.size != vs.size) = true := by simp [su, sv]
  wp_walk using wpAny_loadPart' gl, wpAny_loadPart' gb
  refine ⟨plainId_quiet plain_eq_loop _, codeAny_builtin entry_eq_loop ?_⟩
  rw [Around.under_plainId plain_eq_loop _]
  exact go
theorem ne_tuples (l b : Addr) (us vs : Array Value) (cu cv : Nat) (du dv : Option Addr) (au av : Array (Option Value)) (sz : us.size = vs.size) (J : Nat → Shared → Prop)
    (turn : ∀ i (h1 : i < us.size) (h2 : i < vs.size) t, J i t → wpAny (model P W) B.in1 (eqBool us[i] vs[i]) (fun r t2 => r = true ∧ J (i + 1) t2) (fun e t2 => Z (.error e) t2) t) (out : ∀ t, J us.size t → Z (.ok (.ret (.bool false))) t) {t : Shared}
    (gl : t.heap.get? l = some { cls := .type "tuple", dict := du, data := .seq us cu, slots := au }) (gb : t.heap.get? b = some { cls := .type "tuple", dict := dv, data := .seq vs cv, slots := av }) (ht : J 0 t) :
    wpAny (model P W) B.in1 (Builtin.«tuple.__ne__» ⟨[.ref l, .ref b], []⟩) (FinOf P W B Z) (fun e t2 => Z (.error e) t2) t := by
  have tt := AutoSeq1.sub_tuple_tuple
  have zl : (us.toList.zip vs.toList).length = us.size := by simp [sz]
  have start := ht
  obtain ⟨hp, g, d, tk, os⟩ := t
  wp_walk using wpAny_loadPart' gl, wpAny_loadPart' gb, wpAny_forIn_list _ (fun more acc t2 => acc.1 = none ∧ ∃ i, more = (us.toList.zip vs.toList).drop i ∧ i ≤ us.size ∧ J i t2) _
  case turn =>
    rintro ⟨x, y⟩ more acc t2 ⟨ha, i, hm, hi, hJ⟩
    have lt : i < (us.toList.zip vs.toList).length := Nat.lt_of_not_le fun ge => by
      rw [List.drop_of_length_le ge] at hm
      cases hm
    have l1 : i < us.size := zl ▸ lt
    have l2 : i < vs.size := sz ▸ l1
    rw [List.drop_eq_getElem_cons lt] at hm
    injection hm with hxy hmore
    have ex : x = us[i] := by simpa using congrArg Prod.fst hxy
    have ey : y = vs[i] := by simpa using congrArg Prod.snd hxy
    subst ex ey
    refine wpAny_bind (wpAny_mono (turn i l1 l2 t2 hJ) (fun r t3 z => ?_) fun _ _ z => z)
    obtain ⟨er, z⟩ := z
    subst er
    wp_walk
    exact ⟨rfl, i + 1, hmore, l1, z⟩
  case fin =>
    rintro ⟨a1, a2⟩ t2 ⟨ha, i, hm, hi, hJ⟩
    simp only at ha
    subst ha
    have ge : us.size ≤ i := Nat.le_of_not_lt fun lt => by
      rw [List.drop_eq_getElem_cons (zl.symm ▸ lt)] at hm
      cases hm
    have fin : Z (.ok (.ret (.bool false))) t2 := out t2 ((show i = us.size by omega) ▸ hJ)
    wp_walk
    simpa [Builtin.Tuple.tupleCompareSizes, sz] using fin
  case h => exact ⟨rfl, 0, rfl, Nat.zero_le _, start⟩
end
end NeQ
namespace L2
open PySem PySem.Spec PyProof.Rows
section
variable {X : Cx} {n : Nat} {D : Eqv}
/-- != gives False for what D says -/
def RnG (X : Cx) (n : Nat) (D : Eqv) : Prop :=
  ∀ (B : Around) (pins : List (Addr × Obj)) (t : Shared) (σ : St) (H : Hp) (x y : V) (u v : Value), Sub X n B → Inv X pins σ H t → RelV x u → RelV y v → D x y H →
    wpAny (model X.prog X.w) B (richCompare .NotEq u v) (fun r t2 => r = .bool false ∧ LoopI X pins σ H t2) X.xe t
theorem rnG_list (hD : Mon D) (h : EqG X n D) : RnG X (n + 1) (DList D) := by
  intro B pins t σ H x y u v sb I rx ry d
  obtain ⟨a, b, xs, ys, rfl, rfl, ha, hb, p⟩ := d
  cases rx
  cases ry
  have rd : GQ.ListI X.prog X.w B X.xe a b xs.length (fun _ t2 => LoopI X pins σ H t2) := fun i t2 q => by
    obtain ⟨H1, I1, x1⟩ := id q
    obtain ⟨_, us, k, r, e⟩ := I1.hok a _ (x1 _ _ ha)
    obtain ⟨_, vs, k2, r2, e2⟩ := I1.hok b _ (x1 _ _ hb)
    exact ⟨us.toArray, vs.toArray, k, k2, e, e2, by rw [List.size_toArray, ← r.length], by rw [List.size_toArray, ← r2.length, ← p.1], fun h1 h2 => turnG hD h sb p r r2 i h1 h2 t2 q⟩
  have q0 : LoopI X pins σ H t := ⟨H, I, Ext.rfl'⟩
  obtain ⟨_, _, _, _, gl, gb, _⟩ := rd 0 t q0
  refine wpAny_richCompare_same_room (op := .NotEq) ⟨_, gl, rfl⟩ ⟨_, gb, rfl⟩ F.slot_list_ne (GQ.call_here F.slot_list_ne ⟨_, gl, rfl⟩ F.entry_list_ne (F.args_list_ne_2 _ _) ?_) sb.room.units0
  exact NeQ.ne_lists a b xs.length (fun _ t2 => LoopI X pins σ H t2) rd (fun t2 q => ⟨(fun z => nomatch z), rfl, q⟩) q0
theorem rnG_tup (hD : Mon D) (h : EqG X n D) : RnG X (n + 1) (DTup X.K D) := by
  intro B pins t σ H x y u v sb I rx ry d
  obtain ⟨a, b, xs, ys, rfl, rfl, ha, hb, p⟩ := d
  cases rx
  cases ry
  obtain ⟨us, r, e, _⟩ := I.tuple ha
  obtain ⟨vs, r2, e2, _⟩ := I.tuple hb
  have sz : us.toArray.size = vs.toArray.size := by
    rw [List.size_toArray, List.size_toArray, ← r.length, ← r2.length]
    exact p.1
  obtain ⟨⟨c1, d1, o1, w1⟩, g1, k1, m1, f1⟩ := id e
  obtain ⟨⟨c2, d2, o2, w2⟩, g2, k2, m2, f2⟩ := id e2
  simp only at k1 f1 k2 f2
  subst k1 f1 k2 f2
  refine wpAny_richCompare_same_room (op := .NotEq) ⟨_, g1, rfl⟩ ⟨_, g2, rfl⟩ F.slot_tuple_ne (GQ.call_here F.slot_tuple_ne ⟨_, g1, rfl⟩ F.entry_tuple_ne (F.args_tuple_ne_2 _ _) ?_) sb.room.units0
  exact NeQ.ne_tuples a b us.toArray vs.toArray m1 m2 d1 d2 w1 w2 sz (fun _ t2 => LoopI X pins σ H t2) (fun i h1 h2 t2 q => turnG hD h sb p r r2 i h1 h2 t2 q) (fun t2 q => ⟨(fun z => nomatch z), rfl, q⟩) g1 g2 ⟨H, I, Ext.rfl'⟩
/-- the same object -/
def DSame : Eqv := fun x y _ => ∃ a, x = .ref a ∧ y = .ref a
theorem mon_same : Mon DSame := fun _ _ _ _ _ d => d
theorem eqG_same : EqG X 0 DSame := by
  rintro B pins t σ H x y u v sb I rx ry ⟨a, rfl, rfl⟩
  cases rx
  cases ry
  exact SeqAt.EqAt.same (A := B) (s := t) (.ref a) X.prog X.w X.xe _ ⟨rfl, H, I, Ext.rfl'⟩
def rNeG (D : Eqv) : R2 := fun x y H Q => D x y H ∧ ∀ H', Ext H H' → Q (.bl false) H'
theorem op_neG (h : RnG X n D) (hr : Room n X.A) : OpR X (compareOp .NotEq) (rNeG D) := by
  rintro pins t σ H x y v u Q I rx ry ⟨d, q⟩
  show wpAny (model X.prog X.w) X.A (richCompare .NotEq v u) (EP X pins σ Q) X.xe t
  refine wpAny_mono (h X.A pins t σ H x y v u ⟨hr, rfl⟩ I rx ry d) (fun r t2 z => ?_) fun _ _ z => z
  obtain ⟨er, H', I', e⟩ := z
  subst er
  exact ⟨.bl false, H', I', rfl, q H' e⟩
end
end L2
set_option Elab.async false
set_option linter.all false
set_option maxRecDepth 100000
/-! the class Merge -/
namespace Lw
open PySem L2
abbrev sMI : Stmt := inClass (top 49) 0
abbrev sMEq : Stmt := inClass (top 49) 1
abbrev sMCk : Stmt := inClass (top 49) 2
abbrev sMKp : Stmt := inClass (top 49) 3
abbrev sMNs : Stmt := inClass (top 49) 5
abbrev sMRs : Stmt := inClass (top 49) 6
structure MTxt (K : PySem.W.Frag) (mg : Str → Option Value) (CM : Addr) : Prop where
  cl : Cls K CM
  nL : NoAttr K CM "low"
  nH : NoAttr K CM "high"
  mgM : mg "Merge" = some (.ref CM)
def mfl (a b : Int) : List (Str × V) := [("low", V.int a), ("high", V.int b)]
theorem lh : ¬ (("low" : Str) = "high") := by decide +kernel
theorem mput1 (a : Int) : putF "low" (.int a) [] = ([("low", V.int a)] : List (Str × V)) := rfl
theorem mput2 (a b : Int) : putF "high" (.int b) ([("low", V.int a)] : List (Str × V)) = mfl a b := by
  show (if ("low" : Str) = "high" then _ else (("low" : Str), V.int a) :: putF "high" (.int b) []) = mfl a b
  rw [if_neg lh]
  rfl
theorem mlo (a b : Int) : (mfl a b).lookup ("low" : Str) = some (.int a) := by
  unfold mfl
  simp [List.lookup]
theorem mhi (a b : Int) : (mfl a b).lookup ("high" : Str) = some (.int b) := by
  unfold mfl
  have h : (("high" : Str) == ("low" : Str)) = false := by decide +kernel
  simp [List.lookup, h]
theorem mno (a b : Int) {m : Str} (h1 : (m == ("low" : Str)) = false) (h2 : (m == ("high" : Str)) = false) : (mfl a b).lookup m = none := by
  unfold mfl
  simp [List.lookup, h1, h2]
def MgO (CM : Addr) (H : Hp) (o : Addr) (a b : Int) : Prop := ∃ dx, H o = some (.ins CM dx (mfl a b))
theorem MgO.same {CM : Addr} {H H' : Hp} {o : Addr} {a b : Int} (h : MgO CM H o a b) (s : Same H H') : MgO CM H' o a b := by
  obtain ⟨dx, e⟩ := h
  exact ⟨dx, s _ _ e⟩
def spMI (CM : Addr) : Sp := fun vs H Q _ => ∃ (o dx : Addr) (a b : Int), vs = [.ref o, .int a, .int b] ∧ H o = some (.ins CM dx []) ∧ ∀ H', KeepB o H H' → MgO CM H' o a b → Q .non H'
def spMCk (C CM : Addr) : Sp := fun vs H Q _ => ∃ (o g : Addr) (n i j : Nat) (ps : Ps), vs = [.ref o, .ref g] ∧ MgO CM H o i j ∧ Gok C H g n ps ∧ i < j ∧ j < n ∧ colL n ps i = colL n ps j ∧ ∀ H', Same H H' → Q .non H'
/-- the numbers of the edges that stay -/
def kpN (b : Int) (ps : Ps) (m : Nat) : List Int := (List.range m).flatMap fun k => if (pat ps k).2 ≠ b then [((k : Nat) : Int)] else []
theorem kpN_succ (b : Int) (ps : Ps) (m : Nat) : kpN b ps (m + 1) = kpN b ps m ++ (if (pat ps m).2 ≠ b then [((m : Nat) : Int)] else []) := by
  unfold kpN
  rw [List.range_succ, List.flatMap_append]
  simp
theorem kpN_len (b : Int) (ps : Ps) (m : Nat) : (kpN b ps m).length ≤ m := by
  induction m with
  | zero => exact Nat.le_refl _
  | succ m ih =>
    rw [kpN_succ, List.length_append]
    split <;> simp <;> omega
theorem kpN_mem {b z : Int} {ps : Ps} {m : Nat} (h : z ∈ kpN b ps m) : ∃ k : Nat, z = (k : Int) ∧ k < m := by
  unfold kpN at h
  obtain ⟨k, hk, h⟩ := List.mem_flatMap.mp h
  split at h
  · exact ⟨k, List.mem_singleton.mp h, List.mem_range.mp hk⟩
  · cases h
theorem kpN_ps (b : Int) (ps : Ps) : ∀ m, m ≤ ps.length → (kpN b ps m).map (fun z => pat ps z.toNat) = (ps.take m).filter fun p => decide (p.2 ≠ b) := by
  intro m
  induction m with
  | zero => intro _; rfl
  | succ m ih =>
    intro hm
    have e : ps.take (m + 1) = ps.take m ++ [pat ps m] := take_snoc (pat_at (by omega))
    rw [kpN_succ, List.map_append, ih (by omega), e, List.filter_append]
    congr 1
    by_cases c : (pat ps m).2 ≠ b
    · rw [if_pos c, List.filter_cons_of_pos (by exact decide_eq_true c)]
      rfl
    · rw [if_neg c, List.filter_cons_of_neg (by rw [decide_eq_false c]; exact Bool.false_ne_true)]
      rfl
def spMKp (C CM : Addr) : Sp := fun vs H Q _ => ∃ (o g : Addr) (n : Nat) (a b : Int) (ps : Ps), vs = [.ref o, .ref g] ∧ MgO CM H o a b ∧ Gok C H g n ps ∧ ∀ (D : Addr) (H' : Hp), Same H H' → H' D = some (.lst ((kpN b ps ps.length).map V.int)) → Q (.ref D) H'
def spMNs (CM : Addr) : Sp := fun vs H Q _ => ∃ (o : Addr) (a b s : Int), vs = [.ref o, .int s] ∧ MgO CM H o a b ∧ Q (.int (nmS a b s)) H
def spMRs (C CM : Addr) : Sp := fun vs H Q _ => ∃ (o g : Addr) (n i j : Nat) (ps : Ps), vs = [.ref o, .ref g] ∧ MgO CM H o i j ∧ Gok C H g n ps ∧ i < j ∧ j < n ∧ colL n ps i = colL n ps j ∧ ∀ (g' : Addr) (H' : Hp), Same H H' → H g' = none → Gok C H' g' (n - 1) (mrgP i j ps) → Q (.ref g') H'
/-- equal merges -/
def MEq (CM : Addr) : Addr → Addr → Hp → Prop := fun o1 o2 H => ∃ a b, MgO CM H o1 a b ∧ MgO CM H o2 a b
section
variable {P : Program} {w : World} {K : PySem.W.Frag} {mg : Str → Option Value} {base : Heap} {f C CM : Addr} {mc : Value} {fd : FuncData} {k : Nat}
theorem scMI : FnScope ["self", "one", "other"] ["self", "one", "other"] (defScope sMI) := ⟨rfl, rfl, rfl, by decide +kernel, rfl, by decide +kernel, by decide +kernel⟩
theorem scMEq : FnScope ["self", "other"] ["self", "other"] (defScope sMEq) := ⟨rfl, rfl, rfl, by decide +kernel, rfl, by decide +kernel, by decide +kernel⟩
theorem scMCk : FnScope ["self", "graph", "line"] ["self", "graph"] (defScope sMCk) := ⟨rfl, rfl, rfl, by decide +kernel, rfl, by decide +kernel, by decide +kernel⟩
theorem scMKp : FnScope ["self", "graph", "number", "edge"] ["self", "graph"] (defScope sMKp) := ⟨rfl, rfl, rfl, by decide +kernel, rfl, by decide +kernel, by decide +kernel⟩
theorem scMNs : FnScope ["self", "state"] ["self", "state"] (defScope sMNs) := ⟨rfl, rfl, rfl, by decide +kernel, rfl, by decide +kernel, by decide +kernel⟩
theorem scMRs : FnScope ["self", "graph", "number", "ends", "source", "target"] ["self", "graph"] (defScope sMRs) := ⟨rfl, rfl, rfl, by decide +kernel, rfl, by decide +kernel, by decide +kernel⟩
theorem ok_mi (F : Fun K "__init__" "Merge.__init__" sMI f fd) (M : MTxt K mg CM) : FnOk P w K mg base CX0 (k + 1) f fd ["self", "one", "other"] (spMI CM) := by
  refine F.ok scMI (fun vs H Q E h => ?_) (fun cdv A outer s H vs Q E hr h => ?_)
  · obtain ⟨o, dx, a, b, rfl, _⟩ := h
    rfl
  · obtain ⟨o, dx, a, b, rfl, ho, q⟩ := h
    refine ⟨_, pss_cons (ps_fld (pv 0) (pv 1) rfl) (pss_one (ps_fld (pv 0) (pv 2) rfl)), ?_⟩
    refine ⟨_, rfl, _, rfl, o, CM, dx, [], rfl, ho, M.cl, M.nL, (by show 0 < 1000; decide), ?_⟩
    rw [mput1]
    refine ⟨_, rfl, _, rfl, o, CM, dx, _, rfl, upd_same, M.cl, M.nH, (by show 1 < 1000; decide), ?_⟩
    rw [mput2, upd_upd]
    exact q _ .updb ⟨dx, upd_same⟩
theorem ok_meq (F : Fun K "__eq__" "Merge.__eq__" sMEq f fd) (T : Bi mg) (M : MTxt K mg CM) (S : C8.InsC K CM) : FnOk P w K mg base CX0 (k + 1) f fd ["self", "other"] (spEq (MEq CM)) := by
  refine F.ok scMEq (fun vs H Q E h => ?_) (fun cdv A outer s H vs Q E hr h => ?_)
  · obtain ⟨a, b, rfl, _⟩ := h
    rfl
  · obtain ⟨o1, o2, rfl, ⟨a, b, ⟨d1, h1⟩, d2, h2⟩, q⟩ := h
    refine ⟨_, pss_one (ps_ret (pe_and (pe_callB call_isi (by rfl) T.isi (by decide +kernel) (pa_cons (pv 1) (pa_cons (pe_glob (v := .ref CM) (by rfl) M.mgM rfl) pa_nil)))
      (pe_and (pe_cmpR op_eq (pe_fld (pv 0) rfl) (pe_fld (pv 1) rfl) (nomark _)) (pe_one (pe_cmpR op_eq (pe_fld (pv 0) rfl) (pe_fld (pv 1) rfl) (nomark _)))))), ?_⟩
    refine ⟨_, rfl, _, _, _, _, true, rfl, .own _, .base (.ins h2 S.cl S.ha S.hn S.htk S.hm), S.me, true, rfl, iteT ?_⟩
    refine ⟨_, rfl, o1, CM, d1, _, _, rfl, h1, M.cl, M.nL, mlo _ _, _, rfl, o2, CM, d2, _, _, rfl, h2, M.cl, M.nL, mlo _ _, rfl, _, rfl, if_t (decide_eq_true rfl) ?_⟩
    refine ⟨_, rfl, o1, CM, d1, _, _, rfl, h1, M.cl, M.nH, mhi _ _, _, rfl, o2, CM, d2, _, _, rfl, h2, M.cl, M.nH, mhi _ _, rfl, ?_⟩
    rw [decide_eq_true rfl]
    exact q H Ext.rfl'
theorem ok_mns (F : Fun K "new_state" "Merge.new_state" sMNs f fd) (M : MTxt K mg CM) : FnOk P w K mg base CX0 (k + 1) f fd ["self", "state"] (spMNs CM) := by
  refine F.ok scMNs (fun vs H Q E h => ?_) (fun cdv A outer s H vs Q E hr h => ?_)
  · obtain ⟨o, a, b, s, rfl, _⟩ := h
    rfl
  · obtain ⟨o, a, b, s, rfl, ⟨dx, ho⟩, q⟩ := h
    refine ⟨_, pss_cons (ps_if (pt_cmpR op_eq (pv 1) (pe_fld (pv 0) rfl) (nomark _)) (pss_one (ps_ret (pe_fld (pv 0) rfl))) pss_nil)
      (pss_one (ps_ret (pe_ifExp (pt_cmpR op_gt (pv 1) (pe_fld (pv 0) rfl) (nomark _)) (pe_op op_sub (pv 1) pe_int) (pv 1)))), ?_⟩
    refine ⟨_, rfl, _, rfl, o, CM, dx, _, _, rfl, ho, M.cl, M.nH, mhi _ _, rfl, _, rfl, ?_⟩
    unfold nmS at q
    by_cases c : s = b
    · rw [if_pos c] at q
      refine if_t (decide_eq_true (congrArg V.int c)) ?_
      exact ⟨_, rfl, o, CM, dx, _, _, rfl, ho, M.cl, M.nL, mlo _ _, q⟩
    · rw [if_neg c] at q
      refine if_f (decide_eq_false fun z => c (V.int.inj z)) ?_
      refine ⟨_, rfl, _, rfl, o, CM, dx, _, _, rfl, ho, M.cl, M.nH, mhi _ _, _, _, rfl, rfl, _, rfl, ?_⟩
      by_cases c2 : b < s
      · rw [if_pos c2] at q
        exact if_t (decide_eq_true c2) ⟨_, rfl, _, _, rfl, rfl, q⟩
      · rw [if_neg c2] at q
        exact if_f (decide_eq_false c2) ⟨_, rfl, q⟩
end
end Lw
set_option Elab.async false
set_option linter.all false
set_option maxRecDepth 100000
/-! a merge taken -/
namespace Lw
open PySem L2
abbrev tFl (K : PySem.W.Frag) (x : Str) : TE := tFld K (tVar 0) x
theorem any_no (m : Nat) : (List.replicate m false).any id = false := by
  induction m with
  | zero => rfl
  | succ m ih => rw [List.replicate_succ, List.any_cons, ih]; rfl
section
variable {P : Program} {w : World} {K : PySem.W.Frag} {mg : Str → Option Value} {base : Heap} {f C CM : Addr} {mc : Value} {fd : FuncData} {k : Nat}
set_option maxHeartbeats 8000000 in
theorem ok_mck (F : Fun K "check" "Merge.check" sMCk f fd) (tA : mg "any" = none) (M : MTxt K mg CM) (mC : C8.Met P w K mg base 1 C "counts" (spCounts C) []) (pS : Prp P w K mg base 1 C "states" (spStates C)) : FnOk P w K mg base CX0 (k + 3) f fd ["self", "graph"] (spMCk C CM) := by
  refine F.ok scMCk (fun vs H Q E h => ?_) (fun cdv A outer s H vs Q E hr h => ?_)
  · obtain ⟨o, g, n, i, j, ps, rfl, _⟩ := h
    rfl
  · obtain ⟨o, g, n, i, j, ps, rfl, MO, G, ij, jn, ec, q⟩ := h
    obtain ⟨dx, ho⟩ := id MO
    obtain ⟨us, GA, eu⟩ := G.at_
    obtain ⟨⟨dg, t, h1, h2⟩, ed⟩ := id GA
    refine ⟨_, pss_cons (ps_if (pt_not (pt_chain3 op_le op_lt op_lt pe_int (pe_fld (pv 0) rfl) (pe_fld (pv 0) rfl) (pe_pr pS hr (by omega) (pv 1)))) (pss_one ps_never) pss_nil)
      (pss_one (ps_if (pt_val (pe_callB (cr_any rfl) (by rfl) tA (by decide +kernel) (pa_cons
        (pe_lc (own := [("line", 2)]) (g := gName 2) (tt := tYes) (te := tOp rNe (tOp (rIxL K) (tVar 2) (tFl K "low")) (tOp (rIxL K) (tVar 2) (tFl K "high"))) rfl scMCk.nd (pi_seqA (C8.pe_mt0 mC hr (by omega) (pv 1))) (blkOk_by (N := ["self", "graph", "line"]) (sc := defScope sMCk) (by decide +kernel))
          (fun _ _ _ _ _ => by exact pg_name (i := 2) scMCk.nd rfl (Or.inl rfl)) (fun _ _ _ _ _ => pts_nil)
          (fun _ _ _ _ _ => by exact pe_cmpR op_ne (pe_ix ix_list (pv 2) (pe_fld (pv 0) rfl) (fun _ _ => rfl)) (pe_ix ix_list (pv 2) (pe_fld (pv 0) rfl) (fun _ _ => rfl)) (nomark _))) pa_nil))) (pss_one ps_never) pss_nil)), ?_⟩
    refine ⟨_, rfl, o, CM, dx, _, _, rfl, ho, M.cl, M.nL, mlo _ _, _, _, rfl, rfl, _, rfl, if_t (decide_eq_true (by omega)) ?_⟩
    refine ⟨_, rfl, o, CM, dx, _, _, rfl, ho, M.cl, M.nH, mhi _ _, _, _, rfl, rfl, _, rfl, if_t (decide_eq_true (by omega)) ?_⟩
    refine ⟨_, rfl, g, dg, _, rfl, h1, g, (n : Int), us, rfl, GA, _, _, rfl, rfl, _, rfl, if_f (by rw [decide_eq_true (show (j : Int) < (n : Int) by omega)]; rfl) ?_⟩
    have n8 := G.n8
    have n1 := G.n1
    have l24 := G.l24
    refine ⟨_, rfl, g, dg, _, rfl, h1, look_no _ _ (by decide +kernel) (by decide +kernel), g, (n : Int), us, rfl, GA, by omega, by omega, by rw [← psL_len, eu]; omega, fun e he => G.va.rg e.2 (by rw [← eu]; exact List.mem_map.mpr ⟨e, he, rfl⟩), fun T rs H1 s1 np nr ca => ?_⟩
    rw [Int.toNat_natCast, eu] at ca
    have ho1 := s1 _ _ ho
    refine ⟨T, _, SqL, rfl, .inl rfl, SqL.of ca.ls, fun J w D hD => ?_⟩
    refine lc_it w (fun m H' => Same H1 H' ∧ H' D = some (.lst ((List.replicate m false).map V.bl))) ⟨same_upd hD, upd_same⟩ (fun m H' _ p => SqL.of (p.1 _ _ ca.ls)) ?_ ?_
    · rintro m x H2 H3 hm ⟨s2, eD⟩ ⟨rfl, gx⟩
      rw [List.length_map, ca.len] at hm
      rw [List.getElem?_map] at gx
      obtain ⟨r, hrr, rfl⟩ := Option.map_eq_some_iff.mp gx
      have er := s2 _ _ (ca.row m r hrr)
      have ho2 := s2 _ _ ho1
      refine ⟨rfl, ?_⟩
      refine ⟨_, rfl, _, rfl, o, CM, dx, _, _, rfl, ho2, M.cl, M.nL, mlo _ _, r, _, _, _, rfl, rfl, SqL.of er, cntRow_col ps (show i < n by omega), _, rfl, _, rfl, o, CM, dx, _, _, rfl, ho2, M.cl, M.nH, mhi _ _, r, _, _, _, rfl, rfl, SqL.of er, cntRow_col ps jn, rfl, ?_⟩
      rw [colL_eq ec hm, decide_eq_true rfl]
      refine ⟨_, eD, ?_, ?_, ?_⟩
      · rw [List.length_map, List.length_replicate]
        exact small1000 (by omega)
      · intro b o e
        rw [upd_ne (ne_of_none e hD)]
        exact s2 _ _ e
      · rw [upd_same, List.replicate_succ', List.map_append]
        rfl
    · rintro H2 ⟨s2, eD⟩
      refine ⟨D, _, rfl, SqL.of eD, ?_⟩
      rw [any_no]
      exact ⟨_, rfl, if_f rfl (q H2 (s1.trans s2))⟩
set_option maxHeartbeats 8000000 in
theorem ok_mkp (F : Fun K "kept_edges" "Merge.kept_edges" sMKp f fd) (tE : mg "enumerate" = none) (M : MTxt K mg CM) (mE : C8.Met P w K mg base 1 C "edges" (spEdges C) []) : FnOk P w K mg base CX0 (k + 2) f fd ["self", "graph"] (spMKp C CM) := by
  refine F.ok scMKp (fun vs H Q E h => ?_) (fun cdv A outer s H vs Q E hr h => ?_)
  · obtain ⟨o, g, n, a, b, ps, rfl, _⟩ := h
    rfl
  · obtain ⟨o, g, n, a, b, ps, rfl, ⟨dx, ho⟩, G, q⟩ := h
    obtain ⟨us, GA, eu⟩ := G.at_
    obtain ⟨⟨dg, t, h1, h2⟩, ed⟩ := id GA
    have l24 := G.l24
    have lu : us.length = ps.length := by rw [← psL_len, eu]
    refine ⟨_, pss_one (ps_ret (pe_lc (own := [("number", 2), ("edge", 3)]) (g := gTup K 2 (gCons (gName 2) (gCons (gName 3) gNil))) (tt := tTest (tOp rNe (tOp (rIxT K) (tVar 3) (tC (.int 1))) (tFl K "high"))) (te := tVar 2) rfl scMKp.nd (pi_enumA (by rfl) tE (pa_cons (C8.pe_mt0 mE hr (by omega) (pv 1)) pa_nil)) (blkOk_by (N := ["self", "graph", "number", "edge"]) (sc := defScope sMKp) (by decide +kernel))
        (fun _ _ _ _ _ => by exact pg_tup rfl (pgs_cons (pg_name (i := 2) scMKp.nd rfl (Or.inl rfl)) (pgs_cons (pg_name (i := 3) scMKp.nd rfl (Or.inl rfl)) pgs_nil)))
        (fun _ _ _ _ _ => by exact pts_one (pt_cmpR op_ne (pe_ix ix_tup (pv 3) pe_int (fun _ _ => rfl)) (pe_fld (pv 0) rfl) (nomark _)))
        (fun _ _ _ _ _ => by exact pv 2))), ?_⟩
    refine ⟨_, rfl, g, dg, _, rfl, h1, look_no _ _ (by decide +kernel) (by decide +kernel), g, (n : Int), us, rfl, GA, fun L hL => ?_⟩
    have s1 := same_upd (o := .lst (vsOf us)) hL
    have eL : upd H L (.lst (vsOf us)) L = some (.lst (vsOf us)) := upd_same
    generalize upd H L (.lst (vsOf us)) = H1 at *
    refine ⟨L, _, SqL, rfl, .inl rfl, SqL.of eL, fun J w D hD => ?_⟩
    refine lc_it w (fun m H' => Same H1 H' ∧ H' D = some (.lst ((kpN b ps m).map V.int))) ⟨same_upd hD, upd_same⟩ (fun m H' _ p => SqL.of (p.1 _ _ eL)) ?_ ?_
    · rintro m x H2 H3 hm ⟨s2, eD⟩ ⟨Tp, u, v, rfl, nT, rfl, gu, gv⟩
      rw [vsOf_len] at hm
      have eu1 : u = .int ((m : Nat) : Int) := (Option.some.inj gu).symm
      subst eu1
      have gv : (vsOf us)[m]? = some v := gv
      obtain ⟨e, he, rfl⟩ := vsOf_at gv
      have s3 := same_upd (o := .tup [.int ((m : Nat) : Int), .ref e.1]) nT
      have ep : pat ps m = e.2 := by rw [← eu]; exact psOf_pat he
      have s23 := s2.trans s3
      refine ⟨Tp, _, rfl, SqT.of upd_same, rfl, _, _, rfl, _, _, rfl, rfl, rfl, ?_⟩
      refine ⟨_, rfl, e.1, _, _, .int e.2.2, rfl, rfl, SqT.of (s23 _ _ (s1 _ _ (ed e (List.mem_of_getElem? he)))), rfl, _, rfl, o, CM, dx, _, _, rfl, s23 _ _ (s1 _ _ ho), M.cl, M.nH, mhi _ _, rfl, _, rfl, ite2 (fun hc => ?_) (fun hc => ?_)⟩
      · have hc : (pat ps m).2 ≠ b := fun z => by
          rw [ep] at z
          rw [z, decide_eq_true rfl] at hc
          cases hc
        refine ⟨_, rfl, _, s3 _ _ eD, ?_, ?_, ?_⟩
        · rw [List.length_map]
          have := kpN_len b ps m
          exact small1000 (by omega)
        · intro c o ec
          rw [upd_ne (ne_of_none ec hD)]
          exact s23 _ _ ec
        · rw [upd_same, kpN_succ, if_pos hc, List.map_append]
          rfl
      · have hc : ¬ (pat ps m).2 ≠ b := fun z => hc (by rw [ep] at z; rw [decide_eq_false (fun e => z (V.int.inj e))]; rfl)
        refine ⟨s23, ?_⟩
        rw [s3 _ _ eD, kpN_succ, if_neg hc, List.append_nil]
    · rintro H2 ⟨s2, eD⟩
      rw [vsOf_len, lu] at eD
      exact q D H2 (s1.trans s2) eD
set_option maxHeartbeats 16000000 in
theorem ok_mrs (F : Fun K "result" "Merge.result" sMRs f fd) (M : MTxt K mg CM) (mCk : C8.Met P w K mg base 3 CM "check" (spMCk C CM) []) (mKp : C8.Met P w K mg base 2 CM "kept_edges" (spMKp C CM) []) (mNs : C8.Met P w K mg base 1 CM "new_state" (spMNs CM) []) (mEd : C8.Met P w K mg base 1 C "edge" (spEdge0 C) []) (pS : Prp P w K mg base 1 C "states" (spStates C))
    (cG : C8.Mak P w K mg base 2 "Graph" C (spInit C) []) : FnOk P w K mg base CX0 (k + 4) f fd ["self", "graph"] (spMRs C CM) := by
  refine F.ok scMRs (fun vs H Q E h => ?_) (fun cdv A outer s H vs Q E hr h => ?_)
  · obtain ⟨o, g, n, i, j, ps, rfl, _⟩ := h
    rfl
  · obtain ⟨o, g, n, i, j, ps, rfl, MO, G, ij, jn, ec, q⟩ := h
    have n8 := G.n8
    have l24 := G.l24
    refine ⟨_, pss_cons (ps_expr (C8.pe_mt mCk hr (by omega) (pv 0) (pa_cons (pv 1) pa_nil)))
      (C8.pss_cut (ps_setLc (i := 3) (own := [("number", 2)]) (g := gName 2) (tt := tYes) (te := tMeth C "edge" (spEdge0 C) [] E0 (tVar 1) (tCons (tVar 2) tNil)) rfl scMRs.nd rfl rfl (sw_true rfl rfl rfl (by decide +kernel)) (pi_seqA (C8.pe_mt mKp hr (by omega) (pv 0) (pa_cons (pv 1) pa_nil))) (blkOk_by (N := ["self", "graph", "number", "ends", "source", "target"]) (sc := defScope sMRs) (by decide +kernel))
          (fun _ _ _ _ _ => by exact pg_name (i := 2) scMRs.nd rfl (Or.inl rfl)) (fun _ _ _ _ _ => pts_nil)
          (fun _ _ _ _ _ => by exact C8.pe_mt mEd hr (by omega) (pv 1) (pa_cons (pv 2) pa_nil)))
      (pss_one (ps_ret (C8.pe_mk cG hr (by omega) (by rfl) (pa_cons (pe_op op_sub (pe_pr pS hr (by omega) (pv 1)) pe_int) (pa_cons
        (pe_lc (own := [("source", 4), ("target", 5)]) (g := gTup K 2 (gCons (gName 4) (gCons (gName 5) gNil))) (tt := tYes) (te := tTup (tCons (tMeth CM "new_state" (spMNs CM) [] E0 (tVar 0) (tCons (tVar 4) tNil)) (tCons (tMeth CM "new_state" (spMNs CM) [] E0 (tVar 0) (tCons (tVar 5) tNil)) tNil))) rfl scMRs.nd (pi_seqA (pv 3)) (blkOk_by (N := ["self", "graph", "number", "ends", "source", "target"]) (sc := defScope sMRs) (by decide +kernel))
          (fun _ _ _ _ _ => by exact pg_tup rfl (pgs_cons (pg_name (i := 4) scMRs.nd rfl (Or.inl rfl)) (pgs_cons (pg_name (i := 5) scMRs.nd rfl (Or.inl rfl)) pgs_nil))) (fun _ _ _ _ _ => pts_nil)
          (fun _ _ _ _ _ => by exact pe_tup (pa_cons (C8.pe_mt mNs hr (by omega) (pv 0) (pa_cons (pv 4) pa_nil)) (pa_cons (C8.pe_mt mNs hr (by omega) (pv 0) (pa_cons (pv 5) pa_nil)) pa_nil)))) pa_nil)))))), ?_⟩
    have no : ∀ m : Str, (m == ("low" : Str)) = false → (m == ("high" : Str)) = false → (mfl (i : Int) (j : Int)).lookup m = none := fun m h1 h2 => mno _ _ h1 h2
    have mL : ∀ {H' : Hp}, MgO CM H' o i j → ∃ dx, H' o = some (.ins CM dx (mfl i j)) := fun h => h
    obtain ⟨dx, ho⟩ := mL MO
    refine ⟨_, rfl, o, dx, _, rfl, ho, no _ (by decide +kernel) (by decide +kernel), _, rfl, o, g, n, i, j, ps, rfl, MO, G, ij, jn, ec, fun H1 s1 => ?_⟩
    have MO := MO.same s1
    have G := G.same s1
    clear ho
    obtain ⟨dx, ho⟩ := mL MO
    -- the ends
    refine ⟨fun σ H' => ∃ (D : Addr) (ks : Es), σ = [some (.ref o), some (.ref g), none, some (.ref D), none, none] ∧ Same H1 H' ∧ LsAt H' D ks ∧ psOf ks = ps.filter fun p => decide (p.2 ≠ (j : Int)), ?_, ?_⟩
    · refine ⟨_, rfl, o, dx, _, rfl, ho, no _ (by decide +kernel) (by decide +kernel), _, rfl, o, g, n, (i : Int), (j : Int), ps, rfl, MO, G, fun D1 H2 s2 e2 => ?_⟩
      obtain ⟨us, GA, eu⟩ := (G.same s2).at_
      obtain ⟨⟨dg, t, h1, h2⟩, ed⟩ := id GA
      refine ⟨D1, _, SqL, rfl, .inl rfl, SqL.of e2, fun J w D hD => ?_⟩
      refine lc_it w (fun m H' => ∃ ks : Es, Same H2 H' ∧ LsAt H' D ks ∧ psOf ks = ((kpN j ps ps.length).take m).map fun z => pat ps z.toNat) ⟨[], same_upd hD, ⟨upd_same, Ed.nil⟩, rfl⟩ (fun m H' _ p => by obtain ⟨ks, s, _⟩ := p; exact SqL.of (s _ _ e2)) ?_ ?_
      · rintro m x H3 H4 hm ⟨ks, s3, L3, hk⟩ ⟨rfl, gx⟩
        rw [List.length_map] at hm
        rw [List.getElem?_map] at gx
        obtain ⟨z, hz, rfl⟩ := Option.map_eq_some_iff.mp gx
        obtain ⟨c, rfl, hc⟩ := kpN_mem (List.mem_of_getElem? hz)
        have hcu : c < us.length := by rw [← psL_len, eu]; exact hc
        obtain ⟨e, he⟩ : ∃ e, us[c]? = some e := ⟨_, List.getElem?_eq_getElem hcu⟩
        have lk : ks.length ≤ 24 := by
          have h1 := congrArg List.length hk
          rw [psL_len, List.length_map, List.length_take] at h1
          have h2 := kpN_len j ps ps.length
          omega
        refine ⟨rfl, ?_⟩
        refine ⟨_, rfl, g, dg, _, rfl, s3 _ _ h1, look_no _ _ (by decide +kernel) (by decide +kernel), _, rfl, g, (n : Int), us, c, e, rfl, GA.same s3, he, _, L3.ls, ?_, ks ++ [e], ?_, ⟨?_, ?_⟩, ?_⟩
        · rw [vsOf_len]
          exact small1000 (by omega)
        · intro b o e
          rw [upd_ne (ne_of_none e hD)]
          exact s3 _ _ e
        · rw [upd_same]
          unfold vsOf
          rw [List.map_append]
          rfl
        · intro y hy
          have : H4 y.1 = some (.tup [.int y.2.1, .int y.2.2]) := by
            rcases List.mem_append.mp hy with hy | hy
            · exact L3.ed y hy
            · rw [List.mem_singleton.mp hy]
              exact s3 _ _ (ed e (List.mem_of_getElem? he))
          rw [upd_ne fun z => ?_]
          · exact this
          · rw [z, L3.ls] at this
            cases this
        · rw [psOf_app, hk, take_snoc hz, List.map_append]
          show _ ++ [e.2] = _ ++ [pat ps ((c : Nat) : Int).toNat]
          rw [Int.toNat_natCast, ← eu, psOf_pat he]
      · rintro H3 ⟨ks, s3, L3, hk⟩
        rw [List.length_map, List.take_length, kpN_ps _ _ _ (Nat.le_refl _), List.take_length] at hk
        exact ⟨D, ks, rfl, s2.trans s3, L3, hk⟩
    rintro σ H2 ⟨D, ks, rfl, s2, L2, hk⟩
    have MO := MO.same s2
    have G := G.same s2
    clear ho
    obtain ⟨dx, ho⟩ := mL MO
    obtain ⟨us, GA, eu⟩ := G.at_
    obtain ⟨⟨dg, t, h1, h2⟩, ed⟩ := id GA
    have lk : ks.length ≤ 24 := by
      have h1 := congrArg List.length hk
      have h2 := List.length_filter_le (fun p : Int × Int => decide (p.2 ≠ (j : Int))) ps
      rw [psL_len] at h1
      omega
    refine ⟨_, rfl, g, dg, _, rfl, h1, g, (n : Int), us, rfl, GA, _, _, rfl, rfl, ?_⟩
    refine ⟨_, rfl, D, _, SqL, rfl, .inl rfl, SqL.of L2.ls, fun J w D2 hD2 => ?_⟩
    refine lc_it w (fun m H' => ∃ ws : Es, Same H2 H' ∧ LsAt H' D2 ws ∧ psOf ws = (psOf (ks.take m)).map fun p => (nmS i j p.1, nmS i j p.2)) ⟨[], same_upd hD2, ⟨upd_same, Ed.nil⟩, rfl⟩ (fun m H' _ p => by obtain ⟨ws, s, _⟩ := p; exact SqL.of (s _ _ L2.ls)) ?_ ?_
    · rintro m x H3 H4 hm ⟨ws, s3, L3, hw⟩ ⟨rfl, gx⟩
      rw [vsOf_len] at hm
      obtain ⟨e, he, rfl⟩ := vsOf_at gx
      have lw : ws.length ≤ 24 := by
        have h1 := congrArg List.length hw
        rw [psL_len, List.length_map, psL_len, List.length_take] at h1
        omega
      have ho4 := s3 _ _ ho
      have MO4 := MO.same s3
      refine ⟨e.1, _, rfl, SqT.of (s3 _ _ (L2.ed e (List.mem_of_getElem? he))), rfl, _, _, rfl, _, _, rfl, rfl, rfl, ?_⟩
      refine ⟨_, rfl, o, dx, _, rfl, ho4, no _ (by decide +kernel) (by decide +kernel), _, rfl, o, (i : Int), (j : Int), _, rfl, MO4, _, rfl, o, dx, _, rfl, ho4, no _ (by decide +kernel) (by decide +kernel), _, rfl, o, (i : Int), (j : Int), _, rfl, MO4, (by show 2 ≤ sizeLine; decide), fun tt ht => ?_⟩
      have s4 := same_upd (o := .tup [.int (nmS i j e.2.1), .int (nmS i j e.2.2)]) ht
      have nt : tt ≠ D2 := fun w => by
        rw [w, L3.ls] at ht
        cases ht
      have L4 := L3.same s4
      refine ⟨_, L4.ls, ?_, ws ++ [(tt, nmS i j e.2.1, nmS i j e.2.2)], ?_, L4.snoc (H := H4) upd_same nt, ?_⟩
      · rw [vsOf_len]
        exact small1000 (by omega)
      · intro b o e
        rw [upd_ne (ne_of_none e hD2)]
        exact s4 _ _ (s3 _ _ e)
      · rw [psOf_app, hw, take_snoc he, psOf_app, List.map_append]
        rfl
    · rintro H3 ⟨ws, s3, L3, hw⟩
      rw [vsOf_len, List.take_length, hk] at hw
      have hw : psOf ws = mrgP i j ps := hw
      have va := mrg_valid G.va ij jn ec
      have lw := mrgP_len i j ps
      have en : ((n - 1 : Nat) : Int) = (n : Int) - 1 := by omega
      intro g' dx' hg hdx nex
      have s4 := make_same (C := C) hg hdx nex
      have L4 := L3.same s4
      have ng : H g' = none := ((s1.trans s2).trans s3).free hg
      refine ⟨g', dx', D2, (n : Int) - 1, ws, HO.lst, rfl, upd_same, .inl rfl, L4.ls, L4.ed, VaP.es (by rw [hw]; exact va), by omega, by omega, by rw [← psL_len, hw]; omega, fun vs H' hvs kp GB => ⟨rfl, ?_⟩⟩
      refine q g' H' (fun c o ec => kp c o (ne_of_none ec ng) (s4 _ _ (s3 _ _ (s2 _ _ (s1 _ _ ec))))) ng ⟨⟨vs, by rw [en]; exact GB, hvs.trans hw⟩, by rw [en]; exact va, by omega, by omega, by omega⟩
end
end Lw
set_option Elab.async false
set_option linter.all false
set_option maxRecDepth 100000
/-! a walk whose turn is anything: for comprehensions with two for -/
namespace Lw
open PySem L2
theorem walk_any {J : It} {n : Nat} {G : Hp → Prop} {Y : Nat → Hp → V → Hp → Prop} (w : Walk J n G Y) {Qd : Hp → Prop} {H0 : Hp} {B : (Hp → Prop) → V → Hp → Prop} (Pv : Nat → Hp → Prop) (h0 : Pv 0 H0) (hG : ∀ i H, i ≤ n → Pv i H → G H)
    (hs : ∀ i x H H', i < n → Pv i H → Y i H x H' → B (Pv (i + 1)) x H') (hd : ∀ H, Pv n H → Qd H) :
    ∃ W : Nat → Nat → Hp → Prop, (∃ m, W 0 m H0) ∧ ∀ i m H, W i m H → (J.stop i H ∧ Qd H) ∨ (J.go i H ∧ ∃ Nx : Hp → Prop, (∀ H', Nx H' → ∃ m', m' < m ∧ W (i + 1) m' H') ∧ ∀ x H', J.yld i H x H' → B Nx x H') := by
  refine ⟨fun i m H => m + i = n ∧ Pv i H, ⟨n, rfl, h0⟩, ?_⟩
  rintro i m H ⟨e, p⟩
  have g := hG i H (by omega) p
  cases m with
  | zero =>
    have e : i = n := by omega
    subst e
    exact .inl ⟨w.stops H g, hd H p⟩
  | succ m => exact .inr ⟨w.goes i H (by omega) g, Pv (i + 1), fun H' p' => ⟨m, Nat.lt_succ_self m, by omega, p'⟩, fun x H' y => hs i x H H' (by omega) p (w.yields i H x H' (by omega) g y)⟩
end Lw
set_option Elab.async false
set_option linter.all false
set_option maxRecDepth 100000
/-! zip over any number of lists, at the library's level -/
namespace ZN
open PySem
section
variable {M : Model} {A : Around} {E : Value → Shared → Prop}
/-- a loop that never leaves early: what it carries is known by the number of turns -/
theorem loop {α β : Type} {f : α → β → Sem (ForInStep β)} {l : List α} (g : Nat → β) (Inv : Nat → Shared → Prop) {Q : β → Shared → Prop}
    (step : ∀ (j : Nat) (a : α) (s : Shared), l[j]? = some a → Inv j s → wpAny M A (f a (g j)) (fun r s' => r = .yield (g (j + 1)) ∧ Inv (j + 1) s') E s)
    (fin : ∀ s', Inv l.length s' → Q (g l.length) s') : ∀ (post : List α) (j : Nat) (s : Shared), l.drop j = post → j ≤ l.length → Inv j s → wpAny M A (forIn post (g j) f) Q E s := by
  intro post
  induction post with
  | nil =>
    intro j s hd hj inv
    have e : j = l.length := Nat.le_antisymm hj (List.drop_eq_nil_iff.mp hd)
    subst e
    exact wpAny_pure (fin s inv)
  | cons a post ih =>
    intro j s hd hj inv
    have hlt : j < l.length := by
      refine Nat.lt_of_le_of_ne hj fun z => ?_
      rw [z, List.drop_length] at hd
      cases hd
    have ha : l[j]? = some a := by
      have := List.getElem?_drop (xs := l) (i := j) (j := 0)
      rw [hd] at this
      simpa using this.symm
    have hn : l.drop (j + 1) = post := by
      have := congrArg (List.drop 1) hd
      simpa [List.drop_drop] using this
    rw [List.forIn_cons]
    refine wpAny_bind (wpAny_mono (step j a s ha inv) (fun r s' h => ?_) fun _ _ e => e)
    obtain ⟨rfl, inv'⟩ := h
    exact ih (j + 1) s' hn hlt inv'
/-- a loop that is left by an exception at a known turn -/
theorem loopE {α β : Type} {f : α → β → Sem (ForInStep β)} {l : List α} (g : Nat → β) (Inv : Nat → Shared → Prop) {Q : β → Shared → Prop} {n : Nat} (hn : n < l.length)
    (step : ∀ (j : Nat) (a : α) (s : Shared), j < n → l[j]? = some a → Inv j s → wpAny M A (f a (g j)) (fun r s' => r = .yield (g (j + 1)) ∧ Inv (j + 1) s') E s)
    (last : ∀ (a : α) (s : Shared), l[n]? = some a → Inv n s → wpAny M A (f a (g n)) (fun _ _ => False) E s) : ∀ (post : List α) (j : Nat) (s : Shared), l.drop j = post → j ≤ n → Inv j s → wpAny M A (forIn post (g j) f) Q E s := by
  intro post
  induction post with
  | nil =>
    intro j s hd hj inv
    have := List.drop_eq_nil_iff.mp hd
    omega
  | cons a post ih =>
    intro j s hd hj inv
    have ha : l[j]? = some a := by
      have := List.getElem?_drop (xs := l) (i := j) (j := 0)
      rw [hd] at this
      simpa using this.symm
    have hp : l.drop (j + 1) = post := by
      have := congrArg (List.drop 1) hd
      simpa [List.drop_drop] using this
    rw [List.forIn_cons]
    by_cases c : j = n
    · subst c
      exact wpAny_bind (wpAny_mono (last a s ha inv) (fun _ _ h => h.elim) fun _ _ e => e)
    · refine wpAny_bind (wpAny_mono (step j a s (by omega) ha inv) (fun r s' h => ?_) fun _ _ e => e)
      obtain ⟨rfl, inv'⟩ := h
      exact ih (j + 1) s' hp (by omega) inv'
end
/-- the zip object, as it stands -/
def ZipAt (h : Heap) (z TI TO : Addr) (own : Value) (b : Bool) : Prop := h.get? z = some { cls := .type "zip", dict := none, data := .fields #[own, .bool b, .bool false, .ref TI, .ref TO], slots := #[] }
def TupAt (h : Heap) (T : Addr) (vs : Array Value) : Prop := h.get? T = some { cls := .type "tuple", data := .seq vs }
/-- an iterator, its list, the list's items -/
abbrev Rw := Addr × Addr × Array Value
def refs (qs : List Rw) : Array Value := (qs.map fun q => Value.ref q.1).toArray
/-- the first j iterators one further -/
def Rws (h : Heap) (qs : List Rw) (k j : Nat) : Prop := ∀ (i : Nat) (q : Rw), qs[i]? = some q → h.IsListIter q.1 q.2.1 (if i < j then k + 1 else k) ∧ h.IsList q.2.1 q.2.2
structure Apart (z TI TO : Addr) (qs : List Rw) : Prop where
  zT : z ≠ TO
  iz : z ≠ TI
  iT : TO ≠ TI
  q1 : ∀ q ∈ qs, q.1 ≠ z ∧ q.1 ≠ TO ∧ q.1 ≠ TI
  q2 : ∀ q ∈ qs, q.2.1 ≠ z ∧ q.2.1 ≠ TO
  nd : ∀ (i j : Nat) (p q : Rw), qs[i]? = some p → qs[j]? = some q → i ≠ j → p.1 ≠ q.1
  nl : ∀ p ∈ qs, ∀ q ∈ qs, q.2.1 ≠ p.1
/-- the column at k -/
def Col (qs : List Rw) (k : Nat) (xs : List Value) : Prop := xs.length = qs.length ∧ ∀ (i : Nat) (q : Rw) (x : Value), qs[i]? = some q → xs[i]? = some x → q.2.2[k]? = some x
theorem Rws.ext {h h' : Heap} {qs : List Rw} {k j : Nat} (r : Rws h qs k j) (e : ∀ q ∈ qs, ∀ o, h.get? q.1 = some o → h'.get? q.1 = some o) (e2 : ∀ q ∈ qs, ∀ o, h.get? q.2.1 = some o → h'.get? q.2.1 = some o) : Rws h' qs k j := fun i q hq => by
  have m := List.mem_of_getElem? hq
  obtain ⟨⟨o, h1, h2⟩, ⟨ol, h3, h4⟩⟩ := r i q hq
  exact ⟨⟨o, e q m _ h1, h2⟩, ⟨ol, e2 q m _ h3, h4⟩⟩
section
variable {prog : Program} {w : World} {A : Around} {E : Value → Shared → Prop} {s : Shared} {z TI TO : Addr} {qs : List Rw} {k : Nat} {own : Value} {b : Bool}
theorem put {T : Addr} {vs : Array Value} {x : Value} {i : Nat} {Q : Unit → Shared → Prop} (hT : TupAt s.heap T vs) (hz : vs.size ≤ sizeLine)
    (h : ∀ h', TupAt h' T (vs.setIfInBounds i x) → Heap.SameBut T s.heap h' → Q () { s with heap := h' }) : wpAny (model prog w) A (updateSeq T (·.setIfInBounds i x)) Q E s := by
  refine wpAny_updateSeq hT rfl (h _ ?_ (Heap.SameBut.update ..)) (by simpa using hz) (by simp; omega)
  unfold TupAt
  rw [Heap.get?_update_self _ hT rfl]
  simp [Obj.mapSeq]
/-- one iterator of the first j moves on -/
theorem Rws.step {h h' : Heap} {j : Nat} {q : Rw} (S : Apart z TI TO qs) (r : Rws h qs k j) (hq : qs[j]? = some q) (it : h'.IsListIter q.1 q.2.1 (k + 1)) (sb : Heap.SameBut q.1 h h') : Rws h' qs k (j + 1) := fun i p hp => by
  have mq := List.mem_of_getElem? hq
  have mp := List.mem_of_getElem? hp
  obtain ⟨h1, ⟨ol, h3, h4⟩⟩ := r i p hp
  refine ⟨?_, ⟨ol, sb.extBut _ _ (S.nl q mq p mp) h3, h4⟩⟩
  by_cases e : i = j
  · subst e
    rw [hq] at hp
    cases hp
    rw [if_pos (Nat.lt_succ_self _)]
    exact it
  · obtain ⟨o, g1, g2⟩ := h1
    have e2 : (if i < j + 1 then k + 1 else k) = (if i < j then k + 1 else k) := by
      by_cases l : i < j
      · rw [if_pos l, if_pos (by omega)]
      · rw [if_neg l, if_neg (by omega)]
    rw [e2]
    exact ⟨o, sb.extBut _ _ (S.nd i j p q hp hq e) g1, g2⟩
/-- what is not the zip's own -/
def Out (z TO : Addr) (qs : List Rw) (c : Addr) : Prop := c ≠ z ∧ c ≠ TO ∧ ∀ q ∈ qs, c ≠ q.1
theorem col_at {xs : List Value} {q : Rw} {j : Nat} (C : Col qs k xs) (hq : qs[j]? = some q) : ∃ x, xs[j]? = some x ∧ q.2.2[k]? = some x := by
  have hj : j < xs.length := by
    rw [C.1]
    exact (List.getElem?_eq_some_iff.mp hq).1
  exact ⟨xs[j], List.getElem?_eq_getElem hj, C.2 j q _ hq (List.getElem?_eq_getElem hj)⟩
theorem Rws.done {h : Heap} (r : Rws h qs k qs.length) : Rws h qs (k + 1) 0 := fun i q hq => by
  have hi := (List.getElem?_eq_some_iff.mp hq).1
  have := r i q hq
  rw [if_pos hi] at this
  rw [if_neg (Nat.not_lt_zero i)]
  exact this
theorem refs_at {j : Nat} {v : Value} (h : (refs qs).toList[j]? = some v) : ∃ q, qs[j]? = some q ∧ v = .ref q.1 := by
  unfold refs at h
  simp only [List.toList_toArray, List.getElem?_map] at h
  obtain ⟨q, hq, rfl⟩ := Option.map_eq_some_iff.mp h
  exact ⟨q, hq, rfl⟩
theorem refs_len : (refs qs).toList.length = qs.length := by
  unfold refs
  simp
set_option maxHeartbeats 3200000 in
theorem next_free {xs : List Value} {vs : Array Value} {Q : Value → Shared → Prop} (S : Apart z TI TO qs) (hz : ZipAt s.heap z TI TO .none b) (hn : qs ≠ []) (h64 : qs.length ≤ 64)
    (hTI : TupAt s.heap TI (refs qs)) (hTO : TupAt s.heap TO vs) (hv : vs.size = qs.length) (R : Rws s.heap qs k 0) (C : Col qs k xs)
    (hQ : ∀ h', ZipAt h' z TI TO (rawInt s.heap.objs.size) false → TupAt h' TI (refs qs) → Rws h' qs (k + 1) 0 → TupAt h' s.heap.objs.size xs.toArray → h'.objs.size = s.heap.objs.size + 1 →
      (∀ c o, Out z TO qs c → s.heap.get? c = some o → h'.get? c = some o) → Q (.ref s.heap.objs.size) { s with heap := h' }) :
    wpAny (model prog w) A (Builtin.«zip.__next__» ⟨[.ref z], []⟩) (fun fin s' => ∃ v, fin = .done (.ret v) ∧ Q v s') E s := by
  show wpAny _ _ (field (.ref z) 2 >>= _) _ _ _
  refine wpAny_bind (wpAny_field hz rfl (x := .bool false) rfl ?_)
  show wpAny _ _ (field (.ref z) 3 >>= _) _ _ _
  refine wpAny_bind (wpAny_field hz rfl (x := .ref TI) rfl ?_)
  refine wpAny_bind (wpAny_seqItems hTI rfl ?_)
  have ne : (refs qs).isEmpty = false := by
    unfold refs
    cases qs with
    | nil => exact absurd rfl hn
    | cons => rfl
  dsimp only
  rw [ne, if_neg Bool.false_ne_true]
  refine wpAny_bind ?_
  unfold Builtin.SmallTypes.ownedTupleIsFree
  refine wpAny_bind (wpAny_field hz rfl (x := .none) rfl (wpAny_pure ?_))
  rw [if_pos rfl]
  refine wpAny_bind (wpAny_rule (wpAny_bind (wpAny_field hz rfl (x := .ref TO) rfl ?_)))
  refine wpAny_bind (wpAny_setField_rec hz (by simp) fun h1 hz1 sb1 => ?_)
  replace hz1 : ZipAt h1 z TI TO .ellipsis b := hz1
  replace sb1 : Heap.SameBut z s.heap h1 := sb1
  refine wpAny_bind ?_
  refine loop (l := (refs qs).toList.zipIdx) (fun _ => (none, ())) (fun j s' => ∃ h' ys, s' = { s with heap := h' } ∧ ZipAt h' z TI TO .ellipsis b ∧ TupAt h' TI (refs qs) ∧ TupAt h' TO ys ∧ ys.size = qs.length ∧ (∀ i x, i < j → xs[i]? = some x → ys[i]? = some x) ∧ Rws h' qs k j ∧ h'.objs.size = s.heap.objs.size ∧ ∀ c o, Out z TO qs c → s.heap.get? c = some o → h'.get? c = some o) ?_ ?_ _ 0 _ rfl (Nat.zero_le _) ?_
  · rintro j ⟨v, j2⟩ s' hj ⟨h2, ys, rfl, z2, t2, o2, sz, low, r2, sz2, out2⟩
    obtain ⟨e1, e2⟩ : (refs qs).toList[j]? = some v ∧ j2 = j := by
      rw [List.getElem?_zipIdx] at hj
      cases g : (refs qs).toList[j]? with
      | none =>
        rw [g] at hj
        cases hj
      | some u =>
        rw [g] at hj
        have := Option.some.inj hj
        simp only [Prod.mk.injEq] at this
        exact ⟨congrArg some this.1, by omega⟩
    subst e2
    obtain ⟨q, hq, rfl⟩ := refs_at e1
    have mq := List.mem_of_getElem? hq
    obtain ⟨x, hx, hxk⟩ := col_at C hq
    have hjl := (List.getElem?_eq_some_iff.mp hq).1
    obtain ⟨it, ls⟩ := r2 j2 q hq
    rw [if_neg (Nat.lt_irrefl _)] at it
    refine wpAny_bind (wpAny_onRaise ?_)
    show wpAny _ _ (Builtin.SmallTypes.nextOf (.ref q.1) >>= _) _ _ _
    refine wpAny_bind (wpAny_nextOf_list_item (s := { s with heap := h2 }) it ls hxk fun h3 it3 sb3 => wpAny_pure ?_)
    replace sb3 : Heap.SameBut q.1 h2 h3 := sb3
    obtain ⟨nz, nT, nI⟩ := S.q1 q mq
    have o3 : TupAt h3 TO ys := sb3.extBut _ _ (Ne.symm nT) o2
    dsimp only
    refine wpAny_bind (wpAny_seqItems (s := { s with heap := h3 }) o3 rfl ?_)
    dsimp only
    refine wpAny_bind (put (s := { s with heap := h3 }) o3 (by rw [sz]; exact Nat.le_trans h64 (by decide)) fun h4 o4 sb4 => ?_)
    replace sb4 : Heap.SameBut TO h3 h4 := sb4
    refine wpAny_bind (wpAny_letGo (wpAny_pure ⟨rfl, h4, _, rfl, ?_, ?_, o4, ?_, ?_, ?_, ?_, ?_⟩))
    · exact sb4.extBut _ _ S.zT (sb3.extBut _ _ (Ne.symm nz) z2)
    · exact sb4.extBut _ _ (Ne.symm S.iT) (sb3.extBut _ _ (Ne.symm nI) t2)
    · rw [Array.size_setIfInBounds]
      exact sz
    · intro i y hi hy
      by_cases e : i = j2
      · subst e
        rw [hx] at hy
        cases hy
        rw [Array.getElem?_setIfInBounds_self_of_lt (by omega)]
      · rw [Array.getElem?_setIfInBounds_ne (Ne.symm e)]
        exact low i y (by omega) hy
    · refine (r2.step S hq it3 sb3).ext (fun p mp o e => ?_) (fun p mp o e => ?_)
      · exact sb4.extBut _ _ (S.q1 p mp).2.1 e
      · exact sb4.extBut _ _ (S.q2 p mp).2 e
    · rw [sb4.1, sb3.1, sz2]
    · intro c o hc e
      exact sb4.extBut _ _ hc.2.1 (sb3.extBut _ _ (hc.2.2 q mq) (out2 c o hc e))
  · rintro s' ⟨h2, ys, rfl, z2, t2, o2, sz, low, r2, sz2, out2⟩
    rw [List.length_zipIdx, refs_len] at low r2
    have ey : ys = xs.toArray := by
      apply Array.ext_getElem?
      intro i
      by_cases hi : i < qs.length
      · have hx : i < xs.length := by rw [C.1]; exact hi
        have := low i xs[i] hi (List.getElem?_eq_getElem hx)
        rw [this]
        simp [hx]
      · rw [Array.getElem?_eq_none (by omega), Array.getElem?_eq_none (by simp [C.1]; omega)]
    subst ey
    dsimp only
    refine wpAny_bind (wpAny_seqItems (s := { s with heap := h2 }) o2 rfl ?_)
    dsimp only
    refine wpAny_bind (wpAny_newTuple ?_)
    refine wpAny_bind ?_
    unfold Builtin.SmallTypes.ownedTupleHandOut
    have z3 : ZipAt (h2.push { cls := .type "tuple", data := .seq xs.toArray.toList.toArray }) z TI TO .ellipsis b := Heap.get?_push_of_some _ z2
    refine wpAny_bind (wpAny_setField_rec (s := { s with heap := h2.push { cls := .type "tuple", data := .seq xs.toArray.toList.toArray } }) z3 (by simp) fun h4 z4 sb4 => ?_)
    replace z4 : ZipAt h4 z TI TO (rawInt h2.objs.size) b := z4
    replace sb4 : Heap.SameBut z (h2.push { cls := .type "tuple", data := .seq xs.toArray.toList.toArray }) h4 := sb4
    refine wpAny_setField_rec (s := { s with heap := h4 }) z4 (by simp) fun h5 z5 sb5 => ?_
    replace z5 : ZipAt h5 z TI TO (rawInt h2.objs.size) false := z5
    replace sb5 : Heap.SameBut z h4 h5 := sb5
    have zlt : z < h2.objs.size := Heap.lt_size z2
    have up : ∀ c o, c ≠ z → h2.get? c = some o → h5.get? c = some o := fun c o n e => sb5.extBut _ _ n (sb4.extBut _ _ n (Heap.get?_push_of_some _ e))
    have tn : TupAt h5 h2.objs.size xs.toArray := by
      have : TupAt (h2.push { cls := .type "tuple", data := .seq xs.toArray.toList.toArray }) h2.objs.size xs.toArray := Heap.get?_push_size _ rfl
      exact sb5.extBut _ _ (Nat.ne_of_gt zlt) (sb4.extBut _ _ (Nat.ne_of_gt zlt) this)
    have s5 : h5.objs.size = h2.objs.size + 1 := by rw [sb5.1, sb4.1, Heap.size_push]
    rw [sz2] at z5 tn s5
    refine wpAny_pure ⟨_, rfl, ?_⟩
    show Q (.ref h2.objs.size) _
    rw [sz2]
    refine hQ h5 z5 (up _ _ (Ne.symm S.iz) t2) (r2.done.ext (fun p mp o e => up _ _ (S.q1 p mp).1 e) fun p mp o e => up _ _ (S.q2 p mp).1 e) tn s5 fun c o hc e => up c o hc.1 (out2 c o hc e)
  · refine ⟨h1, vs, rfl, hz1, sb1.extBut _ _ (Ne.symm S.iz) hTI, sb1.extBut _ _ (Ne.symm S.zT) hTO, hv, fun i x hi => absurd hi (Nat.not_lt_zero i), ?_, sb1.1, fun c o hc e => sb1.extBut _ _ hc.1 e⟩
    exact R.ext (fun p mp o e => sb1.extBut _ _ (S.q1 p mp).1 e) fun p mp o e => sb1.extBut _ _ (S.q2 p mp).1 e
end
end ZN
set_option Elab.async false
set_option linter.all false
set_option maxRecDepth 100000
namespace ZN
open PySem
section
variable {prog : Program} {w : World} {A : Around} {E : Value → Shared → Prop} {s : Shared} {z TI TO T : Addr} {qs : List Rw} {k : Nat} {b : Bool} {oT : Obj}
set_option maxHeartbeats 3200000 in
theorem next_held {xs : List Value} {Q : Value → Shared → Prop} (S : Apart z TI TO qs) (hz : ZipAt s.heap z TI TO (rawInt T) b) (hT : s.heap.get? T = some oT) (hn : qs ≠ []) (h64 : qs.length ≤ 64)
    (hTI : TupAt s.heap TI (refs qs)) (R : Rws s.heap qs k 0) (C : Col qs k xs)
    (hQ : ∀ h', ZipAt h' z TI TO (rawInt T) true → TupAt h' TI (refs qs) → Rws h' qs (k + 1) 0 → TupAt h' s.heap.objs.size xs.toArray → h'.objs.size = s.heap.objs.size + 1 →
      (∀ c o, Out z TO qs c → s.heap.get? c = some o → h'.get? c = some o) → Q (.ref s.heap.objs.size) { s with heap := h' }) :
    wpAny (model prog w) A (Builtin.«zip.__next__» ⟨[.ref z], []⟩) (fun fin s' => ∃ v, fin = .done (.ret v) ∧ Q v s') E s := by
  show wpAny _ _ (field (.ref z) 2 >>= _) _ _ _
  refine wpAny_bind (wpAny_field hz rfl (x := .bool false) rfl ?_)
  show wpAny _ _ (field (.ref z) 3 >>= _) _ _ _
  refine wpAny_bind (wpAny_field hz rfl (x := .ref TI) rfl ?_)
  refine wpAny_bind (wpAny_seqItems hTI rfl ?_)
  have ne : (refs qs).isEmpty = false := by
    unfold refs
    cases qs with
    | nil => exact absurd rfl hn
    | cons => rfl
  dsimp only
  rw [ne, if_neg Bool.false_ne_true]
  refine wpAny_bind (wpAny_tupleHeld_zip hz hT fun h1 hz1 sb1 => ?_)
  replace hz1 : ZipAt h1 z TI TO (rawInt T) true := hz1
  replace sb1 : Heap.SameBut z s.heap h1 := sb1
  rw [if_neg Bool.false_ne_true]
  refine wpAny_bind ?_
  rw [← Array.forIn_toList]
  refine loop (l := (refs qs).toList) (fun j => (none, (xs.take j).toArray)) (fun j s' => ∃ h', s' = { s with heap := h' } ∧ ZipAt h' z TI TO (rawInt T) true ∧ TupAt h' TI (refs qs) ∧ Rws h' qs k j ∧ h'.objs.size = s.heap.objs.size ∧ ∀ c o, Out z TO qs c → s.heap.get? c = some o → h'.get? c = some o) ?_ ?_ _ 0 _ rfl (Nat.zero_le _) ?_
  · rintro j v s' hj ⟨h2, rfl, z2, t2, r2, sz2, out2⟩
    obtain ⟨q, hq, rfl⟩ := refs_at hj
    have mq := List.mem_of_getElem? hq
    obtain ⟨x, hx, hxk⟩ := col_at C hq
    obtain ⟨it, ls⟩ := r2 j q hq
    rw [if_neg (Nat.lt_irrefl _)] at it
    refine wpAny_bind (wpAny_holding ?_)
    show wpAny _ _ (Builtin.SmallTypes.nextOf (.ref q.1) >>= _) _ _ _
    refine wpAny_bind (wpAny_nextOf_list_item (s := { s with heap := h2 }) it ls hxk fun h3 it3 sb3 => wpAny_pure ?_)
    replace sb3 : Heap.SameBut q.1 h2 h3 := sb3
    obtain ⟨nz, nT, nI⟩ := S.q1 q mq
    refine wpAny_pure ⟨?_, h3, rfl, ?_, ?_, r2.step S hq it3 sb3, ?_, ?_⟩
    · rw [List.take_add_one, hx]
      simp
    · exact sb3.extBut _ _ (Ne.symm nz) z2
    · exact sb3.extBut _ _ (Ne.symm nI) t2
    · rw [sb3.1, sz2]
    · intro c o hc e
      exact sb3.extBut _ _ (hc.2.2 q mq) (out2 c o hc e)
  · rintro s' ⟨h2, rfl, z2, t2, r2, sz2, out2⟩
    rw [refs_len] at r2
    rw [refs_len, ← C.1, List.take_length]
    dsimp only
    have hs : xs.length ≤ sizeLine := by
      rw [C.1]
      exact Nat.le_trans h64 (by decide)
    refine wpAny_bind (wpAny_newTuple ?_ (by simpa using hs))
    refine wpAny_pure ⟨_, rfl, ?_⟩
    show Q (.ref h2.objs.size) { s with heap := h2.push { cls := .type "tuple", data := .seq xs.toArray.toList.toArray } }
    have tn : TupAt (h2.push { cls := .type "tuple", data := .seq xs.toArray.toList.toArray }) h2.objs.size xs.toArray := Heap.get?_push_size _ rfl
    have s5 : (h2.push { cls := .type "tuple", data := .seq xs.toArray.toList.toArray }).objs.size = h2.objs.size + 1 := Heap.size_push ..
    rw [sz2] at tn s5
    rw [sz2]
    exact hQ _ (Heap.get?_push_of_some _ z2) (Heap.get?_push_of_some _ t2) (r2.done.ext (fun p mp o e => Heap.get?_push_of_some _ e) fun p mp o e => Heap.get?_push_of_some _ e) tn s5 fun c o hc e => Heap.get?_push_of_some _ (out2 c o hc e)
  · refine ⟨h1, rfl, hz1, sb1.extBut _ _ (Ne.symm S.iz) hTI, ?_, sb1.1, fun c o hc e => sb1.extBut _ _ hc.1 e⟩
    exact R.ext (fun p mp o e => sb1.extBut _ _ (S.q1 p mp).1 e) fun p mp o e => sb1.extBut _ _ (S.q2 p mp).1 e
/-- the first row that is at its end -/
def EndsAt (qs : List Rw) (k : Nat) : Prop := ∃ (n : Nat) (q : Rw), qs[n]? = some q ∧ q.2.2[k]? = none ∧ ∀ (i : Nat) (p : Rw), i < n → qs[i]? = some p → ∃ x, p.2.2[k]? = some x
set_option maxHeartbeats 3200000 in
theorem end_held {Q : Fin → Shared → Prop} (hh : A.handled = none) (S : Apart z TI TO qs) (hz : ZipAt s.heap z TI TO (rawInt T) b) (hT : s.heap.get? T = some oT) (hn : qs ≠ [])
    (hTI : TupAt s.heap TI (refs qs)) (R : Rws s.heap qs k 0) (hk : EndsAt qs k)
    (hE : ∀ h' e, (∀ c o, Out z TO qs c → s.heap.get? c = some o → h'.get? c = some o) → (∃ o, h'.get? e = some o ∧ o.cls = .type "StopIteration") → E (.ref e) { s with heap := h' }) :
    wpAny (model prog w) A (Builtin.«zip.__next__» ⟨[.ref z], []⟩) Q E s := by
  obtain ⟨n, qn, hqn, hnone, hsome⟩ := hk
  show wpAny _ _ (field (.ref z) 2 >>= _) _ _ _
  refine wpAny_bind (wpAny_field hz rfl (x := .bool false) rfl ?_)
  show wpAny _ _ (field (.ref z) 3 >>= _) _ _ _
  refine wpAny_bind (wpAny_field hz rfl (x := .ref TI) rfl ?_)
  refine wpAny_bind (wpAny_seqItems hTI rfl ?_)
  have ne : (refs qs).isEmpty = false := by
    unfold refs
    cases qs with
    | nil => exact absurd rfl hn
    | cons => rfl
  dsimp only
  rw [ne, if_neg Bool.false_ne_true]
  refine wpAny_bind (wpAny_tupleHeld_zip hz hT fun h1 hz1 sb1 => ?_)
  replace sb1 : Heap.SameBut z s.heap h1 := sb1
  rw [if_neg Bool.false_ne_true]
  refine wpAny_bind ?_
  rw [← Array.forIn_toList]
  have nl : n < (refs qs).toList.length := by
    rw [refs_len]
    exact (List.getElem?_eq_some_iff.mp hqn).1
  refine loopE (l := (refs qs).toList) (n := n) (fun j => (none, ((qs.take j).map fun p => p.2.2.getD k .none).toArray)) (fun j s' => ∃ h', s' = { s with heap := h' } ∧ Rws h' qs k j ∧ ∀ c o, Out z TO qs c → s.heap.get? c = some o → h'.get? c = some o) nl ?_ ?_ _ 0 _ rfl (Nat.zero_le _) ?_
  · rintro j v s' hjn hj ⟨h2, rfl, r2, out2⟩
    obtain ⟨q, hq, rfl⟩ := refs_at hj
    have mq := List.mem_of_getElem? hq
    obtain ⟨x, hxk⟩ := hsome j q hjn hq
    obtain ⟨it, ls⟩ := r2 j q hq
    rw [if_neg (Nat.lt_irrefl _)] at it
    refine wpAny_bind (wpAny_holding ?_)
    show wpAny _ _ (Builtin.SmallTypes.nextOf (.ref q.1) >>= _) _ _ _
    refine wpAny_bind (wpAny_nextOf_list_item (s := { s with heap := h2 }) it ls hxk fun h3 it3 sb3 => wpAny_pure ?_)
    replace sb3 : Heap.SameBut q.1 h2 h3 := sb3
    refine wpAny_pure ⟨?_, h3, rfl, r2.step S hq it3 sb3, fun c o hc e => sb3.extBut _ _ (hc.2.2 q mq) (out2 c o hc e)⟩
    rw [List.take_add_one, hq]
    simp [hxk]
  · rintro v s' hj ⟨h2, rfl, r2, out2⟩
    obtain ⟨q, hq, rfl⟩ := refs_at hj
    rw [hqn] at hq
    cases hq
    have mq := List.mem_of_getElem? hqn
    obtain ⟨it, ls⟩ := r2 n qn hqn
    rw [if_neg (Nat.lt_irrefl _)] at it
    refine wpAny_bind (wpAny_holding ?_)
    show wpAny _ _ (Builtin.SmallTypes.nextOf (.ref qn.1) >>= _) _ _ _
    refine wpAny_bind (wpAny_nextOf_list_end (s := { s with heap := h2 }) hh it ls hnone fun h3 e ex he => ?_)
    replace ex : Heap.ExtBut qn.1 h2 h3 := ex
    exact hE h3 e (fun c o hc x => ex _ _ (hc.2.2 qn mq) (out2 c o hc x)) he
  · refine ⟨h1, rfl, ?_, fun c o hc e => sb1.extBut _ _ hc.1 e⟩
    exact R.ext (fun p mp o e => sb1.extBut _ _ (S.q1 p mp).1 e) fun p mp o e => sb1.extBut _ _ (S.q2 p mp).1 e
set_option maxHeartbeats 3200000 in
theorem end_free {vs : Array Value} {Q : Fin → Shared → Prop} (hh : A.handled = none) (S : Apart z TI TO qs) (hz : ZipAt s.heap z TI TO .none b) (hn : qs ≠ []) (h64 : qs.length ≤ 64)
    (hTI : TupAt s.heap TI (refs qs)) (hTO : TupAt s.heap TO vs) (hv : vs.size = qs.length) (R : Rws s.heap qs k 0) (hk : EndsAt qs k)
    (hE : ∀ h' e, (∀ c o, Out z TO qs c → s.heap.get? c = some o → h'.get? c = some o) → (∃ o, h'.get? e = some o ∧ o.cls = .type "StopIteration") → E (.ref e) { s with heap := h' }) :
    wpAny (model prog w) A (Builtin.«zip.__next__» ⟨[.ref z], []⟩) Q E s := by
  obtain ⟨n, qn, hqn, hnone, hsome⟩ := hk
  show wpAny _ _ (field (.ref z) 2 >>= _) _ _ _
  refine wpAny_bind (wpAny_field hz rfl (x := .bool false) rfl ?_)
  show wpAny _ _ (field (.ref z) 3 >>= _) _ _ _
  refine wpAny_bind (wpAny_field hz rfl (x := .ref TI) rfl ?_)
  refine wpAny_bind (wpAny_seqItems hTI rfl ?_)
  have ne : (refs qs).isEmpty = false := by
    unfold refs
    cases qs with
    | nil => exact absurd rfl hn
    | cons => rfl
  dsimp only
  rw [ne, if_neg Bool.false_ne_true]
  refine wpAny_bind ?_
  unfold Builtin.SmallTypes.ownedTupleIsFree
  refine wpAny_bind (wpAny_field hz rfl (x := .none) rfl (wpAny_pure ?_))
  rw [if_pos rfl]
  refine wpAny_bind (wpAny_rule (wpAny_bind (wpAny_field hz rfl (x := .ref TO) rfl ?_)))
  refine wpAny_bind (wpAny_setField_rec hz (by simp) fun h1 hz1 sb1 => ?_)
  replace hz1 : ZipAt h1 z TI TO .ellipsis b := hz1
  replace sb1 : Heap.SameBut z s.heap h1 := sb1
  refine wpAny_bind ?_
  have nl : n < (refs qs).toList.zipIdx.length := by
    rw [List.length_zipIdx, refs_len]
    exact (List.getElem?_eq_some_iff.mp hqn).1
  have split : ∀ {j : Nat} {v : Value} {j2 : Nat}, (refs qs).toList.zipIdx[j]? = some (v, j2) → (refs qs).toList[j]? = some v ∧ j2 = j := fun {j v j2} hj => by
    rw [List.getElem?_zipIdx] at hj
    cases g : (refs qs).toList[j]? with
    | none =>
      rw [g] at hj
      cases hj
    | some u =>
      rw [g] at hj
      have := Option.some.inj hj
      simp only [Prod.mk.injEq] at this
      exact ⟨congrArg some this.1, by omega⟩
  refine loopE (l := (refs qs).toList.zipIdx) (n := n) (fun _ => (none, ())) (fun j s' => ∃ h' ys, s' = { s with heap := h' } ∧ ZipAt h' z TI TO .ellipsis b ∧ TupAt h' TO ys ∧ ys.size = qs.length ∧ Rws h' qs k j ∧ ∀ c o, Out z TO qs c → s.heap.get? c = some o → h'.get? c = some o) nl ?_ ?_ _ 0 _ rfl (Nat.zero_le _) ?_
  · rintro j ⟨v, j2⟩ s' hjn hj ⟨h2, ys, rfl, z2, o2, sz, r2, out2⟩
    obtain ⟨e1, e2⟩ := split hj
    subst e2
    obtain ⟨q, hq, rfl⟩ := refs_at e1
    have mq := List.mem_of_getElem? hq
    obtain ⟨x, hxk⟩ := hsome j2 q hjn hq
    obtain ⟨it, ls⟩ := r2 j2 q hq
    rw [if_neg (Nat.lt_irrefl _)] at it
    refine wpAny_bind (wpAny_onRaise ?_)
    show wpAny _ _ (Builtin.SmallTypes.nextOf (.ref q.1) >>= _) _ _ _
    refine wpAny_bind (wpAny_nextOf_list_item (s := { s with heap := h2 }) it ls hxk fun h3 it3 sb3 => wpAny_pure ?_)
    replace sb3 : Heap.SameBut q.1 h2 h3 := sb3
    obtain ⟨nz, nT, nI⟩ := S.q1 q mq
    have o3 : TupAt h3 TO ys := sb3.extBut _ _ (Ne.symm nT) o2
    dsimp only
    refine wpAny_bind (wpAny_seqItems (s := { s with heap := h3 }) o3 rfl ?_)
    dsimp only
    refine wpAny_bind (put (s := { s with heap := h3 }) o3 (by rw [sz]; exact Nat.le_trans h64 (by decide)) fun h4 o4 sb4 => ?_)
    replace sb4 : Heap.SameBut TO h3 h4 := sb4
    refine wpAny_bind (wpAny_letGo (wpAny_pure ⟨rfl, h4, _, rfl, ?_, o4, ?_, ?_, ?_⟩))
    · exact sb4.extBut _ _ S.zT (sb3.extBut _ _ (Ne.symm nz) z2)
    · rw [Array.size_setIfInBounds]
      exact sz
    · refine (r2.step S hq it3 sb3).ext (fun p mp o e => ?_) (fun p mp o e => ?_)
      · exact sb4.extBut _ _ (S.q1 p mp).2.1 e
      · exact sb4.extBut _ _ (S.q2 p mp).2 e
    · intro c o hc e
      exact sb4.extBut _ _ hc.2.1 (sb3.extBut _ _ (hc.2.2 q mq) (out2 c o hc e))
  · rintro ⟨v, j2⟩ s' hj ⟨h2, ys, rfl, z2, o2, sz, r2, out2⟩
    obtain ⟨e1, e2⟩ := split hj
    subst e2
    obtain ⟨q, hq, rfl⟩ := refs_at e1
    rw [hqn] at hq
    cases hq
    have mq := List.mem_of_getElem? hqn
    obtain ⟨it, ls⟩ := r2 j2 qn hqn
    rw [if_neg (Nat.lt_irrefl _)] at it
    refine wpAny_bind (wpAny_onRaise ?_)
    show wpAny _ _ (Builtin.SmallTypes.nextOf (.ref qn.1) >>= _) _ _ _
    refine wpAny_bind (wpAny_nextOf_list_end (s := { s with heap := h2 }) hh it ls hnone fun h3 e ex he => ?_)
    replace ex : Heap.ExtBut qn.1 h2 h3 := ex
    have z3 : ZipAt h3 z TI TO .ellipsis b := ex _ _ (Ne.symm (S.q1 qn mq).1) z2
    obtain ⟨oe, he1, he2⟩ := he
    have nez : e ≠ z := fun w => by
      rw [w, z3] at he1
      have := Option.some.inj he1
      rw [← this] at he2
      exact absurd (show Value.type "zip" = Value.type "StopIteration" from he2) (by decide)
    refine wpAny_setField_rec (s := { s with heap := h3 }) z3 (by simp) fun h4 z4 sb4 => ?_
    replace sb4 : Heap.SameBut z h3 h4 := sb4
    exact hE h4 e (fun c o hc x => sb4.extBut _ _ hc.1 (ex _ _ (hc.2.2 qn mq) (out2 c o hc x))) ⟨oe, sb4.extBut _ _ nez he1, he2⟩
  · refine ⟨h1, vs, rfl, hz1, sb1.extBut _ _ (Ne.symm S.zT) hTO, hv, ?_, fun c o hc e => sb1.extBut _ _ hc.1 e⟩
    exact R.ext (fun p mp o e => sb1.extBut _ _ (S.q1 p mp).1 e) fun p mp o e => sb1.extBut _ _ (S.q2 p mp).1 e
/-! ### next of the zip -/
theorem py_free {xs : List Value} {vs : Array Value} {Q : Option Value → Shared → Prop} (S : Apart z TI TO qs) (hz : ZipAt s.heap z TI TO .none b) (hn : qs ≠ []) (h64 : qs.length ≤ 64)
    (hTI : TupAt s.heap TI (refs qs)) (hTO : TupAt s.heap TO vs) (hv : vs.size = qs.length) (R : Rws s.heap qs k 0) (C : Col qs k xs)
    (hQ : ∀ h', ZipAt h' z TI TO (rawInt s.heap.objs.size) false → TupAt h' TI (refs qs) → Rws h' qs (k + 1) 0 → TupAt h' s.heap.objs.size xs.toArray → h'.objs.size = s.heap.objs.size + 1 →
      (∀ c o, Out z TO qs c → s.heap.get? c = some o → h'.get? c = some o) → Q (some (.ref s.heap.objs.size)) { s with heap := h' }) : wpAny (model prog w) A (pyNext (.ref z)) Q E s := by
  have ty : s.TypeIs (.ref z) "zip" := ⟨_, hz, rfl⟩
  unfold pyNext
  exact wpAny_bind (wpAny_attempt (wpAny_callSpecial?_slot (name := Str.ofString "__next__") ty F.slot_zip_next (wpAny_call_entry F.slot_zip_next ty F.entry_zip_next (next_free S hz hn h64 hTI hTO hv R C fun h' a b c d e f => wpAny_pure (hQ h' a b c d e f)) (F.args_zip_next_1 _))))
theorem py_held {xs : List Value} {Q : Option Value → Shared → Prop} (S : Apart z TI TO qs) (hz : ZipAt s.heap z TI TO (rawInt T) b) (hT : s.heap.get? T = some oT) (hn : qs ≠ []) (h64 : qs.length ≤ 64)
    (hTI : TupAt s.heap TI (refs qs)) (R : Rws s.heap qs k 0) (C : Col qs k xs)
    (hQ : ∀ h', ZipAt h' z TI TO (rawInt T) true → TupAt h' TI (refs qs) → Rws h' qs (k + 1) 0 → TupAt h' s.heap.objs.size xs.toArray → h'.objs.size = s.heap.objs.size + 1 →
      (∀ c o, Out z TO qs c → s.heap.get? c = some o → h'.get? c = some o) → Q (some (.ref s.heap.objs.size)) { s with heap := h' }) : wpAny (model prog w) A (pyNext (.ref z)) Q E s := by
  have ty : s.TypeIs (.ref z) "zip" := ⟨_, hz, rfl⟩
  unfold pyNext
  exact wpAny_bind (wpAny_attempt (wpAny_callSpecial?_slot (name := Str.ofString "__next__") ty F.slot_zip_next (wpAny_call_entry F.slot_zip_next ty F.entry_zip_next (next_held S hz hT hn h64 hTI R C fun h' a b c d e f => wpAny_pure (hQ h' a b c d e f)) (F.args_zip_next_1 _))))
theorem py_end {Q : Option Value → Shared → Prop} (hh : A.handled = none) (S : Apart z TI TO qs) (hz : ZipAt s.heap z TI TO (rawInt T) b) (hT : s.heap.get? T = some oT) (hn : qs ≠ []) (hTI : TupAt s.heap TI (refs qs)) (R : Rws s.heap qs k 0) (hk : EndsAt qs k)
    (hQ : ∀ h', (∀ c o, Out z TO qs c → s.heap.get? c = some o → h'.get? c = some o) → Q none { s with heap := h' }) : wpAny (model prog w) A (pyNext (.ref z)) Q E s := by
  have ty : s.TypeIs (.ref z) "zip" := ⟨_, hz, rfl⟩
  unfold pyNext
  refine wpAny_bind (wpAny_attempt (wpAny_callSpecial?_slot (name := Str.ofString "__next__") ty F.slot_zip_next (wpAny_call_entry F.slot_zip_next ty F.entry_zip_next (end_held hh S hz hT hn hTI R hk fun h' e ke he => ?_) (F.args_zip_next_1 _))))
  obtain ⟨o, ho, hc⟩ := he
  exact wpAny_bind (wpAny_isInstance (T := "StopIteration") (b := true) ⟨o, ho, hc⟩ isSubtype_stop (wpAny_pure (hQ _ ke)))
theorem py_end0 {vs : Array Value} {Q : Option Value → Shared → Prop} (hh : A.handled = none) (S : Apart z TI TO qs) (hz : ZipAt s.heap z TI TO .none b) (hn : qs ≠ []) (h64 : qs.length ≤ 64) (hTI : TupAt s.heap TI (refs qs)) (hTO : TupAt s.heap TO vs) (hv : vs.size = qs.length) (R : Rws s.heap qs k 0) (hk : EndsAt qs k)
    (hQ : ∀ h', (∀ c o, Out z TO qs c → s.heap.get? c = some o → h'.get? c = some o) → Q none { s with heap := h' }) : wpAny (model prog w) A (pyNext (.ref z)) Q E s := by
  have ty : s.TypeIs (.ref z) "zip" := ⟨_, hz, rfl⟩
  unfold pyNext
  refine wpAny_bind (wpAny_attempt (wpAny_callSpecial?_slot (name := Str.ofString "__next__") ty F.slot_zip_next (wpAny_call_entry F.slot_zip_next ty F.entry_zip_next (end_free hh S hz hn h64 hTI hTO hv R hk fun h' e ke he => ?_) (F.args_zip_next_1 _))))
  obtain ⟨o, ho, hc⟩ := he
  exact wpAny_bind (wpAny_isInstance (T := "StopIteration") (b := true) ⟨o, ho, hc⟩ isSubtype_stop (wpAny_pure (hQ _ ke)))
end
end ZN
set_option Elab.async false
set_option linter.all false
set_option maxRecDepth 100000
namespace ZN
open PySem
/-- while the list at S is filled from the zip: i columns are in it -/
structure LI (g : Heap) (S z TI TO : Addr) (qs : List Rw) (cols : List (List Value)) (h : Heap) (i : Nat) (Ts : List Addr) : Prop where
  ls : ∃ c : Nat, h.get? S = some { cls := .type "list", dict := none, data := .seq (Ts.map Value.ref).toArray c, slots := #[] }
  len : Ts.length = i
  tup : ∀ (j : Nat) (T : Addr) (xs : List Value), Ts[j]? = some T → cols[j]? = some xs → TupAt h T xs.toArray
  new : ∀ T ∈ Ts, g.objs.size ≤ T ∧ T < h.objs.size ∧ T ≠ S
  nd : Ts.Nodup
  zp : (i = 0 ∧ ZipAt h z TI TO .none false ∧ ∃ vs, TupAt h TO vs ∧ vs.size = qs.length) ∨ (0 < i ∧ ∃ (T0 : Addr) (b : Bool), Ts[0]? = some T0 ∧ ZipAt h z TI TO (rawInt T0) b)
  ti : TupAt h TI (refs qs)
  rw : Rws h qs i 0
  out : ∀ a o, Out z TO qs a → a ≠ S → g.get? a = some o → h.get? a = some o
  sz : g.objs.size ≤ h.objs.size
/-- the zip's own cells lie below, the list's cell apart -/
structure Low (g : Heap) (S z TI TO : Addr) (qs : List Rw) : Prop where
  lz : z < g.objs.size
  lI : TI < g.objs.size
  lO : TO < g.objs.size
  q1 : ∀ q ∈ qs, q.1 < g.objs.size
  Sz : S ≠ z
  ST : S ≠ TI
  SO : S ≠ TO
  S1 : ∀ q ∈ qs, S ≠ q.1
  S2 : ∀ q ∈ qs, S ≠ q.2.1
theorem Low.out {g : Heap} {S z TI TO : Addr} {qs : List Rw} (L : Low g S z TI TO qs) {T : Addr} (h : g.objs.size ≤ T) : Out z TO qs T := ⟨Nat.ne_of_gt (Nat.lt_of_lt_of_le L.lz h), Nat.ne_of_gt (Nat.lt_of_lt_of_le L.lO h), fun q mq => Nat.ne_of_gt (Nat.lt_of_lt_of_le (L.q1 q mq) h)⟩
section
variable {prog : Program} {w : World} {A : Around} {R : Result → Shared → Prop} {s0 : Shared} {g : Heap} {S z TI TO : Addr} {qs : List Rw} {cols : List (List Value)}
/-- one more column, and the list that takes it -/
theorem LI.more {h h1 : Heap} {i c : Nat} {Ts : List Addr} {xs : List Value} (Ap : Apart z TI TO qs) (L : Low g S z TI TO qs) (I : LI g S z TI TO qs cols h i Ts) (hx : cols[i]? = some xs) (hS1 : h1.get? S = some { cls := .type "list", dict := none, data := .seq (Ts.map Value.ref).toArray c, slots := #[] })
    (zp : ∃ (T0 : Addr) (b : Bool), (Ts ++ [h.objs.size])[0]? = some T0 ∧ ZipAt h1 z TI TO (rawInt T0) b) (ti : TupAt h1 TI (refs qs)) (rw1 : Rws h1 qs (i + 1) 0) (tn : TupAt h1 h.objs.size xs.toArray) (s1 : h1.objs.size = h.objs.size + 1) (out : ∀ c o, Out z TO qs c → h.get? c = some o → h1.get? c = some o) :
    LI g S z TI TO qs cols (h1.update S (Obj.mapSeq (·.push (.ref h.objs.size)))) (i + 1) (Ts ++ [h.objs.size]) := by
  have Sl : S < h.objs.size := by
    obtain ⟨c0, e0⟩ := I.ls
    exact Heap.lt_size e0
  have oth : ∀ b o, b ≠ S → h1.get? b = some o → (h1.update S (Obj.mapSeq (·.push (.ref h.objs.size)))).get? b = some o := fun b o hb e => (Heap.get?_update_other _ _ (Ne.symm hb)).trans e
  have usz : (h1.update S (Obj.mapSeq (·.push (.ref h.objs.size)))).objs.size = h1.objs.size := (Heap.SameBut.update (h := h1) (a := S) (f := Obj.mapSeq (·.push (.ref h.objs.size)))).1
  refine ⟨?_, by rw [List.length_append, I.len]; rfl, ?_, ?_, ?_, .inr ⟨Nat.succ_pos i, ?_⟩, oth _ _ (Ne.symm L.ST) ti, ?_, ?_, ?_⟩
  · have ea : (Ts.map Value.ref).toArray.push (.ref h.objs.size) = ((Ts ++ [h.objs.size]).map Value.ref).toArray := by simp
    have e := Heap.get?_update_self (Obj.mapSeq (·.push (.ref h.objs.size))) hS1 rfl
    obtain ⟨c2, hc2⟩ : ∃ c2, Obj.mapSeq (·.push (.ref h.objs.size)) { cls := Value.type "list", dict := none, data := .seq (Ts.map Value.ref).toArray c, slots := #[] } = { cls := Value.type "list", dict := none, data := .seq ((Ts.map Value.ref).toArray.push (.ref h.objs.size)) c2, slots := #[] } := ⟨_, rfl⟩
    rw [hc2, ea] at e
    exact ⟨c2, e⟩
  · intro j T ys hT hy
    by_cases hj : j < Ts.length
    · rw [List.getElem?_append_left hj] at hT
      have m := I.new T (List.mem_of_getElem? hT)
      exact oth _ _ m.2.2 (out _ _ (L.out m.1) (I.tup j T ys hT hy))
    · rw [List.getElem?_append_right (by omega)] at hT
      have hj2 : j - Ts.length = 0 := by
        by_cases e : j - Ts.length = 0
        · exact e
        · obtain ⟨n, hn⟩ : ∃ n, j - Ts.length = n + 1 := ⟨j - Ts.length - 1, by omega⟩
          rw [hn] at hT
          cases hT
      rw [hj2] at hT
      have ej : j = i := by
        have := I.len
        omega
      subst ej
      rw [hx] at hy
      cases hy
      have := Option.some.inj hT
      rw [← this]
      exact oth _ _ (Nat.ne_of_gt Sl) tn
  · intro T hT
    rcases List.mem_append.mp hT with hT | hT
    · obtain ⟨n1, n2, n3⟩ := I.new T hT
      exact ⟨n1, Nat.lt_of_lt_of_eq (show T < h.objs.size + 1 by exact Nat.lt_succ_of_lt n2) (usz.trans s1).symm, n3⟩
    · rw [List.mem_singleton.mp hT]
      exact ⟨I.sz, Nat.lt_of_lt_of_eq (Nat.lt_succ_self _) (usz.trans s1).symm, Nat.ne_of_gt Sl⟩
  · refine List.nodup_append.mpr ⟨I.nd, by simp, fun a ha b hb => ?_⟩
    rw [List.mem_singleton.mp hb]
    exact Nat.ne_of_lt (I.new a ha).2.1
  · obtain ⟨T0, b, e1, e2⟩ := zp
    exact ⟨T0, b, e1, oth _ _ (Ne.symm L.Sz) e2⟩
  · exact rw1.ext (fun p mp o e => oth _ _ (Ne.symm (L.S1 p mp)) e) fun p mp o e => oth _ _ (Ne.symm (L.S2 p mp)) e
  · intro a o ha hs e
    exact oth _ _ hs (out _ _ ha (I.out a o ha hs e))
  · rw [usz, s1]
    have := I.sz
    omega
set_option maxHeartbeats 3200000 in
theorem fill_loop (hh : A.handled = none) (Ap : Apart z TI TO qs) (L : Low g S z TI TO qs) (hn : qs ≠ []) (h64 : qs.length ≤ 64) (hm : cols.length ≤ 64) (HC : ∀ (i : Nat) (xs : List Value), cols[i]? = some xs → Col qs i xs) (HE : EndsAt qs cols.length) (res : Value)
    (fin : ∀ h' Ts, LI g S z TI TO qs cols h' cols.length Ts → ∀ h2, (∀ a o, Out z TO qs a → h'.get? a = some o → h2.get? a = some o) → R (.ok (.ret res)) { s0 with heap := h2 }) :
    ∀ (r i : Nat) (h : Heap) (Ts : List Addr), cols.length - i = r → i ≤ cols.length → LI g S z TI TO qs cols h i Ts → codeAny (model prog w) A (.builtin "list.extend.loop" ⟨[.ref S, .ref z, res], []⟩) R { s0 with heap := h } := by
  intro r
  induction r with
  | zero =>
    intro i h Ts hr hi I
    have e : i = cols.length := by omega
    subst e
    refine codeAny_builtin F.entry_extend_loop ?_
    rw [Around.under_plainId F.plain_extend_loop _]
    show wpAny _ A.in1 (pyNext (.ref z) >>= _) _ _ _
    rcases I.zp with ⟨e, z0, vs, o0, v0⟩ | ⟨pos, T0, b, e1, e2⟩
    · exact wpAny_bind (py_end0 (s := { s0 with heap := h }) (A := A.in1) hh Ap z0 hn h64 I.ti o0 v0 I.rw HE fun h2 out => wpAny_pure (fin h Ts I h2 out))
    have hx0 : ∃ xs, cols[0]? = some xs := ⟨_, List.getElem?_eq_getElem (by omega)⟩
    obtain ⟨xs0, hx0⟩ := hx0
    refine wpAny_bind (py_end (s := { s0 with heap := h }) (A := A.in1) hh Ap e2 (I.tup 0 T0 xs0 e1 hx0) hn I.ti I.rw HE fun h2 out => ?_)
    exact wpAny_pure (fin h Ts I h2 out)
  | succ r ih =>
    intro i h Ts hr hi I
    have hlt : i < cols.length := by omega
    obtain ⟨xs, hx⟩ : ∃ xs, cols[i]? = some xs := ⟨_, List.getElem?_eq_getElem hlt⟩
    refine codeAny_builtin F.entry_extend_loop ?_
    rw [Around.under_plainId F.plain_extend_loop _]
    show wpAny _ A.in1 (pyNext (.ref z) >>= _) _ _ _
    have SO : Out z TO qs S := ⟨L.Sz, L.SO, L.S1⟩
    have go : ∀ h1, (∃ (T0 : Addr) (b : Bool), (Ts ++ [h.objs.size])[0]? = some T0 ∧ ZipAt h1 z TI TO (rawInt T0) b) → TupAt h1 TI (refs qs) → Rws h1 qs (i + 1) 0 → TupAt h1 h.objs.size xs.toArray → h1.objs.size = h.objs.size + 1 → (∀ c o, Out z TO qs c → h.get? c = some o → h1.get? c = some o) →
        wpAny (model prog w) A.in1 (updateSeq S (·.push (.ref h.objs.size)) >>= fun _ => again (.builtin "list.extend.loop" ⟨[.ref S, .ref z, res], []⟩)) (fun fin s' => match fin with | .done f => R (.ok f) s' | .again c' => c'.quiet = true ∧ codeAny (model prog w) A c' R s') (fun e s' => R (.error e) s') { s0 with heap := h1 } := by
      intro h1 zp ti rw1 tn s1 out
      obtain ⟨c0, hS0⟩ := I.ls
      have hS1 := out _ _ SO hS0
      refine wpAny_bind (wpAny_updateSeq (s := { s0 with heap := h1 }) hS1 rfl (wpAny_pure ⟨plainId_quiet F.plain_extend_loop _, ?_⟩) ?_ ?_)
      · exact ih (i + 1) _ _ (by omega) hlt (I.more Ap L hx hS1 zp ti rw1 tn s1 out)
      · have := I.len
        simp only [List.size_toArray, List.length_map]
        exact Nat.le_trans (show Ts.length ≤ 64 by omega) (by decide)
      · have := I.len
        simp only [List.size_toArray, List.length_map, Array.size_push]
        exact Nat.le_trans (show Ts.length + 1 ≤ 65 by omega) (by decide)
    rcases I.zp with ⟨e, z0, vs, o0, v0⟩ | ⟨_, T0, b, e1, e2⟩
    · refine wpAny_bind (py_free (s := { s0 with heap := h }) (A := A.in1) Ap z0 hn h64 I.ti o0 v0 I.rw (HC i xs hx) fun h1 a1 a2 a3 a4 a5 a6 => ?_)
      refine go h1 ⟨h.objs.size, false, ?_, a1⟩ a2 a3 a4 a5 a6
      have : Ts = [] := List.length_eq_zero_iff.mp (I.len.trans e)
      rw [this]
      rfl
    · have hx0 : ∃ xs, cols[0]? = some xs := ⟨_, List.getElem?_eq_getElem (by omega)⟩
      obtain ⟨xs0, hx0⟩ := hx0
      refine wpAny_bind (py_held (s := { s0 with heap := h }) (A := A.in1) Ap e2 (I.tup 0 T0 xs0 e1 hx0) hn h64 I.ti I.rw (HC i xs hx) fun h1 a1 a2 a3 a4 a5 a6 => ?_)
      refine go h1 ⟨T0, true, ?_, a1⟩ a2 a3 a4 a5 a6
      rw [List.getElem?_append_left (List.getElem?_eq_some_iff.mp e1).1]
      exact e1
end
end ZN
set_option Elab.async false
set_option linter.all false
set_option maxRecDepth 100000
namespace ZN
open PySem
theorem tc_zip {us : List Value} (h1 : us ≠ []) (h8 : us.length ≤ 8) : checkTypeCall "zip" ⟨us, []⟩ = pure () := by
  match us, h1, h8 with
  | [_], _, _ => kernel_rfl
  | [_, _], _, _ => kernel_rfl
  | [_, _, _], _, _ => kernel_rfl
  | [_, _, _, _], _, _ => kernel_rfl
  | [_, _, _, _, _], _, _ => kernel_rfl
  | [_, _, _, _, _, _], _, _ => kernel_rfl
  | [_, _, _, _, _, _, _], _, _ => kernel_rfl
  | [_, _, _, _, _, _, _, _], _, _ => kernel_rfl
  | _ :: _ :: _ :: _ :: _ :: _ :: _ :: _ :: _ :: _, _, h => simp at h
theorem tn_zip {us : List Value} (h1 : us ≠ []) (h8 : us.length ≤ 8) : checkBuiltinCall "zip.__new__" ⟨.type "zip" :: us, []⟩ = pure () := by
  match us, h1, h8 with
  | [_], _, _ => kernel_rfl
  | [_, _], _, _ => kernel_rfl
  | [_, _, _], _, _ => kernel_rfl
  | [_, _, _, _], _, _ => kernel_rfl
  | [_, _, _, _, _], _, _ => kernel_rfl
  | [_, _, _, _, _, _], _, _ => kernel_rfl
  | [_, _, _, _, _, _, _], _, _ => kernel_rfl
  | [_, _, _, _, _, _, _, _], _, _ => kernel_rfl
  | _ :: _ :: _ :: _ :: _ :: _ :: _ :: _ :: _ :: _, _, h => simp at h
theorem ti_zip {obj : Value} {us : List Value} (h1 : us ≠ []) (h8 : us.length ≤ 8) : argsOk "object.__init__" ⟨obj :: us, []⟩ := by
  unfold argsOk
  match us, h1, h8 with
  | [_], _, _ => kernel_rfl
  | [_, _], _, _ => kernel_rfl
  | [_, _, _], _, _ => kernel_rfl
  | [_, _, _, _], _, _ => kernel_rfl
  | [_, _, _, _, _], _, _ => kernel_rfl
  | [_, _, _, _, _, _], _, _ => kernel_rfl
  | [_, _, _, _, _, _, _], _, _ => kernel_rfl
  | [_, _, _, _, _, _, _, _], _, _ => kernel_rfl
  | _ :: _ :: _ :: _ :: _ :: _ :: _ :: _ :: _ :: _, _, h => simp at h
section
variable {prog : Program} {w : World} {A : Around} {E : Value → Shared → Prop} {s : Shared}
def made (n0 n : Nat) : Array Value := ((List.range n).map fun i => Value.ref (n0 + i)).toArray
set_option maxHeartbeats 1600000 in
theorem iters {ls : List Addr} {Q : List Value → Shared → Prop} (hl : ∀ l ∈ ls, ∃ items, s.heap.IsList l items)
    (hQ : ∀ h', h'.objs.size = s.heap.objs.size + ls.length → (∀ (i : Nat) (l : Addr), ls[i]? = some l → h'.IsListIter (s.heap.objs.size + i) l 0) → (∀ c o, s.heap.get? c = some o → h'.get? c = some o) → Q (made s.heap.objs.size ls.length).toList { s with heap := h' }) :
    wpAny (model prog w) A (Builtin.SmallTypes.iterAll (ls.map Value.ref)) Q E s := by
  unfold Builtin.SmallTypes.iterAll
  refine wpAny_bind ?_
  refine loop (l := ls.map Value.ref) (fun j => made s.heap.objs.size j) (fun j s' => ∃ h', s' = { s with heap := h' } ∧ h'.objs.size = s.heap.objs.size + j ∧ (∀ (i : Nat) (l : Addr), i < j → ls[i]? = some l → h'.IsListIter (s.heap.objs.size + i) l 0) ∧ ∀ c o, s.heap.get? c = some o → h'.get? c = some o) ?_ ?_ _ 0 _ rfl (Nat.zero_le _) ⟨s.heap, rfl, rfl, fun i l h => absurd h (Nat.not_lt_zero i), fun c o e => e⟩
  · rintro j v s' hj ⟨h1, rfl, z1, i1, k1⟩
    rw [List.getElem?_map] at hj
    obtain ⟨l, hlj, rfl⟩ := Option.map_eq_some_iff.mp hj
    obtain ⟨items, ⟨ol, hol, hc, hd⟩⟩ := hl l (List.mem_of_getElem? hlj)
    refine wpAny_bind (wpAny_holding (wpAny_pyIter_list (s := { s with heap := h1 }) ⟨ol, k1 _ _ hol, hc, hd⟩ ?_))
    refine wpAny_pure ⟨?_, _, rfl, ?_, ?_, ?_⟩
    · show ForInStep.yield ((made s.heap.objs.size j).push (.ref h1.objs.size)) = .yield (made s.heap.objs.size (j + 1))
      rw [z1]
      unfold made
      rw [List.range_succ, List.map_append]
      simp
    · show (h1.push _).objs.size = _
      rw [Heap.size_push, z1]
      omega
    · intro i l2 hi hl2
      by_cases e : i = j
      · subst e
        rw [hlj] at hl2
        cases hl2
        rw [← z1]
        exact ⟨_, Heap.get?_push_size _ rfl, rfl, rfl⟩
      · obtain ⟨o, a1, a2⟩ := i1 i l2 (by omega) hl2
        exact ⟨o, Heap.get?_push_of_some _ a1, a2⟩
    · intro c o e
      exact Heap.get?_push_of_some _ (k1 c o e)
  · rintro s' ⟨h1, rfl, z1, i1, k1⟩
    rw [List.length_map] at z1 i1 ⊢
    refine wpAny_pure (hQ h1 z1 (fun i l h => i1 i l (List.getElem?_eq_some_iff.mp h).1 h) k1)
set_option maxHeartbeats 1600000 in
theorem new_zip {ls : List Addr} (h8 : ls.length ≤ 8) : Meets (Builtin.«zip.__new__» ⟨.type "zip" :: ls.map Value.ref, []⟩) (fun _ R s => (∀ l ∈ ls, ∃ items, s.heap.IsList l items) ∧
      ∀ h', ZipAt h' (s.heap.objs.size + ls.length + 2) (s.heap.objs.size + ls.length) (s.heap.objs.size + ls.length + 1) .none false → TupAt h' (s.heap.objs.size + ls.length) (made s.heap.objs.size ls.length) → (∃ vs, TupAt h' (s.heap.objs.size + ls.length + 1) vs ∧ vs.size = ls.length) →
        (∀ (i : Nat) (l : Addr), ls[i]? = some l → h'.IsListIter (s.heap.objs.size + i) l 0) → h'.objs.size = s.heap.objs.size + ls.length + 3 → (∀ c o, s.heap.get? c = some o → h'.get? c = some o) →
        R (.ok (.ret (.ref (s.heap.objs.size + ls.length + 2)))) { s with heap := h' }) :=
  .of_wp fun prog w A R s h => by
    obtain ⟨hl, h⟩ := h
    have hsub := sub_zip
    unfold Builtin.«zip.__new__»
    generalize hI : Builtin.SmallTypes.iterAll = IA
    wp_walk
    subst hI
    refine iters hl fun h1 z1 i1 k1 => ?_
    have ml : (made s.heap.objs.size ls.length).toList.length = ls.length := by
      unfold made
      simp
    have b1 : (made s.heap.objs.size ls.length).toList.length ≤ sizeLine := by
      rw [ml]
      exact Nat.le_trans h8 (by decide)
    refine wpAny_bind (wpAny_newTuple ?_ b1)
    refine wpAny_bind (wpAny_newTuple ?_ (by rw [List.length_map]; exact b1))
    refine wpAny_bind ?_
    unfold Builtin.SmallTypes.newRecord
    refine wpAny_newObj_type ?_ (by unfold Builtin.SmallTypes.ownedTupleFields; first | size_fits | (simp [sizeOk]; done) | (unfold sizeOk; simp))
    refine wpAny_pure ⟨_, rfl, ?_⟩
    have e2 : (h1.push { cls := .type "tuple", data := .seq (made s.heap.objs.size ls.length).toList.toArray }).objs.size = s.heap.objs.size + ls.length + 1 := by rw [Heap.size_push, z1]
    have t2 : (h1.push { cls := .type "tuple", data := .seq (made s.heap.objs.size ls.length).toList.toArray }).get? h1.objs.size = some { cls := .type "tuple", data := .seq (made s.heap.objs.size ls.length) } := Heap.get?_push_size _ rfl
    rw [z1] at t2
    have k2 : ∀ c o, s.heap.get? c = some o → (h1.push { cls := .type "tuple", data := .seq (made s.heap.objs.size ls.length).toList.toArray }).get? c = some o := fun c o e => Heap.get?_push_of_some _ (k1 c o e)
    have i2 : ∀ (i : Nat) (l : Addr), ls[i]? = some l → (h1.push { cls := .type "tuple", data := .seq (made s.heap.objs.size ls.length).toList.toArray }).IsListIter (s.heap.objs.size + i) l 0 := fun i l e => by
      obtain ⟨o, a1, a2⟩ := i1 i l e
      exact ⟨o, Heap.get?_push_of_some _ a1, a2⟩
    show R (.ok (.ret (.ref ((h1.push { cls := .type "tuple", data := .seq (made s.heap.objs.size ls.length).toList.toArray }).push { cls := .type "tuple", data := .seq ((made s.heap.objs.size ls.length).toList.map fun _ => Value.none).toArray }).objs.size))) { s with heap := ((h1.push { cls := .type "tuple", data := .seq (made s.heap.objs.size ls.length).toList.toArray }).push { cls := .type "tuple", data := .seq ((made s.heap.objs.size ls.length).toList.map fun _ => Value.none).toArray }).push { cls := .type "zip", data := .fields #[.none, .bool false, .bool false, .ref h1.objs.size, .ref (h1.push { cls := .type "tuple", data := .seq (made s.heap.objs.size ls.length).toList.toArray }).objs.size] } }
    rw [z1]
    generalize h1.push { cls := .type "tuple", data := .seq (made s.heap.objs.size ls.length).toList.toArray } = h2 at *
    have e3 : (h2.push { cls := .type "tuple", data := .seq ((made s.heap.objs.size ls.length).toList.map fun _ => Value.none).toArray }).objs.size = s.heap.objs.size + ls.length + 2 := by rw [Heap.size_push, e2]
    have t3 : (h2.push { cls := .type "tuple", data := .seq ((made s.heap.objs.size ls.length).toList.map fun _ => Value.none).toArray }).get? h2.objs.size = some { cls := .type "tuple", data := .seq ((made s.heap.objs.size ls.length).toList.map fun _ => Value.none).toArray } := Heap.get?_push_size _ rfl
    rw [e2] at t3
    rw [e2]
    have k3 : ∀ c o, h2.get? c = some o → (h2.push { cls := .type "tuple", data := .seq ((made s.heap.objs.size ls.length).toList.map fun _ => Value.none).toArray }).get? c = some o := fun c o e => Heap.get?_push_of_some _ e
    generalize h2.push { cls := .type "tuple", data := .seq ((made s.heap.objs.size ls.length).toList.map fun _ => Value.none).toArray } = h3 at *
    have z4 : (h3.push { cls := .type "zip", data := .fields #[.none, .bool false, .bool false, .ref (s.heap.objs.size + ls.length), .ref (s.heap.objs.size + ls.length + 1)] }).get? h3.objs.size = some { cls := .type "zip", data := .fields #[.none, .bool false, .bool false, .ref (s.heap.objs.size + ls.length), .ref (s.heap.objs.size + ls.length + 1)] } := Heap.get?_push_size _ rfl
    rw [e3] at z4
    rw [e3]
    refine h _ z4 (Heap.get?_push_of_some _ (k3 _ _ t2)) ⟨_, Heap.get?_push_of_some _ t3, ?_⟩ (fun i l e => ?_) (by rw [Heap.size_push, e3]) fun c o e => Heap.get?_push_of_some _ (k3 _ _ (k2 c o e))
    · rw [List.size_toArray, List.length_map, ml]
    · obtain ⟨o, a1, a2⟩ := i2 i l e
      exact ⟨o, Heap.get?_push_of_some _ (k3 _ _ a1), a2⟩
/-- zip(*rows) -/
theorem call_zip {ls : List Addr} {Q : Value → Shared → Prop} (hn : ls ≠ []) (h8 : ls.length ≤ 8) (hl : ∀ l ∈ ls, ∃ items, s.heap.IsList l items)
    (h : ∀ h', ZipAt h' (s.heap.objs.size + ls.length + 2) (s.heap.objs.size + ls.length) (s.heap.objs.size + ls.length + 1) .none false → TupAt h' (s.heap.objs.size + ls.length) (made s.heap.objs.size ls.length) → (∃ vs, TupAt h' (s.heap.objs.size + ls.length + 1) vs ∧ vs.size = ls.length) →
        (∀ (i : Nat) (l : Addr), ls[i]? = some l → h'.IsListIter (s.heap.objs.size + i) l 0) → h'.objs.size = s.heap.objs.size + ls.length + 3 → (∀ c o, s.heap.get? c = some o → h'.get? c = some o) →
        Q (.ref (s.heap.objs.size + ls.length + 2)) { s with heap := h' }) : wpAny (model prog w) A (call (.type "zip") (ls.map Value.ref)) Q E s := by
  have h1 : ls.map Value.ref ≠ [] := by simpa using hn
  have h2 : (ls.map Value.ref).length ≤ 8 := by rw [List.length_map]; exact h8
  refine callType_new F.called_zip (by decide) (tc_zip h1 h2) (tn_zip h1 h2) (fun obj => ti_zip h1 h2) F.entry_zip_new (new_zip h8) ⟨hl, fun h' a b c d e f => ?_⟩
  exact ⟨⟨_, a, rfl⟩, h h' a b c d e f⟩
end
end ZN
set_option Elab.async false
set_option linter.all false
set_option maxRecDepth 100000
namespace ZN
open PySem
theorem zip_no_len : typeLookup (.type "zip") "__len__" = pure none := by rw [typeLookup_type, builtinLookup_eq_fast]; kernel_rfl
theorem zip_no_hint : typeLookup (.type "zip") "__length_hint__" = pure none := by rw [typeLookup_type, builtinLookup_eq_fast]; kernel_rfl
/-- what is asked of the rows and the columns -/
structure Tab (qs : List Rw) (cols : List (List Value)) : Prop where
  n1 : qs ≠ []
  n64 : qs.length ≤ 64
  m64 : cols.length ≤ 64
  col : ∀ (i : Nat) (xs : List Value), cols[i]? = some xs → Col qs i xs
  fin : EndsAt qs cols.length
section
variable {prog : Program} {w : World} {A : Around} {R : Result → Shared → Prop} {s0 : Shared} {g : Heap} {S z TI TO : Addr} {qs : List Rw} {cols : List (List Value)}
set_option maxHeartbeats 3200000 in
theorem extend (hh : A.handled = none) (Ap : Apart z TI TO qs) (L : Low g S z TI TO qs) (t : Tab qs cols) {h : Heap} {c0 : Nat} (hS : h.get? S = some { cls := .type "list", data := .seq #[] c0 }) (hz : ZipAt h z TI TO .none false) (hO : ∃ vs, TupAt h TO vs ∧ vs.size = qs.length) (hI : TupAt h TI (refs qs)) (hR : Rws h qs 0 0)
    (out : ∀ a o, Out z TO qs a → a ≠ S → g.get? a = some o → h.get? a = some o) (sz : g.objs.size ≤ h.objs.size)
    (fin : ∀ h' Ts, LI g S z TI TO qs cols h' cols.length Ts → ∀ h2, (∀ a o, Out z TO qs a → h'.get? a = some o → h2.get? a = some o) → R (.ok (.ret .none)) { s0 with heap := h2 }) :
    wpAny (model prog w) A.in1 (Builtin.List.listExtendWith (.ref S) (.ref z) .none) (fun fin s' => match fin with | .done f => R (.ok f) s' | .again c' => c'.quiet = true ∧ codeAny (model prog w) A c' R s') (fun e s' => R (.error e) s') { s0 with heap := h } := by
  have ty : Shared.TypeIs { s0 with heap := h } (.ref z) "zip" := ⟨_, hz, rfl⟩
  unfold Builtin.List.listExtendWith
  refine wpAny_bind (wpAny_typeOf ty ?_)
  have d1 : Builtin.List.listSameRef (.ref S) (.ref z) = false := by simp [Builtin.List.listSameRef, L.Sz]
  have d2 : (Value.type "zip" == Value.type "list") = false := by decide
  have d3 : (Value.type "zip" == Value.type "tuple") = false := by decide
  simp only [d1, d2, d3, Bool.or_false, Bool.false_eq_true, if_false]
  refine wpAny_bind (wpAny_pyIter_zip (s := { s0 with heap := h }) hz ?_)
  refine wpAny_bind (wpAny_holding ?_)
  unfold Builtin.List.listLengthHint
  refine wpAny_bind (wpAny_specialOf ty zip_no_len ?_)
  show wpAny _ A.in1 (specialOf (Value.ref z) (Str.ofString "__length_hint__") >>= _) _ _ _
  refine wpAny_bind (wpAny_specialOf ty zip_no_hint (wpAny_pure ?_))
  show wpAny _ A.in1 (rule "list.extend.makes-room" >>= fun _ => Builtin.List.listTouch (.ref S) >>= fun _ => again (.builtin "list.extend.loop" ⟨[.ref S, .ref z, .none], []⟩)) _ _ _
  refine wpAny_bind (wpAny_rule (wpAny_bind ?_))
  show wpAny _ A.in1 (updateSeq S (·.push .none) >>= fun _ => updateSeq S (·.pop)) _ _ _
  refine wpAny_bind (wpAny_updateSeq (s := { s0 with heap := h }) hS rfl ?_)
  have hS2 := Heap.get?_update_self (Obj.mapSeq (·.push Value.none)) hS rfl
  refine wpAny_updateSeq (hz := by seq_fits) hS2 rfl ?_
  have hS3 := Heap.get?_update_self (Obj.mapSeq (·.pop)) hS2 rfl
  have oth : ∀ b o, b ≠ S → h.get? b = some o → ((h.update S (Obj.mapSeq (·.push Value.none))).update S (Obj.mapSeq (·.pop))).get? b = some o := fun b o hb e => (Heap.get?_update_other _ _ (Ne.symm hb)).trans ((Heap.get?_update_other _ _ (Ne.symm hb)).trans e)
  have usz : ((h.update S (Obj.mapSeq (·.push Value.none))).update S (Obj.mapSeq (·.pop))).objs.size = h.objs.size := ((Heap.SameBut.update (h := h.update S (Obj.mapSeq (·.push Value.none))) (a := S) (f := Obj.mapSeq (·.pop))).1).trans (Heap.SameBut.update (h := h) (a := S) (f := Obj.mapSeq (·.push Value.none))).1
  refine wpAny_pure ⟨plainId_quiet F.plain_extend_loop _, ?_⟩
  refine fill_loop hh Ap L t.n1 t.n64 t.m64 t.col t.fin .none fin cols.length 0 _ [] rfl (Nat.zero_le _) ?_
  obtain ⟨vs, o1, o2⟩ := hO
  refine ⟨⟨_, hS3⟩, rfl, fun j T xs hT => (by cases hT), fun T hT => (by cases hT), List.nodup_nil, .inl ⟨rfl, oth _ _ (Ne.symm L.Sz) hz, vs, oth _ _ (Ne.symm L.SO) o1, o2⟩, oth _ _ (Ne.symm L.ST) hI, ?_, fun a o ha hs e => oth _ _ hs (out a o ha hs e), by rw [usz]; exact sz⟩
  exact hR.ext (fun p mp o e => oth _ _ (Ne.symm (L.S1 p mp)) e) fun p mp o e => oth _ _ (Ne.symm (L.S2 p mp)) e
end
section
variable {prog : Program} {w : World} {A : Around} {E : Value → Shared → Prop} {s : Shared} {z TI TO : Addr} {qs : List Rw} {cols : List (List Value)}
set_option maxHeartbeats 3200000 in
theorem call_list {Q : Value → Shared → Prop} (hh : A.handled = none) (Ap : Apart z TI TO qs) (t : Tab qs cols) (hz : ZipAt s.heap z TI TO .none false) (hO : ∃ vs, TupAt s.heap TO vs ∧ vs.size = qs.length) (hI : TupAt s.heap TI (refs qs)) (hR : Rws s.heap qs 0 0)
    (hQ : ∀ (h' : Heap) (Ts : List Addr) (c : Nat), h'.get? s.heap.objs.size = some { cls := .type "list", dict := none, data := .seq (Ts.map Value.ref).toArray c, slots := #[] } → Ts.length = cols.length → (∀ (j : Nat) (T : Addr) (xs : List Value), Ts[j]? = some T → cols[j]? = some xs → TupAt h' T xs.toArray) →
      (∀ T ∈ Ts, s.heap.objs.size < T) → Ts.Nodup → (∀ a o, Out z TO qs a → s.heap.get? a = some o → h'.get? a = some o) → Q (.ref s.heap.objs.size) { s with heap := h' }) :
    wpAny (model prog w) A (call (.type "list") [.ref z]) Q E s := by
  have lt : ∀ {a o}, s.heap.get? a = some o → a < s.heap.objs.size := fun e => Heap.lt_size e
  obtain ⟨vs, o1, o2⟩ := hO
  have q1 : ∀ q ∈ qs, q.1 < s.heap.objs.size ∧ q.2.1 < s.heap.objs.size := fun q mq => by
    obtain ⟨i, hi, e⟩ := List.getElem_of_mem mq
    obtain ⟨⟨o, a1, _⟩, ⟨ol, b1, _⟩⟩ := hR i q (by rw [List.getElem?_eq_getElem hi, e])
    exact ⟨lt a1, lt b1⟩
  have L : Low s.heap s.heap.objs.size z TI TO qs := ⟨lt hz, lt hI, lt o1, fun q mq => (q1 q mq).1, Nat.ne_of_gt (lt hz), Nat.ne_of_gt (lt hI), Nat.ne_of_gt (lt o1), fun q mq => Nat.ne_of_gt (q1 q mq).1, fun q mq => Nat.ne_of_gt (q1 q mq).2⟩
  refine callType_codes (Q₁ := fun obj s₁ => obj = .ref s.heap.objs.size ∧ s₁ = { s with heap := s.heap.push { cls := .type "list", data := .seq #[] } }) F.called_list (F.typeCall_list_1 _) F.entry_list_init (code_list_new _ ⟨rfl, rfl⟩) fun obj s1 e1 => ?_
  obtain ⟨rfl, rfl⟩ := e1
  have hS : (s.heap.push { cls := .type "list", data := .seq #[] }).get? s.heap.objs.size = some { cls := .type "list", data := .seq #[] } := Heap.get?_push_size _ rfl
  have up : ∀ b o, s.heap.get? b = some o → (s.heap.push { cls := .type "list", data := .seq #[] }).get? b = some o := fun b o e => Heap.get?_push_of_some _ e
  have s1 : s.heap.objs.size ≤ (s.heap.push { cls := .type "list", data := .seq #[] }).objs.size := by
    rw [Heap.size_push]
    exact Nat.le_succ _
  refine ⟨⟨_, hS, rfl⟩, F.args_list_init_2 _ _, ?_⟩
  generalize s.heap.push { cls := .type "list", data := .seq #[] } = h1 at *
  show wpAny _ A.in1.in1 (do let old ← Builtin.List.listItems (.ref s.heap.objs.size); Builtin.List.listUpdate (.ref s.heap.objs.size) (fun _ => #[]); letGo old.toList.reverse; Builtin.List.listExtendWith (.ref s.heap.objs.size) (.ref z) .none) _ _ _
  refine wpAny_bind ?_
  unfold Builtin.List.listItems
  refine wpAny_bind (wpAny_seqItems (s := { s with heap := h1 }) hS rfl (wpAny_pure ?_))
  show wpAny _ A.in1.in1 (updateSeq s.heap.objs.size (fun _ => #[]) >>= fun _ => letGo (#[] : Array Value).toList.reverse >>= fun _ => Builtin.List.listExtendWith (.ref s.heap.objs.size) (.ref z) .none) _ _ _
  refine wpAny_bind (wpAny_updateSeq (s := { s with heap := h1 }) hS rfl ?_)
  have hS2 := Heap.get?_update_self (Obj.mapSeq (fun _ => (#[] : Array Value))) hS rfl
  have oth : ∀ b o, b ≠ s.heap.objs.size → h1.get? b = some o → (h1.update s.heap.objs.size (Obj.mapSeq (fun _ => (#[] : Array Value)))).get? b = some o := fun b o hb e => (Heap.get?_update_other _ _ (Ne.symm hb)).trans e
  have usz : (h1.update s.heap.objs.size (Obj.mapSeq (fun _ => (#[] : Array Value)))).objs.size = h1.objs.size := (Heap.SameBut.update (h := h1) (a := s.heap.objs.size) (f := Obj.mapSeq (fun _ => (#[] : Array Value)))).1
  refine wpAny_bind (wpAny_letGo ?_)
  refine extend (A := A.in1) (s0 := s) hh Ap L t hS2 (oth _ _ (Ne.symm L.Sz) (up _ _ hz)) ⟨vs, oth _ _ (Ne.symm L.SO) (up _ _ o1), o2⟩ (oth _ _ (Ne.symm L.ST) (up _ _ hI)) ?_ (fun a o ha hs e => oth _ _ hs (up _ _ e)) (by rw [usz]; exact s1) fun h' Ts li h2 k2 => ?_
  · exact hR.ext (fun p mp o e => oth _ _ (Ne.symm (L.S1 p mp)) (up _ _ e)) fun p mp o e => oth _ _ (Ne.symm (L.S2 p mp)) (up _ _ e)
  · have SO : Out z TO qs s.heap.objs.size := ⟨L.Sz, L.SO, L.S1⟩
    obtain ⟨c, e⟩ := li.ls
    refine ⟨rfl, hQ h2 Ts c (k2 _ _ SO e) li.len (fun j T xs hT hx => ?_) (fun T hT => ?_) li.nd fun a o ha e => ?_⟩
    · exact k2 _ _ (L.out (li.new T (List.mem_of_getElem? hT)).1) (li.tup j T xs hT hx)
    · obtain ⟨n1, _, n3⟩ := li.new T hT
      exact Nat.lt_of_le_of_ne n1 (Ne.symm n3)
    · have hs : a ≠ s.heap.objs.size := Nat.ne_of_lt (lt e)
      exact k2 _ _ ha (li.out a o ha hs e)
end
end ZN
set_option Elab.async false
set_option linter.all false
set_option maxRecDepth 100000
/-! list(zip(*rows)) -/
namespace ZN
open PySem PySem.Spec PyProof.Rows L2
/-! ### several new objects, tracked at once -/
section
variable {X : Cx} {pins : List (Addr × Obj)} {σ : L2.St} {H H2 : Hp} {s : Shared} {h' : Heap}
theorem un_all {fs ex : List Addr} {g : Heap} (k : ∀ b u, g.get? b = some u → h'.get? b = some u) (sm : ∀ b o, H b = some o → H2 b = some o) (hi : ∀ b o, H b = none → H2 b = some o → g.objs.size ≤ b) : Un fs ex H H2 g h' where
  keep := fun b u q _ _ _ => k b u q
  slot := fun b u q _ _ _ => ⟨u.slots, k b u q⟩
  free := fun b u q n _ => by
    cases e : H2 b with
    | none => rfl
    | some o => exact absurd (hi b o n e) (Nat.not_le_of_lt (Heap.lt_size q))
  there := fun b u q _ => ⟨u, k b u q⟩
  tups := fun b xs q => sm _ _ q
  frzs := fun b u xs q => sm _ _ q
  tbls := fun b ps q => ⟨#[], by rw [sm _ _ q]; simp⟩
theorem hok_all {P : Program} {w : World} {g : Heap} (x : HOk P w H g) (k : ∀ b u, g.get? b = some u → h'.get? b = some u) (sm : ∀ b o, H b = some o → H2 b = some o) (new : ∀ b o, H b = none → H2 b = some o → ObjOk P w H2 h' b o) : HOk P w H2 h' := fun b o e => by
  cases q : H b with
  | none => exact new b o q e
  | some u =>
    have : u = o := by
      have := sm _ _ q
      rw [e] at this
      exact (Option.some.inj this).symm
    subst this
    exact (x b u q).stay (fun c v _ z => k c v z) (fun c z => sm _ _ z) fun c xs z => sm _ _ z
theorem laidAll (I : Inv X pins σ H s) (k : ∀ b u, s.heap.get? b = some u → h'.get? b = some u) (sm : ∀ b o, H b = some o → H2 b = some o) (hi : ∀ b o, H b = none → H2 b = some o → s.heap.objs.size ≤ b) (new : ∀ b o, H b = none → H2 b = some o → ObjOk X.prog X.w H2 h' b o) : Inv X pins σ H2 { s with heap := h' } :=
  I.call (ch := []) (g' := s.gens) (t' := s.toks) (d' := s.drawn) (un_all k sm hi) (hok_all I.hok k sm new) I.bare fun _ z => nomatch z
end
/-! ### lists of rows -/
def mkq : Nat → List Addr → List (Array Value) → List Rw
  | n, l :: ls, a :: as => (n, l, a) :: mkq (n + 1) ls as
  | _, _, _ => []
theorem mkq_len : ∀ (n : Nat) (ls : List Addr) (as : List (Array Value)), as.length = ls.length → (mkq n ls as).length = ls.length
  | _, [], [], _ => rfl
  | n, l :: ls, a :: as, h => by
    show (mkq (n + 1) ls as).length + 1 = ls.length + 1
    rw [mkq_len (n + 1) ls as (by simpa using h)]
theorem mkq_at : ∀ (n : Nat) (ls : List Addr) (as : List (Array Value)) (i : Nat) (q : Rw), (mkq n ls as)[i]? = some q → @Eq Nat q.1 (n + i) ∧ ls[i]? = some q.2.1 ∧ as[i]? = some q.2.2
  | n, l :: ls, a :: as, 0, q, h => by
    have := Option.some.inj h
    rw [← this]
    exact ⟨rfl, rfl, rfl⟩
  | n, l :: ls, a :: as, i + 1, q, h => by
    obtain ⟨h1, h2, h3⟩ := mkq_at (n + 1) ls as i q h
    exact ⟨h1.trans (by rw [Nat.add_assoc, Nat.add_comm 1 i]), h2, h3⟩
  | _, [], _, _, _, h => by simp [mkq] at h
  | _, _ :: _, [], _, _, h => by simp [mkq] at h
theorem refs_mkq (n : Nat) (ls : List Addr) (as : List (Array Value)) (h : as.length = ls.length) : refs (mkq n ls as) = made n ls.length := by
  unfold refs made
  congr 1
  apply List.ext_getElem?
  intro i
  rw [List.getElem?_map, List.getElem?_map]
  by_cases hi : i < ls.length
  · obtain ⟨q, hq⟩ : ∃ q, (mkq n ls as)[i]? = some q := ⟨_, List.getElem?_eq_getElem (by rw [mkq_len n ls as h]; exact hi)⟩
    rw [hq, List.getElem?_range hi]
    show some (Value.ref q.1) = some (Value.ref (n + i))
    rw [(mkq_at n ls as i q hq).1]
  · rw [List.getElem?_eq_none (by rw [mkq_len n ls as h]; omega), List.getElem?_eq_none (by rw [List.length_range]; omega)]
    rfl
/-- the rows' items, as they stand in the heap -/
theorem arrs {X : Cx} {pins : List (Addr × Obj)} {σ : L2.St} {H : Hp} {s : Shared} (I : Inv X pins σ H s) : ∀ (ls : List Addr) (rows : List (List V)), rows.length = ls.length → (∀ (i : Nat) (l : Addr) (r : List V), ls[i]? = some l → rows[i]? = some r → SqL X.K H l r) →
    ∃ as : List (Array Value), as.length = ls.length ∧ ∀ (i : Nat) (l : Addr) (r : List V) (a : Array Value), ls[i]? = some l → rows[i]? = some r → as[i]? = some a → s.heap.IsList l a ∧ Vals r a.toList
  | [], [], _, _ => ⟨[], rfl, fun i l r a h => by cases h⟩
  | l :: ls, r :: rows, h, hs => by
    obtain ⟨as, e, k⟩ := arrs I ls rows (by simpa using h) fun i l r h1 h2 => hs (i + 1) l r h1 h2
    obtain ⟨its, rv, pl, _⟩ := I.list (hs 0 l r rfl rfl)
    refine ⟨its.toArray :: as, by simp [e], fun i l2 r2 a h1 h2 h3 => ?_⟩
    cases i with
    | zero =>
      cases h1
      cases h2
      cases h3
      exact ⟨pl.isList, by simpa using rv⟩
    | succ i => exact k i l2 r2 a h1 h2 h3
theorem vals_refs : ∀ (ls : List Addr) (us : List Value), Vals (ls.map V.ref) us → us = ls.map Value.ref
  | [], us, h => by
    cases h
    rfl
  | l :: ls, us, h => by
    cases h with
    | cons h1 h2 =>
      have e1 : _ = Value.ref l := h1
      rw [e1, vals_refs ls _ h2]
      rfl
theorem vals_of : ∀ (xs : List V) (us : List Value), xs.length = us.length → (∀ (i : Nat) (x : V) (u : Value), xs[i]? = some x → us[i]? = some u → RelV x u) → Vals xs us
  | [], [], _, _ => .nil
  | x :: xs, u :: us, h, k => .cons (k 0 x u rfl rfl) (vals_of xs us (by simpa using h) fun i y v h1 h2 => k (i + 1) y v h1 h2)
theorem vals_get {r : List V} {us : List Value} (h : Vals r us) : ∀ (k : Nat) (x : V), r[k]? = some x → ∃ u, us[k]? = some u ∧ RelV x u := by
  induction h with
  | nil =>
    intro k x e
    cases e
  | cons h1 h2 ih =>
    intro k x e
    cases k with
    | zero =>
      cases e
      exact ⟨_, rfl, h1⟩
    | succ k => exact ih k x e
def tZipS (K : PySem.W.Frag) (te : TE) : TE := fun σ H Q => te σ H fun x H1 => ∃ (a : Addr) (ls : List Addr) (rows : List (List V)) (m : Nat), x = .ref a ∧ SqL K H1 a (ls.map V.ref) ∧ rows.length = ls.length ∧ (∀ (i : Nat) (l : Addr) (r : List V), ls[i]? = some l → rows[i]? = some r → SqL K H1 l r) ∧ (∀ r ∈ rows, r.length = m) ∧
  ls ≠ [] ∧ ls.length ≤ 8 ∧ 1 ≤ m ∧ m ≤ 64 ∧ ∀ (p : Addr) (Ts : List Addr) (H2 : Hp), (∀ b o, H1 b = some o → H2 b = some o) → H1 p = none → H2 p = some (.lst (Ts.map V.ref)) → Ts.length = m → (∀ (j : Nat) (T : Addr), Ts[j]? = some T → H1 T = none ∧ H2 T = some (.tup (rows.map fun r => r.getD j .non))) → Q (.ref p) H2
/-- H with new objects -/
def putAll (H : Hp) (p : Addr) (o : HO) (ks : List (Addr × HO)) : Hp := fun b => if b = p then some o else match ks.lookup b with | some u => some u | none => H b
theorem lookup_zip : ∀ (Ts : List Addr) (os : List HO) (j : Nat) (T : Addr) (o : HO), Ts.Nodup → Ts[j]? = some T → os[j]? = some o → (Ts.zip os).lookup T = some o
  | t :: Ts, u :: os, 0, T, o, nd, h1, h2 => by
    cases h1
    cases h2
    simp
  | t :: Ts, u :: os, j + 1, T, o, nd, h1, h2 => by
    have ne : T ≠ t := fun z => (List.nodup_cons.mp nd).1 (z ▸ List.mem_of_getElem? h1)
    show (match T == t with | true => some u | false => (Ts.zip os).lookup T) = some o
    rw [beq_eq_false_iff_ne.mpr ne]
    exact lookup_zip Ts os j T o (List.nodup_cons.mp nd).2 h1 h2
theorem lookup_in : ∀ (Ts : List Addr) (os : List HO) (b : Addr) (o : HO), (Ts.zip os).lookup b = some o → ∃ j : Nat, Ts[j]? = some b ∧ os[j]? = some o
  | [], _, b, o, h => by simp at h
  | _ :: _, [], b, o, h => by simp at h
  | t :: Ts, u :: os, b, o, h => by
    have h : (match b == t with | true => some u | false => (Ts.zip os).lookup b) = some o := h
    cases e : b == t with
    | true =>
      rw [e] at h
      cases h
      exact ⟨0, by rw [eq_of_beq e]; rfl, rfl⟩
    | false =>
      rw [e] at h
      obtain ⟨j, h1, h2⟩ := lookup_in Ts os b o h
      exact ⟨j + 1, h1, h2⟩
section
variable {X : Cx} {e : Expr} {te : TE} {p1 p2 p3 p4 p5 : Pos}
set_option maxHeartbeats 6400000 in
theorem pe_listZip (hc : X.calm = true) (hgl : Gl X "list") (hml : X.mg "list" = none) (hgz : Gl X "zip") (hmz : X.mg "zip" = none) (he : PE X e te)
    (h1 : starEach [.Call (.Name "zip" p2) [.Starred e p3] [] p4] X.env = [(false, eval (.Call (.Name "zip" p2) [.Starred e p3] [] p4) X.env)] := by rfl) (h2 : starEach [.Starred e p3] X.env = [(true, eval e X.env)] := by rfl) :
    PE X (.Call (.Name "list" p1) [.Call (.Name "zip" p2) [.Starred e p3] [] p4] [] p5) (tZipS X.K te) := by
  refine ⟨fun pins s σ H Q I h => ?_⟩
  refine wpAny_Call_Name_kw (ld_blt I hgl hml (u := .type "list") (by decide +kernel) ?_)
  refine PyProof.Rows.callWith_type1 ?_ h1 rfl
  rw [h1]
  show wpAny _ _ (spliced ((false, eval (.Call (.Name "zip" p2) [.Starred e p3] [] p4) X.env) :: backTo p5 (starEach [] X.env))) _ _ s
  refine Calls.spliced_cons ?_
  refine wpAny_Call_Name_kw (ld_blt I hgz hmz (u := .type "zip") (by decide +kernel) ?_)
  rw [h2]
  refine PySem.W.ks_call (P := fun _ => True) rfl (fun _ _ => ⟨.machine, .inr (.inl rfl), PySem.W.Looks.of_pure rfl⟩) (PySem.W.ks_lone ?_)
  refine thn (he.run pins s σ H _ I h) fun v s1 hv => ?_
  obtain ⟨y, H1, I1, ry, a, ls, rows, m, ey, hx, rl, rs, rm, n0, n8, m1, m64, q⟩ := hv
  subst ey
  obtain rfl : v = Value.ref a := ry
  refine StX.star_any I1 (.inr hx) fun us s2 I2 rv => ⟨True.intro, ?_⟩
  rw [vals_refs ls us rv]
  show wpAny _ _ (call (.type "zip") (ls.map Value.ref)) _ _ s2
  obtain ⟨as, al, ai⟩ := arrs I2 ls rows rl rs
  have rat : ∀ (i : Nat) (l : Addr), ls[i]? = some l → ∃ r a, rows[i]? = some r ∧ as[i]? = some a := fun i l hl => by
    have hi := (List.getElem?_eq_some_iff.mp hl).1
    exact ⟨_, _, List.getElem?_eq_getElem (by omega), List.getElem?_eq_getElem (by omega)⟩
  refine call_zip n0 n8 (fun l hl => ?_) fun h' zz zI zO it sz k => ?_
  · obtain ⟨i, hi, e⟩ := List.getElem_of_mem hl
    obtain ⟨r, a2, hr, ha⟩ := rat i l (by rw [List.getElem?_eq_getElem hi, e])
    exact ⟨_, (ai i l r a2 (by rw [List.getElem?_eq_getElem hi, e]) hr ha).1⟩
  -- the list of it
  refine PyProof.Rows.spliced_none ?_
  have hq : ∀ (i : Nat) (q : Rw), (mkq s2.heap.objs.size ls as)[i]? = some q → @Eq Nat q.1 (s2.heap.objs.size + i) ∧ ls[i]? = some q.2.1 ∧ as[i]? = some q.2.2 := mkq_at _ ls as
  have low : ∀ l ∈ ls, l < s2.heap.objs.size := fun l hl => by
    obtain ⟨i, hi, e⟩ := List.getElem_of_mem hl
    have e2 : ls[i]? = some l := by rw [List.getElem?_eq_getElem hi, e]
    obtain ⟨r, a2, hr, ha⟩ := rat i l e2
    obtain ⟨o, ho, _⟩ := (ai i l r a2 e2 hr ha).1
    exact Heap.lt_size ho
  have qm : ∀ q ∈ mkq s2.heap.objs.size ls as, ∃ i : Nat, i < ls.length ∧ @Eq Nat q.1 (s2.heap.objs.size + i) ∧ @LT.lt Nat _ q.2.1 s2.heap.objs.size := fun q mq => by
    obtain ⟨i, hi, e⟩ := List.getElem_of_mem mq
    obtain ⟨e1, e2, e3⟩ := hq i q (by rw [List.getElem?_eq_getElem hi, e])
    exact ⟨i, (List.getElem?_eq_some_iff.mp e2).1, e1, low _ (List.mem_of_getElem? e2)⟩
  have Ap : Apart (s2.heap.objs.size + ls.length + 2) (s2.heap.objs.size + ls.length) (s2.heap.objs.size + ls.length + 1) (mkq s2.heap.objs.size ls as) := by
    refine ⟨by change @Ne Nat _ _; omega, by change @Ne Nat _ _; omega, by change @Ne Nat _ _; omega, fun q mq => ?_, fun q mq => ?_, fun i j p q hp hq2 ne => ?_, fun p mp q mq => ?_⟩
    · obtain ⟨i, i1, i2, i3⟩ := qm q mq
      refine ⟨?_, ?_, ?_⟩ <;> (change @Ne Nat _ _; omega)
    · obtain ⟨i, i1, i2, i3⟩ := qm q mq
      refine ⟨?_, ?_⟩ <;> (change @Ne Nat _ _; omega)
    · have a1 := (hq i p hp).1
      have a2 := (hq j q hq2).1
      change @Ne Nat _ _
      omega
    · obtain ⟨i, i1, i2, i3⟩ := qm p mp
      obtain ⟨j, j1, j2, j3⟩ := qm q mq
      change @Ne Nat _ _
      omega
  have vk : ∀ (i : Nat) (l : Addr) (r : List V) (a : Array Value), ls[i]? = some l → rows[i]? = some r → as[i]? = some a → Vals r a.toList ∧ a.size = m := fun i l r a2 x1 x2 x3 => by
    obtain ⟨_, v⟩ := ai i l r a2 x1 x2 x3
    refine ⟨v, ?_⟩
    have := v.length
    rw [rm r (List.mem_of_getElem? x2)] at this
    simpa using this.symm
  have asz : ∀ (i : Nat) (a : Array Value), as[i]? = some a → a.size = m := fun i a2 x3 => by
    have hi := (List.getElem?_eq_some_iff.mp x3).1
    exact (vk i _ _ a2 (List.getElem?_eq_getElem (by omega)) (List.getElem?_eq_getElem (by omega)) x3).2
  have T : Tab (mkq s2.heap.objs.size ls as) ((List.range m).map fun k => as.map fun a => a.getD k .none) := by
    refine ⟨fun z => ?_, ?_, by simp; exact m64, fun i xs hx => ?_, ?_⟩
    · have := mkq_len s2.heap.objs.size ls as al
      rw [z] at this
      exact n0 (List.length_eq_zero_iff.mp this.symm)
    · rw [mkq_len _ _ _ al]
      omega
    · rw [List.getElem?_map] at hx
      obtain ⟨k2, hk2, rfl⟩ := Option.map_eq_some_iff.mp hx
      have hk : i < m := by
        have := (List.getElem?_eq_some_iff.mp hk2).1
        simpa using this
      rw [List.getElem?_range hk] at hk2
      cases hk2
      refine ⟨by rw [List.length_map, mkq_len _ _ _ al, al], fun j q x hj hx => ?_⟩
      obtain ⟨_, _, e3⟩ := hq j q hj
      rw [List.getElem?_map, e3] at hx
      have := Option.some.inj hx
      have sz2 := asz j _ e3
      rw [← this]
      simp [Array.getD, sz2, hk]
    · have l0 : 0 < (mkq s2.heap.objs.size ls as).length := by
        rw [mkq_len _ _ _ al]
        exact List.length_pos_iff.mpr n0
      refine ⟨0, _, List.getElem?_eq_getElem l0, ?_, fun i p hi => absurd hi (Nat.not_lt_zero i)⟩
      obtain ⟨_, _, e3⟩ := hq 0 _ (List.getElem?_eq_getElem l0)
      have := asz 0 _ e3
      simp [this]
  have R0 : Rws h' (mkq s2.heap.objs.size ls as) 0 0 := fun i q hi => by
    obtain ⟨e1, e2, e3⟩ := hq i q hi
    obtain ⟨r, a2, hr, ha⟩ := rat i _ e2
    rw [if_neg (Nat.not_lt_zero i), e1]
    refine ⟨it i _ e2, ?_⟩
    rw [ha] at e3
    cases e3
    obtain ⟨o, ho, hh⟩ := (ai i _ r _ e2 hr ha).1
    exact ⟨o, k _ _ ho, hh⟩
  refine call_list (s := { s2 with heap := h' }) (I2.ok.hd hc) Ap T zz ?_ ?_ R0 fun h3 Ts c e1 e2 e3 e4 e5 e6 => ?_
  · obtain ⟨vs, v1, v2⟩ := zO
    exact ⟨vs, v1, by rw [v2, mkq_len _ _ _ al]⟩
  · rw [refs_mkq _ _ _ al]
    exact zI
  -- the tracked heap
  rw [List.length_map, List.length_range] at e2
  have hsz : h'.objs.size = s2.heap.objs.size + ls.length + 3 := sz
  have kk : ∀ b u, s2.heap.get? b = some u → h3.get? b = some u := fun b u eb => by
    have lt : @LT.lt Nat _ b s2.heap.objs.size := Heap.lt_size eb
    refine e6 b u ⟨by change @Ne Nat _ _; omega, by change @Ne Nat _ _; omega, fun q mq => ?_⟩ (k b u eb)
    obtain ⟨i, _, i2, _⟩ := qm q mq
    change @Ne Nat _ _
    omega
  have fresh : ∀ b, s2.heap.objs.size ≤ b → H1 b = none := fun b hb => I2.hok.fresh hb
  have nS : h'.objs.size ∉ Ts := fun z => Nat.lt_irrefl _ (e4 _ z)
  have in3 : ∀ (j : Nat) (T : Addr), Ts[j]? = some T → ∃ hj : j < m, TupAt h3 T (as.map fun a => a.getD j .none).toArray := fun j T hT => by
    have hj : j < m := by
      have := (List.getElem?_eq_some_iff.mp hT).1
      omega
    refine ⟨hj, e3 j T _ hT ?_⟩
    rw [List.getElem?_map, List.getElem?_range hj]
    rfl
  have vcol : ∀ j, j < m → Vals (rows.map fun r => r.getD j .non) (as.map fun a => a.getD j .none) := fun j hj => by
    refine vals_of _ _ (by rw [List.length_map, List.length_map, rl, al]) fun i x u hx hu => ?_
    rw [List.getElem?_map] at hx hu
    obtain ⟨r, hr, rfl⟩ := Option.map_eq_some_iff.mp hx
    obtain ⟨a2, ha, rfl⟩ := Option.map_eq_some_iff.mp hu
    have hi := (List.getElem?_eq_some_iff.mp hr).1
    obtain ⟨v, sz2⟩ := vk i _ r a2 (List.getElem?_eq_getElem (by omega)) hr ha
    have hl := rm r (List.mem_of_getElem? hr)
    obtain ⟨u, hu2, ru⟩ := vals_get v j r[j] (List.getElem?_eq_getElem (by omega))
    have g1 : r.getD j .non = r[j] := by simp [List.getD, show j < r.length by omega]
    have g2 : a2.getD j .none = u := by
      rw [Array.getElem?_toList] at hu2
      simp [Array.getD, show j < a2.size by omega]
      rw [Array.getElem?_eq_getElem (by omega)] at hu2
      exact Option.some.inj hu2
    rw [g1, g2]
    exact ru
  refine ⟨.ref h'.objs.size, putAll H1 h'.objs.size (.lst (Ts.map V.ref)) (Ts.zip ((List.range m).map fun j => HO.tup (rows.map fun r => r.getD j .non))), ?_, rfl, ?_⟩
  · have base : ∀ b o, H1 b = none → putAll H1 h'.objs.size (.lst (Ts.map V.ref)) (Ts.zip ((List.range m).map fun j => HO.tup (rows.map fun r => r.getD j .non))) b = some o → (b = h'.objs.size ∧ o = .lst (Ts.map V.ref)) ∨ ∃ j, j < m ∧ Ts[j]? = some b ∧ o = .tup (rows.map fun r => r.getD j .non) := fun b o hb e => by
      unfold putAll at e
      by_cases eb : b = h'.objs.size
      · rw [if_pos eb] at e
        exact .inl ⟨eb, (Option.some.inj e).symm⟩
      · rw [if_neg eb] at e
        cases lk : (Ts.zip ((List.range m).map fun j => HO.tup (rows.map fun r => r.getD j .non))).lookup b with
        | none =>
          rw [lk, hb] at e
          cases e
        | some u =>
          rw [lk] at e
          obtain ⟨j, j1, j2⟩ := lookup_in _ _ _ _ lk
          rw [List.getElem?_map] at j2
          obtain ⟨k2, hk2, rfl⟩ := Option.map_eq_some_iff.mp j2
          have hj : j < m := by
            have := (List.getElem?_eq_some_iff.mp hk2).1
            simpa using this
          rw [List.getElem?_range hj] at hk2
          cases hk2
          exact .inr ⟨j, hj, j1, (Option.some.inj e).symm⟩
    refine laidAll (s := s2) (h' := h3) I2 kk (fun b o eb => ?_) (fun b o hb e => ?_) fun b o hb e => ?_
    · unfold putAll
      have lt : b < s2.heap.objs.size := Nat.lt_of_not_le fun z => by
        rw [fresh b z] at eb
        cases eb
      rw [if_neg (show ¬ b = h'.objs.size from fun z => by have z : @Eq Nat b h'.objs.size := z; have lt : @LT.lt Nat _ b s2.heap.objs.size := lt; omega)]
      cases lk : (Ts.zip ((List.range m).map fun j => HO.tup (rows.map fun r => r.getD j .non))).lookup b with
      | none => exact eb
      | some u =>
        obtain ⟨j, j1, _⟩ := lookup_in _ _ _ _ lk
        have g4 : @LT.lt Nat _ h'.objs.size b := e4 b (List.mem_of_getElem? j1)
        have lt : @LT.lt Nat _ b s2.heap.objs.size := lt
        omega
    · rcases base b o hb e with ⟨z, _⟩ | ⟨j, _, z, _⟩
      · have z : @Eq Nat b h'.objs.size := z
        show @LE.le Nat _ _ _
        omega
      · have g4 : @LT.lt Nat _ h'.objs.size b := e4 b (List.mem_of_getElem? z)
        show @LE.le Nat _ _ _
        omega
    · rcases base b o hb e with ⟨z, zo⟩ | ⟨j, hj, z, zo⟩
      · rw [z, zo]
        refine ⟨?_, Ts.map Value.ref, c, ?_, e1⟩
        · rw [List.length_map, e2]
          exact Nat.le_trans m64 (by decide)
        · refine vals_of _ _ (by rw [List.length_map, List.length_map]) fun i x u hx hu => ?_
          rw [List.getElem?_map] at hx hu
          obtain ⟨t1, ht1, rfl⟩ := Option.map_eq_some_iff.mp hx
          obtain ⟨t2, ht2, rfl⟩ := Option.map_eq_some_iff.mp hu
          rw [ht1] at ht2
          cases ht2
          exact rfl
      · rw [zo]
        obtain ⟨_, tt⟩ := in3 j b z
        refine ⟨?_, as.map fun a => a.getD j .none, vcol j hj, ⟨_, tt, rfl, _, rfl⟩⟩
        rw [List.length_map, rl]
        exact Nat.le_trans n8 (by decide)
  · refine q _ Ts _ (fun b o eb => ?_) (fresh _ (by omega)) (by unfold putAll; rw [if_pos rfl]) e2 fun j T hT => ?_
    · unfold putAll
      have lt : b < s2.heap.objs.size := Nat.lt_of_not_le fun z => by
        rw [fresh b z] at eb
        cases eb
      rw [if_neg (show ¬ b = h'.objs.size from fun z => by have z : @Eq Nat b h'.objs.size := z; have lt : @LT.lt Nat _ b s2.heap.objs.size := lt; omega)]
      cases lk : (Ts.zip ((List.range m).map fun j => HO.tup (rows.map fun r => r.getD j .non))).lookup b with
      | none => exact eb
      | some u =>
        obtain ⟨j, j1, _⟩ := lookup_in _ _ _ _ lk
        have g4 : @LT.lt Nat _ h'.objs.size b := e4 b (List.mem_of_getElem? j1)
        have lt : @LT.lt Nat _ b s2.heap.objs.size := lt
        omega
    · have lt : @LT.lt Nat _ h'.objs.size T := e4 T (List.mem_of_getElem? hT)
      obtain ⟨hj, _⟩ := in3 j T hT
      refine ⟨fresh _ (by omega), ?_⟩
      unfold putAll
      rw [if_neg (show ¬ T = h'.objs.size from fun z => by have z : @Eq Nat T h'.objs.size := z; omega), lookup_zip Ts _ j T (.tup (rows.map fun r => r.getD j .non)) e5 hT (by rw [List.getElem?_map, List.getElem?_range hj]; rfl)]
end
end ZN
set_option Elab.async false
set_option linter.all false
set_option maxRecDepth 100000
/-! list(zip(a, b, ..)) of lists of any lengths -/
namespace ZN
open PySem PySem.Spec PyProof.Rows L2
def EndR (rows : List (List V)) (m : Nat) : Prop := ∃ (j : Nat) (r : List V), rows[j]? = some r ∧ r.length = m ∧ ∀ (i : Nat) (r' : List V), i < j → rows[i]? = some r' → m < r'.length
def tZipA (K : PySem.W.Frag) (t : TA) : TE := fun σ H Q => t σ H fun vs H1 => ∃ (ls : List Addr) (rows : List (List V)) (m : Nat), vs = ls.map V.ref ∧ rows.length = ls.length ∧ (∀ (i : Nat) (l : Addr) (r : List V), ls[i]? = some l → rows[i]? = some r → SqL K H1 l r) ∧ (∀ r ∈ rows, m ≤ r.length) ∧ EndR rows m ∧
  ls ≠ [] ∧ ls.length ≤ 8 ∧ m ≤ 64 ∧ ∀ (p : Addr) (Ts : List Addr) (H2 : Hp), (∀ b o, H1 b = some o → H2 b = some o) → H1 p = none → H2 p = some (.lst (Ts.map V.ref)) → Ts.length = m → (∀ (j : Nat) (T : Addr), Ts[j]? = some T → H1 T = none ∧ H2 T = some (.tup (rows.map fun r => r.getD j .non))) → Q (.ref p) H2
section
variable {X : Cx} {e : Expr} {es : List Expr} {t : TA} {p1 p2 p4 p5 : Pos}
set_option maxHeartbeats 6400000 in
theorem pe_listZipA (hc : X.calm = true) (hgl : Gl X "list") (hml : X.mg "list" = none) (hgz : Gl X "zip") (hmz : X.mg "zip" = none) (ha : PA X (e :: es) t)
    (h1 : starEach [.Call (.Name "zip" p2) (e :: es) [] p4] X.env = [(false, eval (.Call (.Name "zip" p2) (e :: es) [] p4) X.env)] := by rfl) (h2 : starEach (e :: es) X.env = (false, eval e X.env) :: starEach es X.env := by rfl) (hpl : (backTo p4 (starEach es X.env)).any (·.1) = false := by rfl) :
    PE X (.Call (.Name "list" p1) [.Call (.Name "zip" p2) (e :: es) [] p4] [] p5) (tZipA X.K t) := by
  refine ⟨fun pins s σ H Q I h => ?_⟩
  refine wpAny_Call_Name_kw (ld_blt I hgl hml (u := .type "list") (by decide +kernel) ?_)
  refine PyProof.Rows.callWith_type1 ?_ h1 rfl
  rw [h1]
  show wpAny _ _ (spliced ((false, eval (.Call (.Name "zip" p2) (e :: es) [] p4) X.env) :: backTo p5 (starEach [] X.env))) _ _ s
  refine Calls.spliced_cons ?_
  refine wpAny_Call_Name_kw (ld_blt I hgz hmz (u := .type "zip") (by decide +kernel) ?_)
  refine PyProof.Rows.callWith_type1 (thn (ha.run p4 pins s σ H _ I h) fun us s2 hv => ?_) h2 hpl
  obtain ⟨vs, H1, I2, rv, ls, rows, m, ev, rl, rs, rm, er, n0, n8, m64, q⟩ := hv
  subst ev
  rw [vals_refs ls us rv]
  show wpAny _ _ (call (.type "zip") (ls.map Value.ref)) _ _ s2
  obtain ⟨as, al, ai⟩ := arrs I2 ls rows rl rs
  have rat : ∀ (i : Nat) (l : Addr), ls[i]? = some l → ∃ r a, rows[i]? = some r ∧ as[i]? = some a := fun i l hl => by
    have hi := (List.getElem?_eq_some_iff.mp hl).1
    exact ⟨_, _, List.getElem?_eq_getElem (by omega), List.getElem?_eq_getElem (by omega)⟩
  refine call_zip n0 n8 (fun l hl => ?_) fun h' zz zI zO it sz k => ?_
  · obtain ⟨i, hi, e⟩ := List.getElem_of_mem hl
    obtain ⟨r, a2, hr, ha⟩ := rat i l (by rw [List.getElem?_eq_getElem hi, e])
    exact ⟨_, (ai i l r a2 (by rw [List.getElem?_eq_getElem hi, e]) hr ha).1⟩
  -- the list of it
  refine PyProof.Rows.spliced_none ?_
  have hq : ∀ (i : Nat) (q : Rw), (mkq s2.heap.objs.size ls as)[i]? = some q → @Eq Nat q.1 (s2.heap.objs.size + i) ∧ ls[i]? = some q.2.1 ∧ as[i]? = some q.2.2 := mkq_at _ ls as
  have low : ∀ l ∈ ls, l < s2.heap.objs.size := fun l hl => by
    obtain ⟨i, hi, e⟩ := List.getElem_of_mem hl
    have e2 : ls[i]? = some l := by rw [List.getElem?_eq_getElem hi, e]
    obtain ⟨r, a2, hr, ha⟩ := rat i l e2
    obtain ⟨o, ho, _⟩ := (ai i l r a2 e2 hr ha).1
    exact Heap.lt_size ho
  have qm : ∀ q ∈ mkq s2.heap.objs.size ls as, ∃ i : Nat, i < ls.length ∧ @Eq Nat q.1 (s2.heap.objs.size + i) ∧ @LT.lt Nat _ q.2.1 s2.heap.objs.size := fun q mq => by
    obtain ⟨i, hi, e⟩ := List.getElem_of_mem mq
    obtain ⟨e1, e2, e3⟩ := hq i q (by rw [List.getElem?_eq_getElem hi, e])
    exact ⟨i, (List.getElem?_eq_some_iff.mp e2).1, e1, low _ (List.mem_of_getElem? e2)⟩
  have Ap : Apart (s2.heap.objs.size + ls.length + 2) (s2.heap.objs.size + ls.length) (s2.heap.objs.size + ls.length + 1) (mkq s2.heap.objs.size ls as) := by
    refine ⟨by change @Ne Nat _ _; omega, by change @Ne Nat _ _; omega, by change @Ne Nat _ _; omega, fun q mq => ?_, fun q mq => ?_, fun i j p q hp hq2 ne => ?_, fun p mp q mq => ?_⟩
    · obtain ⟨i, i1, i2, i3⟩ := qm q mq
      refine ⟨?_, ?_, ?_⟩ <;> (change @Ne Nat _ _; omega)
    · obtain ⟨i, i1, i2, i3⟩ := qm q mq
      refine ⟨?_, ?_⟩ <;> (change @Ne Nat _ _; omega)
    · have a1 := (hq i p hp).1
      have a2 := (hq j q hq2).1
      change @Ne Nat _ _
      omega
    · obtain ⟨i, i1, i2, i3⟩ := qm p mp
      obtain ⟨j, j1, j2, j3⟩ := qm q mq
      change @Ne Nat _ _
      omega
  have vk : ∀ (i : Nat) (l : Addr) (r : List V) (a : Array Value), ls[i]? = some l → rows[i]? = some r → as[i]? = some a → Vals r a.toList ∧ a.size = r.length := fun i l r a2 x1 x2 x3 => by
    obtain ⟨_, v⟩ := ai i l r a2 x1 x2 x3
    refine ⟨v, ?_⟩
    have := v.length
    simpa using this.symm
  have asz : ∀ (i : Nat) (a : Array Value), as[i]? = some a → ∃ r, rows[i]? = some r ∧ a.size = r.length := fun i a2 x3 => by
    have hi := (List.getElem?_eq_some_iff.mp x3).1
    exact ⟨_, List.getElem?_eq_getElem (by omega), (vk i _ _ a2 (List.getElem?_eq_getElem (by omega)) (List.getElem?_eq_getElem (by omega)) x3).2⟩
  have T : Tab (mkq s2.heap.objs.size ls as) ((List.range m).map fun k => as.map fun a => a.getD k .none) := by
    refine ⟨fun z => ?_, ?_, by simp; exact m64, fun i xs hx => ?_, ?_⟩
    · have := mkq_len s2.heap.objs.size ls as al
      rw [z] at this
      exact n0 (List.length_eq_zero_iff.mp this.symm)
    · rw [mkq_len _ _ _ al]
      omega
    · rw [List.getElem?_map] at hx
      obtain ⟨k2, hk2, rfl⟩ := Option.map_eq_some_iff.mp hx
      have hk : i < m := by
        have := (List.getElem?_eq_some_iff.mp hk2).1
        simpa using this
      rw [List.getElem?_range hk] at hk2
      cases hk2
      refine ⟨by rw [List.length_map, mkq_len _ _ _ al, al], fun j q x hj hx => ?_⟩
      obtain ⟨_, _, e3⟩ := hq j q hj
      rw [List.getElem?_map, e3] at hx
      have := Option.some.inj hx
      obtain ⟨r9, hr9, sz2⟩ := asz j _ e3
      have l9 := rm r9 (List.mem_of_getElem? hr9)
      rw [← this]
      simp [Array.getD, sz2, show i < r9.length by omega]
    · obtain ⟨j, r, hr, rlen, ahead⟩ := er
      have jl := (List.getElem?_eq_some_iff.mp hr).1
      have lj : j < (mkq s2.heap.objs.size ls as).length := by
        rw [mkq_len _ _ _ al]
        omega
      refine ⟨j, _, List.getElem?_eq_getElem lj, ?_, fun i p hi hp => ?_⟩
      · obtain ⟨_, _, e3⟩ := hq j _ (List.getElem?_eq_getElem lj)
        obtain ⟨r9, hr9, sz2⟩ := asz j _ e3
        rw [hr] at hr9
        cases hr9
        simp [sz2, rlen]
      · obtain ⟨_, _, e3⟩ := hq i p hp
        obtain ⟨r9, hr9, sz2⟩ := asz i _ e3
        have := ahead i r9 hi hr9
        exact ⟨_, Array.getElem?_eq_getElem (by simp; omega)⟩
  have R0 : Rws h' (mkq s2.heap.objs.size ls as) 0 0 := fun i q hi => by
    obtain ⟨e1, e2, e3⟩ := hq i q hi
    obtain ⟨r, a2, hr, ha⟩ := rat i _ e2
    rw [if_neg (Nat.not_lt_zero i), e1]
    refine ⟨it i _ e2, ?_⟩
    rw [ha] at e3
    cases e3
    obtain ⟨o, ho, hh⟩ := (ai i _ r _ e2 hr ha).1
    exact ⟨o, k _ _ ho, hh⟩
  refine call_list (s := { s2 with heap := h' }) (I2.ok.hd hc) Ap T zz ?_ ?_ R0 fun h3 Ts c e1 e2 e3 e4 e5 e6 => ?_
  · obtain ⟨vs, v1, v2⟩ := zO
    exact ⟨vs, v1, by rw [v2, mkq_len _ _ _ al]⟩
  · rw [refs_mkq _ _ _ al]
    exact zI
  -- the tracked heap
  rw [List.length_map, List.length_range] at e2
  have hsz : h'.objs.size = s2.heap.objs.size + ls.length + 3 := sz
  have kk : ∀ b u, s2.heap.get? b = some u → h3.get? b = some u := fun b u eb => by
    have lt : @LT.lt Nat _ b s2.heap.objs.size := Heap.lt_size eb
    refine e6 b u ⟨by change @Ne Nat _ _; omega, by change @Ne Nat _ _; omega, fun q mq => ?_⟩ (k b u eb)
    obtain ⟨i, _, i2, _⟩ := qm q mq
    change @Ne Nat _ _
    omega
  have fresh : ∀ b, s2.heap.objs.size ≤ b → H1 b = none := fun b hb => I2.hok.fresh hb
  have nS : h'.objs.size ∉ Ts := fun z => Nat.lt_irrefl _ (e4 _ z)
  have in3 : ∀ (j : Nat) (T : Addr), Ts[j]? = some T → ∃ hj : j < m, TupAt h3 T (as.map fun a => a.getD j .none).toArray := fun j T hT => by
    have hj : j < m := by
      have := (List.getElem?_eq_some_iff.mp hT).1
      omega
    refine ⟨hj, e3 j T _ hT ?_⟩
    rw [List.getElem?_map, List.getElem?_range hj]
    rfl
  have vcol : ∀ j, j < m → Vals (rows.map fun r => r.getD j .non) (as.map fun a => a.getD j .none) := fun j hj => by
    refine vals_of _ _ (by rw [List.length_map, List.length_map, rl, al]) fun i x u hx hu => ?_
    rw [List.getElem?_map] at hx hu
    obtain ⟨r, hr, rfl⟩ := Option.map_eq_some_iff.mp hx
    obtain ⟨a2, ha, rfl⟩ := Option.map_eq_some_iff.mp hu
    have hi := (List.getElem?_eq_some_iff.mp hr).1
    obtain ⟨v, sz2⟩ := vk i _ r a2 (List.getElem?_eq_getElem (by omega)) hr ha
    have hl := rm r (List.mem_of_getElem? hr)
    have sz2 : j < a2.size := by omega
    obtain ⟨u, hu2, ru⟩ := vals_get v j r[j] (List.getElem?_eq_getElem (by omega))
    have g1 : r.getD j .non = r[j] := by simp [List.getD, show j < r.length by omega]
    have g2 : a2.getD j .none = u := by
      rw [Array.getElem?_toList] at hu2
      simp [Array.getD, show j < a2.size by omega]
      rw [Array.getElem?_eq_getElem (by omega)] at hu2
      exact Option.some.inj hu2
    rw [g1, g2]
    exact ru
  refine ⟨.ref h'.objs.size, putAll H1 h'.objs.size (.lst (Ts.map V.ref)) (Ts.zip ((List.range m).map fun j => HO.tup (rows.map fun r => r.getD j .non))), ?_, rfl, ?_⟩
  · have base : ∀ b o, H1 b = none → putAll H1 h'.objs.size (.lst (Ts.map V.ref)) (Ts.zip ((List.range m).map fun j => HO.tup (rows.map fun r => r.getD j .non))) b = some o → (b = h'.objs.size ∧ o = .lst (Ts.map V.ref)) ∨ ∃ j, j < m ∧ Ts[j]? = some b ∧ o = .tup (rows.map fun r => r.getD j .non) := fun b o hb e => by
      unfold putAll at e
      by_cases eb : b = h'.objs.size
      · rw [if_pos eb] at e
        exact .inl ⟨eb, (Option.some.inj e).symm⟩
      · rw [if_neg eb] at e
        cases lk : (Ts.zip ((List.range m).map fun j => HO.tup (rows.map fun r => r.getD j .non))).lookup b with
        | none =>
          rw [lk, hb] at e
          cases e
        | some u =>
          rw [lk] at e
          obtain ⟨j, j1, j2⟩ := lookup_in _ _ _ _ lk
          rw [List.getElem?_map] at j2
          obtain ⟨k2, hk2, rfl⟩ := Option.map_eq_some_iff.mp j2
          have hj : j < m := by
            have := (List.getElem?_eq_some_iff.mp hk2).1
            simpa using this
          rw [List.getElem?_range hj] at hk2
          cases hk2
          exact .inr ⟨j, hj, j1, (Option.some.inj e).symm⟩
    refine laidAll (s := s2) (h' := h3) I2 kk (fun b o eb => ?_) (fun b o hb e => ?_) fun b o hb e => ?_
    · unfold putAll
      have lt : b < s2.heap.objs.size := Nat.lt_of_not_le fun z => by
        rw [fresh b z] at eb
        cases eb
      rw [if_neg (show ¬ b = h'.objs.size from fun z => by have z : @Eq Nat b h'.objs.size := z; have lt : @LT.lt Nat _ b s2.heap.objs.size := lt; omega)]
      cases lk : (Ts.zip ((List.range m).map fun j => HO.tup (rows.map fun r => r.getD j .non))).lookup b with
      | none => exact eb
      | some u =>
        obtain ⟨j, j1, _⟩ := lookup_in _ _ _ _ lk
        have g4 : @LT.lt Nat _ h'.objs.size b := e4 b (List.mem_of_getElem? j1)
        have lt : @LT.lt Nat _ b s2.heap.objs.size := lt
        omega
    · rcases base b o hb e with ⟨z, _⟩ | ⟨j, _, z, _⟩
      · have z : @Eq Nat b h'.objs.size := z
        show @LE.le Nat _ _ _
        omega
      · have g4 : @LT.lt Nat _ h'.objs.size b := e4 b (List.mem_of_getElem? z)
        show @LE.le Nat _ _ _
        omega
    · rcases base b o hb e with ⟨z, zo⟩ | ⟨j, hj, z, zo⟩
      · rw [z, zo]
        refine ⟨?_, Ts.map Value.ref, c, ?_, e1⟩
        · rw [List.length_map, e2]
          exact Nat.le_trans m64 (by decide)
        · refine vals_of _ _ (by rw [List.length_map, List.length_map]) fun i x u hx hu => ?_
          rw [List.getElem?_map] at hx hu
          obtain ⟨t1, ht1, rfl⟩ := Option.map_eq_some_iff.mp hx
          obtain ⟨t2, ht2, rfl⟩ := Option.map_eq_some_iff.mp hu
          rw [ht1] at ht2
          cases ht2
          exact rfl
      · rw [zo]
        obtain ⟨_, tt⟩ := in3 j b z
        refine ⟨?_, as.map fun a => a.getD j .none, vcol j hj, ⟨_, tt, rfl, _, rfl⟩⟩
        rw [List.length_map, rl]
        exact Nat.le_trans n8 (by decide)
  · refine q _ Ts _ (fun b o eb => ?_) (fresh _ (by omega)) (by unfold putAll; rw [if_pos rfl]) e2 fun j T hT => ?_
    · unfold putAll
      have lt : b < s2.heap.objs.size := Nat.lt_of_not_le fun z => by
        rw [fresh b z] at eb
        cases eb
      rw [if_neg (show ¬ b = h'.objs.size from fun z => by have z : @Eq Nat b h'.objs.size := z; have lt : @LT.lt Nat _ b s2.heap.objs.size := lt; omega)]
      cases lk : (Ts.zip ((List.range m).map fun j => HO.tup (rows.map fun r => r.getD j .non))).lookup b with
      | none => exact eb
      | some u =>
        obtain ⟨j, j1, _⟩ := lookup_in _ _ _ _ lk
        have g4 : @LT.lt Nat _ h'.objs.size b := e4 b (List.mem_of_getElem? j1)
        have lt : @LT.lt Nat _ b s2.heap.objs.size := lt
        omega
    · have lt : @LT.lt Nat _ h'.objs.size T := e4 T (List.mem_of_getElem? hT)
      obtain ⟨hj, _⟩ := in3 j T hT
      refine ⟨fresh _ (by omega), ?_⟩
      unfold putAll
      rw [if_neg (show ¬ T = h'.objs.size from fun z => by have z : @Eq Nat T h'.objs.size := z; omega), lookup_zip Ts _ j T (.tup (rows.map fun r => r.getD j .non)) e5 hT (by rw [List.getElem?_map, List.getElem?_range hj]; rfl)]
end
end ZN
set_option Elab.async false
set_option linter.all false
set_option maxRecDepth 100000
/-! pairs of states that can be merged -/
namespace Lw
open PySem L2
abbrev sMP : Stmt := top 52
abbrev NMP : List Str := ["graph", "counts", "columns", "one", "other"]
def spMP (C : Addr) : Sp := fun vs H Q _ => ∃ (g : Addr) (n : Nat) (ps : Ps), vs = [.ref g] ∧ Gok C H g n ps ∧ ∀ (D : Addr) (H' : Hp) (us : Es), Same H H' → H D = none → LsAt H' D us → psOf us = mrgs n ps → Q (.ref D) H'
theorem sh_col (xs : List Int) : SeqAt.shaped (.tuple (xs.map PyData.int)) = true := sh_ints xs
theorem eqv_tup (xs ys : List Int) : PyData.eqv (.tuple (xs.map PyData.int)) (.tuple (ys.map PyData.int)) = decide (xs = ys) := eqv_ints xs ys
section
variable {P : Program} {w : World} {K : PySem.W.Frag} {mg : Str → Option Value} {base : Heap} {f C CM : Addr} {mc : Value} {fd : FuncData} {k : Nat}
theorem scMP : FnScope NMP ["graph"] (defScope sMP) := ⟨rfl, rfl, rfl, by decide +kernel, rfl, by decide +kernel, by decide +kernel⟩
abbrev tPair : TE := tTup (tCons (tVar 3) (tCons (tVar 4) tNil))
abbrev tCols (K : PySem.W.Frag) : TT := tTest (tOp (rEqD K) (tOp (rIxL K) (tVar 2) (tVar 3)) (tOp (rIxL K) (tVar 2) (tVar 4)))
set_option maxHeartbeats 8000000 in
theorem ok_mp (F : Fun K "merge_pairs" "merge_pairs" sMP f fd) (T : Bi mg) (mC : C8.Met P w K mg base 1 C "counts" (spCounts C) []) (pS : Prp P w K mg base 1 C "states" (spStates C)) : FnOk P w K mg base CX0 (k + 3) f fd ["graph"] (spMP C) := by
  refine F.ok scMP (fun vs H Q E h => ?_) (fun cdv A outer s H vs Q E hr h => ?_)
  · obtain ⟨g, n, ps, rfl, _⟩ := h
    rfl
  · obtain ⟨g, n, ps, rfl, G, q⟩ := h
    obtain ⟨us, GA, eu⟩ := G.at_
    obtain ⟨⟨dg, t, h1, h2⟩, ed⟩ := id GA
    have n8 := G.n8
    have n1 := G.n1
    have l24 := G.l24
    refine ⟨_, pss_cons (ps_set (i := 1) scMP.nd rfl (.inl rfl) (C8.pe_mt0 mC hr (by omega) (pv 0)))
      (pss_cons (ps_set (i := 2) scMP.nd rfl (.inr rfl) (ZN.pe_listZip rfl (by rfl) T.list (by rfl) T.zip (pv 1)))
      (pss_one (ps_ret (pe_lc2 (own := [("one", 3), ("other", 4)]) (vs1 := [4]) (g := gName 3) (tt := tYes) (g1 := gName 4) (tt1 := tCols K) (te := tPair) (wi1 := iRng2 (tCons (tOp (rI0 fun i j => .int (i + j)) (tVar 3) (tC (.int 1))) (tCons (tProp C (spStates C) [] E0 (tVar 0)) tNil))) rfl scMP.nd (pi_range1 (by rfl) T.range (pa_cons (pe_pr pS hr (by omega) (pv 0)) pa_nil)) (blkOk_by (N := NMP) (sc := defScope sMP) (by decide +kernel)) (by decide)
        (fun _ _ _ _ _ => by exact pg_name (i := 3) scMP.nd rfl (Or.inl rfl)) (fun _ _ _ _ _ => pts_nil)
        (fun _ _ _ _ _ => by exact pi_range2 (by rfl) T.range (pa_cons (pe_op op_add (pv 3) pe_int) (pa_cons (pe_pr pS hr (by omega) (pv 0)) pa_nil)))
        (fun _ _ _ _ _ => by exact pg_name (i := 4) scMP.nd rfl (Or.inl rfl))
        (fun _ _ _ _ _ => by exact pts_one (pt_cmpR (op_eqD hr.units) (pe_ix ix_list (pv 2) (pv 3) (fun _ _ => rfl)) (pe_ix ix_list (pv 2) (pv 4) (fun _ _ => rfl)) (nomark _)))
        (fun _ _ _ _ _ => by exact pe_tup (pa_cons (pv 3) (pa_cons (pv 4) pa_nil))))))), ?_⟩
    refine ⟨_, rfl, g, dg, _, rfl, h1, look_no _ _ (by decide +kernel) (by decide +kernel), g, (n : Int), us, rfl, GA, by omega, by omega, by rw [← psL_len, eu]; omega, fun e he => G.va.rg e.2 (by rw [← eu]; exact List.mem_map.mpr ⟨e, he, rfl⟩), fun Tb rs H1 s1 np nr ca => ?_⟩
    rw [Int.toNat_natCast, eu] at ca
    refine ⟨_, rfl, Tb, rs, (List.range n).map fun i => cntRow ps n i, n, rfl, SqL.of ca.ls, by rw [List.length_map, List.length_range, ca.len], fun i l r hl hrr => ?_, fun r hrr => ?_, fun z => ?_, by rw [ca.len]; exact n8, n1, by omega, fun c Ts H2 s2 nc ec lT hT => ?_⟩
    · rw [List.getElem?_map] at hrr
      obtain ⟨i2, hi2, rfl⟩ := Option.map_eq_some_iff.mp hrr
      have hi : i < n := by
        have := (List.getElem?_eq_some_iff.mp hi2).1
        simpa using this
      rw [List.getElem?_range hi] at hi2
      cases hi2
      exact SqL.of (ca.row i l hl)
    · obtain ⟨i, _, rfl⟩ := List.mem_map.mp hrr
      exact cntRow_len ps n i
    · have := ca.len
      rw [z] at this
      simp at this
      omega
    have hT' : ∀ (j : Nat) (t : Addr), Ts[j]? = some t → H2 t = some (.tup ((colL n ps j).map V.int)) := fun j t e => by
      have hj : j < n := by
        have := (List.getElem?_eq_some_iff.mp e).1
        omega
      rw [(hT j t e).2, List.map_map]
      unfold colL
      rw [List.map_map]
      congr 2
      refine List.map_congr_left fun i hi => ?_
      show (cntRow ps n i).getD j .non = _
      simp [List.getD, cntRow_at ps hj]
    have s2 : Same H1 H2 := s2
    have s12 := s1.trans s2
    have hg2 := s12 _ _ h1
    refine ⟨_, rfl, g, dg, _, rfl, hg2, g, (n : Int), us, rfl, GA.same s12, (n : Int), rfl, by omega, by omega, fun D hD => ?_⟩
    have col : ∀ {H' : Hp} {j : Nat}, Same H2 H' → j < n → ∃ t, atI (Ts.map V.ref) (j : Int) = some (.ref t) ∧ Dp K H' (.ref t) (.tuple ((colL n ps j).map PyData.int)) := fun {H' j} sm hj => by
      obtain ⟨t, ht⟩ : ∃ t, Ts[j]? = some t := ⟨_, List.getElem?_eq_getElem (by omega)⟩
      refine ⟨t, atI_nat ?_, .tup (SqT.of (sm _ _ (hT' j t ht))) (dp_ints _)⟩
      rw [List.getElem?_map, ht]
      rfl
    refine walk_any (walk_range (lo := 0) (n := ((n : Int)).toNat)) (fun i H' => ∃ ws : Es, Same H2 H' ∧ LsAt H' D ws ∧ psOf ws = mrgsTo n ps i) ⟨[], same_upd hD, ⟨upd_same, Ed.nil⟩, rfl⟩ (fun _ _ _ _ => True.intro) ?_ ?_
    · rintro i x H3 H4 hi ⟨ws, s3, L3, hw⟩ ⟨rfl, hx⟩
      have hx : x = .int (i : Int) := by
        rw [hx]
        show V.int (0 + (i : Int)) = _
        rw [Int.zero_add]
      subst hx
      have hi : i < n := by omega
      refine ⟨rfl, yes_if ?_⟩
      refine ⟨_, rfl, _, _, rfl, rfl, _, rfl, g, dg, _, rfl, s3 _ _ hg2, g, (n : Int), us, rfl, (GA.same s12).same s3, _, _, rfl, ⟨by omega, by omega, by omega, by omega⟩, ?_⟩
      refine walk_any (walk_range (lo := (i : Int) + 1) (n := ((n : Int) - ((i : Int) + 1)).toNat)) (fun j H' => ∃ vs : Es, Same H2 H' ∧ LsAt H' D vs ∧ psOf vs = mrgsTo n ps i ++ mrow n ps i j) ⟨ws, s3, L3, by rw [hw]; exact (List.append_nil _).symm⟩ (fun _ _ _ _ => True.intro) ?_ ?_
      · rintro j x H5 H6 hj ⟨vs, s5, L5, hv⟩ ⟨rfl, hx⟩
        have hx : x = .int ((i + 1 + j : Nat) : Int) := by
          rw [hx]
          show V.int ((i : Int) + 1 + (j : Int)) = _
          congr 1
        subst hx
        have hij : i + 1 + j < n := by omega
        have lv : vs.length ≤ 200 := by
          have h1 := congrArg List.length hv
          have h2 := mrgsTo_len n ps i
          have h3 := mrow_len n ps i j
          have h4 : i * n ≤ 8 * 8 := Nat.mul_le_mul (by omega) (by omega)
          rw [psL_len, List.length_append] at h1
          omega
        obtain ⟨t1, a1, d1⟩ := col s5 hi
        obtain ⟨t2, a2, d2⟩ := col s5 hij
        refine ⟨rfl, ?_⟩
        refine ⟨_, rfl, _, rfl, c, _, _, _, rfl, rfl, SqL.of (s5 _ _ ec), a1, _, rfl, _, rfl, c, _, _, _, rfl, rfl, SqL.of (s5 _ _ ec), a2, _, _, d1, d2, sh_col _, sh_col _, _, rfl, ?_⟩
        rw [eqv_tup]
        refine ite2 (fun hc => ?_) (fun hc => ?_)
        · have hc := of_decide_eq_true hc
          refine ⟨_, rfl, _, rfl, (by show 2 ≤ sizeLine; decide), fun t ht => ?_⟩
          have s7 := same_upd (o := .tup [.int (i : Int), .int ((i + 1 + j : Nat) : Int)]) ht
          have nt : t ≠ D := fun w => by
            rw [w, L5.ls] at ht
            cases ht
          have L7 := L5.same s7
          refine ⟨_, L7.ls, ?_, vs ++ [(t, (i : Int), ((i + 1 + j : Nat) : Int))], ?_, L7.snoc (H := H6) upd_same nt, ?_⟩
          · rw [vsOf_len]
            exact small1000 (by omega)
          · intro b o e
            rw [upd_ne (ne_of_none e hD)]
            exact s7 _ _ (s5 _ _ e)
          · rw [psOf_app, hv, mrow_succ, List.append_assoc]
            unfold pickd
            rw [if_pos hc]
            rfl
        · refine ⟨vs, s5, L5, ?_⟩
          rw [hv, mrow_succ]
          unfold pickd
          rw [if_neg (fun z => hc (decide_eq_true z)), List.append_nil]
      · rintro H5 ⟨vs, s5, L5, hv⟩
        refine ⟨vs, s5, L5, ?_⟩
        rw [hv, mrgsTo_succ, show ((n : Int) - ((i : Int) + 1)).toNat = n - (i + 1) by omega]
    · rintro H3 ⟨ws, s3, L3, hw⟩
      exact q D H3 ws (s12.trans s3) (s12.free hD) L3 hw
end
end Lw
set_option Elab.async false
set_option linter.all false
set_option maxRecDepth 100000
/-! ==, != and in of an object whose class has its own __eq__, whatever that answers -/
namespace Lw
open PySem PySem.Spec PyProof.Rows L2
section
variable {X : Cx} {n : Nat} {A : Around} {pins : List (Addr × Obj)} {s : Shared} {σ : L2.St} {H : Hp} {CX : CXT} {C f : Addr} {fd : FuncData} {ps : List Str} {sp : Sp} {E : XK}
/-- what comes back of a def: a value and a heap -/
def BackV (X : Cx) (pins : List (Addr × Obj)) (σ : L2.St) (Q : VK) : Value → Shared → Prop := fun u s' => ∃ v H', Inv X pins σ H' s' ∧ RelV v u ∧ Q v H'
theorem run_own {vs : List V} {us : List Value} {Q : VK} (F : FnOk X.prog X.w X.K X.mg X.base CX n f fd ps sp) (hb : Binds X.K fd ps []) (hx : Passes CX X E) (sb : L2.Sub X n A) (I : Inv X pins σ H s) (r : Vals vs us)
    (hsp : sp vs H Q E) : wpAny (model X.prog X.w) A (call (.ref f) us) (BackV X pins σ Q) X.xe s := by
  have e0 : Env0 X.prog X.w X.K X.mg X.base A X.stack s H := by
    have e := I.env0
    exact ⟨by rw [sb.fr]; exact e.frames, e.mod, e.bs, e.bsz, e.funs, e.frf, e.hok, e.bare⟩
  have hl := F.len _ _ _ _ hsp
  refine wpAny_call (codeAny_mono (F.run A X.stack s H ⟨us, []⟩ us vs _ E sb.room e0 (by
    have := hb s us I.kIn (by rw [List.append_nil, ← r.length]; exact hl)
    simpa using this) r hsp) fun r s' hq => ?_)
  cases r with
  | error e => exact hx pins σ H s e s' I hq
  | ok fl =>
    cases fl with
    | ret w =>
      obtain ⟨z, H', I', rz, ez⟩ := I.after hq
      exact ⟨z, H', I', rz, ez⟩
    | next => exact False.elim hq
    | brk => exact False.elim hq
    | cont => exact False.elim hq
theorem back_bool {Q : VK} {u : Value} {s' : Shared} (h : BackV X pins σ (fun v H' => ∃ b, v = .bl b ∧ Q (.bl b) H') u s') : ∃ b H', u = .bool b ∧ Inv X pins σ H' s' ∧ Q (.bl b) H' := by
  obtain ⟨v, H', I', rv, b, rfl, q⟩ := h
  cases rv
  exact ⟨b, H', rfl, I', q⟩
/-- own == of an object at a and any value of a known type that is not of a subclass -/
theorem rc_own {a dx : Addr} {fs : List (Str × V)} {y : V} {v tb : Value} {Q : VK} (F : FnOk X.prog X.w X.K X.mg X.base CX n f fd ps sp) (hs : PySem.W.findIn X.K (.ref C) "__eq__" = some (some (.ref f))) (hf : PySem.W.isFn X.K (.ref f) = true)
    (hb : Binds X.K fd ps []) (hx : Passes CX X E) (sb : L2.Sub X n A) (I : Inv X pins σ H s) (ha : H a = some (.ins C dx fs)) (ry : RelV y v) (ty : PySem.W.Looks (model X.prog X.w) s.heap (typeOf v) tb) (nf : PySem.W.notFirst X.K C tb = true)
    (hsp : sp [.ref a, y] H (fun v H' => ∃ b, v = .bl b ∧ Q (.bl b) H') E) : wpAny (model X.prog X.w) A (richCompare .Eq (.ref a) v) (fun u s' => ∃ b H', u = .bool b ∧ Inv X pins σ H' s' ∧ Q (.bl b) H') X.xe s := by
  obtain ⟨mA, J, _⟩ := ins_get I.hok ha
  obtain ⟨od, J, _⟩ := J.look
  obtain ⟨m, hF⟩ := I.fr
  refine PySem.W.cmp_K (op := .Eq) (tb := tb) sb.room.units0 hF I.ok.mod.kin J ty nf hs hf ?_
  refine wpAny_mono (run_own F hb hx sb I (.cons (show RelV (.ref a) (.ref a) from rfl) (.cons ry .nil)) hsp) (fun u s' h => ?_) fun _ _ e => e
  obtain ⟨b, H', rfl, I', q⟩ := back_bool h
  exact ⟨b, H', rfl, I', q⟩
/-- x == y, both objects of the class at C -/
def rEqO (C : Addr) (sp : Sp) (E : XK) : R2 := fun x y H Q => ∃ a b dx dy fs gs, x = .ref a ∧ y = .ref b ∧ H a = some (.ins C dx fs) ∧ H b = some (.ins C dy gs) ∧ sp [x, y] H (fun v H' => ∃ c, v = .bl c ∧ Q (.bl c) H') E
theorem op_eqO (F : FnOk X.prog X.w X.K X.mg X.base CX n f fd ps sp) (hs : PySem.W.findIn X.K (.ref C) "__eq__" = some (some (.ref f))) (hf : PySem.W.isFn X.K (.ref f) = true) (hb : Binds X.K fd ps []) (hx : Passes CX X E) (hr : Room n X.A) :
    OpR X (compareOp .Eq) (rEqO C sp E) := by
  intro pins s σ H x y v u Q I rx ry h
  obtain ⟨a, b, dx, dy, fs, gs, rfl, rfl, ha, hb', hsp⟩ := h
  cases rx
  cases ry
  obtain ⟨mB, J', _⟩ := ins_get I.hok hb'
  obtain ⟨od', J', _⟩ := J'.look
  refine wpAny_mono (rc_own (tb := .ref C) F hs hf hb hx ⟨hr, rfl⟩ I ha (y := .ref b) rfl J'.type (by simp [PySem.W.notFirst]) hsp) (fun u s' h => ?_) fun _ _ e => e
  obtain ⟨b, H', rfl, I', q⟩ := h
  exact ⟨.bl b, H', I', rfl, q⟩
/-- x != y, both objects of the class at C, which has no __ne__ of its own -/
def rNeO (C : Addr) (sp : Sp) (E : XK) : R2 := fun x y H Q => ∃ a b dx dy fs gs, x = .ref a ∧ y = .ref b ∧ H a = some (.ins C dx fs) ∧ H b = some (.ins C dy gs) ∧ sp [x, y] H (fun v H' => ∃ c, v = .bl c ∧ Q (.bl (!c)) H') E
theorem ne_body {s : Shared} {a b : Addr} {ox : Obj} {od : Option Obj} {M : Model} {Q : Fin → Shared → Prop} {Er : Value → Shared → Prop} (kin : X.K.In s.heap) (J : PySem.W.InstAt s.heap a ox C od) (hs : PySem.W.findIn X.K (.ref C) "__eq__" = some (some (.ref f))) (hf : PySem.W.isFn X.K (.ref f) = true) (hu : A.units < cLine)
    (h : wpAny M A (call (.ref f) [.ref a, .ref b]) (fun u s' => ∃ c, u = .bool c ∧ Q (.done (.ret (.bool (!c)))) s') Er s) : wpAny M A (Builtin.«object.__ne__» ⟨[.ref a, .ref b], []⟩) Q Er s := by
  unfold Builtin.«object.__ne__»
  repeat (first
    | with_reducible refine wpAny_cRoomFor hu ?_
    | (refine wpAny_bind (m := callSpecialIfBound? (.ref a) (Str.ofString "__eq__") [.ref b])
        (PySem.W.ifBound_K kin J hs hf (wpAny_mono h (fun r s' hr => by
          obtain ⟨c, rfl, hq⟩ := hr
          repeat (first | exact hq | exact wpAny_pure hq | exact wpAny_truthy_bool hq | (refine wpAny_bind (m := truthy (.bool _)) (wpAny_truthy_bool ?_)) | wp_step)) fun _ _ e => e)))
    | wp_step)
theorem op_neO {nm q : Str} {N : Addr} {bs : List Value} {hdct : Bool} {sn : List Str} {sub : List Value} {ab : Bool} {col : Option Bool} {dd : Option Addr} {k0 k1 k2 k3 k5 : Option Value} {newId : String}
    (F : FnOk X.prog X.w X.K X.mg X.base CX n f fd ps sp) (hs : PySem.W.findIn X.K (.ref C) "__eq__" = some (some (.ref f))) (hf : PySem.W.isFn X.K (.ref f) = true) (hne : PySem.W.findIn X.K (.ref C) "__ne__" = some (some (.builtin "object.__ne__")))
    (hC : X.K.lookup C = some (excClassObj nm q C N bs [.type "object"] hdct sn sub ab col dd k0 k1 k2 k3 k5 newId)) (hb : Binds X.K fd ps []) (hx : Passes CX X E) (hr : Room (n + 1) X.A) :
    OpR X (compareOp .NotEq) (rNeO C sp E) := by
  intro pins s σ H x y v u Q I rx ry h
  obtain ⟨a, b, dx, dy, fs, gs, rfl, rfl, ha, hb', hsp⟩ := h
  cases rx
  cases ry
  obtain ⟨mA, J, _⟩ := ins_get I.hok ha
  obtain ⟨od, J, _⟩ := J.look
  obtain ⟨mB, J', _⟩ := ins_get I.hok hb'
  obtain ⟨od', J', _⟩ := J'.look
  have kin := I.kIn
  have un := hr.un
  have hu1 : X.A.units + 1 < cLine := by omega
  have run := run_own (A := X.A.in1) F hb hx (L2.Sub.in1 (X := X) (n := n) (A := X.A) ⟨hr, rfl⟩) I (.cons (show RelV (.ref a) (.ref a) from rfl) (.cons (show RelV (.ref b) (.ref b) from rfl) .nil)) hsp
  show wpAny (model X.prog X.w) X.A (richCompare .NotEq (.ref a) (.ref b)) (EP X pins σ Q) X.xe s
  unfold richCompare
  simp only [oneThing_ref]
  refine wpAny_holding (wpAny_bind (wpAny_cRoomFor (Nat.lt_of_succ_lt hu1) ?_))
  refine wpAny_bind (J.type.here (wpAny_bind (J'.type.here ?_)))
  rw [show (Value.ref C != Value.ref C) = false from by simp]
  simp only [Bool.false_eq_true, if_false]
  refine wpAny_bind (wpAny_pure ?_)
  simp only [Bool.false_eq_true, if_false]
  have one : wpAny (model X.prog X.w) X.A (tryCompare (.ref a) (cmpInfo .NotEq).2.1 (.ref b)) (fun r s' => ∃ v, r = some v ∧ EP X pins σ Q v s') X.xe s := by
    unfold tryCompare
    refine wpAny_bind ?_
    simp only [callSpecialIfBound?, bindSpecialIfBound?]
    refine wpAny_holding (wpAny_bind (wpAny_bind (wpAny_bind (J.type.here ((PySem.W.looks_findIn kin hne).here ?_)))))
    simp only [PySem.F.cmp_object.ne.bind]
    refine wpAny_bind (wpAny_askSetting (wpAny_ite ?_))
    have fin : wpAny (model X.prog X.w) X.A (call (.builtin "object.__ne__") ([.ref a] ++ [.ref b])) (fun v s' => wpAny (model X.prog X.w) X.A (match (some v : Option Value) with
        | some .notImplemented | none => pure none
        | some v => pure (some v)) (fun r s' => ∃ v, r = some v ∧ EP X pins σ Q v s') X.xe s') X.xe s := by
      obtain ⟨hp, g, d, t, os⟩ := s
      refine wpAny_call (codeAny_call_builtin PySem.F.cmp_object.ne.plain PySem.F.cmpEntry_ne (wpAny_check_slot_inst PySem.F.cmpKind_ne PySem.F.cmpSplit_ne (PySem.F.cmpArgs_ne _ _) PySem.F.cmp_object.hasObject J.at_ J.cls (kin _ _ hC) ?_))
      refine ne_body (A := X.A.in1) kin J hs hf (by exact hu1) (wpAny_mono run (fun u s' h => ?_) fun _ _ e => e)
      obtain ⟨v, H', I', rv, c, rfl, q⟩ := h
      cases rv
      exact ⟨c, rfl, wpAny_pure ⟨_, rfl, .bl (!c), H', I', rfl, q⟩⟩
    split
    · exact wpAny_bind (wpAny_pure (wpAny_pure (wpAny_bind (wpAny_mono fin (fun v s' h => wpAny_pure h) fun _ _ e => e))))
    · exact wpAny_tryCatch (wpAny_bind (wpAny_pure (wpAny_pure (wpAny_bind (wpAny_mono fin (fun v s' h => wpAny_pure h) fun _ _ e => e)))))
  refine wpAny_bind (wpAny_mono one (fun r s' z => ?_) fun _ _ e => e)
  obtain ⟨v, rfl, hq⟩ := z
  exact wpAny_pure hq
end
end Lw
set_option Elab.async false
set_option linter.all false
set_option maxRecDepth 100000
/-! the least graph, and chains of merges -/
namespace Lw
open PySem L2
abbrev sLe : Stmt := top 53
abbrev sCG : Stmt := top 36
abbrev sCR : Stmt := top 37
abbrev sGR : Stmt := top 39
abbrev sLT : Stmt := top 40
theorem pe_never {X : Cx} {e : Expr} : PE X e (fun _ _ _ => False) := ⟨fun _ _ _ _ _ _ h => h.elim⟩
/-- a chain of merges -/
def ChL (CM : Addr) (H : Hp) (S : Addr) (st : Ps) : Prop := ∃ os : List Addr, H S = some (.lst (os.map V.ref)) ∧ os.length = st.length ∧ ∀ (k : Nat) (o : Addr) (p : Int × Int), os[k]? = some o → st[k]? = some p → MgO CM H o p.1 p.2
theorem ChL.same {CM : Addr} {H H' : Hp} {S : Addr} {st : Ps} (h : ChL CM H S st) (s : Same H H') : ChL CM H' S st := by
  obtain ⟨os, h1, h2, h3⟩ := h
  exact ⟨os, s _ _ h1, h2, fun k o p a b => (h3 k o p a b).same s⟩
theorem MgO.off {CM : Addr} {H : Hp} {o S : Addr} {a b : Int} {xs : List V} {u : HO} (h : MgO CM H o a b) (e : H S = some (.lst xs)) : MgO CM (upd H S u) o a b := by
  obtain ⟨dx, h1⟩ := h
  refine ⟨dx, ?_⟩
  rw [upd_ne fun w => ?_]
  · exact h1
  · rw [w, e] at h1
    cases h1
theorem ChL.snoc {CM : Addr} {H : Hp} {S o : Addr} {st : Ps} {os : List Addr} {a b : Int} (e : H S = some (.lst (os.map V.ref))) (hl : os.length = st.length) (h : ∀ (k : Nat) (o : Addr) (p : Int × Int), os[k]? = some o → st[k]? = some p → MgO CM H o p.1 p.2) (m : MgO CM H o a b) :
    ChL CM (upd H S (.lst (os.map V.ref ++ [.ref o]))) S (st ++ [(a, b)]) := by
  refine ⟨os ++ [o], by rw [upd_same, List.map_append]; rfl, by simp [hl], fun k x p h1 h2 => ?_⟩
  by_cases hk : k < os.length
  · rw [List.getElem?_append_left hk] at h1
    rw [List.getElem?_append_left (by omega)] at h2
    exact (h k x p h1 h2).off e
  · have hk1 : k < os.length + 1 := by
      have := (List.getElem?_eq_some_iff.mp h1).1
      simpa using this
    have hk2 : k = os.length := by omega
    rw [hk2, List.getElem?_concat_length] at h1
    rw [hk2, hl, List.getElem?_concat_length] at h2
    cases h1
    cases h2
    exact m.off e
def spLe (C CM : Addr) : Sp := fun vs H Q _ => ∃ (g : Addr) (n : Nat) (ps : Ps), vs = [.ref g] ∧ Gok C H g n ps ∧
  ∀ (t S g' : Addr) (H' : Hp), Same H H' → H' t = some (.tup [.ref S, .ref g']) → H S = none → ChL CM H' S (lst n ps).1 → Gok C H' g' (lst n ps).2.1 (lst n ps).2.2 → (mrgs n ps = [] → g' = g) → Q (.ref t) H'
def spCG (C CM : Addr) : Sp := fun vs H Q _ => ∃ (g S : Addr) (n m : Nat) (ps st qs : Ps), vs = [.ref g, .ref S] ∧ Gok C H g n ps ∧ ChL CM H S st ∧ Chn n ps st m qs ∧ st.length ≤ 60 ∧
  ∀ (L g' : Addr) (gs : List V) (H' : Hp), Same H H' → H' L = some (.lst (gs ++ [.ref g'])) → Gok C H' g' m qs → Q (.ref L) H'
def spCR (C CM : Addr) : Sp := fun vs H Q _ => ∃ (g S : Addr) (n m : Nat) (ps st qs : Ps), vs = [.ref g, .ref S] ∧ Gok C H g n ps ∧ ChL CM H S st ∧ Chn n ps st m qs ∧ st.length ≤ 60 ∧ ∀ (g' : Addr) (H' : Hp), Same H H' → Gok C H' g' m qs → Q (.ref g') H'
def spLT (C CM : Addr) : Sp := fun vs H Q _ => ∃ (g g2 S : Addr) (n m : Nat) (ps st qs : Ps), vs = [.ref g, .ref g2, .ref S] ∧ Gok C H g n ps ∧ Gok C H g2 m qs ∧ ChL CM H S st ∧ Chn n ps st m qs ∧ st.length ≤ 60 ∧ ∀ H', Same H H' → Q (.bl true) H'
def spPO (C : Addr) : Sp := fun vs H Q _ => ∃ (g : Addr) (n : Nat) (ps : Ps), vs = [.ref g] ∧ Gok C H g n ps ∧ ∀ (p q : Addr) (us : Es) (H' : Hp), Same H H' → PlanAt H' p q (n : Int) us → psOf us = ps → Q (.ref p) H'
def spStpM (CM : Addr) : Sp := fun vs H Q _ => ∃ (d : Addr) (a b : Int), vs = [.ref d] ∧ H d = some (.tup [.str "merge", .int a, .int b]) ∧ ∀ (o : Addr) (H' : Hp), Same H H' → H o = none → MgO CM H' o a b → Q (.ref o) H'
theorem Chn.split {n m : Nat} {ps st qs : Ps} (h : Chn n ps st m qs) : (st = [] ∧ n = m ∧ ps = qs) ∨ ∃ (i j : Nat) (r : Ps), st = ((i : Int), (j : Int)) :: r ∧ i < j ∧ j < n ∧ colL n ps i = colL n ps j ∧ Chn (n - 1) (mrgP i j ps) r m qs := by
  cases h with
  | nil => exact .inl ⟨rfl, rfl, rfl⟩
  | cons h1 h2 h3 h4 => exact .inr ⟨_, _, _, rfl, h1, h2, h3, h4⟩
theorem at_last {xs : List V} {x : V} : atI (xs ++ [x]) (-1) = some x := atI_last xs x
section
variable {P : Program} {w : World} {K : PySem.W.Frag} {mg : Str → Option Value} {base : Heap} {f C CM : Addr} {mc : Value} {fd : FuncData} {k : Nat}
theorem scLe : FnScope ["graph", "chain", "small", "pairs", "one", "other", "merge"] ["graph"] (defScope sLe) := ⟨rfl, rfl, rfl, by decide +kernel, rfl, by decide +kernel, by decide +kernel⟩
theorem scCG : FnScope ["graph", "chain", "graphs", "step"] ["graph", "chain"] (defScope sCG) := ⟨rfl, rfl, rfl, by decide +kernel, rfl, by decide +kernel, by decide +kernel⟩
theorem scCR : FnScope ["graph", "chain"] ["graph", "chain"] (defScope sCR) := ⟨rfl, rfl, rfl, by decide +kernel, rfl, by decide +kernel, by decide +kernel⟩
theorem scGR : FnScope ["graph", "chain"] ["graph", "chain"] (defScope sGR) := ⟨rfl, rfl, rfl, by decide +kernel, rfl, by decide +kernel, by decide +kernel⟩
theorem scLT : FnScope ["one", "other", "chain"] ["one", "other", "chain"] (defScope sLT) := ⟨rfl, rfl, rfl, by decide +kernel, rfl, by decide +kernel, by decide +kernel⟩
set_option maxHeartbeats 8000000 in
theorem ok_le (F : Fun K "least" "least" sLe f fd) (M : MTxt K mg CM) (cP : C8.Cal P w K mg base 3 "merge_pairs" (spMP C) []) (mM : C8.Mak P w K mg base 1 "Merge" CM (spMI CM) []) (mR : C8.Met P w K mg base 4 CM "result" (spMRs C CM) []) : FnOk P w K mg base CX0 (k + 5) f fd ["graph"] (spLe C CM) := by
  refine F.ok scLe (fun vs H Q E h => ?_) (fun cdv A outer s H vs Q E hr h => ?_)
  · obtain ⟨g, n, ps, rfl, _⟩ := h
    rfl
  · obtain ⟨g, n, ps, rfl, G, q⟩ := h
    refine ⟨_, pss_cons (ps_set (i := 1) scLe.nd rfl (.inl rfl) (pe_lst pa_nil))
      (pss_cons (ps_set (i := 2) scLe.nd rfl (.inl rfl) (pv 0))
      (pss_cons (ps_set (i := 3) scLe.nd rfl (.inl rfl) (C8.pe_c cP hr (by omega) (by rfl) (pa_cons (pv 2) pa_nil)))
      (pss_cons (ps_while PassesOwn.never (pt_truth (pv 3) (fun _ => rfl))
        (pss_cons (ps_asg (pe_ix ix_list (pv 3) pe_int (fun _ _ => rfl)) (pg_tup rfl (pgs_cons (pg_name (i := 4) scLe.nd rfl (.inl rfl)) (pgs_cons (pg_name (i := 5) scLe.nd rfl (.inl rfl)) pgs_nil))))
        (pss_cons (ps_set (i := 6) scLe.nd rfl (.inl rfl) (C8.pe_mk mM hr (by omega) (by rfl) (pa_cons (pv 4) (pa_cons (pv 5) pa_nil))))
        (pss_cons (ps_expr (pe_bm PySem.F.plainAttrs_list PySem.F.slot_list_append PySem.F.type_list_append mt_append (pv 1) (pa_cons (pv 6) pa_nil)))
        (pss_cons (ps_set (i := 2) scLe.nd rfl (.inl rfl) (C8.pe_mt mR hr (by omega) (pv 6) (pa_cons (pv 2) pa_nil)))
        (pss_one (ps_set (i := 3) scLe.nd rfl (.inl rfl) (C8.pe_c cP hr (by omega) (by rfl) (pa_cons (pv 2) pa_nil)))))))))
      (pss_one (ps_ret (pe_tup (pa_cons (pv 1) (pa_cons (pv 2) pa_nil)))))))), ?_⟩
    refine ⟨(by show 0 ≤ sizeLine; exact Nat.zero_le _), fun S hS => ?_⟩
    have s1 := same_upd (o := .lst []) hS
    have e1 : upd H S (.lst []) S = some (.lst []) := upd_same
    generalize upd H S (.lst []) = H1 at *
    have n8 := G.n8
    refine ⟨_, rfl, _, rfl, g, n, ps, rfl, G.same s1, fun D0 H2 us0 s2 nD0 L0 eu0 => ?_⟩
    refine ⟨fun m σ H' => ∃ (v4 v5 v6 : Option V) (sm D : Addr) (us : Es) (st qs : Ps), σ = [some (.ref g), some (.ref S), some (.ref sm), some (.ref D), v4, v5, v6] ∧ Same H H' ∧ ChL CM H' S st ∧ Gok C H' sm m qs ∧ LsAt H' D us ∧ psOf us = mrgs m qs ∧ st.length + m = n ∧ lst n ps = (st ++ (lst m qs).1, (lst m qs).2) ∧ (st = [] → sm = g),
      ⟨n, none, none, none, g, D0, us0, [], ps, rfl, s1.trans s2, ⟨[], s2 _ _ e1, rfl, fun k o p h => by cases h⟩, (G.same s1).same s2, L0, eu0, by simp, rfl, fun _ => rfl⟩, ?_⟩
    rintro m σ H3 ⟨v4, v5, v6, sm, D, us, st, qs, rfl, s3, CL, G3, L3, eu, lm, eq, fg⟩
    refine ⟨_, rfl, _, .inl ⟨_, SqL.of L3.ls, rfl⟩, ?_⟩
    cases us with
    | nil =>
      refine if_f rfl ?_
      have e0 : mrgs m qs = [] := eu.symm
      have q3 := lst_done e0
      rw [q3, List.append_nil] at eq
      refine ⟨_, rfl, _, rfl, (by show 2 ≤ sizeLine; decide), fun t ht => ?_⟩
      have s4 := same_upd (o := .tup [.ref S, .ref sm]) ht
      have q := q t S sm _ (s3.trans s4) upd_same hS
      rw [eq] at q
      refine q (CL.same s4) (G3.same s4) fun en => fg ?_
      have := lst_done en
      rw [this] at eq
      exact (congrArg Prod.fst eq).symm
    | cons e r =>
      refine if_t rfl ⟨_, fun _ _ z => z, ?_⟩
      have hd : mrgs m qs = e.2 :: psOf r := eu.symm
      obtain ⟨i, j, eij, ij, jm, ec⟩ := mrgs_mem (show e.2 ∈ mrgs m qs by rw [hd]; exact List.mem_cons_self)
      have ei : e.2.1 = (i : Int) := congrArg Prod.fst eij
      have ej : e.2.2 = (j : Int) := congrArg Prod.snd eij
      have he := L3.ed e List.mem_cons_self
      rw [ei, ej] at he
      refine ⟨_, rfl, D, _, _, .ref e.1, rfl, rfl, SqL.of L3.ls, at0 (x := V.ref e.1) (r := vsOf r), e.1, _, rfl, SqT.of he, rfl, _, _, rfl, _, _, rfl, rfl, ?_⟩
      refine ⟨_, rfl, _, rfl, ?_⟩
      intro o dx no ndx nex
      have s4 := make_same (C := CM) no ndx nex
      refine ⟨o, dx, (i : Int), (j : Int), rfl, upd_same, fun H5 kp MO => ⟨rfl, ?_⟩⟩
      have s5 : Same H3 H5 := fun c u ecu => kp c u (ne_of_none ecu no) (s4 _ _ ecu)
      obtain ⟨os, c1, c2, c3⟩ := CL.same s5
      have G5 := G3.same s5
      refine ⟨_, rfl, .inl ⟨rfl, _, SqL.of c1⟩, _, rfl, S, _, _, rfl, rfl, c1, by rw [List.length_map]; exact small1000 (by omega), ?_⟩
      have CL6 := ChL.snoc c1 c2 c3 MO
      have G6 := G5.off (u := .lst (os.map V.ref ++ [.ref o])) c1
      have MO6 := MO.off (u := .lst (os.map V.ref ++ [.ref o])) c1
      have s6 : Same H (upd H5 S (.lst (os.map V.ref ++ [.ref o]))) := fun c u ecu => by
        rw [upd_ne (ne_of_none ecu hS)]
        exact s5 _ _ (s3 _ _ ecu)
      generalize upd H5 S (.lst (os.map V.ref ++ [.ref o])) = H6 at *
      obtain ⟨dx6, ho6⟩ := id MO6
      refine ⟨_, rfl, o, dx6, _, rfl, ho6, mno _ _ (by decide +kernel) (by decide +kernel), _, rfl, o, sm, m, i, j, qs, rfl, MO6, G6, ij, jm, ec, fun g2 H7 s7 ng2 G7 => ?_⟩
      refine ⟨_, rfl, g2, m - 1, mrgP i j qs, rfl, G7, fun D8 H8 us8 s8 nD8 L8 eu8 => ?_⟩
      refine ⟨m - 1, by omega, _, _, _, g2, D8, us8, st ++ [((i : Int), (j : Int))], mrgP i j qs, rfl, (s6.trans s7).trans s8, (CL6.same s7).same s8, G7.same s8, L8, eu8, ?_, ?_, fun z => ?_⟩
      · rw [List.length_append, List.length_singleton]
        omega
      · have q3 := lst_step hd
        rw [eij] at q3
        rw [eq, q3, List.append_assoc]
        rfl
      · simp at z
set_option maxHeartbeats 8000000 in
theorem ok_cg (F : Fun K "chain_graphs" "chain_graphs" sCG f fd) (T : Bi mg) {tk : Tok} (mx : mg "MAX_STEPS" = some (.int 60 tk)) (mR : C8.Met P w K mg base 4 CM "result" (spMRs C CM) []) : FnOk P w K mg base CX0 (k + 5) f fd ["graph", "chain"] (spCG C CM) := by
  refine F.ok scCG (fun vs H Q E h => ?_) (fun cdv A outer s H vs Q E hr h => ?_)
  · obtain ⟨g, S, n, m, ps, st, qs, rfl, _⟩ := h
    rfl
  · obtain ⟨g, S, n, m, ps, st, qs, rfl, G, CL, ch, l60, q⟩ := h
    obtain ⟨os, c1, c2, c3⟩ := CL
    refine ⟨_, pss_cons (ps_if (pt_cmpR op_gt (pe_callB call_len_seq (by rfl) T.len PySem.boot_len (pa_cons (pv 1) pa_nil)) (pe_glob (v := .int 60) (by rfl) mx ⟨_, rfl⟩) (nomark _)) (pss_one ps_never) pss_nil)
      (pss_cons (ps_set (i := 2) scCG.nd rfl (.inl rfl) (pe_lst (pa_cons (pv 0) pa_nil)))
      (pss_cons (ps_for PassesOwn.never rfl (pi_seqA (pv 1)) (pg_name (i := 3) scCG.nd rfl (.inl rfl))
        (pss_one (ps_expr (pe_bm PySem.F.plainAttrs_list PySem.F.slot_list_append PySem.F.type_list_append mt_append (pv 2) (pa_cons (C8.pe_mt mR hr (by omega) (pv 3) (pa_cons (pe_ix ix_list (pv 2) (pe_un un_neg pe_int) (fun _ _ => rfl)) pa_nil)) pa_nil)))))
      (pss_one (ps_ret (pv 2))))), ?_⟩
    refine ⟨_, rfl, S, _, rfl, .inl (SqL.of c1), _, _, rfl, rfl, _, rfl, if_f (decide_eq_false (by rw [List.length_map]; omega)) ?_⟩
    refine ⟨_, rfl, (by show 1 ≤ sizeLine; decide), fun L hL => ?_⟩
    have s1 := same_upd (o := .lst [.ref g]) hL
    have e1 : upd H L (.lst [.ref g]) L = some (.lst ([] ++ [.ref g])) := upd_same
    generalize upd H L (.lst [.ref g]) = H1 at *
    refine ⟨_, rfl, S, _, SqL, rfl, .inl rfl, SqL.of (s1 _ _ c1), fun J w => ?_⟩
    refine for_it w (fun i σ H' => ∃ (v3 : Option V) (gs : List V) (g' : Addr) (n' : Nat) (ps' : Ps), σ = [some (.ref g), some (.ref S), some (.ref L), v3] ∧ Same H H' ∧ H' L = some (.lst (gs ++ [.ref g'])) ∧ gs.length ≤ i ∧ Gok C H' g' n' ps' ∧ Chn n' ps' (st.drop i) m qs)
      ⟨none, [], g, n, ps, rfl, s1, e1, Nat.le_refl _, G.same s1, ch⟩ (fun i σ H' _ p => by obtain ⟨_, _, _, _, _, _, s, _⟩ := p; exact SqL.of (s _ _ c1)) ?_ ?_
    · rintro i x σ H2 H3 hi ⟨v3, gs, g', n', ps', rfl, s2, e2, lg, G2, ch2⟩ ⟨rfl, gx⟩
      rw [List.length_map] at hi
      rw [List.getElem?_map] at gx
      obtain ⟨o, ho, rfl⟩ := Option.map_eq_some_iff.mp gx
      have hst : i < st.length := by omega
      have ed : st.drop i = st[i] :: st.drop (i + 1) := List.drop_eq_getElem_cons hst
      rcases ch2.split with ⟨z, _⟩ | ⟨a, b, r, er, ab, bn, ec, ch3⟩
      · rw [ed] at z
        cases z
      rw [ed] at er
      injection er with er1 er2
      have MO := (c3 i o (st[i]) ho (List.getElem?_eq_getElem hst)).same s2
      rw [er1] at MO
      obtain ⟨dx, hoo⟩ := id MO
      refine ⟨_, rfl, .inl ⟨rfl, _, SqL.of e2⟩, _, rfl, o, dx, _, rfl, hoo, mno _ _ (by decide +kernel) (by decide +kernel), _, rfl, 1, rfl, L, _, _, .ref g', rfl, rfl, SqL.of e2, at_last, o, g', n', a, b, ps', rfl, MO, G2, ab, bn, ec, fun g3 H4 s4 ng G4 => ?_⟩
      have e4 := s4 _ _ e2
      refine ⟨L, _, _, rfl, rfl, e4, by rw [List.length_append, List.length_singleton]; exact small1000 (by omega), ?_⟩
      refine ⟨_, gs ++ [.ref g'], g3, n' - 1, mrgP a b ps', rfl, ?_, upd_same, ?_, G4.off e4, by rw [er2]; exact ch3⟩
      · intro c u ecu
        rw [upd_ne (ne_of_none ecu hL)]
        exact s4 _ _ (s2 _ _ ecu)
      · rw [List.length_append, List.length_singleton]
        omega
    · rintro σ H2 ⟨v3, gs, g', n', ps', rfl, s2, e2, lg, G2, ch2⟩
      rw [List.length_map, c2, List.drop_length] at ch2
      rcases ch2.split with ⟨_, rfl, rfl⟩ | ⟨a, b, r, er, _⟩
      · exact ⟨_, rfl, q L g' gs H2 s2 e2 G2⟩
      · cases er
theorem ok_cr (F : Fun K "chain_result" "chain_result" sCR f fd) (cG : C8.Cal P w K mg base 5 "chain_graphs" (spCG C CM) []) : FnOk P w K mg base CX0 (k + 6) f fd ["graph", "chain"] (spCR C CM) := by
  refine F.ok scCR (fun vs H Q E h => ?_) (fun cdv A outer s H vs Q E hr h => ?_)
  · obtain ⟨g, S, n, m, ps, st, qs, rfl, _⟩ := h
    rfl
  · obtain ⟨g, S, n, m, ps, st, qs, rfl, G, CL, ch, l60, q⟩ := h
    refine ⟨_, pss_one (ps_ret (pe_ix ix_list (C8.pe_c cG hr (by omega) (by rfl) (pa_cons (pv 0) (pa_cons (pv 1) pa_nil))) (pe_un un_neg pe_int) (fun _ _ => rfl))), ?_⟩
    refine ⟨_, rfl, _, rfl, g, S, n, m, ps, st, qs, rfl, G, CL, ch, l60, fun L g' gs H' s1 e1 G1 => ?_⟩
    exact ⟨1, rfl, L, _, _, .ref g', rfl, rfl, SqL.of e1, at_last, q g' H' s1 G1⟩
theorem ok_gr (F : Fun K "graph_reached" "graph_reached" sGR f fd) (cR : C8.Cal P w K mg base 6 "chain_result" (spCR C CM) []) : FnOk P w K mg base CX0 (k + 7) f fd ["graph", "chain"] (spCR C CM) := by
  refine F.ok scGR (fun vs H Q E h => ?_) (fun cdv A outer s H vs Q E hr h => ?_)
  · obtain ⟨g, S, n, m, ps, st, qs, rfl, _⟩ := h
    rfl
  · obtain ⟨g, S, n, m, ps, st, qs, rfl, G, CL, ch, l60, q⟩ := h
    refine ⟨_, pss_one (ps_try_thru0 (pss_one (ps_ret (C8.pe_c cR hr (by omega) (by rfl) (pa_cons (pv 0) (pa_cons (pv 1) pa_nil)))))), ?_⟩
    exact ⟨_, rfl, _, rfl, g, S, n, m, ps, st, qs, rfl, G, CL, ch, l60, q⟩
theorem ok_lt {fE : Addr} {fdE : FuncData} (F : Fun K "leads_to" "leads_to" sLT f fd) (cR : C8.Cal P w K mg base 7 "graph_reached" (spCR C CM) []) (hE1 : PySem.W.findIn K (.ref C) "__eq__" = some (some (.ref fE))) (hE2 : PySem.W.isFn K (.ref fE) = true) (FE : FnOk P w K mg base CX0 1 fE fdE ["self", "other"] (spGEq K C)) (bE : Binds K fdE ["self", "other"] []) :
    FnOk P w K mg base CX0 (k + 8) f fd ["one", "other", "chain"] (spLT C CM) := by
  refine F.ok scLT (fun vs H Q E h => ?_) (fun cdv A outer s H vs Q E hr h => ?_)
  · obtain ⟨g, g2, S, n, m, ps, st, qs, rfl, _⟩ := h
    rfl
  · obtain ⟨g, g2, S, n, m, ps, st, qs, rfl, G, G2, CL, ch, l60, q⟩ := h
    refine ⟨_, pss_one (ps_ret (pe_cmpR (op_eqO (E := E0) FE hE1 hE2 bE pass0 (hr.mono (by omega))) (C8.pe_c cR hr (by omega) (by rfl) (pa_cons (pv 0) (pa_cons (pv 2) pa_nil))) (pv 1) (nomark _))), ?_⟩
    refine ⟨_, rfl, _, rfl, g, S, n, m, ps, st, qs, rfl, G, CL, ch, l60, fun g' H1 s1 G1 => ?_⟩
    obtain ⟨us, GA, eu⟩ := G1.at_
    obtain ⟨vs, GB, ev⟩ := (G2.same s1).at_
    obtain ⟨dxa, ta, ha, _⟩ := GA.ob
    obtain ⟨dxb, tb, hb, _⟩ := GB.ob
    refine ⟨_, rfl, g', g2, dxa, dxb, _, _, rfl, rfl, ha, hb, g', (m : Int), us, _, rfl, GA, .inl ⟨g2, (m : Int), vs, rfl, GB, _, rfl, ?_⟩⟩
    rw [eu, ev, decide_eq_true rfl, decide_eq_true rfl]
    exact q H1 s1
end
end Lw
set_option Elab.async false
set_option linter.all false
set_option maxRecDepth 100000
/-! zip(xs, t), xs a list and t a tuple of one length -/
namespace ZM
open PySem PySem.Spec PyProof.Rows L2 Lw
def ItM (K : PySem.W.Frag) (a b : Addr) : It where
  go i H := ∃ (xs ys : List V) (x y : V), SqL K H a xs ∧ SqT K H b ys ∧ xs[i]? = some x ∧ ys[i]? = some y
  yld i H v H' := ∃ T x y, v = .ref T ∧ H T = none ∧ H' = upd H T (.tup [x, y]) ∧ (∀ xs, SqL K H a xs → xs[i]? = some x) ∧ ∀ ys, SqT K H b ys → ys[i]? = some y
  stop i H := ∃ xs ys : List V, SqL K H a xs ∧ SqT K H b ys ∧ xs.length = i ∧ ys.length = i
theorem walk_mix {K : PySem.W.Frag} {a b : Addr} {xs ys : List V} {n : Nat} (h1 : xs.length = n) (h2 : ys.length = n) : Walk (ItM K a b) n (fun H => SqL K H a xs ∧ SqT K H b ys) (YPair (fun i => xs[i]?) (fun i => ys[i]?)) := by
  constructor
  · rintro i H hi ⟨q1, q2⟩
    exact ⟨xs, ys, xs[i], ys[i], q1, q2, List.getElem?_eq_getElem (by omega), List.getElem?_eq_getElem (by omega)⟩
  · rintro H ⟨q1, q2⟩
    exact ⟨xs, ys, q1, q2, h1, h2⟩
  · rintro i H _ _ hi ⟨q1, q2⟩ ⟨T, x, y, rfl, nT, rfl, g1, g2⟩
    exact ⟨T, x, y, rfl, nT, rfl, g1 xs q1, g2 ys q2⟩
/-- where the walk stands -/
structure At (z TI TO i1 i2 a b : Addr) (i : Nat) (h : Heap) : Prop where
  zp : IsZip h z TI TO .none
  ti : IsTupOf2 h TI (.ref i1) (.ref i2)
  to : ∃ x y, IsTupOf2 h TO x y
  l : h.IsListIter i1 a i
  t : h.IsTupleIter i2 b i
theorem five {z TI TO i1 i2 c : Addr} (h : c ∈ [z, TI, TO, i1, i2]) : c = z ∨ c = TI ∨ c = TO ∨ c = i1 ∨ c = i2 := by
  simpa using h
theorem turn_mix {P : Program} {w : World} {K : PySem.W.Frag} {elts : List Expr} {kk : Nat} {tpos : Pos} {a b z TI TO i1 i2 : Addr} (S : ZipSep2 z TI TO i1 i2 [i1, a] [i2, b]) (n1 : a ≠ i1) (n2 : b ≠ i2) :
    Turn P w K (.Tuple elts kk tpos) (ItM K a b) [z, TI, TO, i1, i2] z (At z TI TO i1 i2 a b) where
  mem := .head _
  obj i h st c hc := by
    obtain ⟨o1, e1, _, d1⟩ := st.l
    obtain ⟨o2, e2, _, d2⟩ := st.t
    obtain ⟨x, y, eO⟩ := st.to
    rcases five hc with rfl | rfl | rfl | rfl | rfl
    · exact ⟨_, st.zp, nofun⟩
    · exact ⟨_, st.ti, nofun⟩
    · exact ⟨_, eO, nofun⟩
    · exact ⟨o1, e1, by rw [d1]; nofun⟩
    · exact ⟨o2, e2, by rw [d2]; nofun⟩
  keep i h h' st k := by
    obtain ⟨x, y, eO⟩ := st.to
    exact ⟨k z (by simp) _ st.zp, k TI (by simp) _ st.ti, ⟨x, y, k TO (by simp) _ eO⟩, st.l.at fun o q => k i1 (by simp) o q, st.t.at fun o q => k i2 (by simp) o q⟩
  item := by
    rintro X rfl rfl rfl calm i pins s σ H E I off st ⟨xs, ys, x, y, hx, hy, gx, gy⟩
    obtain ⟨us, r1, pl, _⟩ := I.list hx
    obtain ⟨vs, r2, pt, _⟩ := I.tuple hy
    obtain ⟨u, hu, ru⟩ := r1.get gx
    obtain ⟨v, hv, rv⟩ := r2.get gy
    obtain ⟨x0, y0, eO⟩ := st.to
    have hh : X.A.in1.handled = none := I.ok.hd calm
    have l1 : i < us.toArray.size := by rw [List.size_toArray]; exact (List.getElem?_eq_some_iff.mp hu).1
    have l2 : i < vs.toArray.size := by rw [List.size_toArray]; exact (List.getElem?_eq_some_iff.mp hv).1
    have zl : z < s.heap.objs.size := Heap.lt_size st.zp
    refine wpAny_pyNext_zipD2_item S (Draws.list hh i1 a n1 us.toArray) (Draws.tuple hh i2 b n2 vs.toArray) st.zp st.ti eO ⟨st.l, pl.isList⟩ ⟨st.t, pt⟩ l1 l2 fun u' v' h' tk hu' hv' z' O' s1 s2 new _ keep => ?_
    obtain rfl : u' = u := by
      rw [List.getElem?_toArray, hu] at hu'
      exact (Option.some.inj hu').symm
    obtain rfl : v' = v := by
      rw [List.getElem?_toArray, hv] at hv'
      exact (Option.some.inj hv').symm
    refine ⟨_, rfl, wpAny_letOwnedTupleGo_zip (s := { s with heap := h', toks := tk }) z' fun h2 z2 sb => ?_⟩
    have new2 : h2.get? s.heap.objs.size = some { cls := .type "tuple", data := .seq #[u', v'] } := (sb.2 _ (Nat.ne_of_gt zl)).trans new
    have okN : ObjOk X.prog X.w (upd H s.heap.objs.size (.tup [x, y])) h2 s.heap.objs.size (.tup [x, y]) := ⟨by show 2 ≤ sizeLine; decide, _, .cons ru (.cons rv .nil), _, new2, rfl, _, rfl⟩
    have rest : ∀ c o, c ∉ [z, TI, TO, i1, i2] → s.heap.get? c = some o → h2.get? c = some o := fun c o nc e => by
      have c1 : c ≠ z := fun q => nc (by simp [q])
      rw [sb.2 c c1]
      exact keep c o c1 (fun q => nc (by simp [q])) (fun q => nc (by simp [q])) (fun q => nc (by simp [q])) e
    refine ⟨.ref s.heap.objs.size, _, I.turnedNew (ch := [z, TI, TO, i1, i2]) rest off (Nat.le_refl _) okN, rfl, ⟨_, x, y, rfl, I.hok.fresh (Nat.le_refl _), rfl, fun ys hys => I.list_inj hys hx ▸ gx, fun ys hys => I.tuple_inj hys hy ▸ gy⟩, ⟨z2, ?_, ⟨u', v', ?_⟩, ?_, ?_⟩, fun c hc => ?_⟩
    · exact (sb.2 _ S.TIz).trans (keep _ _ S.TIz S.TITO S.TIi1 S.TIi2 st.ti)
    · exact (sb.2 _ S.TOz).trans O'
    · exact s1.1.at fun o q => (sb.2 _ (Ne.symm S.zi1)).trans q
    · exact s2.1.at fun o q => (sb.2 _ (Ne.symm S.zi2)).trans q
    · have lt : c < s.heap.objs.size := by
        obtain ⟨o1, e1, _⟩ := st.l
        obtain ⟨o2, e2, _⟩ := st.t
        rcases five hc with rfl | rfl | rfl | rfl | rfl
        · exact zl
        · exact Heap.lt_size st.ti
        · exact Heap.lt_size eO
        · exact Heap.lt_size e1
        · exact Heap.lt_size e2
      rw [upd_ne (Nat.ne_of_lt lt)]
      exact (off c hc).1
  done := by
    rintro X rfl rfl rfl calm i pins s σ H E I off st ⟨xs, ys, hx, hy, e1, e2⟩
    obtain ⟨us, r1, pl, _⟩ := I.list hx
    obtain ⟨vs, r2, pt, _⟩ := I.tuple hy
    obtain ⟨x0, y0, eO⟩ := st.to
    have hh : X.A.in1.handled = none := I.ok.hd calm
    have l1 := r1.length
    have l2 := r2.length
    have m1 : us.toArray.size = i := by rw [List.size_toArray]; omega
    have m2 : vs.toArray.size = i := by rw [List.size_toArray]; omega
    refine wpAny_pyNext_zipD2_end S (Draws.list hh i1 a n1 us.toArray) (Draws.tuple hh i2 b n2 vs.toArray) st.zp st.ti eO ⟨st.l, pl.isList⟩ ⟨st.t, pt⟩ (by omega) (by omega) (.inl m1.symm) fun h' tk keep => ⟨rfl, ?_⟩
    exact I.turnedL (t' := tk) (ch := [z, TI, TO, i1, i2]) (fun c o nc e => keep c o (fun q => nc (by simp [q])) (fun q => nc (by simp [q])) (fun q => nc (by simp [q])) (fun q => nc (by simp [q])) e) off
  self A i s Q E st h := wpAny_pyIter_zip st.zp h
def iZipM (K : PySem.W.Frag) (ta : TA) : TI := fun σ H R => ta σ H fun vs H1 => ∃ (a b : Addr) (xs ys : List V), vs = [.ref a, .ref b] ∧ SqL K H1 a xs ∧ SqT K H1 b ys ∧ R (ItM K a b) H1
theorem pi_zipM {X : Cx} {e e2 : Expr} {ta : TA} {p pos tpos : Pos} {elts : List Expr} {kk : Nat} (hg : Gl X "zip") (hm : X.mg "zip" = none) (ha : PA X [e, e2] ta)
    (hs : starEach [e, e2] X.env = (false, eval e X.env) :: starEach [e2] X.env := by rfl) (hpl : (backTo pos (starEach [e2] X.env)).any (·.1) = false := by rfl) :
    PI X (.Tuple elts kk tpos) (.Call (.Name "zip" p) [e, e2] [] pos) (iZipM X.K ta) := by
  constructor
  intro pins s σ H R I h
  refine Call_ (ld_blt I hg hm PyProof.Rows.boot_zip (PyProof.Rows.callWith_type1 (wpAny_mono (ha.run pos pins s σ H _ I h) ?_ fun _ _ z => z) hs hpl))
  rintro us s1 ⟨_, H1, I1, vals, a, b, xs, ys, rfl, hx, hy, go⟩
  obtain rfl : us = [.ref a, .ref b] := by
    match us, vals with
    | [u, v], .cons r1 (.cons r2 .nil) =>
      have e1 : u = .ref a := r1
      have e2 : v = .ref b := r2
      rw [e1, e2]
  obtain ⟨ws, r1, pl, _⟩ := I1.list hx
  obtain ⟨vs, r2, pt, _⟩ := I1.tuple hy
  have la : a < s1.heap.objs.size := pl.lt
  have lb : b < s1.heap.objs.size := by
    obtain ⟨o, ho, _⟩ := id pt
    exact Heap.lt_size ho
  refine zip_begins2 (begins_list a ws.toArray) (begins_tuple b vs.toArray) pl.isList pt fun h' z tI tO g1 g2 _ up => wpAny_pyIter_zip z ?_
  have S : ZipSep2 (s1.heap.objs.size + 4) (s1.heap.objs.size + 2) (s1.heap.objs.size + 3) s1.heap.objs.size (s1.heap.objs.size + 1) [s1.heap.objs.size, a] [s1.heap.objs.size + 1, b] := zip_sep2 (fun c hc => by rw [List.mem_singleton.mp hc]; exact la) (fun c hc => by rw [List.mem_singleton.mp hc]; exact lb)
  refine ⟨s1.heap.objs.size + 4, [s1.heap.objs.size + 4, s1.heap.objs.size + 2, s1.heap.objs.size + 3, s1.heap.objs.size, s1.heap.objs.size + 1], _, ItM X.K a b, H1, rfl, I1.kept (t' := s1.toks) up, turn_mix S (Nat.ne_of_lt la) (Nat.ne_of_lt (Nat.lt_succ_of_lt lb)), ⟨z, tI, ⟨_, _, tO⟩, ⟨_, g1, rfl, rfl⟩, ⟨_, g2, rfl, rfl⟩⟩, fun c hc => ?_, go⟩
  have le : s1.heap.objs.size ≤ c := by
    rcases five hc with rfl | rfl | rfl | rfl | rfl
    · exact Nat.le_add_right _ _
    · exact Nat.le_add_right _ _
    · exact Nat.le_add_right _ _
    · exact Nat.le_refl _
    · exact Nat.le_add_right _ _
  exact new_ok I1 le
end ZM
set_option Elab.async false
set_option linter.all false
set_option maxRecDepth 100000
/-! product and power of tables -/
namespace Lw
open PySem L2
abbrev sProd : Stmt := top 19
abbrev sPow : Stmt := top 20
def rowM (n : Nat) (M : Mx) (a : Nat) : List V := (List.range n).map fun b => V.int ((M a b : Nat) : Int)
theorem rowM_len (n : Nat) (M : Mx) (a : Nat) : (rowM n M a).length = n := by
  unfold rowM
  simp
theorem rowM_at {n : Nat} (M : Mx) (a : Nat) {b : Nat} (h : b < n) : (rowM n M a)[b]? = some (V.int ((M a b : Nat) : Int)) := by
  unfold rowM
  rw [List.getElem?_map, List.getElem?_range h]
  rfl
theorem rowM_congr {n : Nat} {M M' : Mx} {a : Nat} (h : ∀ b, b < n → M a b = M' a b) : rowM n M a = rowM n M' a := by
  unfold rowM
  refine List.map_congr_left fun b hb => ?_
  rw [h b (List.mem_range.mp hb)]
structure TabM (H : Hp) (p : Addr) (rs : List Addr) (n : Nat) (M : Mx) : Prop where
  ls : H p = some (.lst (rs.map V.ref))
  len : rs.length = n
  row : ∀ (a : Nat) (r : Addr), rs[a]? = some r → H r = some (.lst (rowM n M a))
theorem TabM.same {H H' : Hp} {p : Addr} {rs : List Addr} {n : Nat} {M : Mx} (h : TabM H p rs n M) (s : Same H H') : TabM H' p rs n M := ⟨s _ _ h.ls, h.len, fun a r e => s _ _ (h.row a r e)⟩
theorem TabM.congr {H : Hp} {p : Addr} {rs : List Addr} {n : Nat} {M M' : Mx} (h : TabM H p rs n M) (e : ∀ i j, i < n → j < n → M i j = M' i j) : TabM H p rs n M' := ⟨h.ls, h.len, fun a r ha => by
  have hl := h.len
  have hi := (List.getElem?_eq_some_iff.mp ha).1
  rw [h.row a r ha, rowM_congr fun b hb => e a b (by omega) hb]⟩
def spProd : Sp := fun vs H Q _ => ∃ (p q : Addr) (rs qs : List Addr) (n : Nat) (A B : Mx), vs = [.ref p, .ref q] ∧ TabM H p rs n A ∧ TabM H q qs n B ∧ 1 ≤ n ∧ n ≤ 8 ∧ (∀ i j, i < n → j < n → (A i j).log2 < 400000) ∧ (∀ i j, i < n → j < n → (B i j).log2 < 400000) ∧
  ∀ (D : Addr) (ts : List Addr) (H' : Hp), Same H H' → TabM H' D ts n (mul n A B) → Q (.ref D) H'
def spPow : Sp := fun vs H Q _ => ∃ (p : Addr) (rs : List Addr) (n e : Nat) (A : Mx), vs = [.ref p, .int (e : Int)] ∧ TabM H p rs n A ∧ 1 ≤ n ∧ n ≤ 8 ∧ 1 ≤ e ∧ e ≤ 2000 ∧ (∀ i j, A i j ≤ 31) ∧
  ∀ (D : Addr) (ts : List Addr) (H' : Hp), Same H H' → TabM H' D ts n (pw n A e) → Q (.ref D) H'
abbrev NPd : List Str := ["one", "other", "columns", "line", "column", "a", "b"]
abbrev scP1 : Scope := { kind := .function, names := [(".0", .local), ("line", .cell), ("columns", .cell)], isGenerator := false, isCoroutine := false }
abbrev scP2 : Scope := { kind := .function, names := [(".0", .local), ("column", .local), ("sum", .globalImplicit), ("zip", .globalImplicit), ("line", .cell)], isGenerator := false, isCoroutine := false }
abbrev tDot (K : PySem.W.Frag) : TE := tCB (rSum K) (tCons (tLc (ZM.iZipM K (tCons (tVar 3) (tCons (tVar 4) tNil))) (gTup K 2 (gCons (gName 5) (gCons (gName 6) gNil))) tYes (tOp (rI CMulW fun i j => .int (i * j)) (tVar 5) (tVar 6)) [5, 6]) tNil)
abbrev tLine (K : PySem.W.Frag) : TE := tLc (iSeqA K (tVar 2)) (gName 4) tYes (tDot K) [4]
theorem yes_if' {σ : St} {H : Hp} {A B : Hp → Prop} (h : A H) : tYes σ H (fun b H => if b = true then A H else B H) := by
  show (if true = true then A H else B H)
  exact if_t rfl h
section
variable {P : Program} {w : World} {K : PySem.W.Frag} {mg : Str → Option Value} {base : Heap} {f : Addr} {fd : FuncData} {k : Nat}
theorem scProd : FnScope NPd ["one", "other"] (defScope sProd) := ⟨rfl, rfl, rfl, by decide +kernel, rfl, by decide +kernel, by decide +kernel⟩
theorem scPow : FnScope ["table", "exponent", "result", "shift"] ["table", "exponent"] (defScope sPow) := ⟨rfl, rfl, rfl, by decide +kernel, rfl, by decide +kernel, by decide +kernel⟩
/-- a line by a column -/
theorem dot {H : Hp} {r t : Addr} {n i j : Nat} {A B : Mx} {v0 v1 v2 v5 v6 : Option V} {Q : VK} (hr : H r = some (.lst (rowM n A i))) (ht : H t = some (.tup ((List.range n).map fun k => V.int ((B k j : Nat) : Int)))) (h8 : n ≤ 8) (hA : ∀ k, k < n → (A i k).log2 < 400000) (hB : ∀ k, k < n → (B k j).log2 < 400000)
    (q : ∀ H', Same H H' → Q (.int ((mul n A B i j : Nat) : Int)) H') : tDot K [v0, v1, v2, some (.ref r), some (.ref t), v5, v6] H Q := by
  refine ⟨_, rfl, _, rfl, r, t, _, _, rfl, SqL.of hr, SqT.of ht, fun D hD => ?_⟩
  refine lc_it (ZM.walk_mix (n := n) (rowM_len n A i) (by simp)) (fun m H' => Same H H' ∧ H' D = some (.lst ((((List.range n).map fun k => ((A i k * B k j : Nat) : Int)).take m).map V.int))) ⟨same_upd hD, by rw [upd_same]; rfl⟩ (fun m H' _ p => ⟨SqL.of (p.1 _ _ hr), SqT.of (p.1 _ _ ht)⟩) ?_ ?_
  · rintro m x H1 H2 hm ⟨sm1, eD⟩ ⟨Tp, u, v, rfl, nT, rfl, gu, gv⟩
    have eu : u = .int ((A i m : Nat) : Int) := by
      have := rowM_at A i hm
      rw [show (rowM n A i)[m]? = some u from gu] at this
      exact Option.some.inj this
    have ev : v = .int ((B m j : Nat) : Int) := by
      have gv : ((List.range n).map fun k => V.int ((B k j : Nat) : Int))[m]? = some v := gv
      rw [List.getElem?_map, List.getElem?_range hm] at gv
      exact (Option.some.inj gv).symm
    subst eu ev
    have s2 := same_upd (o := .tup [.int ((A i m : Nat) : Int), .int ((B m j : Nat) : Int)]) nT
    refine ⟨Tp, _, rfl, SqT.of upd_same, rfl, _, _, rfl, _, _, rfl, rfl, rfl, ?_⟩
    refine ⟨_, rfl, _, rfl, _, _, rfl, rfl, ?_, _, s2 _ _ eD, ?_, ?_, ?_⟩
    · show ((A i m : Nat) : Int).natAbs.log2 + ((B m j : Nat) : Int).natAbs.log2 < 1000000
      rw [Int.natAbs_natCast, Int.natAbs_natCast]
      have := hA m hm
      have := hB m hm
      omega
    · rw [List.length_map, List.length_take, List.length_map, List.length_range]
      exact small1000 (by omega)
    · intro c o ec
      rw [upd_ne (ne_of_none ec hD)]
      exact s2 _ _ (sm1 _ _ ec)
    · rw [upd_same, List.take_add_one, List.getElem?_map, List.getElem?_range hm, List.map_append]
      show _ = some (HO.lst (_ ++ [V.int ((A i m * B m j : Nat) : Int)]))
      rw [Int.natCast_mul]
  · rintro H1 ⟨sm1, eD⟩
    have e : (((List.range n).map fun k => ((A i k * B k j : Nat) : Int)).take n) = (List.range n).map fun k => ((A i k * B k j : Nat) : Int) := List.take_of_length_le (by simp)
    rw [e] at eD
    refine ⟨D, _, rfl, SqL.of eD, ?_⟩
    rw [sm_int]
    exact q H1 sm1
set_option maxHeartbeats 8000000 in
theorem line {H : Hp} {c r : Addr} {Ts : List Addr} {n i : Nat} {A B : Mx} {v0 v1 v4 v5 v6 : Option V} {Q : VK} (hc : H c = some (.lst (Ts.map V.ref))) (hl : Ts.length = n) (hT : ∀ (j : Nat) (T : Addr), Ts[j]? = some T → H T = some (.tup ((List.range n).map fun k => V.int ((B k j : Nat) : Int))))
    (hr : H r = some (.lst (rowM n A i))) (h8 : n ≤ 8) (hA : ∀ k, k < n → (A i k).log2 < 400000) (hB : ∀ k j, k < n → j < n → (B k j).log2 < 400000)
    (q : ∀ (D : Addr) (H' : Hp), Same H H' → H' D = some (.lst (rowM n (mul n A B) i)) → Q (.ref D) H') : tLine K [v0, v1, some (.ref c), some (.ref r), v4, v5, v6] H Q := by
  refine ⟨_, rfl, c, _, SqL, rfl, .inl rfl, SqL.of hc, fun J w D hD => ?_⟩
  refine lc_it w (fun m H' => Same H H' ∧ H' D = some (.lst ((rowM n (mul n A B) i).take m))) ⟨same_upd hD, by rw [upd_same]; rfl⟩ (fun m H' _ p => SqL.of (p.1 _ _ hc)) ?_ ?_
  · rintro m x H1 H2 hm ⟨sm1, eD⟩ ⟨rfl, gx⟩
    rw [List.length_map, hl] at hm
    rw [List.getElem?_map] at gx
    obtain ⟨T, hTm, rfl⟩ := Option.map_eq_some_iff.mp gx
    refine ⟨rfl, yes_if' ?_⟩
    show tDot K [v0, v1, some (.ref c), some (.ref r), some (.ref T), v5, v6] H2 _
    refine dot (sm1 _ _ hr) (sm1 _ _ (hT m T hTm)) h8 hA (fun k hk => hB k m hk hm) fun H3 s3 => ?_
    refine ⟨_, s3 _ _ eD, ?_, ?_, ?_⟩
    · rw [List.length_take, rowM_len]
      exact small1000 (by omega)
    · intro b o e
      rw [upd_ne (ne_of_none e hD)]
      exact s3 _ _ (sm1 _ _ e)
    · rw [upd_same, List.take_add_one, rowM_at _ i hm]
      rfl
  · rintro H1 ⟨sm1, eD⟩
    rw [List.length_map, hl, List.take_of_length_le (by rw [rowM_len]; exact Nat.le_refl _)] at eD
    exact q D H1 sm1 eD
set_option maxHeartbeats 8000000 in
theorem ok_prod (F : Fun K "product" "product" sProd f fd) (T : Bi mg) (tS : mg "sum" = none) : FnOk P w K mg base CX0 (k + 1) f fd ["one", "other"] spProd := by
  refine F.ok scProd (fun vs H Q E h => ?_) (fun cdv A outer s H vs Q E hr h => ?_)
  · obtain ⟨p, q, rs, qs, n, A, B, rfl, _⟩ := h
    rfl
  · obtain ⟨p, q, rs, qs, n, A, B, rfl, tp, tq, n1, n8, hA, hB, qq⟩ := h
    refine ⟨_, pss_cons (ps_set (i := 2) scProd.nd rfl (.inr rfl) (ZN.pe_listZip rfl (by rfl) T.list (by rfl) T.zip (pv 1)))
      (pss_one (ps_ret (pe_lc (own := [("line", 3)]) (g := gName 3) (tt := tYes) (te := tLine K) rfl scProd.nd (pi_seqA (pv 0)) (blkOk_by (N := NPd) (sc := defScope sProd) (by decide +kernel))
        (fun _ _ _ _ _ => by exact pg_name (i := 3) scProd.nd rfl (Or.inr rfl)) (fun _ _ _ _ _ => pts_nil)
        (fun _ _ _ _ _ => by exact (pe_lc (own := [("column", 4)]) (g := gName 4) (tt := tYes) (te := tDot K) rfl scProd.nd (pi_seqA (pv 2)) (blkOk_by (N := NPd) (sc := scP1) (by decide +kernel))
          (fun _ _ _ _ _ => by exact pg_name (i := 4) scProd.nd rfl (Or.inl rfl)) (fun _ _ _ _ _ => pts_nil)
          (fun _ _ _ _ _ => by exact (pe_callB (cr_sum rfl) (by rfl) tS (by decide +kernel) (pa_cons
            (pe_lc (own := [("a", 5), ("b", 6)]) (g := gTup K 2 (gCons (gName 5) (gCons (gName 6) gNil))) (tt := tYes) (te := tOp (rI CMulW fun i j => .int (i * j)) (tVar 5) (tVar 6)) rfl scProd.nd (ZM.pi_zipM (by rfl) T.zip (pa_cons (pv 3) (pa_cons (pv 4) pa_nil))) (blkOk_by (N := NPd) (sc := scP2) (by decide +kernel))
              (fun _ _ _ _ _ => by exact pg_tup rfl (pgs_cons (pg_name (i := 5) scProd.nd rfl (Or.inl rfl)) (pgs_cons (pg_name (i := 6) scProd.nd rfl (Or.inl rfl)) pgs_nil))) (fun _ _ _ _ _ => pts_nil)
              (fun _ _ _ _ _ => by exact pe_op op_mulW (pv 5) (pv 6))) pa_nil)))))))), ?_⟩
    refine ⟨_, rfl, q, qs, (List.range n).map fun i => rowM n B i, n, rfl, SqL.of tq.ls, by rw [List.length_map, List.length_range, tq.len], fun i l r hl hrr => ?_, fun r hrr => ?_, fun z => ?_, by rw [tq.len]; exact n8, n1, by omega, fun c Ts H1 s1 nc ec lT hT => ?_⟩
    · rw [List.getElem?_map] at hrr
      obtain ⟨i2, hi2, rfl⟩ := Option.map_eq_some_iff.mp hrr
      have hi : i < n := by
        have := (List.getElem?_eq_some_iff.mp hi2).1
        simpa using this
      rw [List.getElem?_range hi] at hi2
      cases hi2
      exact SqL.of (tq.row i l hl)
    · obtain ⟨i, _, rfl⟩ := List.mem_map.mp hrr
      exact rowM_len n B i
    · have := tq.len
      rw [z] at this
      simp at this
      omega
    have hT' : ∀ (j : Nat) (T : Addr), Ts[j]? = some T → H1 T = some (.tup ((List.range n).map fun k => V.int ((B k j : Nat) : Int))) := fun j T e => by
      have hj : j < n := by
        have := (List.getElem?_eq_some_iff.mp e).1
        omega
      rw [(hT j T e).2, List.map_map]
      congr 2
      refine List.map_congr_left fun i hi => ?_
      show (rowM n B i).getD j .non = _
      simp [List.getD, rowM_at B i hj]
    have s1 : Same H H1 := s1
    refine ⟨_, rfl, p, _, SqL, rfl, .inl rfl, SqL.of (s1 _ _ tp.ls), fun J w D hD => ?_⟩
    refine lc_it w (fun m H' => ∃ ts : List Addr, ts.length = m ∧ Same H1 H' ∧ H' D = some (.lst (ts.map V.ref)) ∧ ∀ (a : Nat) (r : Addr), ts[a]? = some r → H' r = some (.lst (rowM n (mul n A B) a)) ∧ r ≠ D) ⟨[], rfl, same_upd hD, upd_same, fun a r e => by cases e⟩ (fun m H' _ p => by obtain ⟨ts, _, s, _⟩ := p; exact SqL.of (s _ _ (s1 _ _ tp.ls))) ?_ ?_
    · rintro m x H2 H3 hm ⟨ts, hts, s2, eD, hh⟩ ⟨rfl, gx⟩
      rw [List.length_map, tp.len] at hm
      rw [List.getElem?_map] at gx
      obtain ⟨r, hrm, rfl⟩ := Option.map_eq_some_iff.mp gx
      refine ⟨rfl, yes_if' ?_⟩
      show tLine K [some (.ref p), some (.ref q), some (.ref c), some (.ref r), none, none, none] H3 _
      refine line (s2 _ _ ec) lT (fun j T e => s2 _ _ (hT' j T e)) (s2 _ _ (s1 _ _ (tp.row m r hrm))) n8 (fun k hk => hA m k hm hk) hB fun D2 H4 s4 e4 => ?_
      have D2D : D2 ≠ D ∨ D2 = D := by
        by_cases h : D2 = D
        · exact .inr h
        · exact .inl h
      have eD4 := s4 _ _ eD
      have ne : D2 ≠ D := fun z => by
        rw [z, eD4] at e4
        injection e4 with e4
        injection e4 with e4
        have lq := congrArg List.length e4
        rw [List.length_map, rowM_len, hts] at lq
        omega
      refine ⟨_, eD4, ?_, ts ++ [D2], by simp [hts], ?_, ?_, ?_⟩
      · rw [List.length_map]
        exact small1000 (by omega)
      · intro b o e
        rw [upd_ne (ne_of_none e hD)]
        exact s4 _ _ (s2 _ _ e)
      · rw [upd_same, List.map_append]
        rfl
      · intro a r2 e
        by_cases ha : a < ts.length
        · rw [List.getElem?_append_left ha] at e
          obtain ⟨h1, h2⟩ := hh a r2 e
          exact ⟨by rw [upd_ne h2]; exact s4 _ _ h1, h2⟩
        · rw [List.getElem?_append_right (by omega)] at e
          have ea : a - ts.length = 0 := by
            by_cases z : a - ts.length = 0
            · exact z
            · obtain ⟨y, hy⟩ : ∃ y, a - ts.length = y + 1 := ⟨a - ts.length - 1, by omega⟩
              rw [hy] at e
              cases e
          rw [ea] at e
          have e := Option.some.inj e
          rw [← e, upd_ne ne]
          have : a = m := by omega
          rw [this]
          exact ⟨e4, ne⟩
    · rintro H2 ⟨ts, hts, s2, eD, hh⟩
      rw [List.length_map, tp.len] at hts
      exact qq D ts H2 (s1.trans s2) ⟨eD, hts, fun a r e => (hh a r e).1⟩
end
end Lw
set_option Elab.async false
set_option linter.all false
set_option maxRecDepth 100000
/-! power, numbers of paths -/
namespace Lw
open PySem L2
abbrev sCl : Stmt := top 15
abbrev sCP : Stmt := top 21
abbrev sCC : Stmt := top 22
/-- the power of a table of edges -/
abbrev pwE (n : Int) (us : Es) (e : Nat) : Mx := pw n.toNat (cntN (psOf us)) e
def spCl : Sp := fun vs H Q _ => ∃ e lim : Int, vs = [.int e, .int lim] ∧ 1 ≤ e ∧ e ≤ lim ∧ Q .non H
structure GrOk (C : Addr) (H : Hp) (g : Addr) (n : Int) (us : Es) : Prop where
  gr : GraphAt C H g n us
  n1 : 1 ≤ n
  n8 : n ≤ 8
  l24 : us.length ≤ 24
  rg : ∀ e ∈ us, 0 ≤ e.2.1 ∧ e.2.1 < n ∧ 0 ≤ e.2.2 ∧ e.2.2 < n
def spCP (C : Addr) : Sp := fun vs H Q _ => ∃ (g : Addr) (n : Int) (us : Es) (e : Nat), vs = [.ref g, .int (e : Int)] ∧ GrOk C H g n us ∧ 1 ≤ e ∧ e ≤ 2000 ∧ ∀ H', Same H H' → Q (.int ((sm n.toNat (fun i => sm n.toNat (fun j => pwE n us e i j)) : Nat) : Int)) H'
def spCC (C : Addr) : Sp := fun vs H Q _ => ∃ (g : Addr) (n : Int) (us : Es) (e : Nat), vs = [.ref g, .int (e : Int)] ∧ GrOk C H g n us ∧ 1 ≤ e ∧ e ≤ 2000 ∧ ∀ H', Same H H' → Q (.int ((sm n.toNat (fun i => pwE n us e i i) : Nat) : Int)) H'
theorem bits_nat {e : Nat} (h : 1 ≤ e) : Builtin.Int.intBits ((e : Nat) : Int) = e.log2 + 1 := by
  unfold Builtin.Int.intBits
  rw [if_neg (show ¬ (((e : Nat) : Int) == 0) = true by simpa using (show e ≠ 0 by omega)), Int.natAbs_natCast]
theorem shr_top {e : Nat} (h : 1 ≤ e) : e >>> e.log2 = 1 := by
  rw [Nat.shiftRight_eq_div_pow]
  have h1 : 2 ^ e.log2 ≤ e := Nat.log2_self_le (by omega)
  have h2 : e < 2 ^ (e.log2 + 1) := (Nat.log2_lt (by omega)).mp (Nat.lt_succ_self _)
  rw [Nat.pow_succ] at h2
  have pos : 0 < 2 ^ e.log2 := Nat.pow_pos (by decide)
  refine Nat.le_antisymm (Nat.le_of_lt_succ ((Nat.div_lt_iff_lt_mul pos).mpr ?_)) ((Nat.le_div_iff_mul_le pos).mpr ?_)
  · rw [Nat.mul_comm]
    exact h2
  · omega
theorem shr_le (e s : Nat) : e >>> s ≤ e := by
  rw [Nat.shiftRight_eq_div_pow]
  exact Nat.div_le_self _ _
section
variable {P : Program} {w : World} {K : PySem.W.Frag} {mg : Str → Option Value} {base : Heap} {f C : Addr} {fd : FuncData} {k : Nat}
set_option maxHeartbeats 8000000 in
theorem ok_pow (F : Fun K "power" "power" sPow f fd) (T : Bi mg) (tR : mg "reversed" = none) (cP : C8.Cal P w K mg base 1 "product" spProd []) : FnOk P w K mg base CX0 (k + 2) f fd ["table", "exponent"] spPow := by
  refine F.ok scPow (fun vs H Q E h => ?_) (fun cdv A outer s H vs Q E hr h => ?_)
  · obtain ⟨p, rs, n, e, A, rfl, _⟩ := h
    rfl
  · obtain ⟨p, rs, n, e, A, rfl, tp, n1, n8, e1, e2, hA, qq⟩ := h
    refine ⟨_, pss_cons (ps_set (i := 2) scPow.nd rfl (.inl rfl) (pv 0))
      (pss_cons (ps_for PassesOwn.never rfl (pi_revR (by rfl) tR (prg_1 (by rfl) T.range (pe_op op_sub (pe_bits (pv 1)) pe_int))) (pg_name (i := 3) scPow.nd rfl (.inl rfl))
        (pss_cons (ps_set (i := 2) scPow.nd rfl (.inl rfl) (C8.pe_c cP hr (by omega) (by rfl) (pa_cons (pv 2) (pa_cons (pv 2) pa_nil))))
        (pss_one (ps_if (pt_truth (pe_op op_odd (pe_op op_shrN (pv 1) (pv 3)) pe_int) (fun _ => rfl)) (pss_one (ps_set (i := 2) scPow.nd rfl (.inl rfl) (C8.pe_c cP hr (by omega) (by rfl) (pa_cons (pv 2) (pa_cons (pv 0) pa_nil))))) pss_nil))))
      (pss_one (ps_ret (pv 2)))), ?_⟩
    have hlog : ∀ q i j, q ≤ 4000 → (pw n A q i j).log2 < 400000 := fun q i j hq => by
      have := pw_log n8 hA q i j
      omega
    have hm : ((Builtin.Int.intBits ((e : Nat) : Int) : Nat) : Int) - 1 = ((e.log2 : Nat) : Int) := by
      rw [bits_nat e1]
      omega
    have hl2 : e.log2 < 11 := (Nat.log2_lt (by omega)).mpr (by omega)
    refine ⟨_, rfl, _, rfl, _, rfl, _, _, rfl, rfl, ((e.log2 : Nat) : Int), congrArg V.int hm, by decide, by decide, by omega, by omega, ?_⟩
    have en : (((e.log2 : Nat) : Int) - 0).toNat = e.log2 := by omega
    rw [en]
    refine for_it (walk_rangeC (lo := 0 + ((e.log2 : Nat) : Int) - 1) (c := -1) (n := e.log2)) (fun i σ H' => ∃ (v3 : Option V) (R : Addr) (ts : List Addr), σ = [some (.ref p), some (.int (e : Int)), some (.ref R), v3] ∧ Same H H' ∧ TabM H' R ts n (pw n A (e >>> (e.log2 - i)))) ⟨none, p, rs, rfl, fun _ _ z => z, ?_⟩ (fun _ _ _ _ _ => True.intro) ?_ ?_
    · refine tp.congr fun i j hi hj => ?_
      rw [Nat.sub_zero, shr_top e1, pw_one A hi]
    · rintro i x σ H1 H2 hi ⟨v3, R, ts, rfl, s1, tR⟩ ⟨rfl, hx⟩
      have hs : e.log2 - i = (e.log2 - 1 - i) + 1 := by omega
      have hx : x = .int ((e.log2 - 1 - i : Nat) : Int) := by
        rw [hx]
        show V.int (0 + ((e.log2 : Nat) : Int) - 1 + ((i : Nat) : Int) * -1) = _
        congr 1
        omega
      subst hx
      rw [hs] at tR
      have q1 : e >>> (e.log2 - 1 - i + 1) ≤ 2000 := Nat.le_trans (shr_le _ _) e2
      refine ⟨_, rfl, _, rfl, R, R, ts, ts, n, _, _, rfl, tR, tR, n1, n8, fun i j _ _ => hlog _ i j (by omega), fun i j _ _ => hlog _ i j (by omega), fun R2 ts2 H3 s3 t2 => ?_⟩
      have sq : ((e : Int) / 2 ^ (e.log2 - 1 - i)) = ((e >>> (e.log2 - 1 - i) : Nat) : Int) := by
        rw [Nat.shiftRight_eq_div_pow]
        norm_cast
      have hb := fun (i2 j2 : Nat) (hj : j2 < n) => pw_bit (n := n) A e (e.log2 - 1 - i) (i := i2) hj
      have es : e.log2 - (i + 1) = e.log2 - 1 - i := by omega
      refine ⟨_, rfl, _, rfl, _, _, rfl, rfl, e >>> (e.log2 - 1 - i), congrArg V.int sq, rfl, _, rfl, ite2 (fun h => ?_) (fun h => ?_)⟩
      · have ho : (e >>> (e.log2 - 1 - i)) % 2 = 1 := by
          have h : ((((e >>> (e.log2 - 1 - i)) % 2 : Nat) : Int) != 0) = true := h
          have h := bne_iff_ne.mp h
          omega
        refine ⟨_, rfl, _, rfl, R2, p, ts2, rs, n, _, _, rfl, t2, tp.same (s1.trans s3), n1, n8, fun i j _ hj => ?_, fun i j _ _ => ?_, fun R4 ts4 H4 s4 t4 => ⟨_, R4, ts4, rfl, (s1.trans s3).trans s4, ?_⟩⟩
        · rw [← pw_add A _ _ hj]
          exact hlog _ i j (by omega)
        · have := hA i j
          by_cases z : A i j = 0
          · rw [z]
            decide
          · exact Nat.lt_trans ((Nat.log2_lt z).mpr (show A i j < 2 ^ 5 by omega)) (by decide)
        · rw [es]
          refine t4.congr fun i2 j2 _ hj => ?_
          have := hb i2 j2 hj
          rw [if_pos ho] at this
          exact this
      · have ho : ¬ (e >>> (e.log2 - 1 - i)) % 2 = 1 := fun z => h (by
          show ((((e >>> (e.log2 - 1 - i)) % 2 : Nat) : Int) != 0) = true
          rw [z]
          rfl)
        refine ⟨_, R2, ts2, rfl, s1.trans s3, ?_⟩
        rw [es]
        refine t2.congr fun i2 j2 _ hj => ?_
        have := hb i2 j2 hj
        rw [if_neg ho] at this
        exact this
    · rintro σ H1 ⟨v3, R, ts, rfl, s1, tR⟩
      rw [Nat.sub_self, Nat.shiftRight_zero] at tR
      exact ⟨_, rfl, qq R ts H1 s1 tR⟩
theorem scCl : FnScope ["length", "limit"] ["length", "limit"] (defScope sCl) := ⟨rfl, rfl, rfl, by decide +kernel, rfl, by decide +kernel, by decide +kernel⟩
theorem scCP : FnScope ["graph", "length", "line"] ["graph", "length"] (defScope sCP) := ⟨rfl, rfl, rfl, by decide +kernel, rfl, by decide +kernel, by decide +kernel⟩
theorem scCC : FnScope ["graph", "length", "state", "line"] ["graph", "length"] (defScope sCC) := ⟨rfl, rfl, rfl, by decide +kernel, rfl, by decide +kernel, by decide +kernel⟩
theorem ok_cl (F : Fun K "check_length" "check_length" sCl f fd) : FnOk P w K mg base CX0 (k + 1) f fd ["length", "limit"] spCl := by
  refine F.ok scCl (fun vs H Q E h => ?_) (fun cdv A outer s H vs Q E hr h => ?_)
  · obtain ⟨e, l, rfl, _⟩ := h
    rfl
  · obtain ⟨e, l, rfl, h1, h2, q⟩ := h
    refine ⟨_, pss_one (ps_if (pt_not (pt_chain op_le op_le pe_int (pv 0) (pv 1))) (pss_one ps_never) pss_nil), ?_⟩
    refine ⟨_, rfl, _, _, rfl, rfl, _, rfl, if_t (decide_eq_true h1) ⟨_, rfl, _, _, rfl, rfl, _, rfl, ?_⟩⟩
    exact if_f (by rw [decide_eq_true h2]; rfl) q
theorem tab_cnt {H : Hp} {p : Addr} {rs : List Addr} {m : Nat} {ps : List (Int × Int)} (h : CntAt H p rs m ps) : TabM H p rs m (cntN ps) := ⟨h.ls, h.len, fun a r e => h.row a r e⟩
set_option maxHeartbeats 8000000 in
theorem ok_cp (F : Fun K "count_paths" "count_paths" sCP f fd) {tk : Tok} (mx : mg "MAX_COUNTED" = some (.int 2000 tk)) (tS : mg "sum" = none) (cL : C8.Cal P w K mg base 1 "check_length" spCl []) (cW : C8.Cal P w K mg base 2 "power" spPow []) (mC : C8.Met P w K mg base 1 C "counts" (spCounts C) []) : FnOk P w K mg base CX0 (k + 3) f fd ["graph", "length"] (spCP C) := by
  refine F.ok scCP (fun vs H Q E h => ?_) (fun cdv A outer s H vs Q E hr h => ?_)
  · obtain ⟨g, n, us, e, rfl, _⟩ := h
    rfl
  · obtain ⟨g, n, us, e, rfl, G, e1, e2, q⟩ := h
    obtain ⟨⟨dx, t, h1, h2⟩, ed⟩ := id G.gr
    refine ⟨_, pss_cons (ps_expr (C8.pe_c cL hr (by omega) (by rfl) (pa_cons (pv 1) (pa_cons (pe_glob (v := .int 2000) (by rfl) mx ⟨_, rfl⟩) pa_nil))))
      (pss_one (ps_ret (pe_callB (cr_sum rfl) (by rfl) tS (by decide +kernel) (pa_cons
        (pe_lc (own := [("line", 2)]) (g := gName 2) (tt := tYes) (te := tCB (rSum K) (tCons (tVar 2) tNil)) rfl scCP.nd (pi_seqA (C8.pe_c cW hr (by omega) (by rfl) (pa_cons (C8.pe_mt0 mC hr (by omega) (pv 0)) (pa_cons (pv 1) pa_nil)))) (blkOk_by (N := ["graph", "length", "line"]) (sc := defScope sCP) (by decide +kernel))
          (fun _ _ _ _ _ => by exact pg_name (i := 2) scCP.nd rfl (Or.inl rfl)) (fun _ _ _ _ _ => pts_nil)
          (fun _ _ _ _ _ => by exact pe_callB (cr_sum rfl) (by rfl) tS (by decide +kernel) (pa_cons (pv 2) pa_nil))) pa_nil)))), ?_⟩
    have n1 := G.n1
    have n8 := G.n8
    refine ⟨_, rfl, _, _, rfl, by omega, by omega, ?_⟩
    refine ⟨_, rfl, g, dx, _, rfl, h1, look_no _ _ (by decide +kernel) (by decide +kernel), g, n, us, rfl, G.gr, by omega, by omega, Nat.le_trans G.l24 (by decide), G.rg, fun p rs H1 s1 np nr ca => ?_⟩
    refine ⟨_, rfl, p, rs, n.toNat, e, _, rfl, tab_cnt ca, by omega, by omega, e1, e2, fun i j => Nat.le_trans (cntN_le _ _ _) (by unfold psOf; rw [List.length_map]; exact Nat.le_trans G.l24 (by decide)), fun D ts H2 s2 tD => ?_⟩
    refine ⟨D, _, SqL, rfl, .inl rfl, SqL.of tD.ls, fun J w L hL => ?_⟩
    refine lc_it w (fun m H' => Same H2 H' ∧ H' L = some (.lst ((((List.range n.toNat).map fun i => ((sm n.toNat (fun j => pwE n us e i j) : Nat) : Int)).take m).map V.int))) ⟨same_upd hL, by rw [upd_same]; rfl⟩ (fun m H' _ p => SqL.of (p.1 _ _ tD.ls)) ?_ ?_
    · rintro m x H3 H4 hm ⟨s3, eL⟩ ⟨rfl, gx⟩
      rw [List.length_map, tD.len] at hm
      rw [List.getElem?_map] at gx
      obtain ⟨r, hrr, rfl⟩ := Option.map_eq_some_iff.mp gx
      have er : H4 r = some (.lst (((List.range n.toNat).map fun j => ((pwE n us e m j : Nat) : Int)).map V.int)) := by
        rw [s3 _ _ (tD.row m r hrr)]
        unfold rowM
        rw [List.map_map]
        rfl
      refine ⟨rfl, ?_⟩
      refine ⟨_, rfl, r, _, rfl, SqL.of er, ?_⟩
      rw [sm_int]
      refine ⟨_, eL, ?_, ?_, ?_⟩
      · rw [List.length_map, List.length_take, List.length_map, List.length_range]
        exact small1000 (by omega)
      · intro b o ec
        rw [upd_ne (ne_of_none ec hL)]
        exact s3 _ _ ec
      · rw [upd_same, List.take_add_one, List.getElem?_map, List.getElem?_range hm, List.map_append]
        rfl
    · rintro H3 ⟨s3, eL⟩
      rw [List.length_map, tD.len, List.take_of_length_le (by simp)] at eL
      refine ⟨L, _, rfl, SqL.of eL, ?_⟩
      rw [sm_int]
      exact q H3 ((s1.trans s2).trans s3)
set_option maxHeartbeats 8000000 in
theorem ok_cc (F : Fun K "count_closed" "count_closed" sCC f fd) {tk : Tok} (mx : mg "MAX_COUNTED" = some (.int 2000 tk)) (tS : mg "sum" = none) (tE : mg "enumerate" = none) (cL : C8.Cal P w K mg base 1 "check_length" spCl []) (cW : C8.Cal P w K mg base 2 "power" spPow []) (mC : C8.Met P w K mg base 1 C "counts" (spCounts C) []) : FnOk P w K mg base CX0 (k + 3) f fd ["graph", "length"] (spCC C) := by
  refine F.ok scCC (fun vs H Q E h => ?_) (fun cdv A outer s H vs Q E hr h => ?_)
  · obtain ⟨g, n, us, e, rfl, _⟩ := h
    rfl
  · obtain ⟨g, n, us, e, rfl, G, e1, e2, q⟩ := h
    obtain ⟨⟨dx, t, h1, h2⟩, ed⟩ := id G.gr
    refine ⟨_, pss_cons (ps_expr (C8.pe_c cL hr (by omega) (by rfl) (pa_cons (pv 1) (pa_cons (pe_glob (v := .int 2000) (by rfl) mx ⟨_, rfl⟩) pa_nil))))
      (pss_one (ps_ret (pe_callB (cr_sum rfl) (by rfl) tS (by decide +kernel) (pa_cons
        (pe_lc (own := [("state", 2), ("line", 3)]) (g := gTup K 2 (gCons (gName 2) (gCons (gName 3) gNil))) (tt := tYes) (te := tOp (rIxL K) (tVar 3) (tVar 2)) rfl scCC.nd (pi_enumA (by rfl) tE (pa_cons (C8.pe_c cW hr (by omega) (by rfl) (pa_cons (C8.pe_mt0 mC hr (by omega) (pv 0)) (pa_cons (pv 1) pa_nil))) pa_nil)) (blkOk_by (N := ["graph", "length", "state", "line"]) (sc := defScope sCC) (by decide +kernel))
          (fun _ _ _ _ _ => by exact pg_tup rfl (pgs_cons (pg_name (i := 2) scCC.nd rfl (Or.inl rfl)) (pgs_cons (pg_name (i := 3) scCC.nd rfl (Or.inl rfl)) pgs_nil))) (fun _ _ _ _ _ => pts_nil)
          (fun _ _ _ _ _ => by exact pe_ix ix_list (pv 3) (pv 2) (fun _ _ => rfl))) pa_nil)))), ?_⟩
    have n1 := G.n1
    have n8 := G.n8
    refine ⟨_, rfl, _, _, rfl, by omega, by omega, ?_⟩
    refine ⟨_, rfl, g, dx, _, rfl, h1, look_no _ _ (by decide +kernel) (by decide +kernel), g, n, us, rfl, G.gr, by omega, by omega, Nat.le_trans G.l24 (by decide), G.rg, fun p rs H1 s1 np nr ca => ?_⟩
    refine ⟨_, rfl, p, rs, n.toNat, e, _, rfl, tab_cnt ca, by omega, by omega, e1, e2, fun i j => Nat.le_trans (cntN_le _ _ _) (by unfold psOf; rw [List.length_map]; exact Nat.le_trans G.l24 (by decide)), fun D ts H2 s2 tD => ?_⟩
    refine ⟨D, _, SqL, rfl, .inl rfl, SqL.of tD.ls, fun J w L hL => ?_⟩
    refine lc_it w (fun m H' => Same H2 H' ∧ H' L = some (.lst ((((List.range n.toNat).map fun i => ((pwE n us e i i : Nat) : Int)).take m).map V.int))) ⟨same_upd hL, by rw [upd_same]; rfl⟩ (fun m H' _ p => SqL.of (p.1 _ _ tD.ls)) ?_ ?_
    · rintro m x H3 H4 hm ⟨s3, eL⟩ ⟨Tp, u, v, rfl, nT, rfl, gu, gv⟩
      rw [List.length_map, tD.len] at hm
      have eu : u = .int ((m : Nat) : Int) := (Option.some.inj gu).symm
      subst eu
      have gv : (ts.map V.ref)[m]? = some v := gv
      rw [List.getElem?_map] at gv
      obtain ⟨r, hrr, rfl⟩ := Option.map_eq_some_iff.mp gv
      have s4 := same_upd (o := .tup [.int ((m : Nat) : Int), .ref r]) nT
      have er := s4 _ _ (s3 _ _ (tD.row m r hrr))
      refine ⟨Tp, _, rfl, SqT.of upd_same, rfl, _, _, rfl, _, _, rfl, rfl, rfl, ?_⟩
      refine ⟨_, rfl, _, rfl, r, _, _, .int ((pwE n us e m m : Nat) : Int), rfl, rfl, SqL.of er, atI_nat (rowM_at _ m hm), _, s4 _ _ eL, ?_, ?_, ?_⟩
      · rw [List.length_map, List.length_take, List.length_map, List.length_range]
        exact small1000 (by omega)
      · intro b o ec
        rw [upd_ne (ne_of_none ec hL)]
        exact s4 _ _ (s3 _ _ ec)
      · rw [upd_same, List.take_add_one, List.getElem?_map, List.getElem?_range hm, List.map_append]
        rfl
    · rintro H3 ⟨s3, eL⟩
      rw [List.length_map, tD.len, List.take_of_length_le (by simp)] at eL
      refine ⟨L, _, rfl, SqL.of eL, ?_⟩
      rw [sm_int]
      exact q H3 ((s1.trans s2).trans s3)
end
end Lw
set_option Elab.async false
set_option linter.all false
set_option maxRecDepth 100000
/-! sorted of a tuple of ints -/
namespace Lw
open PySem PySem.Spec PyProof.Rows L2
def rSrtT (K : PySem.W.Frag) : List V → Hp → VK → Prop := fun vs H Q => ∃ (a : Addr) (ns : List Int), vs = [V.ref a] ∧ SqT K H a (ns.map V.int) ∧
  ∀ (ns' : List Int) (p : Addr), ns'.Perm ns → ns'.Pairwise (· ≤ ·) → H p = none → Q (.ref p) (upd H p (.lst (ns'.map V.int)))
section
variable {X : Cx}
theorem cr_srtT : CallR X (.builtin "sorted") (rSrtT X.K) := by
  rintro pins s σ H _ us Q I r ⟨a, ns, rfl, sq, q⟩
  obtain ⟨its, vals, ⟨o, get, cl, n, dat⟩, short⟩ := I.tuple sq
  have len : its.length ≤ sizeLine := by
    rw [← vals.length]
    exact short
  have are := vals.ints
  rw [Vals.ref1 r]
  refine Calls.call_function_entry kind_sorted plain_sorted entry_sorted (args_sorted1 _) ?_
  unfold Builtin.«sorted»
  refine wpAny_bind (m := checkCount "sorted" 1 1 _) (wpAny_pure (wpAny_bind (wpAny_collect_seq a (.inr rfl) get cl dat (fun g up => ?_) (by rw [List.size_toArray]; exact len))))
  have J : Inv X pins σ H { s with heap := g } := I.kept (t' := s.toks) up
  refine wpAny_bind (wpAny_newList ?_ len)
  have top : (g.push (seqObj "list" its.toArray 0)).get? g.objs.size = some (seqObj "list" its.toArray 0) := Heap.get?_push_size _ rfl
  show wpAny _ _ _ _ _ { s with heap := g.push (seqObj "list" its.toArray 0) }
  refine wpAny_bind (wpAny_holding (wpAny_call_entry slot_list_sort ⟨_, top, rfl⟩ entry_list_sort (SrtO.list_sort_ord (s := { s with heap := g.push (seqObj "list" its.toArray 0) }) SrtO.swo_int top len (fun two => SrtO.ints_sortable are two) fun out so st => ⟨_, rfl, ?_⟩) (args_list_sort _)))
  obtain ⟨i1, i2, i3⟩ := SrtO.ints_out are so st
  obtain ⟨ep, here⟩ := sortedHeap_at (vs := its) (out := out.toArray) top
  have fits : ((out.map SrtO.iv).map V.int).length ≤ sizeLine := by
    have e := i2.length_eq
    rw [List.length_map] at e short ⊢
    rw [List.length_map, e]
    exact short
  refine wpAny_pure ⟨_, rfl, .ref g.objs.size, upd H g.objs.size (.lst ((out.map SrtO.iv).map V.int)), J.laid (t' := s.toks) (fun b u e => ?_) (Nat.le_refl _) ⟨fits, out, ep, vals_of_ints i1, here⟩, rfl, q _ _ i2 i3 (J.hok.fresh (Nat.le_refl _))⟩
  have lt := Heap.lt_size e
  rw [sortedHeap_old (Nat.ne_of_lt lt) (by rw [Heap.size_push]; exact Nat.lt_succ_of_lt lt)]
  exact Heap.get?_push_of_some _ e
end
end Lw
set_option Elab.async false
set_option linter.all false
set_option maxRecDepth 100000
/-! profiles of states; whether a number fits -/
namespace Lw
open PySem L2
abbrev sPf : Stmt := top 54
abbrev sFb : Stmt := top 55
abbrev NPf : List Str := ["counts", "columns", "state"]
abbrev NFb : List Str := ["one", "other", "numbers", "number", "state", "before", "taken"]
/-- numbers as values -/
def nV (s : List Nat) : List V := s.map fun k => V.int ((k : Nat) : Int)
theorem nV_len (s : List Nat) : (nV s).length = s.length := by
  unfold nV
  simp
theorem nV_at {s : List Nat} {i : Nat} (h : i < s.length) : (nV s)[i]? = some (.int ((s.getD i 0 : Nat) : Int)) := by
  unfold nV
  simp [List.getD, h]
/-- the profile at t -/
def PfI (H : Hp) (D t : Addr) (n : Nat) (ps : Ps) (i : Nat) : Prop := ∃ a b : Addr, a ≠ D ∧ b ≠ D ∧ H t = some (.tup [.int (cnt ps i i), .ref a, .ref b]) ∧ H a = some (.lst ((srtI (rowL n ps i)).map V.int)) ∧ H b = some (.lst ((srtI (colL n ps i)).map V.int))
theorem PfI.same {H H' : Hp} {D t : Addr} {n : Nat} {ps : Ps} {i : Nat} (h : PfI H D t n ps i) (s : Same H H') : PfI H' D t n ps i := by
  obtain ⟨a, b, na, nb, h1, h2, h3⟩ := h
  exact ⟨a, b, na, nb, s _ _ h1, s _ _ h2, s _ _ h3⟩
theorem PfI.off {H : Hp} {D t : Addr} {n : Nat} {ps : Ps} {i : Nat} {xs : List V} {o : HO} (h : PfI H D t n ps i) (e : H D = some (.lst xs)) : PfI (upd H D o) D t n ps i := by
  obtain ⟨a, b, na, nb, h1, h2, h3⟩ := h
  refine ⟨a, b, na, nb, ?_, by rw [upd_ne na]; exact h2, by rw [upd_ne nb]; exact h3⟩
  rw [upd_ne fun z => ?_]
  · exact h1
  · rw [z, e] at h1
    cases h1
def PfAt (H : Hp) (D : Addr) (n m : Nat) (ps : Ps) : Prop := ∃ ts : List Addr, H D = some (.lst (ts.map V.ref)) ∧ ts.length = m ∧ ∀ (i : Nat) (t : Addr), ts[i]? = some t → PfI H D t n ps i
theorem PfAt.same {H H' : Hp} {D : Addr} {n m : Nat} {ps : Ps} (h : PfAt H D n m ps) (s : Same H H') : PfAt H' D n m ps := by
  obtain ⟨ts, h1, h2, h3⟩ := h
  exact ⟨ts, s _ _ h1, h2, fun i t e => (h3 i t e).same s⟩
def spPf : Sp := fun vs H Q _ => ∃ (T : Addr) (rs : List Addr) (n : Nat) (ps : Ps), vs = [.ref T] ∧ CntAt H T rs n ps ∧ 1 ≤ n ∧ n ≤ 8 ∧ ∀ (D : Addr) (H' : Hp), Same H H' → H D = none → PfAt H' D n n ps → Q (.ref D) H'
def spFb : Sp := fun vs H Q _ => ∃ (T1 T2 N : Addr) (r1 r2 : List Addr) (n k : Nat) (ps qs : Ps) (s : List Nat), vs = [.ref T1, .ref T2, .ref N, .int (k : Int)] ∧ CntAt H T1 r1 n ps ∧ CntAt H T2 r2 n qs ∧ H N = some (.tup (nV s)) ∧ s.length < n ∧ k < n ∧ n ≤ 8 ∧ (∀ x ∈ s, x < n) ∧
  ∀ H', Same H H' → Q (.bl (fitsB ps qs s k)) H'
theorem cntRow_ints (ps : Ps) (n i : Nat) : cntRow ps n i = (rowL n ps i).map V.int := by
  unfold cntRow rowL
  rw [List.map_map]
  rfl
abbrev tSt (K : PySem.W.Frag) (a b : Nat) : TE := tOp (rIxL K) (tVar a) (tVar b)
abbrev tPf (K : PySem.W.Frag) : TE := tTup (tCons (tOp (rIxL K) (tSt K 0 2) (tVar 2)) (tCons (tCB (rSortedI K) (tCons (tSt K 0 2) tNil)) (tCons (tCB (rSrtT K) (tCons (tSt K 1 2) tNil)) tNil)))
abbrev tFb (K : PySem.W.Frag) : TE := tAndV (tOp rEq (tOp (rIxL K) (tSt K 0 4) (tVar 5)) (tOp (rIxL K) (tSt K 1 3) (tVar 6))) (tOp rEq (tOp (rIxL K) (tSt K 0 5) (tVar 4)) (tOp (rIxL K) (tSt K 1 6) (tVar 3)))
section
variable {P : Program} {w : World} {K : PySem.W.Frag} {mg : Str → Option Value} {base : Heap} {f : Addr} {fd : FuncData} {k : Nat}
theorem scPf : FnScope NPf ["counts"] (defScope sPf) := ⟨rfl, rfl, rfl, by decide +kernel, rfl, by decide +kernel, by decide +kernel⟩
theorem scFb : FnScope NFb ["one", "other", "numbers", "number"] (defScope sFb) := ⟨rfl, rfl, rfl, by decide +kernel, rfl, by decide +kernel, by decide +kernel⟩
set_option maxHeartbeats 8000000 in
theorem ok_pf (F : Fun K "state_profiles" "state_profiles" sPf f fd) (T : Bi mg) (hs : mg "sorted" = none) : FnOk P w K mg base CX0 (k + 1) f fd ["counts"] spPf := by
  refine F.ok scPf (fun vs H Q E h => ?_) (fun cdv A outer s H vs Q E hr h => ?_)
  · obtain ⟨T, rs, n, ps, rfl, _⟩ := h
    rfl
  · obtain ⟨Tb, rs, n, ps, rfl, ca, n1, n8, q⟩ := h
    refine ⟨_, pss_cons (ps_set (i := 1) scPf.nd rfl (.inr rfl) (ZN.pe_listZip rfl (by rfl) T.list (by rfl) T.zip (pv 0)))
      (pss_one (ps_ret (pe_lc (own := [("state", 2)]) (g := gName 2) (tt := tYes) (te := tPf K) rfl scPf.nd (pi_range1 (by rfl) T.range (pa_cons (pe_callB call_len_seq (by rfl) T.len PySem.boot_len (pa_cons (pv 0) pa_nil)) pa_nil)) (blkOk_by (N := NPf) (sc := defScope sPf) (by decide +kernel))
        (fun _ _ _ _ _ => by exact pg_name (i := 2) scPf.nd rfl (Or.inl rfl)) (fun _ _ _ _ _ => pts_nil)
        (fun _ _ _ _ _ => by exact pe_tup (pa_cons (pe_ix ix_list (pe_ix ix_list (pv 0) (pv 2) (fun _ _ => rfl)) (pv 2) (fun _ _ => rfl)) (pa_cons (pe_callB cr_sortedI (by rfl) hs (by decide +kernel) (pa_cons (pe_ix ix_list (pv 0) (pv 2) (fun _ _ => rfl)) pa_nil)) (pa_cons (pe_callB cr_srtT (by rfl) hs (by decide +kernel) (pa_cons (pe_ix ix_list (pv 1) (pv 2) (fun _ _ => rfl)) pa_nil)) pa_nil))))))), ?_⟩
    refine ⟨_, rfl, Tb, rs, (List.range n).map fun i => cntRow ps n i, n, rfl, SqL.of ca.ls, by rw [List.length_map, List.length_range, ca.len], fun i l r hl hrr => ?_, fun r hrr => ?_, fun z => ?_, by rw [ca.len]; exact n8, n1, by omega, fun c Ts H2 s2 nc ec lT hT => ?_⟩
    · rw [List.getElem?_map] at hrr
      obtain ⟨i2, hi2, rfl⟩ := Option.map_eq_some_iff.mp hrr
      have hi : i < n := by
        have := (List.getElem?_eq_some_iff.mp hi2).1
        simpa using this
      rw [List.getElem?_range hi] at hi2
      cases hi2
      exact SqL.of (ca.row i l hl)
    · obtain ⟨i, _, rfl⟩ := List.mem_map.mp hrr
      exact cntRow_len ps n i
    · have := ca.len
      rw [z] at this
      simp at this
      omega
    have hT' : ∀ (j : Nat) (t : Addr), Ts[j]? = some t → H2 t = some (.tup ((colL n ps j).map V.int)) := fun j t e => by
      have hj : j < n := by
        have := (List.getElem?_eq_some_iff.mp e).1
        omega
      rw [(hT j t e).2, List.map_map]
      unfold colL
      rw [List.map_map]
      congr 2
      refine List.map_congr_left fun i hi => ?_
      show (cntRow ps n i).getD j .non = _
      simp [List.getD, cntRow_at ps hj]
    have s2 : Same H H2 := s2
    have ca2 := ca.same s2
    have lr := ca.len
    refine ⟨_, rfl, Tb, _, rfl, .inl (SqL.of ca2.ls), _, rfl, by rw [List.length_map]; omega, by rw [List.length_map]; omega, fun D hD => ?_⟩
    refine lc_it (walk_range (lo := 0) (n := (((rs.map V.ref).length : Nat) : Int).toNat)) (fun m H' => Same H2 H' ∧ PfAt H' D n m ps) ⟨same_upd hD, [], upd_same, rfl, fun i t e => by simp at e⟩ (fun _ _ _ _ => True.intro) ?_ ?_
    · rintro i x H3 H4 hi ⟨s3, ts, e1, e2, e3⟩ ⟨rfl, hx⟩
      have hx : x = .int (i : Int) := by
        rw [hx]
        show V.int (0 + (i : Int)) = _
        rw [Int.zero_add]
      subst hx
      have hi : i < n := by
        rw [List.length_map, lr] at hi
        omega
      have ca3 := ca2.same s3
      obtain ⟨r, hr'⟩ : ∃ r, rs[i]? = some r := ⟨_, List.getElem?_eq_getElem (by omega)⟩
      obtain ⟨t, ht⟩ : ∃ t, Ts[i]? = some t := ⟨_, List.getElem?_eq_getElem (by omega)⟩
      have ar : atI (rs.map V.ref) (i : Int) = some (.ref r) := atI_nat (by rw [List.getElem?_map, hr']; rfl)
      have at_ : atI (Ts.map V.ref) (i : Int) = some (.ref t) := atI_nat (by rw [List.getElem?_map, ht]; rfl)
      have er := ca3.row i r hr'
      refine ⟨rfl, ?_⟩
      refine ⟨_, rfl, _, rfl, Tb, _, _, _, rfl, rfl, SqL.of ca3.ls, ar, _, rfl, r, _, _, _, rfl, rfl, SqL.of er, cntRow_col ps hi, ?_⟩
      refine ⟨_, rfl, _, rfl, Tb, _, _, _, rfl, rfl, SqL.of ca3.ls, ar, r, rowL n ps i, rfl, by rw [← cntRow_ints]; exact SqL.of er, fun xs a p1 p2 na => ?_⟩
      rw [srt_uniq p1 p2]
      have s4 := same_upd (o := .lst ((srtI (rowL n ps i)).map V.int)) na
      have ea : upd H4 a (.lst ((srtI (rowL n ps i)).map V.int)) a = some (.lst ((srtI (rowL n ps i)).map V.int)) := upd_same
      have aD : a ≠ D := (ne_of_none e1 na).symm
      generalize upd H4 a (.lst ((srtI (rowL n ps i)).map V.int)) = H5 at *
      refine ⟨_, rfl, _, rfl, c, _, _, _, rfl, rfl, SqL.of (s4 _ _ (s3 _ _ ec)), at_, t, colL n ps i, rfl, SqT.of (s4 _ _ (s3 _ _ (hT' i t ht))), fun ys b p3 p4 nb => ?_⟩
      rw [srt_uniq p3 p4]
      have s5 := same_upd (o := .lst ((srtI (colL n ps i)).map V.int)) nb
      have eb : upd H5 b (.lst ((srtI (colL n ps i)).map V.int)) b = some (.lst ((srtI (colL n ps i)).map V.int)) := upd_same
      have bD : b ≠ D := (ne_of_none (s4 _ _ e1) nb).symm
      have ea := s5 _ _ ea
      generalize upd H5 b (.lst ((srtI (colL n ps i)).map V.int)) = H6 at *
      refine ⟨(by show 3 ≤ sizeLine; decide), fun u hu => ?_⟩
      have s6 := same_upd (o := .tup [.int (cnt ps i i), .ref a, .ref b]) hu
      have eu : upd H6 u (.tup [.int (cnt ps i i), .ref a, .ref b]) u = some (.tup [.int (cnt ps i i), .ref a, .ref b]) := upd_same
      have ea := s6 _ _ ea
      have eb := s6 _ _ eb
      generalize upd H6 u (.tup [.int (cnt ps i i), .ref a, .ref b]) = H7 at *
      have s37 := (s4.trans s5).trans s6
      have e7 := s37 _ _ e1
      refine ⟨_, e7, by rw [List.length_map]; exact small1000 (by omega), ?_, ts ++ [u], by rw [upd_same, List.map_append]; rfl, by simp [e2], fun j v hj => ?_⟩
      · intro b o e
        rw [upd_ne (ne_of_none e hD)]
        exact s37 _ _ (s3 _ _ e)
      · by_cases c2 : j < ts.length
        · rw [List.getElem?_append_left c2] at hj
          exact ((e3 j v hj).same s37).off e7
        · have : j = ts.length := by
            have := (List.getElem?_eq_some_iff.mp hj).1
            simp at this
            omega
          subst this
          rw [List.getElem?_concat_length] at hj
          cases hj
          refine PfI.off ⟨a, b, aD, bD, ?_, ?_, ?_⟩ e7 <;> rw [e2] <;> assumption
    · rintro H3 ⟨s3, pf⟩
      rw [List.length_map, Int.toNat_natCast, lr] at pf
      exact q D H3 (s2.trans s3) (s2.free hD) pf
set_option maxHeartbeats 8000000 in
theorem ok_fb (F : Fun K "fits_before" "fits_before" sFb f fd) (T : Bi mg) (he : mg "enumerate" = none) : FnOk P w K mg base CX0 (k + 1) f fd ["one", "other", "numbers", "number"] spFb := by
  refine F.ok scFb (fun vs H Q E h => ?_) (fun cdv A outer s H vs Q E hr h => ?_)
  · obtain ⟨T1, T2, N, r1, r2, n, k, ps, qs, s, rfl, _⟩ := h
    rfl
  · obtain ⟨T1, T2, N, r1, r2, n, k, ps, qs, st, rfl, c1, c2, hN, ls, hk, n8, lt, q⟩ := h
    refine ⟨_, pss_cons (ps_set (i := 4) scFb.nd rfl (.inr rfl) (pe_callB call_len_seq (by rfl) T.len PySem.boot_len (pa_cons (pv 2) pa_nil)))
      (pss_one (ps_ret (pe_callB (cr_all rfl) (by rfl) T.all (by decide +kernel) (pa_cons (pe_lc (own := [("before", 5), ("taken", 6)]) (g := gTup K 2 (gCons (gName 5) (gCons (gName 6) gNil))) (tt := tYes) (te := tFb K) rfl scFb.nd (pi_enumA (by rfl) he (pa_cons (pv 2) pa_nil)) (blkOk_by (N := NFb) (sc := defScope sFb) (by decide +kernel))
        (fun _ _ _ _ _ => by exact pg_tup rfl (pgs_cons (pg_name (i := 5) scFb.nd rfl (Or.inl rfl)) (pgs_cons (pg_name (i := 6) scFb.nd rfl (Or.inl rfl)) pgs_nil))) (fun _ _ _ _ _ => pts_nil)
        (fun _ _ _ _ _ => by exact pe_and (pe_cmpR op_eq (pe_ix ix_list (pe_ix ix_list (pv 0) (pv 4) (fun _ _ => rfl)) (pv 5) (fun _ _ => rfl)) (pe_ix ix_list (pe_ix ix_list (pv 1) (pv 3) (fun _ _ => rfl)) (pv 6) (fun _ _ => rfl)) (nomark _)) (pe_one (pe_cmpR op_eq (pe_ix ix_list (pe_ix ix_list (pv 0) (pv 5) (fun _ _ => rfl)) (pv 4) (fun _ _ => rfl)) (pe_ix ix_list (pe_ix ix_list (pv 1) (pv 6) (fun _ _ => rfl)) (pv 3) (fun _ _ => rfl)) (nomark _))))) pa_nil)))), ?_⟩
    refine ⟨_, rfl, N, _, rfl, .inr (SqT.of hN), ?_⟩
    rw [nV_len]
    refine ⟨_, rfl, N, _, SqT, rfl, .inr rfl, SqT.of hN, fun J wk D hD => ?_⟩
    refine lc_it wk (fun m H' => Same H H' ∧ H' D = some (.lst (((List.range m).map (fitB ps qs st k)).map V.bl))) ⟨same_upd hD, upd_same⟩ (fun m H' _ p => SqT.of (p.1 _ _ hN)) ?_ ?_
    · rintro m v H1 H2 hm ⟨sm, eD⟩ ⟨t, x, y, rfl, ht, rfl, gx, gy⟩
      cases gx
      rw [nV_len] at hm
      replace gy : (nV st)[m]? = some y := gy
      rw [nV_at hm] at gy
      cases gy
      have s2 := sm.trans (same_upd (o := .tup [.int (m : Int), .int ((st.getD m 0 : Nat) : Int)]) ht)
      have nt : t ≠ D := (ne_of_none eD ht).symm
      have hb : st.getD m 0 < n := by
        refine lt _ ?_
        simp [List.getD, hm]
      refine ⟨t, _, rfl, SqT.of upd_same, rfl, _, _, rfl, _, _, rfl, rfl, rfl, ?_⟩
      have eD : upd H1 t (.tup [.int (m : Int), .int ((st.getD m 0 : Nat) : Int)]) D = some (.lst (((List.range m).map (fitB ps qs st k)).map V.bl)) := by
        rw [upd_ne nt.symm]
        exact eD
      generalize upd H1 t (.tup [.int (m : Int), .int ((st.getD m 0 : Nat) : Int)]) = H3 at *
      have c1 := c1.same s2
      have c2 := c2.same s2
      have g1 : ∀ {a b : Nat}, a < n → b < n → ∃ r, atI (r1.map V.ref) (a : Int) = some (.ref r) ∧ SqL K H3 r (cntRow ps n a) ∧ atI (cntRow ps n a) (b : Int) = some (.int (cnt ps a b)) := fun {a b} ha hb => by
        have l := c1.len
        obtain ⟨r, hr'⟩ : ∃ r, r1[a]? = some r := ⟨_, List.getElem?_eq_getElem (by omega)⟩
        exact ⟨r, atI_nat (by rw [List.getElem?_map, hr']; rfl), SqL.of (c1.row a r hr'), cntRow_col ps hb⟩
      have g2 : ∀ {a b : Nat}, a < n → b < n → ∃ r, atI (r2.map V.ref) (a : Int) = some (.ref r) ∧ SqL K H3 r (cntRow qs n a) ∧ atI (cntRow qs n a) (b : Int) = some (.int (cnt qs a b)) := fun {a b} ha hb => by
        have l := c2.len
        obtain ⟨r, hr'⟩ : ∃ r, r2[a]? = some r := ⟨_, List.getElem?_eq_getElem (by omega)⟩
        exact ⟨r, atI_nat (by rw [List.getElem?_map, hr']; rfl), SqL.of (c2.row a r hr'), cntRow_col qs hb⟩
      obtain ⟨x1, a1, b1, d1⟩ := g1 ls (show m < n by omega)
      obtain ⟨x2, a2, b2, d2⟩ := g2 hk hb
      obtain ⟨x3, a3, b3, d3⟩ := g1 (show m < n by omega) ls
      obtain ⟨x4, a4, b4, d4⟩ := g2 hb hk
      have out : ∀ bb : Bool, bb = fitB ps qs st k m → ∃ xs, H3 D = some (.lst xs) ∧ xs.length < sizeLine ∧ (Same H (upd H3 D (.lst (xs ++ [.bl bb]))) ∧ upd H3 D (.lst (xs ++ [.bl bb])) D = some (.lst (((List.range (m + 1)).map (fitB ps qs st k)).map V.bl))) := fun bb e => by
        refine ⟨_, eD, ?_, ?_, ?_⟩
        · rw [List.length_map, List.length_map, List.length_range]
          exact small1000 (by omega)
        · intro b o e
          rw [upd_ne (ne_of_none e hD)]
          exact s2 _ _ e
        · rw [upd_same, List.range_succ, List.map_append, List.map_append, e]
          rfl
      refine ⟨_, rfl, _, rfl, T1, _, _, _, rfl, rfl, SqL.of c1.ls, a1, _, rfl, x1, _, _, _, rfl, rfl, b1, d1, _, rfl, _, rfl, T2, _, _, _, rfl, rfl, SqL.of c2.ls, a2, _, rfl, x2, _, _, _, rfl, rfl, b2, d2, rfl, _, rfl, ?_⟩
      unfold fitB at out
      by_cases e1 : cnt ps st.length m = cnt qs k (st.getD m 0)
      · refine if_t (decide_eq_true (congrArg V.int e1)) ?_
        refine ⟨_, rfl, _, rfl, T1, _, _, _, rfl, rfl, SqL.of c1.ls, a3, _, rfl, x3, _, _, _, rfl, rfl, b3, d3, _, rfl, _, rfl, T2, _, _, _, rfl, rfl, SqL.of c2.ls, a4, _, rfl, x4, _, _, _, rfl, rfl, b4, d4, rfl, ?_⟩
        refine out _ ?_
        rw [decide_eq_true e1, Bool.true_and, decide_eq_decide]
        exact ⟨fun z => V.int.inj z, fun z => congrArg V.int z⟩
      · refine if_f (decide_eq_false fun z => e1 (V.int.inj z)) ?_
        refine out _ ?_
        rw [decide_eq_false e1, Bool.false_and]
    · rintro H1 ⟨sm, eD⟩
      rw [nV_len] at eD
      refine ⟨D, _, rfl, SqL.of eD, ?_⟩
      have : ((List.range st.length).map (fitB ps qs st k)).all id = fitsB ps qs st k := by
        unfold fitsB
        rw [List.all_map]
        rfl
      rw [this]
      exact q H1 sm
end
end Lw
set_option Elab.async false
set_option linter.all false
set_option maxRecDepth 100000
/-! new numbers for the states -/
namespace Lw
open PySem L2
abbrev sFsn : Stmt := top 56
abbrev NFs : List Str := ["one", "other", "profiles", "wanted", "waiting", "numbers", "state", "number", "fitting"]
theorem eqv_pf (a b : Int) (xs ys us vs : List Int) : PyData.eqv (.tuple [.int a, .list (xs.map PyData.int), .list (ys.map PyData.int)]) (.tuple [.int b, .list (us.map PyData.int), .list (vs.map PyData.int)]) = decide ((a, xs, ys) = (b, us, vs)) := by
  show ((a == b) && (PyData.eqvAll (xs.map PyData.int) (us.map PyData.int) && (PyData.eqvAll (ys.map PyData.int) (vs.map PyData.int) && true))) = _
  rw [eqv_ints, eqv_ints]
  by_cases h1 : a = b <;> by_cases h2 : xs = us <;> by_cases h3 : ys = vs <;> simp [h1, h2, h3]
theorem sh_pf (a : Int) (xs ys : List Int) : SeqAt.shaped (.tuple [.int a, .list (xs.map PyData.int), .list (ys.map PyData.int)]) = true := by
  show ((true && (PyData.canLayAll0 (xs.map PyData.int) && (PyData.canLayAll0 (ys.map PyData.int) && true))) && decide (max 0 (max (PyData.depthAll (xs.map PyData.int) + 1) (max (PyData.depthAll (ys.map PyData.int) + 1) 0)) + 1 ≤ 64)) = true
  rw [lay_ints, lay_ints, dep_ints, dep_ints]
  rfl
theorem PfAt.dp {K : PySem.W.Frag} {H : Hp} {D : Addr} {n m : Nat} {ps : Ps} (h : PfAt H D n m ps) {i : Nat} (hi : i < m) : ∃ (xs : List V) (t : Addr), H D = some (.lst xs) ∧ atI xs (i : Int) = some (.ref t) ∧ Dp K H (.ref t) (.tuple [.int (cnt ps i i), .list ((srtI (rowL n ps i)).map PyData.int), .list ((srtI (colL n ps i)).map PyData.int)]) := by
  obtain ⟨ts, h1, h2, h3⟩ := h
  obtain ⟨t, ht⟩ : ∃ t, ts[i]? = some t := ⟨_, List.getElem?_eq_getElem (by omega)⟩
  obtain ⟨a, b, _, _, e1, e2, e3⟩ := h3 i t ht
  exact ⟨_, t, h1, atI_nat (by rw [List.getElem?_map, ht]; rfl), .tup (SqT.of e1) (.cons (.int _) (.cons (.lst (SqL.of e2) (dp_ints _)) (.cons (.lst (SqL.of e3) (dp_ints _)) .nil)))⟩
/-- tuples of numbers, the last first -/
def TA (H : Hp) : List Addr → List (List Nat) → Prop
  | [], [] => True
  | a :: as, s :: st => H a = some (.tup (nV s)) ∧ TA H as st
  | _, _ => False
theorem TA.len {H : Hp} : ∀ {as : List Addr} {st : List (List Nat)}, TA H as st → as.length = st.length
  | [], [], _ => rfl
  | a :: as, s :: st, h => congrArg (· + 1) (TA.len h.2)
theorem TA.same {H H' : Hp} (s : Same H H') : ∀ {as : List Addr} {st : List (List Nat)}, TA H as st → TA H' as st
  | [], [], _ => True.intro
  | a :: as, _ :: st, h => ⟨s _ _ h.1, TA.same s h.2⟩
theorem TA.off {H : Hp} {W : Addr} {xs : List V} {o : HO} (e : H W = some (.lst xs)) : ∀ {as : List Addr} {st : List (List Nat)}, TA H as st → TA (upd H W o) as st
  | [], [], _ => True.intro
  | a :: as, _ :: st, h => by
    refine ⟨?_, TA.off e h.2⟩
    rw [upd_ne fun z => ?_]
    · exact h.1
    · have := h.1
      rw [z, e] at this
      cases this
theorem TA.app {H : Hp} : ∀ {as bs : List Addr} {st rt : List (List Nat)}, TA H as st → TA H bs rt → TA H (as ++ bs) (st ++ rt)
  | [], _, [], _, _, h => h
  | _ :: _, _, _ :: _, _, h, g => ⟨h.1, TA.app h.2 g⟩
/-- how many wait below -/
def SB (n : Nat) : List (List Nat) → Prop
  | [] => True
  | s :: r => r.length ≤ n * s.length ∧ SB n r
theorem SB.more {n : Nat} {s : List Nat} {r : List (List Nat)} (h : SB n (s :: r)) : ∀ ks : List Nat, ks.length ≤ n → SB n (ks.map (fun k => s ++ [k]) ++ r)
  | [], _ => h.2
  | k :: ks, hl => by
    have hl : ks.length + 1 ≤ n := hl
    refine ⟨?_, SB.more h ks (by omega)⟩
    have h1 := h.1
    have e1 : (ks.map (fun k => s ++ [k]) ++ r).length = ks.length + r.length := by rw [List.length_append, List.length_map]
    have e2 : n * (s ++ [k]).length = n * s.length + n := by rw [List.length_append, List.length_singleton, Nat.mul_add, Nat.mul_one]
    show (ks.map (fun k => s ++ [k]) ++ r).length ≤ n * (s ++ [k]).length
    omega
theorem SB.len {n : Nat} {s : List Nat} {r : List (List Nat)} (h : SB n (s :: r)) (hl : s.length ≤ n) (n8 : n ≤ 8) : r.length ≤ 64 := by
  have h1 := h.1
  have h2 : n * s.length ≤ 8 * 8 := Nat.mul_le_mul n8 (by omega)
  omega
def AllN (n : Nat) (st : List (List Nat)) : Prop := ∀ s ∈ st, s.length ≤ n ∧ ∀ x ∈ s, x < n
theorem cands_mem {n : Nat} {ps qs : Ps} {s : List Nat} {k : Nat} (h : k ∈ cands n ps qs s) : k < n := by
  unfold cands at h
  exact List.mem_range.mp (List.mem_filter.mp h).1
theorem AllN.more {n : Nat} {ps qs : Ps} {s : List Nat} {r : List (List Nat)} (h : AllN n (s :: r)) (hl : s.length < n) : AllN n (exts n ps qs s ++ r) := by
  intro z hz
  rcases List.mem_append.mp hz with hz | hz
  · unfold exts at hz
    obtain ⟨k, hk, rfl⟩ := List.mem_map.mp hz
    refine ⟨by rw [List.length_append, List.length_singleton]; omega, fun x hx => ?_⟩
    rcases List.mem_append.mp hx with hx | hx
    · exact (h s List.mem_cons_self).2 x hx
    · rw [List.mem_singleton.mp hx]
      exact cands_mem hk
  · exact h z (List.mem_cons_of_mem _ hz)
def candT (n : Nat) (ps qs : Ps) (s : List Nat) (m : Nat) : List Nat := (List.range m).filter (candB n ps qs s)
theorem candT_succ (n : Nat) (ps qs : Ps) (s : List Nat) (m : Nat) : candT n ps qs s (m + 1) = candT n ps qs s m ++ (if candB n ps qs s m = true then [m] else []) := by
  unfold candT
  rw [List.range_succ, List.filter_append]
  congr 1
  by_cases e : candB n ps qs s m = true
  · rw [if_pos e, List.filter_cons_of_pos e]
    rfl
  · rw [if_neg e, List.filter_cons_of_neg e]
    rfl
theorem candT_len (n : Nat) (ps qs : Ps) (s : List Nat) (m : Nat) : (candT n ps qs s m).length ≤ m := by
  unfold candT
  have := List.length_filter_le (candB n ps qs s) (List.range m)
  simpa using this
theorem in_nV (k : Nat) (s : List Nat) : inV (.int (k : Int)) (nV s) = decide (k ∈ s) := by
  unfold inV nV
  rw [List.any_map, Bool.eq_iff_iff, List.any_eq_true, decide_eq_true_iff]
  constructor
  · rintro ⟨x, hx, e⟩
    have e : eqV (V.int ((x : Nat) : Int)) (V.int ((k : Nat) : Int)) = true := e
    have : x = k := by
      simp [eqV] at e
      omega
    rw [← this]
    exact hx
  · intro h
    exact ⟨k, h, by simp [eqV]⟩
theorem flat_nV (s : List Nat) : (nV s).all flatV = true := by
  unfold nV
  rw [List.all_map]
  simp [flatV]
theorem vals_one (n : Nat) (ps qs : Ps) : vals n ps qs [[]] = fsn n ps qs := by
  unfold vals fsn
  rw [List.findSome?_cons, List.length_nil, Nat.sub_zero]
  cases go n ps qs n [] <;> rfl
theorem nV_snoc (s : List Nat) (k : Nat) : nV (s ++ [k]) = nV s ++ [.int (k : Int)] := by
  unfold nV
  rw [List.map_append]
  rfl
def spFsn : Sp := fun vs H Q _ => ∃ (T1 T2 : Addr) (r1 r2 : List Addr) (n : Nat) (ps qs : Ps), vs = [.ref T1, .ref T2] ∧ CntAt H T1 r1 n ps ∧ CntAt H T2 r2 n qs ∧ 1 ≤ n ∧ n ≤ 8 ∧
  (∀ (t : List Nat) (N : Addr) (H' : Hp), Same H H' → fsn n ps qs = some t → H' N = some (.tup (nV t)) → Q (.ref N) H') ∧ (∀ H', Same H H' → fsn n ps qs = none → Q .non H')
abbrev tFit (K : PySem.W.Frag) : TT := tAnd (tTest (tOp (rIn K true) (tVar 7) (tVar 5))) (tAnd (tTest (tOp (rEqD K) (tSt K 3 7) (tSt K 2 6))) (tB (tCall spFb [] E0 (tCons (tVar 0) (tCons (tVar 1) (tCons (tVar 5) (tCons (tVar 7) tNil)))))))
abbrev tLonger (K : PySem.W.Frag) : TE := tOp (rCatA K) (tVar 5) (tTup (tCons (tVar 7) tNil))
section
variable {P : Program} {w : World} {K : PySem.W.Frag} {mg : Str → Option Value} {base : Heap} {f : Addr} {fd : FuncData} {k : Nat}
theorem scFs : FnScope NFs ["one", "other"] (defScope sFsn) := ⟨rfl, rfl, rfl, by decide +kernel, rfl, by decide +kernel, by decide +kernel⟩
set_option maxHeartbeats 8000000 in
theorem ok_fsn (F : Fun K "find_state_numbers" "find_state_numbers" sFsn f fd) (T : Bi mg) (hv : mg "reversed" = none) (cP : C8.Cal P w K mg base 1 "state_profiles" spPf []) (cF : C8.Cal P w K mg base 1 "fits_before" spFb []) : FnOk P w K mg base CX0 (k + 2) f fd ["one", "other"] spFsn := by
  refine F.ok scFs (fun vs H Q E h => ?_) (fun cdv A outer s H vs Q E hr h => ?_)
  · obtain ⟨T1, T2, r1, r2, n, ps, qs, rfl, _⟩ := h
    rfl
  · obtain ⟨T1, T2, r1, r2, n, ps, qs, rfl, c1, c2, n1, n8, q1, q2⟩ := h
    refine ⟨_, pss_cons (ps_set (i := 2) scFs.nd rfl (.inr rfl) (C8.pe_c cP hr (by omega) (by rfl) (pa_cons (pv 0) pa_nil)))
      (pss_cons (ps_set (i := 3) scFs.nd rfl (.inr rfl) (C8.pe_c cP hr (by omega) (by rfl) (pa_cons (pv 1) pa_nil)))
      (pss_cons (ps_set (i := 4) scFs.nd rfl (.inl rfl) (pe_lst (pa_cons (pe_tup pa_nil) pa_nil)))
      (pss_cons (ps_while PassesOwn.never (pt_truth (pv 4) (fun _ => rfl))
        (pss_cons (ps_set (i := 5) scFs.nd rfl (.inr rfl) (pe_bm0 PySem.F.plainAttrs_list PySem.F.slot_list_pop PySem.F.type_list_pop mt_pop (pv 4)))
        (pss_cons (ps_set (i := 6) scFs.nd rfl (.inr rfl) (pe_callB call_len_seq (by rfl) T.len PySem.boot_len (pa_cons (pv 5) pa_nil)))
        (pss_cons (ps_if (pt_cmpR op_eq (pv 6) (pe_callB call_len_seq (by rfl) T.len PySem.boot_len (pa_cons (pv 0) pa_nil)) (nomark _)) (pss_one (ps_ret (pv 5))) pss_nil)
        (pss_cons (ps_setLc (i := 8) (own := [("number", 7)]) (g := gName 7) (tt := tFit K) (te := tVar 7) rfl scFs.nd rfl rfl (sw_true rfl rfl rfl (by decide +kernel)) (pi_range1 (by rfl) T.range (pa_cons (pe_callB call_len_seq (by rfl) T.len PySem.boot_len (pa_cons (pv 0) pa_nil)) pa_nil)) (blkOk_by (N := NFs) (sc := defScope sFsn) (by decide +kernel))
          (fun _ _ _ _ _ => by exact pg_name (i := 7) scFs.nd rfl (Or.inl rfl))
          (fun _ _ _ _ _ => by exact pts_one (PW.pt (pw_and (pt_cmpR op_notIn_seq (pv 7) (pv 5) (by rfl)) (pw_and (pt_cmpR (op_eqD hr.units) (pe_ix ix_list (pv 3) (pv 7) (fun _ _ => rfl)) (pe_ix ix_list (pv 2) (pv 6) (fun _ _ => rfl)) (nomark _)) (pw_and1 (pt_val (C8.pe_c cF hr (by omega) (by rfl) (pa_cons (pv 0) (pa_cons (pv 1) (pa_cons (pv 5) (pa_cons (pv 7) pa_nil)))))))))))
          (fun _ _ _ _ _ => by exact pv 7))
        (pss_one (ps_expr (pe_bm PySem.F.plainAttrs_list PySem.F.slot_list_extend PySem.F.type_list_extend mt_extend (pv 4) (pa_cons
          (pe_lc (own := [("number", 7)]) (g := gName 7) (tt := tYes) (te := tLonger K) rfl scFs.nd (RT.pi_revA (by rfl) hv (pv 8)) (blkOk_by (N := NFs) (sc := defScope sFsn) (by decide +kernel))
            (fun _ _ _ _ _ => by exact pg_name (i := 7) scFs.nd rfl (Or.inl rfl)) (fun _ _ _ _ _ => pts_nil)
            (fun _ _ _ _ _ => by exact pe_op op_catA (pv 5) (pe_tup (pa_cons (pv 7) pa_nil)))) pa_nil)))))))))
      (pss_one (ps_ret pe_non))))), ?_⟩
    refine ⟨_, rfl, T1, r1, n, ps, rfl, c1, n1, n8, fun D1 H1 s1 nD1 P1 => ?_⟩
    refine ⟨_, rfl, T2, r2, n, qs, rfl, c2.same s1, n1, n8, fun D2 H2 s2 nD2 P2 => ?_⟩
    refine ⟨(by show 0 ≤ sizeLine; exact Nat.zero_le _), fun e0 he0 => ?_⟩
    have s3 := same_upd (o := .tup []) he0
    have ee : upd H2 e0 (.tup []) e0 = some (.tup []) := upd_same
    generalize upd H2 e0 (.tup []) = Hb at *
    have sB := (s1.trans s2).trans s3
    have c1 := c1.same sB
    have c2 := c2.same sB
    have P1 := (P1.same s2).same s3
    have P2 := P2.same s3
    refine ⟨(by show 1 ≤ sizeLine; decide), fun W hW => ?_⟩
    have nW : e0 ≠ W := ne_of_none ee hW
    refine ⟨fun m σ H' => ∃ (v5 v6 v7 v8 : Option V) (as : List Addr) (st : List (List Nat)), σ = [some (.ref T1), some (.ref T2), some (.ref D1), some (.ref D2), some (.ref W), v5, v6, v7, v8] ∧ Same Hb H' ∧ H' W = some (.lst (as.reverse.map V.ref)) ∧ TA H' as st ∧ AllN n st ∧ SB n st ∧ vals n ps qs st = fsn n ps qs ∧ wts n st = m,
      ⟨_, none, none, none, none, [e0], [[]], rfl, same_upd hW, upd_same, ⟨by rw [upd_ne nW]; exact ee, True.intro⟩, fun z hz => by rw [List.mem_singleton.mp hz]; exact ⟨Nat.zero_le _, fun x hx => absurd hx List.not_mem_nil⟩, ⟨Nat.zero_le _, True.intro⟩, vals_one n ps qs, rfl⟩, ?_⟩
    rintro m σ H3 ⟨v5, v6, v7, v8, as, st, rfl, s4, eW, ta, an, sb, vl, wt⟩
    refine ⟨_, rfl, _, .inl ⟨_, SqL.of eW, rfl⟩, ?_⟩
    match as, st, ta with
    | [], [], _ =>
      refine if_f rfl ?_
      exact q2 H3 (sB.trans s4) vl.symm
    | a :: as, st0 :: r, ta =>
      obtain ⟨ea, ta⟩ := ta
      have eW : H3 W = some (.lst (as.reverse.map V.ref ++ [.ref a])) := by
        rw [eW, List.reverse_cons, List.map_append]
        rfl
      have sl := (an st0 List.mem_cons_self).1
      have sx := (an st0 List.mem_cons_self).2
      have lr := sb.len sl n8
      have la := ta.len
      refine if_t (by simp) ⟨_, fun _ _ z => z, ?_⟩
      refine ⟨_, rfl, .inl ⟨rfl, _, SqL.of eW⟩, W, _, .ref a, rfl, rfl, eW, ?_, ?_⟩
      · rw [List.length_append, List.length_singleton, Nat.add_sub_cancel]
        exact List.getElem?_concat_length
      rw [List.dropLast_concat]
      have aW : a ≠ W := fun z => by
        rw [z, eW] at ea
        cases ea
      have ea : upd H3 W (.lst (as.reverse.map V.ref)) a = some (.tup (nV st0)) := by
        rw [upd_ne aW]
        exact ea
      have ta := TA.off (o := .lst (as.reverse.map V.ref)) eW ta
      have s4 : Same Hb (upd H3 W (.lst (as.reverse.map V.ref))) := fun b o e => by
        rw [upd_ne (ne_of_none e hW)]
        exact s4 _ _ e
      have eW : upd H3 W (.lst (as.reverse.map V.ref)) W = some (.lst (as.reverse.map V.ref)) := upd_same
      generalize upd H3 W (.lst (as.reverse.map V.ref)) = H4 at *
      have c1 := c1.same s4
      have c2 := c2.same s4
      have P1 := P1.same s4
      have P2 := P2.same s4
      refine ⟨_, rfl, a, _, rfl, .inr (SqT.of ea), ?_⟩
      rw [nV_len]
      refine ⟨_, rfl, _, rfl, T1, _, rfl, .inl (SqL.of c1.ls), rfl, _, rfl, ?_⟩
      have l1 := c1.len
      by_cases hl : st0.length = n
      · refine if_t (decide_eq_true (by rw [List.length_map, l1, hl])) ?_
        refine ⟨_, rfl, q1 st0 a H4 (sB.trans s4) ?_ ea⟩
        rw [← vl]
        exact vals_full hl
      refine if_f (decide_eq_false fun z => hl (by rw [List.length_map, l1] at z; have := V.int.inj z; omega)) ?_
      have hl : st0.length < n := by omega
      refine ⟨_, rfl, T1, _, rfl, .inl (SqL.of c1.ls), _, rfl, by rw [List.length_map]; omega, by rw [List.length_map]; omega, fun F hF => ?_⟩
      refine lc_it (walk_range (lo := 0) (n := (((r1.map V.ref).length : Nat) : Int).toNat)) (fun i H' => Same H4 H' ∧ H' F = some (.lst (nV (candT n ps qs st0 i)))) ⟨same_upd hF, upd_same⟩ (fun _ _ _ _ => True.intro) ?_ ?_
      · rintro i x H5 H6 hi ⟨s5, eF⟩ ⟨rfl, hx⟩
        have hx : x = .int (i : Int) := by
          rw [hx]
          show V.int (0 + (i : Int)) = _
          rw [Int.zero_add]
        subst hx
        have hi : i < n := by
          rw [List.length_map, l1] at hi
          omega
        have no : ∀ H7, Same H6 H7 → candB n ps qs st0 i = false → Same H4 H7 ∧ H7 F = some (.lst (nV (candT n ps qs st0 (i + 1)))) := fun H7 s7 e => by
          refine ⟨s5.trans s7, ?_⟩
          rw [candT_succ, if_neg (by rw [e]; exact Bool.false_ne_true), List.append_nil]
          exact s7 _ _ eF
        have c1 := c1.same s5
        have c2 := c2.same s5
        have ea := s5 _ _ ea
        obtain ⟨xs1, t1, d1, a1, dp1⟩ := (P1.same s5).dp (K := K) hl
        obtain ⟨xs2, t2, d2, a2, dp2⟩ := (P2.same s5).dp (K := K) hi
        refine ⟨rfl, ?_⟩
        refine ⟨_, rfl, _, rfl, a, _, rfl, .inr (SqT.of ea), rfl, flat_nV _, _, rfl, ?_⟩
        rw [in_nV]
        by_cases hm : i ∈ st0
        · refine if_f (by rw [decide_eq_true hm]; rfl) (if_f rfl ?_)
          refine no H6 (fun _ _ z => z) ?_
          unfold candB
          rw [decide_eq_true hm]
          rfl
        refine if_t (by rw [decide_eq_false hm]; rfl) ?_
        refine ⟨_, rfl, _, rfl, D2, _, _, _, rfl, rfl, SqL.of d2, a2, _, rfl, _, rfl, D1, _, _, _, rfl, rfl, SqL.of d1, a1, _, _, dp2, dp1, sh_pf _ _ _, sh_pf _ _ _, _, rfl, ?_⟩
        rw [eqv_pf]
        by_cases hp : prof n qs i = prof n ps st0.length
        · refine if_t (decide_eq_true hp) ?_
          refine ⟨_, rfl, _, rfl, _, rfl, _, rfl, T1, T2, a, r1, r2, n, i, ps, qs, st0, rfl, c1, c2, ea, hl, hi, n8, sx, fun H7 s7 => ⟨_, rfl, ?_⟩⟩
          by_cases hb : fitsB ps qs st0 i = true
          · refine if_t hb ⟨_, rfl, _, s7 _ _ eF, ?_, ?_, ?_⟩
            · rw [nV_len]
              have := candT_len n ps qs st0 i
              exact small1000 (by omega)
            · intro b o e
              rw [upd_ne (ne_of_none e hF)]
              exact s7 _ _ (s5 _ _ e)
            · rw [upd_same, candT_succ, if_pos (by unfold candB; rw [decide_eq_false hm, decide_eq_true hp, hb]; rfl), nV_snoc]
          · refine if_f (by simpa using hb) (no H7 s7 ?_)
            unfold candB
            rw [show fitsB ps qs st0 i = false by simpa using hb, Bool.and_false, Bool.and_false]
        · refine if_f (decide_eq_false hp) (if_f rfl (no H6 (fun _ _ z => z) ?_))
          unfold candB
          rw [decide_eq_false hp, Bool.false_and, Bool.and_false]
      · rintro H5 ⟨s5, eF⟩
        rw [List.length_map, Int.toNat_natCast, l1] at eF
        have ecs : candT n ps qs st0 n = cands n ps qs st0 := rfl
        rw [ecs] at eF
        have lc := cands_len n ps qs st0
        have ext : exts n ps qs st0 = (cands n ps qs st0).map fun k => st0 ++ [k] := rfl
        have vl : vals n ps qs (exts n ps qs st0 ++ r) = fsn n ps qs := by rw [← vals_step hl, vl]
        have wl : wts n (exts n ps qs st0 ++ r) < m := by rw [← wt]; exact wts_step hl
        have an := an.more (ps := ps) (qs := qs) hl
        have sb := sb.more (cands n ps qs st0) lc
        rw [← ext] at sb
        generalize cands n ps qs st0 = cs at *
        have ea := s5 _ _ ea
        have eW := s5 _ _ eW
        have ta := ta.same s5
        refine ⟨_, rfl, .inl ⟨rfl, _, SqL.of eW⟩, _, rfl, F, _, rfl, .inl ⟨SqL.of eF, fun E hE => ?_⟩⟩
        have nE : E ≠ W := (ne_of_none eW hE).symm
        refine lc_it (walk_rev (K := K) (a := F) (xs := nV cs)) (fun i H' => ∃ rs : List Addr, Same H5 H' ∧ H' E = some (.lst (rs.reverse.map V.ref)) ∧ TA H' rs ((cs.drop (cs.length - i)).map fun k => st0 ++ [k])) ⟨[], same_upd hE, upd_same, by rw [Nat.sub_zero, List.drop_length]; exact True.intro⟩ (fun i H' _ p => by obtain ⟨rs, s, _⟩ := p; exact SqL.of (s _ _ eF)) ?_ ?_
        · rintro i x H6 H7 hi ⟨rs, s6, eE, tr⟩ ⟨rfl, gx⟩
          rw [nV_len] at hi gx
          rw [nV_at (by omega)] at gx
          cases gx
          have ea := s6 _ _ ea
          have dr : cs.drop (cs.length - (i + 1)) = cs.getD (cs.length - 1 - i) 0 :: cs.drop (cs.length - i) := by
            rw [List.drop_eq_getElem_cons (by omega), show cs.length - (i + 1) + 1 = cs.length - i by omega]
            congr 1
            simp [List.getD, show cs.length - 1 - i < cs.length by omega, show cs.length - (i + 1) = cs.length - 1 - i by omega]
          rw [dr]
          generalize cs.getD (cs.length - 1 - i) 0 = kk at *
          have lrs := tr.len
          rw [List.length_map, List.length_drop] at lrs
          have out : ∀ (y : Addr) (H8 : Hp), Same H7 H8 → H8 y = some (.tup (nV (st0 ++ [kk]))) → ∃ xs, H8 E = some (.lst xs) ∧ xs.length < sizeLine ∧ ∃ rs : List Addr, Same H5 (upd H8 E (.lst (xs ++ [.ref y]))) ∧ upd H8 E (.lst (xs ++ [.ref y])) E = some (.lst (rs.reverse.map V.ref)) ∧ TA (upd H8 E (.lst (xs ++ [.ref y]))) rs ((kk :: cs.drop (cs.length - i)).map fun k => st0 ++ [k]) := fun y H8 s8 ey => by
            have eE := s8 _ _ eE
            refine ⟨_, eE, ?_, y :: rs, ?_, ?_, ?_⟩
            · rw [List.length_map, List.length_reverse]
              exact small1000 (by omega)
            · intro b o e
              rw [upd_ne (ne_of_none e hE)]
              exact s8 _ _ (s6 _ _ e)
            · rw [upd_same, List.reverse_cons, List.map_append]
              rfl
            · exact TA.off eE (as := y :: rs) ⟨ey, tr.same s8⟩
          refine ⟨rfl, ?_⟩
          refine ⟨_, rfl, _, rfl, (by show 1 ≤ sizeLine; decide), fun u hu => ?_⟩
          have s8 := same_upd (o := .tup [.int (kk : Int)]) hu
          have eu : upd H7 u (.tup [.int (kk : Int)]) u = some (.tup [.int (kk : Int)]) := upd_same
          generalize upd H7 u (.tup [.int (kk : Int)]) = H8 at *
          have ea := s8 _ _ ea
          refine ⟨a, u, nV st0, [.int (kk : Int)], rfl, rfl, SqT.of ea, SqT.of eu, ?_, fun z => ?_, fun _ z => absurd z (List.cons_ne_nil _ _), fun _ _ p hp => ?_⟩
          · rw [nV_len]
            show st0.length + 1 ≤ sizeLine
            exact Nat.le_of_lt (small1000 (by omega))
          · refine out u H8 s8 ?_
            rw [nV_snoc, z]
            exact eu
          · refine out p _ (s8.trans (same_upd hp)) ?_
            rw [upd_same, nV_snoc]
        · rintro H6 ⟨rs, s6, eE, tr⟩
          rw [nV_len, Nat.sub_self, List.drop_zero, ← ext] at tr
          have lrs := tr.len
          have lex : (exts n ps qs st0).length = cs.length := by rw [ext, List.length_map]
          have eW := s6 _ _ eW
          refine ⟨W, E, _, _, rfl, rfl, eW, eE, ?_, ?_⟩
          · rw [List.length_map, List.length_map, List.length_reverse, List.length_reverse]
            exact Nat.le_of_lt (small1000 (by omega))
          refine ⟨_, wl, _, _, _, _, rs ++ as, exts n ps qs st0 ++ r, rfl, ?_, ?_, ?_, an, sb, vl, rfl⟩
          · intro b o e
            rw [upd_ne (ne_of_none e hW)]
            exact s6 _ _ (s5 _ _ (s4 _ _ e))
          · rw [upd_same, List.reverse_append, List.map_append]
          · exact TA.off eW (tr.app (ta.same s6))
end
end Lw
set_option Elab.async false
set_option linter.all false
set_option maxRecDepth 100000
/-! d.setdefault(k, x) where the keys are tuples -/
namespace Lw
open PySem PySem.Spec PyProof.Rows L2
def rSetdT : V → List V → Hp → VK → Prop := fun x xs H Q => ∃ (a b : Addr) (kvs : List (List Key × V)) (k : List Key) (z : V), x = .ref a ∧ xs = [.ref b, z] ∧ H a = some (.dT kvs) ∧ H b = some (.tup (k.map kV)) ∧ kvs.length < sizeLine ∧
  (∀ v, valV kvs k = some v → Q v H) ∧ (valV kvs k = none → Q z (upd H a (.dT (putK kvs k z))))
section
variable {X : Cx}
theorem mt_setdT (hu : X.A.units + 1 < cLine) : MtR X "dict.setdefault" rSetdT := by
  rintro pins s σ H _ _ v us Q I rx rxs ⟨a, b, kvs, k, z, rfl, rfl, ha, hb, room, there, new⟩
  cases rx
  obtain ⟨u1, u2, rfl, r1, r2⟩ := vals2 rxs
  cases r1
  obtain ⟨zl, lo, ys, rel, dd⟩ := dt_of I.hok ha
  have both := rel.val k
  refine call_setdefault_heap (tupleKind_room_in1 hu) (key_of I.hok hb) lo dd (fun p hp => ?_) (fun hn h' dd' same => ?_) (by rw [← Paired.length rel]; exact zl)
  · rw [hp] at both
    cases q0 : valV kvs k with
    | none =>
      rw [q0] at both
      exact (show False from both).elim
    | some v0 =>
      rw [q0] at both
      exact ⟨v0, H, I.tok _, both, there v0 q0⟩
  · rw [hn] at both
    cases q0 : valV kvs k with
    | some v0 =>
      rw [q0] at both
      exact (show False from both).elim
    | none =>
      have fits : (putK kvs k z).length ≤ sizeLine := by
        have := length_putK kvs k z
        omega
      obtain ⟨q, es, ep, hq, g2, g3, g4, _, g5⟩ := dd'
      refine ⟨z, upd H a (.dT (putK kvs k z)), d_write I (by rw [ha]; exact True.intro) same ⟨q, hq⟩ ⟨fits, lo, _, (rel.put k hb r2).keeps fun c ws ec => ?_, q, es, ep, hq, g2, g3, g4, g5⟩, r2, new q0⟩
      rw [upd_ne (ne_of ec ha (fun w => nomatch w))]
      exact ec
end
end Lw
set_option Elab.async false
set_option linter.all false
set_option maxRecDepth 100000
/-! new numbers for the edges -/
namespace Lw
open PySem L2
abbrev sEn : Stmt := top 57
abbrev NEn : List Str := ["one", "other", "state_numbers", "free", "number", "edge", "numbers", "source", "target"]
def kP (p : Int × Int) : List Key := [Sum.inl p.1, Sum.inl p.2]
theorem kP_inj {p q : Int × Int} (h : kP p = kP q) : p = q := by
  unfold kP at h
  injection h with h1 h2
  injection h2 with h2 _
  exact Prod.ext (Sum.inl.inj h1) (Sum.inl.inj h2)
/-- the dict of the free numbers -/
structure FrA (H0 H : Hp) (F : Addr) (kvs : List (List Key × V)) (ad : Int × Int → Option Addr) (fr : Int × Int → List Nat) : Prop where
  d : H F = some (.dT kvs)
  v : ∀ p, valV kvs (kP p) = (ad p).map V.ref
  l : ∀ p a, ad p = some a → H a = some (.lst (nV (fr p))) ∧ H0 a = none
  n : ∀ p, ad p = none → fr p = []
  i : ∀ p q a, ad p = some a → ad q = some a → p = q
theorem FrA.same {H0 H H' : Hp} {F : Addr} {kvs : List (List Key × V)} {ad : Int × Int → Option Addr} {fr : Int × Int → List Nat} (h : FrA H0 H F kvs ad fr) (s : Same H H') : FrA H0 H' F kvs ad fr :=
  ⟨s _ _ h.d, h.v, fun p a e => ⟨s _ _ (h.l p a e).1, (h.l p a e).2⟩, h.n, h.i⟩
theorem FrA.wr {H0 H : Hp} {F a : Addr} {kvs : List (List Key × V)} {ad : Int × Int → Option Addr} {fr : Int × Int → List Nat} {p : Int × Int} (h : FrA H0 H F kvs ad fr) (ha : ad p = some a) (xs : List Nat) :
    FrA H0 (upd H a (.lst (nV xs))) F kvs ad (fun q => if q = p then xs else fr q) := by
  refine ⟨?_, h.v, fun q b hb => ⟨?_, (h.l q b hb).2⟩, fun q hq => ?_, h.i⟩
  · rw [upd_ne fun z => ?_]
    · exact h.d
    · have := (h.l p a ha).1
      rw [← z, h.d] at this
      cases this
  · by_cases c : q = p
    · subst c
      rw [ha] at hb
      cases hb
      rw [if_pos rfl, upd_same]
    · rw [if_neg c, upd_ne fun (z : b = a) => c (h.i q p b hb (by rw [z]; exact ha))]
      exact (h.l q b hb).1
  · by_cases c : q = p
    · rw [c, ha] at hq
      cases hq
    · rw [if_neg c]
      exact h.n q hq
theorem FrA.new {H0 H : Hp} {F L : Addr} {kvs : List (List Key × V)} {ad : Int × Int → Option Addr} {fr : Int × Int → List Nat} {p : Int × Int} (h : FrA H0 H F kvs ad fr) (hp : ad p = none) (hL : H L = some (.lst [])) (h0 : H0 L = none) (hd : ∀ q a, ad q = some a → a ≠ L) :
    FrA H0 (upd H F (.dT (putK kvs (kP p) (.ref L)))) F (putK kvs (kP p) (.ref L)) (fun q => if q = p then some L else ad q) fr := by
  have nF : ∀ {b : Addr} {xs : List V}, H b = some (.lst xs) → b ≠ F := fun {b xs} e z => by
    rw [z, h.d] at e
    cases e
  refine ⟨upd_same, fun q => ?_, fun q b hb => ?_, fun q hq => ?_, fun q r b hq hr => ?_⟩
  · rw [valV_put]
    by_cases c : q = p
    · rw [if_pos c, c, if_pos rfl]
      rfl
    · rw [if_neg c, if_neg fun z => c (kP_inj z)]
      exact h.v q
  · by_cases c : q = p
    · rw [if_pos c] at hb
      cases hb
      refine ⟨?_, h0⟩
      rw [upd_ne (nF hL), c, h.n p hp]
      exact hL
    · rw [if_neg c] at hb
      have := h.l q b hb
      refine ⟨?_, this.2⟩
      rw [upd_ne (nF this.1)]
      exact this.1
  · by_cases c : q = p
    · rw [if_pos c] at hq
      cases hq
    · rw [if_neg c] at hq
      exact h.n q hq
  · by_cases c : q = p
    · by_cases c2 : r = p
      · rw [c, c2]
      · rw [if_pos c] at hq
        rw [if_neg c2] at hr
        cases hq
        exact (hd r _ hr rfl).elim
    · rw [if_neg c] at hq
      by_cases c2 : r = p
      · rw [if_pos c2] at hr
        cases hr
        exact (hd q _ hq rfl).elim
      · rw [if_neg c2] at hr
        exact h.i q r b hq hr
def spEn (C : Addr) : Sp := fun vs H Q _ => ∃ (g g2 N : Addr) (n : Nat) (ps qs : Ps) (t : List Nat), vs = [.ref g, .ref g2, .ref N] ∧ Gok C H g n ps ∧ Gok C H g2 n qs ∧ H N = some (.tup (nV t)) ∧ t.Perm (List.range n) ∧ (ps.map (rn t)).Perm qs ∧
  ∀ (E : Addr) (H' : Hp), Same H H' → H' E = some (.tup (nV (ens t ps qs))) → Q (.ref E) H'
theorem posn_fun {qs : Ps} {m : Nat} {x : Int × Int} (h : qs[m]? = some x) : (fun q => if q = x then posn qs m x ++ [m] else posn qs m q) = posn qs (m + 1) := by
  funext q
  rw [posn_succ q h]
  by_cases c : q = x
  · rw [if_pos c, c, if_pos rfl]
  · rw [if_neg c, if_neg fun z => c z.symm, List.append_nil]
def frK (t : List Nat) (ps qs : Ps) (k : Nat) (p : Int × Int) : List Nat := (posn qs qs.length p).drop (((ps.take k).map (rn t)).count p)
theorem frK_fun {t : List Nat} {ps qs : Ps} {k : Nat} (hk : k < ps.length) : (fun q => if q = rn t (pat ps k) then (frK t ps qs k (rn t (pat ps k))).drop 1 else frK t ps qs k q) = frK t ps qs (k + 1) := by
  funext q
  unfold frK
  rw [take_snoc (pat_at hk), List.map_append, List.count_append]
  by_cases c : q = rn t (pat ps k)
  · rw [if_pos c, List.drop_drop, c]
    congr 1
    simp
  · rw [if_neg c]
    congr 1
    have : List.count q ([pat ps k].map (rn t)) = 0 := by
      rw [List.map_singleton, List.count_eq_zero]
      intro z
      exact c (List.mem_singleton.mp z)
    omega
theorem frK_head {t : List Nat} {ps qs : Ps} (h : (ps.map (rn t)).Perm qs) {k : Nat} (hk : k < ps.length) : frK t ps qs k (rn t (pat ps k)) = enN t ps qs k :: (frK t ps qs k (rn t (pat ps k))).drop 1 := by
  have l := en_lt h hk
  have e := en_at h hk
  unfold frK
  rw [List.drop_drop, List.drop_eq_getElem_cons l]
  rw [List.getElem?_eq_getElem l] at e
  rw [Option.some.inj e]
theorem free_of {HL H : Hp} {F x : Addr} {o : HO} (kb : KeepB F HL H) (eF : H F = some o) (hx : H x = none) : HL x = none := by
  cases e : HL x with
  | none => rfl
  | some u =>
    have : x ≠ F := fun z => by
      rw [z, eF] at hx
      cases hx
    rw [kb x u this e] at hx
    cases hx
theorem seq0 {m : Nat} (h : 0 < m) : seqIndex? 0 m = some 0 := by
  unfold seqIndex?
  simp
  omega
theorem frK_zero (t : List Nat) (ps qs : Ps) : frK t ps qs 0 = posn qs qs.length := by
  funext p
  unfold frK
  rw [List.take_zero, List.map_nil, List.count_nil, List.drop_zero]
theorem ens_take {t : List Nat} {ps qs : Ps} {k : Nat} (hk : k < ps.length) : (ens t ps qs).take (k + 1) = (ens t ps qs).take k ++ [enN t ps qs k] := by
  refine take_snoc ?_
  have h : k < (ens t ps qs).length := by rw [ens_len]; exact hk
  rw [getD_get h, ens_at hk]
section
variable {P : Program} {w : World} {K : PySem.W.Frag} {mg : Str → Option Value} {base : Heap} {f C : Addr} {fd : FuncData} {k : Nat}
theorem scEn : FnScope NEn ["one", "other", "state_numbers"] (defScope sEn) := ⟨rfl, rfl, rfl, by decide +kernel, rfl, by decide +kernel, by decide +kernel⟩
set_option maxHeartbeats 8000000 in
theorem ok_en (F : Fun K "edge_numbers_between" "edge_numbers_between" sEn f fd) (T : Bi mg) (he : mg "enumerate" = none) (mE : C8.Met P w K mg base 1 C "edges" (spEdges C) []) : FnOk P w K mg base CX0 (k + 2) f fd ["one", "other", "state_numbers"] (spEn C) := by
  refine F.ok scEn (fun vs H Q E h => ?_) (fun cdv A outer s H vs Q E hr h => ?_)
  · obtain ⟨g, g2, N, n, ps, qs, t, rfl, _⟩ := h
    rfl
  · obtain ⟨g, g2, N, n, ps, qs, t, rfl, G1, G2, hN, pm, pe, q⟩ := h
    refine ⟨_, pss_cons (ps_set (i := 3) scEn.nd rfl (.inl rfl) pe_dnewT)
      (pss_cons (ps_for PassesOwn.never rfl (pi_enumA (by rfl) he (pa_cons (C8.pe_mt0 mE hr (by omega) (pv 1)) pa_nil)) (pg_tup rfl (pgs_cons (pg_name (i := 4) scEn.nd rfl (.inl rfl)) (pgs_cons (pg_name (i := 5) scEn.nd rfl (.inl rfl)) pgs_nil)))
        (pss_one (ps_expr (pe_bm PySem.F.plainAttrs_list PySem.F.slot_list_append PySem.F.type_list_append mt_append (pe_bm PySem.F.plainAttrs_dict PySem.F.slot_dict_setdefault PySem.F.type_dict_setdefault (mt_setdT (Nat.lt_of_le_of_lt (Nat.add_le_add_left (by decide) _) hr.units)) (pv 3) (pa_cons (pv 5) (pa_cons (pe_lst pa_nil) pa_nil))) (pa_cons (pv 4) pa_nil)))))
      (pss_cons (ps_set (i := 6) scEn.nd rfl (.inl rfl) (pe_lst pa_nil))
      (pss_cons (ps_for PassesOwn.never rfl (pi_seqA (C8.pe_mt0 mE hr (by omega) (pv 0))) (pg_tup rfl (pgs_cons (pg_name (i := 7) scEn.nd rfl (.inl rfl)) (pgs_cons (pg_name (i := 8) scEn.nd rfl (.inl rfl)) pgs_nil)))
        (pss_one (ps_expr (pe_bm PySem.F.plainAttrs_list PySem.F.slot_list_append PySem.F.type_list_append mt_append (pv 6) (pa_cons (pe_bm PySem.F.plainAttrs_list PySem.F.slot_list_pop PySem.F.type_list_pop mt_popAt (pe_dget (Nat.lt_of_le_of_lt (Nat.add_le_add_left (by decide) _) hr.units) (pv 3) (pe_tup (pa_cons (pe_ix ix_tup (pv 2) (pv 7) (fun _ _ => rfl)) (pa_cons (pe_ix ix_tup (pv 2) (pv 8) (fun _ _ => rfl)) pa_nil))) (fun _ _ => rfl)) (pa_cons pe_int pa_nil)) pa_nil)))))
      (pss_one (ps_ret (pe_callTy call_tuple_of (by rfl) T.tuple (by decide +kernel) (pa_cons (pv 6) pa_nil))))))), ?_⟩
    obtain ⟨us1, GA1, eu1⟩ := G1.at_
    obtain ⟨us2, GA2, eu2⟩ := G2.at_
    obtain ⟨⟨dg1, tt1, h11, h12⟩, ed1⟩ := id GA1
    obtain ⟨⟨dg2, tt2, h21, h22⟩, ed2⟩ := id GA2
    have n8 := G1.n8
    have l1 := G1.l24
    have l2 := G2.l24
    intro Fd hF
    have s1 := same_upd (o := .dT []) hF
    have eF : upd H Fd (.dT []) Fd = some (.dT []) := upd_same
    generalize upd H Fd (.dT []) = H1 at *
    refine ⟨_, rfl, g2, dg2, _, rfl, s1 _ _ h21, look_no _ _ (by decide +kernel) (by decide +kernel), g2, (n : Int), us2, rfl, GA2.same s1, fun L hL => ?_⟩
    have s2 := same_upd (o := .lst (vsOf us2)) hL
    have eL : upd H1 L (.lst (vsOf us2)) L = some (.lst (vsOf us2)) := upd_same
    have eF := s2 _ _ eF
    generalize upd H1 L (.lst (vsOf us2)) = HL at *
    have sL := s1.trans s2
    have LF : L ≠ Fd := fun z => by
      rw [z, eF] at eL
      cases eL
    refine ⟨L, _, SqL, rfl, .inl rfl, SqL.of eL, fun J wk => ?_⟩
    refine for_it wk (fun i σ H' => ∃ (v4 v5 : Option V) (kvs : List (List Key × V)) (ad : Int × Int → Option Addr), σ = [some (.ref g), some (.ref g2), some (.ref N), some (.ref Fd), v4, v5, none, none, none] ∧ KeepB Fd HL H' ∧ FrA HL H' Fd kvs ad (posn qs i) ∧ kvs.length ≤ i)
      ⟨none, none, [], fun _ => none, rfl, fun c u _ e => e, ⟨eF, fun p => rfl, (by intro p a z; cases z), fun p _ => rfl, (by intro p q a z; cases z)⟩, Nat.le_refl _⟩ (fun i σ H' _ p => by obtain ⟨_, _, _, _, _, kb, _⟩ := p; exact SqL.of (kb _ _ LF eL)) ?_ ?_
    · rintro i v σ H2 H3 hi ⟨v4, v5, kvs, ad, rfl, kb, fa, lk⟩ ⟨tp, x, y, rfl, hT, rfl, gx, gy⟩
      obtain ⟨ee, hee, rfl⟩ := vsOf_at gy
      have ex : x = .int (i : Nat) := (Option.some.inj gx).symm
      subst ex
      rw [vsOf_len] at hi
      have mem : ee ∈ us2 := List.mem_of_getElem? hee
      have hq : qs[i]? = some ee.2 := by
        rw [← eu2]
        exact psOf_at hee
      have li : i < 24 := by
        have := (List.getElem?_eq_some_iff.mp hq).1
        omega
      have s3 := same_upd (o := .tup [.int (i : Nat), .ref ee.1]) hT
      refine ⟨tp, _, rfl, SqT.of upd_same, rfl, _, _, rfl, _, _, rfl, rfl, ?_⟩
      generalize upd H2 tp (.tup [.int (i : Nat), .ref ee.1]) = H4 at *
      have fa := fa.same s3
      have kb : KeepB Fd HL H4 := fun c u h e => s3 _ _ (kb c u h e)
      refine ⟨_, rfl, .inr (.inr (.inl ⟨rfl, .inr ⟨_, fa.d⟩⟩)), _, rfl, (by show 0 ≤ sizeLine; exact Nat.zero_le _), fun L5 hL5 => ?_⟩
      have nL5 := free_of kb fa.d hL5
      have off5 : ∀ q a, ad q = some a → a ≠ L5 := fun q a h => ne_of_none (fa.l q a h).1 hL5
      have s5 := same_upd (o := .lst []) hL5
      have e5 : upd H4 L5 (.lst []) L5 = some (.lst []) := upd_same
      generalize upd H4 L5 (.lst []) = H5 at *
      have fa := fa.same s5
      have kb : KeepB Fd HL H5 := fun c u h e => s5 _ _ (kb c u h e)
      have he2 := ed2 ee mem
      have lp : (posn qs i ee.2).length ≤ i := by
        rw [posn_len i ee.2 (by have := (List.getElem?_eq_some_iff.mp hq).1; omega)]
        have := List.count_le_length (a := ee.2) (l := qs.take i)
        rw [List.length_take] at this
        omega
      refine ⟨Fd, ee.1, kvs, kP ee.2, .ref L5, rfl, rfl, fa.d, kb _ _ (ne_of_none he2 hF) (sL _ _ he2), small1000 (by omega), fun v hv => ?_, fun hn => ?_⟩
      · rw [fa.v] at hv
        obtain ⟨a, ha, rfl⟩ := Option.map_eq_some_iff.mp hv
        have la := (fa.l ee.2 a ha).1
        refine ⟨.inl ⟨rfl, _, SqL.of la⟩, _, rfl, a, _, _, rfl, rfl, la, by rw [nV_len]; exact small1000 (by omega), ?_⟩
        have fw := fa.wr ha (posn qs i ee.2 ++ [i])
        rw [posn_fun hq, nV_snoc] at fw
        refine ⟨_, _, kvs, ad, rfl, fun c u h e => ?_, fw, by omega⟩
        rw [upd_ne fun z => ?_]
        · exact kb c u h e
        · rw [z, (fa.l ee.2 a ha).2] at e
          cases e
      · have hp : ad ee.2 = none := by
          rw [fa.v] at hn
          simpa using hn
        have fn := fa.new hp e5 nL5 off5
        have ha : (fun q => if q = ee.2 then some L5 else ad q) ee.2 = some L5 := if_pos rfl
        have la := (fn.l ee.2 L5 ha).1
        refine ⟨.inl ⟨rfl, _, SqL.of la⟩, _, rfl, L5, _, _, rfl, rfl, la, by rw [nV_len]; exact small1000 (by omega), ?_⟩
        have fw := fn.wr ha (posn qs i ee.2 ++ [i])
        rw [posn_fun hq, nV_snoc] at fw
        have lp2 := length_putK kvs (kP ee.2) (.ref L5)
        refine ⟨_, _, _, _, rfl, fun c u h e => ?_, fw, by omega⟩
        rw [upd_ne fun z => ?_, upd_ne h]
        · exact kb c u h e
        · rw [z, nL5] at e
          cases e
    · rintro σ Ha ⟨v4, v5, kvs, ad, rfl, kb, fa, lk⟩
      rw [vsOf_len, show us2.length = qs.length by rw [← eu2, psL_len]] at fa
      rw [← frK_zero t ps qs] at fa
      have k0 : Same H Ha := fun c u e => kb c u (ne_of_none e hF) (sL _ _ e)
      refine ⟨(by show 0 ≤ sizeLine; exact Nat.zero_le _), fun Nn hNn => ?_⟩
      have nN : H Nn = none := k0.free hNn
      have oN : ∀ q a, ad q = some a → a ≠ Nn := fun q a h => ne_of_none (fa.l q a h).1 hNn
      have s6 := same_upd (o := .lst []) hNn
      have e6 : upd Ha Nn (.lst []) Nn = some (.lst []) := upd_same
      generalize upd Ha Nn (.lst []) = Hb at *
      have fa := fa.same s6
      have k1 := k0.trans s6
      refine ⟨_, rfl, g, dg1, _, rfl, k1 _ _ h11, look_no _ _ (by decide +kernel) (by decide +kernel), g, (n : Int), us1, rfl, GA1.same k1, fun L1 hL1 => ?_⟩
      have oL : ∀ q a, ad q = some a → a ≠ L1 := fun q a h => ne_of_none (fa.l q a h).1 hL1
      have LN : L1 ≠ Nn := (ne_of_none e6 hL1).symm
      have s7 := same_upd (o := .lst (vsOf us1)) hL1
      have e7 : upd Hb L1 (.lst (vsOf us1)) L1 = some (.lst (vsOf us1)) := upd_same
      have e6 := s7 _ _ e6
      generalize upd Hb L1 (.lst (vsOf us1)) = Hc at *
      have fa := fa.same s7
      have k2 := k1.trans s7
      refine ⟨L1, _, SqL, rfl, .inl rfl, SqL.of e7, fun J2 wk2 => ?_⟩
      refine for_it wk2 (fun i σ H' => ∃ v7 v8 : Option V, σ = [some (.ref g), some (.ref g2), some (.ref N), some (.ref Fd), v4, v5, some (.ref Nn), v7, v8] ∧ Same H H' ∧ H' L1 = some (.lst (vsOf us1)) ∧ H' Nn = some (.lst (nV ((ens t ps qs).take i))) ∧ FrA HL H' Fd kvs ad (frK t ps qs i))
        ⟨none, none, rfl, k2, e7, e6, fa⟩ (fun i σ H' _ p => by obtain ⟨_, _, _, _, e, _⟩ := p; exact SqL.of e) ?_ ?_
      · rintro i x σ H4 H5 hi ⟨v7, v8, rfl, s8, eL1, eN, fa⟩ ⟨rfl, gx⟩
        obtain ⟨ee, hee, rfl⟩ := vsOf_at gx
        have mem : ee ∈ us1 := List.mem_of_getElem? hee
        have hp : ps[i]? = some ee.2 := by
          rw [← eu1]
          exact psOf_at hee
        have li := (List.getElem?_eq_some_iff.mp hp).1
        have pa : pat ps i = ee.2 := by
          have := pat_at li
          rw [hp] at this
          exact (Option.some.inj this).symm
        have hN5 := s8 _ _ hN
        obtain ⟨r1, r2, r3, r4⟩ := G1.va.rg ee.2 (List.mem_of_getElem? hp)
        have lt := pm_len pm
        have at_ : ∀ z : Int, 0 ≤ z → z < n → atI (nV t) z = some (.int ((t.getD z.toNat 0 : Nat) : Int)) := fun z z0 z1 => by
          have := atI_nat (xs := nV t) (nV_at (s := t) (i := z.toNat) (by omega))
          rw [Int.toNat_of_nonneg z0] at this
          exact this
        refine ⟨ee.1, _, rfl, SqT.of (s8 _ _ (ed1 ee mem)), rfl, _, _, rfl, _, _, rfl, rfl, ?_⟩
        refine ⟨_, rfl, .inl ⟨rfl, _, SqL.of eN⟩, _, rfl, _, rfl, _, rfl, N, _, _, _, rfl, rfl, SqT.of hN5, at_ _ r1 r2, _, rfl, _, rfl, N, _, _, _, rfl, rfl, SqT.of hN5, at_ _ r3 r4, (by show 2 ≤ sizeLine; decide), fun kt hkt => ?_⟩
        have s9 := same_upd (o := .tup [.int ((t.getD ee.2.1.toNat 0 : Nat) : Int), .int ((t.getD ee.2.2.toNat 0 : Nat) : Int)]) hkt
        have ek : upd H5 kt (.tup [.int ((t.getD ee.2.1.toNat 0 : Nat) : Int), .int ((t.getD ee.2.2.toNat 0 : Nat) : Int)]) kt = some (.tup ((kP (rn t ee.2)).map kV)) := upd_same
        generalize upd H5 kt (.tup [.int ((t.getD ee.2.1.toNat 0 : Nat) : Int), .int ((t.getD ee.2.2.toNat 0 : Nat) : Int)]) = H6 at *
        have fa := fa.same s9
        have hd := frK_head pe li
        rw [pa] at hd
        obtain ⟨a, ha⟩ : ∃ a, ad (rn t ee.2) = some a := by
          cases e : ad (rn t ee.2) with
          | none =>
            rw [fa.n _ e] at hd
            cases hd
          | some a => exact ⟨a, rfl⟩
        have gt := DGet.t fa.d ek
        rw [fa.v, ha] at gt
        have la := (fa.l _ a ha).1
        rw [hd] at la
        refine ⟨Fd, .ref a, rfl, gt, .inl ⟨rfl, _, SqL.of la⟩, a, _, 0, 0, .int ((enN t ps qs i : Nat) : Int), rfl, rfl, la, by decide, by decide, seq0 (by rw [nV_len]; exact Nat.succ_pos _), rfl, ?_⟩
        have fw := fa.wr ha ((frK t ps qs i (rn t ee.2)).drop 1)
        have ff := frK_fun (t := t) (qs := qs) li
        rw [pa] at ff
        rw [ff] at fw
        have eN6 : upd H6 a (.lst (nV ((frK t ps qs i (rn t ee.2)).drop 1))) Nn = some (.lst (nV ((ens t ps qs).take i))) := by
          rw [upd_ne (oN _ a ha).symm]
          exact s9 _ _ eN
        have eL6 : upd H6 a (.lst (nV ((frK t ps qs i (rn t ee.2)).drop 1))) L1 = some (.lst (vsOf us1)) := by
          rw [upd_ne (oL _ a ha).symm]
          exact s9 _ _ eL1
        have s10 : Same H (upd H6 a (.lst (nV ((frK t ps qs i (rn t ee.2)).drop 1)))) := fun c u e => by
          rw [upd_ne fun z => ?_]
          · exact s9 _ _ (s8 _ _ e)
          · have h0 := (fa.l _ a ha).2
            rw [← z, sL _ _ e] at h0
            cases h0
        have er : (nV (enN t ps qs i :: (frK t ps qs i (rn t ee.2)).drop 1)).eraseIdx 0 = nV ((frK t ps qs i (rn t ee.2)).drop 1) := rfl
        rw [er]
        generalize upd H6 a (.lst (nV ((frK t ps qs i (rn t ee.2)).drop 1))) = H7 at *
        refine ⟨Nn, _, _, rfl, rfl, eN6, by rw [nV_len, List.length_take]; exact small1000 (by omega), ?_⟩
        refine ⟨_, _, rfl, ?_, ?_, ?_, ⟨?_, fw.v, fun q b hb => ⟨?_, (fw.l q b hb).2⟩, fw.n, fw.i⟩⟩
        · intro c u e
          rw [upd_ne (ne_of_none e nN)]
          exact s10 _ _ e
        · rw [upd_ne LN]
          exact eL6
        · rw [upd_same, ens_take li, nV_snoc]
        · rw [upd_ne fun z => ?_]
          · exact fw.d
          · have := fw.d
            rw [z, eN6] at this
            cases this
        · rw [upd_ne (oN q b hb)]
          exact (fw.l q b hb).1
      · rintro σ H4 ⟨v7, v8, rfl, s8, eL1, eN, fa⟩
        rw [vsOf_len, show us1.length = (ens t ps qs).length by rw [ens_len, ← eu1, psL_len], List.take_length] at eN
        refine ⟨_, rfl, Nn, _, rfl, .inl ⟨SqL.of eN, fun E hE => ?_⟩⟩
        exact q E _ (s8.trans (same_upd hE)) upd_same
end
end Lw
set_option Elab.async false
set_option linter.all false
set_option maxRecDepth 100000
/-! permutations: told, and turned back -/
namespace Lw
open PySem L2
abbrev sIp : Stmt := top 45
abbrev sTb : Stmt := top 46
abbrev NTb : List Str := ["permutation", "place", "number", "places"]
def spIp : Sp := fun vs H Q _ => ∃ (N : Addr) (m : Nat) (t : List Nat), vs = [.ref N, .int (m : Int)] ∧ H N = some (.tup (nV t)) ∧ t.Perm (List.range m) ∧ m ≤ 40 ∧ ∀ H', Same H H' → Q (.bl true) H'
def spTb : Sp := fun vs H Q _ => ∃ (N : Addr) (m : Nat) (t : List Nat), vs = [.ref N] ∧ H N = some (.tup (nV t)) ∧ t.Perm (List.range m) ∧ m ≤ 40 ∧ ∀ (E : Addr) (H' : Hp), Same H H' → H' E = some (.tup (nV (invP m t))) → Q (.ref E) H'
theorem nV_ints (t : List Nat) : nV t = (t.map fun k => ((k : Nat) : Int)).map V.int := by
  unfold nV
  rw [List.map_map]
  rfl
theorem nums_pw (m : Nat) : (nums m).Pairwise (· ≤ ·) := by
  unfold nums
  rw [List.pairwise_map]
  exact List.pairwise_lt_range.imp fun h => by omega
theorem srt_nums {m : Nat} {t : List Nat} (h : t.Perm (List.range m)) : srtI (t.map fun k => ((k : Nat) : Int)) = nums m := (srt_uniq (h.map fun k : Nat => ((k : Nat) : Int)).symm (nums_pw m)).symm
theorem rg_nums (m : Nat) : rgV 0 (m : Int) = (nums m).map V.int := by
  unfold rgV nums
  simp
theorem rg_ok {m : Nat} (h : m ≤ 40) : RgOk 0 (m : Int) := by
  unfold RgOk
  omega
section
variable {P : Program} {w : World} {K : PySem.W.Frag} {mg : Str → Option Value} {base : Heap} {f : Addr} {fd : FuncData} {k : Nat}
theorem scIp : FnScope ["numbers", "size"] ["numbers", "size"] (defScope sIp) := ⟨rfl, rfl, rfl, by decide +kernel, rfl, by decide +kernel, by decide +kernel⟩
theorem scTb : FnScope NTb ["permutation"] (defScope sTb) := ⟨rfl, rfl, rfl, by decide +kernel, rfl, by decide +kernel, by decide +kernel⟩
theorem ok_ip (F : Fun K "is_permutation" "is_permutation" sIp f fd) (T : Bi mg) (hs : mg "sorted" = none) : FnOk P w K mg base CX0 (k + 1) f fd ["numbers", "size"] spIp := by
  refine F.ok scIp (fun vs H Q E h => ?_) (fun cdv A outer s H vs Q E hr h => ?_)
  · obtain ⟨N, m, t, rfl, _⟩ := h
    rfl
  · obtain ⟨N, m, t, rfl, hN, pm, m40, q⟩ := h
    refine ⟨_, pss_one (ps_ret (pe_cmpR (op_eqD hr.units) (pe_callB cr_srtT (by rfl) hs (by decide +kernel) (pa_cons (pv 0) pa_nil)) (pe_listRg rfl (by rfl) T.list (prg_1 (by rfl) T.range (pv 1))) (nomark _))), ?_⟩
    refine ⟨_, rfl, N, t.map fun k => ((k : Nat) : Int), rfl, by rw [← nV_ints]; exact SqT.of hN, fun xs a p1 p2 na => ?_⟩
    rw [srt_uniq p1 p2, srt_nums pm]
    have s1 := same_upd (o := .lst ((nums m).map V.int)) na
    have e1 : upd H a (.lst ((nums m).map V.int)) a = some (.lst ((nums m).map V.int)) := upd_same
    generalize upd H a (.lst ((nums m).map V.int)) = H1 at *
    refine ⟨_, rfl, _, rfl, rg_ok m40, fun b nb => ?_⟩
    rw [rg_nums]
    have s2 := same_upd (o := .lst ((nums m).map V.int)) nb
    refine ⟨_, _, .lst (SqL.of (s2 _ _ e1)) (dp_ints _), .lst (SqL.of upd_same) (dp_ints _), shl_ints _, shl_ints _, ?_⟩
    rw [eqv_lst, decide_eq_true rfl]
    exact q _ (s1.trans s2)
set_option maxHeartbeats 4000000 in
theorem ok_tb (F : Fun K "turned_back" "turned_back" sTb f fd) (T : Bi mg) (he : mg "enumerate" = none) : FnOk P w K mg base CX0 (k + 1) f fd ["permutation"] spTb := by
  refine F.ok scTb (fun vs H Q E h => ?_) (fun cdv A outer s H vs Q E hr h => ?_)
  · obtain ⟨N, m, t, rfl, _⟩ := h
    rfl
  · obtain ⟨N, m, t, rfl, hN, pm, m40, q⟩ := h
    refine ⟨_, pss_cons (ps_set (i := 3) scTb.nd rfl (.inr rfl) (pe_dc (own := [("place", 1), ("number", 2)]) (g := gTup K 2 (gCons (gName 1) (gCons (gName 2) gNil))) (tt := tYes) (tk := tVar 2) (tv := tVar 1) rfl scTb.nd (pi_enumA (by rfl) he (pa_cons (pv 0) pa_nil)) (blkOk_by (N := NTb) (sc := defScope sTb) (by decide +kernel))
          (fun _ _ _ _ _ => by exact pg_tup rfl (pgs_cons (pg_name (i := 1) scTb.nd rfl (Or.inl rfl)) (pgs_cons (pg_name (i := 2) scTb.nd rfl (Or.inl rfl)) pgs_nil))) (fun _ _ _ _ _ => pts_nil)
          (fun _ _ _ _ _ => by exact pv 2) (fun _ _ _ _ _ => by exact pv 1)))
      (pss_one (ps_ret (pe_callTy call_tuple_of (by rfl) T.tuple (by decide +kernel) (pa_cons (pe_lc (own := [("number", 2)]) (g := gName 2) (tt := tYes) (te := tDGet (tVar 3) (tVar 2)) rfl scTb.nd (pi_range1 (by rfl) T.range (pa_cons (pe_callB call_len_seq (by rfl) T.len PySem.boot_len (pa_cons (pv 0) pa_nil)) pa_nil)) (blkOk_by (N := NTb) (sc := defScope sTb) (by decide +kernel))
          (fun _ _ _ _ _ => by exact pg_name (i := 2) scTb.nd rfl (Or.inl rfl)) (fun _ _ _ _ _ => pts_nil)
          (fun _ _ _ _ _ => by exact pe_dget (Nat.lt_of_le_of_lt (Nat.add_le_add_left (by decide) _) hr.units) (pv 3) (pv 2) (fun _ _ => rfl))) pa_nil)))), ?_⟩
    have lt := pm_len pm
    refine ⟨_, rfl, N, _, SqT, rfl, .inr rfl, SqT.of hN, fun J wk D hD => ?_⟩
    refine walk_any wk (fun i H' => ∃ kvs : List (Key × V), Same H H' ∧ H' D = some (.dK kvs) ∧ kvs.length ≤ i ∧ ∀ j : Nat, j < i → valV kvs (Sum.inl ((t.getD j 0 : Nat) : Int)) = some (.int (j : Int))) ⟨[], same_upd hD, upd_same, Nat.le_refl _, fun j hj => absurd hj (Nat.not_lt_zero _)⟩ (fun i H' _ p => by obtain ⟨_, s, _⟩ := p; exact SqT.of (s _ _ hN)) ?_ ?_
    · rintro i v H1 H2 hi ⟨kvs, s1, eD, lk, hv⟩ ⟨tp, x, y, rfl, hT, rfl, gx, gy⟩
      cases gx
      replace gy : (nV t)[i]? = some y := gy
      rw [nV_len] at hi
      rw [nV_at hi] at gy
      cases gy
      have nT : tp ≠ D := (ne_of_none eD hT).symm
      have s2 := same_upd (o := .tup [.int (i : Int), .int ((t.getD i 0 : Nat) : Int)]) hT
      have eD2 := s2 _ _ eD
      refine ⟨tp, _, rfl, SqT.of upd_same, rfl, _, _, rfl, _, _, rfl, rfl, rfl, ?_⟩
      generalize upd H1 tp (.tup [.int (i : Int), .int ((t.getD i 0 : Nat) : Int)]) = H3 at *
      refine ⟨_, rfl, _, rfl, kvs, Sum.inl ((t.getD i 0 : Nat) : Int), rfl, eD2, small1000 (by omega), putK kvs (Sum.inl ((t.getD i 0 : Nat) : Int)) (.int (i : Int)), ?_, upd_same, ?_, fun j hj => ?_⟩
      · intro c u e
        rw [upd_ne (ne_of_none e hD)]
        exact s2 _ _ (s1 _ _ e)
      · have := length_putK kvs (Sum.inl ((t.getD i 0 : Nat) : Int)) (.int (i : Int))
        omega
      · rw [valV_put]
        by_cases c : j = i
        · rw [if_pos (by rw [c]), c]
        · rw [if_neg fun z => c (pm_inj pm (by omega) (by omega) (by have := Sum.inl.inj z; omega))]
          exact hv j (by omega)
    · rintro H1 ⟨kvs, s1, eD, lk, hv⟩
      rw [nV_len, lt] at lk hv
      refine ⟨_, rfl, N, _, rfl, .inr (SqT.of (s1 _ _ hN)), ?_⟩
      rw [nV_len, lt]
      refine ⟨_, rfl, by omega, by omega, fun L hL => ?_⟩
      have nL : H L = none := s1.free hL
      refine lc_it (walk_range (lo := 0) (n := ((m : Int)).toNat)) (fun i H' => Same H1 H' ∧ H' L = some (.lst (nV ((invP m t).take i)))) ⟨same_upd hL, upd_same⟩ (fun _ _ _ _ => True.intro) ?_ ?_
      · rintro i x H2 H3 hi ⟨s2, eL⟩ ⟨rfl, hx⟩
        have hx : x = .int (i : Int) := by
          rw [hx]
          show V.int (0 + (i : Int)) = _
          rw [Int.zero_add]
        subst hx
        have hi : i < m := by omega
        obtain ⟨j, hj, ej⟩ := pm_sur pm hi
        have id_ : t.idxOf i = j := by
          rw [← ej]
          exact idx_at pm hj
        have hv := hv j hj
        rw [ej] at hv
        have gt := DGet.k (k := Sum.inl (i : Int)) (s2 _ _ eD)
        rw [hv] at gt
        refine ⟨rfl, ?_⟩
        refine ⟨_, rfl, _, rfl, D, .int (j : Int), rfl, gt, _, eL, ?_, ?_, ?_⟩
        · rw [nV_len, List.length_take]
          exact small1000 (by omega)
        · intro c u e
          rw [upd_ne (ne_of_none e hL)]
          exact s2 _ _ e
        · have tk : (invP m t).take (i + 1) = (invP m t).take i ++ [j] := by
            refine take_snoc ?_
            have l : i < (invP m t).length := by
              unfold invP
              simpa using hi
            rw [getD_get l, inv_at hi, id_]
          rw [upd_same, tk, nV_snoc]
      · rintro H2 ⟨s2, eL⟩
        have li : (invP m t).length = m := by
          unfold invP
          simp
        rw [Int.toNat_natCast, List.take_of_length_le (by rw [li]; exact Nat.le_refl _)] at eL
        refine ⟨L, _, rfl, .inl ⟨SqL.of eL, fun E hE => ?_⟩⟩
        exact q E _ ((s1.trans s2).trans (same_upd hE)) upd_same
end
end Lw
set_option Elab.async false
set_option linter.all false
set_option maxRecDepth 100000
namespace Lw
open PySem PySem.Spec PyProof.Rows L2
section
variable {X : Cx} {n : Nat} {CX : CXT} {C f : Addr} {fd : FuncData} {ps : List Str} {sp : Sp} {E : XK}
/-- len of an object with its own __len__ -/
def rLenO (C : Addr) (sp : Sp) (E : XK) : List V → Hp → VK → Prop := fun xs H Q => ∃ (a dx : Addr) (fs : List (Str × V)), xs = [.ref a] ∧ H a = some (.ins C dx fs) ∧ sp [.ref a] H (fun v H' => ∃ n : Int, v = .int n ∧ (0 ≤ n ∧ n < 2 ^ 63) ∧ Q (.int n) H') E
theorem call_lenO (F : FnOk X.prog X.w X.K X.mg X.base CX n f fd ps sp) (hs : PySem.W.findIn X.K (.ref C) "__len__" = some (some (.ref f))) (hf : PySem.W.isFn X.K (.ref f) = true) (hb : Binds X.K fd ps []) (hx : Passes CX X E) (hr : Room (n + 1) X.A) :
    CallR X (.builtin "len") (rLenO C sp E) := by
  intro pins s σ H xs us Q I r h
  obtain ⟨a, dx, fs, rfl, ha, hsp⟩ := h
  cases r with
  | cons r rr =>
    cases rr
    cases r
    obtain ⟨mA, J, _⟩ := ins_get I.hok ha
    obtain ⟨od, J, _⟩ := J.look
    obtain ⟨m, hF⟩ := I.fr
    refine PySem.W.len_K hF I.ok.mod.kin J hs hf (wpAny_mono (run_own (A := X.A.in1) F hb hx (L2.Sub.in1 (X := X) (n := n) (A := X.A) ⟨hr, rfl⟩) I (.cons (show RelV (.ref a) (.ref a) from rfl) .nil) hsp) (fun u s' h => ?_) fun _ _ e => e)
    obtain ⟨v, H', I', rv, k, rfl, hk, q⟩ := h
    obtain ⟨t, rfl⟩ := rv
    exact ⟨hk, .int k, H', I'.tok _, ⟨_, rfl⟩, q⟩
/-- repr of an object with its own __repr__ -/
def rReprO (C : Addr) (sp : Sp) (E : XK) : List V → Hp → VK → Prop := fun xs H Q => ∃ (a dx : Addr) (fs : List (Str × V)), xs = [.ref a] ∧ H a = some (.ins C dx fs) ∧ sp [.ref a] H (fun v H' => ∃ x : Str, v = .str x ∧ Q (.str x) H') E
theorem call_reprO (F : FnOk X.prog X.w X.K X.mg X.base CX n f fd ps sp) (hs : PySem.W.findIn X.K (.ref C) "__repr__" = some (some (.ref f))) (hf : PySem.W.isFn X.K (.ref f) = true) (hb : Binds X.K fd ps []) (hx : Passes CX X E) (hr : Room (n + 1) X.A) :
    CallR X (.builtin "repr") (rReprO C sp E) := by
  intro pins s σ H xs us Q I r h
  obtain ⟨a, dx, fs, rfl, ha, hsp⟩ := h
  cases r with
  | cons r rr =>
    cases rr
    cases r
    obtain ⟨mA, J, _⟩ := ins_get I.hok ha
    obtain ⟨od, J, _⟩ := J.look
    obtain ⟨m, hF⟩ := I.fr
    have un := hr.un
    refine PySem.W.repr_K (by show X.A.units + 1 < cLine; omega) hF I.ok.mod.kin J hs hf (wpAny_mono (run_own (A := X.A.in1) F hb hx (L2.Sub.in1 (X := X) (n := n) (A := X.A) ⟨hr, rfl⟩) I (.cons (show RelV (.ref a) (.ref a) from rfl) .nil) hsp) (fun u s' h => ?_) fun _ _ e => e)
    obtain ⟨v, H', I', rv, x, rfl, q⟩ := h
    obtain ⟨t, rfl⟩ := rv
    exact ⟨.str x, H', I', ⟨_, rfl⟩, q⟩
end
end Lw
set_option Elab.async false
set_option linter.all false
set_option maxRecDepth 100000
/-! the class Renaming -/
namespace Lw
open PySem L2
abbrev sRI : Stmt := inClass (top 50) 0
abbrev sREq : Stmt := inClass (top 50) 1
abbrev sRCk : Stmt := inClass (top 50) 2
abbrev sRR : Stmt := inClass (top 50) 3
abbrev NRR : List Str := ["self", "graph", "states", "number", "ends", "source", "target"]
structure RTxt (K : PySem.W.Frag) (mg : Str → Option Value) (CR : Addr) : Prop where
  cl : Cls K CR
  nS : NoAttr K CR "state_numbers"
  nE : NoAttr K CR "edge_numbers"
  mgR : mg "Renaming" = some (.ref CR)
def rnf (a b : Addr) : List (Str × V) := [("state_numbers", V.ref a), ("edge_numbers", V.ref b)]
theorem rse : ¬ (("state_numbers" : Str) = "edge_numbers") := by decide +kernel
theorem rput1 (a : Addr) : putF "state_numbers" (.ref a) [] = ([("state_numbers", V.ref a)] : List (Str × V)) := rfl
theorem rput2 (a b : Addr) : putF "edge_numbers" (.ref b) ([("state_numbers", V.ref a)] : List (Str × V)) = rnf a b := by
  show (if ("state_numbers" : Str) = "edge_numbers" then _ else (("state_numbers" : Str), V.ref a) :: putF "edge_numbers" (.ref b) []) = rnf a b
  rw [if_neg rse]
  rfl
theorem rst (a b : Addr) : (rnf a b).lookup ("state_numbers" : Str) = some (.ref a) := by
  unfold rnf
  simp [List.lookup]
theorem red (a b : Addr) : (rnf a b).lookup ("edge_numbers" : Str) = some (.ref b) := by
  unfold rnf
  have h : (("edge_numbers" : Str) == ("state_numbers" : Str)) = false := by decide +kernel
  simp [List.lookup, h]
theorem rno (a b : Addr) {m : Str} (h1 : (m == ("state_numbers" : Str)) = false) (h2 : (m == ("edge_numbers" : Str)) = false) : (rnf a b).lookup m = none := by
  unfold rnf
  simp [List.lookup, h1, h2]
def RnO (CR : Addr) (H : Hp) (o : Addr) (s e : List Nat) : Prop := ∃ dx a b, H o = some (.ins CR dx (rnf a b)) ∧ H a = some (.tup (nV s)) ∧ H b = some (.tup (nV e))
theorem RnO.same {CR : Addr} {H H' : Hp} {o : Addr} {s e : List Nat} (h : RnO CR H o s e) (sm : Same H H') : RnO CR H' o s e := by
  obtain ⟨dx, a, b, h1, h2, h3⟩ := h
  exact ⟨dx, a, b, sm _ _ h1, sm _ _ h2, sm _ _ h3⟩
def spRI (CR : Addr) : Sp := fun vs H Q _ => ∃ (o dx a b : Addr) (s e : List Nat), vs = [.ref o, .ref a, .ref b] ∧ H o = some (.ins CR dx []) ∧ H a = some (.tup (nV s)) ∧ H b = some (.tup (nV e)) ∧ ∀ H', KeepB o H H' → RnO CR H' o s e → Q .non H'
def spREq (CR : Addr) : Sp := fun vs H Q _ => ∃ (o1 o2 : Addr) (s e : List Nat), vs = [.ref o1, .ref o2] ∧ RnO CR H o1 s e ∧ RnO CR H o2 s e ∧ Q (.bl true) H
def spRCk (C CR : Addr) : Sp := fun vs H Q _ => ∃ (o g : Addr) (n : Nat) (ps : Ps) (s e : List Nat), vs = [.ref o, .ref g] ∧ RnO CR H o s e ∧ Gok C H g n ps ∧ s.Perm (List.range n) ∧ e.Perm (List.range ps.length) ∧ ∀ H', Same H H' → Q .non H'
/-- the pairs of the graph behind a renaming -/
def resP (s e : List Nat) (ps : Ps) : Ps := (invP ps.length e).map fun k => rn s (pat ps k)
def spRR (C CR : Addr) : Sp := fun vs H Q _ => ∃ (o g : Addr) (n : Nat) (ps : Ps) (s e : List Nat), vs = [.ref o, .ref g] ∧ RnO CR H o s e ∧ Gok C H g n ps ∧ s.Perm (List.range n) ∧ e.Perm (List.range ps.length) ∧ ∀ (g' : Addr) (H' : Hp), Same H H' → H g' = none → Gok C H' g' n (resP s e ps) → Q (.ref g') H'
theorem resP_len (s e : List Nat) (ps : Ps) : (resP s e ps).length = ps.length := by
  unfold resP invP
  simp
theorem res_valid {n : Nat} {ps : Ps} {s e : List Nat} (h : VaP n ps) (hs : s.Perm (List.range n)) (he : e.Perm (List.range ps.length)) : VaP n (resP s e ps) := by
  have iv := inv_perm he
  have mem : ∀ k, k < ps.length → rn s (pat ps k) ∈ resP s e ps := fun k hk => by
    unfold resP
    exact List.mem_map.mpr ⟨k, iv.mem_iff.mpr (List.mem_range.mpr hk), rfl⟩
  refine ⟨fun p hp => ?_, fun k k0 k1 => ?_⟩
  · unfold resP at hp
    obtain ⟨k, hk, rfl⟩ := List.mem_map.mp hp
    have hk : k < ps.length := pm_lt iv hk
    exact rn_rg hs (ps := ps) (fun p hp => h.rg p hp) _ (List.mem_map.mpr ⟨_, pat_mem hk, rfl⟩)
  · obtain ⟨i, hi, ei⟩ := pm_sur hs (x := k.toNat) (by omega)
    obtain ⟨p, hp, ep⟩ := h.sr (i : Int) (by omega) (by omega)
    obtain ⟨j, jl, ej⟩ := List.getElem_of_mem hp
    have pj : pat ps j = p := by
      have := pat_at jl
      rw [List.getElem?_eq_getElem jl, ej] at this
      exact (Option.some.inj this).symm
    refine ⟨_, mem j jl, ?_⟩
    rw [pj]
    show ((s.getD p.1.toNat 0 : Nat) : Int) = k
    rw [ep, Int.toNat_natCast, ei]
    omega
/-- the renaming that was searched leads to the other graph -/
theorem res_ens {t : List Nat} {ps qs : Ps} (h : (ps.map (rn t)).Perm qs) : resP t (ens t ps qs) ps = qs := by
  have hl : ps.length = qs.length := by
    have := h.length_eq
    rw [List.length_map] at this
    exact this
  refine List.ext_getElem? fun j => ?_
  unfold resP invP
  rw [List.map_map, List.getElem?_map]
  by_cases hj : j < ps.length
  · rw [List.getElem?_range hj, ens_back h hj]
    rfl
  · rw [List.getElem?_eq_none (by simp; omega), List.getElem?_eq_none (by omega)]
    rfl
section
variable {P : Program} {w : World} {K : PySem.W.Frag} {mg : Str → Option Value} {base : Heap} {f C CR : Addr} {mc : Value} {fd : FuncData} {k : Nat}
theorem scRI : FnScope ["self", "states", "edges"] ["self", "states", "edges"] (defScope sRI) := ⟨rfl, rfl, rfl, by decide +kernel, rfl, by decide +kernel, by decide +kernel⟩
theorem scREq : FnScope ["self", "other"] ["self", "other"] (defScope sREq) := ⟨rfl, rfl, rfl, by decide +kernel, rfl, by decide +kernel, by decide +kernel⟩
theorem scRCk : FnScope ["self", "graph"] ["self", "graph"] (defScope sRCk) := ⟨rfl, rfl, rfl, by decide +kernel, rfl, by decide +kernel, by decide +kernel⟩
theorem scRR : FnScope NRR ["self", "graph"] (defScope sRR) := ⟨rfl, rfl, rfl, by decide +kernel, rfl, by decide +kernel, by decide +kernel⟩
theorem ok_ri (F : Fun K "__init__" "Renaming.__init__" sRI f fd) (T : Bi mg) (R : RTxt K mg CR) : FnOk P w K mg base CX0 (k + 1) f fd ["self", "states", "edges"] (spRI CR) := by
  refine F.ok scRI (fun vs H Q E h => ?_) (fun cdv A outer s H vs Q E hr h => ?_)
  · obtain ⟨o, dx, a, b, st, e, rfl, _⟩ := h
    rfl
  · obtain ⟨o, dx, a, b, st, e, rfl, ho, ha, hb, q⟩ := h
    refine ⟨_, pss_cons (ps_fld (pv 0) (pe_callTy call_tuple_of (by rfl) T.tuple (by decide +kernel) (pa_cons (pv 1) pa_nil)) rfl) (pss_one (ps_fld (pv 0) (pe_callTy call_tuple_of (by rfl) T.tuple (by decide +kernel) (pa_cons (pv 2) pa_nil)) rfl)), ?_⟩
    have ao : a ≠ o := fun z => by
      rw [z, ho] at ha
      cases ha
    have bo : b ≠ o := fun z => by
      rw [z, ho] at hb
      cases hb
    refine ⟨_, rfl, a, _, rfl, .inr ⟨SqT.of ha, ?_⟩⟩
    refine ⟨_, rfl, o, CR, dx, [], rfl, ho, R.cl, R.nS, (by show 0 < 1000; decide), ?_⟩
    rw [rput1]
    refine ⟨_, rfl, b, _, rfl, .inr ⟨SqT.of (by rw [upd_ne bo]; exact hb), ?_⟩⟩
    refine ⟨_, rfl, o, CR, dx, _, rfl, upd_same, R.cl, R.nE, (by show 1 < 1000; decide), ?_⟩
    rw [rput2, upd_upd]
    exact q _ .updb ⟨dx, a, b, upd_same, by rw [upd_ne ao]; exact ha, by rw [upd_ne bo]; exact hb⟩
theorem ok_req (F : Fun K "__eq__" "Renaming.__eq__" sREq f fd) (T : Bi mg) (R : RTxt K mg CR) (S : C8.InsC K CR) : FnOk P w K mg base CX0 (k + 1) f fd ["self", "other"] (spREq CR) := by
  refine F.ok scREq (fun vs H Q E h => ?_) (fun cdv A outer s H vs Q E hr h => ?_)
  · obtain ⟨a, b, st, e, rfl, _⟩ := h
    rfl
  · obtain ⟨o1, o2, st, e, rfl, ⟨d1, a1, b1, h1, ha1, hb1⟩, ⟨d2, a2, b2, h2, ha2, hb2⟩, q⟩ := h
    refine ⟨_, pss_one (ps_ret (pe_and (pe_callB call_isi (by rfl) T.isi (by decide +kernel) (pa_cons (pv 1) (pa_cons (pe_glob (v := .ref CR) (by rfl) R.mgR rfl) pa_nil)))
      (pe_and (pe_cmpR (op_eqD hr.units) (pe_fld (pv 0) rfl) (pe_fld (pv 1) rfl) (nomark _)) (pe_one (pe_cmpR (op_eqD hr.units) (pe_fld (pv 0) rfl) (pe_fld (pv 1) rfl) (nomark _)))))), ?_⟩
    have dp : ∀ {a : Addr} {z : List Nat}, H a = some (.tup (nV z)) → Dp K H (.ref a) (.tuple ((z.map fun k => ((k : Nat) : Int)).map PyData.int)) := fun {a z} h => .tup (SqT.of h) (by rw [nV_ints]; exact dp_ints _)
    refine ⟨_, rfl, _, _, _, _, true, rfl, .own _, .base (.ins h2 S.cl S.ha S.hn S.htk S.hm), S.me, true, rfl, iteT ?_⟩
    refine ⟨_, rfl, o1, CR, d1, _, _, rfl, h1, R.cl, R.nS, rst _ _, _, rfl, o2, CR, d2, _, _, rfl, h2, R.cl, R.nS, rst _ _, _, _, dp ha1, dp ha2, sh_ints _, sh_ints _, _, rfl, ?_⟩
    refine if_t ((eqv_ints _ _).trans (decide_eq_true rfl)) ?_
    refine ⟨_, rfl, o1, CR, d1, _, _, rfl, h1, R.cl, R.nE, red _ _, _, rfl, o2, CR, d2, _, _, rfl, h2, R.cl, R.nE, red _ _, _, _, dp hb1, dp hb2, sh_ints _, sh_ints _, ?_⟩
    rw [show PyData.eqv (.tuple ((e.map fun k => ((k : Nat) : Int)).map PyData.int)) (.tuple ((e.map fun k => ((k : Nat) : Int)).map PyData.int)) = true from (eqv_ints _ _).trans (decide_eq_true rfl)]
    exact q
set_option maxHeartbeats 4000000 in
theorem ok_rck {fL : Addr} {fdL : FuncData} (F : Fun K "check" "Renaming.check" sRCk f fd) (T : Bi mg) (R : RTxt K mg CR) (cI : C8.Cal P w K mg base 1 "is_permutation" spIp []) (pS : Prp P w K mg base 1 C "states" (spStates C))
    (hL1 : PySem.W.findIn K (.ref C) "__len__" = some (some (.ref fL))) (hL2 : PySem.W.isFn K (.ref fL) = true) (FL : FnOk P w K mg base CX0 1 fL fdL ["self"] (spLen C)) (bL : Binds K fdL ["self"] []) : FnOk P w K mg base CX0 (k + 3) f fd ["self", "graph"] (spRCk C CR) := by
  refine F.ok scRCk (fun vs H Q E h => ?_) (fun cdv A outer s H vs Q E hr h => ?_)
  · obtain ⟨o, g, n, ps, st, e, rfl, _⟩ := h
    rfl
  · obtain ⟨o, g, n, ps, st, e, rfl, ⟨dx, a, b, ho, ha, hb⟩, G, hs, he, q⟩ := h
    have n8 := G.n8
    have l24 := G.l24
    obtain ⟨us, GA, eu⟩ := G.at_
    obtain ⟨⟨dg, t, h1, h2⟩, ed⟩ := id GA
    refine ⟨_, pss_one (ps_if (PW.pt (pw_or (pt_not (pt_val (C8.pe_c cI hr (by omega) (by rfl) (pa_cons (pe_fld (pv 0) rfl) (pa_cons (pe_pr pS hr (by omega) (pv 1)) pa_nil))))) (pw_or1 (pt_not (pt_val (C8.pe_c cI hr (by omega) (by rfl) (pa_cons (pe_fld (pv 0) rfl) (pa_cons (pe_callB (call_lenO (E := E0) FL hL1 hL2 bL pass0 (hr.mono (by omega))) (by rfl) T.len PySem.boot_len (pa_cons (pv 1) pa_nil)) pa_nil)))))))) (pss_one ps_never) pss_nil), ?_⟩
    refine ⟨_, rfl, o, CR, dx, _, _, rfl, ho, R.cl, R.nS, rst _ _, _, rfl, g, dg, _, rfl, h1, g, (n : Int), us, rfl, GA, a, n, st, rfl, ha, hs, by omega, fun H1 s1 => ⟨_, rfl, ?_⟩⟩
    refine if_f rfl ?_
    have lu : us.length = ps.length := by rw [← eu, psL_len]
    refine ⟨_, rfl, o, CR, dx, _, _, rfl, s1 _ _ ho, R.cl, R.nE, red _ _, _, rfl, g, dg, _, rfl, s1 _ _ h1, g, (n : Int), us, rfl, GA.same s1, _, rfl, ⟨by omega, by omega⟩, b, us.length, e, rfl, s1 _ _ hb, by rw [lu]; exact he, by omega, fun H2 s2 => ⟨_, rfl, ?_⟩⟩
    exact if_f rfl (q _ (s1.trans s2))
set_option maxHeartbeats 8000000 in
theorem ok_rr (F : Fun K "result" "Renaming.result" sRR f fd) (R : RTxt K mg CR) (mCk : C8.Met P w K mg base 3 CR "check" (spRCk C CR) []) (cT : C8.Cal P w K mg base 1 "turned_back" spTb []) (mEd : C8.Met P w K mg base 1 C "edge" (spEdge0 C) []) (pS : Prp P w K mg base 1 C "states" (spStates C))
    (cG : C8.Mak P w K mg base 2 "Graph" C (spInit C) []) : FnOk P w K mg base CX0 (k + 4) f fd ["self", "graph"] (spRR C CR) := by
  refine F.ok scRR (fun vs H Q E h => ?_) (fun cdv A outer s H vs Q E hr h => ?_)
  · obtain ⟨o, g, n, ps, st, e, rfl, _⟩ := h
    rfl
  · obtain ⟨o, g, n, ps, st, e, rfl, RO, G, hs, he, q⟩ := h
    have n8 := G.n8
    have n1 := G.n1
    have l24 := G.l24
    refine ⟨_, pss_cons (ps_expr (C8.pe_mt mCk hr (by omega) (pv 0) (pa_cons (pv 1) pa_nil)))
      (pss_cons (ps_set (i := 2) scRR.nd rfl (.inr rfl) (pe_fld (pv 0) rfl))
      (C8.pss_cut (ps_setLc (i := 4) (own := [("number", 3)]) (g := gName 3) (tt := tYes) (te := tMeth C "edge" (spEdge0 C) [] E0 (tVar 1) (tCons (tVar 3) tNil)) rfl scRR.nd rfl rfl (sw_true rfl rfl rfl (by decide +kernel)) (pi_seqA (C8.pe_c cT hr (by omega) (by rfl) (pa_cons (pe_fld (pv 0) rfl) pa_nil))) (blkOk_by (N := NRR) (sc := defScope sRR) (by decide +kernel))
          (fun _ _ _ _ _ => by exact pg_name (i := 3) scRR.nd rfl (Or.inl rfl)) (fun _ _ _ _ _ => pts_nil)
          (fun _ _ _ _ _ => by exact C8.pe_mt mEd hr (by omega) (pv 1) (pa_cons (pv 3) pa_nil)))
      (pss_one (ps_ret (C8.pe_mk cG hr (by omega) (by rfl) (pa_cons (pe_pr pS hr (by omega) (pv 1)) (pa_cons
        (pe_lc (own := [("source", 5), ("target", 6)]) (g := gTup K 2 (gCons (gName 5) (gCons (gName 6) gNil))) (tt := tYes) (te := tTup (tCons (tOp (rIxT K) (tVar 2) (tVar 5)) (tCons (tOp (rIxT K) (tVar 2) (tVar 6)) tNil))) rfl scRR.nd (pi_seqA (pv 4)) (blkOk_by (N := NRR) (sc := defScope sRR) (by decide +kernel))
          (fun _ _ _ _ _ => by exact pg_tup rfl (pgs_cons (pg_name (i := 5) scRR.nd rfl (Or.inl rfl)) (pgs_cons (pg_name (i := 6) scRR.nd rfl (Or.inl rfl)) pgs_nil))) (fun _ _ _ _ _ => pts_nil)
          (fun _ _ _ _ _ => by exact pe_tup (pa_cons (pe_ix ix_tup (pv 2) (pv 5) (fun _ _ => rfl)) (pa_cons (pe_ix ix_tup (pv 2) (pv 6) (fun _ _ => rfl)) pa_nil)))) pa_nil))))))), ?_⟩
    obtain ⟨dx, a, b, ho, ha, hb⟩ := id RO
    refine ⟨_, rfl, o, dx, _, rfl, ho, rno _ _ (by decide +kernel) (by decide +kernel), _, rfl, o, g, n, ps, st, e, rfl, RO, G, hs, he, fun H1 s1 => ?_⟩
    refine ⟨_, rfl, o, CR, dx, _, _, rfl, s1 _ _ ho, R.cl, R.nS, rst _ _, ?_⟩
    have li : (invP ps.length e).length = ps.length := by
      unfold invP
      simp
    have iv := inv_perm he
    refine ⟨fun σ H' => ∃ (D : Addr) (ks : Es), σ = [some (.ref o), some (.ref g), some (.ref a), none, some (.ref D), none, none] ∧ Same H1 H' ∧ LsAt H' D ks ∧ psOf ks = (invP ps.length e).map (pat ps), ?_, ?_⟩
    · refine ⟨_, rfl, o, CR, dx, _, _, rfl, s1 _ _ ho, R.cl, R.nE, red _ _, b, ps.length, e, rfl, s1 _ _ hb, he, by omega, fun D1 H2 s2 e2 => ?_⟩
      obtain ⟨us, GA, eu⟩ := ((G.same s1).same s2).at_
      obtain ⟨⟨dg, t, h1, h2⟩, ed⟩ := id GA
      refine ⟨D1, _, SqT, rfl, .inr rfl, SqT.of e2, fun J w D hD => ?_⟩
      refine lc_it w (fun m H' => ∃ ks : Es, Same H2 H' ∧ LsAt H' D ks ∧ psOf ks = ((invP ps.length e).take m).map (pat ps)) ⟨[], same_upd hD, ⟨upd_same, Ed.nil⟩, rfl⟩ (fun m H' _ p => by obtain ⟨ks, s, _⟩ := p; exact SqT.of (s _ _ e2)) ?_ ?_
      · rintro m x H3 H4 hm ⟨ks, s3, L3, hk⟩ ⟨rfl, gx⟩
        rw [nV_len] at hm
        rw [nV_at hm] at gx
        cases gx
        have hz := getD_get hm
        generalize (invP ps.length e).getD m 0 = c at *
        have hc : c < ps.length := pm_lt iv (List.mem_of_getElem? hz)
        have hcu : c < us.length := by rw [← psL_len, eu]; exact hc
        obtain ⟨y, hy⟩ : ∃ y, us[c]? = some y := ⟨_, List.getElem?_eq_getElem hcu⟩
        have lk : ks.length ≤ 24 := by
          have h1 := congrArg List.length hk
          rw [psL_len, List.length_map, List.length_take] at h1
          omega
        refine ⟨rfl, ?_⟩
        refine ⟨_, rfl, g, dg, _, rfl, s3 _ _ h1, look_no _ _ (by decide +kernel) (by decide +kernel), _, rfl, g, (n : Int), us, c, y, rfl, GA.same s3, hy, _, L3.ls, ?_, ks ++ [y], ?_, ⟨?_, ?_⟩, ?_⟩
        · rw [vsOf_len]
          exact small1000 (by omega)
        · intro b o e
          rw [upd_ne (ne_of_none e hD)]
          exact s3 _ _ e
        · rw [upd_same]
          unfold vsOf
          rw [List.map_append]
          rfl
        · intro z hz2
          have : H4 z.1 = some (.tup [.int z.2.1, .int z.2.2]) := by
            rcases List.mem_append.mp hz2 with hz2 | hz2
            · exact L3.ed z hz2
            · rw [List.mem_singleton.mp hz2]
              exact s3 _ _ (ed y (List.mem_of_getElem? hy))
          rw [upd_ne fun w => ?_]
          · exact this
          · rw [w, L3.ls] at this
            cases this
        · have py : pat ps c = y.2 := by
            have h1 := pat_at hc
            have h2 := psOf_at hy
            rw [eu, h1] at h2
            exact Option.some.inj h2
          rw [psOf_app, hk, take_snoc hz, List.map_append]
          show _ ++ [y.2] = _ ++ [pat ps c]
          rw [py]
      · rintro H3 ⟨ks, s3, L3, hk⟩
        rw [nV_len, List.take_length] at hk
        exact ⟨D, ks, rfl, s2.trans s3, L3, hk⟩
    rintro σ H2 ⟨D, ks, rfl, s2, L2, hk⟩
    have s12 := s1.trans s2
    have G := G.same s12
    obtain ⟨us, GA, eu⟩ := G.at_
    obtain ⟨⟨dg, t, h1, h2⟩, ed⟩ := id GA
    have lk : ks.length = ps.length := by
      have h1 := congrArg List.length hk
      rw [psL_len, List.length_map, li] at h1
      exact h1
    have lt := pm_len hs
    have at_ : ∀ z : Int, 0 ≤ z → z < n → atI (nV st) z = some (.int ((st.getD z.toNat 0 : Nat) : Int)) := fun z z0 z1 => by
      have := atI_nat (xs := nV st) (nV_at (s := st) (i := z.toNat) (by omega))
      rw [Int.toNat_of_nonneg z0] at this
      exact this
    refine ⟨_, rfl, g, dg, _, rfl, h1, g, (n : Int), us, rfl, GA, ?_⟩
    refine ⟨_, rfl, D, _, SqL, rfl, .inl rfl, SqL.of L2.ls, fun J w D2 hD2 => ?_⟩
    refine lc_it w (fun m H' => ∃ ws : Es, Same H2 H' ∧ LsAt H' D2 ws ∧ psOf ws = (psOf (ks.take m)).map (rn st)) ⟨[], same_upd hD2, ⟨upd_same, Ed.nil⟩, rfl⟩ (fun m H' _ p => by obtain ⟨ws, s, _⟩ := p; exact SqL.of (s _ _ L2.ls)) ?_ ?_
    · rintro m x H3 H4 hm ⟨ws, s3, L3, hw⟩ ⟨rfl, gx⟩
      rw [vsOf_len] at hm
      obtain ⟨y, hy, rfl⟩ := vsOf_at gx
      have lw : ws.length ≤ 24 := by
        have h1 := congrArg List.length hw
        rw [psL_len, List.length_map, psL_len, List.length_take] at h1
        omega
      have hy2 : y.2 ∈ (invP ps.length e).map (pat ps) := by
        rw [← hk]
        exact List.mem_map.mpr ⟨y, List.mem_of_getElem? hy, rfl⟩
      obtain ⟨c, hc, ec⟩ := List.mem_map.mp hy2
      obtain ⟨r1, r2, r3, r4⟩ := G.va.rg y.2 (by rw [← ec]; exact pat_mem (pm_lt iv hc))
      have ha3 := s3 _ _ (s12 _ _ ha)
      refine ⟨y.1, _, rfl, SqT.of (s3 _ _ (L2.ed y (List.mem_of_getElem? hy))), rfl, _, _, rfl, _, _, rfl, rfl, rfl, ?_⟩
      refine ⟨_, rfl, _, rfl, a, _, _, _, rfl, rfl, SqT.of ha3, at_ _ r1 r2, _, rfl, _, rfl, a, _, _, _, rfl, rfl, SqT.of ha3, at_ _ r3 r4, (by show 2 ≤ sizeLine; decide), fun tt ht => ?_⟩
      have s4 := same_upd (o := .tup [.int (rn st y.2).1, .int (rn st y.2).2]) ht
      have nt : tt ≠ D2 := fun w => by
        rw [w, L3.ls] at ht
        cases ht
      have L4 := L3.same s4
      refine ⟨_, L4.ls, ?_, ws ++ [(tt, (rn st y.2).1, (rn st y.2).2)], ?_, L4.snoc (H := H4) upd_same nt, ?_⟩
      · rw [vsOf_len]
        exact small1000 (by omega)
      · intro b o e
        rw [upd_ne (ne_of_none e hD2)]
        exact s4 _ _ (s3 _ _ e)
      · rw [psOf_app, hw, take_snoc hy, psOf_app, List.map_append]
        rfl
    · rintro H3 ⟨ws, s3, L3, hw⟩
      rw [vsOf_len, List.take_length, hk, List.map_map] at hw
      have hw : psOf ws = resP st e ps := hw
      have va := res_valid G.va hs he
      have lw := resP_len st e ps
      intro g' dx' hg hdx nex
      have s4 := make_same (C := C) hg hdx nex
      have L4 := L3.same s4
      have ng : H g' = none := (s12.trans s3).free hg
      refine ⟨g', dx', D2, (n : Int), ws, HO.lst, rfl, upd_same, .inl rfl, L4.ls, L4.ed, VaP.es (by rw [hw]; exact va), by omega, by omega, by rw [← psL_len, hw]; omega, fun vs H' hvs kp GB => ⟨rfl, ?_⟩⟩
      refine q g' H' (fun c o ec => kp c o (ne_of_none ec ng) (s4 _ _ (s3 _ _ (s12 _ _ ec)))) ng ⟨⟨vs, GB, hvs.trans hw⟩, va, n1, n8, by omega⟩
end
end Lw
set_option Elab.async false
set_option linter.all false
set_option maxRecDepth 100000
/-! a renaming between two graphs, or None -/
namespace Lw
open PySem L2
abbrev sFR : Stmt := top 58
theorem Gok.rg {C : Addr} {H : Hp} {g : Addr} {n : Nat} {ps : Ps} (h : Gok C H g n ps) : Rg n ps := fun p hp => h.va.rg p hp
def spFR (C CR : Addr) : Sp := fun vs H Q _ => ∃ (g g2 : Addr) (n n2 : Nat) (ps qs : Ps), vs = [.ref g, .ref g2] ∧ Gok C H g n ps ∧ Gok C H g2 n2 qs ∧
  (∀ H', Same H H' → (n ≠ n2 ∨ fsn n ps qs = none) → Q .non H') ∧ (∀ (o : Addr) (t : List Nat) (H' : Hp), Same H H' → H o = none → n = n2 → fsn n ps qs = some t → RnO CR H' o t (ens t ps qs) → Q (.ref o) H')
section
variable {P : Program} {w : World} {K : PySem.W.Frag} {mg : Str → Option Value} {base : Heap} {f C CR : Addr} {fd : FuncData} {k : Nat}
theorem scFR : FnScope ["one", "other", "numbers"] ["one", "other"] (defScope sFR) := ⟨rfl, rfl, rfl, by decide +kernel, rfl, by decide +kernel, by decide +kernel⟩
set_option maxHeartbeats 8000000 in
theorem ok_fr (F : Fun K "find_renaming" "find_renaming" sFR f fd) (R : RTxt K mg CR) (mC : C8.Met P w K mg base 1 C "counts" (spCounts C) []) (pS : Prp P w K mg base 1 C "states" (spStates C)) (cN : C8.Cal P w K mg base 2 "find_state_numbers" spFsn []) (cE : C8.Cal P w K mg base 2 "edge_numbers_between" (spEn C) [])
    (mR : C8.Mak P w K mg base 1 "Renaming" CR (spRI CR) []) : FnOk P w K mg base CX0 (k + 3) f fd ["one", "other"] (spFR C CR) := by
  refine F.ok scFR (fun vs H Q E h => ?_) (fun cdv A outer s H vs Q E hr h => ?_)
  · obtain ⟨g, g2, n, n2, ps, qs, rfl, _⟩ := h
    rfl
  · obtain ⟨g, g2, n, n2, ps, qs, rfl, G1, G2, q1, q2⟩ := h
    obtain ⟨us1, GA1, eu1⟩ := G1.at_
    obtain ⟨us2, GA2, eu2⟩ := G2.at_
    obtain ⟨⟨dg1, t1, h11, h12⟩, ed1⟩ := id GA1
    obtain ⟨⟨dg2, t2, h21, h22⟩, ed2⟩ := id GA2
    have n8 := G1.n8
    have n1 := G1.n1
    have l1 := G1.l24
    have l2 := G2.l24
    refine ⟨_, pss_cons (ps_if (pt_cmpR op_ne (pe_pr pS hr (by omega) (pv 0)) (pe_pr pS hr (by omega) (pv 1)) (nomark _)) (pss_one (ps_ret pe_non)) pss_nil)
      (pss_cons (ps_set (i := 2) scFR.nd rfl (.inl rfl) (C8.pe_c cN hr (by omega) (by rfl) (pa_cons (C8.pe_mt0 mC hr (by omega) (pv 0)) (pa_cons (C8.pe_mt0 mC hr (by omega) (pv 1)) pa_nil))))
      (pss_cons (ps_if (pt_cmpR op_isN (pv 2) pe_non (nomark _)) (pss_one (ps_ret pe_non)) pss_nil)
      (pss_one (ps_ret (C8.pe_mk mR hr (by omega) (by rfl) (pa_cons (pv 2) (pa_cons (C8.pe_c cE hr (by omega) (by rfl) (pa_cons (pv 0) (pa_cons (pv 1) (pa_cons (pv 2) pa_nil)))) pa_nil))))))), ?_⟩
    refine ⟨_, rfl, g, dg1, _, rfl, h11, g, (n : Int), us1, rfl, GA1, _, rfl, g2, dg2, _, rfl, h21, g2, (n2 : Int), us2, rfl, GA2, rfl, _, rfl, ?_⟩
    by_cases hn : n ≠ n2
    · refine if_t (by rw [decide_eq_false fun z => hn (by have := V.int.inj z; omega)]; rfl) ?_
      exact q1 H (fun _ _ z => z) (.inl hn)
    have hn : n = n2 := Decidable.not_not.mp hn
    subst hn
    refine if_f (by simp) ?_
    refine ⟨_, rfl, g, dg1, _, rfl, h11, look_no _ _ (by decide +kernel) (by decide +kernel), g, (n : Int), us1, rfl, GA1, by omega, by omega, by rw [← psL_len, eu1]; omega, fun e he => G1.va.rg e.2 (by rw [← eu1]; exact List.mem_map.mpr ⟨e, he, rfl⟩), fun T1 r1 H1 s1 np nr c1 => ?_⟩
    rw [Int.toNat_natCast, eu1] at c1
    refine ⟨_, rfl, g2, dg2, _, rfl, s1 _ _ h21, look_no _ _ (by decide +kernel) (by decide +kernel), g2, (n : Int), us2, rfl, GA2.same s1, by omega, by omega, by rw [← psL_len, eu2]; omega, fun e he => G2.va.rg e.2 (by rw [← eu2]; exact List.mem_map.mpr ⟨e, he, rfl⟩), fun T2 r2 H2 s2 np2 nr2 c2 => ?_⟩
    rw [Int.toNat_natCast, eu2] at c2
    have s12 := s1.trans s2
    refine ⟨T1, T2, r1, r2, n, ps, qs, rfl, c1.same s2, c2, n1, n8, fun t N H3 s3 ft hN => ?_, fun H3 s3 fn => ?_⟩
    · have s13 := s12.trans s3
      refine ⟨_, rfl, rfl, _, rfl, if_f (by simp) ?_⟩
      obtain ⟨hl, gd⟩ := fsn_some ft
      have pm := gd.perm hl
      have pp := iso_of_gd gd hl G1.rg G2.rg
      refine ⟨_, rfl, _, rfl, _, rfl, _, rfl, g, g2, N, n, ps, qs, t, rfl, G1.same s13, G2.same s13, hN, pm, pp, fun E4 H4 s4 e4 => ?_⟩
      intro o dx no ndx nex
      have s5 := make_same (C := CR) no ndx nex
      refine ⟨o, dx, N, E4, t, ens t ps qs, rfl, upd_same, s5 _ _ (s4 _ _ hN), s5 _ _ e4, fun H6 kp RO => ⟨rfl, ?_⟩⟩
      have so := s13.trans s4
      have ng : H o = none := so.free no
      exact q2 o t H6 (fun c u ec => kp c u (ne_of_none ec ng) (s5 _ _ (so _ _ ec))) ng rfl ft RO
    · refine ⟨_, rfl, rfl, _, rfl, if_t (by simp) ?_⟩
      exact q1 H3 (s12.trans s3) (.inr fn)
end
end Lw
set_option Elab.async false
set_option linter.all false
set_option maxRecDepth 100000
namespace Lw
open PySem PySem.Spec PyProof.Rows L2
open AutoSeq1 (wpAny_loadPart')
section
variable {prog : Program} {w : World} {A : Around} {E : Value → Shared → Prop} {s : Shared} {a : Addr} {v : Value}
/-- the built-in == of v knows nothing of the object at a -/
def Declines (prog : Program) (w : World) (v : Value) (a : Addr) (s : Shared) : Prop := ∀ (A : Around) (E : Value → Shared → Prop), wpAny (model prog w) A (tryCompare v "__eq__" (.ref a)) (fun r s' => r = none ∧ s' = s) E s
theorem decl_by {T id : String} {B : Builtin} (hT : s.TypeIs v T) (slot : Slot T "__eq__" id) (entry : entryFor table id = some B) (args : argsOk id ⟨[v, .ref a], []⟩)
    (h : ∀ (A : Around) (R : Result → Shared → Prop), R (.ok (.ret .notImplemented)) s → wpAny (model prog w) A.in1 (B ⟨[v, .ref a], []⟩) (GQ.FinOf prog w A R) (fun e s' => R (.error e) s') s) : Declines prog w v a s := fun A E => by
  unfold tryCompare
  refine wpAny_bind (wpAny_callSpecialIfBound?_slot hT slot (GQ.call_here slot hT entry args (h A _ ?_)))
  exact wpAny_pure ⟨rfl, rfl⟩
theorem decl_none : Declines prog w .none a s := by
  refine decl_by (T := "NoneType") rfl PySem.F.slot_NoneType_eq PySem.F.entry_NoneType_eq (PySem.F.args_NoneType_eq_2 _ _) fun A R h => ?_
  obtain ⟨hp, g, d, tk, os⟩ := s
  unfold Builtin.«NoneType.__eq__»
  wp_walk
  exact h
variable {K : PySem.W.Frag} {C : Addr} {ox : Obj} {od : Option Obj}
theorem wp_inst_no {M : Model} {T : String} {Q : Bool → Shared → Prop} (kin : K.In s.heap) (J : PySem.W.InstAt s.heap a ox C od) (e : PySem.W.subIn K (.ref C) (.type T) = some false) (q : Q false s) : wpAny M A (isInstance (.ref a) (.type T)) Q E s := by
  unfold isInstance
  exact wpAny_bind (J.type.here ((PySem.W.looks_subIn kin e).here q))
theorem decl_list {l : Addr} (hT : s.TypeIs (.ref l) "list") (kin : K.In s.heap) (J : PySem.W.InstAt s.heap a ox C od) (e : PySem.W.subIn K (.ref C) (.type "list") = some false) : Declines prog w (.ref l) a s := by
  refine decl_by (T := "list") hT PySem.F.slot_list_eq PySem.F.entry_list_eq (PySem.F.args_list_eq_2 _ _) fun A R h => ?_
  obtain ⟨hp, g, d, tk, os⟩ := s
  wp_walk using wp_inst_no kin J e
  exact h
theorem decl_tuple {l : Addr} (hT : s.TypeIs (.ref l) "tuple") (kin : K.In s.heap) (J : PySem.W.InstAt s.heap a ox C od) (e : PySem.W.subIn K (.ref C) (.type "tuple") = some false) : Declines prog w (.ref l) a s := by
  refine decl_by (T := "tuple") hT PySem.F.slot_tuple_eq PySem.F.entry_tuple_eq (PySem.F.args_tuple_eq_2 _ _) fun A R h => ?_
  obtain ⟨hp, g, d, tk, os⟩ := s
  wp_walk using wp_inst_no kin J e
  exact h
theorem decl_int {i : Int} {t : Tok} {dx : Addr} (hob : s.heap.get? a = some (PySem.W.instObj C dx)) : Declines prog w (.int i t) a s := by
  refine decl_by (T := "int") rfl PySem.F.slot_int_eq PySem.F.entry_int_eq (PySem.F.args_int_eq_2 _ _) fun A R h => ?_
  obtain ⟨hp, g, d, tk, os⟩ := s
  wp_walk
  exact h
end
section
variable {X : Cx} {n : Nat} {A : Around} {pins : List (Addr × Obj)} {s : Shared} {σ : L2.St} {H : Hp} {CX : CXT} {C f : Addr} {fd : FuncData} {ps : List Str} {sp : Sp} {E : XK}
/-- v == the object at a, where v's own == declines: the object's own answers -/
theorem rc_back {a dx : Addr} {fs : List (Str × V)} {y : V} {v : Value} {T : String} {Q : VK} (F : FnOk X.prog X.w X.K X.mg X.base CX n f fd ps sp) (hs : PySem.W.findIn X.K (.ref C) "__eq__" = some (some (.ref f))) (hf : PySem.W.isFn X.K (.ref f) = true)
    (hb : Binds X.K fd ps []) (hx : Passes CX X E) (sb : L2.Sub X n A) (I : Inv X pins σ H s) (ha : H a = some (.ins C dx fs)) (ry : RelV y v) (hT : s.TypeIs v T) (hsub : PySem.W.subIn X.K (.ref C) (.type T) = some false) (hd : Declines X.prog X.w v a s)
    (hsp : sp [.ref a, y] H (fun v H' => ∃ b, v = .bl b ∧ Q (.bl b) H') E) : wpAny (model X.prog X.w) A (richCompare .Eq v (.ref a)) (fun u s' => ∃ b H', u = .bool b ∧ Inv X pins σ H' s' ∧ Q (.bl b) H') X.xe s := by
  obtain ⟨mA, J, _⟩ := ins_get I.hok ha
  obtain ⟨od, J, _⟩ := J.look
  have kin := I.kIn
  have run := run_own F hb hx sb I (.cons (show RelV (.ref a) (.ref a) from rfl) (.cons ry .nil)) hsp
  unfold richCompare
  rw [hT.oneThing_none]
  refine wpAny_holding (wpAny_bind (wpAny_cRoomFor sb.room.units0 ?_))
  refine wpAny_bind (wpAny_typeOf hT (wpAny_bind (J.type.here ?_)))
  rw [show (Value.type T != Value.ref C) = true from rfl]
  simp only [if_true]
  refine wpAny_bind ((PySem.W.looks_subIn kin hsub).here ?_)
  simp only [Bool.false_eq_true, if_false]
  refine wpAny_bind (wpAny_mono (hd A X.xe) (fun r s' z => ?_) fun _ _ e => e)
  obtain ⟨rfl, rfl⟩ := z
  simp only [Bool.not_false, if_true]
  have one : wpAny (model X.prog X.w) A (tryCompare (.ref a) (cmpInfo .Eq).2.2 v) (fun r s' => ∃ u, r = some u ∧ ∃ b H', u = .bool b ∧ Inv X pins σ H' s' ∧ Q (.bl b) H') X.xe s' := by
    unfold tryCompare
    refine wpAny_bind (PySem.W.ifBound_K kin J hs hf (wpAny_mono run (fun u s2 h => ?_) fun _ _ e => e))
    obtain ⟨b, H', rfl, I', q⟩ := back_bool h
    exact wpAny_pure ⟨_, rfl, b, H', rfl, I', q⟩
  refine wpAny_bind (wpAny_mono one (fun r s2 z => ?_) fun _ _ e => e)
  obtain ⟨u, rfl, hq⟩ := z
  exact wpAny_pure hq
theorem eqB_of {v : Value} {a : Addr} {Q : Bool → Shared → Prop} {Er : Value → Shared → Prop} {M : Model} (hne : (v == Value.ref a) = false) (hfl : ∀ b t, v ≠ .float b t) (h : wpAny M A (richCompare .Eq v (.ref a)) (fun u s' => ∃ b, u = .bool b ∧ Q b s') Er s) : wpAny M A (eqBool v (.ref a)) Q Er s := by
  unfold eqBool
  refine wpAny_holding ?_
  rw [hne]
  simp only [Bool.false_eq_true, if_false]
  have fin : wpAny M A (richCompare .Eq v (.ref a) >>= fun r => truthOfDropped r) Q Er s := wpAny_bind (wpAny_mono h (fun u s' z => by
    obtain ⟨b, rfl, q⟩ := z
    exact wpAny_truthy_bool q) fun _ _ e => e)
  cases v with
  | float b t => exact absurd rfl (hfl b t)
  | _ => exact fin
end
end Lw
set_option Elab.async false
set_option linter.all false
set_option maxRecDepth 100000
namespace Lw
open PySem PySem.Spec PyProof.Rows L2
open AutoSeq1 (wpAny_loadPart')
open MeetsSeq MeetsSeq2 MeetsSeq3 SeqRoads2
section
variable {prog : Program} {w : World} {A : Around} {R : Result → Shared → Prop}
/-- in over a list, where no item answers True, and each answer keeps I -/
def InI (prog : Program) (w : World) (A : Around) (Er : Value → Shared → Prop) (l : Addr) (x : Value) (N : Nat) (I : Shared → Prop) : Prop :=
  ∀ s, I s → ∃ (items : Array Value) (n : Nat), s.heap.get? l = some { cls := .type "list", data := .seq items n } ∧ items.size = N ∧ ∀ (i : Nat) (h : i < items.size), wpAny (model prog w) A.in1 (eqBool items[i] x) (fun r s' => r = false ∧ I s') Er s
theorem in_loopF (l : Addr) (x : Value) (N : Nat) (I : Shared → Prop) (hl : InI prog w A (fun e s' => R (.error e) s') l x N I) (fin : ∀ s, I s → R (.ok (.ret (.bool false))) s) (k : Nat) :
    ∀ i : Nat, N - i = k → ∀ s, I s → wpAny (model prog w) A.in1 (Builtin.«list.__contains__.loop» ⟨[.ref l, x, rawInt i], []⟩) (GQ.FinOf prog w A R) (fun e s' => R (.error e) s') s := by
  induction k with
  | zero =>
    intro i hk s h
    obtain ⟨items, n, hl1, hsz, _⟩ := hl _ h
    have hR := fin s h
    obtain ⟨hp, g, d, tk, os⟩ := s
    wp_walk using wpAny_loadPart' hl1
    have hi : items[((i : Nat) : Int).toNat]? = none := by simp; omega
    rw [hi]
    wp_walk
    exact hR
  | succ k ih =>
    intro i hk s h
    obtain ⟨items, n, hl1, hsz, he⟩ := hl _ h
    have hlt : i < items.size := by omega
    have ht := he i hlt
    obtain ⟨hp, g, d, tk, os⟩ := s
    wp_walk using wpAny_loadPart' hl1
    have hi : items[((i : Nat) : Int).toNat]? = some items[i] := by simp [hlt]
    have hc : ((i : Int) + 1) = ((i + 1 : Nat) : Int) := by omega
    rw [hi]
    refine wpAny_bind (wpAny_mono ht (fun r s2 h2 => ?_) fun _ _ x => x)
    obtain ⟨hr, h2⟩ := h2
    subst hr
    have hrec := ih (i + 1) (by omega) s2 h2
    obtain ⟨hp2, g2, d2, tk2, os2⟩ := s2
    wp_walk
    rw [hc]
    exact ⟨plainId_quiet plain_contains_loop _, codeAny_builtin entry_contains_loop (by
      rw [Around.under_plainId plain_contains_loop _]
      exact hrec)⟩
theorem in_listF (l : Addr) (x : Value) (N : Nat) (I : Shared → Prop) (hl : InI prog w A (fun e s' => R (.error e) s') l x N I) (fin : ∀ s, I s → R (.ok (.ret (.bool false))) s) {s : Shared} (h : I s) :
    wpAny (model prog w) A.in1 (Builtin.«list.__contains__» ⟨[.ref l, x], []⟩) (GQ.FinOf prog w A R) (fun e s' => R (.error e) s') s := by
  obtain ⟨items, n, hl1, hsz, he⟩ := hl _ h
  have hrec := in_loopF (A := A) (R := R) l x N I hl fin _ 0 rfl s h
  obtain ⟨hp, g, d, tk, os⟩ := s
  wp_walk using wpAny_loadPart' hl1
  exact ⟨plainId_quiet plain_contains_loop _, codeAny_builtin entry_contains_loop (by
    rw [Around.under_plainId plain_contains_loop _]
    exact hrec)⟩
end
theorem vals_at : ∀ {xs : List V} {us : List Value}, Vals xs us → ∀ (i : Nat) (h : i < us.length), ∃ x, x ∈ xs ∧ RelV x us[i]
  | _, _, .cons r rs, 0, _ => ⟨_, List.mem_cons_self, r⟩
  | _, _, .cons r rs, i + 1, h => by
    obtain ⟨x, hx, rx⟩ := vals_at rs i (by simpa using h)
    exact ⟨x, List.mem_cons_of_mem _ hx, rx⟩
section
variable {X : Cx} {n : Nat} {CX : CXT} {C f : Addr} {fd : FuncData} {ps : List Str} {sp : Sp} {E : XK}
/-- what a thing in the list may be: None, an int, a list, a tuple -/
def Odd (H : Hp) (y : V) : Prop := y = .non ∨ (∃ i, y = .int i) ∨ (∃ p xs, y = .ref p ∧ H p = some (.lst xs)) ∨ ∃ p xs, y = .ref p ∧ H p = some (.tup xs)
/-- what the class must not be -/
structure NoSub (K : PySem.W.Frag) (C : Addr) : Prop where
  non : PySem.W.subIn K (.ref C) (.type "NoneType") = some false
  int : PySem.W.subIn K (.ref C) (.type "int") = some false
  lst : PySem.W.subIn K (.ref C) (.type "list") = some false
  tup : PySem.W.subIn K (.ref C) (.type "tuple") = some false
/-- the object at a in a list of things of other kinds: its own == answers False of each and changes nothing -/
def rInO (C : Addr) (sp : Sp) (E : XK) : R2 := fun x y H Q => ∃ (a l dx : Addr) (fs : List (Str × V)) (ys : List V), x = .ref a ∧ y = .ref l ∧ H a = some (.ins C dx fs) ∧ H l = some (.lst ys) ∧ (∀ y ∈ ys, Odd H y ∧ sp [.ref a, y] H (fun v H' => v = .bl false ∧ H' = H) E) ∧ Q (.bl false) H
theorem op_inO (F : FnOk X.prog X.w X.K X.mg X.base CX n f fd ps sp) (hs : PySem.W.findIn X.K (.ref C) "__eq__" = some (some (.ref f))) (hf : PySem.W.isFn X.K (.ref f) = true) (ns : NoSub X.K C) (hb : Binds X.K fd ps []) (hx : Passes CX X E) (hr : Room (n + 1) X.A)
    (hmono : ∀ vs H (Q Q' : VK) E, (∀ v H', Q v H' → Q' v H') → sp vs H Q E → sp vs H Q' E) :
    OpR X (compareOp .In) (rInO C sp E) := by
  intro pins s σ H x y v u Q I rx ry h
  obtain ⟨a, l, dx, fs, ys, rfl, rfl, ha, hl, hys, q⟩ := h
  cases rx
  cases ry
  obtain ⟨hz, its, nn, rv, hl0⟩ := (show ObjOk X.prog X.w H s.heap l (.lst ys) from I.hok l _ hl)
  have sub1 := L2.Sub.in1 (X := X) (n := n) (A := X.A) ⟨hr, rfl⟩
  show wpAny (model X.prog X.w) X.A (do return Value.bool (← contains (.ref l) (.ref a))) _ _ s
  have hT : s.TypeIs (.ref l) "list" := ⟨_, hl0, rfl⟩
  refine wpAny_bind (wpAny_contains_slot hT PySem.F.slot_list_contains (GQ.call_here PySem.F.slot_list_contains hT PySem.F.entry_list_contains (PySem.F.args_list_contains_2 _ _) ?_))
  refine in_listF l (.ref a) ys.length (fun s' => Inv X pins σ H s') (fun s' I' => ?_) (fun s' I' => ?_) I
  · obtain ⟨hz', its', nn', rv', hl'⟩ := (show ObjOk X.prog X.w H s'.heap l (.lst ys) from I'.hok l _ hl)
    refine ⟨its'.toArray, nn', hl', by simpa using rv'.length.symm, fun i hi => ?_⟩
    obtain ⟨y, hy, ry⟩ := vals_at rv' i (by simpa using hi)
    obtain ⟨odd, hsp⟩ := hys y hy
    have hsp2 : sp [.ref a, y] H (fun v H' => ∃ b, v = .bl b ∧ ((fun v H' => v = .bl false ∧ H' = H) : VK) (.bl b) H') E := hmono _ _ _ _ _ (fun v H' h => ⟨false, h.1, rfl, h.2⟩) hsp
    have ei : its'.toArray[i] = its'[i]'(by simpa using hi) := by simp
    rw [ei]
    obtain ⟨mA, Jm, _⟩ := ins_get I'.hok ha
    have hob := Jm.1
    obtain ⟨od, J, _⟩ := Jm.look
    have fin : ∀ {v : Value} {T : String}, RelV y v → s'.TypeIs v T → PySem.W.subIn X.K (.ref C) (.type T) = some false → Declines X.prog X.w v a s' → (v == Value.ref a) = false → (∀ b t, v ≠ .float b t) →
        wpAny (model X.prog X.w) X.A.in1 (eqBool v (.ref a)) (fun r s' => r = false ∧ Inv X pins σ H s') (fun e s' => wants (fun r s' => wpAny (model X.prog X.w) X.A (truthy r) (fun b s' => wpAny (model X.prog X.w) X.A (pure (Value.bool b)) (EP X pins σ Q) X.xe s') X.xe s') X.xe (.error e) s') s' := by
      intro v T rv hT' hsub hd hne hfl
      refine eqB_of hne hfl (wpAny_mono (rc_back (Q := fun v H' => v = .bl false ∧ H' = H) F hs hf hb hx sub1 I' ha rv hT' hsub hd hsp2) (fun u s2 h => ?_) fun _ _ e => e)
      obtain ⟨b, H', rfl, I2, e1, rfl⟩ := h
      injection e1 with e1
      subst e1
      exact ⟨false, rfl, rfl, I2⟩
    rcases odd with rfl | ⟨j, rfl⟩ | ⟨p, xs, rfl, hp⟩ | ⟨p, xs, rfl, hp⟩
    · have e1 : its'[i]'(by simpa using hi) = Value.none := ry
      rw [e1]
      exact fin (T := "NoneType") rfl rfl ns.non decl_none rfl (fun b t z => nomatch z)
    · obtain ⟨t, e1⟩ := ry
      rw [e1]
      exact fin (T := "int") ⟨t, rfl⟩ rfl ns.int (decl_int hob) rfl (fun b t z => nomatch z)
    · have e1 : its'[i]'(by simpa using hi) = Value.ref p := ry
      rw [e1]
      obtain ⟨_, _, _, _, hpo⟩ := (show ObjOk X.prog X.w H s'.heap p (.lst xs) from I'.hok p _ hp)
      have pa : p ≠ a := fun z => by
        rw [z, ha] at hp
        cases hp
      exact fin (T := "list") rfl ⟨_, hpo, rfl⟩ ns.lst (decl_list ⟨_, hpo, rfl⟩ I'.kIn J ns.lst) (by simpa using pa) (fun b t z => nomatch z)
    · have e1 : its'[i]'(by simpa using hi) = Value.ref p := ry
      rw [e1]
      obtain ⟨_, _, _, o, hpo, hpc, _⟩ := (show ObjOk X.prog X.w H s'.heap p (.tup xs) from I'.hok p _ hp)
      have pa : p ≠ a := fun z => by
        rw [z, ha] at hp
        cases hp
      exact fin (T := "tuple") rfl ⟨_, hpo, hpc⟩ ns.tup (decl_tuple ⟨_, hpo, hpc⟩ I'.kIn J ns.tup) (by simpa using pa) (fun b t z => nomatch z)
  · exact wpAny_truthy_bool (wpAny_pure ⟨.bl false, H, I', rfl, q⟩)
end
end Lw
set_option Elab.async false
set_option linter.all false
set_option maxRecDepth 100000
/-! ==, != and in of objects of several classes with their own __eq__; which class is known only as it runs -/
namespace Lw
open PySem PySem.Spec PyProof.Rows L2
/-- two ways to read one row -/
theorem PE.or {X : Cx} {e : Expr} {t u : TE} (a : PE X e t) (b : PE X e u) : PE X e (fun σ H Q => t σ H Q ∨ u σ H Q) := ⟨fun pins s σ H Q I h => h.elim (a.run pins s σ H Q I) (b.run pins s σ H Q I)⟩
theorem OpR.or {X : Cx} {op : Value → Value → Sem Value} {r q : R2} (a : OpR X op r) (b : OpR X op q) : OpR X op (fun x y H Q => r x y H Q ∨ q x y H Q) := fun pins s σ H x y v u Q I rx ry h => h.elim (a pins s σ H x y v u Q I rx ry) (b pins s σ H x y v u Q I rx ry)
section
variable {X : Cx} {n : Nat} {A : Around} {pins : List (Addr × Obj)} {s : Shared} {σ : L2.St} {H : Hp} {CX : CXT} {C f : Addr} {fd : FuncData} {ps : List Str} {sp : Sp} {E : XK}
/-- x == y, x of the class at C, y of a class that is none below it -/
def rEqX (K : PySem.W.Frag) (C : Addr) (sp : Sp) (E : XK) : R2 := fun x y H Q => ∃ a b dx dy fs gs C2, x = .ref a ∧ y = .ref b ∧ H a = some (.ins C dx fs) ∧ H b = some (.ins C2 dy gs) ∧ PySem.W.notFirst K C (.ref C2) = true ∧ sp [x, y] H (fun v H' => ∃ c, v = .bl c ∧ Q (.bl c) H') E
theorem op_eqX (F : FnOk X.prog X.w X.K X.mg X.base CX n f fd ps sp) (hs : PySem.W.findIn X.K (.ref C) "__eq__" = some (some (.ref f))) (hf : PySem.W.isFn X.K (.ref f) = true) (hb : Binds X.K fd ps []) (hx : Passes CX X E) (hr : Room n X.A) :
    OpR X (compareOp .Eq) (rEqX X.K C sp E) := by
  rintro pins s σ H x y v u Q I rx ry ⟨a, b, dx, dy, fs, gs, C2, rfl, rfl, ha, hb2, nf, want⟩
  cases rx
  cases ry
  obtain ⟨_, J, _⟩ := ins_get I.hok hb2
  obtain ⟨_, J, _⟩ := J.look
  refine wpAny_mono (rc_own (tb := .ref C2) F hs hf hb hx ⟨hr, rfl⟩ I ha (y := .ref b) rfl J.type nf want) ?_ fun _ _ e => e
  rintro _ s' ⟨c, H', rfl, I', q⟩
  exact ⟨.bl c, H', I', rfl, q⟩
def rNeX (K : PySem.W.Frag) (C : Addr) (sp : Sp) (E : XK) : R2 := fun x y H Q => ∃ a b dx dy fs gs C2, x = .ref a ∧ y = .ref b ∧ H a = some (.ins C dx fs) ∧ H b = some (.ins C2 dy gs) ∧ PySem.W.notFirst K C (.ref C2) = true ∧ sp [x, y] H (fun v H' => ∃ c, v = .bl c ∧ Q (.bl (!c)) H') E
theorem op_neX {nm q : Str} {N : Addr} {bs bm : List Value} {hdct : Bool} {sn : List Str} {sub : List Value} {ab : Bool} {col : Option Bool} {dd : Option Addr} {k0 k1 k2 k3 k5 : Option Value} {newId : String}
    (F : FnOk X.prog X.w X.K X.mg X.base CX n f fd ps sp) (hs : PySem.W.findIn X.K (.ref C) "__eq__" = some (some (.ref f))) (hf : PySem.W.isFn X.K (.ref f) = true) (hne : PySem.W.findIn X.K (.ref C) "__ne__" = some (some (.builtin "object.__ne__")))
    (hC : X.K.lookup C = some (excClassObj nm q C N bs bm hdct sn sub ab col dd k0 k1 k2 k3 k5 newId)) (top : bm.contains (.type "object") = true) (hb : Binds X.K fd ps []) (hx : Passes CX X E) (hr : Room (n + 1) X.A) :
    OpR X (compareOp .NotEq) (rNeX X.K C sp E) := by
  rintro pins s σ H x y v u Q I rx ry ⟨a, b, dx, dy, fs, gs, C2, rfl, rfl, ha, hb2, nf, want⟩
  cases rx
  cases ry
  obtain ⟨_, J, _⟩ := ins_get I.hok ha
  obtain ⟨_, J, _⟩ := J.look
  obtain ⟨_, J2, _⟩ := ins_get I.hok hb2
  obtain ⟨_, J2, _⟩ := J2.look
  have kin := I.kIn
  have un := hr.un
  have hu1 : X.A.units + 1 < cLine := by omega
  have run := run_own (A := X.A.in1) F hb hx (L2.Sub.in1 (X := X) (n := n) (A := X.A) ⟨hr, rfl⟩) I (.cons (show RelV (.ref a) (.ref a) from rfl) (.cons (show RelV (.ref b) (.ref b) from rfl) .nil)) want
  have one : wpAny (model X.prog X.w) X.A (tryCompare (.ref a) (cmpInfo .NotEq).2.1 (.ref b)) (fun r s' => ∃ v, r = some v ∧ EP X pins σ Q v s') X.xe s := by
    unfold tryCompare
    refine wpAny_bind ?_
    simp only [callSpecialIfBound?, bindSpecialIfBound?]
    refine wpAny_holding (wpAny_bind (wpAny_bind (wpAny_bind (J.type.here ((PySem.W.looks_findIn kin hne).here ?_)))))
    simp only [PySem.F.cmp_object.ne.bind]
    refine wpAny_bind (wpAny_askSetting (wpAny_ite ?_))
    have fin : wpAny (model X.prog X.w) X.A (call (.builtin "object.__ne__") ([.ref a] ++ [.ref b])) (fun v s' => wpAny (model X.prog X.w) X.A (match (some v : Option Value) with
        | some .notImplemented | none => pure none
        | some v => pure (some v)) (fun r s' => ∃ v, r = some v ∧ EP X pins σ Q v s') X.xe s') X.xe s := by
      obtain ⟨hp, g, d, t, os⟩ := s
      refine wpAny_call (codeAny_call_builtin PySem.F.cmp_object.ne.plain PySem.F.cmpEntry_ne (wpAny_check_slot_inst PySem.F.cmpKind_ne PySem.F.cmpSplit_ne (PySem.F.cmpArgs_ne _ _) top J.at_ J.cls (kin _ _ hC) ?_))
      refine ne_body (A := X.A.in1) kin J hs hf (by exact hu1) (wpAny_mono run ?_ fun _ _ e => e)
      rintro u s' ⟨v, H', I', rv, c, rfl, q⟩
      cases rv
      exact ⟨c, rfl, wpAny_pure ⟨_, rfl, .bl (!c), H', I', rfl, q⟩⟩
    split
    · exact wpAny_bind (wpAny_pure (wpAny_pure (wpAny_bind (wpAny_mono fin (fun v s' h => wpAny_pure h) fun _ _ e => e))))
    · exact wpAny_tryCatch (wpAny_bind (wpAny_pure (wpAny_pure (wpAny_bind (wpAny_mono fin (fun v s' h => wpAny_pure h) fun _ _ e => e)))))
  have end_ : wpAny (model X.prog X.w) X.A (tryCompare (.ref a) (cmpInfo .NotEq).2.1 (.ref b)) (fun r s' => ∃ v, r = some v ∧ EP X pins σ Q v s') X.xe s := one
  show wpAny (model X.prog X.w) X.A (richCompare .NotEq (.ref a) (.ref b)) (EP X pins σ Q) X.xe s
  unfold richCompare
  simp only [oneThing_ref]
  refine wpAny_holding (wpAny_bind (wpAny_cRoomFor (Nat.lt_of_succ_lt hu1) (wpAny_bind (J.type.here (wpAny_bind (J2.type.here ?_))))))
  by_cases same : C2 = C
  · subst same
    rw [show (Value.ref C2 != Value.ref C2) = false from by simp]
    simp only [Bool.false_eq_true, if_false]
    refine wpAny_bind (wpAny_pure ?_)
    simp only [Bool.false_eq_true, if_false]
    refine wpAny_bind (wpAny_mono end_ ?_ fun _ _ e => e)
    rintro _ s' ⟨v, rfl, hq⟩
    exact wpAny_pure hq
  · have no : PySem.W.subIn X.K (.ref C2) (.ref C) = some false := by
      rcases Bool.or_eq_true_iff.mp nf with e | e
      · have z := beq_iff_eq.mp e
        injection z with z
        exact absurd z same
      · exact beq_iff_eq.mp e
    rw [show (Value.ref C != Value.ref C2) = true from by simp [Ne.symm same]]
    simp only [if_true]
    refine wpAny_bind ((PySem.W.looks_subIn kin no).here ?_)
    simp only [Bool.false_eq_true, if_false]
    refine wpAny_bind (wpAny_mono end_ ?_ fun _ _ e => e)
    rintro _ s' ⟨v, rfl, hq⟩
    exact wpAny_pure hq
theorem decl_str {prog : Program} {w : World} {a dx : Addr} {y : Str} {t : Tok} {s : Shared} (hob : s.heap.get? a = some (PySem.W.instObj C dx)) : Declines prog w (.str y t) a s := by
  refine decl_by (T := "str") rfl PySem.F.slot_str_eq PySem.F.entry_str_eq (PySem.F.args_str_eq_2 _ _) fun A R h => ?_
  obtain ⟨hp, g, d, tk, os⟩ := s
  wp_walk
  exact h
end
end Lw
set_option Elab.async false
set_option linter.all false
set_option maxRecDepth 100000
/-! the edges that leave and that enter a state, where nothing is raised -/
namespace Lw
open PySem L2
abbrev sLeaving : Stmt := inClass (top 43) 10
abbrev sEntering : Stmt := inClass (top 43) 11
abbrev sCheckState : Stmt := inClass (top 43) 12
/-! ### numbers of edges that are chosen -/
def sel (f : Int × Int → Bool) (ps : List (Int × Int)) (i : Nat) : List Int := ((List.range i).filter fun j => (ps[j]?.map f).getD false).map fun j : Nat => (j : Int)
theorem sel_succ {f : Int × Int → Bool} {ps : List (Int × Int)} {i : Nat} {p : Int × Int} (h : ps[i]? = some p) : sel f ps (i + 1) = if f p = true then sel f ps i ++ [(i : Int)] else sel f ps i := by
  unfold sel
  rw [List.range_succ, List.filter_append, List.map_append]
  by_cases hf : f p = true
  · rw [if_pos hf]
    simp [h, hf]
  · rw [if_neg hf]
    simp [h, hf]
theorem sel_len (f : Int × Int → Bool) (ps : List (Int × Int)) (i : Nat) : (sel f ps i).length ≤ i := by
  unfold sel
  rw [List.length_map]
  refine Nat.le_trans (List.length_filter_le _ _) ?_
  simp
def spState0 (C : Addr) : Sp := fun vs H Q _ => ∃ (g : Addr) (n : Int) (us : Es) (i : Int), vs = [.ref g, .int i] ∧ GraphAt C H g n us ∧ 0 ≤ i ∧ i < n ∧ Q .non H
def spAll (C : Addr) (f : Int → Int × Int → Bool) : Sp := fun vs H Q _ => ∃ (g : Addr) (n : Int) (us : Es) (i : Int), vs = [.ref g, .int i] ∧ GraphAt C H g n us ∧ 0 ≤ i ∧ i < n ∧ us.length ≤ 1000 ∧
  ∀ p H', Same H H' → H p = none → H' p = some (.lst ((sel (f i) (psOf us) us.length).map V.int)) → Q (.ref p) H'
abbrev fstIs (i : Int) (p : Int × Int) : Bool := decide (p.1 = i)
abbrev sndIs (i : Int) (p : Int × Int) : Bool := decide (p.2 = i)
section
variable {P : Program} {w : World} {K : PySem.W.Frag} {mg : Str → Option Value} {base : Heap}
theorem scCheckState : FnScope ["self", "state"] ["self", "state"] (defScope sCheckState) := ⟨rfl, rfl, rfl, by decide +kernel, rfl, by decide +kernel, by decide +kernel⟩
theorem ok_state0 {f C : Addr} {mc : Value} {fd : FuncData} {k : Nat} (F : Fun K "check_state" "Graph.check_state" sCheckState f fd) (G : GTxt K mg C mc) : FnOk P w K mg base CX0 (k + 1) f fd ["self", "state"] (spState0 C) := by
  refine F.ok scCheckState (fun vs H Q E h => ?_) (fun cdv A outer s H vs Q E hr h => ?_)
  · obtain ⟨g, n, us, i, rfl, _⟩ := h
    rfl
  · obtain ⟨g, n, us, i, rfl, ⟨⟨dx, t, h1, h2⟩, ed⟩, h0, hn, q⟩ := h
    refine ⟨_, pss_one (ps_if (pt_not (pt_chain op_le op_lt pe_int (pv 1) (pe_fld (pv 0) rfl))) (pss_one ps_never) pss_nil), ?_⟩
    refine ⟨_, rfl, _, _, rfl, rfl, _, rfl, if_t (decide_eq_true h0) ⟨_, rfl, g, C, dx, _, _, rfl, h1, G.cl, G.nS, look_s _ _, _, _, rfl, rfl, _, rfl, if_f (by rw [decide_eq_true hn]; rfl) q⟩⟩
theorem scLeaving : FnScope ["self", "state", "number", "edge"] ["self", "state"] (defScope sLeaving) := ⟨rfl, rfl, rfl, by decide +kernel, rfl, by decide +kernel, by decide +kernel⟩
theorem scEntering : FnScope ["self", "state", "number", "edge"] ["self", "state"] (defScope sEntering) := ⟨rfl, rfl, rfl, by decide +kernel, rfl, by decide +kernel, by decide +kernel⟩
theorem dec_of_int {i j : Int} : decide (V.int i = V.int j) = decide (i = j) := by
  by_cases h : i = j
  · rw [h, decide_eq_true rfl, decide_eq_true rfl]
  · rw [decide_eq_false h, decide_eq_false (fun z => h (by injection z))]
set_option maxHeartbeats 4000000 in
theorem ok_leaving0 {f C : Addr} {mc : Value} {fd : FuncData} {k : Nat} (F : Fun K "leaving" "Graph.leaving" sLeaving f fd) (G : GTxt K mg C mc) (cS : C8.Met P w K mg base 1 C "check_state" (spState0 C) []) : FnOk P w K mg base CX0 (k + 2) f fd ["self", "state"] (spAll C fstIs) := by
  refine F.ok scLeaving (fun vs H Q E h => ?_) (fun cdv A outer s H vs Q E hr h => ?_)
  · obtain ⟨g, n, us, i, rfl, _⟩ := h
    rfl
  · obtain ⟨g, n, us, i, rfl, GA, h0, hn, hl, q⟩ := h
    obtain ⟨⟨dx, t, h1, h2⟩, ed⟩ := id GA
    refine ⟨_, pss_cons (ps_expr (C8.pe_mt cS hr (Nat.le_add_left 1 k) (pv 0) (pa_cons (pv 1) pa_nil)))
      (pss_one (ps_ret (pe_lc (own := [("number", 2), ("edge", 3)]) (g := gTup K 2 (gCons (gName 2) (gCons (gName 3) gNil))) (tt := tTest (tOp rEq (tOp (rIxT K) (tVar 3) (tC (.int 0))) (tVar 1))) (te := tVar 2) rfl scLeaving.nd (pi_enumA (by rfl) G.enum (pa_cons (pe_fld (pv 0) rfl) pa_nil))
          (blkOk_by (N := ["self", "state", "number", "edge"]) (sc := defScope sLeaving) (by decide +kernel))
          (fun _ _ _ _ _ => by exact pg_tup rfl (pgs_cons (pg_name (i := 2) scLeaving.nd rfl (Or.inl rfl)) (pgs_cons (pg_name (i := 3) scLeaving.nd rfl (Or.inl rfl)) pgs_nil)))
          (fun _ _ _ _ _ => by exact pts_one (pt_cmpR op_eq (pe_ix ix_tup (pv 3) pe_int (fun _ _ => rfl)) (pv 1) (nomark _)))
          (fun _ _ _ _ _ => by exact pv 2)))), ?_⟩
    refine ⟨_, rfl, g, dx, _, rfl, h1, look_no _ _ (by decide +kernel) (by decide +kernel), _, rfl, g, n, us, i, rfl, GA, h0, hn, ?_⟩
    refine ⟨_, rfl, g, C, dx, _, _, rfl, h1, G.cl, G.nE, look_e _ _, t, vsOf us, SqT, rfl, .inr rfl, SqT.of h2, fun J w D hD => ?_⟩
    refine lc_it w (fun j H' => Same H H' ∧ H' D = some (.lst ((sel (fstIs i) (psOf us) j).map V.int))) ⟨same_upd hD, upd_same⟩ (fun j H' _ p => SqT.of (p.1 _ _ h2)) ?_ ?_
    · rintro j x H1 H' hj ⟨sm, eD⟩ ⟨Ta, x, y, rfl, hT, rfl, gx, gy⟩
      obtain ⟨e, he, rfl⟩ := vsOf_at gy
      have ex : x = .int (j : Nat) := (Option.some.inj gx).symm
      subst ex
      have s1 := sm.trans (same_upd (o := .tup [.int (j : Nat), .ref e.1]) hT)
      have mem : e ∈ us := List.mem_of_getElem? he
      have eD1 := same_upd (o := .tup [.int (j : Nat), .ref e.1]) hT _ _ eD
      refine ⟨Ta, _, rfl, SqT.of upd_same, rfl, _, _, rfl, _, _, rfl, rfl, rfl, ?_⟩
      refine ⟨_, rfl, e.1, _, _, _, rfl, rfl, SqT.of (s1 _ _ (ed e mem)), at0, _, rfl, rfl, _, rfl, ?_⟩
      rw [dec_of_int, sel_succ (psOf_at he)]
      by_cases hc : e.2.1 = i
      · refine if_t (decide_eq_true hc) ?_
        rw [if_pos (decide_eq_true hc)]
        refine ⟨_, rfl, _, eD1, ?_, ?_, ?_⟩
        · rw [List.length_map]
          exact small1000 (Nat.le_trans (sel_len _ _ _) (by rw [vsOf_len] at hj; omega))
        · intro c o ec
          rw [upd_ne (ne_of_none ec hD)]
          exact s1 _ _ ec
        · rw [upd_same, List.map_append]
          rfl
      · refine if_f (decide_eq_false hc) ?_
        rw [if_neg (fun z => hc (of_decide_eq_true z))]
        exact ⟨s1, eD1⟩
    · rintro H1 ⟨sm, eD⟩
      rw [vsOf_len] at eD
      exact q D H1 sm hD eD
set_option maxHeartbeats 4000000 in
theorem ok_entering0 {f C : Addr} {mc : Value} {fd : FuncData} {k : Nat} (F : Fun K "entering" "Graph.entering" sEntering f fd) (G : GTxt K mg C mc) (cS : C8.Met P w K mg base 1 C "check_state" (spState0 C) []) : FnOk P w K mg base CX0 (k + 2) f fd ["self", "state"] (spAll C sndIs) := by
  refine F.ok scEntering (fun vs H Q E h => ?_) (fun cdv A outer s H vs Q E hr h => ?_)
  · obtain ⟨g, n, us, i, rfl, _⟩ := h
    rfl
  · obtain ⟨g, n, us, i, rfl, GA, h0, hn, hl, q⟩ := h
    obtain ⟨⟨dx, t, h1, h2⟩, ed⟩ := id GA
    refine ⟨_, pss_cons (ps_expr (C8.pe_mt cS hr (Nat.le_add_left 1 k) (pv 0) (pa_cons (pv 1) pa_nil)))
      (pss_one (ps_ret (pe_lc (own := [("number", 2), ("edge", 3)]) (g := gTup K 2 (gCons (gName 2) (gCons (gName 3) gNil))) (tt := tTest (tOp rEq (tOp (rIxT K) (tVar 3) (tC (.int 1))) (tVar 1))) (te := tVar 2) rfl scEntering.nd (pi_enumA (by rfl) G.enum (pa_cons (pe_fld (pv 0) rfl) pa_nil))
          (blkOk_by (N := ["self", "state", "number", "edge"]) (sc := defScope sEntering) (by decide +kernel))
          (fun _ _ _ _ _ => by exact pg_tup rfl (pgs_cons (pg_name (i := 2) scEntering.nd rfl (Or.inl rfl)) (pgs_cons (pg_name (i := 3) scEntering.nd rfl (Or.inl rfl)) pgs_nil)))
          (fun _ _ _ _ _ => by exact pts_one (pt_cmpR op_eq (pe_ix ix_tup (pv 3) pe_int (fun _ _ => rfl)) (pv 1) (nomark _)))
          (fun _ _ _ _ _ => by exact pv 2)))), ?_⟩
    refine ⟨_, rfl, g, dx, _, rfl, h1, look_no _ _ (by decide +kernel) (by decide +kernel), _, rfl, g, n, us, i, rfl, GA, h0, hn, ?_⟩
    refine ⟨_, rfl, g, C, dx, _, _, rfl, h1, G.cl, G.nE, look_e _ _, t, vsOf us, SqT, rfl, .inr rfl, SqT.of h2, fun J w D hD => ?_⟩
    refine lc_it w (fun j H' => Same H H' ∧ H' D = some (.lst ((sel (sndIs i) (psOf us) j).map V.int))) ⟨same_upd hD, upd_same⟩ (fun j H' _ p => SqT.of (p.1 _ _ h2)) ?_ ?_
    · rintro j x H1 H' hj ⟨sm, eD⟩ ⟨Ta, x, y, rfl, hT, rfl, gx, gy⟩
      obtain ⟨e, he, rfl⟩ := vsOf_at gy
      have ex : x = .int (j : Nat) := (Option.some.inj gx).symm
      subst ex
      have s1 := sm.trans (same_upd (o := .tup [.int (j : Nat), .ref e.1]) hT)
      have mem : e ∈ us := List.mem_of_getElem? he
      have eD1 := same_upd (o := .tup [.int (j : Nat), .ref e.1]) hT _ _ eD
      refine ⟨Ta, _, rfl, SqT.of upd_same, rfl, _, _, rfl, _, _, rfl, rfl, rfl, ?_⟩
      refine ⟨_, rfl, e.1, _, _, _, rfl, rfl, SqT.of (s1 _ _ (ed e mem)), at1, _, rfl, rfl, _, rfl, ?_⟩
      rw [dec_of_int, sel_succ (psOf_at he)]
      by_cases hc : e.2.2 = i
      · refine if_t (decide_eq_true hc) ?_
        rw [if_pos (decide_eq_true hc)]
        refine ⟨_, rfl, _, eD1, ?_, ?_, ?_⟩
        · rw [List.length_map]
          exact small1000 (Nat.le_trans (sel_len _ _ _) (by rw [vsOf_len] at hj; omega))
        · intro c o ec
          rw [upd_ne (ne_of_none ec hD)]
          exact s1 _ _ ec
        · rw [upd_same, List.map_append]
          rfl
      · refine if_f (decide_eq_false hc) ?_
        rw [if_neg (fun z => hc (of_decide_eq_true z))]
        exact ⟨s1, eD1⟩
    · rintro H1 ⟨sm, eD⟩
      rw [vsOf_len] at eD
      exact q D H1 sm hD eD
end
end Lw
set_option Elab.async false
set_option linter.all false
set_option maxRecDepth 100000
/-! steps of the three kinds, what they make, and how each is undone: the mathematics -/
namespace Lw
inductive Sp3 where
  | S (s : Nat) (part : List Nat)
  | M (i j : Nat)
  | R (s e : List Nat)
def nI (s : List Nat) : List Int := s.map fun k => ((k : Nat) : Int)
def Ok3 (n : Nat) (ps : Ps) : Sp3 → Prop
  | .S s part => SplOk n ps s (nI part) ∧ n < 8 ∧ inN ps s + ps.length ≤ 24
  | .M i j => i < j ∧ j < n ∧ colL n ps i = colL n ps j
  | .R s e => s.Perm (List.range n) ∧ e.Perm (List.range ps.length)
def res3 (n : Nat) (ps : Ps) : Sp3 → Nat × Ps
  | .S s part => (n + 1, splP n s (nI part) ps)
  | .M i j => (n - 1, mrgP i j ps)
  | .R s e => (n, resP s e ps)
inductive Ch3 : Nat → Ps → List Sp3 → Nat → Ps → Prop
  | nil {n : Nat} {ps : Ps} : Ch3 n ps [] n ps
  | cons {n m : Nat} {ps qs : Ps} {x : Sp3} {st : List Sp3} : Ok3 n ps x → Ch3 (res3 n ps x).1 (res3 n ps x).2 st m qs → Ch3 n ps (x :: st) m qs
theorem Ch3.app {n m l : Nat} {ps qs rs : Ps} {xs ys : List Sp3} (h : Ch3 n ps xs m qs) (k : Ch3 m qs ys l rs) : Ch3 n ps (xs ++ ys) l rs := by
  induction h with
  | nil => exact k
  | cons o r ih => exact .cons o (ih k)
theorem Ch3.one {n : Nat} {ps : Ps} {x : Sp3} (o : Ok3 n ps x) : Ch3 n ps [x] (res3 n ps x).1 (res3 n ps x).2 := .cons o .nil
/-! ### lists of places -/
theorem posn_mem {qs : Ps} {m k : Nat} {p : Int × Int} : k ∈ posn qs m p ↔ k < m ∧ qs[k]? = some p := by
  unfold posn
  rw [List.mem_filter, List.mem_range, decide_eq_true_eq]
theorem posn_nd (qs : Ps) (m : Nat) (p : Int × Int) : (posn qs m p).Nodup := List.nodup_range.filter _
theorem posn_rank {qs : Ps} {p : Int × Int} {k : Nat} (hk : qs[k]? = some p) : ∀ m, k < m → m ≤ qs.length → (posn qs m p)[(qs.take k).count p]? = some k := by
  intro m
  induction m with
  | zero => intro h; exact absurd h (Nat.not_lt_zero _)
  | succ m ih =>
    intro h hm
    have e : qs[m]? = some (qs[m]'(by omega)) := List.getElem?_eq_getElem (by omega)
    rw [posn_succ p e]
    by_cases c : k < m
    · have := ih c (by omega)
      rw [List.getElem?_append_left (List.getElem?_eq_some_iff.mp this).1]
      exact this
    · have ck : k = m := by omega
      subst ck
      rw [e] at hk
      have hk := Option.some.inj hk
      rw [hk, if_pos rfl, ← posn_len k p (by omega), List.getElem?_concat_length]
theorem pat_some {ps : Ps} {k : Nat} {p : Int × Int} (h : ps[k]? = some p) : pat ps k = p := by
  simp [pat, List.getD, h]
/-- the edges that stay at a merge -/
def kpA (j : Nat) (ps : Ps) : List Nat := (List.range ps.length).filter fun k => decide ((pat ps k).2 ≠ (j : Int))
theorem kpA_mem {j k : Nat} {ps : Ps} : k ∈ kpA j ps ↔ k < ps.length ∧ (pat ps k).2 ≠ (j : Int) := by
  unfold kpA
  rw [List.mem_filter, List.mem_range, decide_eq_true_eq]
theorem filt_nI (q : Nat → Prop) [DecidablePred q] (L : List Nat) : (L.flatMap fun k => if q k then [((k : Nat) : Int)] else []) = nI (L.filter fun k => decide (q k)) := by
  induction L with
  | nil => rfl
  | cons x L ih =>
    rw [List.flatMap_cons, ih]
    by_cases h : q x
    · rw [if_pos h, List.filter_cons_of_pos (by exact decide_eq_true h)]
      rfl
    · rw [if_neg h, List.filter_cons_of_neg (by rw [decide_eq_false h]; exact Bool.false_ne_true)]
      rfl
theorem kpA_nI (j : Nat) (ps : Ps) : kpN (j : Int) ps ps.length = nI (kpA j ps) := filt_nI (fun k => (pat ps k).2 ≠ (j : Int)) _
theorem mrgP_kp (i j : Nat) (ps : Ps) : mrgP i j ps = (kpA j ps).map fun k => (nmS i j (pat ps k).1, nmS i j (pat ps k).2) := by
  unfold mrgP kpA
  conv => lhs; rw [ps_range ps]
  rw [List.filter_map, List.map_map]
  rfl
/-- the partner of an edge to the lower state -/
def prt (j : Nat) (ps : Ps) (k : Nat) : Nat := (posn ps ps.length ((pat ps k).1, (j : Int))).getD ((ps.take k).count (pat ps k)) 0
def lowE (i j : Nat) (ps : Ps) : List Nat := (kpA j ps).filter fun k => decide ((pat ps k).2 = (i : Int))
def undE (i j : Nat) (ps : Ps) : List Nat := kpA j ps ++ (lowE i j ps).map (prt j ps)
def undS (n j : Nat) : List Nat := (List.range n).filter (fun s => decide (s ≠ j)) ++ [j]
def undPart (j : Nat) (ps : Ps) : List Nat := (List.range (kpA j ps).length).filter fun p => decide ((pat ps ((kpA j ps).getD p 0)).1 = (j : Int))
def und3 (n : Nat) (ps : Ps) : Sp3 → List Sp3
  | .S s _ => [.M s n]
  | .M i j => if undS n j = List.range n ∧ undE i j ps = List.range ps.length then [.S i (undPart j ps)] else [.S i (undPart j ps), .R (undS n j) (undE i j ps)]
  | .R s e => [.R (invP n s) (invP ps.length e)]
theorem pos_col {n i j s : Nat} {ps : Ps} (e : colL n ps i = colL n ps j) (hs : s < n) : (posn ps ps.length ((s : Int), (i : Int))).length = (posn ps ps.length ((s : Int), (j : Int))).length := by
  have := colL_eq e hs
  rw [cnt_count, cnt_count] at this
  rw [posn_len _ _ (Nat.le_refl _), posn_len _ _ (Nat.le_refl _), List.take_length]
  omega
theorem prt_ok {n i j s k : Nat} {ps : Ps} (e : colL n ps i = colL n ps j) (hs : s < n) (hk : k < ps.length) (hp : pat ps k = ((s : Int), (i : Int))) : prt j ps k < ps.length ∧ pat ps (prt j ps k) = ((s : Int), (j : Int)) := by
  have h1 := posn_rank (pat_at hk) ps.length hk (Nat.le_refl _)
  have l1 := (List.getElem?_eq_some_iff.mp h1).1
  unfold prt
  rw [hp] at h1 l1 ⊢
  rw [pos_col e hs] at l1
  have m := List.mem_of_getElem? (getD_get l1)
  obtain ⟨a, b⟩ := posn_mem.mp m
  exact ⟨a, pat_some b⟩
theorem prt_sur {n i j s k : Nat} {ps : Ps} (e : colL n ps i = colL n ps j) (hs : s < n) (hk : k < ps.length) (hp : pat ps k = ((s : Int), (j : Int))) : ∃ k', k' < ps.length ∧ pat ps k' = ((s : Int), (i : Int)) ∧ prt j ps k' = k := by
  have h1 := posn_rank (pat_at hk) ps.length hk (Nat.le_refl _)
  rw [hp] at h1
  have l1 := (List.getElem?_eq_some_iff.mp h1).1
  rw [← pos_col e hs] at l1
  have h2 := getD_get l1
  obtain ⟨a, b⟩ := posn_mem.mp (List.mem_of_getElem? h2)
  refine ⟨_, a, pat_some b, ?_⟩
  have pk := pat_some b
  have h3 := posn_rank b ps.length a (Nat.le_refl _)
  have er := (List.getElem?_inj l1 (posn_nd ps ps.length _)).mp (h2.trans h3.symm)
  unfold prt
  rw [pk, ← er]
  show (posn ps ps.length ((s : Int), (j : Int))).getD _ 0 = k
  unfold List.getD
  rw [h1]
  rfl
theorem flen (m : Nat) (q : Nat → Prop) [DecidablePred q] : ((List.range m).filter fun k => decide (q k)).length = sm m fun k => if q k then 1 else 0 := by
  induction m with
  | zero => rfl
  | succ m ih =>
    rw [List.range_succ, List.filter_append, List.length_append, ih]
    show _ = sm m (fun k => if q k then 1 else 0) + (if q m then 1 else 0)
    congr 1
    by_cases h : q m
    · rw [if_pos h, List.filter_cons_of_pos (by exact decide_eq_true h)]
      rfl
    · rw [if_neg h, List.filter_cons_of_neg (by rw [decide_eq_false h]; exact Bool.false_ne_true)]
      rfl
/-- as many edges lead to both states -/
theorem in_len {n : Nat} {ps : Ps} (r : Rg n ps) (t : Nat) : (sm ps.length fun k => if (pat ps k).2 = (t : Int) then 1 else 0) = sm n fun s => cntN ps s t := by
  have : (sm n fun s => cntN ps s t) = sm ps.length fun k => sm n fun s => 1 * (if pat ps k = ((s : Int), (t : Int)) then 1 else 0) := by
    rw [sm_comm]
    refine sm_congr fun s _ => ?_
    rw [cntN_ps]
    exact sm_congr fun k _ => (Nat.one_mul _).symm
  rw [this]
  refine sm_congr fun k hk => ?_
  obtain ⟨s, u, hp, hs, hu⟩ := pat_nat r hk
  rw [sm_pair hp hs (fun _ => 1), hp]
  by_cases c : u = t
  · rw [if_pos c, if_pos (by rw [c])]
  · rw [if_neg c, if_neg]
    show ¬ ((u : Int) = (t : Int))
    omega
theorem undE_perm {n i j : Nat} {ps : Ps} (ij : i < j) (jn : j < n) (e : colL n ps i = colL n ps j) (r : Rg n ps) : (undE i j ps).Perm (List.range ps.length) := by
  refine (perm_full List.nodup_range (fun k hk => ?_) ?_).symm
  · have hk := List.mem_range.mp hk
    unfold undE
    obtain ⟨s, t, hp, hs, ht⟩ := pat_nat r hk
    by_cases c : t = j
    · subst c
      obtain ⟨k', h1, h2, h3⟩ := prt_sur e hs hk hp
      refine List.mem_append_right _ (List.mem_map.mpr ⟨k', List.mem_filter.mpr ⟨kpA_mem.mpr ⟨h1, ?_⟩, ?_⟩, h3⟩)
      · rw [h2]
        show ¬ ((i : Int) = (t : Int))
        omega
      · rw [h2]
        exact decide_eq_true rfl
    · refine List.mem_append_left _ (kpA_mem.mpr ⟨hk, ?_⟩)
      rw [hp]
      show ¬ ((t : Int) = (j : Int))
      omega
  · unfold undE lowE
    rw [List.length_range, List.length_append, List.length_map]
    have f1 : ((kpA j ps).filter fun k => decide ((pat ps k).2 = (i : Int))).length = sm ps.length fun k => if (pat ps k).2 = (i : Int) then 1 else 0 := by
      unfold kpA
      rw [List.filter_filter, ← flen]
      congr 1
      refine List.filter_congr fun k _ => ?_
      by_cases c : (pat ps k).2 = (i : Int)
      · rw [decide_eq_true c, decide_eq_true (by omega)]
        rfl
      · rw [decide_eq_false c]
        rfl
    have f2 : (kpA j ps).length = sm ps.length fun k => if (pat ps k).2 ≠ (j : Int) then 1 else 0 := flen _ _
    have f3 : (sm ps.length fun k => if (pat ps k).2 = (i : Int) then 1 else 0) = sm ps.length fun k => if (pat ps k).2 = (j : Int) then 1 else 0 := by
      rw [in_len r, in_len r]
      exact sm_congr fun s hs => Int.ofNat.inj (colL_eq e hs)
    rw [f1, f2, f3, ← sm_add]
    have : (sm ps.length fun k => (if (pat ps k).2 ≠ (j : Int) then 1 else 0) + (if (pat ps k).2 = (j : Int) then 1 else 0)) = sm ps.length fun _ => 1 := sm_congr fun k _ => by
      by_cases c : (pat ps k).2 = (j : Int)
      · rw [if_pos c, if_neg (fun z => z c)]
      · rw [if_neg c, if_pos c]
    rw [this]
    have ones : ∀ m, (sm m fun _ => 1) = m := fun m => by
      induction m with
      | zero => rfl
      | succ m ih => exact congrArg (· + 1) ih
    exact (ones _).symm
theorem undS_map {n j : Nat} (jn : j < n) : (List.range n).filter (fun s => decide (s ≠ j)) = (List.range (n - 1)).map (rpN j) := by
  induction n with
  | zero => exact absurd jn (Nat.not_lt_zero _)
  | succ n ih =>
    rw [List.range_succ, List.filter_append, Nat.add_sub_cancel]
    by_cases c : j = n
    · subst c
      rw [List.filter_cons_of_neg (by simp), List.filter_nil, List.append_nil]
      have h1 : (List.range j).filter (fun s => decide (s ≠ j)) = List.range j := List.filter_eq_self.mpr fun s hs => decide_eq_true (by have := List.mem_range.mp hs; omega)
      have h2 : (List.range j).map (rpN j) = List.range j := by
        conv => rhs; rw [← List.map_id (List.range j)]
        refine List.map_congr_left fun s hs => ?_
        have := List.mem_range.mp hs
        show rpN j s = s
        unfold rpN
        rw [if_pos this]
      rw [h1, h2]
    · have hj : j < n := by omega
      rw [ih hj, List.filter_cons_of_pos (by exact decide_eq_true fun z => c z.symm), List.filter_nil]
      have hn : n = n - 1 + 1 := by omega
      have : (List.range n).map (rpN j) = (List.range (n - 1)).map (rpN j) ++ [n] := by
        conv => lhs; rw [hn]
        rw [List.range_succ, List.map_append]
        congr 1
        show [rpN j (n - 1)] = [n]
        unfold rpN
        rw [if_neg (by omega)]
        congr 1
        omega
      exact this.symm
theorem undS_at {n j s : Nat} (jn : j < n) (hs : s < n - 1) : (undS n j).getD s 0 = rpN j s := by
  unfold undS
  rw [undS_map jn]
  unfold List.getD
  rw [List.getElem?_append_left (by simpa using hs), List.getElem?_map, List.getElem?_range hs]
  rfl
theorem undS_last {n j : Nat} (jn : j < n) : (undS n j).getD (n - 1) 0 = j := by
  unfold undS
  rw [undS_map jn]
  have : ((List.range (n - 1)).map (rpN j)).length = n - 1 := by simp
  unfold List.getD
  conv => lhs; arg 1; arg 2; rw [← this]
  rw [List.getElem?_concat_length]
  rfl
theorem undS_perm {n j : Nat} (jn : j < n) : (undS n j).Perm (List.range n) := by
  refine (perm_full List.nodup_range (fun s hs => ?_) ?_).symm
  · unfold undS
    by_cases c : s = j
    · rw [c]
      exact List.mem_append_right _ (List.mem_singleton.mpr rfl)
    · exact List.mem_append_left _ (List.mem_filter.mpr ⟨hs, decide_eq_true c⟩)
  · unfold undS
    rw [undS_map jn]
    simp
    omega
end Lw
set_option Elab.async false
set_option linter.all false
set_option maxRecDepth 100000
/-! each step undone leads back: the mathematics -/
namespace Lw
theorem nI_mem {k : Nat} {L : List Nat} : (k : Int) ∈ nI L ↔ k ∈ L := by
  unfold nI
  rw [List.mem_map]
  constructor
  · rintro ⟨z, hz, e⟩
    have : z = k := by omega
    exact this ▸ hz
  · exact fun h => ⟨k, h, rfl⟩
theorem lvL_nI (ps : Ps) (s : Int) : lvL ps s = nI ((List.range ps.length).filter fun k => decide ((pat ps k).1 = s)) := filt_nI (fun k => (pat ps k).1 = s) _
theorem splP_len {n s : Int} {part : List Int} {ps : Ps} : (splP n s part ps).length = ps.length + inN ps s := by
  unfold splP splA splB inN
  rw [List.length_append, List.length_map, List.length_range]
  congr 1
  have h : ps.filter (fun p => decide (p.2 = s)) = ((List.range ps.length).map (pat ps)).filter fun p => decide (p.2 = s) := by rw [← ps_range]
  rw [h]
  generalize List.range ps.length = L
  induction L with
  | nil => rfl
  | cons x L ih =>
    rw [List.flatMap_cons, List.length_append, ih, List.map_cons]
    by_cases c : (pat ps x).2 = s
    · rw [if_pos c, List.filter_cons_of_pos (by exact decide_eq_true c)]
      exact Nat.add_comm 1 _
    · rw [if_neg c, List.filter_cons_of_neg (by rw [decide_eq_false c]; exact Bool.false_ne_true)]
      exact Nat.zero_add _
/-- a step leads from a graph to a graph -/
theorem Ok3.next {n : Nat} {ps : Ps} {x : Sp3} (o : Ok3 n ps x) (v : VaP (n : Int) ps) (n1 : 1 ≤ n) (n8 : n ≤ 8) (hl : ps.length ≤ 24) :
    VaP ((res3 n ps x).1 : Int) (res3 n ps x).2 ∧ 1 ≤ (res3 n ps x).1 ∧ (res3 n ps x).1 ≤ 8 ∧ (res3 n ps x).2.length ≤ 24 := by
  cases x with
  | S s part =>
    obtain ⟨o1, o2, o3⟩ := o
    refine ⟨?_, by show 1 ≤ n + 1; omega, by show n + 1 ≤ 8; omega, ?_⟩
    · have := spl_valid v o1
      have e : ((n + 1 : Nat) : Int) = (n : Int) + 1 := by omega
      show VaP ((n + 1 : Nat) : Int) _
      rw [e]
      exact this
    · show (splP n s (nI part) ps).length ≤ 24
      rw [splP_len]
      omega
  | M i j =>
    obtain ⟨o1, o2, o3⟩ := o
    refine ⟨?_, by show 1 ≤ n - 1; omega, by show n - 1 ≤ 8; omega, Nat.le_trans (mrgP_len _ _ _) hl⟩
    have := mrg_valid v o1 o2 o3
    have e : ((n : Nat) : Int) - 1 = ((n - 1 : Nat) : Int) := by omega
    rw [e] at this
    exact this
  | R s e =>
    obtain ⟨o1, o2⟩ := o
    exact ⟨res_valid v o1 o2, n1, n8, by show (resP s e ps).length ≤ 24; rw [resP_len]; exact hl⟩
theorem und_S {n s : Nat} {part : List Nat} {ps : Ps} (o : Ok3 n ps (.S s part)) (v : VaP (n : Int) ps) : Ch3 (n + 1) (splP n s (nI part) ps) [.M s n] n ps := by
  obtain ⟨o1, o2, o3⟩ := o
  have s1 := o1.s1
  have el := spl_el o1 v.rg'
  have ok : Ok3 (n + 1) (splP n s (nI part) ps) (.M s n) := by
    refine ⟨by omega, by omega, ?_⟩
    unfold colL
    refine List.map_congr_left fun r hr => ?_
    have := el.col r n (List.mem_range.mp hr) (by omega)
    show ((cntN _ r s : Nat) : Int) = ((cntN _ r n : Nat) : Int)
    rw [← this]
    show ((cntN _ r s : Nat) : Int) = ((cntN _ r (if n = n then s else n) : Nat) : Int)
    rw [if_pos rfl]
  have e : mrgP s n (splP n s (nI part) ps) = ps := by
    unfold mrgP splP
    rw [List.filter_append, List.map_append]
    have hB : (splB n s (nI part) ps ps.length).filter (fun p => decide (p.2 ≠ (n : Int))) = [] := by
      refine List.filter_eq_nil_iff.mpr fun p hp => ?_
      unfold splB at hp
      obtain ⟨k, hk, hp⟩ := List.mem_flatMap.mp hp
      split at hp
      · rw [List.mem_singleton.mp hp]
        simp
      · cases hp
    have hA : (splA n (nI part) ps ps.length).filter (fun p => decide (p.2 ≠ (n : Int))) = splA n (nI part) ps ps.length := by
      refine List.filter_eq_self.mpr fun p hp => ?_
      unfold splA at hp
      obtain ⟨k, hk, rfl⟩ := List.mem_map.mp hp
      have := v.rg _ (pat_mem (List.mem_range.mp hk))
      refine decide_eq_true ?_
      show ¬ (pat ps k).2 = (n : Int)
      omega
    rw [hA, hB, List.map_nil, List.append_nil]
    unfold splA
    rw [List.map_map]
    conv => rhs; rw [ps_range ps]
    refine List.map_congr_left fun k hk => ?_
    have hk := List.mem_range.mp hk
    have r := v.rg _ (pat_mem hk)
    show (nmS s n (splE n (nI part) ps k).1, nmS s n (splE n (nI part) ps k).2) = pat ps k
    unfold splE
    refine Prod.ext ?_ ?_
    · show nmS s n (if (k : Int) ∈ nI part then (n : Int) else (pat ps k).1) = (pat ps k).1
      by_cases c : (k : Int) ∈ nI part
      · rw [if_pos c]
        obtain ⟨q, eq, _, e⟩ := lvT_mem.mp (o1.sub.subset c)
        have : k = q := by omega
        subst this
        rw [e]
        unfold nmS
        rw [if_pos rfl]
      · rw [if_neg c]
        unfold nmS
        rw [if_neg (by omega), if_neg (by omega)]
    · show nmS s n (pat ps k).2 = (pat ps k).2
      unfold nmS
      rw [if_neg (by omega), if_neg (by omega)]
  refine .cons ok ?_
  show Ch3 (n + 1 - 1) (mrgP s n (splP n s (nI part) ps)) [] n ps
  rw [e]
  exact .nil
theorem flat_congr {α : Type} {f g : Nat → List α} : ∀ {L : List Nat}, (∀ k ∈ L, f k = g k) → L.flatMap f = L.flatMap g
  | [], _ => rfl
  | x :: L, h => by rw [List.flatMap_cons, List.flatMap_cons, h x List.mem_cons_self, flat_congr fun k hk => h k (List.mem_cons_of_mem _ hk)]
theorem resP_get {s e : List Nat} {ps : Ps} {q : Nat} (hq : q < ps.length) : (resP s e ps)[q]? = some (rn s (pat ps (e.idxOf q))) := by
  unfold resP invP
  rw [List.map_map, List.getElem?_map, List.getElem?_range hq]
  rfl
theorem idx_lt {n : Nat} {t : List Nat} (h : t.Perm (List.range n)) {j : Nat} (hj : j < n) : t.idxOf j < n ∧ t[t.idxOf j]? = some j := by
  have m : j ∈ t := h.mem_iff.mpr (List.mem_range.mpr hj)
  have l := List.idxOf_lt_length_of_mem m
  refine ⟨by rw [← pm_len h]; exact l, ?_⟩
  rw [List.getElem?_eq_getElem l, List.getElem_idxOf l]
theorem und_R {n : Nat} {s e : List Nat} {ps : Ps} (o : Ok3 n ps (.R s e)) (v : VaP (n : Int) ps) : Ch3 n (resP s e ps) [.R (invP n s) (invP ps.length e)] n ps := by
  obtain ⟨o1, o2⟩ := o
  have i1 := inv_perm o1
  have i2 := inv_perm o2
  have hl := resP_len s e ps
  have eq : resP (invP n s) (invP ps.length e) (resP s e ps) = ps := by
    refine List.ext_getElem? fun q => ?_
    by_cases hq : q < ps.length
    · rw [resP_get (by rw [hl]; exact hq), pat_at hq]
      obtain ⟨k1, k2⟩ := idx_lt i2 hq
      generalize hk : (invP ps.length e).idxOf q = k at *
      have e1 : e.idxOf k = q := by
        have := inv_at (t := e) k1
        unfold List.getD at this
        rw [k2] at this
        exact this.symm
      rw [pat_some (resP_get k1), e1]
      exact congrArg some (rn_inv o1 (v.rg _ (pat_mem hq)))
    · rw [List.getElem?_eq_none (by rw [resP_len, hl]; omega), List.getElem?_eq_none (by omega)]
  refine .cons ⟨i1, by rw [hl]; exact i2⟩ ?_
  show Ch3 n (resP (invP n s) (invP ps.length e) (resP s e ps)) [] n ps
  rw [eq]
  exact .nil
/-- places and names that lead back -/
theorem resP_back {s e : List Nat} {ps qs : Ps} (pe : e.Perm (List.range qs.length)) (hl : qs.length = ps.length) (h : qs.map (rn s) = e.map (pat ps)) : resP s e qs = ps := by
  refine List.ext_getElem? fun q => ?_
  by_cases hq : q < qs.length
  · rw [resP_get hq, pat_at (by omega)]
    obtain ⟨k1, k2⟩ := idx_lt pe hq
    have a : (qs.map (rn s))[e.idxOf q]? = some (rn s (pat qs (e.idxOf q))) := by
      rw [List.getElem?_map, pat_at k1]
      rfl
    rw [h, List.getElem?_map, k2] at a
    exact a.symm
  · rw [List.getElem?_eq_none (by rw [resP_len]; omega), List.getElem?_eq_none (by omega)]
theorem rn_id {n : Nat} {p : Int × Int} (hp : 0 ≤ p.1 ∧ p.1 < (n : Int) ∧ 0 ≤ p.2 ∧ p.2 < (n : Int)) : rn (List.range n) p = p := by
  unfold rn
  have a : ∀ z : Int, 0 ≤ z → z < n → (((List.range n).getD z.toNat 0 : Nat) : Int) = z := fun z z0 z1 => by
    unfold List.getD
    rw [List.getElem?_range (by omega)]
    show ((z.toNat : Nat) : Int) = z
    omega
  rw [a _ hp.1 hp.2.1, a _ hp.2.2.1 hp.2.2.2]
theorem getD_list (A : List Nat) : (List.range A.length).map (fun p => A.getD p 0) = A := by
  refine List.ext_getElem? fun p => ?_
  rw [List.getElem?_map]
  by_cases h : p < A.length
  · rw [List.getElem?_range h, getD_get h]
    rfl
  · rw [List.getElem?_eq_none (by rw [List.length_range]; omega), List.getElem?_eq_none (by omega)]
    rfl
section
variable {n i j : Nat} {ps : Ps}
theorem mrg_len (i j : Nat) (ps : Ps) : (mrgP i j ps).length = (kpA j ps).length := by
  rw [mrgP_kp, List.length_map]
theorem mrg_pat (i : Nat) {p : Nat} (hp : p < (kpA j ps).length) : pat (mrgP i j ps) p = (nmS i j (pat ps ((kpA j ps).getD p 0)).1, nmS i j (pat ps ((kpA j ps).getD p 0)).2) := by
  refine pat_some ?_
  rw [mrgP_kp, List.getElem?_map, getD_get hp]
  rfl
theorem kp_at {p : Nat} (hp : p < (kpA j ps).length) : (kpA j ps).getD p 0 < ps.length ∧ (pat ps ((kpA j ps).getD p 0)).2 ≠ (j : Int) := kpA_mem.mp (List.mem_of_getElem? (getD_get hp))
theorem kp_place {k : Nat} (hk : k ∈ kpA j ps) : ∃ p, p < (kpA j ps).length ∧ (kpA j ps).getD p 0 = k := by
  obtain ⟨p, hp, e⟩ := List.getElem_of_mem hk
  refine ⟨p, hp, ?_⟩
  unfold List.getD
  rw [List.getElem?_eq_getElem hp, e]
  rfl
/-- the edges of both states after the merge -/
theorem und_part (ij : i < j) (jn : j < n) (e : colL n ps i = colL n ps j) (v : VaP (n : Int) ps) : SplOk ((n - 1 : Nat) : Int) (mrgP i j ps) i (nI (undPart j ps)) := by
  have nat : ∀ {p}, p < (kpA j ps).length → ∃ s t : Nat, pat ps ((kpA j ps).getD p 0) = ((s : Int), (t : Int)) ∧ s < n ∧ t < n ∧ t ≠ j := fun {p} hp => by
    obtain ⟨h1, h2⟩ := kp_at hp
    obtain ⟨s, t, hp, hs, ht⟩ := pat_nat v.rg' h1
    rw [hp] at h2
    exact ⟨s, t, hp, hs, ht, fun z => h2 (by rw [z])⟩
  -- each of both states keeps an edge
  have keep : ∀ s, s < n → ∃ k t : Nat, k ∈ kpA j ps ∧ pat ps k = ((s : Int), (t : Int)) := fun s hs => by
    obtain ⟨p, hp, ep⟩ := v.sr (s : Int) (by omega) (by omega)
    obtain ⟨k, hk, ek⟩ := List.getElem_of_mem hp
    have pk : pat ps k = p := pat_some (by rw [List.getElem?_eq_getElem hk, ek])
    obtain ⟨s', t, hst, hs', ht⟩ := pat_nat v.rg' hk
    have es : s' = s := by
      rw [hst] at pk
      rw [← pk] at ep
      simp only at ep
      omega
    subst es
    by_cases c : t = j
    · subst c
      obtain ⟨k', h1, h2, _⟩ := prt_sur e hs hk hst
      exact ⟨k', i, kpA_mem.mpr ⟨h1, by rw [h2]; show ¬ ((i : Int) = (t : Int)); omega⟩, h2⟩
    · exact ⟨k, t, kpA_mem.mpr ⟨hk, by rw [hst]; show ¬ ((t : Int) = (j : Int)); omega⟩, hst⟩
  have lv : lvL (mrgP i j ps) i = nI ((List.range (kpA j ps).length).filter fun p => decide ((pat (mrgP i j ps) p).1 = (i : Int))) := by
    rw [lvL_nI, mrg_len]
  have src : ∀ {p}, p < (kpA j ps).length → ((pat (mrgP i j ps) p).1 = (i : Int) ↔ (pat ps ((kpA j ps).getD p 0)).1 = (i : Int) ∨ (pat ps ((kpA j ps).getD p 0)).1 = (j : Int)) := fun {p} hp => by
    rw [mrg_pat i hp]
    obtain ⟨s, t, h1, hs, ht, _⟩ := nat hp
    rw [h1]
    show nmS i j (s : Int) = (i : Int) ↔ (s : Int) = (i : Int) ∨ (s : Int) = (j : Int)
    unfold nmS
    by_cases c : (s : Int) = j
    · rw [if_pos c]
      exact ⟨fun _ => .inr c, fun _ => rfl⟩
    · rw [if_neg c]
      split <;> omega
  have sub : (nI (undPart j ps)).Sublist (lvL (mrgP i j ps) i) := by
    rw [lv]
    unfold nI undPart
    refine List.Sublist.map _ ?_
    have : (List.range (kpA j ps).length).filter (fun p => decide ((pat ps ((kpA j ps).getD p 0)).1 = (j : Int))) = ((List.range (kpA j ps).length).filter fun p => decide ((pat (mrgP i j ps) p).1 = (i : Int))).filter fun p => decide ((pat ps ((kpA j ps).getD p 0)).1 = (j : Int)) := by
      rw [List.filter_filter]
      refine List.filter_congr fun p hp => ?_
      have hp := List.mem_range.mp hp
      by_cases c : (pat ps ((kpA j ps).getD p 0)).1 = (j : Int)
      · rw [decide_eq_true c, decide_eq_true ((src hp).mpr (.inr c))]
        rfl
      · rw [decide_eq_false c]
        rfl
    rw [this]
    exact List.filter_sublist
  refine ⟨by omega, by omega, sub, fun z => ?_, ?_⟩
  · obtain ⟨k, t, hk, pk⟩ := keep j jn
    obtain ⟨p, hp, e2⟩ := kp_place hk
    have : (p : Int) ∈ nI (undPart j ps) := nI_mem.mpr (by
      unfold undPart
      refine List.mem_filter.mpr ⟨List.mem_range.mpr hp, decide_eq_true ?_⟩
      rw [e2, pk])
    rw [z] at this
    cases this
  · refine Nat.lt_of_le_of_ne sub.length_le fun z => ?_
    have eq := sub.eq_of_length z
    obtain ⟨k, t, hk, pk⟩ := keep i (by omega)
    obtain ⟨p, hp, e2⟩ := kp_place hk
    have : (p : Int) ∈ lvL (mrgP i j ps) i := by
      rw [lv]
      refine nI_mem.mpr (List.mem_filter.mpr ⟨List.mem_range.mpr hp, decide_eq_true ((src hp).mpr (.inl ?_))⟩)
      rw [e2, pk]
    rw [← eq] at this
    have := nI_mem.mp this
    unfold undPart at this
    have := of_decide_eq_true (List.mem_filter.mp this).2
    rw [e2, pk] at this
    simp only at this
    omega
/-- place by place: the split with its new names is the graph ahead of the merge -/
theorem und_places (ij : i < j) (jn : j < n) (e : colL n ps i = colL n ps j) (v : VaP (n : Int) ps) : (splP ((n - 1 : Nat) : Int) i (nI (undPart j ps)) (mrgP i j ps)).map (rn (undS n j)) = (undE i j ps).map (pat ps) := by
  have nat : ∀ {p}, p < (kpA j ps).length → ∃ s t : Nat, pat ps ((kpA j ps).getD p 0) = ((s : Int), (t : Int)) ∧ s < n ∧ t < n ∧ t ≠ j := fun {p} hp => by
    obtain ⟨h1, h2⟩ := kp_at hp
    obtain ⟨s, t, hp, hs, ht⟩ := pat_nat v.rg' h1
    rw [hp] at h2
    exact ⟨s, t, hp, hs, ht, fun z => h2 (by rw [z])⟩
  have back : ∀ s, s < n → s ≠ j → (undS n j).getD (nmN i j s) 0 = s ∧ nmN i j s < n - 1 := fun s hs c => by
    have h1 := (nm_rp (i := i) (j := j) (t := s) (b := nmN i j s) ij).mp ⟨c, rfl⟩
    have h2 : nmN i j s < n - 1 := by
      unfold nmN
      rw [if_neg c]
      split <;> omega
    exact ⟨by rw [undS_at jn h2, ← h1], h2⟩
  have srcE : ∀ {p s t : Nat}, p < (kpA j ps).length → pat ps ((kpA j ps).getD p 0) = ((s : Int), (t : Int)) → s < n → ∃ x : Nat, (splE ((n - 1 : Nat) : Int) (nI (undPart j ps)) (mrgP i j ps) p).1 = (x : Int) ∧ (undS n j).getD x 0 = s := fun {p s t} hp h1 hs => by
    unfold splE
    by_cases c : s = j
    · refine ⟨n - 1, ?_, by rw [undS_last jn, c]⟩
      have : (p : Int) ∈ nI (undPart j ps) := nI_mem.mpr (List.mem_filter.mpr ⟨List.mem_range.mpr hp, decide_eq_true (by rw [h1, c])⟩)
      show (if (p : Int) ∈ nI (undPart j ps) then ((n - 1 : Nat) : Int) else _) = _
      rw [if_pos this]
    · refine ⟨nmN i j s, ?_, (back s hs c).1⟩
      have : ¬ (p : Int) ∈ nI (undPart j ps) := fun z => by
        have := of_decide_eq_true (List.mem_filter.mp (nI_mem.mp z)).2
        rw [h1] at this
        simp only at this
        omega
      show (if (p : Int) ∈ nI (undPart j ps) then ((n - 1 : Nat) : Int) else (pat (mrgP i j ps) p).1) = _
      rw [if_neg this, mrg_pat i hp, h1]
      exact nmN_nmS i j s
  unfold splP undE
  rw [List.map_append, List.map_append, mrg_len]
  congr 1
  · unfold splA
    rw [List.map_map]
    conv => rhs; rw [← getD_list (kpA j ps), List.map_map]
    refine List.map_congr_left fun p hp => ?_
    have hp := List.mem_range.mp hp
    obtain ⟨s, t, h1, hs, ht, tj⟩ := nat hp
    obtain ⟨x, hx, ex⟩ := srcE hp h1 hs
    show rn (undS n j) (splE ((n - 1 : Nat) : Int) (nI (undPart j ps)) (mrgP i j ps) p) = pat ps ((kpA j ps).getD p 0)
    have h2 : (splE ((n - 1 : Nat) : Int) (nI (undPart j ps)) (mrgP i j ps) p).2 = ((nmN i j t : Nat) : Int) := by
      unfold splE
      show (pat (mrgP i j ps) p).2 = _
      rw [mrg_pat i hp, h1]
      exact nmN_nmS i j t
    unfold rn
    rw [hx, h2, Int.toNat_natCast, Int.toNat_natCast, ex, (back t ht tj).1, h1]
  · unfold splB lowE
    rw [List.map_flatMap, List.map_map]
    conv => rhs; rw [← getD_list (kpA j ps)]
    rw [filt_flat]
    refine flat_congr ?_
    intro p hp
    have hp : p < (kpA j ps).length := by simpa using hp
    obtain ⟨s, t, h1, hs, ht, tj⟩ := nat hp
    have h2 : (pat (mrgP i j ps) p).2 = ((nmN i j t : Nat) : Int) := by
      rw [mrg_pat i hp, h1]
      exact nmN_nmS i j t
    by_cases c : t = i
    · have c2 : nmN i j t = i := by
        unfold nmN
        rw [if_neg tj, if_neg (by omega), c]
      rw [if_pos (by rw [h2, c2]), if_pos (decide_eq_true (by rw [h1, c]))]
      obtain ⟨x, hx, ex⟩ := srcE hp h1 hs
      rw [c] at h1
      obtain ⟨_, p2⟩ := prt_ok e hs (kp_at hp).1 h1
      show [rn (undS n j) ((splE ((n - 1 : Nat) : Int) (nI (undPart j ps)) (mrgP i j ps) p).1, ((n - 1 : Nat) : Int))] = [pat ps (prt j ps ((kpA j ps).getD p 0))]
      rw [p2]
      unfold rn
      rw [hx, Int.toNat_natCast, Int.toNat_natCast, ex, undS_last jn]
    · have c2 : nmN i j t ≠ i := by
        unfold nmN
        rw [if_neg tj]
        split <;> omega
      rw [if_neg (by rw [h2]; omega), if_neg (by rw [h1, decide_eq_true_eq]; show ¬ (t : Int) = (i : Int); omega)]
      rfl
theorem mrg_valid' (v : VaP (n : Int) ps) (ij : i < j) (jn : j < n) (e : colL n ps i = colL n ps j) : VaP ((n - 1 : Nat) : Int) (mrgP i j ps) := by
  have := mrg_valid v ij jn e
  have e : ((n : Nat) : Int) - 1 = ((n - 1 : Nat) : Int) := by omega
  rw [e] at this
  exact this
theorem und_M (ij : i < j) (jn : j < n) (e : colL n ps i = colL n ps j) (v : VaP (n : Int) ps) (n8 : n ≤ 8) (hl : ps.length ≤ 24) : Ch3 (n - 1) (mrgP i j ps) (und3 n ps (.M i j)) n ps := by
  have pl := und_places ij jn e v
  have pe := undE_perm ij jn e v.rg'
  have ll : (splP ((n - 1 : Nat) : Int) i (nI (undPart j ps)) (mrgP i j ps)).length = ps.length := by
    have h1 := congrArg List.length pl
    rw [List.length_map, List.length_map, pm_len pe] at h1
    exact h1
  have okS : Ok3 (n - 1) (mrgP i j ps) (.S i (undPart j ps)) := by
    refine ⟨und_part ij jn e v, by omega, ?_⟩
    rw [splP_len] at ll
    omega
  have en : n - 1 + 1 = n := by omega
  have start : ∀ {st : List Sp3}, Ch3 n (splP ((n - 1 : Nat) : Int) i (nI (undPart j ps)) (mrgP i j ps)) st n ps → Ch3 (n - 1) (mrgP i j ps) (.S i (undPart j ps) :: st) n ps := fun {st} h => by
    refine .cons okS ?_
    show Ch3 (n - 1 + 1) (splP ((n - 1 : Nat) : Int) i (nI (undPart j ps)) (mrgP i j ps)) st n ps
    rw [en]
    exact h
  show Ch3 (n - 1) (mrgP i j ps) (if undS n j = List.range n ∧ undE i j ps = List.range ps.length then [.S i (undPart j ps)] else [.S i (undPart j ps), .R (undS n j) (undE i j ps)]) n ps
  by_cases c : undS n j = List.range n ∧ undE i j ps = List.range ps.length
  · rw [if_pos c]
    refine start ?_
    obtain ⟨c1, c2⟩ := c
    rw [c1, c2, ← ps_range] at pl
    have v2 := (okS.next (mrg_valid' v ij jn e) (by omega) (by omega) (Nat.le_trans (mrgP_len _ _ _) hl)).1
    have : (splP ((n - 1 : Nat) : Int) i (nI (undPart j ps)) (mrgP i j ps)).map (rn (List.range n)) = splP ((n - 1 : Nat) : Int) i (nI (undPart j ps)) (mrgP i j ps) := by
      conv => rhs; rw [← List.map_id (splP ((n - 1 : Nat) : Int) i (nI (undPart j ps)) (mrgP i j ps))]
      refine List.map_congr_left fun p hp => rn_id ?_
      have := v2.rg p hp
      have e3 : ((res3 (n - 1) (mrgP i j ps) (.S i (undPart j ps))).1 : Int) = (n : Int) := by
        show ((n - 1 + 1 : Nat) : Int) = n
        omega
      rw [e3] at this
      exact this
    rw [this] at pl
    rw [pl]
    exact .nil
  · rw [if_neg c]
    refine start (.cons ⟨undS_perm jn, by rw [ll]; exact pe⟩ ?_)
    show Ch3 n (resP (undS n j) (undE i j ps) (splP ((n - 1 : Nat) : Int) i (nI (undPart j ps)) (mrgP i j ps))) [] n ps
    rw [resP_back (by rw [ll]; exact pe) ll pl]
    exact .nil
end
theorem und_ok {n : Nat} {ps : Ps} {x : Sp3} (o : Ok3 n ps x) (v : VaP (n : Int) ps) (n8 : n ≤ 8) (hl : ps.length ≤ 24) : Ch3 (res3 n ps x).1 (res3 n ps x).2 (und3 n ps x) n ps := by
  cases x with
  | S s part => exact und_S o v
  | M i j => exact und_M o.1 o.2.1 o.2.2 v n8 hl
  | R s e => exact und_R o v
/-- a chain undone, the last step first -/
def undC : Nat → Ps → List Sp3 → List Sp3
  | _, _, [] => []
  | n, ps, x :: st => undC (res3 n ps x).1 (res3 n ps x).2 st ++ und3 n ps x
theorem Ch3.und {n m : Nat} {ps qs : Ps} {st : List Sp3} (h : Ch3 n ps st m qs) (v : VaP (n : Int) ps) (n1 : 1 ≤ n) (n8 : n ≤ 8) (hl : ps.length ≤ 24) : Ch3 m qs (undC n ps st) n ps := by
  induction h with
  | nil => exact .nil
  | cons o r ih =>
    obtain ⟨a, b, c, d⟩ := o.next v n1 n8 hl
    exact (ih a b c d).app (und_ok o v n8 hl)
theorem Ch3.valid {n m : Nat} {ps qs : Ps} {st : List Sp3} (h : Ch3 n ps st m qs) (v : VaP (n : Int) ps) (n1 : 1 ≤ n) (n8 : n ≤ 8) (hl : ps.length ≤ 24) : VaP (m : Int) qs ∧ 1 ≤ m ∧ m ≤ 8 ∧ qs.length ≤ 24 := by
  induction h with
  | nil => exact ⟨v, n1, n8, hl⟩
  | cons o r ih =>
    obtain ⟨a, b, c, d⟩ := o.next v n1 n8 hl
    exact ih a b c d
end Lw
set_option Elab.async false
set_option linter.all false
set_option maxRecDepth 100000
/-! the class Split: made, allowed, checked -/
namespace Lw
open PySem L2
abbrev sSI : Stmt := inClass (top 48) 0
abbrev sSAl : Stmt := inClass (top 48) 2
abbrev sSCk : Stmt := inClass (top 48) 3
structure STxt (K : PySem.W.Frag) (mg : Str → Option Value) (CS : Addr) : Prop where
  cl : Cls K CS
  nS : NoAttr K CS "state"
  nP : NoAttr K CS "part"
  mgS : mg "Split" = some (.ref CS)
def sfl (s : Int) (a : Addr) : List (Str × V) := [("state", V.int s), ("part", V.ref a)]
theorem sse : ¬ (("state" : Str) = "part") := by decide +kernel
theorem sput1 (s : Int) : putF "state" (.int s) [] = ([("state", V.int s)] : List (Str × V)) := rfl
theorem sput2 (s : Int) (a : Addr) : putF "part" (.ref a) ([("state", V.int s)] : List (Str × V)) = sfl s a := by
  show (if ("state" : Str) = "part" then _ else (("state" : Str), V.int s) :: putF "part" (.ref a) []) = sfl s a
  rw [if_neg sse]
  rfl
theorem sst (s : Int) (a : Addr) : (sfl s a).lookup ("state" : Str) = some (.int s) := by
  unfold sfl
  rw [List.lookup_cons, beq_self_eq_true]
theorem spa (s : Int) (a : Addr) : (sfl s a).lookup ("part" : Str) = some (.ref a) := by
  unfold sfl
  rw [List.lookup_cons, show (("part" : Str) == ("state" : Str)) = false by decide +kernel]
  show ([(("part" : Str), V.ref a)]).lookup ("part" : Str) = _
  rw [List.lookup_cons, beq_self_eq_true]
theorem sno (s : Int) (a : Addr) {m : Str} (h1 : (m == ("state" : Str)) = false) (h2 : (m == ("part" : Str)) = false) : (sfl s a).lookup m = none := by
  show (match (m == ("state" : Str)) with | true => some (V.int s) | false => ([("part", V.ref a)] : List (Str × V)).lookup m) = none
  rw [h1]
  show (match (m == ("part" : Str)) with | true => some (V.ref a) | false => none) = none
  rw [h2]
/-- a split as an object -/
def SpO (CS : Addr) (H : Hp) (o : Addr) (s : Nat) (part : List Nat) : Prop := ∃ dx a, H o = some (.ins CS dx (sfl (s : Int) a)) ∧ H a = some (.tup (nV part))
theorem SpO.same {CS : Addr} {H H' : Hp} {o : Addr} {s : Nat} {part : List Nat} (h : SpO CS H o s part) (sm : Same H H') : SpO CS H' o s part := by
  obtain ⟨dx, a, h1, h2⟩ := h
  exact ⟨dx, a, sm _ _ h1, sm _ _ h2⟩
def spSI (CS : Addr) : Sp := fun vs H Q _ => ∃ (o dx a : Addr) (s : Nat) (part : List Nat), vs = [.ref o, .int (s : Int), .ref a] ∧ H o = some (.ins CS dx []) ∧ H a = some (.tup (nV part)) ∧ ∀ H', KeepB o H H' → SpO CS H' o s part → Q .non H'
def spSAl (C CS : Addr) : Sp := fun vs H Q _ => ∃ (o g : Addr) (n s : Nat) (ps : Ps) (part : List Nat), vs = [.ref o, .ref g] ∧ SpO CS H o s part ∧ Gok C H g n ps ∧ SplOk n ps s (nI part) ∧ ∀ H', Same H H' → Q (.bl true) H'
def spSCk (C CS : Addr) : Sp := fun vs H Q _ => ∃ (o g : Addr) (n s : Nat) (ps : Ps) (part : List Nat), vs = [.ref o, .ref g] ∧ SpO CS H o s part ∧ Gok C H g n ps ∧ Ok3 n ps (.S s part) ∧ ∀ H', Same H H' → Q .non H'
theorem filt_sub {α : Type} [DecidableEq α] {xs ys : List α} (h : xs.Sublist ys) (nd : ys.Nodup) : ys.filter (fun y => decide (y ∈ xs)) = xs := by
  induction h with
  | slnil => rfl
  | cons a h ih =>
    rename_i l1 l2
    obtain ⟨n1, n2⟩ := List.nodup_cons.mp nd
    rw [List.filter_cons_of_neg (by rw [decide_eq_true_eq]; exact fun z => n1 (h.subset z))]
    exact ih n2
  | cons_cons a h ih =>
    rename_i l1 l2
    obtain ⟨n1, n2⟩ := List.nodup_cons.mp nd
    rw [List.filter_cons_of_pos (by exact decide_eq_true List.mem_cons_self)]
    congr 1
    rw [← ih n2]
    refine List.filter_congr fun y hy => ?_
    have : y ≠ a := fun z => n1 (z ▸ hy)
    rw [ih n2]
    by_cases c : y ∈ l1
    · rw [decide_eq_true c, decide_eq_true (List.mem_cons_of_mem _ c)]
    · rw [decide_eq_false c, decide_eq_false fun z => (List.mem_cons.mp z).elim this c]
theorem sel_lv (ps : Ps) (s : Int) : ∀ m, m ≤ ps.length → sel (fstIs s) ps m = lvT ps s m := by
  intro m
  induction m with
  | zero => intro _; rfl
  | succ m ih =>
    intro hm
    rw [sel_succ (pat_at (show m < ps.length by omega)), lvT_succ, ih (by omega)]
    by_cases c : (pat ps m).1 = s
    · rw [if_pos (decide_eq_true c), if_pos c]
    · rw [if_neg (fun z => c (of_decide_eq_true z)), if_neg c, List.append_nil]
theorem sel_in (ps : Ps) (s : Int) : ∀ m, m ≤ ps.length → (sel (sndIs s) ps m).length = inN (ps.take m) s := by
  intro m
  induction m with
  | zero => intro _; rfl
  | succ m ih =>
    intro hm
    rw [sel_succ (pat_at (show m < ps.length by omega)), take_snoc (pat_at (show m < ps.length by omega)), inN_snoc]
    by_cases c : (pat ps m).2 = s
    · rw [if_pos (decide_eq_true c), if_pos c, List.length_append, ih (by omega)]
      rfl
    · rw [if_neg (fun z => c (of_decide_eq_true z)), if_neg c, ih (by omega)]
      rfl
theorem nV_nI (part : List Nat) : nV part = (nI part).map V.int := by
  unfold nV nI
  rw [List.map_map]
  rfl
section
variable {P : Program} {w : World} {K : PySem.W.Frag} {mg : Str → Option Value} {base : Heap} {f C CS : Addr} {mc : Value} {fd : FuncData} {k : Nat}
theorem scSI : FnScope ["self", "state", "part"] ["self", "state", "part"] (defScope sSI) := ⟨rfl, rfl, rfl, by decide +kernel, rfl, by decide +kernel, by decide +kernel⟩
theorem scSAl : FnScope ["self", "graph", "leaving", "edge", "chosen"] ["self", "graph"] (defScope sSAl) := ⟨rfl, rfl, rfl, by decide +kernel, rfl, by decide +kernel, by decide +kernel⟩
theorem scSCk : FnScope ["self", "graph"] ["self", "graph"] (defScope sSCk) := ⟨rfl, rfl, rfl, by decide +kernel, rfl, by decide +kernel, by decide +kernel⟩
theorem ok_si (F : Fun K "__init__" "Split.__init__" sSI f fd) (T : Bi mg) (S : STxt K mg CS) : FnOk P w K mg base CX0 (k + 1) f fd ["self", "state", "part"] (spSI CS) := by
  refine F.ok scSI (fun vs H Q E h => ?_) (fun cdv A outer s H vs Q E hr h => ?_)
  · obtain ⟨o, dx, a, s, part, rfl, _⟩ := h
    rfl
  · obtain ⟨o, dx, a, st, part, rfl, ho, ha, q⟩ := h
    refine ⟨_, pss_cons (ps_fld (pv 0) (pv 1) rfl) (pss_one (ps_fld (pv 0) (pe_callTy call_tuple_of (by rfl) T.tuple (by decide +kernel) (pa_cons (pv 2) pa_nil)) rfl)), ?_⟩
    have ao : a ≠ o := fun z => by
      rw [z, ho] at ha
      cases ha
    refine ⟨_, rfl, _, rfl, o, CS, dx, [], rfl, ho, S.cl, S.nS, (by show 0 < 1000; decide), ?_⟩
    rw [sput1]
    refine ⟨_, rfl, a, _, rfl, .inr ⟨SqT.of (by rw [upd_ne ao]; exact ha), ?_⟩⟩
    refine ⟨_, rfl, o, CS, dx, _, rfl, upd_same, S.cl, S.nP, (by show 1 < 1000; decide), ?_⟩
    rw [sput2, upd_upd]
    exact q _ .updb ⟨dx, a, upd_same, by rw [upd_ne ao]; exact ha⟩
abbrev tChose (K : PySem.W.Frag) : TT := tTest (tOp (rIn K false) (tVar 3) (tFld K (tVar 0) "part"))
set_option maxHeartbeats 8000000 in
theorem ok_sal (F : Fun K "is_allowed" "Split.is_allowed" sSAl f fd) (T : Bi mg) (S : STxt K mg CS) (mL : C8.Met P w K mg base 2 C "leaving" (spAll C fstIs) []) (pS : Prp P w K mg base 1 C "states" (spStates C)) : FnOk P w K mg base CX0 (k + 3) f fd ["self", "graph"] (spSAl C CS) := by
  refine F.ok scSAl (fun vs H Q E h => ?_) (fun cdv A outer s H vs Q E hr h => ?_)
  · obtain ⟨o, g, n, s, ps, part, rfl, _⟩ := h
    rfl
  · obtain ⟨o, g, n, st, ps, part, rfl, ⟨dx, a, ho, ha⟩, G, ok, q⟩ := h
    have n8 := G.n8
    have l24 := G.l24
    obtain ⟨us, GA, eu⟩ := G.at_
    obtain ⟨⟨dg, t, h1, h2⟩, ed⟩ := id GA
    have lu : us.length = ps.length := by rw [← eu, psL_len]
    refine ⟨_, pss_cons (ps_if (pt_not (pt_chain op_le op_lt pe_int (pe_fld (pv 0) rfl) (pe_pr pS hr (by omega) (pv 1)))) (pss_one (ps_ret pe_bl)) pss_nil)
      (pss_cons (ps_set (i := 2) scSAl.nd rfl (.inl rfl) (C8.pe_mt mL hr (by omega) (pv 1) (pa_cons (pe_fld (pv 0) rfl) pa_nil)))
      (C8.pss_cut (ps_setLc (i := 4) (own := [("edge", 3)]) (g := gName 3) (tt := tChose K) (te := tVar 3) rfl scSAl.nd rfl rfl (sw_true rfl rfl rfl (by decide +kernel)) (pi_seqA (pv 2)) (blkOk_by (N := ["self", "graph", "leaving", "edge", "chosen"]) (sc := defScope sSAl) (by decide +kernel))
          (fun _ _ _ _ _ => by exact pg_name (i := 3) scSAl.nd rfl (Or.inl rfl)) (fun _ _ _ _ _ => by exact pts_one (pt_cmpR op_in_seq (pv 3) (pe_fld (pv 0) rfl) (by rfl)))
          (fun _ _ _ _ _ => by exact pv 3))
      (pss_one (ps_ret (pe_and (pe_cmpR (op_eqD hr.units) (pe_callTy call_list_of (by rfl) T.list (by decide +kernel) (pa_cons (pe_fld (pv 0) rfl) pa_nil)) (pv 4) (nomark _))
        (pe_one (pe_chain op_lt op_lt pe_int (pe_callB call_len_seq (by rfl) T.len PySem.boot_len (pa_cons (pv 4) pa_nil)) (pe_callB call_len_seq (by rfl) T.len PySem.boot_len (pa_cons (pv 2) pa_nil))))))))), ?_⟩
    have s0 := ok.s0
    have s1 := ok.s1
    refine ⟨_, rfl, o, CS, dx, _, _, rfl, ho, S.cl, S.nS, sst _ _, _, _, rfl, rfl, _, rfl, if_t (decide_eq_true s0) ⟨_, rfl, g, dg, _, rfl, h1, g, (n : Int), us, rfl, GA, _, _, rfl, rfl, _, rfl, if_f (by rw [decide_eq_true s1]; rfl) ?_⟩⟩
    refine ⟨_, rfl, g, dg, _, rfl, h1, look_no _ _ (by decide +kernel) (by decide +kernel), _, rfl, o, CS, dx, _, _, rfl, ho, S.cl, S.nS, sst _ _, g, (n : Int), us, (st : Int), rfl, GA, s0, s1, by omega, fun Lv H1 s1' nL eL => ?_⟩
    rw [eu, lu, sel_lv ps st _ (Nat.le_refl _)] at eL
    have nd := lvT_nodup ps st ps.length
    have ll := lvT_len ps st ps.length
    have fs := filt_sub ok.sub nd
    refine ⟨fun σ H' => ∃ D : Addr, σ = [some (.ref o), some (.ref g), some (.ref Lv), none, some (.ref D)] ∧ Same H1 H' ∧ H' D = some (.lst ((nI part).map V.int)), ?_, ?_⟩
    · refine ⟨_, rfl, Lv, _, SqL, rfl, .inl rfl, SqL.of eL, fun J w D hD => ?_⟩
      refine lc_it w (fun m H' => Same H1 H' ∧ H' D = some (.lst ((((lvL ps st).take m).filter fun y => decide (y ∈ nI part)).map V.int))) ⟨same_upd hD, upd_same⟩ (fun m H' _ p => SqL.of (p.1 _ _ eL)) ?_ ?_
      · rintro m x H2 H3 hm ⟨s2, eD⟩ ⟨rfl, gx⟩
        rw [List.length_map] at hm
        rw [List.getElem?_map] at gx
        obtain ⟨z, hz, rfl⟩ := Option.map_eq_some_iff.mp gx
        refine ⟨rfl, ?_⟩
        have ei : (if (false : Bool) = true then !inV (V.int z) ((nI part).map V.int) else inV (V.int z) ((nI part).map V.int)) = decide (z ∈ nI part) := by
          rw [if_neg Bool.false_ne_true, inV_dec]
        refine ⟨_, rfl, _, rfl, o, CS, dx, _, _, rfl, s2 _ _ (s1' _ _ ho), S.cl, S.nP, spa _ _, a, _, rfl, .inr (SqT.of (s2 _ _ (s1' _ _ ha))), rfl, by rw [nV_nI]; exact flat_ints _, _, rfl, ?_⟩
        rw [nV_nI, ei, take_snoc hz, List.filter_append]
        refine ite2 (fun hc => ?_) (fun hc => ?_)
        · refine ⟨_, rfl, _, eD, ?_, ?_, ?_⟩
          · rw [List.length_map]
            have h3 := List.length_filter_le (fun y => decide (y ∈ nI part)) ((lvL ps st).take m)
            rw [List.length_take] at h3
            exact small1000 (by omega)
          · intro b u ec
            rw [upd_ne (ne_of_none ec hD)]
            exact s2 _ _ ec
          · rw [upd_same, List.filter_cons_of_pos (by exact hc), List.map_append]
            rfl
        · refine ⟨s2, ?_⟩
          rw [eD, List.filter_cons_of_neg (by exact hc), List.filter_nil, List.append_nil]
      · rintro H2 ⟨s2, eD⟩
        rw [List.length_map, List.take_length, fs] at eD
        exact ⟨D, rfl, s2, eD⟩
    rintro σ H2 ⟨D, rfl, s2, eD⟩
    have s12 := s1'.trans s2
    refine ⟨_, rfl, o, CS, dx, _, _, rfl, s12 _ _ ho, S.cl, S.nP, spa _ _, a, _, rfl, .inr (SqT.of (s12 _ _ ha)), fun L3 hL3 => ?_⟩
    have s3 := same_upd (o := .lst (nV part)) hL3
    have e3 : upd H2 L3 (.lst (nV part)) L3 = some (.lst ((nI part).map V.int)) := by rw [nV_nI]; exact upd_same
    generalize upd H2 L3 (.lst (nV part)) = H3 at *
    have eD := s3 _ _ eD
    refine ⟨_, rfl, .list ((nI part).map PyData.int), .list ((nI part).map PyData.int), .lst (SqL.of e3) (dp_ints _), .lst (SqL.of eD) (dp_ints _), shl_ints _, shl_ints _, true, ?_, iteT ?_⟩
    · rw [eqv_lst, decide_eq_true rfl]
    have lp : 0 < (nI part).length := List.length_pos_iff.mpr ok.ne
    refine ⟨_, rfl, D, _, rfl, .inl (SqL.of eD), _, _, rfl, rfl, _, rfl, ?_⟩
    rw [List.length_map]
    refine if_t (decide_eq_true (by omega)) ?_
    have := ok.lt
    refine ⟨_, rfl, Lv, _, rfl, .inl (SqL.of (s3 _ _ (s2 _ _ eL))), _, _, rfl, rfl, ?_⟩
    show Q (.bl (decide (((nI part).length : Int) < ((((lvL ps st).map V.int).length : Nat) : Int)))) H3
    rw [List.length_map, decide_eq_true (by omega)]
    exact q H3 (s12.trans s3)
end
end Lw
set_option Elab.async false
set_option linter.all false
set_option maxRecDepth 100000
/-! the class Split: a split taken -/
namespace Lw
open PySem L2
abbrev sSR : Stmt := inClass (top 48) 4
abbrev NSR : List Str := ["self", "graph", "fresh", "number", "source", "target", "edges", "copies"]
def spSR (C CS : Addr) : Sp := fun vs H Q _ => ∃ (o g : Addr) (n s : Nat) (ps : Ps) (part : List Nat), vs = [.ref o, .ref g] ∧ SpO CS H o s part ∧ Gok C H g n ps ∧ Ok3 n ps (.S s part) ∧ ∀ (g' : Addr) (H' : Hp), Same H H' → H g' = none → Gok C H' g' (n + 1) (splP n s (nI part) ps) → Q (.ref g') H'
theorem splB_sel (n s : Int) (part : List Int) (ps : Ps) : ∀ m, m ≤ ps.length → splB n s part ps m = (sel (sndIs s) ps m).map fun z => ((splE n part ps z.toNat).1, n) := by
  intro m
  induction m with
  | zero => intro _; rfl
  | succ m ih =>
    intro hm
    rw [splB_succ, sel_succ (pat_at (show m < ps.length by omega)), ih (by omega)]
    by_cases c : (pat ps m).2 = s
    · rw [if_pos c, if_pos (decide_eq_true c), List.map_append]
      rfl
    · rw [if_neg c, if_neg (fun z => c (of_decide_eq_true z)), List.append_nil]
theorem sel_mem {f : Int × Int → Bool} {ps : Ps} {z : Int} : ∀ m, z ∈ sel f ps m → ∃ k : Nat, z = (k : Int) ∧ k < m := by
  intro m h
  unfold sel at h
  obtain ⟨k, hk, rfl⟩ := List.mem_map.mp h
  exact ⟨k, rfl, List.mem_range.mp (List.mem_filter.mp hk).1⟩
section
variable {P : Program} {w : World} {K : PySem.W.Frag} {mg : Str → Option Value} {base : Heap} {f C CS : Addr} {mc : Value} {fd : FuncData} {k : Nat}
theorem ok_sck {fL : Addr} {fdL : FuncData} (F : Fun K "check" "Split.check" sSCk f fd) (T : Bi mg) (G : GTxt K mg C mc) (S : STxt K mg CS) (mAl : C8.Met P w K mg base 3 CS "is_allowed" (spSAl C CS) []) (mEn : C8.Met P w K mg base 2 C "entering" (spAll C sndIs) []) (pS : Prp P w K mg base 1 C "states" (spStates C))
    (hL1 : PySem.W.findIn K (.ref C) "__len__" = some (some (.ref fL))) (hL2 : PySem.W.isFn K (.ref fL) = true) (FL : FnOk P w K mg base CX0 1 fL fdL ["self"] (spLen C)) (bL : Binds K fdL ["self"] []) : FnOk P w K mg base CX0 (k + 4) f fd ["self", "graph"] (spSCk C CS) := by
  refine F.ok scSCk (fun vs H Q E h => ?_) (fun cdv A outer s H vs Q E hr h => ?_)
  · obtain ⟨o, g, n, s, ps, part, rfl, _⟩ := h
    rfl
  · obtain ⟨o, g, n, st, ps, part, rfl, SO, GG, ok, q⟩ := h
    obtain ⟨dx, a, ho, ha⟩ := id SO
    have n8 := GG.n8
    have l24 := GG.l24
    obtain ⟨us, GA, eu⟩ := GG.at_
    obtain ⟨⟨dg, t, h1, h2⟩, ed⟩ := id GA
    have lu : us.length = ps.length := by rw [← eu, psL_len]
    obtain ⟨u8, hv8⟩ := G.v8
    obtain ⟨u24, hv24⟩ := G.v24
    refine ⟨_, pss_cons (ps_if (pt_not (pt_val (C8.pe_mt mAl hr (by omega) (pv 0) (pa_cons (pv 1) pa_nil)))) (pss_one ps_never) pss_nil)
      (pss_cons (ps_if (pt_cmpR op_gt (pe_op op_add (pe_pr pS hr (by omega) (pv 1)) pe_int) (ClX.pe_cval (pe_glob (v := .ref C) (by rfl) G.mgG rfl)) (nomark _)) (pss_one ps_never) pss_nil)
      (pss_one (ps_if (pt_cmpR op_gt (pe_op op_add (pe_callB (call_lenO (E := E0) FL hL1 hL2 bL pass0 (hr.mono (by omega))) (by rfl) T.len PySem.boot_len (pa_cons (pv 1) pa_nil)) (pe_callB call_len_seq (by rfl) T.len PySem.boot_len (pa_cons (C8.pe_mt mEn hr (by omega) (pv 1) (pa_cons (pe_fld (pv 0) rfl) pa_nil)) pa_nil))) (ClX.pe_cval (pe_glob (v := .ref C) (by rfl) G.mgG rfl)) (nomark _)) (pss_one ps_never) pss_nil))), ?_⟩
    obtain ⟨o1, o2, o3⟩ := ok
    have s0 := o1.s0
    have s1 := o1.s1
    refine ⟨_, rfl, o, dx, _, rfl, ho, sno _ _ (by decide +kernel) (by decide +kernel), _, rfl, o, g, n, st, ps, part, rfl, SO, GG, o1, fun H1 sm1 => ⟨true, rfl, if_f rfl ?_⟩⟩
    refine ⟨_, rfl, g, dg, _, rfl, sm1 _ _ h1, g, (n : Int), us, rfl, GA.same sm1, _, _, rfl, rfl, C, mc, _, _, rfl, G.rd, hv8, _, _, rfl, rfl, _, rfl, if_f (decide_eq_false (by omega)) ?_⟩
    refine ⟨_, rfl, g, dg, _, rfl, sm1 _ _ h1, g, (n : Int), us, rfl, GA.same sm1, ?_⟩
    refine ⟨_, rfl, ⟨by omega, by omega⟩, _, rfl, g, dg, _, rfl, sm1 _ _ h1, look_no _ _ (by decide +kernel) (by decide +kernel), _, rfl, o, CS, dx, _, _, rfl, sm1 _ _ ho, S.cl, S.nS, sst _ _, g, (n : Int), us, (st : Int), rfl, GA.same sm1, s0, s1, by omega, fun p H2 sm2 np ep => ?_⟩
    refine ⟨p, _, rfl, .inl (SqL.of ep), _, _, rfl, rfl, C, mc, _, _, rfl, G.rd, hv24, _, _, rfl, rfl, _, rfl, if_f (decide_eq_false ?_) (q H2 (sm1.trans sm2))⟩
    rw [List.length_map, eu, lu, sel_in _ _ _ (Nat.le_refl _), List.take_length]
    omega
theorem scSR : FnScope NSR ["self", "graph"] (defScope sSR) := ⟨rfl, rfl, rfl, by decide +kernel, rfl, by decide +kernel, by decide +kernel⟩
abbrev tSrE (K : PySem.W.Frag) : TE := tTup (tCons (tIf (tTest (tOp (rIn K false) (tVar 3) (tFld K (tVar 0) "part"))) (tVar 2) (tVar 4)) (tCons (tVar 5) tNil))
abbrev tSrC (K : PySem.W.Frag) : TE := tTup (tCons (tOp (rIxT K) (tOp (rIxL K) (tVar 6) (tVar 3)) (tC (.int 0))) (tCons (tVar 2) tNil))
set_option maxHeartbeats 16000000 in
theorem ok_sr (F : Fun K "result" "Split.result" sSR f fd) (S : STxt K mg CS) (tE : mg "enumerate" = none) (mCk : C8.Met P w K mg base 4 CS "check" (spSCk C CS) []) (mE : C8.Met P w K mg base 1 C "edges" (spEdges C) []) (mEn : C8.Met P w K mg base 2 C "entering" (spAll C sndIs) []) (pS : Prp P w K mg base 1 C "states" (spStates C))
    (cG : C8.Mak P w K mg base 2 "Graph" C (spInit C) []) : FnOk P w K mg base CX0 (k + 5) f fd ["self", "graph"] (spSR C CS) := by
  refine F.ok scSR (fun vs H Q E h => ?_) (fun cdv A outer s H vs Q E hr h => ?_)
  · obtain ⟨o, g, n, s, ps, part, rfl, _⟩ := h
    rfl
  · obtain ⟨o, g, n, st, ps, part, rfl, SO, GG, ok, q⟩ := h
    have n8 := GG.n8
    have n1 := GG.n1
    have l24 := GG.l24
    refine ⟨_, pss_cons (ps_expr (C8.pe_mt mCk hr (by omega) (pv 0) (pa_cons (pv 1) pa_nil)))
      (pss_cons (ps_set (i := 2) scSR.nd rfl (.inr rfl) (pe_pr pS hr (by omega) (pv 1)))
      (C8.pss_cut (ps_set (i := 6) scSR.nd rfl (.inr rfl) (pe_lc (own := [("number", 3), ("source", 4), ("target", 5)]) (g := gTup K 2 (gCons (gName 3) (gCons (gTup K 2 (gCons (gName 4) (gCons (gName 5) gNil))) gNil))) (tt := tYes) (te := tSrE K) rfl scSR.nd (pi_enumA (by rfl) tE (pa_cons (C8.pe_mt0 mE hr (by omega) (pv 1)) pa_nil)) (blkOk_by (N := NSR) (sc := defScope sSR) (by decide +kernel))
          (fun _ _ _ _ _ => by exact pg_tup rfl (pgs_cons (pg_name (i := 3) scSR.nd rfl (Or.inl rfl)) (pgs_cons (pg_tup rfl (pgs_cons (pg_name (i := 4) scSR.nd rfl (Or.inl rfl)) (pgs_cons (pg_name (i := 5) scSR.nd rfl (Or.inl rfl)) pgs_nil))) pgs_nil))) (fun _ _ _ _ _ => pts_nil)
          (fun _ _ _ _ _ => by exact pe_tup (pa_cons (pe_ifExp (pt_cmpR op_in_seq (pv 3) (pe_fld (pv 0) rfl) (by rfl)) (pv 2) (pv 4)) (pa_cons (pv 5) pa_nil)))))
      (C8.pss_cut (ps_setLc (i := 7) (own := [("number", 3)]) (g := gName 3) (tt := tYes) (te := tSrC K) rfl scSR.nd rfl rfl (sw_true rfl rfl rfl (by decide +kernel)) (pi_seqA (C8.pe_mt mEn hr (by omega) (pv 1) (pa_cons (pe_fld (pv 0) rfl) pa_nil))) (blkOk_by (N := NSR) (sc := defScope sSR) (by decide +kernel))
          (fun _ _ _ _ _ => by exact pg_name (i := 3) scSR.nd rfl (Or.inl rfl)) (fun _ _ _ _ _ => pts_nil)
          (fun _ _ _ _ _ => by exact pe_tup (pa_cons (pe_ix ix_tup (pe_ix ix_list (pv 6) (pv 3) (fun _ _ => rfl)) pe_int (fun _ _ => rfl)) (pa_cons (pv 2) pa_nil))))
      (pss_one (ps_ret (C8.pe_mk cG hr (by omega) (by rfl) (pa_cons (pe_op op_add (pv 2) pe_int) (pa_cons (pe_op op_cat (pv 6) (pv 7)) pa_nil)))))))), ?_⟩
    obtain ⟨dx, a, ho, ha⟩ := id SO
    obtain ⟨o1, o2, o3⟩ := id ok
    have s0 := o1.s0
    have s1' := o1.s1
    refine ⟨_, rfl, o, dx, _, rfl, ho, sno _ _ (by decide +kernel) (by decide +kernel), _, rfl, o, g, n, st, ps, part, rfl, SO, GG, ok, fun H1 s1 => ?_⟩
    have GG1 := GG.same s1
    have ho1 := s1 _ _ ho
    have ha1 := s1 _ _ ha
    obtain ⟨us, GA, eu⟩ := GG1.at_
    obtain ⟨⟨dg, t, h1, h2⟩, ed⟩ := id GA
    have lu : us.length = ps.length := by rw [← eu, psL_len]
    have lv := vsOf_len us
    refine ⟨_, rfl, g, dg, _, rfl, h1, g, (n : Int), us, rfl, GA, ?_⟩
    -- the edges
    refine ⟨fun σ H' => ∃ (D : Addr) (ws : Es), σ = [some (.ref o), some (.ref g), some (.int (n : Int)), none, none, none, some (.ref D), none] ∧ Same H1 H' ∧ LsAt H' D ws ∧ psOf ws = splA n (nI part) ps ps.length, ?_, ?_⟩
    · refine ⟨_, rfl, g, dg, _, rfl, h1, look_no _ _ (by decide +kernel) (by decide +kernel), g, (n : Int), us, rfl, GA, fun L hL => ?_⟩
      have s2 := same_upd (o := .lst (vsOf us)) hL
      have eL : upd H1 L (.lst (vsOf us)) L = some (.lst (vsOf us)) := upd_same
      generalize upd H1 L (.lst (vsOf us)) = H2 at *
      refine ⟨L, _, SqL, rfl, .inl rfl, SqL.of eL, fun J wk D hD => ?_⟩
      refine lc_it wk (fun m H' => ∃ ws : Es, Same H2 H' ∧ LsAt H' D ws ∧ psOf ws = splA n (nI part) ps m) ⟨[], same_upd hD, ⟨upd_same, Ed.nil⟩, rfl⟩ (fun m H' _ p => by obtain ⟨ws, s, _⟩ := p; exact SqL.of (s _ _ eL)) ?_ ?_
      · rintro m x H3 H4 hm ⟨ws, s3, L3, hw⟩ ⟨Tp, u, v, rfl, nT, rfl, gu, gv⟩
        have hm : m < us.length := by omega
        have eu1 : u = .int ((m : Nat) : Int) := (Option.some.inj gu).symm
        subst eu1
        have gv : (vsOf us)[m]? = some v := gv
        obtain ⟨e, he, rfl⟩ := vsOf_at gv
        have s4 := same_upd (o := .tup [.int ((m : Nat) : Int), .ref e.1]) nT
        have ep : pat ps m = e.2 := by rw [← eu]; exact psOf_pat he
        have L4 := L3.same s4
        have eT : upd H3 Tp (.tup [.int ((m : Nat) : Int), .ref e.1]) Tp = some (.tup [.int ((m : Nat) : Int), .ref e.1]) := upd_same
        have s34 := s3.trans s4
        have ee := s34 _ _ (s2 _ _ (ed e (List.mem_of_getElem? he)))
        have ho4 := s34 _ _ (s2 _ _ ho1)
        have ha4 := s34 _ _ (s2 _ _ ha1)
        generalize upd H3 Tp (.tup [.int ((m : Nat) : Int), .ref e.1]) = H5 at *
        have lw : ws.length = m := by
          have := congrArg List.length hw
          unfold splA at this
          rw [psL_len, List.length_map, List.length_range] at this
          exact this
        have fin : ∀ z : Int, z = (splE n (nI part) ps m).1 → ∀ tt, H5 tt = none → ∃ acc, upd H5 tt (.tup [.int z, .int e.2.2]) D = some (.lst acc) ∧ acc.length < sizeLine ∧ ∃ ws : Es, Same H2 (upd (upd H5 tt (.tup [.int z, .int e.2.2])) D (.lst (acc ++ [.ref tt]))) ∧ LsAt (upd (upd H5 tt (.tup [.int z, .int e.2.2])) D (.lst (acc ++ [.ref tt]))) D ws ∧ psOf ws = splA n (nI part) ps (m + 1) := fun z hz tt ht => by
          have s5 := same_upd (o := .tup [.int z, .int e.2.2]) ht
          have nt : tt ≠ D := fun w => by
            rw [w, L4.ls] at ht
            cases ht
          have L5 := L4.same s5
          refine ⟨_, L5.ls, ?_, ws ++ [(tt, z, e.2.2)], ?_, L5.snoc (H := H5) upd_same nt, ?_⟩
          · rw [vsOf_len]
            exact small1000 (by omega)
          · intro b o e
            rw [upd_ne (ne_of_none e hD)]
            exact s5 _ _ (s34 _ _ e)
          · rw [psOf_app, hw, splA_succ, hz]
            show _ ++ [((splE n (nI part) ps m).1, e.2.2)] = _ ++ [splE n (nI part) ps m]
            unfold splE
            rw [ep]
        refine ⟨Tp, _, rfl, SqT.of eT, rfl, _, _, rfl, _, _, rfl, ⟨e.1, _, rfl, SqT.of ee, rfl, _, _, rfl, _, _, rfl, rfl, rfl, rfl, ?_⟩⟩
        have ei : (if (false : Bool) = true then !inV (V.int ((m : Nat) : Int)) ((nI part).map V.int) else inV (V.int ((m : Nat) : Int)) ((nI part).map V.int)) = decide (((m : Nat) : Int) ∈ nI part) := by
          rw [if_neg Bool.false_ne_true, inV_dec]
        refine ⟨_, rfl, _, rfl, o, CS, dx, _, _, rfl, ho4, S.cl, S.nP, spa _ _, a, _, rfl, .inr (SqT.of ha4), rfl, by rw [nV_nI]; exact flat_ints _, _, rfl, ?_⟩
        rw [nV_nI, ei]
        refine ite2 (fun hc => ?_) (fun hc => ?_)
        · have hc := of_decide_eq_true hc
          refine ⟨_, rfl, _, rfl, (by show 2 ≤ sizeLine; decide), fun tt ht => fin _ ?_ tt ht⟩
          unfold splE
          show (n : Int) = if ((m : Nat) : Int) ∈ nI part then (n : Int) else _
          rw [if_pos hc]
        · have hc : ¬ ((m : Nat) : Int) ∈ nI part := fun z => hc (decide_eq_true z)
          refine ⟨_, rfl, _, rfl, (by show 2 ≤ sizeLine; decide), fun tt ht => fin _ ?_ tt ht⟩
          unfold splE
          show e.2.1 = if ((m : Nat) : Int) ∈ nI part then (n : Int) else (pat ps m).1
          rw [if_neg hc, ep]
      · rintro H3 ⟨ws, s3, L3, hw⟩
        rw [lv, lu] at hw
        exact ⟨D, ws, rfl, s2.trans s3, L3, hw⟩
    rintro σ H2 ⟨D, ws, rfl, s2, L2, hw⟩
    have lw : ws.length = ps.length := by
      have := congrArg List.length hw
      unfold splA at this
      rw [psL_len, List.length_map, List.length_range] at this
      exact this
    have GA2 := GA.same s2
    have h12 := s2 _ _ h1
    have ho2 := s2 _ _ ho1
    -- the copies
    refine ⟨fun σ H' => ∃ (D2 : Addr) (zs : Es), σ = [some (.ref o), some (.ref g), some (.int (n : Int)), none, none, none, some (.ref D), some (.ref D2)] ∧ Same H2 H' ∧ LsAt H' D2 zs ∧ psOf zs = splB n st (nI part) ps ps.length, ?_, ?_⟩
    · refine ⟨_, rfl, g, dg, _, rfl, h12, look_no _ _ (by decide +kernel) (by decide +kernel), _, rfl, o, CS, dx, _, _, rfl, ho2, S.cl, S.nS, sst _ _, g, (n : Int), us, (st : Int), rfl, GA2, s0, s1', by omega, fun p H3 s3 np ep => ?_⟩
      rw [eu, lu] at ep
      have ls := sel_len (sndIs (st : Int)) ps ps.length
      refine ⟨p, _, SqL, rfl, .inl rfl, SqL.of ep, fun J wk D2 hD2 => ?_⟩
      refine lc_it wk (fun m H' => ∃ zs : Es, Same H3 H' ∧ LsAt H' D2 zs ∧ psOf zs = ((sel (sndIs (st : Int)) ps ps.length).take m).map fun z => ((splE n (nI part) ps z.toNat).1, (n : Int))) ⟨[], same_upd hD2, ⟨upd_same, Ed.nil⟩, rfl⟩ (fun m H' _ p => by obtain ⟨zs, s, _⟩ := p; exact SqL.of (s _ _ ep)) ?_ ?_
      · rintro m x H4 H5 hm ⟨zs, s4, L4, hz⟩ ⟨rfl, gx⟩
        rw [List.length_map] at hm
        rw [List.getElem?_map] at gx
        obtain ⟨z, hzz, rfl⟩ := Option.map_eq_some_iff.mp gx
        obtain ⟨c, rfl, hc⟩ := sel_mem _ (List.mem_of_getElem? hzz)
        obtain ⟨y, hy⟩ : ∃ y, ws[c]? = some y := ⟨_, List.getElem?_eq_getElem (by omega)⟩
        have ey : y.2 = splE n (nI part) ps c := by
          have h1 := psOf_at hy
          rw [hw] at h1
          unfold splA at h1
          rw [List.getElem?_map, List.getElem?_range hc] at h1
          exact (Option.some.inj h1).symm
        have L24 := (L2.same s3).same s4
        have lz : zs.length ≤ 24 := by
          have h1 := congrArg List.length hz
          rw [psL_len, List.length_map, List.length_take] at h1
          omega
        refine ⟨rfl, ?_⟩
        refine ⟨_, rfl, _, rfl, D, _, _, _, rfl, rfl, SqL.of L24.ls, es_at hy, y.1, _, _, _, rfl, rfl, SqT.of (L24.ed y (List.mem_of_getElem? hy)), rfl, _, rfl, (by show 2 ≤ sizeLine; decide), fun tt ht => ?_⟩
        have s5 := same_upd (o := .tup [.int y.2.1, .int (n : Int)]) ht
        have nt : tt ≠ D2 := fun w => by
          rw [w, L4.ls] at ht
          cases ht
        have L5 := L4.same s5
        refine ⟨_, L5.ls, ?_, zs ++ [(tt, y.2.1, (n : Int))], ?_, L5.snoc (H := H5) upd_same nt, ?_⟩
        · rw [vsOf_len]
          exact small1000 (by omega)
        · intro b o e
          rw [upd_ne (ne_of_none e hD2)]
          exact s5 _ _ (s4 _ _ e)
        · rw [psOf_app, hz, take_snoc hzz, List.map_append]
          show _ ++ [(y.2.1, (n : Int))] = _ ++ [((splE n (nI part) ps c).1, (n : Int))]
          rw [ey]
      · rintro H4 ⟨zs, s4, L4, hz⟩
        rw [List.length_map, List.take_length, ← splB_sel n st (nI part) ps _ (Nat.le_refl _)] at hz
        exact ⟨D2, zs, rfl, s3.trans s4, L4, hz⟩
    rintro σ H3 ⟨D2, zs, rfl, s3, L3, hz⟩
    have lz : zs.length ≤ 24 := by
      have h1 := congrArg List.length hz
      have h2 := splB_len n st (nI part) ps ps.length
      rw [psL_len] at h1
      omega
    have L23 := L2.same s3
    refine ⟨_, rfl, _, _, rfl, rfl, _, rfl, _, rfl, D, D2, _, _, rfl, rfl, L23.ls, L3.ls, ?_, fun R hR => ?_⟩
    · rw [vsOf_len, vsOf_len]
      exact Nat.le_of_lt (small1000 (by omega))
    have s4 := same_upd (o := .lst (vsOf ws ++ vsOf zs)) hR
    have eR : upd H3 R (.lst (vsOf ws ++ vsOf zs)) R = some (.lst (vsOf (ws ++ zs))) := by
      rw [upd_same]
      unfold vsOf
      rw [List.map_append]
    have L4 := (L23.ed.same s4).app (L3.ed.same s4)
    generalize upd H3 R (.lst (vsOf ws ++ vsOf zs)) = H4 at *
    have e1 : psOf (ws ++ zs) = splP n st (nI part) ps := by
      rw [psOf_app, hw, hz]
      rfl
    have nx := ok.next GG.va n1 n8 l24
    obtain ⟨v1, v2, v3, v4⟩ := nx
    intro g' dx' hg hdx nex
    have s5 := make_same (C := C) hg hdx nex
    have sAll := ((s1.trans s2).trans s3).trans s4
    have ng : H g' = none := sAll.free hg
    have v4 : (splP n st (nI part) ps).length ≤ 24 := v4
    have en : ((n + 1 : Nat) : Int) = (n : Int) + 1 := by omega
    refine ⟨g', dx', R, ((n + 1 : Nat) : Int), ws ++ zs, HO.lst, rfl, upd_same, .inl rfl, s5 _ _ eR, L4.same s5, VaP.es (by rw [e1]; exact v1), by omega, by omega, by rw [← psL_len, e1]; exact v4, fun vs H' hvs kp GB => ⟨rfl, ?_⟩⟩
    exact q g' H' (fun c o ec => kp c o (ne_of_none ec ng) (s5 _ _ (sAll _ _ ec))) ng ⟨⟨vs, GB, hvs.trans e1⟩, v1, by omega, by omega, v4⟩
end
end Lw
set_option Elab.async false
set_option linter.all false
set_option maxRecDepth 100000
/-! lists of steps of the three classes; a split and a renaming undone -/
namespace Lw
open PySem L2
abbrev sSU : Stmt := inClass (top 48) 7
abbrev sRU : Stmt := inClass (top 50) 6
def O3 (CS CM CR : Addr) (H : Hp) (o : Addr) : Sp3 → Prop
  | .S s part => SpO CS H o s part
  | .M i j => MgO CM H o i j
  | .R s e => RnO CR H o s e
theorem O3.same {CS CM CR : Addr} {H H' : Hp} {o : Addr} {x : Sp3} (h : O3 CS CM CR H o x) (s : Same H H') : O3 CS CM CR H' o x := by
  cases x with
  | S st part => exact SpO.same h s
  | M i j => exact MgO.same h s
  | R st e => exact RnO.same h s
/-- a list of steps -/
def St3 (CS CM CR : Addr) (H : Hp) (D : Addr) (st : List Sp3) : Prop := ∃ os : List Addr, H D = some (.lst (os.map V.ref)) ∧ os.length = st.length ∧ ∀ (k : Nat) (o : Addr) (x : Sp3), os[k]? = some o → st[k]? = some x → O3 CS CM CR H o x
theorem St3.same {CS CM CR : Addr} {H H' : Hp} {D : Addr} {st : List Sp3} (h : St3 CS CM CR H D st) (s : Same H H') : St3 CS CM CR H' D st := by
  obtain ⟨os, h1, h2, h3⟩ := h
  exact ⟨os, s _ _ h1, h2, fun k o x a b => (h3 k o x a b).same s⟩
theorem St3.one {CS CM CR : Addr} {H : Hp} {D o : Addr} {x : Sp3} (e : H D = some (.lst [.ref o])) (h : O3 CS CM CR H o x) : St3 CS CM CR H D [x] :=
  ⟨[o], e, rfl, fun k o' x' a b => by
    match k, a, b with
    | 0, a, b =>
      cases a
      cases b
      exact h⟩
theorem St3.two {CS CM CR : Addr} {H : Hp} {D o o2 : Addr} {x x2 : Sp3} (e : H D = some (.lst [.ref o, .ref o2])) (h : O3 CS CM CR H o x) (h2 : O3 CS CM CR H o2 x2) : St3 CS CM CR H D [x, x2] :=
  ⟨[o, o2], e, rfl, fun k o' x' a b => by
    match k, a, b with
    | 0, a, b =>
      cases a
      cases b
      exact h
    | 1, a, b =>
      cases a
      cases b
      exact h2⟩
theorem St3.nil {CS CM CR : Addr} {H : Hp} {D : Addr} (e : H D = some (.lst [])) : St3 CS CM CR H D [] := ⟨[], e, rfl, fun k o x a b => by cases b⟩
theorem St3.app {CS CM CR : Addr} {H : Hp} {D : Addr} {os1 os2 : List Addr} {s1 s2 : List Sp3} (e : H D = some (.lst ((os1 ++ os2).map V.ref))) (l1 : os1.length = s1.length) (l2 : os2.length = s2.length)
    (h1 : ∀ (k : Nat) (o : Addr) (x : Sp3), os1[k]? = some o → s1[k]? = some x → O3 CS CM CR H o x) (h2 : ∀ (k : Nat) (o : Addr) (x : Sp3), os2[k]? = some o → s2[k]? = some x → O3 CS CM CR H o x) : St3 CS CM CR H D (s1 ++ s2) :=
  ⟨os1 ++ os2, e, by rw [List.length_append, List.length_append, l1, l2], fun k o x a b => by
    by_cases c : k < os1.length
    · rw [List.getElem?_append_left c] at a
      rw [List.getElem?_append_left (by omega)] at b
      exact h1 k o x a b
    · rw [List.getElem?_append_right (by omega)] at a
      rw [List.getElem?_append_right (by omega)] at b
      rw [l1] at a
      exact h2 _ o x a b⟩
def spUn (C CS CM CR : Addr) (is : Sp3 → Prop) : Sp := fun vs H Q _ => ∃ (o g : Addr) (n : Nat) (ps : Ps) (x : Sp3), vs = [.ref o, .ref g] ∧ is x ∧ O3 CS CM CR H o x ∧ Gok C H g n ps ∧ Ok3 n ps x ∧ ∀ (D : Addr) (H' : Hp), Same H H' → St3 CS CM CR H' D (und3 n ps x) → Q (.ref D) H'
def isS : Sp3 → Prop
  | .S .. => True
  | _ => False
def isM : Sp3 → Prop
  | .M .. => True
  | _ => False
def isR : Sp3 → Prop
  | .R .. => True
  | _ => False
section
variable {P : Program} {w : World} {K : PySem.W.Frag} {mg : Str → Option Value} {base : Heap} {f C CS CM CR : Addr} {mc : Value} {fd : FuncData} {k : Nat}
theorem scSU : FnScope ["self", "graph"] ["self", "graph"] (defScope sSU) := ⟨rfl, rfl, rfl, by decide +kernel, rfl, by decide +kernel, by decide +kernel⟩
theorem scRU : FnScope ["self", "graph"] ["self", "graph"] (defScope sRU) := ⟨rfl, rfl, rfl, by decide +kernel, rfl, by decide +kernel, by decide +kernel⟩
theorem ok_su (F : Fun K "undone" "Split.undone" sSU f fd) (S : STxt K mg CS) (mCk : C8.Met P w K mg base 4 CS "check" (spSCk C CS) []) (pS : Prp P w K mg base 1 C "states" (spStates C)) (mM : C8.Mak P w K mg base 1 "Merge" CM (spMI CM) []) : FnOk P w K mg base CX0 (k + 5) f fd ["self", "graph"] (spUn C CS CM CR isS) := by
  refine F.ok scSU (fun vs H Q E h => ?_) (fun cdv A outer s H vs Q E hr h => ?_)
  · obtain ⟨o, g, n, ps, x, rfl, _⟩ := h
    rfl
  · obtain ⟨o, g, n, ps, x, rfl, ix, ox, GG, ok, q⟩ := h
    cases x with
    | M i j => cases ix
    | R st e => cases ix
    | S st part =>
      have SO : SpO CS H o st part := ox
      obtain ⟨dx, a, ho, ha⟩ := id SO
      refine ⟨_, pss_cons (ps_expr (C8.pe_mt mCk hr (by omega) (pv 0) (pa_cons (pv 1) pa_nil)))
        (pss_one (ps_ret (pe_lst (pa_cons (C8.pe_mk mM hr (by omega) (by rfl) (pa_cons (pe_fld (pv 0) rfl) (pa_cons (pe_pr pS hr (by omega) (pv 1)) pa_nil))) pa_nil)))), ?_⟩
      refine ⟨_, rfl, o, dx, _, rfl, ho, sno _ _ (by decide +kernel) (by decide +kernel), _, rfl, o, g, n, st, ps, part, rfl, SO, GG, ok, fun H1 s1 => ?_⟩
      obtain ⟨us, GA, eu⟩ := (GG.same s1).at_
      obtain ⟨⟨dg, t, h1, h2⟩, ed⟩ := id GA
      refine ⟨_, rfl, o, CS, dx, _, _, rfl, s1 _ _ ho, S.cl, S.nS, sst _ _, _, rfl, g, dg, _, rfl, h1, g, (n : Int), us, rfl, GA, ?_⟩
      intro m dm nm ndm nem
      have s2 := make_same (C := CM) nm ndm nem
      refine ⟨m, dm, (st : Int), (n : Int), rfl, upd_same, fun H2 kp MO => ⟨rfl, ?_⟩⟩
      have s12 : Same H H2 := fun c u ec => kp c u (ne_of_none (s1 _ _ ec) nm) (s2 _ _ (s1 _ _ ec))
      refine ⟨(by show 1 ≤ sizeLine; decide), fun D hD => ?_⟩
      have s3 := same_upd (o := .lst [.ref m]) hD
      exact q D _ (s12.trans s3) (St3.one upd_same (MgO.same MO s3))
theorem ok_ru (F : Fun K "undone" "Renaming.undone" sRU f fd) (R : RTxt K mg CR) (mCk : C8.Met P w K mg base 3 CR "check" (spRCk C CR) []) (cT : C8.Cal P w K mg base 1 "turned_back" spTb []) (mR : C8.Mak P w K mg base 1 "Renaming" CR (spRI CR) []) : FnOk P w K mg base CX0 (k + 4) f fd ["self", "graph"] (spUn C CS CM CR isR) := by
  refine F.ok scRU (fun vs H Q E h => ?_) (fun cdv A outer s H vs Q E hr h => ?_)
  · obtain ⟨o, g, n, ps, x, rfl, _⟩ := h
    rfl
  · obtain ⟨o, g, n, ps, x, rfl, ix, ox, GG, ok, q⟩ := h
    cases x with
    | M i j => cases ix
    | S st e => cases ix
    | R st e =>
      have RO : RnO CR H o st e := ox
      obtain ⟨dx, a, b, ho, ha, hb⟩ := id RO
      obtain ⟨o1, o2⟩ := id ok
      have n8 := GG.n8
      have l24 := GG.l24
      refine ⟨_, pss_cons (ps_expr (C8.pe_mt mCk hr (by omega) (pv 0) (pa_cons (pv 1) pa_nil)))
        (pss_one (ps_ret (pe_lst (pa_cons (C8.pe_mk mR hr (by omega) (by rfl) (pa_cons (C8.pe_c cT hr (by omega) (by rfl) (pa_cons (pe_fld (pv 0) rfl) pa_nil)) (pa_cons (C8.pe_c cT hr (by omega) (by rfl) (pa_cons (pe_fld (pv 0) rfl) pa_nil)) pa_nil))) pa_nil)))), ?_⟩
      refine ⟨_, rfl, o, dx, _, rfl, ho, rno _ _ (by decide +kernel) (by decide +kernel), _, rfl, o, g, n, ps, st, e, rfl, RO, GG, o1, o2, fun H1 s1 => ?_⟩
      refine ⟨_, rfl, o, CR, dx, _, _, rfl, s1 _ _ ho, R.cl, R.nS, rst _ _, a, n, st, rfl, s1 _ _ ha, o1, by omega, fun A1 H2 s2 e2 => ?_⟩
      have s12 := s1.trans s2
      refine ⟨_, rfl, o, CR, dx, _, _, rfl, s12 _ _ ho, R.cl, R.nE, red _ _, b, ps.length, e, rfl, s12 _ _ hb, o2, by omega, fun A2 H3 s3 e3 => ?_⟩
      have s13 := s12.trans s3
      intro m dm nm ndm nem
      have s4 := make_same (C := CR) nm ndm nem
      refine ⟨m, dm, A1, A2, invP n st, invP ps.length e, rfl, upd_same, s4 _ _ (s3 _ _ e2), s4 _ _ e3, fun H5 kp RO5 => ⟨rfl, ?_⟩⟩
      have s15 : Same H H5 := fun c u ec => kp c u (ne_of_none (s13 _ _ ec) nm) (s4 _ _ (s13 _ _ ec))
      refine ⟨(by show 1 ≤ sizeLine; decide), fun D hD => ?_⟩
      have s6 := same_upd (o := .lst [.ref m]) hD
      exact q D _ (s15.trans s6) (St3.one upd_same (RnO.same RO5 s6))
end
end Lw
set_option Elab.async false
set_option linter.all false
set_option maxRecDepth 100000
/-! the partners of a merge -/
namespace Lw
open PySem L2
abbrev sPt : Stmt := inClass (top 49) 4
abbrev NPt : List Str := ["self", "graph", "found", "state", "leaving", "edge", "lower", "higher", "partner"]
theorem prt_at {ps : Ps} {s i j r e p : Nat} (h1 : (posn ps ps.length ((s : Int), (i : Int)))[r]? = some e) (h2 : (posn ps ps.length ((s : Int), (j : Int)))[r]? = some p) : prt j ps e = p := by
  obtain ⟨a, b⟩ := posn_mem.mp (List.mem_of_getElem? h1)
  have pe := pat_some b
  have h3 := posn_rank b ps.length a (Nat.le_refl _)
  have er := (List.getElem?_inj (List.getElem?_eq_some_iff.mp h1).1 (posn_nd ps ps.length _)).mp (h1.trans h3.symm)
  unfold prt
  rw [pe, ← er]
  show (posn ps ps.length ((s : Int), (j : Int))).getD r 0 = p
  unfold List.getD
  rw [h2]
  rfl
theorem filt_nI' (q : Nat → Bool) (L : List Nat) : (nI L).filter (fun z => q z.toNat) = nI (L.filter q) := by
  unfold nI
  rw [List.filter_map]
  congr 1
theorem ends_at {ps : Ps} {s t : Nat} : (lvL ps (s : Int)).filter (fun z => decide ((pat ps z.toNat).2 = (t : Int))) = nI (posn ps ps.length ((s : Int), (t : Int))) := by
  rw [lvL_nI, filt_nI' fun k => decide ((pat ps k).2 = (t : Int)), List.filter_filter]
  unfold posn
  congr 1
  refine List.filter_congr fun k hk => ?_
  rw [pat_at (List.mem_range.mp hk)]
  by_cases c : pat ps k = ((s : Int), (t : Int))
  · rw [c]
    simp
  · rw [decide_eq_false (p := some (pat ps k) = _) fun z => c (Option.some.inj z)]
    by_cases d : (pat ps k).1 = (s : Int)
    · have : ¬ (pat ps k).2 = (t : Int) := fun z => c (Prod.ext d z)
      rw [decide_eq_false this]
      rfl
    · rw [decide_eq_false d, Bool.and_false]
/-- each edge to the lower state with its partner -/
def PtAt (i j : Nat) (ps : Ps) (kvs : List (Key × V)) : Prop := (∀ k : Nat, k < ps.length → (pat ps k).2 = (i : Int) → valV kvs (Sum.inl (k : Int)) = some (.int (prt j ps k))) ∧ (∀ k : Nat, ¬ (k < ps.length ∧ (pat ps k).2 = (i : Int)) → valV kvs (Sum.inl (k : Int)) = none)
def spPt (C CM : Addr) : Sp := fun vs H Q _ => ∃ (o g : Addr) (n i j : Nat) (ps : Ps), vs = [.ref o, .ref g] ∧ MgO CM H o i j ∧ Gok C H g n ps ∧ i < j ∧ j < n ∧ colL n ps i = colL n ps j ∧ ∀ (D : Addr) (kvs : List (Key × V)) (H' : Hp), Same H H' → H' D = some (.dK kvs) → PtAt i j ps kvs → Q (.ref D) H'
abbrev tEnd (K : PySem.W.Frag) (C : Addr) (x : Str) : TT := tTest (tOp rEq (tOp (rIxT K) (tMeth C "edge" (spEdge0 C) [] E0 (tVar 1) (tCons (tVar 5) tNil)) (tC (.int 1))) (tFld K (tVar 0) x))
section
variable {P : Program} {w : World} {K : PySem.W.Frag} {mg : Str → Option Value} {base : Heap} {f C CM : Addr} {mc : Value} {fd : FuncData} {k : Nat}
theorem scPt : FnScope NPt ["self", "graph"] (defScope sPt) := ⟨rfl, rfl, rfl, by decide +kernel, rfl, by decide +kernel, by decide +kernel⟩
set_option maxHeartbeats 16000000 in
theorem ok_pt (F : Fun K "partners" "Merge.partners" sPt f fd) (T : Bi mg) (M : MTxt K mg CM) (mL : C8.Met P w K mg base 2 C "leaving" (spAll C fstIs) []) (mEd : C8.Met P w K mg base 1 C "edge" (spEdge0 C) []) (pS : Prp P w K mg base 1 C "states" (spStates C)) : FnOk P w K mg base CX0 (k + 3) f fd ["self", "graph"] (spPt C CM) := by
  refine F.ok scPt (fun vs H Q E h => ?_) (fun cdv A outer s H vs Q E hr h => ?_)
  · obtain ⟨o, g, n, i, j, ps, rfl, _⟩ := h
    rfl
  · obtain ⟨o, g, n, i, j, ps, rfl, ⟨dx, ho⟩, GG, ij, jn, ec, q⟩ := h
    have n8 := GG.n8
    have l24 := GG.l24
    have hu : A.units + 1 < cLine → True := fun _ => trivial
    refine ⟨_, pss_cons (ps_set (i := 2) scPt.nd rfl (.inl rfl) pe_dnewK)
      (pss_cons (ps_for PassesOwn.never rfl (pi_range1 (by rfl) T.range (pa_cons (pe_pr pS hr (by omega) (pv 1)) pa_nil)) (pg_name (i := 3) scPt.nd rfl (.inl rfl))
        (pss_cons (ps_set (i := 4) scPt.nd rfl (.inl rfl) (C8.pe_mt mL hr (by omega) (pv 1) (pa_cons (pv 3) pa_nil)))
        (C8.pss_cut (ps_setLc (i := 6) (own := [("edge", 5)]) (g := gName 5) (tt := tEnd K C "low") (te := tVar 5) rfl scPt.nd rfl rfl (sw_true rfl rfl rfl (by decide +kernel)) (pi_seqA (pv 4)) (blkOk_by (N := NPt) (sc := defScope sPt) (by decide +kernel))
            (fun _ _ _ _ _ => by exact pg_name (i := 5) scPt.nd rfl (Or.inl rfl)) (fun _ _ _ _ _ => by exact pts_one (pt_cmpR op_eq (pe_ix ix_tup (C8.pe_mt mEd hr (by omega) (pv 1) (pa_cons (pv 5) pa_nil)) pe_int (fun _ _ => rfl)) (pe_fld (pv 0) rfl) (nomark _)))
            (fun _ _ _ _ _ => by exact pv 5))
        (C8.pss_cut (ps_setLc (i := 7) (own := [("edge", 5)]) (g := gName 5) (tt := tEnd K C "high") (te := tVar 5) rfl scPt.nd rfl rfl (sw_true rfl rfl rfl (by decide +kernel)) (pi_seqA (pv 4)) (blkOk_by (N := NPt) (sc := defScope sPt) (by decide +kernel))
            (fun _ _ _ _ _ => by exact pg_name (i := 5) scPt.nd rfl (Or.inl rfl)) (fun _ _ _ _ _ => by exact pts_one (pt_cmpR op_eq (pe_ix ix_tup (C8.pe_mt mEd hr (by omega) (pv 1) (pa_cons (pv 5) pa_nil)) pe_int (fun _ _ => rfl)) (pe_fld (pv 0) rfl) (nomark _)))
            (fun _ _ _ _ _ => by exact pv 5))
        (pss_one (ps_for PassesOwn.never rfl (RZ.pi_zipA (by rfl) T.zip (pa_cons (pv 6) (pa_cons (pv 7) pa_nil))) (pg_tup rfl (pgs_cons (pg_name (i := 5) scPt.nd rfl (.inl rfl)) (pgs_cons (pg_name (i := 8) scPt.nd rfl (.inl rfl)) pgs_nil)))
          (pss_one (ps_dput (Nat.lt_of_le_of_lt (Nat.add_le_add_left (by decide) _) hr.units) (pv 2) (pv 5) (pv 8) rfl))))))))
      (pss_one (ps_ret (pv 2)))), ?_⟩
    intro D hD
    have s1 := same_upd (o := .dK []) hD
    have eD : upd H D (.dK []) D = some (.dK []) := upd_same
    have noD : o ≠ D := ne_of_none ho hD
    have ho := s1 _ _ ho
    have GG := GG.same s1
    generalize upd H D (.dK []) = H1 at *
    obtain ⟨us, GA, eu⟩ := GG.at_
    obtain ⟨⟨dg, t, h1, h2⟩, ed⟩ := id GA
    have lu : us.length = ps.length := by rw [← eu, psL_len]
    have nd : ∀ {b : Addr} {u : HO}, H1 b = some u → (∀ kvs, u ≠ .dK kvs) → b ≠ D := fun {b u} e hn z => by
      rw [z, eD] at e
      exact hn _ (Option.some.inj e).symm
    have ngD : g ≠ D := nd h1 fun _ z => by cases z
    have ntD : t ≠ D := nd h2 fun _ z => by cases z
    have nt' : ∀ {e : Addr × Int × Int}, e ∈ us → e.1 ≠ D := fun {e} he => nd (ed e he) fun _ z => by cases z
    refine ⟨_, rfl, g, dg, _, rfl, h1, g, (n : Int), us, rfl, GA, (n : Int), rfl, by omega, by omega, ?_⟩
    refine for_it (walk_range (lo := 0) (n := ((n : Int)).toNat)) (fun m σ H' => ∃ (v3 v4 v5 v6 v7 v8 : Option V) (kvs : List (Key × V)), σ = [some (.ref o), some (.ref g), some (.ref D), v3, v4, v5, v6, v7, v8] ∧ KeepB D H1 H' ∧ H' D = some (.dK kvs) ∧ kvs.length ≤ m * 24 ∧
        (∀ k : Nat, k < ps.length → (pat ps k).2 = (i : Int) → (pat ps k).1 < (m : Int) → valV kvs (Sum.inl (k : Int)) = some (.int (prt j ps k))) ∧ (∀ k : Nat, ¬ (k < ps.length ∧ (pat ps k).2 = (i : Int) ∧ (pat ps k).1 < (m : Int)) → valV kvs (Sum.inl (k : Int)) = none))
      ⟨_, _, _, _, _, _, [], rfl, fun _ _ _ z => z, eD, Nat.zero_le _, fun k hk hi h0 => by have := (GG.va.rg _ (pat_mem hk)).1; omega, fun k _ => rfl⟩ (fun _ _ _ _ _ => True.intro) ?_ ?_
    · rintro m x σ H2 H3 hm ⟨v3, v4, v5, v6, v7, v8, kvs, rfl, k2, eD2, lk, q1, q2⟩ ⟨rfl, hx⟩
      have hx : x = .int (m : Int) := by
        rw [hx]
        show V.int (0 + (m : Int)) = _
        rw [Int.zero_add]
      subst hx
      have hm : m < n := by omega
      refine ⟨_, rfl, g, dg, _, rfl, k2 _ _ ngD h1, look_no _ _ (by decide +kernel) (by decide +kernel), _, rfl, g, (n : Int), us, (m : Int), rfl, ⟨⟨dg, t, k2 _ _ ngD h1, k2 _ _ ntD h2⟩, fun e he => k2 _ _ (nt' he) (ed e he)⟩, by omega, by omega, by omega, fun Lv H4 s4 nL eL => ?_⟩
      rw [eu, lu, sel_lv ps m _ (Nat.le_refl _)] at eL
      have ll := lvT_len ps (m : Int) ps.length
      refine ⟨fun σ H' => ∃ (v5 v7 : Option V) (A1 : Addr), σ = [some (.ref o), some (.ref g), some (.ref D), some (.int (m : Int)), some (.ref Lv), v5, some (.ref A1), v7, v8] ∧ Same H4 H' ∧ H' A1 = some (.lst ((nI (posn ps ps.length ((m : Int), (i : Int)))).map V.int)), ?_, ?_⟩
      · refine ⟨_, rfl, Lv, _, SqL, rfl, .inl rfl, SqL.of (eL), fun J wk D2 hD2 => ?_⟩
        refine lc_it wk (fun r H' => Same H4 H' ∧ H' D2 = some (.lst ((((lvL ps m).take r).filter fun z => decide ((pat ps z.toNat).2 = (i : Int))).map V.int))) ⟨same_upd hD2, upd_same⟩ (fun r H' _ pp => SqL.of (pp.1 _ _ (eL))) ?_ ?_
        · rintro r x Ha Hb hm2 ⟨sa, eD2⟩ ⟨rfl, gx⟩
          rw [List.length_map] at hm2
          rw [List.getElem?_map] at gx
          obtain ⟨z, hz, rfl⟩ := Option.map_eq_some_iff.mp gx
          obtain ⟨c, rfl, hc, _⟩ := lvT_mem.mp (List.mem_of_getElem? hz)
          obtain ⟨y, hy⟩ : ∃ y, us[c]? = some y := ⟨_, List.getElem?_eq_getElem (by omega)⟩
          have ep : pat ps c = y.2 := by rw [← eu]; exact psOf_pat hy
          have sb : Same H4 Hb := fun b o e => sa _ _ e
          have keep : ∀ b o, b ≠ D → H1 b = some o → Hb b = some o := fun b o nb e => sb _ _ (s4 _ _ (k2 _ _ nb e))
          refine ⟨rfl, ?_⟩
          refine ⟨_, rfl, g, dg, _, rfl, keep _ _ ngD h1, look_no _ _ (by decide +kernel) (by decide +kernel), _, rfl, g, (n : Int), us, c, y, rfl, ⟨⟨dg, t, keep _ _ ngD h1, keep _ _ ntD h2⟩, fun e he => keep _ _ (nt' he) (ed e he)⟩, hy, y.1, _, _, .int y.2.2, rfl, rfl, SqT.of (keep _ _ (nt' (List.mem_of_getElem? hy)) (ed y (List.mem_of_getElem? hy))), rfl, _, rfl, o, CM, dx, _, _, rfl, keep _ _ noD ho, M.cl, M.nL, mlo _ _, rfl, _, rfl, ?_⟩
          rw [take_snoc hz, List.filter_append]
          refine ite2 (fun hcc => ?_) (fun hcc => ?_)
          · have hcc : y.2.2 = (i : Int) := by
              have := of_decide_eq_true hcc
              injection this
            refine ⟨_, rfl, _, eD2, ?_, ?_, ?_⟩
            · rw [List.length_map]
              have h3 := List.length_filter_le (fun z => decide ((pat ps z.toNat).2 = (i : Int))) ((lvL ps m).take r)
              rw [List.length_take] at h3
              exact small1000 (by omega)
            · intro b u ec
              rw [upd_ne (ne_of_none ec hD2)]
              exact sa _ _ ec
            · rw [upd_same, List.filter_cons_of_pos (by exact decide_eq_true (by rw [Int.toNat_natCast, ep]; exact hcc)), List.map_append]
              rfl
          · have hcc : ¬ y.2.2 = (i : Int) := fun z => hcc (decide_eq_true (congrArg V.int z))
            refine ⟨sa, ?_⟩
            rw [eD2, List.filter_cons_of_neg (by rw [decide_eq_true_eq, Int.toNat_natCast, ep]; exact hcc), List.filter_nil, List.append_nil]
        · rintro Ha ⟨sa, eD2⟩
          rw [List.length_map, List.take_length, ends_at] at eD2
          exact ⟨_, _, D2, rfl, sa, eD2⟩
      rintro σ H5 ⟨v5, v7, A1, rfl, s5, eA1⟩
      refine ⟨fun σ H' => ∃ (v5 : Option V) (A2 : Addr), σ = [some (.ref o), some (.ref g), some (.ref D), some (.int (m : Int)), some (.ref Lv), v5, some (.ref A1), some (.ref A2), v8] ∧ Same H5 H' ∧ H' A2 = some (.lst ((nI (posn ps ps.length ((m : Int), (j : Int)))).map V.int)), ?_, ?_⟩
      · refine ⟨_, rfl, Lv, _, SqL, rfl, .inl rfl, SqL.of (s5 _ _ eL), fun J wk D2 hD2 => ?_⟩
        refine lc_it wk (fun r H' => Same H5 H' ∧ H' D2 = some (.lst ((((lvL ps m).take r).filter fun z => decide ((pat ps z.toNat).2 = (j : Int))).map V.int))) ⟨same_upd hD2, upd_same⟩ (fun r H' _ pp => SqL.of (pp.1 _ _ (s5 _ _ eL))) ?_ ?_
        · rintro r x Ha Hb hm2 ⟨sa, eD2⟩ ⟨rfl, gx⟩
          rw [List.length_map] at hm2
          rw [List.getElem?_map] at gx
          obtain ⟨z, hz, rfl⟩ := Option.map_eq_some_iff.mp gx
          obtain ⟨c, rfl, hc, _⟩ := lvT_mem.mp (List.mem_of_getElem? hz)
          obtain ⟨y, hy⟩ : ∃ y, us[c]? = some y := ⟨_, List.getElem?_eq_getElem (by omega)⟩
          have ep : pat ps c = y.2 := by rw [← eu]; exact psOf_pat hy
          have sb : Same H4 Hb := fun b o e => sa _ _ (s5 _ _ e)
          have keep : ∀ b o, b ≠ D → H1 b = some o → Hb b = some o := fun b o nb e => sb _ _ (s4 _ _ (k2 _ _ nb e))
          refine ⟨rfl, ?_⟩
          refine ⟨_, rfl, g, dg, _, rfl, keep _ _ ngD h1, look_no _ _ (by decide +kernel) (by decide +kernel), _, rfl, g, (n : Int), us, c, y, rfl, ⟨⟨dg, t, keep _ _ ngD h1, keep _ _ ntD h2⟩, fun e he => keep _ _ (nt' he) (ed e he)⟩, hy, y.1, _, _, .int y.2.2, rfl, rfl, SqT.of (keep _ _ (nt' (List.mem_of_getElem? hy)) (ed y (List.mem_of_getElem? hy))), rfl, _, rfl, o, CM, dx, _, _, rfl, keep _ _ noD ho, M.cl, M.nH, mhi _ _, rfl, _, rfl, ?_⟩
          rw [take_snoc hz, List.filter_append]
          refine ite2 (fun hcc => ?_) (fun hcc => ?_)
          · have hcc : y.2.2 = (j : Int) := by
              have := of_decide_eq_true hcc
              injection this
            refine ⟨_, rfl, _, eD2, ?_, ?_, ?_⟩
            · rw [List.length_map]
              have h3 := List.length_filter_le (fun z => decide ((pat ps z.toNat).2 = (j : Int))) ((lvL ps m).take r)
              rw [List.length_take] at h3
              exact small1000 (by omega)
            · intro b u ec
              rw [upd_ne (ne_of_none ec hD2)]
              exact sa _ _ ec
            · rw [upd_same, List.filter_cons_of_pos (by exact decide_eq_true (by rw [Int.toNat_natCast, ep]; exact hcc)), List.map_append]
              rfl
          · have hcc : ¬ y.2.2 = (j : Int) := fun z => hcc (decide_eq_true (congrArg V.int z))
            refine ⟨sa, ?_⟩
            rw [eD2, List.filter_cons_of_neg (by rw [decide_eq_true_eq, Int.toNat_natCast, ep]; exact hcc), List.filter_nil, List.append_nil]
        · rintro Ha ⟨sa, eD2⟩
          rw [List.length_map, List.take_length, ends_at] at eD2
          exact ⟨_, D2, rfl, sa, eD2⟩
      rintro σ H6 ⟨v5, A2, rfl, s6, eA2⟩
      have eA1 := s6 _ _ eA1
      have k6 : KeepB D H1 H6 := fun b u nb e => s6 _ _ (s5 _ _ (s4 _ _ (k2 _ _ nb e)))
      have eD6 := s6 _ _ (s5 _ _ (s4 _ _ eD2))
      have l12 := pos_col ec hm
      have lp : (posn ps ps.length ((m : Int), (i : Int))).length ≤ ps.length := by
        rw [posn_len _ _ (Nat.le_refl _), List.take_length]
        exact List.count_le_length
      have nA1 : A1 ≠ D := fun z => by rw [z, eD6] at eA1; cases eA1
      have nA2 : A2 ≠ D := fun z => by rw [z, eD6] at eA2; cases eA2
      have ln : ∀ L : List Nat, ((nI L).map V.int).length = L.length := fun L => by
        unfold nI
        rw [List.length_map, List.length_map]
      refine ⟨_, rfl, _, rfl, A1, A2, _, _, rfl, .inl ⟨SqL.of eA1, SqL.of eA2, ?_⟩⟩
      refine for_it (walk_zip (K := K) (a := A1) (b := A2) (xs := (nI (posn ps ps.length ((m : Int), (i : Int)))).map V.int) (ys := (nI (posn ps ps.length ((m : Int), (j : Int)))).map V.int) (n := (posn ps ps.length ((m : Int), (i : Int))).length) (by rw [ln, ln, l12, Nat.min_self])) (fun r σ H' => ∃ (v5 v8 : Option V) (kvs : List (Key × V)), σ = [some (.ref o), some (.ref g), some (.ref D), some (.int (m : Int)), some (.ref Lv), v5, some (.ref A1), some (.ref A2), v8] ∧ KeepB D H6 H' ∧ H' D = some (.dK kvs) ∧ kvs.length ≤ m * 24 + r ∧
          (∀ k : Nat, ((k < ps.length ∧ (pat ps k).2 = (i : Int) ∧ (pat ps k).1 < (m : Int)) ∨ k ∈ (posn ps ps.length ((m : Int), (i : Int))).take r) → valV kvs (Sum.inl (k : Int)) = some (.int (prt j ps k))) ∧ (∀ k : Nat, ¬ ((k < ps.length ∧ (pat ps k).2 = (i : Int) ∧ (pat ps k).1 < (m : Int)) ∨ k ∈ (posn ps ps.length ((m : Int), (i : Int))).take r) → valV kvs (Sum.inl (k : Int)) = none))
        ⟨_, _, kvs, rfl, fun _ _ _ z => z, eD6, lk, fun k h => h.elim (fun h => q1 k h.1 h.2.1 h.2.2) (fun h => by simp at h), fun k h => q2 k fun z => h (.inl z)⟩ (fun r σ H' _ pp => by obtain ⟨_, _, _, _, kb, _⟩ := pp; exact ⟨SqL.of (kb _ _ nA1 eA1), SqL.of (kb _ _ nA2 eA2)⟩) ?_ ?_
      · rintro r x σ H7 H8 hrr ⟨v5, v8, kvs, rfl, k7, eD7, lk7, p1, p2⟩ ⟨Tp, u, v, rfl, hT, rfl, gx, gy⟩
        obtain ⟨e, he⟩ : ∃ e, (posn ps ps.length ((m : Int), (i : Int)))[r]? = some e := ⟨_, List.getElem?_eq_getElem hrr⟩
        obtain ⟨p, hp⟩ : ∃ p, (posn ps ps.length ((m : Int), (j : Int)))[r]? = some p := ⟨_, List.getElem?_eq_getElem (by omega)⟩
        have eu' : u = .int (e : Int) := by
          have gx : ((nI (posn ps ps.length ((m : Int), (i : Int)))).map V.int)[r]? = some u := gx
          unfold nI at gx
          rw [List.getElem?_map, List.getElem?_map, he] at gx
          exact (Option.some.inj gx).symm
        have ev' : v = .int (p : Int) := by
          have gy : ((nI (posn ps ps.length ((m : Int), (j : Int)))).map V.int)[r]? = some v := gy
          unfold nI at gy
          rw [List.getElem?_map, List.getElem?_map, hp] at gy
          exact (Option.some.inj gy).symm
        subst eu' ev'
        have nT : Tp ≠ D := (ne_of_none eD7 hT).symm
        have s8 := same_upd (o := .tup [.int (e : Int), .int (p : Int)]) hT
        have eT : upd H7 Tp (.tup [.int (e : Int), .int (p : Int)]) Tp = some (.tup [.int (e : Int), .int (p : Int)]) := upd_same
        have eD8 := s8 _ _ eD7
        have k8 : KeepB D H6 (upd H7 Tp (.tup [.int (e : Int), .int (p : Int)])) := fun b u nb eb => s8 _ _ (k7 b u nb eb)
        generalize upd H7 Tp (.tup [.int (e : Int), .int (p : Int)]) = H9 at *
        have pe := prt_at he hp
        have m24 : m * 24 ≤ 8 * 24 := Nat.mul_le_mul_right _ (by omega)
        refine ⟨Tp, _, rfl, SqT.of eT, rfl, _, _, rfl, _, _, rfl, rfl, ?_⟩
        refine ⟨_, rfl, _, rfl, _, rfl, D, _, rfl, DPut.k (k := Sum.inl (e : Int)) eD8 (small1000 (by omega)), ?_⟩
        refine ⟨_, _, _, rfl, fun b u nb eb => ?_, upd_same, ?_, fun k h => ?_, fun k h => ?_⟩
        · rw [upd_ne nb]
          exact k8 b u nb eb
        · have := length_putK kvs (Sum.inl (e : Int)) (.int (p : Int))
          omega
        · rw [valV_put]
          by_cases c : k = e
          · rw [if_pos (by rw [c]), c, pe]
          · rw [if_neg fun z => c (by have := Sum.inl.inj z; omega)]
            refine p1 k (h.imp id fun h => ?_)
            rw [take_snoc he] at h
            rcases List.mem_append.mp h with h | h
            · exact h
            · exact absurd (List.mem_singleton.mp h) c
        · rw [valV_put]
          have c : k ≠ e := fun z => h (.inr (by rw [take_snoc he, z]; exact List.mem_append_right _ (List.mem_singleton.mpr rfl)))
          rw [if_neg fun z => c (by have := Sum.inl.inj z; omega)]
          refine p2 k fun z => h (z.imp id fun z => ?_)
          rw [take_snoc he]
          exact List.mem_append_left _ z
      · rintro σ H7 ⟨v5, v8, kvs, rfl, k7, eD7, lk7, p1, p2⟩
        rw [List.take_length] at p1 p2
        have src : ∀ k, (k < ps.length ∧ (pat ps k).2 = (i : Int) ∧ (pat ps k).1 < ((m + 1 : Nat) : Int)) → (k < ps.length ∧ (pat ps k).2 = (i : Int) ∧ (pat ps k).1 < (m : Int)) ∨ k ∈ posn ps ps.length ((m : Int), (i : Int)) := fun k h => by
          by_cases c : (pat ps k).1 < (m : Int)
          · exact .inl ⟨h.1, h.2.1, c⟩
          · refine .inr (posn_mem.mpr ⟨h.1, ?_⟩)
            rw [pat_at h.1]
            congr 1
            exact Prod.ext (by show (pat ps k).1 = (m : Int); omega) h.2.1
        refine ⟨_, _, _, _, _, _, kvs, rfl, fun b u nb e => k7 b u nb (k6 b u nb e), eD7, by omega, fun k hk hi h3 => p1 k (src k ⟨hk, hi, h3⟩), fun k h => p2 k fun z => h ?_⟩
        rcases z with z | z
        · exact ⟨z.1, z.2.1, by omega⟩
        · obtain ⟨a, b⟩ := posn_mem.mp z
          have := pat_some b
          exact ⟨a, by rw [this], by rw [this]; show (m : Int) < _; omega⟩
    · rintro σ H2 ⟨v3, v4, v5, v6, v7, v8, kvs, rfl, k2, eD2, lk, q1, q2⟩
      rw [Int.toNat_natCast] at q1 q2
      have lt : ∀ k, k < ps.length → (pat ps k).1 < (n : Int) := fun k hk => (GG.va.rg _ (pat_mem hk)).2.1
      refine ⟨_, rfl, q D kvs H2 (fun b u e => k2 b u (ne_of_none e hD) (s1 _ _ e)) eD2 ⟨fun k hk hi => q1 k hk hi (lt k hk), fun k h => q2 k fun z => h ⟨z.1, z.2.1⟩⟩⟩
end
end Lw
set_option Elab.async false
set_option linter.all false
set_option maxRecDepth 100000
/-! a merge undone -/
namespace Lw
open PySem L2
abbrev sMU : Stmt := inClass (top 49) 9
abbrev NMU : List Str := ["self", "graph", "kept", "partners", "place", "number", "part", "split", "state", "states", "edges"]
theorem nI_inj {a b : List Nat} (h : nI a = nI b) : a = b := by
  have e := congrArg (fun L : List Int => L.map Int.toNat) h
  have id_ : ∀ L : List Nat, (nI L).map Int.toNat = L := fun L => by
    unfold nI
    rw [List.map_map]
    conv => rhs; rw [← List.map_id L]
    exact List.map_congr_left fun k _ => Int.toNat_natCast k
  simp only [id_] at e
  exact e
theorem nI_len (L : List Nat) : (nI L).length = L.length := by
  unfold nI
  rw [List.length_map]
theorem nI_app (a b : List Nat) : nI (a ++ b) = nI a ++ nI b := by
  unfold nI
  rw [List.map_append]
abbrev tHigh (K : PySem.W.Frag) (C : Addr) : TT := tTest (tOp rEq (tOp (rIxT K) (tMeth C "edge" (spEdge0 C) [] E0 (tVar 1) (tCons (tVar 5) tNil)) (tC (.int 0))) (tFld K (tVar 0) "high"))
section
variable {P : Program} {w : World} {K : PySem.W.Frag} {mg : Str → Option Value} {base : Heap} {f C CS CM CR : Addr} {mc : Value} {fd : FuncData} {k : Nat}
theorem scMU : FnScope NMU ["self", "graph"] (defScope sMU) := ⟨rfl, rfl, rfl, by decide +kernel, rfl, by decide +kernel, by decide +kernel⟩
set_option maxHeartbeats 16000000 in
theorem ok_mu {fL : Addr} {fdL : FuncData} (F : Fun K "undone" "Merge.undone" sMU f fd) (T : Bi mg) (tE : mg "enumerate" = none) (M : MTxt K mg CM) (mCk : C8.Met P w K mg base 3 CM "check" (spMCk C CM) []) (mKp : C8.Met P w K mg base 2 CM "kept_edges" (spMKp C CM) []) (mPt : C8.Met P w K mg base 3 CM "partners" (spPt C CM) [])
    (mEd : C8.Met P w K mg base 1 C "edge" (spEdge0 C) []) (pS : Prp P w K mg base 1 C "states" (spStates C)) (mS : C8.Mak P w K mg base 1 "Split" CS (spSI CS) []) (mR : C8.Mak P w K mg base 1 "Renaming" CR (spRI CR) [])
    (hL1 : PySem.W.findIn K (.ref C) "__len__" = some (some (.ref fL))) (hL2 : PySem.W.isFn K (.ref fL) = true) (FL : FnOk P w K mg base CX0 1 fL fdL ["self"] (spLen C)) (bL : Binds K fdL ["self"] []) : FnOk P w K mg base CX0 (k + 4) f fd ["self", "graph"] (spUn C CS CM CR isM) := by
  refine F.ok scMU (fun vs H Q E h => ?_) (fun cdv A outer s H vs Q E hr h => ?_)
  · obtain ⟨o, g, n, ps, x, rfl, _⟩ := h
    rfl
  · obtain ⟨o, g, n, ps, x, rfl, ix, ox, GG, ok, q⟩ := h
    cases x with
    | S st e => cases ix
    | R st e => cases ix
    | M i j =>
      have MO : MgO CM H o i j := ox
      obtain ⟨ij, jn, ec⟩ := id ok
      have n8 := GG.n8
      have l24 := GG.l24
      refine ⟨_, pss_cons (ps_expr (C8.pe_mt mCk hr (by omega) (pv 0) (pa_cons (pv 1) pa_nil)))
        (pss_cons (ps_set (i := 2) scMU.nd rfl (.inl rfl) (C8.pe_mt mKp hr (by omega) (pv 0) (pa_cons (pv 1) pa_nil)))
        (pss_cons (ps_set (i := 3) scMU.nd rfl (.inr rfl) (C8.pe_mt mPt hr (by omega) (pv 0) (pa_cons (pv 1) pa_nil)))
        (C8.pss_cut (ps_setLc (i := 6) (own := [("place", 4), ("number", 5)]) (g := gTup K 2 (gCons (gName 4) (gCons (gName 5) gNil))) (tt := tHigh K C) (te := tVar 4) rfl scMU.nd rfl rfl (sw_true rfl rfl rfl (by decide +kernel)) (pi_enumA (by rfl) tE (pa_cons (pv 2) pa_nil)) (blkOk_by (N := NMU) (sc := defScope sMU) (by decide +kernel))
            (fun _ _ _ _ _ => by exact pg_tup rfl (pgs_cons (pg_name (i := 4) scMU.nd rfl (Or.inl rfl)) (pgs_cons (pg_name (i := 5) scMU.nd rfl (Or.inl rfl)) pgs_nil))) (fun _ _ _ _ _ => by exact pts_one (pt_cmpR op_eq (pe_ix ix_tup (C8.pe_mt mEd hr (by omega) (pv 1) (pa_cons (pv 5) pa_nil)) pe_int (fun _ _ => rfl)) (pe_fld (pv 0) rfl) (nomark _)))
            (fun _ _ _ _ _ => by exact pv 4))
        (pss_cons (ps_set (i := 7) scMU.nd rfl (.inl rfl) (C8.pe_mk mS hr (by omega) (by rfl) (pa_cons (pe_fld (pv 0) rfl) (pa_cons (pe_callTy call_tuple_of (by rfl) T.tuple (by decide +kernel) (pa_cons (pv 6) pa_nil)) pa_nil))))
        (C8.pss_cut (ps_set (i := 9) scMU.nd rfl (.inl rfl) (pe_op op_cat (pe_lc (own := [("state", 8)]) (g := gName 8) (tt := tTest (tOp rNe (tVar 8) (tFld K (tVar 0) "high"))) (te := tVar 8) rfl scMU.nd (pi_range1 (by rfl) T.range (pa_cons (pe_pr pS hr (by omega) (pv 1)) pa_nil)) (blkOk_by (N := NMU) (sc := defScope sMU) (by decide +kernel))
            (fun _ _ _ _ _ => by exact pg_name (i := 8) scMU.nd rfl (Or.inl rfl)) (fun _ _ _ _ _ => by exact pts_one (pt_cmpR op_ne (pv 8) (pe_fld (pv 0) rfl) (nomark _))) (fun _ _ _ _ _ => by exact pv 8)) (pe_lst (pa_cons (pe_fld (pv 0) rfl) pa_nil))))
        (C8.pss_cut (ps_set (i := 10) scMU.nd rfl (.inl rfl) (pe_op op_cat (pv 2) (pe_lc (own := [("number", 5)]) (g := gName 5) (tt := tB (tDIn (tVar 5) (tVar 3))) (te := tDGet (tVar 3) (tVar 5)) rfl scMU.nd (pi_seqA (pv 2)) (blkOk_by (N := NMU) (sc := defScope sMU) (by decide +kernel))
            (fun _ _ _ _ _ => by exact pg_name (i := 5) scMU.nd rfl (Or.inl rfl)) (fun _ _ _ _ _ => by exact pts_one (pt_cmp (pc_din (Nat.lt_of_le_of_lt (Nat.add_le_add_left (by decide) _) hr.units) (pv 5) (pv 3)))) (fun _ _ _ _ _ => by exact pe_dget (Nat.lt_of_le_of_lt (Nat.add_le_add_left (by decide) _) hr.units) (pv 3) (pv 5) (fun _ _ => rfl)))))
        (pss_cons (ps_if (PW.pt (pw_and (pt_cmpR (op_eqD hr.units) (pv 9) (pe_listRg rfl (by rfl) T.list (prg_1 (by rfl) T.range (pe_pr pS hr (by omega) (pv 1)))) (nomark _)) (pw_and1 (pt_cmpR (op_eqD hr.units) (pv 10) (pe_listRg rfl (by rfl) T.list (prg_1 (by rfl) T.range (pe_callB (call_lenO (E := E0) FL hL1 hL2 bL pass0 (hr.mono (by omega))) (by rfl) T.len PySem.boot_len (pa_cons (pv 1) pa_nil)))) (nomark _)))))
            (pss_one (ps_ret (pe_lst (pa_cons (pv 7) pa_nil)))) pss_nil)
        (pss_one (ps_ret (pe_lst (pa_cons (pv 7) (pa_cons (C8.pe_mk mR hr (by omega) (by rfl) (pa_cons (pe_callTy call_tuple_of (by rfl) T.tuple (by decide +kernel) (pa_cons (pv 9) pa_nil)) (pa_cons (pe_callTy call_tuple_of (by rfl) T.tuple (by decide +kernel) (pa_cons (pv 10) pa_nil)) pa_nil))) pa_nil)))))))))))), ?_⟩
      obtain ⟨dx, ho⟩ := id MO
      refine ⟨_, rfl, o, dx, _, rfl, ho, mno _ _ (by decide +kernel) (by decide +kernel), _, rfl, o, g, n, i, j, ps, rfl, MO, GG, ij, jn, ec, fun H1 s1 => ?_⟩
      refine ⟨_, rfl, o, dx, _, rfl, s1 _ _ ho, mno _ _ (by decide +kernel) (by decide +kernel), _, rfl, o, g, n, i, j, ps, rfl, MO.same s1, GG.same s1, fun Kp H2 s2 eK => ?_⟩
      rw [kpA_nI] at eK
      have s12 := s1.trans s2
      refine ⟨_, rfl, o, dx, _, rfl, s12 _ _ ho, mno _ _ (by decide +kernel) (by decide +kernel), _, rfl, o, g, n, i, j, ps, rfl, MO.same s12, GG.same s12, ij, jn, ec, fun D kvs H3 s3 eD pt => ?_⟩
      have s13 := s12.trans s3
      have eK := s3 _ _ eK
      have ho := s13 _ _ ho
      have GG3 := GG.same s13
      obtain ⟨us, GA, eu⟩ := GG3.at_
      obtain ⟨⟨dg, t, h1, h2⟩, ed⟩ := id GA
      have lu : us.length = ps.length := by rw [← eu, psL_len]
      have lK : (kpA j ps).length ≤ ps.length := by
        unfold kpA
        exact Nat.le_trans (List.length_filter_le _ _) (by simp)
      have s3' : Same H H3 := s13
      clear s1 s2 s3 s12 s13
      -- the part
      refine ⟨fun σ H' => ∃ Pt : Addr, σ = [some (.ref o), some (.ref g), some (.ref Kp), some (.ref D), none, none, some (.ref Pt), none, none, none, none] ∧ Same H3 H' ∧ H' Pt = some (.lst ((nI (undPart j ps)).map V.int)), ?_, ?_⟩
      · refine ⟨_, rfl, Kp, _, SqL, rfl, .inl rfl, SqL.of eK, fun J wk D2 hD2 => ?_⟩
        refine lc_it wk (fun m H' => Same H3 H' ∧ H' D2 = some (.lst ((nI ((List.range m).filter fun p => decide ((pat ps ((kpA j ps).getD p 0)).1 = (j : Int)))).map V.int))) ⟨same_upd hD2, upd_same⟩ (fun m H' _ pp => SqL.of (pp.1 _ _ eK)) ?_ ?_
        · rintro m x Ha Hb hm ⟨sa, eD2⟩ ⟨Tp, u, v, rfl, nT, rfl, gu, gv⟩
          rw [List.length_map, nI_len] at hm
          have eu1 : u = .int ((m : Nat) : Int) := (Option.some.inj gu).symm
          subst eu1
          have gv : ((nI (kpA j ps)).map V.int)[m]? = some v := gv
          have hK := getD_get hm
          have kK := kp_at hm
          generalize (kpA j ps).getD m 0 = c at *
          have ev : v = .int (c : Int) := by
            unfold nI at gv
            rw [List.getElem?_map, List.getElem?_map, hK] at gv
            exact (Option.some.inj gv).symm
          subst ev
          obtain ⟨y, hy⟩ : ∃ y, us[c]? = some y := ⟨_, List.getElem?_eq_getElem (by omega)⟩
          have ep : pat ps c = y.2 := by rw [← eu]; exact psOf_pat hy
          have st := same_upd (o := .tup [.int (m : Int), .int (c : Int)]) nT
          have eT : upd Ha Tp (.tup [.int (m : Int), .int (c : Int)]) Tp = some (.tup [.int (m : Int), .int (c : Int)]) := upd_same
          have eD2 := st _ _ eD2
          have sb := sa.trans st
          generalize upd Ha Tp (.tup [.int (m : Int), .int (c : Int)]) = Hc at *
          refine ⟨Tp, _, rfl, SqT.of eT, rfl, _, _, rfl, _, _, rfl, rfl, rfl, ?_⟩
          refine ⟨_, rfl, g, dg, _, rfl, sb _ _ h1, look_no _ _ (by decide +kernel) (by decide +kernel), _, rfl, g, (n : Int), us, c, y, rfl, GA.same sb, hy, y.1, _, _, .int y.2.1, rfl, rfl, SqT.of (sb _ _ (ed y (List.mem_of_getElem? hy))), rfl, _, rfl, o, CM, dx, _, _, rfl, sb _ _ ho, M.cl, M.nH, mhi _ _, rfl, _, rfl, ?_⟩
          have gm : (kpA j ps).getD m 0 = c := by
            unfold List.getD
            rw [hK]
            rfl
          rw [List.range_succ, List.filter_append, nI_app]
          refine ite2 (fun hcc => ?_) (fun hcc => ?_)
          · have hcc : y.2.1 = (j : Int) := by
              have := of_decide_eq_true hcc
              injection this
            refine ⟨_, rfl, _, eD2, ?_, ?_, ?_⟩
            · rw [List.length_map, nI_len]
              have h3 := List.length_filter_le (fun p => decide ((pat ps ((kpA j ps).getD p 0)).1 = (j : Int))) (List.range m)
              rw [List.length_range] at h3
              exact small1000 (by omega)
            · intro b u ecc
              rw [upd_ne (ne_of_none ecc hD2)]
              exact sb _ _ ecc
            · rw [upd_same, List.filter_cons_of_pos (by exact decide_eq_true (by rw [gm, ep]; exact hcc)), List.map_append]
              rfl
          · have hcc : ¬ y.2.1 = (j : Int) := fun z => hcc (decide_eq_true (congrArg V.int z))
            refine ⟨sb, ?_⟩
            rw [eD2, List.filter_cons_of_neg (by rw [decide_eq_true_eq, gm, ep]; exact hcc), List.filter_nil]
            show _ = some (HO.lst ((_ ++ []).map V.int))
            rw [List.append_nil]
        · rintro Ha ⟨sa, eD2⟩
          rw [List.length_map, nI_len] at eD2
          exact ⟨D2, rfl, sa, eD2⟩
      rintro σ H4 ⟨Pt, rfl, s4, eP⟩
      -- the split
      refine ⟨_, rfl, o, CM, dx, _, _, rfl, s4 _ _ ho, M.cl, M.nL, mlo _ _, _, rfl, Pt, _, rfl, .inl ⟨SqL.of eP, fun Tp hTp => ?_⟩⟩
      have s5 := same_upd (o := .tup ((nI (undPart j ps)).map V.int)) hTp
      have eTp : upd H4 Tp (.tup ((nI (undPart j ps)).map V.int)) Tp = some (.tup (nV (undPart j ps))) := by rw [nV_nI]; exact upd_same
      generalize upd H4 Tp (.tup ((nI (undPart j ps)).map V.int)) = H5 at *
      intro sp dsp nsp ndsp nesp
      have s6 := make_same (C := CS) nsp ndsp nesp
      refine ⟨sp, dsp, Tp, i, undPart j ps, rfl, upd_same, s6 _ _ eTp, fun H6 kp SO => ⟨rfl, ?_⟩⟩
      have s36 : Same H3 H6 := fun c u ecc => kp c u (ne_of_none (s5 _ _ (s4 _ _ ecc)) nsp) (s6 _ _ (s5 _ _ (s4 _ _ ecc)))
      clear s4 s5 s6 kp
      have ho6 := s36 _ _ ho
      have eK6 := s36 _ _ eK
      have eD6 := s36 _ _ eD
      have GA6 := GA.same s36
      have h16 := s36 _ _ h1
      -- the states
      refine ⟨fun σ H' => ∃ Ss : Addr, σ = [some (.ref o), some (.ref g), some (.ref Kp), some (.ref D), none, none, some (.ref Pt), some (.ref sp), none, some (.ref Ss), none] ∧ Same H6 H' ∧ H' Ss = some (.lst ((nI (undS n j)).map V.int)), ?_, ?_⟩
      · refine ⟨_, rfl, g, dg, _, rfl, h16, g, (n : Int), us, rfl, GA6, (n : Int), rfl, by omega, by omega, fun D2 hD2 => ?_⟩
        refine lc_it (walk_range (lo := 0) (n := ((n : Int)).toNat)) (fun m H' => Same H6 H' ∧ H' D2 = some (.lst ((nI ((List.range m).filter fun s => decide (s ≠ j))).map V.int))) ⟨same_upd hD2, upd_same⟩ (fun _ _ _ _ => True.intro) ?_ ?_
        · rintro m x Ha Hb hm ⟨sa, eD2⟩ ⟨rfl, hx⟩
          have hx : x = .int (m : Int) := by
            rw [hx]
            show V.int (0 + (m : Int)) = _
            rw [Int.zero_add]
          subst hx
          refine ⟨rfl, ?_⟩
          refine ⟨_, rfl, _, rfl, o, CM, dx, _, _, rfl, sa _ _ ho6, M.cl, M.nH, mhi _ _, rfl, _, rfl, ?_⟩
          rw [List.range_succ, List.filter_append, nI_app]
          refine ite2 (fun hcc => ?_) (fun hcc => ?_)
          · have hcc : m ≠ j := fun z => by
              rw [z, decide_eq_true rfl] at hcc
              cases hcc
            refine ⟨_, rfl, _, eD2, ?_, ?_, ?_⟩
            · rw [List.length_map, nI_len]
              have h3 := List.length_filter_le (fun s => decide (s ≠ j)) (List.range m)
              rw [List.length_range] at h3
              exact small1000 (by omega)
            · intro b u ecc
              rw [upd_ne (ne_of_none ecc hD2)]
              exact sa _ _ ecc
            · rw [upd_same, List.filter_cons_of_pos (by exact decide_eq_true hcc), List.map_append]
              rfl
          · have hcc : m = j := Decidable.not_not.mp fun z => hcc (by rw [decide_eq_false (fun e => z (by have := V.int.inj e; omega))]; rfl)
            refine ⟨sa, ?_⟩
            rw [eD2, List.filter_cons_of_neg (by rw [decide_eq_true_eq]; exact fun z => z hcc), List.filter_nil]
            show _ = some (HO.lst ((_ ++ []).map V.int))
            rw [List.append_nil]
        · rintro Ha ⟨sa, eD2⟩
          rw [Int.toNat_natCast] at eD2
          refine ⟨_, rfl, o, CM, dx, _, _, rfl, sa _ _ ho6, M.cl, M.nH, mhi _ _, (by show 1 ≤ sizeLine; decide), fun L1 hL1 => ?_⟩
          have sb := same_upd (o := .lst [.int (j : Int)]) hL1
          have eL1 : upd Ha L1 (.lst [.int (j : Int)]) L1 = some (.lst [.int (j : Int)]) := upd_same
          generalize upd Ha L1 (.lst [.int (j : Int)]) = Hb at *
          refine ⟨D2, L1, _, _, rfl, rfl, sb _ _ eD2, eL1, ?_, fun R hR => ?_⟩
          · rw [List.length_map, nI_len]
            have h3 := List.length_filter_le (fun s => decide (s ≠ j)) (List.range n)
            rw [List.length_range] at h3
            exact Nat.le_of_lt (small1000 (show _ + 1 ≤ 1000 by omega))
          refine ⟨R, rfl, (sa.trans sb).trans (same_upd hR), ?_⟩
          rw [upd_same]
          unfold undS
          rw [nI_app, List.map_append]
          rfl
      rintro σ H7 ⟨Ss, rfl, s7, eS⟩
      -- the edges
      refine ⟨fun σ H' => ∃ Es : Addr, σ = [some (.ref o), some (.ref g), some (.ref Kp), some (.ref D), none, none, some (.ref Pt), some (.ref sp), none, some (.ref Ss), some (.ref Es)] ∧ Same H7 H' ∧ H' Es = some (.lst ((nI (undE i j ps)).map V.int)), ?_, ?_⟩
      · have eK7 := s7 _ _ eK6
        refine ⟨_, rfl, _, rfl, Kp, _, SqL, rfl, .inl rfl, SqL.of eK7, fun J wk D2 hD2 => ?_⟩
        refine lc_it wk (fun m H' => Same H7 H' ∧ H' D2 = some (.lst ((nI ((((kpA j ps).take m).filter fun k => decide ((pat ps k).2 = (i : Int))).map (prt j ps))).map V.int))) ⟨same_upd hD2, upd_same⟩ (fun m H' _ pp => SqL.of (pp.1 _ _ eK7)) ?_ ?_
        · rintro m x Ha Hb hm ⟨sa, eD2⟩ ⟨rfl, gx⟩
          rw [List.length_map, nI_len] at hm
          have hK := getD_get hm
          have kK := kp_at hm
          generalize (kpA j ps).getD m 0 = c at *
          have ev : x = .int (c : Int) := by
            unfold nI at gx
            rw [List.getElem?_map, List.getElem?_map, hK] at gx
            exact (Option.some.inj gx).symm
          subst ev
          have eDb := sa _ _ (s7 _ _ eD6)
          have gt := DGet.k (k := Sum.inl (c : Int)) eDb
          refine ⟨rfl, ?_⟩
          rw [take_snoc hK, List.filter_append, List.map_append, nI_app]
          by_cases cc : (pat ps c).2 = (i : Int)
          · rw [pt.1 c kK.1 cc] at gt
            refine ⟨_, rfl, _, rfl, D, _, rfl, gt, true, rfl, if_t rfl ?_⟩
            refine ⟨_, rfl, _, rfl, D, _, rfl, gt, _, eD2, ?_, ?_, ?_⟩
            · rw [List.length_map, nI_len, List.length_map]
              have h3 := List.length_filter_le (fun k => decide ((pat ps k).2 = (i : Int))) ((kpA j ps).take m)
              rw [List.length_take] at h3
              exact small1000 (by omega)
            · intro b u ecc
              rw [upd_ne (ne_of_none ecc hD2)]
              exact sa _ _ ecc
            · rw [upd_same, List.filter_cons_of_pos (by exact decide_eq_true cc), List.map_append]
              rfl
          · rw [pt.2 c fun z => cc z.2] at gt
            refine ⟨_, rfl, _, rfl, D, _, rfl, gt, false, rfl, if_f rfl ?_⟩
            refine ⟨sa, ?_⟩
            rw [eD2, List.filter_cons_of_neg (by rw [decide_eq_true_eq]; exact cc), List.filter_nil]
            show _ = some (HO.lst ((_ ++ []).map V.int))
            rw [List.append_nil]
        · rintro Ha ⟨sa, eD2⟩
          rw [List.length_map, nI_len, List.take_length] at eD2
          refine ⟨Kp, D2, _, _, rfl, rfl, sa _ _ eK7, eD2, ?_, fun R hR => ?_⟩
          · rw [List.length_map, List.length_map, nI_len, nI_len, List.length_map]
            have h3 := List.length_filter_le (fun k => decide ((pat ps k).2 = (i : Int))) (kpA j ps)
            exact Nat.le_of_lt (small1000 (by omega))
          refine ⟨R, rfl, sa.trans (same_upd hR), ?_⟩
          rw [upd_same]
          unfold undE lowE
          rw [nI_app, List.map_append]
      rintro σ H8 ⟨Es, rfl, s8, eE⟩
      have eS8 := s8 _ _ eS
      have s38 := (s36.trans s7).trans s8
      have SO8 := (SO.same s7).same s8
      have GA8 := GA.same s38
      have h18 := s38 _ _ h1
      have lE : (undE i j ps).length = ps.length := pm_len (undE_perm ij jn ec GG.va.rg')
      -- the end
      have last : ∀ H9 : Hp, Same H8 H9 → ¬ (undS n j = List.range n ∧ undE i j ps = List.range ps.length) → tRet (tLst (tCons (tVar 7) (tCons (tMake CR (spRI CR) [] C8.E0 (tCons (tCB (fun xs H_1 Q => ∃ p ys, xs = [V.ref p] ∧ ((SqL K H_1 p ys ∧ ∀ l, H_1 l = none → Q (.ref l) (upd H_1 l (.tup ys))) ∨ (SqT K H_1 p ys ∧ Q (.ref p) H_1))) (tCons (tVar 9) tNil)) (tCons (tCB (fun xs H_1 Q => ∃ p ys, xs = [V.ref p] ∧ ((SqL K H_1 p ys ∧ ∀ l, H_1 l = none → Q (.ref l) (upd H_1 l (.tup ys))) ∨ (SqT K H_1 p ys ∧ Q (.ref p) H_1))) (tCons (tVar 10) tNil)) tNil))) tNil)))
          { nx := fun x H' => Q V.non H', rt := Q } [some (.ref o), some (.ref g), some (.ref Kp), some (.ref D), none, none, some (.ref Pt), some (.ref sp), none, some (.ref Ss), some (.ref Es)] H9 := fun H9 s9 ne => by
        refine ⟨_, rfl, _, rfl, Ss, _, rfl, .inl ⟨SqL.of (s9 _ _ eS8), fun T1 hT1 => ?_⟩⟩
        have sa := same_upd (o := .tup ((nI (undS n j)).map V.int)) hT1
        have eT1 : upd H9 T1 (.tup ((nI (undS n j)).map V.int)) T1 = some (.tup (nV (undS n j))) := by rw [nV_nI]; exact upd_same
        generalize upd H9 T1 (.tup ((nI (undS n j)).map V.int)) = Ha at *
        refine ⟨_, rfl, Es, _, rfl, .inl ⟨SqL.of (sa _ _ (s9 _ _ eE)), fun T2 hT2 => ?_⟩⟩
        have sb := same_upd (o := .tup ((nI (undE i j ps)).map V.int)) hT2
        have eT2 : upd Ha T2 (.tup ((nI (undE i j ps)).map V.int)) T2 = some (.tup (nV (undE i j ps))) := by rw [nV_nI]; exact upd_same
        generalize upd Ha T2 (.tup ((nI (undE i j ps)).map V.int)) = Hb at *
        intro rn drn nrn ndrn nern
        have sc := make_same (C := CR) nrn ndrn nern
        refine ⟨rn, drn, T1, T2, undS n j, undE i j ps, rfl, upd_same, sc _ _ (sb _ _ eT1), sc _ _ eT2, fun Hc kp RO => ⟨rfl, ?_⟩⟩
        have s9b := (s9.trans sa).trans sb
        have s9c : Same H8 Hc := fun c u ecc => kp c u (ne_of_none (s9b _ _ ecc) nrn) (sc _ _ (s9b _ _ ecc))
        refine ⟨(by show 2 ≤ sizeLine; decide), fun L hL => ?_⟩
        have sd := same_upd (o := .lst [.ref sp, .ref rn]) hL
        refine q L _ (s3'.trans ((s38.trans s9c).trans sd)) ?_
        show St3 CS CM CR _ L (if undS n j = List.range n ∧ undE i j ps = List.range ps.length then [.S i (undPart j ps)] else [.S i (undPart j ps), .R (undS n j) (undE i j ps)])
        rw [if_neg ne]
        exact St3.two upd_same ((SO8.same s9c).same sd) (RnO.same RO sd)
      refine ⟨_, rfl, _, rfl, g, dg, _, rfl, h18, g, (n : Int), us, rfl, GA8, _, rfl, rg_ok (by omega), fun b nb => ?_⟩
      rw [rg_nums]
      have s9 := same_upd (o := .lst ((nums n).map V.int)) nb
      have e9 : upd H8 b (.lst ((nums n).map V.int)) b = some (.lst ((nums n).map V.int)) := upd_same
      generalize upd H8 b (.lst ((nums n).map V.int)) = H9 at *
      refine ⟨_, _, .lst (SqL.of (s9 _ _ eS8)) (dp_ints _), .lst (SqL.of e9) (dp_ints _), shl_ints _, shl_ints _, _, rfl, ?_⟩
      rw [eqv_lst]
      by_cases c1 : undS n j = List.range n
      · refine if_t (decide_eq_true (by rw [c1]; rfl)) ?_
        refine ⟨_, rfl, _, rfl, g, dg, _, rfl, s9 _ _ h18, g, (n : Int), us, rfl, GA8.same s9, _, rfl, ⟨by omega, by omega⟩, _, rfl, rg_ok (by omega), fun b2 nb2 => ?_⟩
        rw [rg_nums]
        have s10 := same_upd (o := .lst ((nums us.length).map V.int)) nb2
        have e10 : upd H9 b2 (.lst ((nums us.length).map V.int)) b2 = some (.lst ((nums us.length).map V.int)) := upd_same
        generalize upd H9 b2 (.lst ((nums us.length).map V.int)) = H10 at *
        refine ⟨_, _, .lst (SqL.of (s10 _ _ (s9 _ _ eE))) (dp_ints _), .lst (SqL.of e10) (dp_ints _), shl_ints _, shl_ints _, _, rfl, ?_⟩
        rw [eqv_lst, lu]
        by_cases c2 : undE i j ps = List.range ps.length
        · refine if_t (decide_eq_true (by rw [c2]; rfl)) ?_
          refine ⟨_, rfl, (by show 1 ≤ sizeLine; decide), fun L hL => ?_⟩
          have sd := same_upd (o := .lst [.ref sp]) hL
          refine q L _ (s3'.trans (((s38.trans s9).trans s10).trans sd)) ?_
          show St3 CS CM CR _ L (if undS n j = List.range n ∧ undE i j ps = List.range ps.length then [.S i (undPart j ps)] else [.S i (undPart j ps), .R (undS n j) (undE i j ps)])
          rw [if_pos ⟨c1, c2⟩]
          exact St3.one upd_same (((SO8.same s9).same s10).same sd)
        · refine if_f (decide_eq_false fun z => c2 (nI_inj z)) ?_
          exact last H10 (s9.trans s10) fun z => c2 z.2
      · refine if_f (decide_eq_false fun z => c1 (nI_inj z)) (if_f rfl ?_)
        exact last H9 s9 fun z => c1 z.1
end
end Lw
set_option Elab.async false
set_option linter.all false
set_option maxRecDepth 100000
/-! chains of steps of the three classes, led along and undone -/
namespace Lw
open PySem L2
abbrev sUC : Stmt := top 38
/-- the graph ahead of the step i -/
def nd3 : Nat → Ps → List Sp3 → Nat → Nat × Ps
  | n, ps, _, 0 => (n, ps)
  | n, ps, [], _ + 1 => (n, ps)
  | n, ps, x :: st, i + 1 => nd3 (res3 n ps x).1 (res3 n ps x).2 st i
theorem nd3_succ : ∀ {st : List Sp3} {n : Nat} {ps : Ps} {i : Nat} {x : Sp3}, st[i]? = some x → nd3 n ps st (i + 1) = res3 (nd3 n ps st i).1 (nd3 n ps st i).2 x
  | [], _, _, _, _, h => by cases h
  | y :: st, n, ps, 0, x, h => by
    cases h
    show nd3 (res3 n ps y).1 (res3 n ps y).2 st 0 = res3 n ps y
    cases st <;> rfl
  | y :: st, n, ps, i + 1, x, h => nd3_succ (st := st) (i := i) h
theorem nd3_zero (n : Nat) (ps : Ps) (st : List Sp3) : nd3 n ps st 0 = (n, ps) := by cases st <;> rfl
theorem Ch3.ok_at {n m : Nat} {ps qs : Ps} {st : List Sp3} (h : Ch3 n ps st m qs) : ∀ {i : Nat} {x : Sp3}, st[i]? = some x → Ok3 (nd3 n ps st i).1 (nd3 n ps st i).2 x := by
  induction h with
  | nil => intro i x h; cases h
  | cons o r ih =>
    rename_i n m ps qs y st
    intro i x h
    cases i with
    | zero =>
      cases h
      rw [nd3_zero]
      exact o
    | succ i => exact ih h
theorem Ch3.end_at {n m : Nat} {ps qs : Ps} {st : List Sp3} (h : Ch3 n ps st m qs) : nd3 n ps st st.length = (m, qs) := by
  induction h with
  | nil => rfl
  | cons o r ih => exact ih
theorem undC_drop : ∀ {st : List Sp3} {n : Nat} {ps : Ps} {i : Nat} {x : Sp3}, st[i]? = some x → undC (nd3 n ps st i).1 (nd3 n ps st i).2 (st.drop i) = undC (nd3 n ps st (i + 1)).1 (nd3 n ps st (i + 1)).2 (st.drop (i + 1)) ++ und3 (nd3 n ps st i).1 (nd3 n ps st i).2 x := by
  intro st n ps i x h
  have hi := (List.getElem?_eq_some_iff.mp h).1
  rw [List.drop_eq_getElem_cons hi, nd3_succ h]
  have : st[i] = x := by
    rw [List.getElem?_eq_getElem hi] at h
    exact Option.some.inj h
  rw [this]
  rfl
theorem und3_len (n : Nat) (ps : Ps) (x : Sp3) : (und3 n ps x).length ≤ 2 := by
  cases x with
  | S s p => exact Nat.le_succ 1
  | R s e => exact Nat.le_succ 1
  | M i j =>
    show (if _ then _ else _ : List Sp3).length ≤ 2
    split
    · exact Nat.le_succ 1
    · exact Nat.le_refl 2
theorem undC_len : ∀ (st : List Sp3) (n : Nat) (ps : Ps), (undC n ps st).length ≤ 2 * st.length
  | [], _, _ => Nat.le_refl _
  | x :: st, n, ps => by
    show (undC _ _ st ++ und3 n ps x).length ≤ 2 * (st.length + 1)
    rw [List.length_append]
    have h1 := undC_len st (res3 n ps x).1 (res3 n ps x).2
    have h2 := und3_len n ps x
    omega
/-- the graphs along a chain -/
structure GrS (C : Addr) (H : Hp) (n : Nat) (ps : Ps) (st : List Sp3) (gs : List Addr) : Prop where
  len : gs.length = st.length + 1
  at_ : ∀ (i : Nat) (g : Addr), gs[i]? = some g → Gok C H g (nd3 n ps st i).1 (nd3 n ps st i).2
theorem GrS.same {C : Addr} {H H' : Hp} {n : Nat} {ps : Ps} {st : List Sp3} {gs : List Addr} (h : GrS C H n ps st gs) (s : Same H H') : GrS C H' n ps st gs := ⟨h.len, fun i g e => (h.at_ i g e).same s⟩
def spCG3 (C CS CM CR : Addr) : Sp := fun vs H Q _ => ∃ (g S : Addr) (n m : Nat) (ps qs : Ps) (st : List Sp3), vs = [.ref g, .ref S] ∧ Gok C H g n ps ∧ St3 CS CM CR H S st ∧ Ch3 n ps st m qs ∧ st.length ≤ 60 ∧
  ∀ (L : Addr) (gs : List Addr) (H' : Hp), Same H H' → H' L = some (.lst (gs.map V.ref)) → GrS C H' n ps st gs → Q (.ref L) H'
def spCR3 (C CS CM CR : Addr) : Sp := fun vs H Q _ => ∃ (g S : Addr) (n m : Nat) (ps qs : Ps) (st : List Sp3), vs = [.ref g, .ref S] ∧ Gok C H g n ps ∧ St3 CS CM CR H S st ∧ Ch3 n ps st m qs ∧ st.length ≤ 60 ∧ ∀ (g' : Addr) (H' : Hp), Same H H' → Gok C H' g' m qs → Q (.ref g') H'
def spLT3 (C CS CM CR : Addr) : Sp := fun vs H Q _ => ∃ (g g2 S : Addr) (n m : Nat) (ps qs : Ps) (st : List Sp3), vs = [.ref g, .ref g2, .ref S] ∧ Gok C H g n ps ∧ Gok C H g2 m qs ∧ St3 CS CM CR H S st ∧ Ch3 n ps st m qs ∧ st.length ≤ 60 ∧ ∀ H', Same H H' → Q (.bl true) H'
def spUC (C CS CM CR : Addr) : Sp := fun vs H Q _ => ∃ (g S : Addr) (n m : Nat) (ps qs : Ps) (st : List Sp3), vs = [.ref g, .ref S] ∧ Gok C H g n ps ∧ St3 CS CM CR H S st ∧ Ch3 n ps st m qs ∧ st.length ≤ 60 ∧ ∀ (D : Addr) (H' : Hp), Same H H' → St3 CS CM CR H' D (undC n ps st) → Q (.ref D) H'
theorem O3.off {CS CM CR : Addr} {H : Hp} {o S : Addr} {x : Sp3} {ys : List V} {u : HO} (h : O3 CS CM CR H o x) (e : H S = some (.lst ys)) : O3 CS CM CR (upd H S u) o x := by
  have ni : ∀ {a C dx : Addr} {fs : List (Str × V)}, H a = some (.ins C dx fs) → upd H S u a = some (.ins C dx fs) := fun {a C dx fs} h => by
    rw [upd_ne fun w => by rw [w, e] at h; cases h]
    exact h
  have nt : ∀ {a : Addr} {xs : List V}, H a = some (.tup xs) → upd H S u a = some (.tup xs) := fun {a xs} h => by
    rw [upd_ne fun w => by rw [w, e] at h; cases h]
    exact h
  cases x with
  | S s p =>
    obtain ⟨dx, a, h1, h2⟩ := h
    exact ⟨dx, a, ni h1, nt h2⟩
  | M i j =>
    obtain ⟨dx, h1⟩ := h
    exact ⟨dx, ni h1⟩
  | R s p =>
    obtain ⟨dx, a, b, h1, h2, h3⟩ := h
    exact ⟨dx, a, b, ni h1, nt h2, nt h3⟩
theorem O3.kb {CS CM CR : Addr} {H H' : Hp} {o D : Addr} {x : Sp3} {ys : List V} (h : O3 CS CM CR H o x) (e : H D = some (.lst ys)) (kb : KeepB D H H') : O3 CS CM CR H' o x := by
  have ni : ∀ {a C dx : Addr} {fs : List (Str × V)}, H a = some (.ins C dx fs) → H' a = some (.ins C dx fs) := fun {a C dx fs} h => kb _ _ (fun w => by rw [w, e] at h; cases h) h
  have nt : ∀ {a : Addr} {xs : List V}, H a = some (.tup xs) → H' a = some (.tup xs) := fun {a xs} h => kb _ _ (fun w => by rw [w, e] at h; cases h) h
  cases x with
  | S s p =>
    obtain ⟨dx, a, h1, h2⟩ := h
    exact ⟨dx, a, ni h1, nt h2⟩
  | M i j =>
    obtain ⟨dx, h1⟩ := h
    exact ⟨dx, ni h1⟩
  | R s p =>
    obtain ⟨dx, a, b, h1, h2, h3⟩ := h
    exact ⟨dx, a, b, ni h1, nt h2, nt h3⟩
theorem Gok.kb {C : Addr} {H H' : Hp} {g D : Addr} {n : Nat} {ps : Ps} {ys : List V} (h : Gok C H g n ps) (e : H D = some (.lst ys)) (kb : KeepB D H H') : Gok C H' g n ps := by
  have ni : ∀ {a C dx : Addr} {fs : List (Str × V)}, H a = some (.ins C dx fs) → H' a = some (.ins C dx fs) := fun {a C dx fs} h => kb _ _ (fun w => by rw [w, e] at h; cases h) h
  have nt : ∀ {a : Addr} {xs : List V}, H a = some (.tup xs) → H' a = some (.tup xs) := fun {a xs} h => kb _ _ (fun w => by rw [w, e] at h; cases h) h
  obtain ⟨us, ⟨⟨dx, t, h1, h2⟩, ed⟩, eq⟩ := h.at_
  exact ⟨⟨us, ⟨⟨dx, t, ni h1, nt h2⟩, fun x hx => nt (ed x hx)⟩, eq⟩, h.va, h.n1, h.n8, h.l24⟩
section
variable {P : Program} {w : World} {K : PySem.W.Frag} {mg : Str → Option Value} {base : Heap} {f C CS CM CR : Addr} {mc : Value} {fd : FuncData} {k : Nat}
theorem ok_cg3 (F : Fun K "chain_graphs" "chain_graphs" sCG f fd) (T : Bi mg) {tk : Tok} (mx : mg "MAX_STEPS" = some (.int 60 tk)) (mS : C8.Met P w K mg base 5 CS "result" (spSR C CS) []) (mM : C8.Met P w K mg base 4 CM "result" (spMRs C CM) []) (mR : C8.Met P w K mg base 4 CR "result" (spRR C CR) []) : FnOk P w K mg base CX0 (k + 6) f fd ["graph", "chain"] (spCG3 C CS CM CR) := by
  refine F.ok scCG (fun vs H Q E h => ?_) (fun cdv A outer s H vs Q E hr h => ?_)
  · obtain ⟨g, S, n, m, ps, qs, st, rfl, _⟩ := h
    rfl
  · obtain ⟨g, S, n, m, ps, qs, st, rfl, G, CL, ch, l60, q⟩ := h
    obtain ⟨os, c1, c2, c3⟩ := CL
    refine ⟨_, pss_cons (ps_if (pt_cmpR op_gt (pe_callB call_len_seq (by rfl) T.len PySem.boot_len (pa_cons (pv 1) pa_nil)) (pe_glob (v := .int 60) (by rfl) mx ⟨_, rfl⟩) (nomark _)) (pss_one ps_never) pss_nil)
      (pss_cons (ps_set (i := 2) scCG.nd rfl (.inl rfl) (pe_lst (pa_cons (pv 0) pa_nil)))
      (pss_cons (ps_for PassesOwn.never rfl (pi_seqA (pv 1)) (pg_name (i := 3) scCG.nd rfl (.inl rfl))
        (pss_one (ps_expr (pe_bm PySem.F.plainAttrs_list PySem.F.slot_list_append PySem.F.type_list_append mt_append (pv 2) (pa_cons (Lw.PE.or (C8.pe_mt mS hr (by omega) (pv 3) (pa_cons (pe_ix ix_list (pv 2) (pe_un un_neg pe_int) (fun _ _ => rfl)) pa_nil)) (Lw.PE.or (C8.pe_mt mM hr (by omega) (pv 3) (pa_cons (pe_ix ix_list (pv 2) (pe_un un_neg pe_int) (fun _ _ => rfl)) pa_nil)) (C8.pe_mt mR hr (by omega) (pv 3) (pa_cons (pe_ix ix_list (pv 2) (pe_un un_neg pe_int) (fun _ _ => rfl)) pa_nil)))) pa_nil)))))
      (pss_one (ps_ret (pv 2))))), ?_⟩
    refine ⟨_, rfl, S, _, rfl, .inl (SqL.of c1), _, _, rfl, rfl, _, rfl, if_f (decide_eq_false (by rw [List.length_map]; omega)) ?_⟩
    refine ⟨_, rfl, (by show 1 ≤ sizeLine; decide), fun L hL => ?_⟩
    have s1 := same_upd (o := .lst [.ref g]) hL
    have e1 : upd H L (.lst [.ref g]) L = some (.lst ([g].map V.ref)) := upd_same
    generalize upd H L (.lst [.ref g]) = H1 at *
    refine ⟨_, rfl, S, _, SqL, rfl, .inl rfl, SqL.of (s1 _ _ c1), fun J w => ?_⟩
    refine for_it w (fun i σ H' => ∃ (v3 : Option V) (gs : List Addr), σ = [some (.ref g), some (.ref S), some (.ref L), v3] ∧ Same H H' ∧ H' L = some (.lst (gs.map V.ref)) ∧ gs.length = i + 1 ∧ ∀ (j : Nat) (g' : Addr), gs[j]? = some g' → Gok C H' g' (nd3 n ps st j).1 (nd3 n ps st j).2)
      ⟨none, [g], rfl, s1, e1, rfl, fun j g' hg => ?_⟩ (fun i σ H' _ p => by obtain ⟨_, _, _, s, _⟩ := p; exact SqL.of (s _ _ c1)) ?_ ?_
    · match j, hg with
      | 0, hg =>
        cases hg
        rw [nd3_zero]
        exact G.same s1
    · rintro i x σ H2 H3 hi ⟨v3, gs, rfl, s2, e2, lg, G2⟩ ⟨rfl, gx⟩
      rw [List.length_map] at hi
      rw [List.getElem?_map] at gx
      obtain ⟨o, ho, rfl⟩ := Option.map_eq_some_iff.mp gx
      have hst : i < st.length := by omega
      obtain ⟨y, hy⟩ : ∃ y, st[i]? = some y := ⟨_, List.getElem?_eq_getElem hst⟩
      have ox := (c3 i o y ho hy).same s2
      have ok := ch.ok_at hy
      have ns := nd3_succ (n := n) (ps := ps) hy
      obtain ⟨g', hg'⟩ : ∃ g', gs[i]? = some g' := ⟨_, List.getElem?_eq_getElem (by omega)⟩
      have GG := G2 i g' hg'
      have last : atI (gs.map V.ref) (-1) = some (.ref g') := by
        have : gs = gs.take i ++ [g'] := by
          rw [← take_snoc hg', List.take_of_length_le (by omega)]
        rw [this, List.map_append]
        exact at_last
      -- behind each of the three
      have fin : ∀ (g3 : Addr) (H4 : Hp), Same H3 H4 → Gok C H4 g3 (res3 (nd3 n ps st i).1 (nd3 n ps st i).2 y).1 (res3 (nd3 n ps st i).1 (nd3 n ps st i).2 y).2 → ∃ (v3 : Option V) (gs : List Addr), [some (V.ref g), some (.ref S), some (.ref L), some (.ref o)] = [some (.ref g), some (.ref S), some (.ref L), v3] ∧ Same H (upd H4 L (.lst (gs.map V.ref))) ∧ upd H4 L (.lst (gs.map V.ref)) L = some (.lst (gs.map V.ref)) ∧ gs.length = i + 1 + 1 ∧ (∃ gs0 : List Addr, H4 L = some (.lst (gs0.map V.ref)) ∧ (gs0.map V.ref).length < sizeLine ∧ gs = gs0 ++ [g3]) ∧ ∀ (j : Nat) (g' : Addr), gs[j]? = some g' → Gok C (upd H4 L (.lst (gs.map V.ref))) g' (nd3 n ps st j).1 (nd3 n ps st j).2 := fun g3 H4 s4 G4 => by
        have e4 := s4 _ _ e2
        refine ⟨_, gs ++ [g3], rfl, ?_, upd_same, by simp [lg], ⟨gs, e4, by rw [List.length_map]; exact small1000 (by omega), rfl⟩, fun j g2 hj => ?_⟩
        · intro c u ecu
          rw [upd_ne (ne_of_none ecu hL)]
          exact s4 _ _ (s2 _ _ ecu)
        · by_cases cj : j < gs.length
          · rw [List.getElem?_append_left cj] at hj
            exact ((G2 j g2 hj).same s4).off e4
          · have cj2 : j = gs.length := by
              have := (List.getElem?_eq_some_iff.mp hj).1
              rw [List.length_append, List.length_singleton] at this
              omega
            rw [cj2, List.getElem?_concat_length] at hj
            cases hj
            rw [cj2, lg, ns]
            exact G4.off e4
      cases y with
      | S s part =>
        obtain ⟨dx, a, hoo, _⟩ := id (show SpO CS H3 o s part from ox)
        refine ⟨_, rfl, .inl ⟨rfl, _, SqL.of e2⟩, .inl ⟨_, rfl, o, dx, _, rfl, hoo, sno _ _ (by decide +kernel) (by decide +kernel), _, rfl, 1, rfl, L, _, _, .ref g', rfl, rfl, SqL.of e2, last, o, g', _, s, _, part, rfl, ox, GG, ok, fun g3 H4 s4 ng G4 => ?_⟩⟩
        obtain ⟨v, gs2, f1, f2, f3, f4, ⟨gs0, f5, f6, rfl⟩, f7⟩ := fin g3 H4 s4 G4
        rw [List.map_append] at f2 f3 f7
        exact ⟨L, _, _, rfl, rfl, f5, f6, v, gs0 ++ [g3], f1, f2, by rw [List.map_append]; exact f3, f4, f7⟩
      | M a b =>
        obtain ⟨dx, hoo⟩ := id (show MgO CM H3 o a b from ox)
        obtain ⟨ab, bn, ec⟩ := id ok
        refine ⟨_, rfl, .inl ⟨rfl, _, SqL.of e2⟩, .inr (.inl ⟨_, rfl, o, dx, _, rfl, hoo, mno _ _ (by decide +kernel) (by decide +kernel), _, rfl, 1, rfl, L, _, _, .ref g', rfl, rfl, SqL.of e2, last, o, g', _, a, b, _, rfl, ox, GG, ab, bn, ec, fun g3 H4 s4 ng G4 => ?_⟩)⟩
        obtain ⟨v, gs2, f1, f2, f3, f4, ⟨gs0, f5, f6, rfl⟩, f7⟩ := fin g3 H4 s4 G4
        rw [List.map_append] at f2 f3 f7
        exact ⟨L, _, _, rfl, rfl, f5, f6, v, gs0 ++ [g3], f1, f2, by rw [List.map_append]; exact f3, f4, f7⟩
      | R s e =>
        obtain ⟨dx, a, b, hoo, _⟩ := id (show RnO CR H3 o s e from ox)
        obtain ⟨o1, o2⟩ := id ok
        refine ⟨_, rfl, .inl ⟨rfl, _, SqL.of e2⟩, .inr (.inr ⟨_, rfl, o, dx, _, rfl, hoo, rno _ _ (by decide +kernel) (by decide +kernel), _, rfl, 1, rfl, L, _, _, .ref g', rfl, rfl, SqL.of e2, last, o, g', _, _, s, e, rfl, ox, GG, o1, o2, fun g3 H4 s4 ng G4 => ?_⟩)⟩
        obtain ⟨v, gs2, f1, f2, f3, f4, ⟨gs0, f5, f6, rfl⟩, f7⟩ := fin g3 H4 s4 G4
        rw [List.map_append] at f2 f3 f7
        exact ⟨L, _, _, rfl, rfl, f5, f6, v, gs0 ++ [g3], f1, f2, by rw [List.map_append]; exact f3, f4, f7⟩
    · rintro σ H2 ⟨v3, gs, rfl, s2, e2, lg, G2⟩
      rw [List.length_map, c2] at lg
      exact ⟨_, rfl, q L gs H2 s2 e2 ⟨lg, G2⟩⟩
theorem ok_cr3 (F : Fun K "chain_result" "chain_result" sCR f fd) (cG : C8.Cal P w K mg base 6 "chain_graphs" (spCG3 C CS CM CR) []) : FnOk P w K mg base CX0 (k + 7) f fd ["graph", "chain"] (spCR3 C CS CM CR) := by
  refine F.ok scCR (fun vs H Q E h => ?_) (fun cdv A outer s H vs Q E hr h => ?_)
  · obtain ⟨g, S, n, m, ps, qs, st, rfl, _⟩ := h
    rfl
  · obtain ⟨g, S, n, m, ps, qs, st, rfl, G, CL, ch, l60, q⟩ := h
    refine ⟨_, pss_one (ps_ret (pe_ix ix_list (C8.pe_c cG hr (by omega) (by rfl) (pa_cons (pv 0) (pa_cons (pv 1) pa_nil))) (pe_un un_neg pe_int) (fun _ _ => rfl))), ?_⟩
    refine ⟨_, rfl, _, rfl, g, S, n, m, ps, qs, st, rfl, G, CL, ch, l60, fun L gs H' s1 e1 G1 => ?_⟩
    obtain ⟨g', hg'⟩ : ∃ g', gs[st.length]? = some g' := ⟨_, List.getElem?_eq_getElem (by rw [G1.len]; omega)⟩
    have last : atI (gs.map V.ref) (-1) = some (.ref g') := by
      have : gs = gs.take st.length ++ [g'] := by
        rw [← take_snoc hg', List.take_of_length_le (by rw [G1.len]; omega)]
      rw [this, List.map_append]
      exact at_last
    have GG := G1.at_ _ _ hg'
    rw [ch.end_at] at GG
    exact ⟨1, rfl, L, _, _, .ref g', rfl, rfl, SqL.of e1, last, q g' H' s1 GG⟩
theorem ok_gr3 (F : Fun K "graph_reached" "graph_reached" sGR f fd) (cR : C8.Cal P w K mg base 7 "chain_result" (spCR3 C CS CM CR) []) : FnOk P w K mg base CX0 (k + 8) f fd ["graph", "chain"] (spCR3 C CS CM CR) := by
  refine F.ok scGR (fun vs H Q E h => ?_) (fun cdv A outer s H vs Q E hr h => ?_)
  · obtain ⟨g, S, n, m, ps, qs, st, rfl, _⟩ := h
    rfl
  · obtain ⟨g, S, n, m, ps, qs, st, rfl, G, CL, ch, l60, q⟩ := h
    refine ⟨_, pss_one (ps_try_thru0 (pss_one (ps_ret (C8.pe_c cR hr (by omega) (by rfl) (pa_cons (pv 0) (pa_cons (pv 1) pa_nil)))))), ?_⟩
    exact ⟨_, rfl, _, rfl, g, S, n, m, ps, qs, st, rfl, G, CL, ch, l60, q⟩
theorem ok_lt3 {fE : Addr} {fdE : FuncData} (F : Fun K "leads_to" "leads_to" sLT f fd) (cR : C8.Cal P w K mg base 8 "graph_reached" (spCR3 C CS CM CR) []) (hE1 : PySem.W.findIn K (.ref C) "__eq__" = some (some (.ref fE))) (hE2 : PySem.W.isFn K (.ref fE) = true) (FE : FnOk P w K mg base CX0 1 fE fdE ["self", "other"] (spGEq K C)) (bE : Binds K fdE ["self", "other"] []) :
    FnOk P w K mg base CX0 (k + 9) f fd ["one", "other", "chain"] (spLT3 C CS CM CR) := by
  refine F.ok scLT (fun vs H Q E h => ?_) (fun cdv A outer s H vs Q E hr h => ?_)
  · obtain ⟨g, g2, S, n, m, ps, qs, st, rfl, _⟩ := h
    rfl
  · obtain ⟨g, g2, S, n, m, ps, qs, st, rfl, G, G2, CL, ch, l60, q⟩ := h
    refine ⟨_, pss_one (ps_ret (pe_cmpR (op_eqO (E := E0) FE hE1 hE2 bE pass0 (hr.mono (by omega))) (C8.pe_c cR hr (by omega) (by rfl) (pa_cons (pv 0) (pa_cons (pv 2) pa_nil))) (pv 1) (nomark _))), ?_⟩
    refine ⟨_, rfl, _, rfl, g, S, n, m, ps, qs, st, rfl, G, CL, ch, l60, fun g' H1 s1 G1 => ?_⟩
    obtain ⟨us, GA, eu⟩ := G1.at_
    obtain ⟨vs, GB, ev⟩ := (G2.same s1).at_
    obtain ⟨dxa, ta, ha, _⟩ := GA.ob
    obtain ⟨dxb, tb, hb, _⟩ := GB.ob
    refine ⟨_, rfl, g', g2, dxa, dxb, _, _, rfl, rfl, ha, hb, g', (m : Int), us, _, rfl, GA, .inl ⟨g2, (m : Int), vs, rfl, GB, _, rfl, ?_⟩⟩
    rw [eu, ev, decide_eq_true rfl, decide_eq_true rfl]
    exact q H1 s1
theorem scUC : FnScope ["graph", "chain", "graphs", "steps", "before", "step"] ["graph", "chain"] (defScope sUC) := ⟨rfl, rfl, rfl, by decide +kernel, rfl, by decide +kernel, by decide +kernel⟩
set_option maxHeartbeats 8000000 in
theorem ok_uc (F : Fun K "undone_chain" "undone_chain" sUC f fd) (T : Bi mg) (hv : mg "reversed" = none) (cG : C8.Cal P w K mg base 6 "chain_graphs" (spCG3 C CS CM CR) []) (mS : C8.Met P w K mg base 5 CS "undone" (spUn C CS CM CR isS) []) (mM : C8.Met P w K mg base 4 CM "undone" (spUn C CS CM CR isM) []) (mR : C8.Met P w K mg base 4 CR "undone" (spUn C CS CM CR isR) []) : FnOk P w K mg base CX0 (k + 7) f fd ["graph", "chain"] (spUC C CS CM CR) := by
  refine F.ok scUC (fun vs H Q E h => ?_) (fun cdv A outer s H vs Q E hr h => ?_)
  · obtain ⟨g, S, n, m, ps, qs, st, rfl, _⟩ := h
    rfl
  · obtain ⟨g, S, n, m, ps, qs, st, rfl, G, CL, ch, l60, q⟩ := h
    refine ⟨_, pss_cons (ps_set (i := 2) scUC.nd rfl (.inl rfl) (C8.pe_c cG hr (by omega) (by rfl) (pa_cons (pv 0) (pa_cons (pv 1) pa_nil))))
      (pss_cons (ps_set (i := 3) scUC.nd rfl (.inl rfl) (pe_lst pa_nil))
      (pss_cons (ps_for PassesOwn.never rfl (RT.pi_revA (by rfl) hv (ZN.pe_listZipA rfl (by rfl) T.list (by rfl) T.zip (pa_cons (pv 2) (pa_cons (pv 1) pa_nil)))) (pg_tup rfl (pgs_cons (pg_name (i := 4) scUC.nd rfl (.inl rfl)) (pgs_cons (pg_name (i := 5) scUC.nd rfl (.inl rfl)) pgs_nil)))
        (pss_one (ps_expr (pe_bm PySem.F.plainAttrs_list PySem.F.slot_list_extend PySem.F.type_list_extend mt_extend (pv 3) (pa_cons (Lw.PE.or (C8.pe_mt mS hr (by omega) (pv 5) (pa_cons (pv 4) pa_nil)) (Lw.PE.or (C8.pe_mt mM hr (by omega) (pv 5) (pa_cons (pv 4) pa_nil)) (C8.pe_mt mR hr (by omega) (pv 5) (pa_cons (pv 4) pa_nil)))) pa_nil)))))
      (pss_one (ps_ret (pv 3))))), ?_⟩
    refine ⟨_, rfl, _, rfl, g, S, n, m, ps, qs, st, rfl, G, CL, ch, l60, fun L gs H1 s1 e1 G1 => ?_⟩
    have eD0 : ∀ D, H1 D = none → upd H1 D (.lst []) D = some (.lst []) := fun D _ => upd_same
    refine ⟨(by show 0 ≤ sizeLine; exact Nat.zero_le _), fun D hD => ?_⟩
    have s2 := same_upd (o := .lst []) hD
    have eD := eD0 D hD
    have e2 := s2 _ _ e1
    have G2 := G1.same s2
    have CL2 := (CL.same s1).same s2
    generalize upd H1 D (.lst []) = H2 at *
    obtain ⟨os, c1, c2, c3⟩ := CL2
    have gl := G2.len
    have kb0 : ∀ b u, H b = some u → b ≠ D := fun b u e => ne_of_none (s1 _ _ e) hD
    refine ⟨_, rfl, _, rfl, [L, S], [gs.map V.ref, os.map V.ref], st.length, rfl, rfl, fun i l r hl hr' => ?_, fun r hr' => ?_, ⟨1, _, rfl, by rw [List.length_map]; exact c2, fun i r hi hr' => ?_⟩, by simp, (by show 2 ≤ 8; decide), by omega, fun Pz Ts Hz sz nPz ePz lTs tT => ?_⟩
    · match i, hl, hr' with
      | 0, hl, hr' =>
        cases hl
        cases hr'
        exact SqL.of e2
      | 1, hl, hr' =>
        cases hl
        cases hr'
        exact SqL.of c1
    · simp only [List.mem_cons, List.not_mem_nil, or_false] at hr'
      rcases hr' with rfl | rfl
      · rw [List.length_map]
        omega
      · rw [List.length_map]
        omega
    · have : i = 0 := by omega
      subst this
      cases hr'
      rw [List.length_map]
      omega
    have sz : Same H2 Hz := sz
    have eDz := sz _ _ eD
    refine ⟨Pz, _, rfl, .inl ⟨SqL.of ePz, ?_⟩⟩
    have nPD : Pz ≠ D := (ne_of_none eD nPz).symm
    refine for_it walk_rev (fun r σ H' => ∃ (v4 v5 : Option V) (xs : List Addr), σ = [some (.ref g), some (.ref S), some (.ref L), some (.ref D), v4, v5] ∧ KeepB D Hz H' ∧ H' D = some (.lst (xs.map V.ref)) ∧ xs.length = (undC (nd3 n ps st (st.length - r)).1 (nd3 n ps st (st.length - r)).2 (st.drop (st.length - r))).length ∧
        ∀ (k : Nat) (o : Addr) (x : Sp3), xs[k]? = some o → (undC (nd3 n ps st (st.length - r)).1 (nd3 n ps st (st.length - r)).2 (st.drop (st.length - r)))[k]? = some x → O3 CS CM CR H' o x)
      ⟨none, none, [], rfl, fun _ _ _ z => z, eDz, by rw [Nat.sub_zero, List.drop_length]; rfl, fun k o x h => by cases h⟩ (fun r σ H' _ pp => by obtain ⟨_, _, _, _, kb, _⟩ := pp; exact SqL.of (kb _ _ nPD ePz)) ?_ ?_
    · rintro r x σ H3 H4 hr' ⟨v4, v5, xs, rfl, kb, eD, lx, hx⟩ ⟨rfl, gx⟩
      rw [List.length_map, lTs] at hr' gx
      have hi : st.length - r = (st.length - 1 - r) + 1 := by omega
      have hi2 : st.length - (r + 1) = st.length - 1 - r := by omega
      rw [hi] at lx hx
      rw [hi2]
      generalize hI : st.length - 1 - r = i at *
      have il : i < st.length := by omega
      rw [List.getElem?_map] at gx
      obtain ⟨Tp, hT, rfl⟩ := Option.map_eq_some_iff.mp gx
      obtain ⟨nT, eT⟩ := tT i Tp hT
      obtain ⟨gi, hg⟩ : ∃ g, gs[i]? = some g := ⟨_, List.getElem?_eq_getElem (by omega)⟩
      obtain ⟨o, ho⟩ : ∃ o, os[i]? = some o := ⟨_, List.getElem?_eq_getElem (by omega)⟩
      obtain ⟨y, hy⟩ : ∃ y, st[i]? = some y := ⟨_, List.getElem?_eq_getElem il⟩
      have eT : Hz Tp = some (.tup [.ref gi, .ref o]) := by
        rw [eT]
        show some (HO.tup [(gs.map V.ref).getD i .non, (os.map V.ref).getD i .non]) = _
        unfold List.getD
        rw [List.getElem?_map, List.getElem?_map, hg, ho]
        rfl
      have nTD : Tp ≠ D := fun z => by
        rw [z, eDz] at eT
        cases eT
      have eT4 := kb _ _ nTD eT
      have ox := (((c3 i o y ho hy).same sz).kb eDz kb)
      have GG := (((G2.at_ i gi hg).same sz).kb eDz kb)
      have ok := ch.ok_at hy
      have ud := undC_drop (n := n) (ps := ps) hy
      have ul := undC_len (st.drop (i + 1)) (nd3 n ps st (i + 1)).1 (nd3 n ps st (i + 1)).2
      rw [List.length_drop] at ul
      refine ⟨Tp, _, rfl, SqT.of eT4, rfl, _, _, rfl, _, _, rfl, rfl, ?_⟩
      have fin : ∀ (D2 : Addr) (H5 : Hp), Same H4 H5 → St3 CS CM CR H5 D2 (und3 (nd3 n ps st i).1 (nd3 n ps st i).2 y) → ∃ (os2 xs3 : List Addr), H5 D = some (.lst (xs.map V.ref)) ∧ H5 D2 = some (.lst (os2.map V.ref)) ∧ (xs.map V.ref).length + (os2.map V.ref).length ≤ sizeLine ∧
          ∃ (v4 v5 : Option V) (xs3 : List Addr), [some (V.ref g), some (.ref S), some (.ref L), some (.ref D), some (.ref gi), some (.ref o)] = [some (.ref g), some (.ref S), some (.ref L), some (.ref D), v4, v5] ∧ KeepB D Hz (upd H5 D (.lst (xs.map V.ref ++ os2.map V.ref))) ∧ upd H5 D (.lst (xs.map V.ref ++ os2.map V.ref)) D = some (.lst (xs3.map V.ref)) ∧ xs3.length = (undC (nd3 n ps st i).1 (nd3 n ps st i).2 (st.drop i)).length ∧
            ∀ (k : Nat) (o : Addr) (x : Sp3), xs3[k]? = some o → (undC (nd3 n ps st i).1 (nd3 n ps st i).2 (st.drop i))[k]? = some x → O3 CS CM CR (upd H5 D (.lst (xs.map V.ref ++ os2.map V.ref))) o x := fun D2 H5 s5 L3 => by
        obtain ⟨os2, g1, g2, g3⟩ := L3
        have e5 := s5 _ _ eD
        have u3 := und3_len (nd3 n ps st i).1 (nd3 n ps st i).2 y
        refine ⟨os2, [], e5, g1, ?_, _, _, xs ++ os2, rfl, ?_, ?_, ?_, ?_⟩
        · rw [List.length_map, List.length_map]
          exact Nat.le_of_lt (small1000 (by omega))
        · intro b u nb e
          rw [upd_ne nb]
          exact s5 _ _ (kb b u nb e)
        · rw [upd_same, List.map_append]
        · rw [ud, List.length_append, List.length_append, lx, g2]
        · intro k o2 x2 h1 h2
          rw [ud] at h2
          refine O3.off ?_ e5
          by_cases c : k < xs.length
          · rw [List.getElem?_append_left c] at h1
            rw [List.getElem?_append_left (by omega)] at h2
            exact (hx k o2 x2 h1 h2).same s5
          · rw [List.getElem?_append_right (by omega)] at h1
            rw [List.getElem?_append_right (by omega)] at h2
            rw [lx] at h1
            exact g3 _ o2 x2 h1 h2
      cases y with
      | S s part =>
        obtain ⟨dx, a, hoo, _⟩ := id (show SpO CS H4 o s part from ox)
        refine ⟨_, rfl, .inl ⟨rfl, _, SqL.of eD⟩, .inl ⟨_, rfl, o, dx, _, rfl, hoo, sno _ _ (by decide +kernel) (by decide +kernel), _, rfl, o, gi, _, _, .S s part, rfl, trivial, ox, GG, ok, fun D2 H5 s5 L3 => ?_⟩⟩
        obtain ⟨os2, xs3, f1, f2, f3, f4⟩ := fin D2 H5 s5 L3
        exact ⟨D, D2, _, _, rfl, rfl, f1, f2, f3, f4⟩
      | M a b =>
        obtain ⟨dx, hoo⟩ := id (show MgO CM H4 o a b from ox)
        refine ⟨_, rfl, .inl ⟨rfl, _, SqL.of eD⟩, .inr (.inl ⟨_, rfl, o, dx, _, rfl, hoo, mno _ _ (by decide +kernel) (by decide +kernel), _, rfl, o, gi, _, _, .M a b, rfl, trivial, ox, GG, ok, fun D2 H5 s5 L3 => ?_⟩)⟩
        obtain ⟨os2, xs3, f1, f2, f3, f4⟩ := fin D2 H5 s5 L3
        exact ⟨D, D2, _, _, rfl, rfl, f1, f2, f3, f4⟩
      | R s e =>
        obtain ⟨dx, a, b, hoo, _⟩ := id (show RnO CR H4 o s e from ox)
        refine ⟨_, rfl, .inl ⟨rfl, _, SqL.of eD⟩, .inr (.inr ⟨_, rfl, o, dx, _, rfl, hoo, rno _ _ (by decide +kernel) (by decide +kernel), _, rfl, o, gi, _, _, .R s e, rfl, trivial, ox, GG, ok, fun D2 H5 s5 L3 => ?_⟩)⟩
        obtain ⟨os2, xs3, f1, f2, f3, f4⟩ := fin D2 H5 s5 L3
        exact ⟨D, D2, _, _, rfl, rfl, f1, f2, f3, f4⟩
    · rintro σ H3 ⟨v4, v5, xs, rfl, kb, eD, lx, hx⟩
      have e0 : st.length - (Ts.map V.ref).length = 0 := by
        rw [List.length_map, lTs]
        omega
      rw [e0, nd3_zero] at lx hx
      refine ⟨_, rfl, q D H3 (fun b u e => kb b u (kb0 b u e) (sz _ _ (s2 _ _ (s1 _ _ e)))) ⟨xs, eD, lx, hx⟩⟩
end
end Lw
set_option Elab.async false
set_option linter.all false
set_option maxRecDepth 100000
/-! kin graphs: an equivalence; are_kin, compare -/
namespace Lw
open PySem L2
abbrev sAK : Stmt := top 64
abbrev sCmp : Stmt := top 60
def toM (p : Int × Int) : Sp3 := .M p.1.toNat p.2.toNat
theorem Chn.ch3 {n m : Nat} {ps st qs : Ps} (h : Chn n ps st m qs) : Ch3 n ps (st.map toM) m qs := by
  induction h with
  | nil => exact .nil
  | cons h1 h2 h3 h4 ih => exact .cons ⟨h1, h2, h3⟩ ih
theorem Chn.nn {n m : Nat} {ps st qs : Ps} (h : Chn n ps st m qs) : ∀ p ∈ st, 0 ≤ p.1 ∧ 0 ≤ p.2 := by
  induction h with
  | nil => intro p hp; cases hp
  | cons h1 h2 h3 h4 ih =>
    intro p hp
    rcases List.mem_cons.mp hp with rfl | hp
    · exact ⟨Int.natCast_nonneg _, Int.natCast_nonneg _⟩
    · exact ih p hp
theorem ChL.st3 {CS CM CR : Addr} {H : Hp} {S : Addr} {st : Ps} (h : ChL CM H S st) (nn : ∀ p ∈ st, 0 ≤ p.1 ∧ 0 ≤ p.2) : St3 CS CM CR H S (st.map toM) := by
  obtain ⟨os, h1, h2, h3⟩ := h
  refine ⟨os, h1, by rw [List.length_map]; exact h2, fun k o x a b => ?_⟩
  rw [List.getElem?_map] at b
  obtain ⟨p, hp, rfl⟩ := Option.map_eq_some_iff.mp b
  have m := h3 k o p a hp
  obtain ⟨n1, n2⟩ := nn p (List.mem_of_getElem? hp)
  show MgO CM H o ((p.1.toNat : Nat) : Int) ((p.2.toNat : Nat) : Int)
  rw [Int.toNat_of_nonneg n1, Int.toNat_of_nonneg n2]
  exact m
theorem Iso.refl {n : Nat} {ps : Ps} (r : Rg n ps) : Iso n ps ps := by
  refine ⟨List.range n, .refl _, ?_⟩
  have : ps.map (rn (List.range n)) = ps := by
    conv => rhs; rw [← List.map_id ps]
    exact List.map_congr_left fun p hp => rn_id (r p hp)
  rw [this]
theorem Iso.trans {n : Nat} {ps qs rs : Ps} (h : Iso n ps qs) (k : Iso n qs rs) (r : Rg n ps) : Iso n ps rs := by
  obtain ⟨t, h1, h2⟩ := h
  obtain ⟨u, k1, k2⟩ := k
  refine ⟨t.map fun x => u.getD x 0, ?_, ?_⟩
  · refine (h1.map _).trans ?_
    have e := getD_list u
    rw [pm_len k1] at e
    rw [e]
    exact k1
  · have : ps.map (rn (t.map fun x => u.getD x 0)) = (ps.map (rn t)).map (rn u) := by
      rw [List.map_map]
      refine List.map_congr_left fun p hp => ?_
      obtain ⟨a0, a1, b0, b1⟩ := r p hp
      have g : ∀ z : Int, 0 ≤ z → z < n → ((t.map fun x => u.getD x 0).getD z.toNat 0) = u.getD (t.getD z.toNat 0) 0 := fun z z0 z1 => by
        have := (pm_at h1 (i := z.toNat) (by omega)).1
        show (((t.map fun x => u.getD x 0))[z.toNat]?).getD 0 = _
        rw [List.getElem?_map, this]
        rfl
      show rn (t.map fun x => u.getD x 0) p = rn u (rn t p)
      unfold rn
      rw [g _ a0 a1, g _ b0 b1, Int.toNat_natCast, Int.toNat_natCast]
    rw [this]
    exact (h2.map _).trans k2
/-- kin plans: their least plans are equal up to names -/
def Kin (n : Nat) (ps : Ps) (m : Nat) (qs : Ps) : Prop := (lst n ps).2.1 = (lst m qs).2.1 ∧ Iso (lst n ps).2.1 (lst n ps).2.2 (lst m qs).2.2
theorem lst_rg {n : Nat} {ps : Ps} (v : VaP (n : Int) ps) (n1 : 1 ≤ n) : Rg (lst n ps).2.1 (lst n ps).2.2 := (lst_valid n ps v n1).1.rg'
theorem Kin.refl {n : Nat} {ps : Ps} (v : VaP (n : Int) ps) (n1 : 1 ≤ n) : Kin n ps n ps := ⟨rfl, Iso.refl (lst_rg v n1)⟩
theorem Kin.symm {n m : Nat} {ps qs : Ps} (h : Kin n ps m qs) (v : VaP (n : Int) ps) (n1 : 1 ≤ n) : Kin m qs n ps := by
  obtain ⟨e, i⟩ := h
  have := i.symm (lst_rg v n1)
  rw [e] at this
  exact ⟨e.symm, this⟩
theorem Kin.trans {n m l : Nat} {ps qs rs : Ps} (h : Kin n ps m qs) (k : Kin m qs l rs) (v : VaP (n : Int) ps) (n1 : 1 ≤ n) : Kin n ps l rs := by
  obtain ⟨e, i⟩ := h
  obtain ⟨e2, i2⟩ := k
  rw [← e] at i2
  exact ⟨e.trans e2, i.trans i2 (lst_rg v n1)⟩
/-- kin plans have as many closed paths of each length -/
theorem Kin.tr {n m : Nat} {ps qs : Ps} (h : Kin n ps m qs) (v : VaP (n : Int) ps) (n1 : 1 ≤ n) (v2 : VaP (m : Int) qs) (m1 : 1 ≤ m) (k : Nat) : Lw.tr n (cntN ps) (k + 1) = Lw.tr m (cntN qs) (k + 1) := by
  obtain ⟨e, i⟩ := h
  have r1 := ((lst_chn n ps).rd v n1).1.tr k
  have r2 := ((lst_chn m qs).rd v2 m1).1.tr k
  obtain ⟨nm, rep, el⟩ := iso_el i (lst_rg v n1)
  have r3 := el.tr k
  rw [← e] at r2
  rw [r1, r2, r3]
theorem lst_short {n : Nat} {ps : Ps} (v : VaP (n : Int) ps) (n1 : 1 ≤ n) (n8 : n ≤ 8) : (lst n ps).1.length ≤ 7 := by
  have a := ((lst_chn n ps).rd v n1).2.2.2
  have b := (lst_valid n ps v n1).2.1
  omega
def spAK (C : Addr) : Sp := fun vs H Q _ => ∃ (g g2 : Addr) (n m : Nat) (ps qs : Ps), vs = [.ref g, .ref g2] ∧ Gok C H g n ps ∧ Gok C H g2 m qs ∧ ∀ (b : Bool) (H' : Hp), Same H H' → (b = true ↔ Kin n ps m qs) → Q (.bl b) H'
def spCmp (C CS CM CR : Addr) : Sp := fun vs H Q _ => ∃ (g g2 : Addr) (n m : Nat) (ps qs : Ps), vs = [.ref g, .ref g2] ∧ Gok C H g n ps ∧ Gok C H g2 m qs ∧ Kin n ps m qs ∧
  ∀ (t D : Addr) (st : List Sp3) (H' : Hp), Same H H' → H' t = some (.tup [.str "kin", .ref D]) → St3 CS CM CR H' D st → Ch3 n ps st m qs → st.length ≤ 30 → Q (.ref t) H'
section
variable {P : Program} {w : World} {K : PySem.W.Frag} {mg : Str → Option Value} {base : Heap} {f C CS CM CR : Addr} {mc : Value} {fd : FuncData} {k : Nat}
theorem scAK : FnScope ["one", "other"] ["one", "other"] (defScope sAK) := ⟨rfl, rfl, rfl, by decide +kernel, rfl, by decide +kernel, by decide +kernel⟩
theorem scCmp : FnScope ["one", "other", "first", "small", "second", "wanted", "renaming", "renamed"] ["one", "other"] (defScope sCmp) := ⟨rfl, rfl, rfl, by decide +kernel, rfl, by decide +kernel, by decide +kernel⟩
theorem ok_ak (F : Fun K "are_kin" "are_kin" sAK f fd) (cL : C8.Cal P w K mg base 5 "least" (spLe C CM) []) (cF : C8.Cal P w K mg base 3 "find_renaming" (spFR C CR) []) : FnOk P w K mg base CX0 (k + 6) f fd ["one", "other"] (spAK C) := by
  refine F.ok scAK (fun vs H Q E h => ?_) (fun cdv A outer s H vs Q E hr h => ?_)
  · obtain ⟨g, g2, n, m, ps, qs, rfl, _⟩ := h
    rfl
  · obtain ⟨g, g2, n, m, ps, qs, rfl, G1, G2, q⟩ := h
    refine ⟨_, pss_one (ps_ret (pe_cmpR op_notN (C8.pe_c cF hr (by omega) (by rfl) (pa_cons (pe_ix ix_tup (C8.pe_c cL hr (by omega) (by rfl) (pa_cons (pv 0) pa_nil)) pe_int (fun _ _ => rfl)) (pa_cons (pe_ix ix_tup (C8.pe_c cL hr (by omega) (by rfl) (pa_cons (pv 1) pa_nil)) pe_int (fun _ _ => rfl)) pa_nil))) pe_non (nomark _))), ?_⟩
    refine ⟨_, rfl, g, n, ps, rfl, G1, fun t1 S1 l1 H1 s1 e1 _ _ GL1 _ => ?_⟩
    refine ⟨t1, _, _, .ref l1, rfl, rfl, SqT.of e1, rfl, ?_⟩
    refine ⟨_, rfl, g2, m, qs, rfl, G2.same s1, fun t2 S2 l2 H2 s2 e2 _ _ GL2 _ => ?_⟩
    refine ⟨t2, _, _, .ref l2, rfl, rfl, SqT.of e2, rfl, ?_⟩
    have rg1 := lst_rg G1.va G1.n1
    have rg2 := lst_rg G2.va G2.n1
    refine ⟨l1, l2, _, _, _, _, rfl, GL1.same s2, GL2, fun H3 s3 no => ?_, fun o t H3 s3 ho e yes _ => ?_⟩
    · refine ⟨rfl, q _ H3 ((s1.trans s2).trans s3) ⟨fun z => by simp at z, fun z => ?_⟩⟩
      obtain ⟨e, i⟩ := z
      rcases no with no | no
      · exact (no e).elim
      · have := (fsn_iso rg1 (by rw [e]; exact rg2)).mpr i
        rw [no] at this
        cases this
    · refine ⟨rfl, q _ H3 ((s1.trans s2).trans s3) ⟨fun _ => ⟨e, ?_⟩, fun _ => by simp⟩⟩
      exact (fsn_iso rg1 (by rw [e]; exact rg2)).mp (by rw [yes]; rfl)
set_option maxHeartbeats 8000000 in
theorem ok_cmp {fE : Addr} {fdE : FuncData} (F : Fun K "compare" "compare" sCmp f fd) (cL : C8.Cal P w K mg base 5 "least" (spLe C CM) []) (cF : C8.Cal P w K mg base 3 "find_renaming" (spFR C CR) []) (cU : C8.Cal P w K mg base 7 "undone_chain" (spUC C CS CM CR) []) (hE1 : PySem.W.findIn K (.ref C) "__eq__" = some (some (.ref fE))) (hE2 : PySem.W.isFn K (.ref fE) = true) (FE : FnOk P w K mg base CX0 1 fE fdE ["self", "other"] (spGEq K C)) (bE : Binds K fdE ["self", "other"] []) : FnOk P w K mg base CX0 (k + 8) f fd ["one", "other"] (spCmp C CS CM CR) := by
  refine F.ok scCmp (fun vs H Q E h => ?_) (fun cdv A outer s H vs Q E hr h => ?_)
  · obtain ⟨g, g2, n, m, ps, qs, rfl, _⟩ := h
    rfl
  · obtain ⟨g, g2, n, m, ps, qs, rfl, G1, G2, kin, q⟩ := h
    refine ⟨_, pss_cons (ps_asg (C8.pe_c cL hr (by omega) (by rfl) (pa_cons (pv 0) pa_nil)) (pg_tup rfl (pgs_cons (pg_name (i := 2) scCmp.nd rfl (.inl rfl)) (pgs_cons (pg_name (i := 3) scCmp.nd rfl (.inl rfl)) pgs_nil))))
      (pss_cons (ps_asg (C8.pe_c cL hr (by omega) (by rfl) (pa_cons (pv 1) pa_nil)) (pg_tup rfl (pgs_cons (pg_name (i := 4) scCmp.nd rfl (.inl rfl)) (pgs_cons (pg_name (i := 5) scCmp.nd rfl (.inl rfl)) pgs_nil))))
      (pss_cons (ps_set (i := 6) scCmp.nd rfl (.inl rfl) (C8.pe_c cF hr (by omega) (by rfl) (pa_cons (pv 3) (pa_cons (pv 5) pa_nil))))
      (pss_cons (ps_if (pt_cmpR op_isN (pv 6) pe_non (nomark _)) (pss_one ps_never) pss_nil)
      (pss_cons (ps_set (i := 7) scCmp.nd rfl (.inl rfl) (pe_ifExp (pt_cmpR (op_eqO (E := E0) FE hE1 hE2 bE pass0 (hr.mono (by omega))) (pv 3) (pv 5) (nomark _)) (pe_lst pa_nil) (pe_lst (pa_cons (pv 6) pa_nil))))
      (pss_one (ps_ret (pe_tup (pa_cons pe_str (pa_cons (pe_op op_cat (pe_op op_cat (pv 2) (pv 7)) (C8.pe_c cU hr (by omega) (by rfl) (pa_cons (pv 1) (pa_cons (pv 4) pa_nil)))) pa_nil))))))))), ?_⟩
    refine ⟨_, rfl, g, n, ps, rfl, G1, fun t1 S1 l1 H1 s1 e1 _ CL1 GL1 _ => ?_⟩
    refine ⟨t1, _, rfl, SqT.of e1, rfl, _, _, rfl, _, _, rfl, rfl, ?_⟩
    refine ⟨_, rfl, g2, m, qs, rfl, G2.same s1, fun t2 S2 l2 H2 s2 e2 _ CL2 GL2 _ => ?_⟩
    refine ⟨t2, _, rfl, SqT.of e2, rfl, _, _, rfl, _, _, rfl, rfl, ?_⟩
    have rg1 := lst_rg G1.va G1.n1
    have rg2 := lst_rg G2.va G2.n1
    have ch1 := (lst_chn n ps).ch3
    have ch2 := (lst_chn m qs).ch3
    have sh1 := lst_short G1.va G1.n1 G1.n8
    have sh2 := lst_short G2.va G2.n1 G2.n8
    have SL1 := (CL1.same s2).st3 (CS := CS) (CR := CR) (lst_chn n ps).nn
    have SL2 := CL2.st3 (CS := CS) (CR := CR) (lst_chn m qs).nn
    have GL1 := GL1.same s2
    obtain ⟨ek, ik⟩ := kin
    generalize hst1 : (lst n ps).1 = st1 at *
    generalize hl1 : (lst n ps).2.1 = a1 at *
    generalize hp1 : (lst n ps).2.2 = ps1 at *
    generalize hst2 : (lst m qs).1 = st2 at *
    generalize hl2 : (lst m qs).2.1 = a2 at *
    generalize hp2 : (lst m qs).2.2 = qs2 at *
    subst ek
    have s12 := s1.trans s2
    refine ⟨_, rfl, _, rfl, l1, l2, a1, a1, ps1, qs2, rfl, GL1, GL2, fun H3 s3 no => ?_, fun o t H3 s3 ho e yes RO => ?_⟩
    · exfalso
      rcases no with no | no
      · exact no rfl
      · have := (fsn_iso rg1 rg2).mpr ik
        rw [no] at this
        cases this
    · refine ⟨_, rfl, rfl, _, rfl, if_f (by simp) ?_⟩
      obtain ⟨hl, gd⟩ := fsn_some yes
      have pm := gd.perm hl
      have pp := iso_of_gd gd hl rg1 rg2
      have s13 := s12.trans s3
      have GL1 := GL1.same s3
      have GL2 := GL2.same s3
      have SL1 := SL1.same s3
      have SL2 := SL2.same s3
      have G2 := G2.same s13
      -- behind the third list
      have fin : ∀ (R : Addr) (rs : List Sp3) (os : List Addr) (H4 : Hp), Same H3 H4 → H4 R = some (.lst (os.map V.ref)) → os.length = rs.length → (∀ (k : Nat) (o : Addr) (x : Sp3), os[k]? = some o → rs[k]? = some x → O3 CS CM CR H4 o x) → rs.length ≤ 1 → Ch3 a1 ps1 rs a1 qs2 →
          tTup (tCons (tC (.str "kin")) (tCons (tOp rCat (tOp rCat (tVar 2) (tVar 7)) (tCall (spUC C CS CM CR) [] E (tCons (tVar 1) (tCons (tVar 4) tNil)))) tNil)) [some (.ref g), some (.ref g2), some (.ref S1), some (.ref l1), some (.ref S2), some (.ref l2), some (.ref o), some (.ref R)] H4 Q := fun R rs os H4 s4 eR lR hR r1 chR => by
        obtain ⟨os1, c1, c2, c3⟩ := SL1.same s4
        refine ⟨_, rfl, _, rfl, S1, R, _, _, rfl, rfl, c1, eR, Nat.le_of_lt (small1000 (by rw [List.length_map, List.length_map, c2, List.length_map]; omega)), fun A hA => ?_⟩
        have s5 := same_upd (o := .lst (os1.map V.ref ++ os.map V.ref)) hA
        have e5 : upd H4 A (.lst (os1.map V.ref ++ os.map V.ref)) A = some (.lst ((os1 ++ os).map V.ref)) := by rw [upd_same, List.map_append]
        generalize upd H4 A (.lst (os1.map V.ref ++ os.map V.ref)) = H5 at *
        have s45 := s4.trans s5
        refine ⟨_, rfl, _, rfl, g2, S2, m, a1, qs, qs2, st2.map toM, rfl, G2.same s45, SL2.same s45, ch2, by rw [List.length_map]; omega, fun D H6 s6 U6 => ?_⟩
        obtain ⟨os2, d1, d2, d3⟩ := U6
        have ul := undC_len (st2.map toM) m qs
        rw [List.length_map] at ul
        refine ⟨A, D, _, _, rfl, rfl, s6 _ _ e5, d1, Nat.le_of_lt (small1000 (by rw [List.length_map, List.length_append, List.length_map, c2, d2, List.length_map]; omega)), fun B hB => ?_⟩
        have s7 := same_upd (o := .lst ((os1 ++ os).map V.ref ++ os2.map V.ref)) hB
        have e7 : upd H6 B (.lst ((os1 ++ os).map V.ref ++ os2.map V.ref)) B = some (.lst (((os1 ++ os) ++ os2).map V.ref)) := by rw [upd_same, List.map_append (l₁ := os1 ++ os)]
        generalize upd H6 B (.lst ((os1 ++ os).map V.ref ++ os2.map V.ref)) = H7 at *
        refine ⟨(by show 2 ≤ sizeLine; decide), fun tt htt => ?_⟩
        have s8 := same_upd (o := .tup [.str "kin", .ref B]) htt
        have s48 := ((s5.trans s6).trans s7).trans s8
        have S12 : ∀ (k : Nat) (o : Addr) (x : Sp3), (os1 ++ os)[k]? = some o → (st1.map toM ++ rs)[k]? = some x → O3 CS CM CR (upd H7 tt (.tup [.str "kin", .ref B])) o x := fun k o x a b => by
          by_cases c : k < os1.length
          · rw [List.getElem?_append_left c] at a
            rw [List.getElem?_append_left (by omega)] at b
            exact (c3 k o x a b).same s48
          · rw [List.getElem?_append_right (by omega)] at a
            rw [List.getElem?_append_right (by omega)] at b
            rw [c2] at a
            exact (hR _ o x a b).same s48
        refine q tt B ((st1.map toM ++ rs) ++ undC m qs (st2.map toM)) _ ((s13.trans s4).trans s48) upd_same (St3.app (s8 _ _ e7) (by rw [List.length_append, List.length_append, c2, lR]) d2 S12 fun k o x a b => (d3 k o x a b).same (s7.trans s8)) ?_ ?_
        · exact (ch1.app chR).app (ch2.und G2.va G2.n1 G2.n8 G2.l24)
        · rw [List.length_append, List.length_append, List.length_map]
          omega
      obtain ⟨us, GA, eu⟩ := GL1.at_
      obtain ⟨vs, GB, ev⟩ := GL2.at_
      obtain ⟨dxa, ta, ha, _⟩ := id GA.ob
      obtain ⟨dxb, tb, hb, _⟩ := id GB.ob
      refine ⟨_, rfl, _, rfl, l1, l2, dxa, dxb, _, _, rfl, rfl, ha, hb, l1, (a1 : Int), us, _, rfl, GA, .inl ⟨l2, (a1 : Int), vs, rfl, GB, _, rfl, _, rfl, ?_⟩⟩
      rw [eu, ev, decide_eq_true rfl]
      by_cases c : ps1 = qs2
      · refine if_t (by rw [decide_eq_true c]; rfl) ?_
        refine ⟨(by show 0 ≤ sizeLine; exact Nat.zero_le _), fun R hR => ?_⟩
        refine fin R [] [] _ (same_upd hR) upd_same rfl (fun k o x a b => by cases b) (Nat.zero_le _) ?_
        rw [c]
        exact .nil
      · refine if_f (by rw [decide_eq_false c]; rfl) ?_
        refine ⟨_, rfl, (by show 1 ≤ sizeLine; decide), fun R hR => ?_⟩
        have s4 := same_upd (o := .lst [.ref o]) hR
        refine fin R [.R t (ens t ps1 qs2)] [o] _ s4 upd_same rfl (fun k o' x a b => ?_) (Nat.le_refl _) ?_
        · match k, a, b with
          | 0, a, b =>
            cases a
            cases b
            exact (show O3 CS CM CR H3 o (.R t (ens t ps1 qs2)) from RO).same s4
        · have := Ch3.one (n := a1) (ps := ps1) (x := .R t (ens t ps1 qs2)) ⟨pm, ens_perm pp⟩
          rw [show (res3 a1 ps1 (.R t (ens t ps1 qs2))).2 = qs2 from res_ens pp] at this
          exact this
end
end Lw
set_option Elab.async false
set_option linter.all false
set_option maxRecDepth 100000
/-! a, *b = a tuple: the rest becomes a new list -/
namespace Lw
open PySem L2 PyProof.Rows
section
variable {X : Cx} {pos : Pos}
theorem pgs_starL {e : Expr} {p : Pos} {es : List Expr} {t : TG} {u : TGs} (h1 : PG X e t) (h2 : PGs X es u)
    (hs : (assignEach (.Starred e p :: es) X.env).map (·.2) = assign e X.env :: (assignEach es X.env).map (·.2) := by rfl) : PGs X (.Starred e p :: es) (gCons t u) :=
  ⟨fun pins s σ H vs us Q I r h => by
    obtain ⟨v, vr, rfl, h⟩ := h
    cases r with
    | cons r rr =>
      rw [hs]
      exact assignInOrder_cons (thn (h1.run pins s σ H _ _ _ I r h) fun _ s1 ⟨σ1, H1, I1, q1⟩ => h2.run pins s1 σ1 H1 _ _ Q I1 rr q1)⟩
/-- one value ahead, the rest as a new list -/
theorem unp1 {prog : Program} {w : World} {A : Around} {E : Value → Shared → Prop} {s : Shared} {t : Addr} {x : Value} {xs : List Value} {Q : List Value → Shared → Prop} (hh : A.handled = none) (ht : IsTup s.heap t (x :: xs).toArray) (hz : xs.length < sizeLine)
    (h : ∀ (h1 : Heap) (tk : Nat), (∀ b o, s.heap.get? b = some o → h1.get? b = some o) → Q [x, .ref h1.objs.size] { s with heap := h1.push { cls := .type "list", data := .seq xs.toArray }, toks := tk }) :
    wpAny (model prog w) A (unpackItems (.ref t) 2 (some 1)) Q E s := by
  have lt : t < s.heap.objs.size := by
    obtain ⟨o, e, _⟩ := id ht
    exact Heap.lt_size e
  have nt := Nat.ne_of_lt lt
  unfold unpackItems notIterableAtAll
  refine wpAny_bind (wpAny_bind (wpAny_specialOf ht.typeIs slot_tuple_iter.lookup (wpAny_pure ?_)))
  simp only [Bool.false_eq_true, if_false]
  refine wpAny_bind (wpAny_holding (iter_tuple ht (wpAny_bind (wpAny_holding (draw_tuple nt 1 0 _ _ ⟨_, Heap.get?_push_size _ rfl, rfl, rfl⟩ (ht.push _) (by simp) fun h1 it1 sb => ?_)))))
  have ht1 : IsTup h1 t (x :: xs).toArray := (ht.push _).extBut sb.extBut nt
  obtain ⟨o1, e1, _⟩ := id it1
  obtain ⟨o2, e2, _⟩ := id ht1
  show wpAny _ _ (if (1 : Nat) < 1 then _ else _) _ _ _
  rw [if_neg (Nat.lt_irrefl 1)]
  refine wpAny_bind (wpAny_holding (PySem.W.kun_collect (s := { s with heap := h1 }) (T := "tuple_iterator") (.inr (.inr (.inr rfl))) (Walks.tuple (A := A.in1) hh s.heap.objs.size t nt (x :: xs).toArray) (fun j u st => st.1.typeIs) (k := 1) (by simp) ⟨it1, ht1⟩ (Heap.lt_size e1) (Heap.lt_size e2) (fun h2 tk kp => ?_) (by rw [List.size_toArray, List.length_cons]; omega)))
  show wpAny _ _ (if xs.length < 0 then _ else _) _ _ _
  rw [if_neg (Nat.not_lt_zero _)]
  show wpAny _ _ (newList (xs.take xs.length) >>= fun d => pure ([x] ++ [d] ++ xs.drop xs.length)) _ _ _
  rw [List.take_length, List.drop_length]
  have kp0 : ∀ b o, s.heap.get? b = some o → h2.get? b = some o := fun b o e => kp b o (Nat.ne_of_lt (Heap.lt_size e)) (sb.extBut b o (Nat.ne_of_lt (Heap.lt_size e)) (Heap.get?_push_of_some _ e))
  exact wpAny_bind (wpAny_newList (s := { s with heap := h2, toks := tk }) (wpAny_pure (h h2 tk kp0)) (by omega))
def gStar (K : PySem.W.Frag) (t : TGs) : TG := fun v σ H Q => ∃ a x xs, v = .ref a ∧ SqT K H a (x :: xs) ∧ ∀ D, H D = none → t [x, .ref D] σ (upd H D (.lst xs)) Q
theorem pg_star {es : List Expr} {k : Nat} {t : TGs} (hc : X.calm = true) (h : PGs X es t) (hn : (assignEach es X.env).length = 2 := by rfl) (hst : (assignEach es X.env).findIdx? (·.1) = some 1 := by rfl) : PG X (.Tuple es k pos) (gStar X.K t) := by
  refine ⟨fun pins s σ H v u Q I r hw => ?_⟩
  obtain ⟨a, x, xs, rfl, hq, hw⟩ := hw
  cases r
  obtain ⟨its, rv, ht, hz⟩ := I.tuple hq
  cases rv with
  | cons rx rr =>
    rename_i ix ixs
    rw [assign_Tuple]
    refine wpAny_bind (wpAny_standAt ?_)
    unfold unpack
    rw [hn, hst]
    have lz : ixs.length < sizeLine := by
      have := rr.length
      rw [List.length_cons] at hz
      omega
    refine wpAny_bind (wpAny_holding (unp1 (I.ok.hd hc) ht lz fun h1 tk kp => ?_))
    have I0 := I.kept (t' := tk) kp
    have fr : H h1.objs.size = none := I0.hok.fresh (Nat.le_refl _)
    have I1 := I0.laid (a := h1.objs.size) (o := .lst xs) (t' := tk) (h' := h1.push { cls := .type "list", data := .seq ixs.toArray }) (fun b u e => Heap.get?_push_of_some _ e) (Nat.le_refl _) ⟨by rw [List.length_cons] at hz; omega, ixs, 0, rr, Heap.get?_push_size _ rfl⟩
    exact h.run pins _ σ _ [x, .ref h1.objs.size] _ Q I1 (.cons rx (.cons rfl .nil)) (hw _ fr)
end
end Lw
set_option Elab.async false
set_option linter.all false
set_option maxRecDepth 100000
/-! check_comparison of a chain between kin graphs -/
namespace Lw
open PySem L2
abbrev sCk3 : Stmt := top 63
def spCk3 (C CS CM CR : Addr) : Sp := fun vs H Q _ => ∃ (g g2 t D : Addr) (n m : Nat) (ps qs : Ps) (st : List Sp3), vs = [.ref g, .ref g2, .ref t] ∧ Gok C H g n ps ∧ Gok C H g2 m qs ∧ H t = some (.tup [.str "kin", .ref D]) ∧ St3 CS CM CR H D st ∧ Ch3 n ps st m qs ∧ st.length ≤ 60 ∧ ∀ H', Same H H' → Q (.bl true) H'
theorem dKin : decide (V.str "kin" = V.str "kin") = true := by decide +kernel
section
variable {P : Program} {w : World} {K : PySem.W.Frag} {mg : Str → Option Value} {base : Heap} {f C CS CM CR : Addr} {mc : Value} {fd : FuncData} {k : Nat}
theorem scCk3 : FnScope ["one", "other", "claimed", "word", "chains"] ["one", "other", "claimed"] (defScope sCk3) := ⟨rfl, rfl, rfl, by decide +kernel, rfl, by decide +kernel, by decide +kernel⟩
theorem ok_ck3 (F : Fun K "check_comparison" "check_comparison" sCk3 f fd) (T : Bi mg) (cL : C8.Cal P w K mg base 9 "leads_to" (spLT3 C CS CM CR) []) : FnOk P w K mg base CX0 (k + 10) f fd ["one", "other", "claimed"] (spCk3 C CS CM CR) := by
  refine F.ok scCk3 (fun vs H Q E h => ?_) (fun cdv A outer s H vs Q E hr h => ?_)
  · obtain ⟨g, g2, t, D, n, m, ps, qs, st, rfl, _⟩ := h
    rfl
  · obtain ⟨g, g2, t, D, n, m, ps, qs, st, rfl, G1, G2, et, S, ch, l60, q⟩ := h
    refine ⟨_, pss_cons (ps_asg (pv 2) (pg_star rfl (pgs_cons (pg_name (i := 3) scCk3.nd rfl (.inl rfl)) (pgs_starL (pg_name (i := 4) scCk3.nd rfl (.inl rfl)) pgs_nil))))
      (pss_cons (ps_if (pt_cmpR op_eq (pe_callB call_len_seq (by rfl) T.len PySem.boot_len (pa_cons (pv 4) pa_nil)) pe_int (nomark _))
        (pss_one (ps_ret (pe_and (pe_cmpR op_eq (pv 3) pe_str (nomark _)) (pe_one (C8.pe_c cL hr (by omega) (by rfl) (pa_cons (pv 0) (pa_cons (pv 1) (pa_cons (pe_ix ix_list (pv 4) pe_int (fun _ _ => rfl)) pa_nil)))))))) pss_nil)
      (pss_one ps_never)), ?_⟩
    refine ⟨_, rfl, t, _, _, rfl, SqT.of et, fun L hL => ?_⟩
    have s1 := same_upd (o := .lst [.ref D]) hL
    have e1 : upd H L (.lst [.ref D]) L = some (.lst [.ref D]) := upd_same
    generalize upd H L (.lst [.ref D]) = H1 at *
    refine ⟨_, _, rfl, _, _, rfl, rfl, ?_⟩
    refine ⟨_, rfl, L, _, rfl, .inl (SqL.of e1), rfl, _, rfl, if_t rfl ?_⟩
    refine ⟨_, rfl, rfl, _, rfl, if_t dKin ?_⟩
    exact ⟨_, rfl, _, rfl, _, rfl, L, _, _, .ref D, rfl, rfl, SqL.of e1, rfl, g, g2, D, n, m, ps, qs, st, rfl, G1.same s1, G2.same s1, S.same s1, ch, l60, fun H2 s2 => q H2 (s1.trans s2)⟩
end
end Lw
set_option Elab.async false
set_option linter.all false
set_option maxRecDepth 100000
/-! a drawn chain of steps and the plans along it -/
namespace Lw
open PySem L2
abbrev sLCh : Stmt := top 79
theorem PlanAt.offL {H : Hp} {S p q : Addr} {n : Int} {ts : Es} {xs : List V} {u : HO} (h : PlanAt H p q n ts) (e : H S = some (.lst xs)) (nq : q ≠ S) : PlanAt (upd H S u) p q n ts := by
  have off : ∀ {c : Addr} {ys : List V}, H c = some (.tup ys) → upd H S u c = some (.tup ys) := fun {c ys} hc => by
    rw [upd_ne (fun z => by rw [z, e] at hc; cases hc)]
    exact hc
  exact ⟨off h.tp, by rw [upd_ne nq]; exact h.ls, fun x hx => off (h.ed x hx), h.va, h.n1⟩
theorem SdAt.offL {H : Hp} {S d : Addr} {x : Sd} {xs : List V} {u : HO} (h : SdAt H d x) (e : H S = some (.lst xs)) : SdAt (upd H S u) d x := by
  have off : ∀ {c : Addr} {o : HO}, H c = some o → (∀ ys, o ≠ .lst ys) → upd H S u c = some o := fun {c o} hc no => by
    rw [upd_ne (fun z => by rw [z, e] at hc; exact no _ (Option.some.inj hc).symm)]
    exact hc
  cases x with
  | spl s p =>
    obtain ⟨t, h1, h2⟩ := h
    exact ⟨t, off h1 (fun _ z => by cases z), off h2 (fun _ z => by cases z)⟩
  | mrg a b => exact off (show H d = some (.tup [.str "merge", .int a, .int b]) from h) (fun _ z => by cases z)
  | ren ss es =>
    obtain ⟨t, v, h1, h2, h3⟩ := h
    obtain ⟨o2, d2, h2⟩ := h2
    obtain ⟨o3, d3, h3⟩ := h3
    exact ⟨t, v, off h1 (fun _ z => by cases z), ⟨o2, d2, off h2 (fun _ z => by cases z)⟩, ⟨o3, d3, off h3 (fun _ z => by cases z)⟩⟩
def spLCh : Sp := fun vs H Q _ => ∃ (b l p q : Addr) (ns : List Int) (n many : Nat) (ts : Es), vs = [.ref b, .ref p, .int (many : Int)] ∧ BagAt H b l ns ∧ PlanAt H p q (n : Int) ts ∧ n ≤ 8 ∧ many ≤ 20 ∧ ts.length ≤ 24 ∧
  ∀ (t S L p' q' : Addr) (xs : List V) (m : Nat) (us : Es) (H' : Hp), KeepB b H H' → BagAt H' b l ns → H' t = some (.tup [.ref S, .ref L]) → H' L = some (.lst (xs ++ [.ref p'])) → L ≠ b → L ≠ l → PlanAt H' p' q' (m : Int) us → m ≤ 8 → us.length ≤ 24 → Q (.ref t) H'
section
variable {P : Program} {w : World} {K : PySem.W.Frag} {mg : Str → Option Value} {base : Heap} {f : Addr} {fd : FuncData} {k : Nat}
theorem scLCh : FnScope ["_law_bag_here", "_law_plan_here", "_law_many", "_law_steps", "_law_plans", "_law_turn", "_law_step"] ["_law_bag_here", "_law_plan_here", "_law_many"] (defScope sLCh) := ⟨rfl, rfl, rfl, by decide +kernel, rfl, by decide +kernel, by decide +kernel⟩
set_option maxHeartbeats 8000000 in
theorem ok_lch (F : Fun K "_law_chain" "_law_chain" sLCh f fd) (T : Bi mg) (cF : C8.Cal P w K mg base 3 "_law_step_for" spStF []) (cT : C8.Cal P w K mg base 2 "_law_stepped" spStd []) : FnOk P w K mg base CX0 (k + 4) f fd ["_law_bag_here", "_law_plan_here", "_law_many"] spLCh := by
  refine F.ok scLCh (fun vs H Q E h => ?_) (fun cdv A outer s H vs Q E hr h => ?_)
  · obtain ⟨b, l, p, q, ns, n, many, ts, rfl, _⟩ := h
    rfl
  · obtain ⟨b, l, p, q0, ns, n, many, ts, rfl, B, PA, hn, hm, hl, q⟩ := h
    refine ⟨_, pss_cons (ps_par (i := 3) (j := 4) (by rfl) scLCh.nd rfl rfl (by decide) rfl rfl (pa_cons (pe_lst pa_nil) (pa_cons (pe_lst (pa_cons (pv 1) pa_nil)) pa_nil)) (by rfl))
      (pss_cons (ps_for PassesOwn.never rfl (pi_range1 (by rfl) T.range (pa_cons (pv 2) pa_nil)) (pg_name (i := 5) scLCh.nd rfl (.inl rfl))
        (pss_cons (ps_set (i := 6) scLCh.nd rfl (.inl rfl) (C8.pe_c cF hr (by omega) (by rfl) (pa_cons (pv 0) (pa_cons (pe_ix ix_list (pv 4) (pe_un un_neg pe_int) (fun _ _ => rfl)) pa_nil))))
        (pss_cons (ps_expr (pe_bm PySem.F.plainAttrs_list PySem.F.slot_list_append PySem.F.type_list_append mt_append (pv 3) (pa_cons (pv 6) pa_nil)))
        (pss_one (ps_expr (pe_bm PySem.F.plainAttrs_list PySem.F.slot_list_append PySem.F.type_list_append mt_append (pv 4) (pa_cons (C8.pe_c cT hr (by omega) (by rfl) (pa_cons (pe_ix ix_list (pv 4) (pe_un un_neg pe_int) (fun _ _ => rfl)) (pa_cons (pv 6) pa_nil))) pa_nil)))))))
      (pss_one (ps_ret (pe_tup (pa_cons (pv 3) (pa_cons (pv 4) pa_nil)))))), ?_⟩
    refine ⟨(by show 0 ≤ sizeLine; exact Nat.zero_le _), fun S hS => ?_⟩
    have s1 := same_upd (o := .lst []) hS
    have e1 : upd H S (.lst []) S = some (.lst []) := upd_same
    have nSb : S ≠ b := B.ne_new hS
    have nSl : S ≠ l := (ne_of_none B.sc hS).symm
    have nqS : q0 ≠ S := ne_of_none PA.ls hS
    generalize upd H S (.lst []) = H1 at *
    refine ⟨_, rfl, (by show 1 ≤ sizeLine; decide), fun L hL => ⟨_, _, rfl, ?_⟩⟩
    have s2 := same_upd (o := .lst [.ref p]) hL
    have e2 : upd H1 L (.lst [.ref p]) L = some (.lst ([] ++ [.ref p])) := upd_same
    have B1 := B.same s1
    have nLb : L ≠ b := B1.ne_new hL
    have nLl : L ≠ l := (ne_of_none B1.sc hL).symm
    have nqL : q0 ≠ L := ne_of_none (PA.same s1).ls hL
    have nSL : S ≠ L := ne_of_none e1 hL
    have hL0 : H L = none := s1.free hL
    have e1 := s2 _ _ e1
    have s12 := s1.trans s2
    generalize upd H1 L (.lst [.ref p]) = H2 at *
    refine ⟨_, rfl, (many : Int), rfl, by omega, by omega, ?_⟩
    refine for_it (walk_range (lo := 0) (n := ((many : Int)).toNat)) (fun i σ H' => ∃ (v5 v6 : Option V) (p' q' : Addr) (ss xs : List V) (m : Nat) (us : Es), σ = [some (.ref b), some (.ref p), some (.int (many : Int)), some (.ref S), some (.ref L), v5, v6] ∧ KeepB b H H' ∧ BagAt H' b l ns ∧ H' S = some (.lst ss) ∧ ss.length = i ∧ H' L = some (.lst (xs ++ [.ref p'])) ∧ xs.length = i ∧ PlanAt H' p' q' (m : Int) us ∧ q' ≠ S ∧ q' ≠ L ∧ m ≤ 8 ∧ us.length ≤ 24)
      ⟨none, none, p, q0, [], [], n, ts, rfl, .of_same s12, B.same s12, e1, rfl, e2, rfl, PA.same s12, nqS, nqL, hn, hl⟩ (fun _ _ _ _ _ => True.intro) ?_ ?_
    · rintro i x σ H3 H4 hi ⟨v5, v6, p', q', ss, xs, m, us, rfl, k3, B3, eS, lS, eL, lL, PA3, nS3, nL3, hm3, hl3⟩ ⟨rfl, rfl⟩
      refine ⟨_, rfl, _, rfl, 1, rfl, L, _, _, .ref p', rfl, rfl, SqL.of eL, at_last, b, l, p', q', ns, (m : Int), us, rfl, B3, PA3, by omega, by omega, fun d H5 x k5 B5 sd ok => ?_⟩
      rw [Int.toNat_natCast] at ok
      have eS5 := k5 _ _ nSb eS
      have eL5 := k5 _ _ nLb eL
      have PA5 := PA3.keep' B3 k5
      refine ⟨_, rfl, .inl ⟨rfl, _, SqL.of eS5⟩, _, rfl, S, _, _, rfl, rfl, eS5, small1000 (by omega), ?_⟩
      have PA6 := PA5.offL (u := .lst (ss ++ [.ref d])) eS5 nS3
      have sd6 := sd.offL (u := .lst (ss ++ [.ref d])) eS5
      have B6 := B5.off (o := .lst (ss ++ [.ref d])) nSb nSl
      have k6 : KeepB b H (upd H5 S (.lst (ss ++ [.ref d]))) := (k3.trans k5).at hS
      have eS6 : upd H5 S (.lst (ss ++ [.ref d])) S = some (.lst (ss ++ [.ref d])) := upd_same
      have eL6 : upd H5 S (.lst (ss ++ [.ref d])) L = some (.lst (xs ++ [.ref p'])) := by rw [upd_ne nSL.symm]; exact eL5
      generalize upd H5 S (.lst (ss ++ [.ref d])) = H6 at *
      refine ⟨_, rfl, .inl ⟨rfl, _, SqL.of eL6⟩, _, rfl, 1, rfl, L, _, _, .ref p', rfl, rfl, SqL.of eL6, at_last, _, rfl, p', q', d, m, us, x, rfl, PA6, by omega, by omega, sd6, ok, fun p2 q2 m2 ws H7 s7 n7 n7q PA7 st7 => ?_⟩
      have eS7 := s7 _ _ eS6
      have eL7 := s7 _ _ eL6
      have nS7 : q2 ≠ S := (ne_of_none eS6 n7q).symm
      have nL7 : q2 ≠ L := (ne_of_none eL6 n7q).symm
      have bd : m2 ≤ 8 ∧ ws.length ≤ 24 := by
        cases x with
        | spl st part =>
          obtain ⟨em, ew⟩ := st7
          obtain ⟨_, o2, o3⟩ := ok
          have := congrArg List.length ew
          rw [splP_len, psL_len] at this
          omega
        | mrg a b =>
          obtain ⟨em, ew⟩ := st7
          have h1 := congrArg List.length ew
          have h2 := mrgP_len a b (psOf us)
          rw [psL_len] at h1 h2
          omega
        | ren a b =>
          obtain ⟨em, rp⟩ := st7
          have lz := rp.len
          rw [psL_len, psL_len] at lz
          omega
      refine ⟨L, _, _, rfl, rfl, eL7, by rw [List.length_append, List.length_singleton]; exact small1000 (by omega), ?_⟩
      exact ⟨_, _, p2, q2, ss ++ [.ref d], xs ++ [.ref p'], m2, ws, rfl, (k6.trans (.of_same s7)).at hL0, (B6.same s7).off nLb nLl, by rw [upd_ne nSL]; exact eS7, by rw [List.length_append, List.length_singleton, lS], upd_same, by rw [List.length_append, List.length_singleton, lL], PA7.offL eL7 nL7, nS7, nL7, bd.1, bd.2⟩
    · rintro σ H3 ⟨v5, v6, p', q', ss, xs, m, us, rfl, k3, B3, eS, lS, eL, lL, PA3, nS3, nL3, hm3, hl3⟩
      refine ⟨_, rfl, _, rfl, (by show 2 ≤ sizeLine; decide), fun t ht => ?_⟩
      have s4 := same_upd (o := .tup [.ref S, .ref L]) ht
      exact q t S L p' q' xs m us _ (k3.trans (.of_same s4)) (B3.same s4) upd_same (s4 _ _ eL) nLb nLl (PA3.same s4) hm3 hl3
end
end Lw
set_option Elab.async false
set_option linter.all false
set_option maxRecDepth 100000
/-! two drawn graphs: kin by splits, or nearly, or drawn apart -/
namespace Lw
open PySem L2
abbrev sTg : Stmt := top 81
/-- one edge gets another target -/
theorem chg_valid {n : Int} {us : Es} {c : Nat} {e : Addr × Int × Int} {tt : Addr} {v : Int} (h : Valid n us) (he : us[c]? = some e) (v0 : 0 ≤ v) (v1 : v < n) : Valid n (us.take c ++ [(tt, e.2.1, v)] ++ us.drop (c + 1)) := by
  have hc := (List.getElem?_eq_some_iff.mp he).1
  have mem : ∀ x, x ∈ us → x = e ∨ x ∈ us.take c ∨ x ∈ us.drop (c + 1) := fun x hx => by
    rw [← List.take_append_drop c us, List.mem_append] at hx
    rcases hx with hx | hx
    · exact .inr (.inl hx)
    · rw [List.drop_eq_getElem_cons hc] at hx
      rcases List.mem_cons.mp hx with hx | hx
      · rw [List.getElem?_eq_getElem hc] at he
        exact .inl (hx.trans (Option.some.inj he))
      · exact .inr (.inr hx)
  refine ⟨fun x hx => ?_, fun k k0 k1 => ?_⟩
  · rw [List.mem_append, List.mem_append, List.mem_singleton] at hx
    rcases hx with (hx | hx) | hx
    · exact h.rg x (List.mem_of_mem_take hx)
    · have := h.rg e (List.mem_of_getElem? he)
      rw [hx]
      exact ⟨this.1, this.2.1, v0, v1⟩
    · exact h.rg x (List.mem_of_mem_drop hx)
  · obtain ⟨x, hx, ek⟩ := h.sr k k0 k1
    rcases mem x hx with rfl | hx | hx
    · exact ⟨_, List.mem_append_left _ (List.mem_append_right _ (List.mem_singleton.mpr rfl)), ek⟩
    · exact ⟨x, List.mem_append_left _ (List.mem_append_left _ hx), ek⟩
    · exact ⟨x, List.mem_append_right _ hx, ek⟩
/-- two plans beside the bag -/
structure Tg (b l : Addr) (ns : List Int) (p q : Addr) (n : Nat) (ts : Es) (p1 q1 : Addr) (m : Nat) (us : Es) (H : Hp) : Prop where
  bag : BagAt H b l ns
  pl : PlanAt H p q (n : Int) ts
  po : PlanAt H p1 q1 (m : Int) us
section
variable {b l p q p1 q1 : Addr} {ns : List Int} {n m : Nat} {ts us : Es} {H H' : Hp} {o : HO}
theorem Tg.upd (h : Tg b l ns p q n ts p1 q1 m us H) (BO : BagO l ns o) : Tg b l ns p q n ts p1 q1 m us (L2.upd H b o) := ⟨h.bag.upd BO, h.pl.keep' h.bag .updb, h.po.keep' h.bag .updb⟩
theorem Tg.same (h : Tg b l ns p q n ts p1 q1 m us H) (s : Same H H') : Tg b l ns p q n ts p1 q1 m us H' := ⟨h.bag.same s, h.pl.same s, h.po.same s⟩
theorem Tg.keep (h : Tg b l ns p q n ts p1 q1 m us H) (k : KeepB b H H') (B : BagAt H' b l ns) : Tg b l ns p q n ts p1 q1 m us H' := ⟨B, h.pl.keep' h.bag k, h.po.keep' h.bag k⟩
end
def spTg : Sp := fun vs H Q _ => ∃ (b l : Addr) (ns : List Int), vs = [.ref b] ∧ BagAt H b l ns ∧
  ∀ (t p1 q1 p2 q2 : Addr) (n1 n2 : Nat) (us1 us2 : Es) (H' : Hp), KeepB b H H' → Tg b l ns p1 q1 n1 us1 p2 q2 n2 us2 H' → H' t = some (.tup [.ref p1, .ref p2]) → n1 ≤ 8 → us1.length ≤ 16 → n2 ≤ 8 → us2.length ≤ 16 → Q (.ref t) H'
section
variable {P : Program} {w : World} {K : PySem.W.Frag} {mg : Str → Option Value} {base : Heap} {f : Addr} {fd : FuncData} {k : Nat}
theorem scTg : FnScope ["_law_bag_here", "_law_plan_here", "_law_one", "_law_way", "_law_at", "_law_pairs"] ["_law_bag_here"] (defScope sTg) := ⟨rfl, rfl, rfl, by decide +kernel, rfl, by decide +kernel, by decide +kernel⟩
set_option maxHeartbeats 8000000 in
theorem ok_tg (F : Fun K "_law_two_graphs" "_law_two_graphs" sTg f fd) (T : Bi mg) (cU : C8.Cal P w K mg base 1 "_law_pull" spPull []) (cP : C8.Cal P w K mg base 2 "_law_plan" spPlan []) (cS : C8.Cal P w K mg base 4 "_law_splits" spSps []) : FnOk P w K mg base CX0 (k + 5) f fd ["_law_bag_here"] spTg := by
  refine F.ok scTg (fun vs H Q E h => ?_) (fun cdv A outer s H vs Q E hr h => ?_)
  · obtain ⟨b, l, ns, rfl, _⟩ := h
    rfl
  · obtain ⟨b, l, ns, rfl, B, q⟩ := h
    refine ⟨_, pss_cons (ps_set (i := 1) scTg.nd rfl (.inl rfl) (C8.pe_c cP hr (by omega) (by rfl) (pa_cons (pv 0) (pa_cons pe_int (pa_cons pe_int pa_nil)))))
      (pss_cons (ps_set (i := 2) scTg.nd rfl (.inl rfl) (C8.pe_c cS hr (by omega) (by rfl) (pa_cons (pv 0) (pa_cons (pv 1) (pa_cons (C8.pe_c cU hr (by omega) (by rfl) (pa_cons (pv 0) (pa_cons pe_int pa_nil))) (pa_cons pe_int pa_nil))))))
      (pss_cons (ps_set (i := 3) scTg.nd rfl (.inl rfl) (C8.pe_c cU hr (by omega) (by rfl) (pa_cons (pv 0) (pa_cons pe_int pa_nil))))
      (pss_cons (ps_if (pt_cmpR op_eq (pv 3) pe_int (nomark _)) (pss_one (ps_ret (pe_tup (pa_cons (pv 2) (pa_cons (C8.pe_c cS hr (by omega) (by rfl) (pa_cons (pv 0) (pa_cons (C8.pe_c cP hr (by omega) (by rfl) (pa_cons (pv 0) (pa_cons pe_int (pa_cons pe_int pa_nil)))) (pa_cons (C8.pe_c cU hr (by omega) (by rfl) (pa_cons (pv 0) (pa_cons pe_int pa_nil))) (pa_cons pe_int pa_nil))))) pa_nil))))) pss_nil)
      (pss_cons (ps_if (pt_cmpR op_eq (pv 3) pe_int (nomark _))
        (pss_cons (ps_set (i := 4) scTg.nd rfl (.inl rfl) (C8.pe_c cU hr (by omega) (by rfl) (pa_cons (pv 0) (pa_cons (pe_callB call_len_seq (by rfl) T.len PySem.boot_len (pa_cons (pe_ix ix_tup (pv 1) pe_int (fun _ _ => rfl)) pa_nil)) pa_nil))))
        (pss_cons (ps_set (i := 5) scTg.nd rfl (.inl rfl) (pe_op op_cat (pe_op op_cat (pe_slice sl_list (pe_ix ix_tup (pv 1) pe_int (fun _ _ => rfl)) po_none (po_some (pv 4))) (pe_lst (pa_cons (pe_tup (pa_cons (pe_ix ix_tup (pe_ix ix_list (pe_ix ix_tup (pv 1) pe_int (fun _ _ => rfl)) (pv 4) (fun _ _ => rfl)) pe_int (fun _ _ => rfl)) (pa_cons (C8.pe_c cU hr (by omega) (by rfl) (pa_cons (pv 0) (pa_cons (pe_ix ix_tup (pv 1) pe_int (fun _ _ => rfl)) pa_nil))) pa_nil))) pa_nil))) (pe_slice sl_list (pe_ix ix_tup (pv 1) pe_int (fun _ _ => rfl)) (po_some (pe_op op_add (pv 4) pe_int)) po_none)))
        (pss_one (ps_set (i := 1) scTg.nd rfl (.inl rfl) (pe_tup (pa_cons (pe_ix ix_tup (pv 1) pe_int (fun _ _ => rfl)) (pa_cons (pv 5) pa_nil))))))) pss_nil)
      (pss_one (ps_ret (pe_tup (pa_cons (pv 2) (pa_cons (C8.pe_c cS hr (by omega) (by rfl) (pa_cons (pv 0) (pa_cons (pv 1) (pa_cons (C8.pe_c cU hr (by omega) (by rfl) (pa_cons (pv 0) (pa_cons pe_int pa_nil))) (pa_cons pe_int pa_nil))))) pa_nil))))))))), ?_⟩
    refine ⟨_, rfl, b, l, ns, 3, 5, rfl, B, by decide, by decide, by decide, fun p q0 n0 ts H1 k1 B1 np nq PA0 hn0 hl0 => ?_⟩
    have m1 := PA0.n1
    obtain ⟨n, rfl⟩ : ∃ m : Nat, n0 = (m : Int) := ⟨n0.toNat, (Int.toNat_of_nonneg (by omega)).symm⟩
    refine ⟨_, rfl, _, rfl, _, rfl, b, l, ns, 5, rfl, B1, by decide, by decide, fun c1 o1 c10 c11 BO1 => ?_⟩
    have B2 := B1.upd BO1
    have PA2 := PA0.keep' B1 (.updb (o := o1))
    have k2 := k1.trans (.updb (o := o1))
    generalize upd H1 b o1 = H2 at *
    obtain ⟨y1, rfl⟩ : ∃ m : Nat, c1 = (m : Int) := ⟨c1.toNat, (Int.toNat_of_nonneg c10).symm⟩
    refine ⟨b, l, p, q0, ns, n, y1, 16, ts, rfl, B2, PA2, by omega, by omega, by decide, by omega, fun p1 q1 m us H3 k3 B3 PO hm8 hl16 _ _ => ?_⟩
    have TG : Tg b l ns p q0 n ts p1 q1 m us H3 := ⟨B3, PA2.keep' B2 k3, PO⟩
    have kk := k2.trans k3
    clear PA0 PA2 B1 B2 B3 PO
    refine ⟨_, rfl, b, l, ns, 4, rfl, TG.bag, by decide, by decide, fun way o2 w0 w1 BO2 => ?_⟩
    have TG := TG.upd BO2
    have kk := kk.trans (.updb (o := o2))
    generalize upd H3 b o2 = H4 at *
    -- the end
    have fin : ∀ (p q0 : Addr) (n : Nat) (ts : Es) (v4 v5 : Option V) (H5 : Hp), KeepB b H H5 → Tg b l ns p q0 n ts p1 q1 m us H5 → n ≤ 3 → ts.length ≤ 5 →
        tTup (tCons (tVar 2) (tCons (tCall spSps [] E (tCons (tVar 0) (tCons (tVar 1) (tCons (tCall spPull [] E (tCons (tVar 0) (tCons (tC (.int 5)) tNil))) (tCons (tC (.int 16)) tNil))))) tNil)) [some (.ref b), some (.ref p), some (.ref p1), some (.int way), v4, v5] H5 Q := fun p q0 n ts v4 v5 H5 k5 TG hn hl => by
      refine ⟨_, rfl, _, rfl, _, rfl, _, rfl, b, l, ns, 5, rfl, TG.bag, by decide, by decide, fun c o c0 c1 BO => ?_⟩
      have TG := TG.upd BO
      have k5 := k5.trans (.updb (o := o))
      generalize upd H5 b o = H6 at *
      obtain ⟨y, rfl⟩ : ∃ m : Nat, c = (m : Int) := ⟨c.toNat, (Int.toNat_of_nonneg c0).symm⟩
      refine ⟨b, l, p, q0, ns, n, y, 16, ts, rfl, TG.bag, TG.pl, by omega, by omega, by decide, by omega, fun p2 q2 m2 us2 H7 k7 B7 PO7 hm2 hl2 _ _ => ?_⟩
      refine ⟨(by show 2 ≤ sizeLine; decide), fun t ht => ?_⟩
      have s8 := same_upd (o := .tup [.ref p1, .ref p2]) ht
      exact q t p1 q1 p2 q2 m m2 us us2 _ ((k5.trans k7).trans (.of_same s8)) ⟨B7.same s8, (TG.po.keep' TG.bag k7).same s8, PO7.same s8⟩ upd_same hm8 hl16 hm2 hl2
    refine ⟨_, rfl, rfl, _, rfl, ?_⟩
    by_cases h3 : way = 3
    · refine if_t (decide_eq_true (congrArg V.int h3)) ?_
      refine ⟨_, rfl, _, rfl, _, rfl, b, l, ns, 3, 5, rfl, TG.bag, by decide, by decide, by decide, fun p' q' n0' ts' H5 k5 B5 np' nq' PA' hn0' hl0' => ?_⟩
      have m1' := PA'.n1
      obtain ⟨n', rfl⟩ : ∃ m : Nat, n0' = (m : Int) := ⟨n0'.toNat, (Int.toNat_of_nonneg (by omega)).symm⟩
      have TG5 : Tg b l ns p' q' n' ts' p1 q1 m us H5 := ⟨B5, PA', TG.po.keep' TG.bag k5⟩
      have kk := kk.trans k5
      refine ⟨_, rfl, b, l, ns, 4, rfl, TG5.bag, by decide, by decide, fun c o c0 c1 BO => ?_⟩
      have TG := TG5.upd BO
      have kk := kk.trans (.updb (o := o))
      generalize upd H5 b o = H6 at *
      obtain ⟨y, rfl⟩ : ∃ m : Nat, c = (m : Int) := ⟨c.toNat, (Int.toNat_of_nonneg c0).symm⟩
      refine ⟨b, l, p', q', ns, n', y, 16, ts', rfl, TG.bag, TG.pl, by omega, by omega, by decide, by omega, fun p2 q2 m2 us2 H7 k7 B7 PO7 hm2 hl2 _ _ => ?_⟩
      refine ⟨(by show 2 ≤ sizeLine; decide), fun t ht => ?_⟩
      have s8 := same_upd (o := .tup [.ref p1, .ref p2]) ht
      exact q t p1 q1 p2 q2 m m2 us us2 _ ((kk.trans k7).trans (.of_same s8)) ⟨B7.same s8, (TG.po.keep' TG.bag k7).same s8, PO7.same s8⟩ upd_same hm8 hl16 hm2 hl2
    · refine if_f (decide_eq_false fun z => h3 (V.int.inj z)) ?_
      refine ⟨_, rfl, rfl, _, rfl, ?_⟩
      by_cases hw : way = 2
      · refine if_t (decide_eq_true (congrArg V.int hw)) ?_
        have tl : 0 < ts.length := by
          obtain ⟨x, hx, _⟩ := TG.pl.va.sr 0 (by omega) (by omega)
          exact List.length_pos_of_mem hx
        have k12 : ts.length ≤ 5 := by omega
        refine ⟨_, rfl, _, rfl, p, _, _, _, rfl, rfl, SqT.of TG.pl.tp, rfl, q0, _, rfl, .inl (SqL.of TG.pl.ls), b, l, ns, _, rfl, TG.bag, by rw [vsOf_len]; omega, by rw [vsOf_len]; exact Int.lt_of_le_of_lt (show ((ts.length : Nat) : Int) ≤ 12 by omega) (by decide), fun c o2 c0 c1 BO2 => ?_⟩
        rw [vsOf_len] at c1
        obtain ⟨c, rfl⟩ : ∃ m : Nat, c = (m : Int) := ⟨c.toNat, (Int.toNat_of_nonneg c0).symm⟩
        have TG := TG.upd BO2
        have kk := kk.trans (.updb (o := o2))
        generalize upd H4 b o2 = H6 at *
        have hc : c < ts.length := by omega
        obtain ⟨e, he⟩ : ∃ e, ts[c]? = some e := ⟨_, List.getElem?_eq_getElem hc⟩
        have cl : c ≤ (vsOf ts).length := by rw [vsOf_len]; omega
        refine ⟨_, rfl, p, _, _, _, rfl, rfl, SqT.of TG.pl.tp, rfl, _, rfl, (c : Int), rfl, q0, _, rfl, SqL.of TG.pl.ls, fun r1 hr1 => ?_⟩
        rw [cut_lo cl, show (vsOf ts).take c = vsOf (ts.take c) by unfold vsOf; rw [List.map_take]]
        have t1 := same_upd (o := .lst (vsOf (ts.take c))) hr1
        have e1 : upd H6 r1 (.lst (vsOf (ts.take c))) r1 = some (.lst (vsOf (ts.take c))) := upd_same
        generalize upd H6 r1 (.lst (vsOf (ts.take c))) = H7 at *
        have TG := TG.same t1
        have kk := kk.trans (.of_same t1)
        have rb : r1 ≠ b := TG.bag.ne_vs e1
        have mem := List.mem_of_getElem? he
        refine ⟨_, rfl, p, _, _, _, rfl, rfl, SqT.of TG.pl.tp, rfl, _, rfl, q0, _, _, _, rfl, rfl, SqL.of TG.pl.ls, es_at he, e.1, _, _, _, rfl, rfl, SqT.of (TG.pl.ed e mem), rfl, _, rfl, _, rfl, p, _, _, _, rfl, rfl, SqT.of TG.pl.tp, rfl, b, l, ns, (n : Int), rfl, TG.bag, by omega, Int.lt_of_le_of_lt (show (n : Int) ≤ 5 by omega) (by decide), fun v o3 v0 v1 BO3 => ?_⟩
        have TG := TG.upd BO3
        have kk := kk.trans (.updb (o := o3))
        have e1 : upd H7 b o3 r1 = some (.lst (vsOf (ts.take c))) := (upd_ne rb).trans e1
        generalize upd H7 b o3 = H8 at *
        refine ⟨(by show 2 ≤ sizeLine; decide), fun tt htt => ?_⟩
        have t2 := same_upd (o := .tup [.int e.2.1, .int v]) htt
        have et : upd H8 tt (.tup [.int e.2.1, .int v]) tt = some (.tup [.int e.2.1, .int v]) := upd_same
        generalize upd H8 tt (.tup [.int e.2.1, .int v]) = H9 at *
        refine ⟨(by show 1 ≤ sizeLine; decide), fun r2 hr2 => ?_⟩
        have t3 := same_upd (o := .lst [.ref tt]) hr2
        have e2 : upd H9 r2 (.lst [.ref tt]) r2 = some (.lst [.ref tt]) := upd_same
        generalize upd H9 r2 (.lst [.ref tt]) = H10 at *
        refine ⟨r1, r2, _, _, rfl, rfl, t3 _ _ (t2 _ _ e1), e2, ?_, fun r3 hr3 => ?_⟩
        · rw [vsOf_len, List.length_take]
          show min c ts.length + 1 ≤ sizeLine
          exact Nat.le_of_lt (small1000 (by omega))
        have t4 := same_upd (o := .lst (vsOf (ts.take c) ++ [.ref tt])) hr3
        have e3 : upd H10 r3 (.lst (vsOf (ts.take c) ++ [.ref tt])) r3 = some (.lst (vsOf (ts.take c) ++ [.ref tt])) := upd_same
        generalize upd H10 r3 (.lst (vsOf (ts.take c) ++ [.ref tt])) = H11 at *
        have t24 := (t2.trans t3).trans t4
        have TG := TG.same t24
        have cl1 : c + 1 ≤ (vsOf ts).length := by rw [vsOf_len]; omega
        refine ⟨_, rfl, p, _, _, _, rfl, rfl, SqT.of TG.pl.tp, rfl, _, rfl, _, _, rfl, rfl, ((c + 1 : Nat) : Int), rfl, q0, _, rfl, SqL.of TG.pl.ls, fun r4 hr4 => ?_⟩
        rw [cut_hi cl1, show (vsOf ts).drop (c + 1) = vsOf (ts.drop (c + 1)) by unfold vsOf; rw [List.map_drop]]
        have t5 := same_upd (o := .lst (vsOf (ts.drop (c + 1)))) hr4
        have e4 : upd H11 r4 (.lst (vsOf (ts.drop (c + 1)))) r4 = some (.lst (vsOf (ts.drop (c + 1)))) := upd_same
        generalize upd H11 r4 (.lst (vsOf (ts.drop (c + 1)))) = H12 at *
        have ev : vsOf (ts.take c) ++ [.ref tt] ++ vsOf (ts.drop (c + 1)) = vsOf (ts.take c ++ [(tt, e.2.1, v)] ++ ts.drop (c + 1)) := by
          unfold vsOf
          rw [List.map_append, List.map_append]
          rfl
        refine ⟨r3, r4, _, _, rfl, rfl, t5 _ _ e3, e4, ?_, fun r5 hr5 => ?_⟩
        · rw [List.length_append, vsOf_len, vsOf_len, List.length_take, List.length_drop]
          show min c ts.length + 1 + (ts.length - (c + 1)) ≤ sizeLine
          exact Nat.le_of_lt (small1000 (by omega))
        rw [ev]
        have t6 := same_upd (o := .lst (vsOf (ts.take c ++ [(tt, e.2.1, v)] ++ ts.drop (c + 1)))) hr5
        have e5 : upd H12 r5 (.lst (vsOf (ts.take c ++ [(tt, e.2.1, v)] ++ ts.drop (c + 1)))) r5 = some (.lst (vsOf (ts.take c ++ [(tt, e.2.1, v)] ++ ts.drop (c + 1)))) := upd_same
        generalize upd H12 r5 (.lst (vsOf (ts.take c ++ [(tt, e.2.1, v)] ++ ts.drop (c + 1)))) = H13 at *
        have TG := (TG.same t5).same t6
        refine ⟨_, rfl, p, _, _, _, rfl, rfl, SqT.of TG.pl.tp, rfl, _, rfl, (by show 2 ≤ sizeLine; decide), fun p5 hp5 => ?_⟩
        have t7 := same_upd (o := .tup [.int (n : Int), .ref r5]) hp5
        have TG := TG.same t7
        have tall := ((t3.trans t4).trans t5).trans (t6.trans t7)
        have lens : (ts.take c ++ [(tt, e.2.1, v)] ++ ts.drop (c + 1)).length = ts.length := by
          rw [List.length_append, List.length_append, List.length_take, List.length_drop, List.length_singleton]
          omega
        refine fin p5 r5 n (ts.take c ++ [(tt, e.2.1, v)] ++ ts.drop (c + 1)) _ _ _ (kk.trans (.of_same (t2.trans tall))) ⟨TG.bag, ⟨upd_same, t7 _ _ e5, ?_, chg_valid TG.pl.va he v0 v1, TG.pl.n1⟩, TG.po⟩ (by omega) (by rw [lens]; exact k12)
        intro x hx
        rw [List.mem_append, List.mem_append, List.mem_singleton] at hx
        rcases hx with (hx | hx) | hx
        · exact TG.pl.ed x (List.mem_of_mem_take hx)
        · rw [hx]
          exact tall _ _ et
        · exact TG.pl.ed x (List.mem_of_mem_drop hx)
      · refine if_f (decide_eq_false fun z => hw (V.int.inj z)) ?_
        exact fin p q0 n ts _ _ H4 kk TG (by omega) (by omega)
end
end Lw
set_option Elab.async false
set_option linter.all false
set_option maxRecDepth 100000
namespace Lw
open PySem L2
abbrev sLaw : Stmt := top 82
abbrev NL : List Str := ["_law_script", "_law_bag_here", "_law_turn", "_law_first", "_law_second", "_law_some", "_law_third", "_law_graphs", "_law_table", "_law_totals", "_law_a", "_law_b", "_law_chain_here", "_law_home", "_law_plan_here", "_law_one", "_law_other", "_law_graph_here", "_law_size", "_law_c"]
theorem scLaw : FnScope NL ["_law_script"] (defScope sLaw) := ⟨rfl, rfl, rfl, by decide +kernel, rfl, by decide +kernel, by decide +kernel⟩
structure Lib (P : Program) (w : World) (K : PySem.W.Frag) (mg : Str → Option Value) (base : Heap) (C CS CM CR : Addr) : Prop where
  T : Bi mg
  tA : mg "any" = none
  bag : C8.Cal P w K mg base 1 "_law_bag" (spBag K) []
  of : C8.Cal P w K mg base 2 "_law_of" (spOf K) []
  plan : C8.Cal P w K mg base 2 "_law_plan" spPlan []
  graph : C8.Cal P w K mg base 4 "_law_graph" (spGraph C) []
  tg : C8.Cal P w K mg base 5 "_law_two_graphs" spTg []
  lch : C8.Cal P w K mg base 4 "_law_chain" spLCh []
  ak : C8.Cal P w K mg base 6 "are_kin" (spAK C) []
  cc : C8.Cal P w K mg base 3 "count_closed" (spCC C) []
  cp : C8.Cal P w K mg base 8 "compare" (spCmp C CS CM CR) []
  lt : C8.Cal P w K mg base 9 "leads_to" (spLT3 C CS CM CR) []
  ck : C8.Cal P w K mg base 10 "check_comparison" (spCk3 C CS CM CR) []
  uc : C8.Cal P w K mg base 7 "undone_chain" (spUC C CS CM CR) []
def spLaw (K : PySem.W.Frag) : Sp := fun vs H Q _ => ∃ (a : Addr) (ns : List Int), vs = [.ref a] ∧ SqL K H a (ns.map V.int) ∧ ns.length ≤ 63 ∧ ∀ H', Q (.bl true) H'
abbrev Rw := Addr × Addr × Nat × Es
abbrev Gw := Addr × Nat × Ps
/-- three graphs beside the bag -/
structure G3 (C b l : Addr) (ns : List Int) (G : Addr) (gs : List Gw) (H : Hp) : Prop where
  bag : BagAt H b l ns
  ls : H G = some (.lst (gs.map fun x => V.ref x.1))
  ln : gs.length = 3
  ok : ∀ x ∈ gs, Gok C H x.1 x.2.1 x.2.2
def KinW (x y : Gw) : Prop := Kin x.2.1 x.2.2 y.2.1 y.2.2
/-- the table of answers -/
structure Tab3 (Tb : Addr) (gs : List Gw) (rs : List (Addr × List Bool)) (H : Hp) : Prop where
  ls : H Tb = some (.lst (rs.map fun r => V.ref r.1))
  ln : rs.length = gs.length
  row : ∀ (i : Nat) (r : Addr × List Bool) (x : Gw), rs[i]? = some r → gs[i]? = some x → H r.1 = some (.lst (r.2.map V.bl)) ∧ r.2.length = gs.length ∧ ∀ (j : Nat) (c : Bool) (y : Gw), r.2[j]? = some c → gs[j]? = some y → (c = true ↔ KinW x y)
def trs (x : Gw) : List Int := (List.range 20).map fun k => ((tr x.2.1 (cntN x.2.2) (k + 1) : Nat) : Int)
/-- the table of numbers -/
structure Tot3 (Tt : Addr) (gs : List Gw) (rs : List Addr) (H : Hp) : Prop where
  ls : H Tt = some (.lst (rs.map V.ref))
  ln : rs.length = gs.length
  row : ∀ (i : Nat) (r : Addr) (x : Gw), rs[i]? = some r → gs[i]? = some x → H r = some (.lst ((trs x).map V.int))
section
variable {C b l G Tb Tt : Addr} {ns : List Int} {gs : List Gw} {rs : List (Addr × List Bool)} {ts : List Addr} {H H' : Hp}
theorem G3.same (h : G3 C b l ns G gs H) (s : Same H H') : G3 C b l ns G gs H' := ⟨h.bag.same s, s _ _ h.ls, h.ln, fun x hx => (h.ok x hx).same s⟩
theorem G3.get (h : G3 C b l ns G gs H) {i : Nat} (hi : i < 3) : ∃ x : Gw, gs[i]? = some x ∧ x ∈ gs ∧ Gok C H x.1 x.2.1 x.2.2 ∧ atI (gs.map fun x => V.ref x.1) (i : Int) = some (.ref x.1) := by
  have e : gs[i]? = some (gs[i]'(by rw [h.ln]; exact hi)) := List.getElem?_eq_getElem _
  have m := List.mem_of_getElem? e
  refine ⟨_, e, m, h.ok _ m, atI_nat ?_⟩
  rw [List.getElem?_map, e]
  rfl
theorem Tab3.same (h : Tab3 Tb gs rs H) (s : Same H H') : Tab3 Tb gs rs H' := ⟨s _ _ h.ls, h.ln, fun i r x a b => by
  obtain ⟨h1, h2⟩ := h.row i r x a b
  exact ⟨s _ _ h1, h2⟩⟩
theorem Tab3.get (h : Tab3 Tb gs rs H) {i j : Nat} {x y : Gw} (hi : gs[i]? = some x) (hj : gs[j]? = some y) : ∃ (r : Addr) (ws : List V) (c : Bool), atI (rs.map fun r => V.ref r.1) (i : Int) = some (.ref r) ∧ H r = some (.lst ws) ∧ atI ws (j : Int) = some (.bl c) ∧ (c = true ↔ KinW x y) := by
  have li := (List.getElem?_eq_some_iff.mp hi).1
  have lj := (List.getElem?_eq_some_iff.mp hj).1
  have e : rs[i]? = some (rs[i]'(by rw [h.ln]; exact li)) := List.getElem?_eq_getElem _
  obtain ⟨h1, h2, h3⟩ := h.row i _ x e hi
  have e2 : (rs[i]'(by rw [h.ln]; exact li)).2[j]? = some ((rs[i]'(by rw [h.ln]; exact li)).2[j]'(by rw [h2]; exact lj)) := List.getElem?_eq_getElem _
  refine ⟨_, _, _, atI_nat ?_, h1, atI_nat ?_, h3 j _ y e2 hj⟩
  · rw [List.getElem?_map, e]
    rfl
  · rw [List.getElem?_map, e2]
    rfl
theorem Tot3.same (h : Tot3 Tt gs ts H) (s : Same H H') : Tot3 Tt gs ts H' := ⟨s _ _ h.ls, h.ln, fun i r x a b => s _ _ (h.row i r x a b)⟩
theorem Tot3.get (h : Tot3 Tt gs ts H) {i : Nat} {x : Gw} (hi : gs[i]? = some x) : ∃ r : Addr, atI (ts.map V.ref) (i : Int) = some (.ref r) ∧ H r = some (.lst ((trs x).map V.int)) := by
  have li := (List.getElem?_eq_some_iff.mp hi).1
  have e : ts[i]? = some (ts[i]'(by rw [h.ln]; exact li)) := List.getElem?_eq_getElem _
  refine ⟨_, atI_nat ?_, h.row i _ x e hi⟩
  rw [List.getElem?_map, e]
  rfl
theorem trs_kin {x y : Gw} {C : Addr} (h : KinW x y) (a : Gok C H x.1 x.2.1 x.2.2) (b : Gok C H y.1 y.2.1 y.2.2) : trs x = trs y := by
  unfold trs
  refine List.map_congr_left fun k _ => ?_
  rw [Kin.tr h a.va a.n1 b.va b.n1 k]
end
section
variable {P : Program} {w : World} {K : PySem.W.Frag} {mg : Str → Option Value} {base : Heap}
set_option maxHeartbeats 16000000 in
theorem ok_law {f C CS CM CR : Addr} {fd : FuncData} (F : Fun K "law" "law" sLaw f fd) (L : Lib P w K mg base C CS CM CR) : FnOk P w K mg base CX0 12 f fd ["_law_script"] (spLaw K) := by
  refine F.ok scLaw (fun vs H Q E h => ?_) (fun cdv A outer s H vs Q E hr h => ?_)
  · obtain ⟨a, ns, rfl, _⟩ := h
    rfl
  · obtain ⟨a, ns, rfl, hS, hln, q⟩ := h
    have T := L.T
    refine ⟨_, pss_cons (ps_set (i := 1) scLaw.nd rfl (by first | exact Or.inl rfl | exact Or.inr rfl) (C8.pe_c L.bag hr (by decide) (by rfl) (pa_cons (pv 0) pa_nil))) (pss_cons (ps_for PassesOwn.never rfl (pi_range1 (by rfl) T.range (pa_cons pe_int pa_nil)) (pg_name (i := 2) scLaw.nd rfl (by first | exact Or.inl rfl | exact Or.inr rfl)) (C8.pss_cut (ps_asg (C8.pe_c L.tg hr (by decide) (by rfl) (pa_cons (pv 1) pa_nil)) (pg_tup rfl (pgs_cons (pg_name (i := 3) scLaw.nd rfl (by first | exact Or.inl rfl | exact Or.inr rfl)) (pgs_cons (pg_name (i := 4) scLaw.nd rfl (by first | exact Or.inl rfl | exact Or.inr rfl)) pgs_nil)))) (C8.pss_cut (ps_set (i := 5) scLaw.nd rfl (by first | exact Or.inl rfl | exact Or.inr rfl) (pe_lst (pa_cons (C8.pe_c L.plan hr (by decide) (by rfl) (pa_cons (pv 1) (pa_cons pe_int (pa_cons pe_int pa_nil)))) (pa_cons (pe_ix ix_list (pe_ix ix_tup (C8.pe_c L.lch hr (by decide) (by rfl) (pa_cons (pv 1) (pa_cons (pv 3) (pa_cons pe_int pa_nil)))) pe_int (fun _ _ => rfl)) (pe_un un_neg pe_int) (fun _ _ => rfl)) (pa_cons (pe_ix ix_list (pe_ix ix_tup (C8.pe_c L.lch hr (by decide) (by rfl) (pa_cons (pv 1) (pa_cons (pv 4) (pa_cons pe_int pa_nil)))) pe_int (fun _ _ => rfl)) (pe_un un_neg pe_int) (fun _ _ => rfl)) pa_nil))))) (C8.pss_cut (ps_set (i := 6) scLaw.nd rfl (by first | exact Or.inl rfl | exact Or.inr rfl) (C8.pe_c L.of hr (by decide) (by rfl) (pa_cons (pv 1) (pa_cons (pv 5) pa_nil)))) (C8.pss_cut (ps_set (i := 7) scLaw.nd rfl (by first | exact Or.inl rfl | exact Or.inr rfl) (pe_lc (own := [("_law_plan_here", 14)]) (g := gName 14) (tt := tYes) (te := (tCall (spGraph C) [] E0 (tCons (tVar 14) tNil))) rfl scLaw.nd (pi_seqA (pe_lst (pa_cons (pv 3) (pa_cons (pv 4) (pa_cons (pv 6) pa_nil))))) (blkOk_by (N := NL) (sc := defScope sLaw) (by decide +kernel)) (fun _ _ _ _ _ => by exact (pg_name (i := 14) scLaw.nd rfl (by first | exact Or.inl rfl | exact Or.inr rfl))) (fun _ _ _ _ _ => pts_nil) (fun _ _ _ _ _ => by exact (C8.pe_c L.graph hr (by decide) (by rfl) (pa_cons (pv 14) pa_nil))))) (C8.pss_cut (ps_set (i := 8) scLaw.nd rfl (by first | exact Or.inl rfl | exact Or.inr rfl) (pe_lc (own := [("_law_one", 15)]) (g := gName 15) (tt := tYes) (te := (tLc (iSeqA K (tVar 7)) (gName 16) tYes (tCall (spAK C) [] E0 (tCons (tVar 15) (tCons (tVar 16) tNil))) [16])) rfl scLaw.nd (pi_seqA (pv 7)) (blkOk_by (N := NL) (sc := defScope sLaw) (by decide +kernel)) (fun _ _ _ _ _ => by exact (pg_name (i := 15) scLaw.nd rfl (by first | exact Or.inl rfl | exact Or.inr rfl))) (fun _ _ _ _ _ => pts_nil) (fun _ _ _ _ _ => by exact (pe_lc (own := [("_law_other", 16)]) (g := gName 16) (tt := tYes) (te := (tCall (spAK C) [] E0 (tCons (tVar 15) (tCons (tVar 16) tNil)))) rfl scLaw.nd (pi_seqA (pv 7)) (blkOk_by (N := NL) (sc := { kind := .function, names := [(".0", .local), ("_law_one", .cell), ("_law_graphs", .cell)], isGenerator := false, isCoroutine := false }) (by decide +kernel)) (fun _ _ _ _ _ => by exact (pg_name (i := 16) scLaw.nd rfl (by first | exact Or.inl rfl | exact Or.inr rfl))) (fun _ _ _ _ _ => pts_nil) (fun _ _ _ _ _ => by exact (C8.pe_c L.ak hr (by decide) (by rfl) (pa_cons (pv 15) (pa_cons (pv 16) pa_nil)))))))) (C8.pss_cut (ps_setLc (i := 9) (own := [("_law_graph_here", 17)]) (g := gName 17) (tt := tYes) (te := (tLc (iRng2 (tCons (tC (.int 1)) (tCons (tC (.int 21)) tNil))) (gName 18) tYes (tCall (spCC C) [] E0 (tCons (tVar 17) (tCons (tVar 18) tNil))) [18])) rfl scLaw.nd rfl rfl (sw_true rfl rfl rfl (by decide +kernel)) (pi_seqA (pv 7)) (blkOk_by (N := NL) (sc := defScope sLaw) (by decide +kernel)) (fun _ _ _ _ _ => by exact (pg_name (i := 17) scLaw.nd rfl (by first | exact Or.inl rfl | exact Or.inr rfl))) (fun _ _ _ _ _ => pts_nil) (fun _ _ _ _ _ => by exact (pe_lc (own := [("_law_size", 18)]) (g := gName 18) (tt := tYes) (te := (tCall (spCC C) [] E0 (tCons (tVar 17) (tCons (tVar 18) tNil)))) rfl scLaw.nd (pi_range2 (by rfl) T.range (pa_cons pe_int (pa_cons pe_int pa_nil))) (blkOk_by (N := NL) (sc := { kind := .function, names := [(".0", .local), ("_law_graph_here", .cell), ("range", .globalImplicit)], isGenerator := false, isCoroutine := false }) (by decide +kernel)) (fun _ _ _ _ _ => by exact (pg_name (i := 18) scLaw.nd rfl (by first | exact Or.inl rfl | exact Or.inr rfl))) (fun _ _ _ _ _ => pts_nil) (fun _ _ _ _ _ => by exact (C8.pe_c L.cc hr (by decide) (by rfl) (pa_cons (pv 17) (pa_cons (pv 18) pa_nil))))))) (C8.pss_cut (ps_for PassesOwn.never rfl (pi_range1 (by rfl) T.range (pa_cons pe_int pa_nil)) (pg_name (i := 10) scLaw.nd rfl (by first | exact Or.inl rfl | exact Or.inr rfl)) (pss_one (ps_for PassesOwn.never rfl (pi_range1 (by rfl) T.range (pa_cons pe_int pa_nil)) (pg_name (i := 11) scLaw.nd rfl (by first | exact Or.inl rfl | exact Or.inr rfl)) (C8.pss_cut (ps_if (PW.pt (pw_or (pt_not (pt_val (pe_ix ix_list (pe_ix ix_list (pv 8) (pv 10) (fun _ _ => rfl)) (pv 10) (fun _ _ => rfl)))) (pw_or1 (pt_cmpR op_ne (pe_ix ix_list (pe_ix ix_list (pv 8) (pv 10) (fun _ _ => rfl)) (pv 11) (fun _ _ => rfl)) (pe_ix ix_list (pe_ix ix_list (pv 8) (pv 11) (fun _ _ => rfl)) (pv 10) (fun _ _ => rfl)) (nomark _))))) (pss_one (ps_ret pe_bl)) pss_nil) (C8.pss_cut (ps_if (pt_val (pe_callB (cr_any rfl) (by rfl) L.tA (by decide +kernel) (pa_cons (pe_lc (own := [("_law_c", 19)]) (g := gName 19) (tt := tYes) (te := (tAndV (tOp (rIxL K) (tOp (rIxL K) (tVar 8) (tVar 10)) (tVar 11)) (tAndV (tOp (rIxL K) (tOp (rIxL K) (tVar 8) (tVar 11)) (tVar 19)) (tNotV (tOp (rIxL K) (tOp (rIxL K) (tVar 8) (tVar 10)) (tVar 19)))))) rfl scLaw.nd (pi_range1 (by rfl) T.range (pa_cons pe_int pa_nil)) (blkOk_by (N := NL) (sc := defScope sLaw) (by decide +kernel)) (fun _ _ _ _ _ => by exact (pg_name (i := 19) scLaw.nd rfl (by first | exact Or.inl rfl | exact Or.inr rfl))) (fun _ _ _ _ _ => pts_nil) (fun _ _ _ _ _ => by exact (pe_and (pe_ix ix_list (pe_ix ix_list (pv 8) (pv 10) (fun _ _ => rfl)) (pv 11) (fun _ _ => rfl)) (pe_and (pe_ix ix_list (pe_ix ix_list (pv 8) (pv 11) (fun _ _ => rfl)) (pv 19) (fun _ _ => rfl)) (pe_one (pe_not (pe_ix ix_list (pe_ix ix_list (pv 8) (pv 10) (fun _ _ => rfl)) (pv 19) (fun _ _ => rfl)))))))) pa_nil))) (pss_one (ps_ret pe_bl)) pss_nil) (pss_one (ps_if (PW.pt (pw_and (pt_val (pe_ix ix_list (pe_ix ix_list (pv 8) (pv 10) (fun _ _ => rfl)) (pv 11) (fun _ _ => rfl))) (pw_and1 (pt_cmpR (op_neD hr.units) (pe_ix ix_list (pv 9) (pv 10) (fun _ _ => rfl)) (pe_ix ix_list (pv 9) (pv 11) (fun _ _ => rfl)) (nomark _))))) (pss_one (ps_ret pe_bl)) pss_nil))))))) (pss_one (ps_if (PW.pt (pw_and (pt_val (pe_ix ix_list (pe_ix ix_list (pv 8) pe_int (fun _ _ => rfl)) pe_int (fun _ _ => rfl))) (pw_and1 (pt_val (pe_ix ix_list (pe_ix ix_list (pv 8) pe_int (fun _ _ => rfl)) pe_int (fun _ _ => rfl)))))) (C8.pss_cut (ps_set (i := 12) scLaw.nd rfl (by first | exact Or.inl rfl | exact Or.inr rfl) (pe_op op_cat (pe_ix ix_tup (C8.pe_c L.cp hr (by decide) (by rfl) (pa_cons (pe_ix ix_list (pv 7) pe_int (fun _ _ => rfl)) (pa_cons (pe_ix ix_list (pv 7) pe_int (fun _ _ => rfl)) pa_nil))) pe_int (fun _ _ => rfl)) (pe_ix ix_tup (C8.pe_c L.cp hr (by decide) (by rfl) (pa_cons (pe_ix ix_list (pv 7) pe_int (fun _ _ => rfl)) (pa_cons (pe_ix ix_list (pv 7) pe_int (fun _ _ => rfl)) pa_nil))) pe_int (fun _ _ => rfl)))) (pss_cons (ps_if (pt_cmpR op_gt (pe_callB call_len_seq (by rfl) T.len PySem.boot_len (pa_cons (pv 12) pa_nil)) pe_int (nomark _)) (pss_one ps_never) pss_nil) (C8.pss_cut (ps_if (pt_not (pt_val (C8.pe_c L.lt hr (by decide) (by rfl) (pa_cons (pe_ix ix_list (pv 7) pe_int (fun _ _ => rfl)) (pa_cons (pe_ix ix_list (pv 7) pe_int (fun _ _ => rfl)) (pa_cons (pv 12) pa_nil)))))) (pss_one (ps_ret pe_bl)) pss_nil) (C8.pss_cut (ps_if (pt_not (pt_val (C8.pe_c L.ck hr (by decide) (by rfl) (pa_cons (pe_ix ix_list (pv 7) pe_int (fun _ _ => rfl)) (pa_cons (pe_ix ix_list (pv 7) pe_int (fun _ _ => rfl)) (pa_cons (pe_tup (pa_cons pe_str (pa_cons (pv 12) pa_nil))) pa_nil)))))) (pss_one (ps_ret pe_bl)) pss_nil) (C8.pss_cut (ps_set (i := 13) scLaw.nd rfl (by first | exact Or.inl rfl | exact Or.inr rfl) (C8.pe_c L.uc hr (by decide) (by rfl) (pa_cons (pe_ix ix_list (pv 7) pe_int (fun _ _ => rfl)) (pa_cons (pv 12) pa_nil)))) (pss_one (ps_if (PW.pt (pw_and (pt_cmpR op_le (pe_callB call_len_seq (by rfl) T.len PySem.boot_len (pa_cons (pv 13) pa_nil)) pe_int (nomark _)) (pw_and1 (pt_not (pt_val (C8.pe_c L.lt hr (by decide) (by rfl) (pa_cons (pe_ix ix_list (pv 7) pe_int (fun _ _ => rfl)) (pa_cons (pe_ix ix_list (pv 7) pe_int (fun _ _ => rfl)) (pa_cons (pv 13) pa_nil))))))))) (pss_one (ps_ret pe_bl)) pss_nil))))))) pss_nil)))))))))) (pss_one (ps_ret pe_bl))), ?_⟩
    refine ⟨_, rfl, a, ns, rfl, hS, hln, fun b l H1 s1 nb nl B => ?_⟩
    refine ⟨3, rfl, by decide, by decide, ?_⟩
    refine for_it (walk_range (lo := 0) (n := (3 : Int).toNat)) (fun i σ H' => ∃ v2 v3 v4 v5 v6 v7 v8 v9 v10 v11 v12 v13 v14 v15 v16 v17 v18 v19 : Option V, σ = [some (.ref a), some (.ref b), v2, v3, v4, v5, v6, v7, v8, v9, v10, v11, v12, v13, v14, v15, v16, v17, v18, v19] ∧ BagAt H' b l ns) ⟨_, _, _, _, _, _, _, _, _, _, _, _, _, _, _, _, _, _, rfl, B⟩ (fun _ _ _ _ _ => True.intro) ?_ ?_
    · rintro i x σ H2 H' hi ⟨v2, v3, v4, v5, v6, v7, v8, v9, v10, v11, v12, v13, v14, v15, v16, v17, v18, v19, rfl, B2⟩ ⟨rfl, rfl⟩
      -- two graphs
      refine ⟨fun σ H' => ∃ v2 v5 v6 v7 v8 v9 v10 v11 v12 v13 v14 v15 v16 v17 v18 v19 : Option V, ∃ (p1 q1 p2 q2 : Addr) (n1 n2 : Nat) (us1 us2 : Es), σ = [some (.ref a), some (.ref b), v2, some (.ref p1), some (.ref p2), v5, v6, v7, v8, v9, v10, v11, v12, v13, v14, v15, v16, v17, v18, v19] ∧ Tg b l ns p1 q1 n1 us1 p2 q2 n2 us2 H' ∧ n1 ≤ 8 ∧ us1.length ≤ 16 ∧ n2 ≤ 8 ∧ us2.length ≤ 16, ?_, ?_⟩
      · refine ⟨_, rfl, b, l, ns, rfl, B2, fun t p1 q1 p2 q2 n1 n2 us1 us2 H3 k3 TG et a1 a2 a3 a4 => ?_⟩
        exact ⟨t, _, rfl, SqT.of et, rfl, _, _, rfl, _, _, rfl, rfl, _, _, _, _, _, _, _, _, _, _, _, _, _, _, _, _, p1, q1, p2, q2, n1, n2, us1, us2, rfl, TG, a1, a2, a3, a4⟩
      clear B2
      rintro σ H3 ⟨v2, v5, v6, v7, v8, v9, v10, v11, v12, v13, v14, v15, v16, v17, v18, v19, p1, q1, p2, q2, n1, n2, us1, us2, rfl, TG, a1, a2, a3, a4⟩
      -- three plans
      refine ⟨fun σ H' => ∃ v2 v6 v7 v8 v9 v10 v11 v12 v13 v14 v15 v16 v17 v18 v19 : Option V, ∃ (L : Addr) (ys : List Rw), σ = [some (.ref a), some (.ref b), v2, some (.ref p1), some (.ref p2), some (.ref L), v6, v7, v8, v9, v10, v11, v12, v13, v14, v15, v16, v17, v18, v19] ∧ Tg b l ns p1 q1 n1 us1 p2 q2 n2 us2 H' ∧ H' L = some (.lst (ys.map fun x => V.ref x.1)) ∧ L ≠ b ∧ ys.length = 3 ∧ ∀ x ∈ ys, PlanAt H' x.1 x.2.1 (x.2.2.1 : Int) x.2.2.2 ∧ x.2.2.1 ≤ 8 ∧ x.2.2.2.length ≤ 24, ?_, ?_⟩
      · refine ⟨_, rfl, b, l, ns, 3, 5, rfl, TG.bag, by decide, by decide, by decide, fun p4 q4 n0 us4 H4 k4 B4 np nq PA4 hn hl => ?_⟩
        have m4 := PA4.n1
        obtain ⟨n4, rfl⟩ : ∃ m : Nat, n0 = (m : Int) := ⟨n0.toNat, (Int.toNat_of_nonneg (by omega)).symm⟩
        have TG4 := TG.keep k4 B4
        refine ⟨_, rfl, _, rfl, b, l, p1, q1, ns, n1, 4, us1, rfl, TG4.bag, TG4.pl, a1, by decide, by omega, fun t5 S5 L5 p5 q5 xs5 n5 us5 H5 k5 B5 et5 eL5 nLb5 nLl5 PA5 h5 l5 => ?_⟩
        refine ⟨t5, _, _, .ref L5, rfl, rfl, SqT.of et5, rfl, 1, rfl, L5, _, _, .ref p5, rfl, rfl, SqL.of eL5, at_last, ?_⟩
        have TG5 := TG4.keep k5 B5
        have PA45 := PA4.keep' B4 k5
        refine ⟨_, rfl, _, rfl, b, l, p2, q2, ns, n2, 4, us2, rfl, TG5.bag, TG5.po, a3, by decide, by omega, fun t6 S6 L6 p6 q6 xs6 n6 us6 H6 k6 B6 et6 eL6 nLb6 nLl6 PA6 h6 l6 => ?_⟩
        refine ⟨t6, _, _, .ref L6, rfl, rfl, SqT.of et6, rfl, 1, rfl, L6, _, _, .ref p6, rfl, rfl, SqL.of eL6, at_last, ?_⟩
        refine ⟨(by show 3 ≤ sizeLine; decide), fun L hL => ?_⟩
        have s7 := same_upd (o := .lst [.ref p4, .ref p5, .ref p6]) hL
        refine ⟨_, _, _, _, _, _, _, _, _, _, _, _, _, _, _, L, [(p4, q4, n4, us4), (p5, q5, n5, us5), (p6, q6, n6, us6)], rfl, (TG5.keep k6 B6).same s7, upd_same, B6.ne_new hL, rfl, fun x hx => ?_⟩
        simp only [List.mem_cons, List.not_mem_nil, or_false] at hx
        rcases hx with rfl | rfl | rfl
        · exact ⟨(PA45.keep' B5 k6).same s7, by show n4 ≤ 8; omega, by show us4.length ≤ 24; omega⟩
        · exact ⟨(PA5.keep' B5 k6).same s7, h5, l5⟩
        · exact ⟨PA6.same s7, h6, l6⟩
      clear TG
      rintro σ H4 ⟨v2, v6, v7, v8, v9, v10, v11, v12, v13, v14, v15, v16, v17, v18, v19, L, ys, rfl, TG, eL, nLb, ly, hy⟩
      -- the third
      refine ⟨fun σ H' => ∃ v2 v5 v7 v8 v9 v10 v11 v12 v13 v14 v15 v16 v17 v18 v19 : Option V, ∃ (p3 q3 : Addr) (n3 : Nat) (us3 : Es), σ = [some (.ref a), some (.ref b), v2, some (.ref p1), some (.ref p2), v5, some (.ref p3), v7, v8, v9, v10, v11, v12, v13, v14, v15, v16, v17, v18, v19] ∧ Tg b l ns p1 q1 n1 us1 p2 q2 n2 us2 H' ∧ PlanAt H' p3 q3 (n3 : Int) us3 ∧ n3 ≤ 8 ∧ us3.length ≤ 24, ?_, ?_⟩
      · refine ⟨_, rfl, _, rfl, b, l, L, ns, _, rfl, TG.bag, SqL.of eL, nLb, fun z => ?_, by rw [List.length_map, ly]; decide, fun ix v o hv BO => ?_⟩
        · have := congrArg List.length z
          rw [List.length_map, ly] at this
          cases this
        · rw [List.getElem?_map] at hv
          obtain ⟨x3, hx3, rfl⟩ := Option.map_eq_some_iff.mp hv
          obtain ⟨PA3, h3, l3⟩ := hy x3 (List.mem_of_getElem? hx3)
          exact ⟨_, _, _, _, _, _, _, _, _, _, _, _, _, _, _, x3.1, x3.2.1, x3.2.2.1, x3.2.2.2, rfl, TG.upd BO, PA3.keep' TG.bag .updb, h3, l3⟩
      clear TG eL hy
      rintro σ H5 ⟨v2, v5, v7, v8, v9, v10, v11, v12, v13, v14, v15, v16, v17, v18, v19, p3, q3, n3, us3, rfl, TG, PA3, h3, l3⟩
      -- the graphs
      refine ⟨fun σ H' => ∃ v2 v3 v4 v5 v6 v8 v9 v10 v11 v12 v13 v14 v15 v16 v17 v18 v19 : Option V, ∃ (G : Addr) (gs : List Gw), σ = [some (.ref a), some (.ref b), v2, v3, v4, v5, v6, some (.ref G), v8, v9, v10, v11, v12, v13, v14, v15, v16, v17, v18, v19] ∧ G3 C b l ns G gs H', ?_, ?_⟩
      · refine ⟨_, rfl, _, rfl, _, rfl, (by show 3 ≤ sizeLine; decide), fun I hI => ?_⟩
        obtain ⟨pls, hpls⟩ : ∃ pls : List Rw, pls = [(p1, q1, n1, us1), (p2, q2, n2, us2), (p3, q3, n3, us3)] := ⟨_, rfl⟩
        have s6 := same_upd (o := .lst [.ref p1, .ref p2, .ref p3]) hI
        have eI : upd H5 I (.lst [.ref p1, .ref p2, .ref p3]) I = some (.lst (pls.map fun x => V.ref x.1)) := by rw [hpls]; exact upd_same
        have TG6 := TG.same s6
        have PA6 := PA3.same s6
        generalize upd H5 I (.lst [.ref p1, .ref p2, .ref p3]) = H6 at *
        have hp : pls.length = 3 ∧ ∀ x ∈ pls, PlanAt H6 x.1 x.2.1 (x.2.2.1 : Int) x.2.2.2 ∧ x.2.2.1 ≤ 8 ∧ x.2.2.2.length ≤ 24 := by
          rw [hpls]
          refine ⟨rfl, fun x hx => ?_⟩
          simp only [List.mem_cons, List.not_mem_nil, or_false] at hx
          rcases hx with rfl | rfl | rfl
          · exact ⟨TG6.pl, a1, by show us1.length ≤ 24; omega⟩
          · exact ⟨TG6.po, a3, by show us2.length ≤ 24; omega⟩
          · exact ⟨PA6, h3, l3⟩
        obtain ⟨lp, hp⟩ := hp
        clear hpls
        refine ⟨I, _, SqL, rfl, .inl rfl, SqL.of eI, fun J w D hD => ?_⟩
        refine lc_it w (fun m H' => ∃ gs : List Gw, Same H6 H' ∧ H' D = some (.lst (gs.map fun x => V.ref x.1)) ∧ gs.length = m ∧ ∀ x ∈ gs, Gok C H' x.1 x.2.1 x.2.2) ⟨[], same_upd hD, upd_same, rfl, fun x hx => by cases hx⟩ (fun m H' _ pp => by obtain ⟨_, s, _⟩ := pp; exact SqL.of (s _ _ eI)) ?_ ?_
        · rintro m x H7 H8 hm ⟨gs, s7, eD, lg, hg⟩ ⟨rfl, gx⟩
          rw [List.length_map, lp] at hm
          rw [List.getElem?_map] at gx
          obtain ⟨y, hy, rfl⟩ := Option.map_eq_some_iff.mp gx
          obtain ⟨PAy, h8, l24⟩ := hp y (List.mem_of_getElem? hy)
          have m1 := PAy.n1
          refine ⟨rfl, ?_⟩
          refine ⟨_, rfl, y.1, y.2.1, (y.2.2.1 : Int), y.2.2.2, rfl, PAy.same s7, by omega, l24, fun g vs H9 eqp s9 ng GA => ?_⟩
          have e9 := s9 _ _ eD
          have GO : Gok C H9 g y.2.2.1 (psOf y.2.2.2) := ⟨⟨vs, GA, eqp⟩, PAy.va.ps, by omega, h8, by rw [psL_len]; exact l24⟩
          refine ⟨_, e9, by rw [List.length_map]; exact small1000 (by omega), gs ++ [(g, y.2.2.1, psOf y.2.2.2)], ?_, by rw [upd_same, List.map_append]; rfl, by rw [List.length_append, lg]; rfl, fun z hz => ?_⟩
          · intro c u ec
            rw [upd_ne (ne_of_none ec hD)]
            exact s9 _ _ (s7 _ _ ec)
          · rcases List.mem_append.mp hz with hz | hz
            · exact ((hg z hz).same s9).off e9
            · rw [List.mem_singleton.mp hz]
              exact GO.off e9
        · rintro H7 ⟨gs, s7, eD, lg, hg⟩
          exact ⟨_, _, _, _, _, _, _, _, _, _, _, _, _, _, _, _, _, D, gs, rfl, TG6.bag.same s7, eD, by rw [lg, List.length_map, lp], hg⟩
      clear TG PA3
      rintro σ H6 ⟨v2, v3, v4, v5, v6, v8, v9, v10, v11, v12, v13, v14, v15, v16, v17, v18, v19, G, gs, rfl, GG⟩
      -- the table
      refine ⟨fun σ H' => ∃ v2 v3 v4 v5 v6 v9 v10 v11 v12 v13 v14 v15 v16 v17 v18 v19 : Option V, ∃ (Tb : Addr) (rs : List (Addr × List Bool)), σ = [some (.ref a), some (.ref b), v2, v3, v4, v5, v6, some (.ref G), some (.ref Tb), v9, v10, v11, v12, v13, v14, v15, v16, v17, v18, v19] ∧ G3 C b l ns G gs H' ∧ Tab3 Tb gs rs H', ?_, ?_⟩
      · refine ⟨_, rfl, G, _, SqL, rfl, .inl rfl, SqL.of GG.ls, fun J w D hD => ?_⟩
        refine lc_it w (fun m H' => ∃ rs : List (Addr × List Bool), Same H6 H' ∧ H' D = some (.lst (rs.map fun r => V.ref r.1)) ∧ rs.length = m ∧ ∀ (i : Nat) (r : Addr × List Bool) (x : Gw), rs[i]? = some r → gs[i]? = some x → r.1 ≠ D ∧ H' r.1 = some (.lst (r.2.map V.bl)) ∧ r.2.length = gs.length ∧ ∀ (j : Nat) (c : Bool) (y : Gw), r.2[j]? = some c → gs[j]? = some y → (c = true ↔ KinW x y)) ⟨[], same_upd hD, upd_same, rfl, fun i r x h => by cases h⟩ (fun m H' _ pp => by obtain ⟨_, s, _⟩ := pp; exact SqL.of (s _ _ GG.ls)) ?_ ?_
        · rintro m x H7 H8 hm ⟨rs, s7, eD, lr, hr7⟩ ⟨rfl, gx⟩
          rw [List.length_map] at hm
          rw [List.getElem?_map] at gx
          obtain ⟨x, hx, rfl⟩ := Option.map_eq_some_iff.mp gx
          have mx := List.mem_of_getElem? hx
          have GX := (GG.ok x mx).same s7
          refine ⟨rfl, ?_⟩
          refine ⟨_, rfl, G, _, SqL, rfl, .inl rfl, SqL.of (s7 _ _ GG.ls), fun J2 w2 D2 hD2 => ?_⟩
          refine lc_it w2 (fun m H' => ∃ bs : List Bool, Same H8 H' ∧ H' D2 = some (.lst (bs.map V.bl)) ∧ bs.length = m ∧ ∀ (j : Nat) (c : Bool) (y : Gw), bs[j]? = some c → gs[j]? = some y → (c = true ↔ KinW x y)) ⟨[], same_upd hD2, upd_same, rfl, fun j c y h => by cases h⟩ (fun m H' _ pp => by obtain ⟨_, s, _⟩ := pp; exact SqL.of (s _ _ (s7 _ _ GG.ls))) ?_ ?_
          · rintro m2 y0 H9 Ha hm2 ⟨bs, s9, eD2, lb, hb⟩ ⟨rfl, gy⟩
            rw [List.length_map] at hm2
            rw [List.getElem?_map] at gy
            obtain ⟨y, hy, rfl⟩ := Option.map_eq_some_iff.mp gy
            have GY := (GG.ok y (List.mem_of_getElem? hy)).same (s7.trans s9)
            have l3 := GG.ln
            refine ⟨rfl, ?_⟩
            refine ⟨_, rfl, _, rfl, x.1, y.1, x.2.1, y.2.1, x.2.2, y.2.2, rfl, GX.same s9, GY, fun c Hb sb hc => ?_⟩
            refine ⟨_, sb _ _ eD2, by rw [List.length_map]; exact small1000 (by omega), bs ++ [c], ?_, by rw [upd_same, List.map_append]; rfl, by rw [List.length_append, lb]; rfl, fun j c2 z h1 h2 => ?_⟩
            · intro e u ec
              rw [upd_ne (ne_of_none ec hD2)]
              exact sb _ _ (s9 _ _ ec)
            · by_cases cj : j < bs.length
              · rw [List.getElem?_append_left cj] at h1
                exact hb j c2 z h1 h2
              · have cj2 : j = bs.length := by
                  have := (List.getElem?_eq_some_iff.mp h1).1
                  rw [List.length_append, List.length_singleton] at this
                  omega
                rw [cj2, List.getElem?_concat_length] at h1
                rw [cj2, lb, hy] at h2
                cases h1
                cases h2
                exact hc
          · rintro H9 ⟨bs, s9, eD2, lb, hb⟩
            rw [List.length_map] at lb
            have l3 := GG.ln
            have nD2 : D2 ≠ D := (ne_of_none eD hD2).symm
            have e9 := s9 _ _ eD
            refine ⟨_, e9, by rw [List.length_map]; exact small1000 (by omega), rs ++ [(D2, bs)], ?_, by rw [upd_same, List.map_append]; rfl, by rw [List.length_append, lr]; rfl, fun i r z h1 h2 => ?_⟩
            · intro e u ec
              rw [upd_ne (ne_of_none ec hD)]
              exact s9 _ _ (s7 _ _ ec)
            · by_cases cj : i < rs.length
              · rw [List.getElem?_append_left cj] at h1
                obtain ⟨f1, f2, f3⟩ := hr7 i r z h1 h2
                exact ⟨f1, by rw [upd_ne f1]; exact s9 _ _ f2, f3⟩
              · have cj2 : i = rs.length := by
                  have := (List.getElem?_eq_some_iff.mp h1).1
                  rw [List.length_append, List.length_singleton] at this
                  omega
                rw [cj2, List.getElem?_concat_length] at h1
                rw [cj2, lr, hx] at h2
                cases h1
                cases h2
                exact ⟨nD2, by rw [upd_ne nD2]; exact eD2, lb, hb⟩
        · rintro H7 ⟨rs, s7, eD, lr, hr7⟩
          rw [List.length_map] at lr
          exact ⟨_, _, _, _, _, _, _, _, _, _, _, _, _, _, _, _, D, rs, rfl, GG.same s7, eD, lr, fun i r x h1 h2 => (hr7 i r x h1 h2).2⟩
      clear GG
      rintro σ H7 ⟨v2, v3, v4, v5, v6, v9, v10, v11, v12, v13, v14, v15, v16, v17, v18, v19, Tb, rs, rfl, GG, TB⟩
      -- the numbers
      refine ⟨fun σ H' => ∃ v2 v3 v4 v5 v6 v10 v11 v12 v13 v14 v15 v16 v17 v18 v19 : Option V, ∃ (Tt : Addr) (ts : List Addr), σ = [some (.ref a), some (.ref b), v2, v3, v4, v5, v6, some (.ref G), some (.ref Tb), some (.ref Tt), v10, v11, v12, v13, v14, v15, v16, v17, v18, v19] ∧ G3 C b l ns G gs H' ∧ Tab3 Tb gs rs H' ∧ Tot3 Tt gs ts H', ?_, ?_⟩
      · refine ⟨_, rfl, G, _, SqL, rfl, .inl rfl, SqL.of GG.ls, fun J w D hD => ?_⟩
        refine lc_it w (fun m H' => ∃ ts : List Addr, Same H7 H' ∧ H' D = some (.lst (ts.map V.ref)) ∧ ts.length = m ∧ ∀ (i : Nat) (r : Addr) (x : Gw), ts[i]? = some r → gs[i]? = some x → r ≠ D ∧ H' r = some (.lst ((trs x).map V.int))) ⟨[], same_upd hD, upd_same, rfl, fun i r x h => by cases h⟩ (fun m H' _ pp => by obtain ⟨_, s, _⟩ := pp; exact SqL.of (s _ _ GG.ls)) ?_ ?_
        · rintro m x H8 H9 hm ⟨ts, s8, eD, lr, hr8⟩ ⟨rfl, gx⟩
          rw [List.length_map] at hm
          rw [List.getElem?_map] at gx
          obtain ⟨x, hx, rfl⟩ := Option.map_eq_some_iff.mp gx
          have GX := (GG.ok x (List.mem_of_getElem? hx)).same s8
          obtain ⟨usX, GAX, euX⟩ := GX.at_
          have lX := congrArg List.length euX
          have aX := GX.n1
          have bX := GX.n8
          have cX := GX.l24
          rw [psL_len] at lX
          have GRX : GrOk C H9 x.1 (x.2.1 : Int) usX := ⟨GAX, by omega, by omega, by omega, fun e he => GX.va.rg e.2 (by rw [← euX]; exact List.mem_map.mpr ⟨e, he, rfl⟩)⟩
          refine ⟨rfl, ?_⟩
          refine ⟨1, 21, rfl, ⟨by decide, by decide, by decide, by decide⟩, fun D2 hD2 => ?_⟩
          refine lc_it (walk_range (lo := 1) (n := ((21 : Int) - 1).toNat)) (fun i H' => Same H9 H' ∧ H' D2 = some (.lst (((List.range i).map fun k => ((tr x.2.1 (cntN x.2.2) (k + 1) : Nat) : Int)).map V.int))) ⟨same_upd hD2, upd_same⟩ (fun _ _ _ _ => True.intro) ?_ ?_
          · rintro j x0 Hx Hy hj ⟨sx, eD2⟩ ⟨rfl, hx0⟩
            have hx0 : x0 = .int ((j + 1 : Nat) : Int) := by
              rw [hx0]
              show V.int ((1 : Int) + (j : Int)) = V.int ((j + 1 : Nat) : Int)
              congr 1
              omega
            subst hx0
            have hj : j < 20 := hj
            refine ⟨rfl, ?_⟩
            refine ⟨_, rfl, _, rfl, x.1, (x.2.1 : Int), usX, j + 1, rfl, ⟨GRX.gr.same sx, GRX.n1, GRX.n8, GRX.l24, GRX.rg⟩, by omega, by omega, fun Hz sz => ?_⟩
            refine ⟨_, sz _ _ eD2, by rw [List.length_map, List.length_map, List.length_range]; exact small1000 (by omega), ?_, ?_⟩
            · intro c u ec
              rw [upd_ne (ne_of_none ec hD2)]
              exact sz _ _ (sx _ _ ec)
            · rw [upd_same, List.range_succ, List.map_append, List.map_append]
              unfold pwE
              rw [Int.toNat_natCast, euX]
              rfl
          · rintro Hx ⟨sx, eD2⟩
            have l3 := GG.ln
            have nD2 : D2 ≠ D := (ne_of_none eD hD2).symm
            have e9 := sx _ _ eD
            refine ⟨_, e9, by rw [List.length_map]; exact small1000 (by omega), ts ++ [D2], ?_, by rw [upd_same, List.map_append]; rfl, by rw [List.length_append, lr]; rfl, fun i r z h1 h2 => ?_⟩
            · intro e u ec
              rw [upd_ne (ne_of_none ec hD)]
              exact sx _ _ (s8 _ _ ec)
            · by_cases cj : i < ts.length
              · rw [List.getElem?_append_left cj] at h1
                obtain ⟨f1, f2⟩ := hr8 i r z h1 h2
                exact ⟨f1, by rw [upd_ne f1]; exact sx _ _ f2⟩
              · have cj2 : i = ts.length := by
                  have := (List.getElem?_eq_some_iff.mp h1).1
                  rw [List.length_append, List.length_singleton] at this
                  omega
                rw [cj2, List.getElem?_concat_length] at h1
                rw [cj2, lr, hx] at h2
                cases h1
                cases h2
                exact ⟨nD2, by rw [upd_ne nD2]; exact eD2⟩
        · rintro H8 ⟨ts, s8, eD, lr, hr8⟩
          rw [List.length_map] at lr
          exact ⟨_, _, _, _, _, _, _, _, _, _, _, _, _, _, _, D, ts, rfl, GG.same s8, TB.same s8, eD, lr, fun i r x h1 h2 => (hr8 i r x h1 h2).2⟩
      clear GG TB
      rintro σ H8 ⟨v2, v3, v4, v5, v6, v10, v11, v12, v13, v14, v15, v16, v17, v18, v19, Tt, ts, rfl, GG, TB, TT⟩
      -- all nine answers
      refine ⟨fun σ H' => ∃ v2 v3 v4 v5 v6 v10 v11 v12 v13 v14 v15 v16 v17 v18 v19 : Option V, σ = [some (.ref a), some (.ref b), v2, v3, v4, v5, v6, some (.ref G), some (.ref Tb), some (.ref Tt), v10, v11, v12, v13, v14, v15, v16, v17, v18, v19] ∧ Same H8 H', ?_, ?_⟩
      · refine ⟨3, rfl, by decide, by decide, ?_⟩
        refine for_it (walk_range (lo := 0) (n := (3 : Int).toNat)) (fun i σ H' => ∃ v2 v3 v4 v5 v6 v10 v11 v12 v13 v14 v15 v16 v17 v18 v19 : Option V, σ = [some (.ref a), some (.ref b), v2, v3, v4, v5, v6, some (.ref G), some (.ref Tb), some (.ref Tt), v10, v11, v12, v13, v14, v15, v16, v17, v18, v19] ∧ Same H8 H') ⟨_, _, _, _, _, _, _, _, _, _, _, _, _, _, _, rfl, fun _ _ z => z⟩ (fun _ _ _ _ _ => True.intro) ?_ ?_
        · rintro ia xa σ H9 Ha hia ⟨v2, v3, v4, v5, v6, v10, v11, v12, v13, v14, v15, v16, v17, v18, v19, rfl, sa⟩ ⟨rfl, hxa⟩
          have hxa : xa = .int (ia : Int) := by rw [hxa]; show V.int (0 + (ia : Int)) = _; rw [Int.zero_add]
          subst hxa
          have hia : ia < 3 := hia
          refine ⟨3, rfl, by decide, by decide, ?_⟩
          refine for_it (walk_range (lo := 0) (n := (3 : Int).toNat)) (fun i σ H' => ∃ v2 v3 v4 v5 v6 v11 v12 v13 v14 v15 v16 v17 v18 v19 : Option V, σ = [some (.ref a), some (.ref b), v2, v3, v4, v5, v6, some (.ref G), some (.ref Tb), some (.ref Tt), some (.int (ia : Int)), v11, v12, v13, v14, v15, v16, v17, v18, v19] ∧ Same H8 H') ⟨_, _, _, _, _, _, _, _, _, _, _, _, _, _, rfl, sa⟩ (fun _ _ _ _ _ => True.intro) ?_ ?_
          · rintro ib xb σ Hb Hc hib ⟨v2, v3, v4, v5, v6, v11, v12, v13, v14, v15, v16, v17, v18, v19, rfl, sb⟩ ⟨rfl, hxb⟩
            have hxb : xb = .int (ib : Int) := by rw [hxb]; show V.int (0 + (ib : Int)) = _; rw [Int.zero_add]
            subst hxb
            have hib : ib < 3 := hib
            have GGb := GG.same sb
            have TBb := TB.same sb
            have TTb := TT.same sb
            obtain ⟨x, hx, _, GX, _⟩ := GGb.get hia
            obtain ⟨y, hy, _, GY, _⟩ := GGb.get hib
            have kxx : KinW x x := Kin.refl GX.va GX.n1
            -- the first test
            refine ⟨fun σ H' => ∃ v2 v3 v4 v5 v6 v12 v13 v14 v15 v16 v17 v18 v19 : Option V, σ = [some (.ref a), some (.ref b), v2, v3, v4, v5, v6, some (.ref G), some (.ref Tb), some (.ref Tt), some (.int (ia : Int)), some (.int (ib : Int)), v12, v13, v14, v15, v16, v17, v18, v19] ∧ H' = Hc, ?_, ?_⟩
            · obtain ⟨r1, ws1, c1, t1, e1, u1, w1⟩ := TBb.get hx hx
              obtain ⟨r2, ws2, c2, t2, e2, u2, w2⟩ := TBb.get hx hy
              obtain ⟨r3, ws3, c3, t3, e3, u3, w3⟩ := TBb.get hy hx
              have hc1 : c1 = true := w1.mpr kxx
              have h23 : c2 = c3 := by
                by_cases k : KinW x y
                · rw [w2.mpr k, w3.mpr (Kin.symm k GX.va GX.n1)]
                · have f2 : ¬ c2 = true := fun z => k (w2.mp z)
                  have f3 : ¬ c3 = true := fun z => k (Kin.symm (w3.mp z) GY.va GY.n1)
                  rw [Bool.not_eq_true] at f2 f3
                  rw [f2, f3]
              refine ⟨_, rfl, _, rfl, Tb, _, _, .ref r1, rfl, rfl, SqL.of (TBb).ls, t1, _, rfl, r1, _, _, .bl c1, rfl, rfl, SqL.of e1, u1, c1, rfl, if_f (by rw [hc1]; rfl) ?_⟩
              refine ⟨_, rfl, _, rfl, Tb, _, _, .ref r2, rfl, rfl, SqL.of (TBb).ls, t2, _, rfl, r2, _, _, .bl c2, rfl, rfl, SqL.of e2, u2, _, rfl, _, rfl, Tb, _, _, .ref r3, rfl, rfl, SqL.of (TBb).ls, t3, _, rfl, r3, _, _, .bl c3, rfl, rfl, SqL.of e3, u3, rfl, _, rfl, if_f (by rw [h23]; simp) ?_⟩
              exact ⟨_, _, _, _, _, _, _, _, _, _, _, _, _, rfl, rfl⟩
            rintro σ Hq ⟨v2, v3, v4, v5, v6, v12, v13, v14, v15, v16, v17, v18, v19, rfl, hq⟩
            subst Hq
            -- the second
            refine ⟨fun σ H' => ∃ v2 v3 v4 v5 v6 v12 v13 v14 v15 v16 v17 v18 v19 : Option V, σ = [some (.ref a), some (.ref b), v2, v3, v4, v5, v6, some (.ref G), some (.ref Tb), some (.ref Tt), some (.int (ia : Int)), some (.int (ib : Int)), v12, v13, v14, v15, v16, v17, v18, v19] ∧ Same H8 H', ?_, ?_⟩
            · refine ⟨3, rfl, by decide, by decide, fun D hD => ?_⟩
              refine lc_it (walk_range (lo := 0) (n := (3 : Int).toNat)) (fun m H' => Same Hc H' ∧ H' D = some (.lst ((List.replicate m false).map V.bl))) ⟨same_upd hD, upd_same⟩ (fun _ _ _ _ => True.intro) ?_ ?_
              · rintro ic xc Hd He hic ⟨sd, eD⟩ ⟨rfl, hxc⟩
                have hxc : xc = .int (ic : Int) := by rw [hxc]; show V.int (0 + (ic : Int)) = _; rw [Int.zero_add]
                subst hxc
                have hic : ic < 3 := hic
                have TBd := TBb.same sd
                obtain ⟨z, hz, _, GZ, _⟩ := GGb.get hic
                obtain ⟨r1, ws1, c1, t1, e1, u1, w1⟩ := TBd.get hx hy
                obtain ⟨r2, ws2, c2, t2, e2, u2, w2⟩ := TBd.get hy hz
                obtain ⟨r3, ws3, c3, t3, e3, u3, w3⟩ := TBd.get hx hz
                have fin : ∃ acc, He D = some (.lst acc) ∧ acc.length < sizeLine ∧ (Same Hc (upd He D (.lst (acc ++ [V.bl false]))) ∧ upd He D (.lst (acc ++ [V.bl false])) D = some (.lst ((List.replicate (ic + 1) false).map V.bl))) := by
                  refine ⟨_, eD, by rw [List.length_map, List.length_replicate]; exact small1000 (by omega), ?_, ?_⟩
                  · intro e u ec
                    rw [upd_ne (ne_of_none ec hD)]
                    exact sd _ _ ec
                  · rw [upd_same, List.replicate_succ', List.map_append]
                    rfl
                refine ⟨rfl, ?_⟩
                refine ⟨_, rfl, _, rfl, Tb, _, _, .ref r1, rfl, rfl, SqL.of (TBd).ls, t1, _, rfl, r1, _, _, .bl c1, rfl, rfl, SqL.of e1, u1, c1, rfl, ?_⟩
                by_cases k1 : c1 = true
                · refine if_t k1 ?_
                  refine ⟨_, rfl, _, rfl, Tb, _, _, .ref r2, rfl, rfl, SqL.of (TBd).ls, t2, _, rfl, r2, _, _, .bl c2, rfl, rfl, SqL.of e2, u2, c2, rfl, ?_⟩
                  by_cases k2 : c2 = true
                  · refine if_t k2 ?_
                    refine ⟨_, rfl, _, rfl, Tb, _, _, .ref r3, rfl, rfl, SqL.of (TBd).ls, t3, _, rfl, r3, _, _, .bl c3, rfl, rfl, SqL.of e3, u3, c3, rfl, ?_⟩
                    have k3 : c3 = true := w3.mpr (Kin.trans (w1.mp k1) (w2.mp k2) GX.va GX.n1)
                    rw [k3]
                    exact fin
                  · exact if_f (by rw [Bool.not_eq_true] at k2; exact k2) fin
                · exact if_f (by rw [Bool.not_eq_true] at k1; exact k1) fin
              · rintro Hd ⟨sd, eD⟩
                refine ⟨D, _, rfl, SqL.of eD, ?_⟩
                rw [any_no]
                exact ⟨_, rfl, if_f rfl ⟨_, _, _, _, _, _, _, _, _, _, _, _, _, rfl, sb.trans sd⟩⟩
            rintro σ Hd ⟨v2, v3, v4, v5, v6, v12, v13, v14, v15, v16, v17, v18, v19, rfl, sd⟩
            -- the third
            have GGd := GG.same sd
            have TBd := TB.same sd
            have TTd := TT.same sd
            obtain ⟨r1, ws1, c1, t1, e1, u1, w1⟩ := TBd.get hx hy
            obtain ⟨rx, tx, ex⟩ := TTd.get hx
            obtain ⟨ry, ty, ey⟩ := TTd.get hy
            refine ⟨_, rfl, _, rfl, Tb, _, _, .ref r1, rfl, rfl, SqL.of (TBd).ls, t1, _, rfl, r1, _, _, .bl c1, rfl, rfl, SqL.of e1, u1, c1, rfl, ?_⟩
            by_cases k1 : c1 = true
            · refine if_t k1 ?_
              refine ⟨_, rfl, _, rfl, Tt, _, _, .ref rx, rfl, rfl, SqL.of TTd.ls, tx, _, rfl, _, rfl, Tt, _, _, .ref ry, rfl, rfl, SqL.of TTd.ls, ty, .list ((trs x).map PyData.int), .list ((trs y).map PyData.int), .lst (SqL.of ex) (dp_ints _), .lst (SqL.of ey) (dp_ints _), shl_ints _, shl_ints _, _, rfl, if_f ?_ ?_⟩
              · rw [eqv_lst, trs_kin (w1.mp k1) GX GY, decide_eq_true rfl]
                rfl
              · exact ⟨_, _, _, _, _, _, _, _, _, _, _, _, _, _, rfl, sd⟩
            · exact if_f (by rw [Bool.not_eq_true] at k1; exact k1) (if_f rfl ⟨_, _, _, _, _, _, _, _, _, _, _, _, _, _, rfl, sd⟩)
          · rintro σ Hb ⟨v2, v3, v4, v5, v6, v11, v12, v13, v14, v15, v16, v17, v18, v19, rfl, sb⟩
            exact ⟨_, _, _, _, _, _, _, _, _, _, _, _, _, _, _, rfl, sb⟩
        · rintro σ H9 ⟨v2, v3, v4, v5, v6, v10, v11, v12, v13, v14, v15, v16, v17, v18, v19, rfl, s9⟩
          exact ⟨_, _, _, _, _, _, _, _, _, _, _, _, _, _, _, rfl, s9⟩
      rintro σ H9 ⟨v2, v3, v4, v5, v6, v10, v11, v12, v13, v14, v15, v16, v17, v18, v19, rfl, s9⟩
      have GG := GG.same s9
      have TB := TB.same s9
      clear s9 TT
      -- the chains
      obtain ⟨x, hx, _, GX, ax⟩ := GG.get (i := 0) (by decide)
      obtain ⟨y, hy, _, GY, ay⟩ := GG.get (i := 1) (by decide)
      obtain ⟨z, hz, _, GZ, az⟩ := GG.get (i := 2) (by decide)
      obtain ⟨r1, ws1, c1, t1, e1, u1, w1⟩ := TB.get hx hy
      obtain ⟨r2, ws2, c2, t2, e2, u2, w2⟩ := TB.get hy hz
      refine ⟨_, rfl, Tb, _, _, .ref r1, rfl, rfl, SqL.of TB.ls, t1, r1, _, _, .bl c1, rfl, rfl, SqL.of e1, u1, c1, rfl, ?_⟩
      by_cases k1 : c1 = true
      · refine if_t k1 ?_
        refine ⟨_, rfl, Tb, _, _, .ref r2, rfl, rfl, SqL.of TB.ls, t2, r2, _, _, .bl c2, rfl, rfl, SqL.of e2, u2, c2, rfl, ?_⟩
        by_cases k2 : c2 = true
        · refine if_t k2 ?_
          have kxy := w1.mp k1
          have kyz := w2.mp k2
          -- two comparisons joined
          refine ⟨fun σ H' => ∃ v2 v3 v4 v5 v6 v8 v9 v10 v11 v13 v14 v15 v16 v17 v18 v19 : Option V, ∃ (D : Addr) (st : List Sp3), σ = [some (.ref a), some (.ref b), v2, v3, v4, v5, v6, some (.ref G), v8, v9, v10, v11, some (.ref D), v13, v14, v15, v16, v17, v18, v19] ∧ G3 C b l ns G gs H' ∧ St3 CS CM CR H' D st ∧ Ch3 x.2.1 x.2.2 st z.2.1 z.2.2 ∧ st.length ≤ 60, ?_, ?_⟩
          · refine ⟨_, rfl, G, _, _, .ref x.1, rfl, rfl, SqL.of GG.ls, ax, _, rfl, G, _, _, .ref y.1, rfl, rfl, SqL.of GG.ls, ay, x.1, y.1, x.2.1, y.2.1, x.2.2, y.2.2, rfl, GX, GY, kxy, fun t1 D1 st1 Ha sa et1 S1 ch1 l1 => ?_⟩
            have GGa := GG.same sa
            refine ⟨t1, _, _, .ref D1, rfl, rfl, SqT.of et1, rfl, ?_⟩
            refine ⟨_, rfl, G, _, _, .ref y.1, rfl, rfl, SqL.of GGa.ls, ay, _, rfl, G, _, _, .ref z.1, rfl, rfl, SqL.of GGa.ls, az, y.1, z.1, y.2.1, z.2.1, y.2.2, z.2.2, rfl, GY.same sa, GZ.same sa, kyz, fun t2 D2 st2 Hb sb et2 S2 ch2 l2 => ?_⟩
            refine ⟨t2, _, _, .ref D2, rfl, rfl, SqT.of et2, rfl, ?_⟩
            obtain ⟨os1, f1, f2, f3⟩ := S1.same sb
            obtain ⟨os2, g1, g2, g3⟩ := S2
            refine ⟨D1, D2, _, _, rfl, rfl, f1, g1, Nat.le_of_lt (small1000 (by rw [List.length_map, List.length_map, f2, g2]; omega)), fun D hD => ?_⟩
            have sc := same_upd (o := .lst (os1.map V.ref ++ os2.map V.ref)) hD
            exact ⟨_, _, _, _, _, _, _, _, _, _, _, _, _, _, _, _, D, st1 ++ st2, rfl, (GGa.same sb).same sc, St3.app (by rw [upd_same, List.map_append]) f2 g2 (fun k o w a b => (f3 k o w a b).same sc) (fun k o w a b => (g3 k o w a b).same sc), ch1.app ch2, by rw [List.length_append]; omega⟩
          clear GG TB GX GY GZ
          rintro σ Ha ⟨v2, v3, v4, v5, v6, v8, v9, v10, v11, v13, v14, v15, v16, v17, v18, v19, D, st, rfl, GG, SD, ch, l60⟩
          obtain ⟨os, eD, lo, _⟩ := id SD
          refine ⟨_, rfl, D, _, rfl, .inl (SqL.of eD), _, _, rfl, rfl, _, rfl, if_f (decide_eq_false (by rw [List.length_map, lo]; omega)) ?_⟩
          have oks : ∀ {H' : Hp}, G3 C b l ns G gs H' → Gok C H' x.1 x.2.1 x.2.2 ∧ Gok C H' z.1 z.2.1 z.2.2 := fun GG => ⟨GG.ok x (List.mem_of_getElem? hx), GG.ok z (List.mem_of_getElem? hz)⟩
          -- it leads there
          refine ⟨fun σ H' => ∃ v2 v3 v4 v5 v6 v8 v9 v10 v11 v13 v14 v15 v16 v17 v18 v19 : Option V, σ = [some (.ref a), some (.ref b), v2, v3, v4, v5, v6, some (.ref G), v8, v9, v10, v11, some (.ref D), v13, v14, v15, v16, v17, v18, v19] ∧ Same Ha H', ?_, ?_⟩
          · refine ⟨_, rfl, G, _, _, .ref x.1, rfl, rfl, SqL.of GG.ls, ax, _, rfl, G, _, _, .ref z.1, rfl, rfl, SqL.of GG.ls, az, _, rfl, x.1, z.1, D, x.2.1, z.2.1, x.2.2, z.2.2, st, rfl, (oks GG).1, (oks GG).2, SD, ch, l60, fun Hb sb => ?_⟩
            exact ⟨true, rfl, if_f rfl ⟨_, _, _, _, _, _, _, _, _, _, _, _, _, _, _, _, rfl, sb⟩⟩
          rintro σ Hb ⟨v2, v3, v4, v5, v6, v8, v9, v10, v11, v13, v14, v15, v16, v17, v18, v19, rfl, sb⟩
          have GGb := GG.same sb
          have SDb := SD.same sb
          -- the comparison holds
          refine ⟨fun σ H' => ∃ v2 v3 v4 v5 v6 v8 v9 v10 v11 v13 v14 v15 v16 v17 v18 v19 : Option V, σ = [some (.ref a), some (.ref b), v2, v3, v4, v5, v6, some (.ref G), v8, v9, v10, v11, some (.ref D), v13, v14, v15, v16, v17, v18, v19] ∧ Same Ha H', ?_, ?_⟩
          · refine ⟨_, rfl, G, _, _, .ref x.1, rfl, rfl, SqL.of GGb.ls, ax, _, rfl, G, _, _, .ref z.1, rfl, rfl, SqL.of GGb.ls, az, _, rfl, (by show 2 ≤ sizeLine; decide), fun t ht => ?_⟩
            have sc := same_upd (o := .tup [.str "kin", .ref D]) ht
            refine ⟨x.1, z.1, t, D, x.2.1, z.2.1, x.2.2, z.2.2, st, rfl, (oks (GGb.same sc)).1, (oks (GGb.same sc)).2, upd_same, SDb.same sc, ch, l60, fun Hd sd => ?_⟩
            exact ⟨true, rfl, if_f rfl ⟨_, _, _, _, _, _, _, _, _, _, _, _, _, _, _, _, rfl, (sb.trans sc).trans sd⟩⟩
          rintro σ Hc ⟨v2, v3, v4, v5, v6, v8, v9, v10, v11, v13, v14, v15, v16, v17, v18, v19, rfl, sc⟩
          have GGc := GG.same sc
          have SDc := SD.same sc
          -- and back
          refine ⟨fun σ H' => ∃ v2 v3 v4 v5 v6 v8 v9 v10 v11 v14 v15 v16 v17 v18 v19 : Option V, ∃ (Z : Addr), σ = [some (.ref a), some (.ref b), v2, v3, v4, v5, v6, some (.ref G), v8, v9, v10, v11, some (.ref D), some (.ref Z), v14, v15, v16, v17, v18, v19] ∧ Same Ha H' ∧ St3 CS CM CR H' Z (undC x.2.1 x.2.2 st), ?_, ?_⟩
          · refine ⟨_, rfl, G, _, _, .ref x.1, rfl, rfl, SqL.of GGc.ls, ax, _, rfl, x.1, D, x.2.1, z.2.1, x.2.2, z.2.2, st, rfl, (oks GGc).1, SDc, ch, l60, fun Z Hd sd SZ => ?_⟩
            exact ⟨_, _, _, _, _, _, _, _, _, _, _, _, _, _, _, Z, rfl, sc.trans sd, SZ⟩
          rintro σ Hd ⟨v2, v3, v4, v5, v6, v8, v9, v10, v11, v14, v15, v16, v17, v18, v19, Z, rfl, sd, SZ⟩
          have GGd := GG.same sd
          obtain ⟨oz, eZ, lz, _⟩ := id SZ
          have vx := (oks GGd).1
          refine ⟨_, rfl, Z, _, rfl, .inl (SqL.of eZ), _, _, rfl, rfl, _, rfl, ite2 (fun hc => ?_) (fun hc => if_f rfl ⟨_, _, _, _, _, _, _, _, _, _, _, _, _, _, _, _, _, _, rfl, GGd.bag⟩)⟩
          have hc := of_decide_eq_true hc
          rw [List.length_map, lz] at hc
          refine ⟨_, rfl, G, _, _, .ref z.1, rfl, rfl, SqL.of GGd.ls, az, _, rfl, G, _, _, .ref x.1, rfl, rfl, SqL.of GGd.ls, ax, _, rfl, z.1, x.1, Z, z.2.1, x.2.1, z.2.2, x.2.2, undC x.2.1 x.2.2 st, rfl, (oks GGd).2, vx, SZ, ch.und vx.va vx.n1 vx.n8 vx.l24, by omega, fun He se => ?_⟩
          exact ⟨true, rfl, if_f rfl ⟨_, _, _, _, _, _, _, _, _, _, _, _, _, _, _, _, _, _, rfl, GGd.bag.same se⟩⟩
        · exact if_f (by rw [Bool.not_eq_true] at k2; exact k2) ⟨_, _, _, _, _, _, _, _, _, _, _, _, _, _, _, _, _, _, rfl, GG.bag⟩
      · exact if_f (by rw [Bool.not_eq_true] at k1; exact k1) (if_f rfl ⟨_, _, _, _, _, _, _, _, _, _, _, _, _, _, _, _, _, _, rfl, GG.bag⟩)
    · rintro σ H2 ⟨v2, v3, v4, v5, v6, v7, v8, v9, v10, v11, v12, v13, v14, v15, v16, v17, v18, v19, rfl, B2⟩
      exact q H2
end
end Lw
set_option Elab.async false
set_option linter.all false
set_option maxRecDepth 100000
namespace Lw
open PySem L2
theorem exm_own {K : PySem.W.Frag} {C S : Addr} (h1 : PySem.W.subIn K (.ref S) (.type "BaseException") = some true) (h2 : PySem.W.isClsIn K S = true) (h3 : PySem.W.typeIn K (.ref S) = some (.type "type")) (h4 : PySem.W.subIn K (.ref C) (.ref S) = some true) :
    PySem.W.exmOne K (.ref C) (.ref S) = some true := by
  have e1 : (PySem.W.subIn K (.ref S) (.type "BaseException") == some true) = true := by rw [h1] <;> rfl
  have e2 : ((PySem.W.clsIn K S).isSome && PySem.W.typeIn K (.ref S) == some (.type "type")) = true := by
    have h2' : (PySem.W.clsIn K S).isSome = true := h2
    rw [h2', h3] <;> rfl
  show (if (PySem.W.subIn K (.ref S) (.type "BaseException") == some true) = true then (if ((PySem.W.clsIn K S).isSome && PySem.W.typeIn K (.ref S) == some (.type "type")) = true then PySem.W.subIn K (.ref C) (.ref S) else none) else none) = some true
  rw [if_pos e1, if_pos e2]
  exact h4
theorem hd_at {K : PySem.W.Frag} {c P : Addr} (e : PySem.W.codeHdIn K c P = true) : ∃ (e : Value) (dd : Option Addr) (vs : Array Value) (sl : Array (Option Value)), K.lookup c = some ⟨e, dd, .fields vs, sl⟩ ∧ vs[11]? = some (.ref P) := by
  unfold PySem.W.codeHdIn at e
  split at e
  · rename_i vs _ hk
    simp only [Bool.and_eq_true] at e
    obtain ⟨⟨⟨⟨⟨e1, _⟩, _⟩, _⟩, _⟩, _⟩ := e
    split at e1
    · rename_i P' h11
      have hP : P' = P := beq_iff_eq.mp e1
      subst hP
      exact ⟨_, _, _, _, hk, h11⟩
    · cases e1
  · cases e
theorem kit_no {K : PySem.W.Frag} {C : Addr} {T : String} (h1 : PySem.W.isClsIn K C = true) (h2 : PySem.W.typeIn K (.ref C) = some (.type "type")) (h3 : PySem.W.subIn K (.type T) (.ref C) = some false) : PySem.W.kitOne K (.type T) (.ref C) = some false := by
  have e1 : ((PySem.W.clsIn K C).isSome && PySem.W.typeIn K (.ref C) == some (.type "type")) = true := by
    have h1' : (PySem.W.clsIn K C).isSome = true := h1
    rw [h1', h2]
    rfl
  show (if (Value.type T == Value.ref C) = true then some true else if ((PySem.W.clsIn K C).isSome && PySem.W.typeIn K (.ref C) == some (.type "type")) = true then PySem.W.subIn K (.type T) (.ref C) else none) = some false
  rw [if_neg (show ¬ ((Value.type T == Value.ref C) = true) from Bool.false_ne_true), if_pos e1]
  exact h3
theorem kit_me {K : PySem.W.Frag} {C : Addr} : PySem.W.kitOne K (.ref C) (.ref C) = some true := by
  unfold PySem.W.kitOne
  simp
set_option maxHeartbeats 4000000 in
theorem all_mk {l : PySem.W.OpenLaw} {w : World} {K : PySem.W.Frag} {h : Heap} {mg : Str → Option Value} {fa C f_bag f_pull f_of f_plan f_check f_init f_graph f_cnt f_eds f_edg f_cst f_lea f_ent f_len f_eq p_st f_st CM CR CS f_mi f_ri f_si f_mck f_mkp f_mns f_mrs f_mpt f_mud f_ip f_tb f_rck f_rr f_rud f_sal f_sck f_sr f_sud f_mp f_le f_cg f_cr f_gr f_lt f_uc f_pf f_fb f_fsn f_en f_fr f_ak f_cmp f_ck f_cl f_pr f_pw f_cc f_lcn f_mgr f_mrg f_lrn f_lsp f_shf f_stf f_std f_sps f_lch f_tg f_law : Addr} (X : K.In h) (G : h.Ns mainGlobals mg) (hfa : mg "law" = some (.ref fa))
    {t8 t24 : Tok}
    {od_bag an_bag : Option Addr} {sl_bag : Array (Option Value)} {oc_bag kV_bag dc_bag pm_bag cd_bag ct_bag : Value}
    {od_pull an_pull : Option Addr} {sl_pull : Array (Option Value)} {oc_pull kV_pull dc_pull pm_pull cd_pull ct_pull : Value}
    {od_of an_of : Option Addr} {sl_of : Array (Option Value)} {oc_of kV_of dc_of pm_of cd_of ct_of : Value}
    {od_plan an_plan : Option Addr} {sl_plan : Array (Option Value)} {oc_plan kV_plan dc_plan pm_plan cd_plan ct_plan : Value}
    {od_check an_check : Option Addr} {sl_check : Array (Option Value)} {oc_check kV_check dc_check pm_check cd_check ct_check : Value}
    {od_init an_init : Option Addr} {sl_init : Array (Option Value)} {oc_init kV_init dc_init pm_init cd_init ct_init : Value}
    {od_graph an_graph : Option Addr} {sl_graph : Array (Option Value)} {oc_graph kV_graph dc_graph pm_graph cd_graph ct_graph : Value}
    {od_cnt an_cnt : Option Addr} {sl_cnt : Array (Option Value)} {oc_cnt kV_cnt dc_cnt pm_cnt cd_cnt ct_cnt : Value}
    {od_eds an_eds : Option Addr} {sl_eds : Array (Option Value)} {oc_eds kV_eds dc_eds pm_eds cd_eds ct_eds : Value}
    {od_edg an_edg : Option Addr} {sl_edg : Array (Option Value)} {oc_edg kV_edg dc_edg pm_edg cd_edg ct_edg : Value}
    {od_cst an_cst : Option Addr} {sl_cst : Array (Option Value)} {oc_cst kV_cst dc_cst pm_cst cd_cst ct_cst : Value}
    {od_lea an_lea : Option Addr} {sl_lea : Array (Option Value)} {oc_lea kV_lea dc_lea pm_lea cd_lea ct_lea : Value}
    {od_ent an_ent : Option Addr} {sl_ent : Array (Option Value)} {oc_ent kV_ent dc_ent pm_ent cd_ent ct_ent : Value}
    {od_len an_len : Option Addr} {sl_len : Array (Option Value)} {oc_len kV_len dc_len pm_len cd_len ct_len : Value}
    {od_eq an_eq : Option Addr} {sl_eq : Array (Option Value)} {oc_eq kV_eq dc_eq pm_eq cd_eq ct_eq : Value}
    {re_st : List Value}
    {od_st an_st : Option Addr} {sl_st : Array (Option Value)} {oc_st kV_st dc_st pm_st cd_st ct_st : Value}
    {od_mi an_mi : Option Addr} {sl_mi : Array (Option Value)} {oc_mi kV_mi dc_mi pm_mi cd_mi ct_mi : Value}
    {od_ri an_ri : Option Addr} {sl_ri : Array (Option Value)} {oc_ri kV_ri dc_ri pm_ri cd_ri ct_ri : Value}
    {od_si an_si : Option Addr} {sl_si : Array (Option Value)} {oc_si kV_si dc_si pm_si cd_si ct_si : Value}
    {od_mck an_mck : Option Addr} {sl_mck : Array (Option Value)} {oc_mck kV_mck dc_mck pm_mck cd_mck ct_mck : Value}
    {od_mkp an_mkp : Option Addr} {sl_mkp : Array (Option Value)} {oc_mkp kV_mkp dc_mkp pm_mkp cd_mkp ct_mkp : Value}
    {od_mns an_mns : Option Addr} {sl_mns : Array (Option Value)} {oc_mns kV_mns dc_mns pm_mns cd_mns ct_mns : Value}
    {od_mrs an_mrs : Option Addr} {sl_mrs : Array (Option Value)} {oc_mrs kV_mrs dc_mrs pm_mrs cd_mrs ct_mrs : Value}
    {od_mpt an_mpt : Option Addr} {sl_mpt : Array (Option Value)} {oc_mpt kV_mpt dc_mpt pm_mpt cd_mpt ct_mpt : Value}
    {od_mud an_mud : Option Addr} {sl_mud : Array (Option Value)} {oc_mud kV_mud dc_mud pm_mud cd_mud ct_mud : Value}
    {od_ip an_ip : Option Addr} {sl_ip : Array (Option Value)} {oc_ip kV_ip dc_ip pm_ip cd_ip ct_ip : Value}
    {od_tb an_tb : Option Addr} {sl_tb : Array (Option Value)} {oc_tb kV_tb dc_tb pm_tb cd_tb ct_tb : Value}
    {od_rck an_rck : Option Addr} {sl_rck : Array (Option Value)} {oc_rck kV_rck dc_rck pm_rck cd_rck ct_rck : Value}
    {od_rr an_rr : Option Addr} {sl_rr : Array (Option Value)} {oc_rr kV_rr dc_rr pm_rr cd_rr ct_rr : Value}
    {od_rud an_rud : Option Addr} {sl_rud : Array (Option Value)} {oc_rud kV_rud dc_rud pm_rud cd_rud ct_rud : Value}
    {od_sal an_sal : Option Addr} {sl_sal : Array (Option Value)} {oc_sal kV_sal dc_sal pm_sal cd_sal ct_sal : Value}
    {od_sck an_sck : Option Addr} {sl_sck : Array (Option Value)} {oc_sck kV_sck dc_sck pm_sck cd_sck ct_sck : Value}
    {od_sr an_sr : Option Addr} {sl_sr : Array (Option Value)} {oc_sr kV_sr dc_sr pm_sr cd_sr ct_sr : Value}
    {od_sud an_sud : Option Addr} {sl_sud : Array (Option Value)} {oc_sud kV_sud dc_sud pm_sud cd_sud ct_sud : Value}
    {od_mp an_mp : Option Addr} {sl_mp : Array (Option Value)} {oc_mp kV_mp dc_mp pm_mp cd_mp ct_mp : Value}
    {od_le an_le : Option Addr} {sl_le : Array (Option Value)} {oc_le kV_le dc_le pm_le cd_le ct_le : Value}
    {t60 : Tok}
    {od_cg an_cg : Option Addr} {sl_cg : Array (Option Value)} {oc_cg kV_cg dc_cg pm_cg cd_cg ct_cg : Value}
    {od_cr an_cr : Option Addr} {sl_cr : Array (Option Value)} {oc_cr kV_cr dc_cr pm_cr cd_cr ct_cr : Value}
    {od_gr an_gr : Option Addr} {sl_gr : Array (Option Value)} {oc_gr kV_gr dc_gr pm_gr cd_gr ct_gr : Value}
    {od_lt an_lt : Option Addr} {sl_lt : Array (Option Value)} {oc_lt kV_lt dc_lt pm_lt cd_lt ct_lt : Value}
    {od_uc an_uc : Option Addr} {sl_uc : Array (Option Value)} {oc_uc kV_uc dc_uc pm_uc cd_uc ct_uc : Value}
    {od_pf an_pf : Option Addr} {sl_pf : Array (Option Value)} {oc_pf kV_pf dc_pf pm_pf cd_pf ct_pf : Value}
    {od_fb an_fb : Option Addr} {sl_fb : Array (Option Value)} {oc_fb kV_fb dc_fb pm_fb cd_fb ct_fb : Value}
    {od_fsn an_fsn : Option Addr} {sl_fsn : Array (Option Value)} {oc_fsn kV_fsn dc_fsn pm_fsn cd_fsn ct_fsn : Value}
    {od_en an_en : Option Addr} {sl_en : Array (Option Value)} {oc_en kV_en dc_en pm_en cd_en ct_en : Value}
    {od_fr an_fr : Option Addr} {sl_fr : Array (Option Value)} {oc_fr kV_fr dc_fr pm_fr cd_fr ct_fr : Value}
    {od_ak an_ak : Option Addr} {sl_ak : Array (Option Value)} {oc_ak kV_ak dc_ak pm_ak cd_ak ct_ak : Value}
    {od_cmp an_cmp : Option Addr} {sl_cmp : Array (Option Value)} {oc_cmp kV_cmp dc_cmp pm_cmp cd_cmp ct_cmp : Value}
    {od_ck an_ck : Option Addr} {sl_ck : Array (Option Value)} {oc_ck kV_ck dc_ck pm_ck cd_ck ct_ck : Value}
    {tMC : Tok}
    {od_cl an_cl : Option Addr} {sl_cl : Array (Option Value)} {oc_cl kV_cl dc_cl pm_cl cd_cl ct_cl : Value}
    {od_pr an_pr : Option Addr} {sl_pr : Array (Option Value)} {oc_pr kV_pr dc_pr pm_pr cd_pr ct_pr : Value}
    {od_pw an_pw : Option Addr} {sl_pw : Array (Option Value)} {oc_pw kV_pw dc_pw pm_pw cd_pw ct_pw : Value}
    {od_cc an_cc : Option Addr} {sl_cc : Array (Option Value)} {oc_cc kV_cc dc_cc pm_cc cd_cc ct_cc : Value}
    {od_lcn an_lcn : Option Addr} {sl_lcn : Array (Option Value)} {oc_lcn kV_lcn dc_lcn pm_lcn cd_lcn ct_lcn : Value}
    {od_mgr an_mgr : Option Addr} {sl_mgr : Array (Option Value)} {oc_mgr kV_mgr dc_mgr pm_mgr cd_mgr ct_mgr : Value}
    {od_mrg an_mrg : Option Addr} {sl_mrg : Array (Option Value)} {oc_mrg kV_mrg dc_mrg pm_mrg cd_mrg ct_mrg : Value}
    {od_lrn an_lrn : Option Addr} {sl_lrn : Array (Option Value)} {oc_lrn kV_lrn dc_lrn pm_lrn cd_lrn ct_lrn : Value}
    {od_lsp an_lsp : Option Addr} {sl_lsp : Array (Option Value)} {oc_lsp kV_lsp dc_lsp pm_lsp cd_lsp ct_lsp : Value}
    {od_shf an_shf : Option Addr} {sl_shf : Array (Option Value)} {oc_shf kV_shf dc_shf pm_shf cd_shf ct_shf : Value}
    {od_stf an_stf : Option Addr} {sl_stf : Array (Option Value)} {oc_stf kV_stf dc_stf pm_stf cd_stf ct_stf : Value}
    {od_std an_std : Option Addr} {sl_std : Array (Option Value)} {oc_std kV_std dc_std pm_std cd_std ct_std : Value}
    {od_sps an_sps : Option Addr} {sl_sps : Array (Option Value)} {oc_sps kV_sps dc_sps pm_sps cd_sps ct_sps : Value}
    {od_lch an_lch : Option Addr} {sl_lch : Array (Option Value)} {oc_lch kV_lch dc_lch pm_lch cd_lch ct_lch : Value}
    {od_tg an_tg : Option Addr} {sl_tg : Array (Option Value)} {oc_tg kV_tg dc_tg pm_tg cd_tg ct_tg : Value}
    {od_law an_law : Option Addr} {sl_law : Array (Option Value)} {oc_law kV_law dc_law pm_law cd_law ct_law : Value}
    (z_len : PySem.W.nsIn K mainGlobals "len" = some none)
    (z_list : PySem.W.nsIn K mainGlobals "list" = some none)
    (z_tuple : PySem.W.nsIn K mainGlobals "tuple" = some none)
    (z_bool : PySem.W.nsIn K mainGlobals "bool" = some none)
    (z_int : PySem.W.nsIn K mainGlobals "int" = some none)
    (z_str : PySem.W.nsIn K mainGlobals "str" = some none)
    (z_isinstance : PySem.W.nsIn K mainGlobals "isinstance" = some none)
    (z_all : PySem.W.nsIn K mainGlobals "all" = some none)
    (z_zip : PySem.W.nsIn K mainGlobals "zip" = some none)
    (z_range : PySem.W.nsIn K mainGlobals "range" = some none)
    (z_enumerate : PySem.W.nsIn K mainGlobals "enumerate" = some none)
    (z_any : PySem.W.nsIn K mainGlobals "any" = some none)
    (z_sorted : PySem.W.nsIn K mainGlobals "sorted" = some none)
    (z_reversed : PySem.W.nsIn K mainGlobals "reversed" = some none)
    (z_sum : PySem.W.nsIn K mainGlobals "sum" = some none)
    (aC : PySem.W.nsIn K mainGlobals "Graph" = some (some (.ref C)))
    (gpg : PySem.W.plainGet K C Str.empty = true)
    (ghd : PySem.W.hasDictIn K C = true)
    (gpo : PySem.W.plainOver K C = true)
    (gsa : PySem.W.findIn K (.ref C) "__setattr__" = some (some (.builtin "object.__setattr__")))
    (gmk : PySem.W.makesIn K C = true)
    (gkc : PySem.W.keepIn K (.ref C) = true)
    (gnS : PySem.W.findIn K (.ref C) "state_count" = some none)
    (gnE : PySem.W.findIn K (.ref C) "edge_pairs" = some none)
    (grd : PySem.W.readsIn K C (.type "type") = true)
    (gga : PySem.W.specialIn K (.ref C) "__getattribute__" = some (some (.builtin "type.__getattribute__")))
    (gv8 : PySem.W.findCls K (.ref C) (.type "type") "MAX_STATES" = some (.val (.int 8 t8)))
    (gv24 : PySem.W.findCls K (.ref C) (.type "type") "MAX_EDGES" = some (.val (.int 24 t24)))
    (iha : PySem.W.findIn K (.ref C) "__class__" = some (some (.builtin "object.__class__")))
    (ihn : PySem.W.specialIn K (.builtin "object.__class__") "__get__" = some (some (.builtin "getset_descriptor.__get__")))
    (ihtk : PySem.W.takesIn K (.builtin "object.__class__") = some true)
    (ihm : PySem.W.mroIn K C (.type "object") = some true)
    (iCl : PySem.W.isClsIn K C = true)
    (tyC : PySem.W.typeIn K (.ref C) = some (.type "type"))
    (qn : PySem.W.subIn K (.type "NoneType") (.ref C) = some false)
    (qi : PySem.W.subIn K (.type "int") (.ref C) = some false)
    (ql : PySem.W.subIn K (.type "list") (.ref C) = some false)
    (qt : PySem.W.subIn K (.type "tuple") (.ref C) = some false)
    (a_bag : PySem.W.nsIn K mainGlobals "_law_bag" = some (some (.ref f_bag)))
    (l_bag : K.lookup f_bag = some ⟨oc_bag, od_bag, .func (PySem.W.fnOf "_law_bag" "_law_bag" (defArgs sBag) (defBody sBag) (defScope sBag) .none kV_bag dc_bag pm_bag an_bag cd_bag ct_bag), sl_bag⟩)
    (c_bag : PySem.W.codeIn K cd_bag "_law_bag" = true)
    (k_bag : PySem.W.keepIn K (.ref f_bag) = true)
    (a_pull : PySem.W.nsIn K mainGlobals "_law_pull" = some (some (.ref f_pull)))
    (l_pull : K.lookup f_pull = some ⟨oc_pull, od_pull, .func (PySem.W.fnOf "_law_pull" "_law_pull" (defArgs sPull) (defBody sPull) (defScope sPull) .none kV_pull dc_pull pm_pull an_pull cd_pull ct_pull), sl_pull⟩)
    (c_pull : PySem.W.codeIn K cd_pull "_law_pull" = true)
    (k_pull : PySem.W.keepIn K (.ref f_pull) = true)
    (a_of : PySem.W.nsIn K mainGlobals "_law_of" = some (some (.ref f_of)))
    (l_of : K.lookup f_of = some ⟨oc_of, od_of, .func (PySem.W.fnOf "_law_of" "_law_of" (defArgs sOf) (defBody sOf) (defScope sOf) .none kV_of dc_of pm_of an_of cd_of ct_of), sl_of⟩)
    (c_of : PySem.W.codeIn K cd_of "_law_of" = true)
    (k_of : PySem.W.keepIn K (.ref f_of) = true)
    (a_plan : PySem.W.nsIn K mainGlobals "_law_plan" = some (some (.ref f_plan)))
    (l_plan : K.lookup f_plan = some ⟨oc_plan, od_plan, .func (PySem.W.fnOf "_law_plan" "_law_plan" (defArgs sPlan) (defBody sPlan) (defScope sPlan) .none kV_plan dc_plan pm_plan an_plan cd_plan ct_plan), sl_plan⟩)
    (c_plan : PySem.W.codeIn K cd_plan "_law_plan" = true)
    (k_plan : PySem.W.keepIn K (.ref f_plan) = true)
    (a_check : PySem.W.nsIn K mainGlobals "check_edges" = some (some (.ref f_check)))
    (l_check : K.lookup f_check = some ⟨oc_check, od_check, .func (PySem.W.fnOf "check_edges" "check_edges" (defArgs sCheck) (defBody sCheck) (defScope sCheck) .none kV_check dc_check pm_check an_check cd_check ct_check), sl_check⟩)
    (c_check : PySem.W.codeIn K cd_check "check_edges" = true)
    (k_check : PySem.W.keepIn K (.ref f_check) = true)
    (a_init : PySem.W.findIn K (.ref C) "__init__" = some (some (.ref f_init)))
    (i_init : PySem.W.isFn K (.ref f_init) = true)
    (l_init : K.lookup f_init = some ⟨oc_init, od_init, .func (PySem.W.fnOf "__init__" "Graph.__init__" (defArgs sInit) (defBody sInit) (defScope sInit) .none kV_init dc_init pm_init an_init cd_init ct_init), sl_init⟩)
    (c_init : PySem.W.codeIn K cd_init "Graph.__init__" = true)
    (k_init : PySem.W.keepIn K (.ref f_init) = true)
    (a_graph : PySem.W.nsIn K mainGlobals "_law_graph" = some (some (.ref f_graph)))
    (l_graph : K.lookup f_graph = some ⟨oc_graph, od_graph, .func (PySem.W.fnOf "_law_graph" "_law_graph" (defArgs sGraph) (defBody sGraph) (defScope sGraph) .none kV_graph dc_graph pm_graph an_graph cd_graph ct_graph), sl_graph⟩)
    (c_graph : PySem.W.codeIn K cd_graph "_law_graph" = true)
    (k_graph : PySem.W.keepIn K (.ref f_graph) = true)
    (a_cnt : PySem.W.findIn K (.ref C) "counts" = some (some (.ref f_cnt)))
    (i_cnt : PySem.W.isFn K (.ref f_cnt) = true)
    (l_cnt : K.lookup f_cnt = some ⟨oc_cnt, od_cnt, .func (PySem.W.fnOf "counts" "Graph.counts" (defArgs sCounts) (defBody sCounts) (defScope sCounts) .none kV_cnt dc_cnt pm_cnt an_cnt cd_cnt ct_cnt), sl_cnt⟩)
    (c_cnt : PySem.W.codeIn K cd_cnt "Graph.counts" = true)
    (k_cnt : PySem.W.keepIn K (.ref f_cnt) = true)
    (a_eds : PySem.W.findIn K (.ref C) "edges" = some (some (.ref f_eds)))
    (i_eds : PySem.W.isFn K (.ref f_eds) = true)
    (l_eds : K.lookup f_eds = some ⟨oc_eds, od_eds, .func (PySem.W.fnOf "edges" "Graph.edges" (defArgs sEdges) (defBody sEdges) (defScope sEdges) .none kV_eds dc_eds pm_eds an_eds cd_eds ct_eds), sl_eds⟩)
    (c_eds : PySem.W.codeIn K cd_eds "Graph.edges" = true)
    (k_eds : PySem.W.keepIn K (.ref f_eds) = true)
    (a_edg : PySem.W.findIn K (.ref C) "edge" = some (some (.ref f_edg)))
    (i_edg : PySem.W.isFn K (.ref f_edg) = true)
    (l_edg : K.lookup f_edg = some ⟨oc_edg, od_edg, .func (PySem.W.fnOf "edge" "Graph.edge" (defArgs sEdge) (defBody sEdge) (defScope sEdge) .none kV_edg dc_edg pm_edg an_edg cd_edg ct_edg), sl_edg⟩)
    (c_edg : PySem.W.codeIn K cd_edg "Graph.edge" = true)
    (k_edg : PySem.W.keepIn K (.ref f_edg) = true)
    (a_cst : PySem.W.findIn K (.ref C) "check_state" = some (some (.ref f_cst)))
    (i_cst : PySem.W.isFn K (.ref f_cst) = true)
    (l_cst : K.lookup f_cst = some ⟨oc_cst, od_cst, .func (PySem.W.fnOf "check_state" "Graph.check_state" (defArgs sCheckState) (defBody sCheckState) (defScope sCheckState) .none kV_cst dc_cst pm_cst an_cst cd_cst ct_cst), sl_cst⟩)
    (c_cst : PySem.W.codeIn K cd_cst "Graph.check_state" = true)
    (k_cst : PySem.W.keepIn K (.ref f_cst) = true)
    (a_lea : PySem.W.findIn K (.ref C) "leaving" = some (some (.ref f_lea)))
    (i_lea : PySem.W.isFn K (.ref f_lea) = true)
    (l_lea : K.lookup f_lea = some ⟨oc_lea, od_lea, .func (PySem.W.fnOf "leaving" "Graph.leaving" (defArgs sLeaving) (defBody sLeaving) (defScope sLeaving) .none kV_lea dc_lea pm_lea an_lea cd_lea ct_lea), sl_lea⟩)
    (c_lea : PySem.W.codeIn K cd_lea "Graph.leaving" = true)
    (k_lea : PySem.W.keepIn K (.ref f_lea) = true)
    (a_ent : PySem.W.findIn K (.ref C) "entering" = some (some (.ref f_ent)))
    (i_ent : PySem.W.isFn K (.ref f_ent) = true)
    (l_ent : K.lookup f_ent = some ⟨oc_ent, od_ent, .func (PySem.W.fnOf "entering" "Graph.entering" (defArgs sEntering) (defBody sEntering) (defScope sEntering) .none kV_ent dc_ent pm_ent an_ent cd_ent ct_ent), sl_ent⟩)
    (c_ent : PySem.W.codeIn K cd_ent "Graph.entering" = true)
    (k_ent : PySem.W.keepIn K (.ref f_ent) = true)
    (a_len : PySem.W.findIn K (.ref C) "__len__" = some (some (.ref f_len)))
    (i_len : PySem.W.isFn K (.ref f_len) = true)
    (l_len : K.lookup f_len = some ⟨oc_len, od_len, .func (PySem.W.fnOf "__len__" "Graph.__len__" (defArgs sLen) (defBody sLen) (defScope sLen) .none kV_len dc_len pm_len an_len cd_len ct_len), sl_len⟩)
    (c_len : PySem.W.codeIn K cd_len "Graph.__len__" = true)
    (k_len : PySem.W.keepIn K (.ref f_len) = true)
    (a_eq : PySem.W.findIn K (.ref C) "__eq__" = some (some (.ref f_eq)))
    (i_eq : PySem.W.isFn K (.ref f_eq) = true)
    (l_eq : K.lookup f_eq = some ⟨oc_eq, od_eq, .func (PySem.W.fnOf "__eq__" "Graph.__eq__" (defArgs sEq) (defBody sEq) (defScope sEq) .none kV_eq dc_eq pm_eq an_eq cd_eq ct_eq), sl_eq⟩)
    (c_eq : PySem.W.codeIn K cd_eq "Graph.__eq__" = true)
    (k_eq : PySem.W.keepIn K (.ref f_eq) = true)
    (a_st : PySem.W.findIn K (.ref C) "states" = some (some (.ref p_st)))
    (g_st : PySem.W.specialIn K (.ref p_st) "__get__" = some (some (.builtin "property.__get__")))
    (t_st : PySem.W.takesIn K (.ref p_st) = some true)
    (r_st : PySem.W.recIn K p_st "property" = some (.ref f_st :: re_st))
    (l_st : K.lookup f_st = some ⟨oc_st, od_st, .func (PySem.W.fnOf "states" "Graph.states" (defArgs sStates) (defBody sStates) (defScope sStates) .none kV_st dc_st pm_st an_st cd_st ct_st), sl_st⟩)
    (c_st : PySem.W.codeIn K cd_st "Graph.states" = true)
    (k_st : PySem.W.keepIn K (.ref f_st) = true)
    (aCM : PySem.W.nsIn K mainGlobals "Merge" = some (some (.ref CM)))
    (pgM : PySem.W.plainGet K CM Str.empty = true)
    (hdM : PySem.W.hasDictIn K CM = true)
    (poM : PySem.W.plainOver K CM = true)
    (saM : PySem.W.findIn K (.ref CM) "__setattr__" = some (some (.builtin "object.__setattr__")))
    (mkM : PySem.W.makesIn K CM = true)
    (kcM : PySem.W.keepIn K (.ref CM) = true)
    (haM : PySem.W.findIn K (.ref CM) "__class__" = some (some (.builtin "object.__class__")))
    (hmM : PySem.W.mroIn K CM (.type "object") = some true)
    (nlow_M : PySem.W.findIn K (.ref CM) "low" = some none)
    (nhigh_M : PySem.W.findIn K (.ref CM) "high" = some none)
    (aCR : PySem.W.nsIn K mainGlobals "Renaming" = some (some (.ref CR)))
    (pgR : PySem.W.plainGet K CR Str.empty = true)
    (hdR : PySem.W.hasDictIn K CR = true)
    (poR : PySem.W.plainOver K CR = true)
    (saR : PySem.W.findIn K (.ref CR) "__setattr__" = some (some (.builtin "object.__setattr__")))
    (mkR : PySem.W.makesIn K CR = true)
    (kcR : PySem.W.keepIn K (.ref CR) = true)
    (haR : PySem.W.findIn K (.ref CR) "__class__" = some (some (.builtin "object.__class__")))
    (hmR : PySem.W.mroIn K CR (.type "object") = some true)
    (nstate_numbers_R : PySem.W.findIn K (.ref CR) "state_numbers" = some none)
    (nedge_numbers_R : PySem.W.findIn K (.ref CR) "edge_numbers" = some none)
    (aCS : PySem.W.nsIn K mainGlobals "Split" = some (some (.ref CS)))
    (pgS : PySem.W.plainGet K CS Str.empty = true)
    (hdS : PySem.W.hasDictIn K CS = true)
    (poS : PySem.W.plainOver K CS = true)
    (saS : PySem.W.findIn K (.ref CS) "__setattr__" = some (some (.builtin "object.__setattr__")))
    (mkS : PySem.W.makesIn K CS = true)
    (kcS : PySem.W.keepIn K (.ref CS) = true)
    (haS : PySem.W.findIn K (.ref CS) "__class__" = some (some (.builtin "object.__class__")))
    (hmS : PySem.W.mroIn K CS (.type "object") = some true)
    (nstate_S : PySem.W.findIn K (.ref CS) "state" = some none)
    (npart_S : PySem.W.findIn K (.ref CS) "part" = some none)
    (a_mi : PySem.W.findIn K (.ref CM) "__init__" = some (some (.ref f_mi)))
    (i_mi : PySem.W.isFn K (.ref f_mi) = true)
    (l_mi : K.lookup f_mi = some ⟨oc_mi, od_mi, .func (PySem.W.fnOf "__init__" "Merge.__init__" (defArgs sMI) (defBody sMI) (defScope sMI) .none kV_mi dc_mi pm_mi an_mi cd_mi ct_mi), sl_mi⟩)
    (c_mi : PySem.W.codeIn K cd_mi "Merge.__init__" = true)
    (k_mi : PySem.W.keepIn K (.ref f_mi) = true)
    (a_ri : PySem.W.findIn K (.ref CR) "__init__" = some (some (.ref f_ri)))
    (i_ri : PySem.W.isFn K (.ref f_ri) = true)
    (l_ri : K.lookup f_ri = some ⟨oc_ri, od_ri, .func (PySem.W.fnOf "__init__" "Renaming.__init__" (defArgs sRI) (defBody sRI) (defScope sRI) .none kV_ri dc_ri pm_ri an_ri cd_ri ct_ri), sl_ri⟩)
    (c_ri : PySem.W.codeIn K cd_ri "Renaming.__init__" = true)
    (k_ri : PySem.W.keepIn K (.ref f_ri) = true)
    (a_si : PySem.W.findIn K (.ref CS) "__init__" = some (some (.ref f_si)))
    (i_si : PySem.W.isFn K (.ref f_si) = true)
    (l_si : K.lookup f_si = some ⟨oc_si, od_si, .func (PySem.W.fnOf "__init__" "Split.__init__" (defArgs sSI) (defBody sSI) (defScope sSI) .none kV_si dc_si pm_si an_si cd_si ct_si), sl_si⟩)
    (c_si : PySem.W.codeIn K cd_si "Split.__init__" = true)
    (k_si : PySem.W.keepIn K (.ref f_si) = true)
    (a_mck : PySem.W.findIn K (.ref CM) "check" = some (some (.ref f_mck)))
    (i_mck : PySem.W.isFn K (.ref f_mck) = true)
    (l_mck : K.lookup f_mck = some ⟨oc_mck, od_mck, .func (PySem.W.fnOf "check" "Merge.check" (defArgs sMCk) (defBody sMCk) (defScope sMCk) .none kV_mck dc_mck pm_mck an_mck cd_mck ct_mck), sl_mck⟩)
    (c_mck : PySem.W.codeIn K cd_mck "Merge.check" = true)
    (k_mck : PySem.W.keepIn K (.ref f_mck) = true)
    (a_mkp : PySem.W.findIn K (.ref CM) "kept_edges" = some (some (.ref f_mkp)))
    (i_mkp : PySem.W.isFn K (.ref f_mkp) = true)
    (l_mkp : K.lookup f_mkp = some ⟨oc_mkp, od_mkp, .func (PySem.W.fnOf "kept_edges" "Merge.kept_edges" (defArgs sMKp) (defBody sMKp) (defScope sMKp) .none kV_mkp dc_mkp pm_mkp an_mkp cd_mkp ct_mkp), sl_mkp⟩)
    (c_mkp : PySem.W.codeIn K cd_mkp "Merge.kept_edges" = true)
    (k_mkp : PySem.W.keepIn K (.ref f_mkp) = true)
    (a_mns : PySem.W.findIn K (.ref CM) "new_state" = some (some (.ref f_mns)))
    (i_mns : PySem.W.isFn K (.ref f_mns) = true)
    (l_mns : K.lookup f_mns = some ⟨oc_mns, od_mns, .func (PySem.W.fnOf "new_state" "Merge.new_state" (defArgs sMNs) (defBody sMNs) (defScope sMNs) .none kV_mns dc_mns pm_mns an_mns cd_mns ct_mns), sl_mns⟩)
    (c_mns : PySem.W.codeIn K cd_mns "Merge.new_state" = true)
    (k_mns : PySem.W.keepIn K (.ref f_mns) = true)
    (a_mrs : PySem.W.findIn K (.ref CM) "result" = some (some (.ref f_mrs)))
    (i_mrs : PySem.W.isFn K (.ref f_mrs) = true)
    (l_mrs : K.lookup f_mrs = some ⟨oc_mrs, od_mrs, .func (PySem.W.fnOf "result" "Merge.result" (defArgs sMRs) (defBody sMRs) (defScope sMRs) .none kV_mrs dc_mrs pm_mrs an_mrs cd_mrs ct_mrs), sl_mrs⟩)
    (c_mrs : PySem.W.codeIn K cd_mrs "Merge.result" = true)
    (k_mrs : PySem.W.keepIn K (.ref f_mrs) = true)
    (a_mpt : PySem.W.findIn K (.ref CM) "partners" = some (some (.ref f_mpt)))
    (i_mpt : PySem.W.isFn K (.ref f_mpt) = true)
    (l_mpt : K.lookup f_mpt = some ⟨oc_mpt, od_mpt, .func (PySem.W.fnOf "partners" "Merge.partners" (defArgs sPt) (defBody sPt) (defScope sPt) .none kV_mpt dc_mpt pm_mpt an_mpt cd_mpt ct_mpt), sl_mpt⟩)
    (c_mpt : PySem.W.codeIn K cd_mpt "Merge.partners" = true)
    (k_mpt : PySem.W.keepIn K (.ref f_mpt) = true)
    (a_mud : PySem.W.findIn K (.ref CM) "undone" = some (some (.ref f_mud)))
    (i_mud : PySem.W.isFn K (.ref f_mud) = true)
    (l_mud : K.lookup f_mud = some ⟨oc_mud, od_mud, .func (PySem.W.fnOf "undone" "Merge.undone" (defArgs sMU) (defBody sMU) (defScope sMU) .none kV_mud dc_mud pm_mud an_mud cd_mud ct_mud), sl_mud⟩)
    (c_mud : PySem.W.codeIn K cd_mud "Merge.undone" = true)
    (k_mud : PySem.W.keepIn K (.ref f_mud) = true)
    (a_ip : PySem.W.nsIn K mainGlobals "is_permutation" = some (some (.ref f_ip)))
    (l_ip : K.lookup f_ip = some ⟨oc_ip, od_ip, .func (PySem.W.fnOf "is_permutation" "is_permutation" (defArgs sIp) (defBody sIp) (defScope sIp) .none kV_ip dc_ip pm_ip an_ip cd_ip ct_ip), sl_ip⟩)
    (c_ip : PySem.W.codeIn K cd_ip "is_permutation" = true)
    (k_ip : PySem.W.keepIn K (.ref f_ip) = true)
    (a_tb : PySem.W.nsIn K mainGlobals "turned_back" = some (some (.ref f_tb)))
    (l_tb : K.lookup f_tb = some ⟨oc_tb, od_tb, .func (PySem.W.fnOf "turned_back" "turned_back" (defArgs sTb) (defBody sTb) (defScope sTb) .none kV_tb dc_tb pm_tb an_tb cd_tb ct_tb), sl_tb⟩)
    (c_tb : PySem.W.codeIn K cd_tb "turned_back" = true)
    (k_tb : PySem.W.keepIn K (.ref f_tb) = true)
    (a_rck : PySem.W.findIn K (.ref CR) "check" = some (some (.ref f_rck)))
    (i_rck : PySem.W.isFn K (.ref f_rck) = true)
    (l_rck : K.lookup f_rck = some ⟨oc_rck, od_rck, .func (PySem.W.fnOf "check" "Renaming.check" (defArgs sRCk) (defBody sRCk) (defScope sRCk) .none kV_rck dc_rck pm_rck an_rck cd_rck ct_rck), sl_rck⟩)
    (c_rck : PySem.W.codeIn K cd_rck "Renaming.check" = true)
    (k_rck : PySem.W.keepIn K (.ref f_rck) = true)
    (a_rr : PySem.W.findIn K (.ref CR) "result" = some (some (.ref f_rr)))
    (i_rr : PySem.W.isFn K (.ref f_rr) = true)
    (l_rr : K.lookup f_rr = some ⟨oc_rr, od_rr, .func (PySem.W.fnOf "result" "Renaming.result" (defArgs sRR) (defBody sRR) (defScope sRR) .none kV_rr dc_rr pm_rr an_rr cd_rr ct_rr), sl_rr⟩)
    (c_rr : PySem.W.codeIn K cd_rr "Renaming.result" = true)
    (k_rr : PySem.W.keepIn K (.ref f_rr) = true)
    (a_rud : PySem.W.findIn K (.ref CR) "undone" = some (some (.ref f_rud)))
    (i_rud : PySem.W.isFn K (.ref f_rud) = true)
    (l_rud : K.lookup f_rud = some ⟨oc_rud, od_rud, .func (PySem.W.fnOf "undone" "Renaming.undone" (defArgs sRU) (defBody sRU) (defScope sRU) .none kV_rud dc_rud pm_rud an_rud cd_rud ct_rud), sl_rud⟩)
    (c_rud : PySem.W.codeIn K cd_rud "Renaming.undone" = true)
    (k_rud : PySem.W.keepIn K (.ref f_rud) = true)
    (a_sal : PySem.W.findIn K (.ref CS) "is_allowed" = some (some (.ref f_sal)))
    (i_sal : PySem.W.isFn K (.ref f_sal) = true)
    (l_sal : K.lookup f_sal = some ⟨oc_sal, od_sal, .func (PySem.W.fnOf "is_allowed" "Split.is_allowed" (defArgs sSAl) (defBody sSAl) (defScope sSAl) .none kV_sal dc_sal pm_sal an_sal cd_sal ct_sal), sl_sal⟩)
    (c_sal : PySem.W.codeIn K cd_sal "Split.is_allowed" = true)
    (k_sal : PySem.W.keepIn K (.ref f_sal) = true)
    (a_sck : PySem.W.findIn K (.ref CS) "check" = some (some (.ref f_sck)))
    (i_sck : PySem.W.isFn K (.ref f_sck) = true)
    (l_sck : K.lookup f_sck = some ⟨oc_sck, od_sck, .func (PySem.W.fnOf "check" "Split.check" (defArgs sSCk) (defBody sSCk) (defScope sSCk) .none kV_sck dc_sck pm_sck an_sck cd_sck ct_sck), sl_sck⟩)
    (c_sck : PySem.W.codeIn K cd_sck "Split.check" = true)
    (k_sck : PySem.W.keepIn K (.ref f_sck) = true)
    (a_sr : PySem.W.findIn K (.ref CS) "result" = some (some (.ref f_sr)))
    (i_sr : PySem.W.isFn K (.ref f_sr) = true)
    (l_sr : K.lookup f_sr = some ⟨oc_sr, od_sr, .func (PySem.W.fnOf "result" "Split.result" (defArgs sSR) (defBody sSR) (defScope sSR) .none kV_sr dc_sr pm_sr an_sr cd_sr ct_sr), sl_sr⟩)
    (c_sr : PySem.W.codeIn K cd_sr "Split.result" = true)
    (k_sr : PySem.W.keepIn K (.ref f_sr) = true)
    (a_sud : PySem.W.findIn K (.ref CS) "undone" = some (some (.ref f_sud)))
    (i_sud : PySem.W.isFn K (.ref f_sud) = true)
    (l_sud : K.lookup f_sud = some ⟨oc_sud, od_sud, .func (PySem.W.fnOf "undone" "Split.undone" (defArgs sSU) (defBody sSU) (defScope sSU) .none kV_sud dc_sud pm_sud an_sud cd_sud ct_sud), sl_sud⟩)
    (c_sud : PySem.W.codeIn K cd_sud "Split.undone" = true)
    (k_sud : PySem.W.keepIn K (.ref f_sud) = true)
    (a_mp : PySem.W.nsIn K mainGlobals "merge_pairs" = some (some (.ref f_mp)))
    (l_mp : K.lookup f_mp = some ⟨oc_mp, od_mp, .func (PySem.W.fnOf "merge_pairs" "merge_pairs" (defArgs sMP) (defBody sMP) (defScope sMP) .none kV_mp dc_mp pm_mp an_mp cd_mp ct_mp), sl_mp⟩)
    (c_mp : PySem.W.codeIn K cd_mp "merge_pairs" = true)
    (k_mp : PySem.W.keepIn K (.ref f_mp) = true)
    (a_le : PySem.W.nsIn K mainGlobals "least" = some (some (.ref f_le)))
    (l_le : K.lookup f_le = some ⟨oc_le, od_le, .func (PySem.W.fnOf "least" "least" (defArgs sLe) (defBody sLe) (defScope sLe) .none kV_le dc_le pm_le an_le cd_le ct_le), sl_le⟩)
    (c_le : PySem.W.codeIn K cd_le "least" = true)
    (k_le : PySem.W.keepIn K (.ref f_le) = true)
    (aMX : PySem.W.nsIn K mainGlobals "MAX_STEPS" = some (some (.int 60 t60)))
    (a_cg : PySem.W.nsIn K mainGlobals "chain_graphs" = some (some (.ref f_cg)))
    (l_cg : K.lookup f_cg = some ⟨oc_cg, od_cg, .func (PySem.W.fnOf "chain_graphs" "chain_graphs" (defArgs sCG) (defBody sCG) (defScope sCG) .none kV_cg dc_cg pm_cg an_cg cd_cg ct_cg), sl_cg⟩)
    (c_cg : PySem.W.codeIn K cd_cg "chain_graphs" = true)
    (k_cg : PySem.W.keepIn K (.ref f_cg) = true)
    (a_cr : PySem.W.nsIn K mainGlobals "chain_result" = some (some (.ref f_cr)))
    (l_cr : K.lookup f_cr = some ⟨oc_cr, od_cr, .func (PySem.W.fnOf "chain_result" "chain_result" (defArgs sCR) (defBody sCR) (defScope sCR) .none kV_cr dc_cr pm_cr an_cr cd_cr ct_cr), sl_cr⟩)
    (c_cr : PySem.W.codeIn K cd_cr "chain_result" = true)
    (k_cr : PySem.W.keepIn K (.ref f_cr) = true)
    (a_gr : PySem.W.nsIn K mainGlobals "graph_reached" = some (some (.ref f_gr)))
    (l_gr : K.lookup f_gr = some ⟨oc_gr, od_gr, .func (PySem.W.fnOf "graph_reached" "graph_reached" (defArgs sGR) (defBody sGR) (defScope sGR) .none kV_gr dc_gr pm_gr an_gr cd_gr ct_gr), sl_gr⟩)
    (c_gr : PySem.W.codeIn K cd_gr "graph_reached" = true)
    (k_gr : PySem.W.keepIn K (.ref f_gr) = true)
    (a_lt : PySem.W.nsIn K mainGlobals "leads_to" = some (some (.ref f_lt)))
    (l_lt : K.lookup f_lt = some ⟨oc_lt, od_lt, .func (PySem.W.fnOf "leads_to" "leads_to" (defArgs sLT) (defBody sLT) (defScope sLT) .none kV_lt dc_lt pm_lt an_lt cd_lt ct_lt), sl_lt⟩)
    (c_lt : PySem.W.codeIn K cd_lt "leads_to" = true)
    (k_lt : PySem.W.keepIn K (.ref f_lt) = true)
    (a_uc : PySem.W.nsIn K mainGlobals "undone_chain" = some (some (.ref f_uc)))
    (l_uc : K.lookup f_uc = some ⟨oc_uc, od_uc, .func (PySem.W.fnOf "undone_chain" "undone_chain" (defArgs sUC) (defBody sUC) (defScope sUC) .none kV_uc dc_uc pm_uc an_uc cd_uc ct_uc), sl_uc⟩)
    (c_uc : PySem.W.codeIn K cd_uc "undone_chain" = true)
    (k_uc : PySem.W.keepIn K (.ref f_uc) = true)
    (a_pf : PySem.W.nsIn K mainGlobals "state_profiles" = some (some (.ref f_pf)))
    (l_pf : K.lookup f_pf = some ⟨oc_pf, od_pf, .func (PySem.W.fnOf "state_profiles" "state_profiles" (defArgs sPf) (defBody sPf) (defScope sPf) .none kV_pf dc_pf pm_pf an_pf cd_pf ct_pf), sl_pf⟩)
    (c_pf : PySem.W.codeIn K cd_pf "state_profiles" = true)
    (k_pf : PySem.W.keepIn K (.ref f_pf) = true)
    (a_fb : PySem.W.nsIn K mainGlobals "fits_before" = some (some (.ref f_fb)))
    (l_fb : K.lookup f_fb = some ⟨oc_fb, od_fb, .func (PySem.W.fnOf "fits_before" "fits_before" (defArgs sFb) (defBody sFb) (defScope sFb) .none kV_fb dc_fb pm_fb an_fb cd_fb ct_fb), sl_fb⟩)
    (c_fb : PySem.W.codeIn K cd_fb "fits_before" = true)
    (k_fb : PySem.W.keepIn K (.ref f_fb) = true)
    (a_fsn : PySem.W.nsIn K mainGlobals "find_state_numbers" = some (some (.ref f_fsn)))
    (l_fsn : K.lookup f_fsn = some ⟨oc_fsn, od_fsn, .func (PySem.W.fnOf "find_state_numbers" "find_state_numbers" (defArgs sFsn) (defBody sFsn) (defScope sFsn) .none kV_fsn dc_fsn pm_fsn an_fsn cd_fsn ct_fsn), sl_fsn⟩)
    (c_fsn : PySem.W.codeIn K cd_fsn "find_state_numbers" = true)
    (k_fsn : PySem.W.keepIn K (.ref f_fsn) = true)
    (a_en : PySem.W.nsIn K mainGlobals "edge_numbers_between" = some (some (.ref f_en)))
    (l_en : K.lookup f_en = some ⟨oc_en, od_en, .func (PySem.W.fnOf "edge_numbers_between" "edge_numbers_between" (defArgs sEn) (defBody sEn) (defScope sEn) .none kV_en dc_en pm_en an_en cd_en ct_en), sl_en⟩)
    (c_en : PySem.W.codeIn K cd_en "edge_numbers_between" = true)
    (k_en : PySem.W.keepIn K (.ref f_en) = true)
    (a_fr : PySem.W.nsIn K mainGlobals "find_renaming" = some (some (.ref f_fr)))
    (l_fr : K.lookup f_fr = some ⟨oc_fr, od_fr, .func (PySem.W.fnOf "find_renaming" "find_renaming" (defArgs sFR) (defBody sFR) (defScope sFR) .none kV_fr dc_fr pm_fr an_fr cd_fr ct_fr), sl_fr⟩)
    (c_fr : PySem.W.codeIn K cd_fr "find_renaming" = true)
    (k_fr : PySem.W.keepIn K (.ref f_fr) = true)
    (a_ak : PySem.W.nsIn K mainGlobals "are_kin" = some (some (.ref f_ak)))
    (l_ak : K.lookup f_ak = some ⟨oc_ak, od_ak, .func (PySem.W.fnOf "are_kin" "are_kin" (defArgs sAK) (defBody sAK) (defScope sAK) .none kV_ak dc_ak pm_ak an_ak cd_ak ct_ak), sl_ak⟩)
    (c_ak : PySem.W.codeIn K cd_ak "are_kin" = true)
    (k_ak : PySem.W.keepIn K (.ref f_ak) = true)
    (a_cmp : PySem.W.nsIn K mainGlobals "compare" = some (some (.ref f_cmp)))
    (l_cmp : K.lookup f_cmp = some ⟨oc_cmp, od_cmp, .func (PySem.W.fnOf "compare" "compare" (defArgs sCmp) (defBody sCmp) (defScope sCmp) .none kV_cmp dc_cmp pm_cmp an_cmp cd_cmp ct_cmp), sl_cmp⟩)
    (c_cmp : PySem.W.codeIn K cd_cmp "compare" = true)
    (k_cmp : PySem.W.keepIn K (.ref f_cmp) = true)
    (a_ck : PySem.W.nsIn K mainGlobals "check_comparison" = some (some (.ref f_ck)))
    (l_ck : K.lookup f_ck = some ⟨oc_ck, od_ck, .func (PySem.W.fnOf "check_comparison" "check_comparison" (defArgs sCk3) (defBody sCk3) (defScope sCk3) .none kV_ck dc_ck pm_ck an_ck cd_ck ct_ck), sl_ck⟩)
    (c_ck : PySem.W.codeIn K cd_ck "check_comparison" = true)
    (k_ck : PySem.W.keepIn K (.ref f_ck) = true)
    (aMC : PySem.W.nsIn K mainGlobals "MAX_COUNTED" = some (some (.int 2000 tMC)))
    (a_cl : PySem.W.nsIn K mainGlobals "check_length" = some (some (.ref f_cl)))
    (l_cl : K.lookup f_cl = some ⟨oc_cl, od_cl, .func (PySem.W.fnOf "check_length" "check_length" (defArgs sCl) (defBody sCl) (defScope sCl) .none kV_cl dc_cl pm_cl an_cl cd_cl ct_cl), sl_cl⟩)
    (c_cl : PySem.W.codeIn K cd_cl "check_length" = true)
    (k_cl : PySem.W.keepIn K (.ref f_cl) = true)
    (a_pr : PySem.W.nsIn K mainGlobals "product" = some (some (.ref f_pr)))
    (l_pr : K.lookup f_pr = some ⟨oc_pr, od_pr, .func (PySem.W.fnOf "product" "product" (defArgs sProd) (defBody sProd) (defScope sProd) .none kV_pr dc_pr pm_pr an_pr cd_pr ct_pr), sl_pr⟩)
    (c_pr : PySem.W.codeIn K cd_pr "product" = true)
    (k_pr : PySem.W.keepIn K (.ref f_pr) = true)
    (a_pw : PySem.W.nsIn K mainGlobals "power" = some (some (.ref f_pw)))
    (l_pw : K.lookup f_pw = some ⟨oc_pw, od_pw, .func (PySem.W.fnOf "power" "power" (defArgs sPow) (defBody sPow) (defScope sPow) .none kV_pw dc_pw pm_pw an_pw cd_pw ct_pw), sl_pw⟩)
    (c_pw : PySem.W.codeIn K cd_pw "power" = true)
    (k_pw : PySem.W.keepIn K (.ref f_pw) = true)
    (a_cc : PySem.W.nsIn K mainGlobals "count_closed" = some (some (.ref f_cc)))
    (l_cc : K.lookup f_cc = some ⟨oc_cc, od_cc, .func (PySem.W.fnOf "count_closed" "count_closed" (defArgs sCC) (defBody sCC) (defScope sCC) .none kV_cc dc_cc pm_cc an_cc cd_cc ct_cc), sl_cc⟩)
    (c_cc : PySem.W.codeIn K cd_cc "count_closed" = true)
    (k_cc : PySem.W.keepIn K (.ref f_cc) = true)
    (a_lcn : PySem.W.nsIn K mainGlobals "_law_counts" = some (some (.ref f_lcn)))
    (l_lcn : K.lookup f_lcn = some ⟨oc_lcn, od_lcn, .func (PySem.W.fnOf "_law_counts" "_law_counts" (defArgs sCnts) (defBody sCnts) (defScope sCnts) .none kV_lcn dc_lcn pm_lcn an_lcn cd_lcn ct_lcn), sl_lcn⟩)
    (c_lcn : PySem.W.codeIn K cd_lcn "_law_counts" = true)
    (k_lcn : PySem.W.keepIn K (.ref f_lcn) = true)
    (a_mgr : PySem.W.nsIn K mainGlobals "_law_mergers" = some (some (.ref f_mgr)))
    (l_mgr : K.lookup f_mgr = some ⟨oc_mgr, od_mgr, .func (PySem.W.fnOf "_law_mergers" "_law_mergers" (defArgs sMgrs) (defBody sMgrs) (defScope sMgrs) .none kV_mgr dc_mgr pm_mgr an_mgr cd_mgr ct_mgr), sl_mgr⟩)
    (c_mgr : PySem.W.codeIn K cd_mgr "_law_mergers" = true)
    (k_mgr : PySem.W.keepIn K (.ref f_mgr) = true)
    (a_mrg : PySem.W.nsIn K mainGlobals "_law_merge" = some (some (.ref f_mrg)))
    (l_mrg : K.lookup f_mrg = some ⟨oc_mrg, od_mrg, .func (PySem.W.fnOf "_law_merge" "_law_merge" (defArgs sMrg) (defBody sMrg) (defScope sMrg) .none kV_mrg dc_mrg pm_mrg an_mrg cd_mrg ct_mrg), sl_mrg⟩)
    (c_mrg : PySem.W.codeIn K cd_mrg "_law_merge" = true)
    (k_mrg : PySem.W.keepIn K (.ref f_mrg) = true)
    (a_lrn : PySem.W.nsIn K mainGlobals "_law_renamed" = some (some (.ref f_lrn)))
    (l_lrn : K.lookup f_lrn = some ⟨oc_lrn, od_lrn, .func (PySem.W.fnOf "_law_renamed" "_law_renamed" (defArgs sLRn) (defBody sLRn) (defScope sLRn) .none kV_lrn dc_lrn pm_lrn an_lrn cd_lrn ct_lrn), sl_lrn⟩)
    (c_lrn : PySem.W.codeIn K cd_lrn "_law_renamed" = true)
    (k_lrn : PySem.W.keepIn K (.ref f_lrn) = true)
    (a_lsp : PySem.W.nsIn K mainGlobals "_law_split" = some (some (.ref f_lsp)))
    (l_lsp : K.lookup f_lsp = some ⟨oc_lsp, od_lsp, .func (PySem.W.fnOf "_law_split" "_law_split" (defArgs sLSp) (defBody sLSp) (defScope sLSp) .none kV_lsp dc_lsp pm_lsp an_lsp cd_lsp ct_lsp), sl_lsp⟩)
    (c_lsp : PySem.W.codeIn K cd_lsp "_law_split" = true)
    (k_lsp : PySem.W.keepIn K (.ref f_lsp) = true)
    (a_shf : PySem.W.nsIn K mainGlobals "_law_shuffled" = some (some (.ref f_shf)))
    (l_shf : K.lookup f_shf = some ⟨oc_shf, od_shf, .func (PySem.W.fnOf "_law_shuffled" "_law_shuffled" (defArgs sShuf) (defBody sShuf) (defScope sShuf) .none kV_shf dc_shf pm_shf an_shf cd_shf ct_shf), sl_shf⟩)
    (c_shf : PySem.W.codeIn K cd_shf "_law_shuffled" = true)
    (k_shf : PySem.W.keepIn K (.ref f_shf) = true)
    (a_stf : PySem.W.nsIn K mainGlobals "_law_step_for" = some (some (.ref f_stf)))
    (l_stf : K.lookup f_stf = some ⟨oc_stf, od_stf, .func (PySem.W.fnOf "_law_step_for" "_law_step_for" (defArgs sStF) (defBody sStF) (defScope sStF) .none kV_stf dc_stf pm_stf an_stf cd_stf ct_stf), sl_stf⟩)
    (c_stf : PySem.W.codeIn K cd_stf "_law_step_for" = true)
    (k_stf : PySem.W.keepIn K (.ref f_stf) = true)
    (a_std : PySem.W.nsIn K mainGlobals "_law_stepped" = some (some (.ref f_std)))
    (l_std : K.lookup f_std = some ⟨oc_std, od_std, .func (PySem.W.fnOf "_law_stepped" "_law_stepped" (defArgs sStd) (defBody sStd) (defScope sStd) .none kV_std dc_std pm_std an_std cd_std ct_std), sl_std⟩)
    (c_std : PySem.W.codeIn K cd_std "_law_stepped" = true)
    (k_std : PySem.W.keepIn K (.ref f_std) = true)
    (a_sps : PySem.W.nsIn K mainGlobals "_law_splits" = some (some (.ref f_sps)))
    (l_sps : K.lookup f_sps = some ⟨oc_sps, od_sps, .func (PySem.W.fnOf "_law_splits" "_law_splits" (defArgs sSps) (defBody sSps) (defScope sSps) .none kV_sps dc_sps pm_sps an_sps cd_sps ct_sps), sl_sps⟩)
    (c_sps : PySem.W.codeIn K cd_sps "_law_splits" = true)
    (k_sps : PySem.W.keepIn K (.ref f_sps) = true)
    (a_lch : PySem.W.nsIn K mainGlobals "_law_chain" = some (some (.ref f_lch)))
    (l_lch : K.lookup f_lch = some ⟨oc_lch, od_lch, .func (PySem.W.fnOf "_law_chain" "_law_chain" (defArgs sLCh) (defBody sLCh) (defScope sLCh) .none kV_lch dc_lch pm_lch an_lch cd_lch ct_lch), sl_lch⟩)
    (c_lch : PySem.W.codeIn K cd_lch "_law_chain" = true)
    (k_lch : PySem.W.keepIn K (.ref f_lch) = true)
    (a_tg : PySem.W.nsIn K mainGlobals "_law_two_graphs" = some (some (.ref f_tg)))
    (l_tg : K.lookup f_tg = some ⟨oc_tg, od_tg, .func (PySem.W.fnOf "_law_two_graphs" "_law_two_graphs" (defArgs sTg) (defBody sTg) (defScope sTg) .none kV_tg dc_tg pm_tg an_tg cd_tg ct_tg), sl_tg⟩)
    (c_tg : PySem.W.codeIn K cd_tg "_law_two_graphs" = true)
    (k_tg : PySem.W.keepIn K (.ref f_tg) = true)
    (a_law : PySem.W.nsIn K mainGlobals "law" = some (some (.ref f_law)))
    (l_law : K.lookup f_law = some ⟨oc_law, od_law, .func (PySem.W.fnOf "law" "law" (defArgs sLaw) (defBody sLaw) (defScope sLaw) .none kV_law dc_law pm_law an_law cd_law ct_law), sl_law⟩)
    (c_law : PySem.W.codeIn K cd_law "law" = true)
    (k_law : PySem.W.keepIn K (.ref f_law) = true) :
    ∃ fd : FuncData, (∀ (s : Shared) (v : Value), BindsTo s fd ⟨[v], []⟩ [("_law_script", v)]) ∧ ∀ base : Heap, K.In base → base.Ns mainGlobals mg → FnOk l.prog w K mg base CX0 12 fa fd ["_law_script"] (spLaw K) := by
  have e := hfa.symm.trans (PySem.W.mg_of X G a_law)
  cases e
  have T : Bi mg := ⟨PySem.W.mg_none_of X G z_len, PySem.W.mg_none_of X G z_list, PySem.W.mg_none_of X G z_tuple, PySem.W.mg_none_of X G z_bool, PySem.W.mg_none_of X G z_int, PySem.W.mg_none_of X G z_str, PySem.W.mg_none_of X G z_isinstance, PySem.W.mg_none_of X G z_all, PySem.W.mg_none_of X G z_zip, PySem.W.mg_none_of X G z_range⟩
  have cl : Cls K C := ⟨gpg, ghd, gpo, gsa⟩
  have GT : GTxt K mg C (.type "type") := ⟨cl, gnS, gnE, PySem.W.mg_of X G aC, ⟨grd, gga⟩, ⟨_, gv8, ⟨_, rfl⟩⟩, ⟨_, gv24, ⟨_, rfl⟩⟩, PySem.W.mg_none_of X G z_enumerate⟩
  have GI : C8.InsC K C := ⟨cl, iha, ihn, ihtk, ihm, kit_me⟩
  have GS : GIs K C := ⟨GI, kit_no iCl tyC qn, kit_no iCl tyC qi, kit_no iCl tyC ql, kit_no iCl tyC qt⟩
  have F_bag := fun_mk (st := sBag) l_bag c_bag k_bag
  have b_bag := F_bag.binds (ps := ["_law_script"]) fun _ _ _ _ _ _ us hl => match us, hl with | [_], _ => rfl
  have F_pull := fun_mk (st := sPull) l_pull c_pull k_pull
  have b_pull := F_pull.binds (ps := ["_law_bag_here", "_law_many"]) fun _ _ _ _ _ _ us hl => match us, hl with | [_, _], _ => rfl
  have F_of := fun_mk (st := sOf) l_of c_of k_of
  have b_of := F_of.binds (ps := ["_law_bag_here", "_law_things"]) fun _ _ _ _ _ _ us hl => match us, hl with | [_, _], _ => rfl
  have F_plan := fun_mk (st := sPlan) l_plan c_plan k_plan
  have b_plan := F_plan.binds (ps := ["_law_bag_here", "_law_most", "_law_many"]) fun _ _ _ _ _ _ us hl => match us, hl with | [_, _, _], _ => rfl
  have F_check := fun_mk (st := sCheck) l_check c_check k_check
  have b_check := F_check.binds (ps := ["states", "edges"]) fun _ _ _ _ _ _ us hl => match us, hl with | [_, _], _ => rfl
  have F_init := fun_mk (st := sInit) l_init c_init k_init
  have b_init := F_init.binds (ps := ["self", "states", "edges"]) fun _ _ _ _ _ _ us hl => match us, hl with | [_, _, _], _ => rfl
  have F_graph := fun_mk (st := sGraph) l_graph c_graph k_graph
  have b_graph := F_graph.binds (ps := ["_law_plan_here"]) fun _ _ _ _ _ _ us hl => match us, hl with | [_], _ => rfl
  have F_cnt := fun_mk (st := sCounts) l_cnt c_cnt k_cnt
  have b_cnt := F_cnt.binds (ps := ["self"]) fun _ _ _ _ _ _ us hl => match us, hl with | [_], _ => rfl
  have F_eds := fun_mk (st := sEdges) l_eds c_eds k_eds
  have b_eds := F_eds.binds (ps := ["self"]) fun _ _ _ _ _ _ us hl => match us, hl with | [_], _ => rfl
  have F_edg := fun_mk (st := sEdge) l_edg c_edg k_edg
  have b_edg := F_edg.binds (ps := ["self", "number"]) fun _ _ _ _ _ _ us hl => match us, hl with | [_, _], _ => rfl
  have F_cst := fun_mk (st := sCheckState) l_cst c_cst k_cst
  have b_cst := F_cst.binds (ps := ["self", "state"]) fun _ _ _ _ _ _ us hl => match us, hl with | [_, _], _ => rfl
  have F_lea := fun_mk (st := sLeaving) l_lea c_lea k_lea
  have b_lea := F_lea.binds (ps := ["self", "state"]) fun _ _ _ _ _ _ us hl => match us, hl with | [_, _], _ => rfl
  have F_ent := fun_mk (st := sEntering) l_ent c_ent k_ent
  have b_ent := F_ent.binds (ps := ["self", "state"]) fun _ _ _ _ _ _ us hl => match us, hl with | [_, _], _ => rfl
  have F_len := fun_mk (st := sLen) l_len c_len k_len
  have b_len := F_len.binds (ps := ["self"]) fun _ _ _ _ _ _ us hl => match us, hl with | [_], _ => rfl
  have F_eq := fun_mk (st := sEq) l_eq c_eq k_eq
  have b_eq := F_eq.binds (ps := ["self", "other"]) fun _ _ _ _ _ _ us hl => match us, hl with | [_, _], _ => rfl
  have F_st := fun_mk (st := sStates) l_st c_st k_st
  have b_st := F_st.binds (ps := ["self"]) fun _ _ _ _ _ _ us hl => match us, hl with | [_], _ => rfl
  have clM : Cls K CM := ⟨pgM, hdM, poM, saM⟩
  have inM : C8.InsC K CM := ⟨clM, haM, ihn, ihtk, hmM, kit_me⟩
  have clR : Cls K CR := ⟨pgR, hdR, poR, saR⟩
  have inR : C8.InsC K CR := ⟨clR, haR, ihn, ihtk, hmR, kit_me⟩
  have clS : Cls K CS := ⟨pgS, hdS, poS, saS⟩
  have inS : C8.InsC K CS := ⟨clS, haS, ihn, ihtk, hmS, kit_me⟩
  have MT : MTxt K mg CM := ⟨clM, nlow_M, nhigh_M, PySem.W.mg_of X G aCM⟩
  have RT : RTxt K mg CR := ⟨clR, nstate_numbers_R, nedge_numbers_R, PySem.W.mg_of X G aCR⟩
  have ST : STxt K mg CS := ⟨clS, nstate_S, npart_S, PySem.W.mg_of X G aCS⟩
  have F_mi := fun_mk (st := sMI) l_mi c_mi k_mi
  have b_mi := F_mi.binds (ps := ["self", "one", "other"]) fun _ _ _ _ _ _ us hl => match us, hl with | [_, _, _], _ => rfl
  have F_ri := fun_mk (st := sRI) l_ri c_ri k_ri
  have b_ri := F_ri.binds (ps := ["self", "states", "edges"]) fun _ _ _ _ _ _ us hl => match us, hl with | [_, _, _], _ => rfl
  have F_si := fun_mk (st := sSI) l_si c_si k_si
  have b_si := F_si.binds (ps := ["self", "state", "part"]) fun _ _ _ _ _ _ us hl => match us, hl with | [_, _, _], _ => rfl
  have F_mck := fun_mk (st := sMCk) l_mck c_mck k_mck
  have b_mck := F_mck.binds (ps := ["self", "graph"]) fun _ _ _ _ _ _ us hl => match us, hl with | [_, _], _ => rfl
  have F_mkp := fun_mk (st := sMKp) l_mkp c_mkp k_mkp
  have b_mkp := F_mkp.binds (ps := ["self", "graph"]) fun _ _ _ _ _ _ us hl => match us, hl with | [_, _], _ => rfl
  have F_mns := fun_mk (st := sMNs) l_mns c_mns k_mns
  have b_mns := F_mns.binds (ps := ["self", "state"]) fun _ _ _ _ _ _ us hl => match us, hl with | [_, _], _ => rfl
  have F_mrs := fun_mk (st := sMRs) l_mrs c_mrs k_mrs
  have b_mrs := F_mrs.binds (ps := ["self", "graph"]) fun _ _ _ _ _ _ us hl => match us, hl with | [_, _], _ => rfl
  have F_mpt := fun_mk (st := sPt) l_mpt c_mpt k_mpt
  have b_mpt := F_mpt.binds (ps := ["self", "graph"]) fun _ _ _ _ _ _ us hl => match us, hl with | [_, _], _ => rfl
  have F_mud := fun_mk (st := sMU) l_mud c_mud k_mud
  have b_mud := F_mud.binds (ps := ["self", "graph"]) fun _ _ _ _ _ _ us hl => match us, hl with | [_, _], _ => rfl
  have F_ip := fun_mk (st := sIp) l_ip c_ip k_ip
  have b_ip := F_ip.binds (ps := ["numbers", "size"]) fun _ _ _ _ _ _ us hl => match us, hl with | [_, _], _ => rfl
  have F_tb := fun_mk (st := sTb) l_tb c_tb k_tb
  have b_tb := F_tb.binds (ps := ["permutation"]) fun _ _ _ _ _ _ us hl => match us, hl with | [_], _ => rfl
  have F_rck := fun_mk (st := sRCk) l_rck c_rck k_rck
  have b_rck := F_rck.binds (ps := ["self", "graph"]) fun _ _ _ _ _ _ us hl => match us, hl with | [_, _], _ => rfl
  have F_rr := fun_mk (st := sRR) l_rr c_rr k_rr
  have b_rr := F_rr.binds (ps := ["self", "graph"]) fun _ _ _ _ _ _ us hl => match us, hl with | [_, _], _ => rfl
  have F_rud := fun_mk (st := sRU) l_rud c_rud k_rud
  have b_rud := F_rud.binds (ps := ["self", "graph"]) fun _ _ _ _ _ _ us hl => match us, hl with | [_, _], _ => rfl
  have F_sal := fun_mk (st := sSAl) l_sal c_sal k_sal
  have b_sal := F_sal.binds (ps := ["self", "graph"]) fun _ _ _ _ _ _ us hl => match us, hl with | [_, _], _ => rfl
  have F_sck := fun_mk (st := sSCk) l_sck c_sck k_sck
  have b_sck := F_sck.binds (ps := ["self", "graph"]) fun _ _ _ _ _ _ us hl => match us, hl with | [_, _], _ => rfl
  have F_sr := fun_mk (st := sSR) l_sr c_sr k_sr
  have b_sr := F_sr.binds (ps := ["self", "graph"]) fun _ _ _ _ _ _ us hl => match us, hl with | [_, _], _ => rfl
  have F_sud := fun_mk (st := sSU) l_sud c_sud k_sud
  have b_sud := F_sud.binds (ps := ["self", "graph"]) fun _ _ _ _ _ _ us hl => match us, hl with | [_, _], _ => rfl
  have F_mp := fun_mk (st := sMP) l_mp c_mp k_mp
  have b_mp := F_mp.binds (ps := ["graph"]) fun _ _ _ _ _ _ us hl => match us, hl with | [_], _ => rfl
  have F_le := fun_mk (st := sLe) l_le c_le k_le
  have b_le := F_le.binds (ps := ["graph"]) fun _ _ _ _ _ _ us hl => match us, hl with | [_], _ => rfl
  have F_cg := fun_mk (st := sCG) l_cg c_cg k_cg
  have b_cg := F_cg.binds (ps := ["graph", "chain"]) fun _ _ _ _ _ _ us hl => match us, hl with | [_, _], _ => rfl
  have F_cr := fun_mk (st := sCR) l_cr c_cr k_cr
  have b_cr := F_cr.binds (ps := ["graph", "chain"]) fun _ _ _ _ _ _ us hl => match us, hl with | [_, _], _ => rfl
  have F_gr := fun_mk (st := sGR) l_gr c_gr k_gr
  have b_gr := F_gr.binds (ps := ["graph", "chain"]) fun _ _ _ _ _ _ us hl => match us, hl with | [_, _], _ => rfl
  have F_lt := fun_mk (st := sLT) l_lt c_lt k_lt
  have b_lt := F_lt.binds (ps := ["one", "other", "chain"]) fun _ _ _ _ _ _ us hl => match us, hl with | [_, _, _], _ => rfl
  have F_uc := fun_mk (st := sUC) l_uc c_uc k_uc
  have b_uc := F_uc.binds (ps := ["graph", "chain"]) fun _ _ _ _ _ _ us hl => match us, hl with | [_, _], _ => rfl
  have F_pf := fun_mk (st := sPf) l_pf c_pf k_pf
  have b_pf := F_pf.binds (ps := ["counts"]) fun _ _ _ _ _ _ us hl => match us, hl with | [_], _ => rfl
  have F_fb := fun_mk (st := sFb) l_fb c_fb k_fb
  have b_fb := F_fb.binds (ps := ["one", "other", "numbers", "number"]) fun _ _ _ _ _ _ us hl => match us, hl with | [_, _, _, _], _ => rfl
  have F_fsn := fun_mk (st := sFsn) l_fsn c_fsn k_fsn
  have b_fsn := F_fsn.binds (ps := ["one", "other"]) fun _ _ _ _ _ _ us hl => match us, hl with | [_, _], _ => rfl
  have F_en := fun_mk (st := sEn) l_en c_en k_en
  have b_en := F_en.binds (ps := ["one", "other", "state_numbers"]) fun _ _ _ _ _ _ us hl => match us, hl with | [_, _, _], _ => rfl
  have F_fr := fun_mk (st := sFR) l_fr c_fr k_fr
  have b_fr := F_fr.binds (ps := ["one", "other"]) fun _ _ _ _ _ _ us hl => match us, hl with | [_, _], _ => rfl
  have F_ak := fun_mk (st := sAK) l_ak c_ak k_ak
  have b_ak := F_ak.binds (ps := ["one", "other"]) fun _ _ _ _ _ _ us hl => match us, hl with | [_, _], _ => rfl
  have F_cmp := fun_mk (st := sCmp) l_cmp c_cmp k_cmp
  have b_cmp := F_cmp.binds (ps := ["one", "other"]) fun _ _ _ _ _ _ us hl => match us, hl with | [_, _], _ => rfl
  have F_ck := fun_mk (st := sCk3) l_ck c_ck k_ck
  have b_ck := F_ck.binds (ps := ["one", "other", "claimed"]) fun _ _ _ _ _ _ us hl => match us, hl with | [_, _, _], _ => rfl
  have F_cl := fun_mk (st := sCl) l_cl c_cl k_cl
  have b_cl := F_cl.binds (ps := ["length", "limit"]) fun _ _ _ _ _ _ us hl => match us, hl with | [_, _], _ => rfl
  have F_pr := fun_mk (st := sProd) l_pr c_pr k_pr
  have b_pr := F_pr.binds (ps := ["one", "other"]) fun _ _ _ _ _ _ us hl => match us, hl with | [_, _], _ => rfl
  have F_pw := fun_mk (st := sPow) l_pw c_pw k_pw
  have b_pw := F_pw.binds (ps := ["table", "exponent"]) fun _ _ _ _ _ _ us hl => match us, hl with | [_, _], _ => rfl
  have F_cc := fun_mk (st := sCC) l_cc c_cc k_cc
  have b_cc := F_cc.binds (ps := ["graph", "length"]) fun _ _ _ _ _ _ us hl => match us, hl with | [_, _], _ => rfl
  have F_lcn := fun_mk (st := sCnts) l_lcn c_lcn k_lcn
  have b_lcn := F_lcn.binds (ps := ["_law_plan_here"]) fun _ _ _ _ _ _ us hl => match us, hl with | [_], _ => rfl
  have F_mgr := fun_mk (st := sMgrs) l_mgr c_mgr k_mgr
  have b_mgr := F_mgr.binds (ps := ["_law_plan_here"]) fun _ _ _ _ _ _ us hl => match us, hl with | [_], _ => rfl
  have F_mrg := fun_mk (st := sMrg) l_mrg c_mrg k_mrg
  have b_mrg := F_mrg.binds (ps := ["_law_plan_here", "_law_one", "_law_other"]) fun _ _ _ _ _ _ us hl => match us, hl with | [_, _, _], _ => rfl
  have F_lrn := fun_mk (st := sLRn) l_lrn c_lrn k_lrn
  have b_lrn := F_lrn.binds (ps := ["_law_plan_here", "_law_states", "_law_edges"]) fun _ _ _ _ _ _ us hl => match us, hl with | [_, _, _], _ => rfl
  have F_lsp := fun_mk (st := sLSp) l_lsp c_lsp k_lsp
  have b_lsp := F_lsp.binds (ps := ["_law_plan_here", "_law_state", "_law_part"]) fun _ _ _ _ _ _ us hl => match us, hl with | [_, _, _], _ => rfl
  have F_shf := fun_mk (st := sShuf) l_shf c_shf k_shf
  have b_shf := F_shf.binds (ps := ["_law_bag_here", "_law_many"]) fun _ _ _ _ _ _ us hl => match us, hl with | [_, _], _ => rfl
  have F_stf := fun_mk (st := sStF) l_stf c_stf k_stf
  have b_stf := F_stf.binds (ps := ["_law_bag_here", "_law_plan_here"]) fun _ _ _ _ _ _ us hl => match us, hl with | [_, _], _ => rfl
  have F_std := fun_mk (st := sStd) l_std c_std k_std
  have b_std := F_std.binds (ps := ["_law_plan_here", "_law_step"]) fun _ _ _ _ _ _ us hl => match us, hl with | [_, _], _ => rfl
  have F_sps := fun_mk (st := sSps) l_sps c_sps k_sps
  have b_sps := F_sps.binds (ps := ["_law_bag_here", "_law_plan_here", "_law_many", "_law_most"]) fun _ _ _ _ _ _ us hl => match us, hl with | [_, _, _, _], _ => rfl
  have F_lch := fun_mk (st := sLCh) l_lch c_lch k_lch
  have b_lch := F_lch.binds (ps := ["_law_bag_here", "_law_plan_here", "_law_many"]) fun _ _ _ _ _ _ us hl => match us, hl with | [_, _, _], _ => rfl
  have F_tg := fun_mk (st := sTg) l_tg c_tg k_tg
  have b_tg := F_tg.binds (ps := ["_law_bag_here"]) fun _ _ _ _ _ _ us hl => match us, hl with | [_], _ => rfl
  have F_law := fun_mk (st := sLaw) l_law c_law k_law
  have b_law := F_law.binds (ps := ["_law_script"]) fun _ _ _ _ _ _ us hl => match us, hl with | [_], _ => rfl
  refine ⟨PySem.W.fnOf "law" "law" (defArgs sLaw) (defBody sLaw) (defScope sLaw) .none kV_law dc_law pm_law an_law cd_law ct_law, fun s v => .of_eq rfl, fun base _ _ => ?_⟩
  have cal_bag : C8.Cal l.prog w K mg base 1 "_law_bag" (spBag K) [] := ⟨f_bag, _, _, [], ok_bag (k := 0) F_bag T, PySem.W.mg_of X G a_bag, k_bag, b_bag, .nil⟩
  have cal_pull : C8.Cal l.prog w K mg base 1 "_law_pull" spPull [] := ⟨f_pull, _, _, [], ok_pull (k := 0) F_pull T.len, PySem.W.mg_of X G a_pull, k_pull, b_pull, .nil⟩
  have cal_of : C8.Cal l.prog w K mg base 2 "_law_of" (spOf K) [] := ⟨f_of, _, _, [], ok_of (k := 0) F_of T cal_pull, PySem.W.mg_of X G a_of, k_of, b_of, .nil⟩
  have cal_plan : C8.Cal l.prog w K mg base 2 "_law_plan" spPlan [] := ⟨f_plan, _, _, [], ok_plan (k := 0) F_plan T cal_pull, PySem.W.mg_of X G a_plan, k_plan, b_plan, .nil⟩
  have cal_check : C8.Cal l.prog w K mg base 1 "check_edges" (spCheck K) [] := ⟨f_check, _, _, [], ok_check (k := 0) F_check T GT, PySem.W.mg_of X G a_check, k_check, b_check, .nil⟩
  have mG : C8.Mak l.prog w K mg base 2 "Graph" C (spInit C) [] := ⟨f_init, _, _, [], ⟨gmk, a_init, i_init, gkc⟩, ok_init (k := 0) F_init T GT cal_check, PySem.W.mg_of X G aC, b_init, .nil⟩
  have cal_graph : C8.Cal l.prog w K mg base 4 "_law_graph" (spGraph C) [] := ⟨f_graph, _, _, [], ok_graph (k := 0) F_graph T mG, PySem.W.mg_of X G a_graph, k_graph, b_graph, .nil⟩
  have m_cnt : C8.Met l.prog w K mg base 1 C "counts" (spCounts C) [] := ⟨f_cnt, _, _, [], cl, ⟨a_cnt, i_cnt, k_cnt⟩, ok_counts (k := 0) F_cnt T GT, b_cnt, .nil⟩
  have m_eds : C8.Met l.prog w K mg base 1 C "edges" (spEdges C) [] := ⟨f_eds, _, _, [], cl, ⟨a_eds, i_eds, k_eds⟩, ok_edges (k := 0) F_eds T GT, b_eds, .nil⟩
  have m_edg : C8.Met l.prog w K mg base 1 C "edge" (spEdge0 C) [] := ⟨f_edg, _, _, [], cl, ⟨a_edg, i_edg, k_edg⟩, ok_edge0 (k := 0) F_edg T GT, b_edg, .nil⟩
  have m_cst : C8.Met l.prog w K mg base 1 C "check_state" (spState0 C) [] := ⟨f_cst, _, _, [], cl, ⟨a_cst, i_cst, k_cst⟩, ok_state0 (k := 0) F_cst GT, b_cst, .nil⟩
  have m_lea : C8.Met l.prog w K mg base 2 C "leaving" (spAll C fstIs) [] := ⟨f_lea, _, _, [], cl, ⟨a_lea, i_lea, k_lea⟩, ok_leaving0 (k := 0) F_lea GT m_cst, b_lea, .nil⟩
  have m_ent : C8.Met l.prog w K mg base 2 C "entering" (spAll C sndIs) [] := ⟨f_ent, _, _, [], cl, ⟨a_ent, i_ent, k_ent⟩, ok_entering0 (k := 0) F_ent GT m_cst, b_ent, .nil⟩
  have pr_st : Prp l.prog w K mg base 1 C "states" (spStates C) := ⟨p_st, f_st, _, cl, ⟨a_st, g_st, t_st, ⟨_, r_st⟩⟩, ok_states (k := 0) F_st GT, b_st⟩
  have mM : C8.Mak l.prog w K mg base 1 "Merge" CM (spMI CM) [] := ⟨f_mi, _, _, [], ⟨mkM, a_mi, i_mi, kcM⟩, ok_mi (k := 0) F_mi MT, PySem.W.mg_of X G aCM, b_mi, .nil⟩
  have mR : C8.Mak l.prog w K mg base 1 "Renaming" CR (spRI CR) [] := ⟨f_ri, _, _, [], ⟨mkR, a_ri, i_ri, kcR⟩, ok_ri (k := 0) F_ri T RT, PySem.W.mg_of X G aCR, b_ri, .nil⟩
  have mS : C8.Mak l.prog w K mg base 1 "Split" CS (spSI CS) [] := ⟨f_si, _, _, [], ⟨mkS, a_si, i_si, kcS⟩, ok_si (k := 0) F_si T ST, PySem.W.mg_of X G aCS, b_si, .nil⟩
  have m_mck : C8.Met l.prog w K mg base 3 CM "check" (spMCk C CM) [] := ⟨f_mck, _, _, [], clM, ⟨a_mck, i_mck, k_mck⟩, ok_mck (k := 0) F_mck (PySem.W.mg_none_of X G z_any) MT m_cnt pr_st, b_mck, .nil⟩
  have m_mkp : C8.Met l.prog w K mg base 2 CM "kept_edges" (spMKp C CM) [] := ⟨f_mkp, _, _, [], clM, ⟨a_mkp, i_mkp, k_mkp⟩, ok_mkp (k := 0) F_mkp (PySem.W.mg_none_of X G z_enumerate) MT m_eds, b_mkp, .nil⟩
  have m_mns : C8.Met l.prog w K mg base 1 CM "new_state" (spMNs CM) [] := ⟨f_mns, _, _, [], clM, ⟨a_mns, i_mns, k_mns⟩, ok_mns (k := 0) F_mns MT, b_mns, .nil⟩
  have m_mrs : C8.Met l.prog w K mg base 4 CM "result" (spMRs C CM) [] := ⟨f_mrs, _, _, [], clM, ⟨a_mrs, i_mrs, k_mrs⟩, ok_mrs (k := 0) F_mrs MT m_mck m_mkp m_mns m_edg pr_st mG, b_mrs, .nil⟩
  have m_mpt : C8.Met l.prog w K mg base 3 CM "partners" (spPt C CM) [] := ⟨f_mpt, _, _, [], clM, ⟨a_mpt, i_mpt, k_mpt⟩, ok_pt (k := 0) F_mpt T MT m_lea m_edg pr_st, b_mpt, .nil⟩
  have m_mud : C8.Met l.prog w K mg base 4 CM "undone" (spUn C CS CM CR isM) [] := ⟨f_mud, _, _, [], clM, ⟨a_mud, i_mud, k_mud⟩, ok_mu (k := 0) F_mud T (PySem.W.mg_none_of X G z_enumerate) MT m_mck m_mkp m_mpt m_edg pr_st mS mR a_len i_len (ok_len (k := 0) F_len T GT) b_len, b_mud, .nil⟩
  have cal_ip : C8.Cal l.prog w K mg base 1 "is_permutation" spIp [] := ⟨f_ip, _, _, [], ok_ip (k := 0) F_ip T (PySem.W.mg_none_of X G z_sorted), PySem.W.mg_of X G a_ip, k_ip, b_ip, .nil⟩
  have cal_tb : C8.Cal l.prog w K mg base 1 "turned_back" spTb [] := ⟨f_tb, _, _, [], ok_tb (k := 0) F_tb T (PySem.W.mg_none_of X G z_enumerate), PySem.W.mg_of X G a_tb, k_tb, b_tb, .nil⟩
  have m_rck : C8.Met l.prog w K mg base 3 CR "check" (spRCk C CR) [] := ⟨f_rck, _, _, [], clR, ⟨a_rck, i_rck, k_rck⟩, ok_rck (k := 0) F_rck T RT cal_ip pr_st a_len i_len (ok_len (k := 0) F_len T GT) b_len, b_rck, .nil⟩
  have m_rr : C8.Met l.prog w K mg base 4 CR "result" (spRR C CR) [] := ⟨f_rr, _, _, [], clR, ⟨a_rr, i_rr, k_rr⟩, ok_rr (k := 0) F_rr RT m_rck cal_tb m_edg pr_st mG, b_rr, .nil⟩
  have m_rud : C8.Met l.prog w K mg base 4 CR "undone" (spUn C CS CM CR isR) [] := ⟨f_rud, _, _, [], clR, ⟨a_rud, i_rud, k_rud⟩, ok_ru (k := 0) F_rud RT m_rck cal_tb mR, b_rud, .nil⟩
  have m_sal : C8.Met l.prog w K mg base 3 CS "is_allowed" (spSAl C CS) [] := ⟨f_sal, _, _, [], clS, ⟨a_sal, i_sal, k_sal⟩, ok_sal (k := 0) F_sal T ST m_lea pr_st, b_sal, .nil⟩
  have m_sck : C8.Met l.prog w K mg base 4 CS "check" (spSCk C CS) [] := ⟨f_sck, _, _, [], clS, ⟨a_sck, i_sck, k_sck⟩, ok_sck (k := 0) F_sck T GT ST m_sal m_ent pr_st a_len i_len (ok_len (k := 0) F_len T GT) b_len, b_sck, .nil⟩
  have m_sr : C8.Met l.prog w K mg base 5 CS "result" (spSR C CS) [] := ⟨f_sr, _, _, [], clS, ⟨a_sr, i_sr, k_sr⟩, ok_sr (k := 0) F_sr ST (PySem.W.mg_none_of X G z_enumerate) m_sck m_eds m_ent pr_st mG, b_sr, .nil⟩
  have m_sud : C8.Met l.prog w K mg base 5 CS "undone" (spUn C CS CM CR isS) [] := ⟨f_sud, _, _, [], clS, ⟨a_sud, i_sud, k_sud⟩, ok_su (k := 0) F_sud ST m_sck pr_st mM, b_sud, .nil⟩
  have cal_mp : C8.Cal l.prog w K mg base 3 "merge_pairs" (spMP C) [] := ⟨f_mp, _, _, [], ok_mp (k := 0) F_mp T m_cnt pr_st, PySem.W.mg_of X G a_mp, k_mp, b_mp, .nil⟩
  have cal_le : C8.Cal l.prog w K mg base 5 "least" (spLe C CM) [] := ⟨f_le, _, _, [], ok_le (k := 0) F_le MT cal_mp mM m_mrs, PySem.W.mg_of X G a_le, k_le, b_le, .nil⟩
  have cal_cg : C8.Cal l.prog w K mg base 6 "chain_graphs" (spCG3 C CS CM CR) [] := ⟨f_cg, _, _, [], ok_cg3 (k := 0) F_cg T (PySem.W.mg_of X G aMX) m_sr m_mrs m_rr, PySem.W.mg_of X G a_cg, k_cg, b_cg, .nil⟩
  have cal_cr : C8.Cal l.prog w K mg base 7 "chain_result" (spCR3 C CS CM CR) [] := ⟨f_cr, _, _, [], ok_cr3 (k := 0) F_cr cal_cg, PySem.W.mg_of X G a_cr, k_cr, b_cr, .nil⟩
  have cal_gr : C8.Cal l.prog w K mg base 8 "graph_reached" (spCR3 C CS CM CR) [] := ⟨f_gr, _, _, [], ok_gr3 (k := 0) F_gr cal_cr, PySem.W.mg_of X G a_gr, k_gr, b_gr, .nil⟩
  have cal_lt : C8.Cal l.prog w K mg base 9 "leads_to" (spLT3 C CS CM CR) [] := ⟨f_lt, _, _, [], ok_lt3 (k := 0) F_lt cal_gr a_eq i_eq (ok_eq (k := 0) F_eq T GT GS) b_eq, PySem.W.mg_of X G a_lt, k_lt, b_lt, .nil⟩
  have cal_uc : C8.Cal l.prog w K mg base 7 "undone_chain" (spUC C CS CM CR) [] := ⟨f_uc, _, _, [], ok_uc (k := 0) F_uc T (PySem.W.mg_none_of X G z_reversed) cal_cg m_sud m_mud m_rud, PySem.W.mg_of X G a_uc, k_uc, b_uc, .nil⟩
  have cal_pf : C8.Cal l.prog w K mg base 1 "state_profiles" spPf [] := ⟨f_pf, _, _, [], ok_pf (k := 0) F_pf T (PySem.W.mg_none_of X G z_sorted), PySem.W.mg_of X G a_pf, k_pf, b_pf, .nil⟩
  have cal_fb : C8.Cal l.prog w K mg base 1 "fits_before" spFb [] := ⟨f_fb, _, _, [], ok_fb (k := 0) F_fb T (PySem.W.mg_none_of X G z_enumerate), PySem.W.mg_of X G a_fb, k_fb, b_fb, .nil⟩
  have cal_fsn : C8.Cal l.prog w K mg base 2 "find_state_numbers" spFsn [] := ⟨f_fsn, _, _, [], ok_fsn (k := 0) F_fsn T (PySem.W.mg_none_of X G z_reversed) cal_pf cal_fb, PySem.W.mg_of X G a_fsn, k_fsn, b_fsn, .nil⟩
  have cal_en : C8.Cal l.prog w K mg base 2 "edge_numbers_between" (spEn C) [] := ⟨f_en, _, _, [], ok_en (k := 0) F_en T (PySem.W.mg_none_of X G z_enumerate) m_eds, PySem.W.mg_of X G a_en, k_en, b_en, .nil⟩
  have cal_fr : C8.Cal l.prog w K mg base 3 "find_renaming" (spFR C CR) [] := ⟨f_fr, _, _, [], ok_fr (k := 0) F_fr RT m_cnt pr_st cal_fsn cal_en mR, PySem.W.mg_of X G a_fr, k_fr, b_fr, .nil⟩
  have cal_ak : C8.Cal l.prog w K mg base 6 "are_kin" (spAK C) [] := ⟨f_ak, _, _, [], ok_ak (k := 0) F_ak cal_le cal_fr, PySem.W.mg_of X G a_ak, k_ak, b_ak, .nil⟩
  have cal_cmp : C8.Cal l.prog w K mg base 8 "compare" (spCmp C CS CM CR) [] := ⟨f_cmp, _, _, [], ok_cmp (k := 0) F_cmp cal_le cal_fr cal_uc a_eq i_eq (ok_eq (k := 0) F_eq T GT GS) b_eq, PySem.W.mg_of X G a_cmp, k_cmp, b_cmp, .nil⟩
  have cal_ck : C8.Cal l.prog w K mg base 10 "check_comparison" (spCk3 C CS CM CR) [] := ⟨f_ck, _, _, [], ok_ck3 (k := 0) F_ck T cal_lt, PySem.W.mg_of X G a_ck, k_ck, b_ck, .nil⟩
  have cal_cl : C8.Cal l.prog w K mg base 1 "check_length" spCl [] := ⟨f_cl, _, _, [], ok_cl (k := 0) F_cl, PySem.W.mg_of X G a_cl, k_cl, b_cl, .nil⟩
  have cal_pr : C8.Cal l.prog w K mg base 1 "product" spProd [] := ⟨f_pr, _, _, [], ok_prod (k := 0) F_pr T (PySem.W.mg_none_of X G z_sum), PySem.W.mg_of X G a_pr, k_pr, b_pr, .nil⟩
  have cal_pw : C8.Cal l.prog w K mg base 2 "power" spPow [] := ⟨f_pw, _, _, [], ok_pow (k := 0) F_pw T (PySem.W.mg_none_of X G z_reversed) cal_pr, PySem.W.mg_of X G a_pw, k_pw, b_pw, .nil⟩
  have cal_cc : C8.Cal l.prog w K mg base 3 "count_closed" (spCC C) [] := ⟨f_cc, _, _, [], ok_cc (k := 0) F_cc (PySem.W.mg_of X G aMC) (PySem.W.mg_none_of X G z_sum) GT.enum cal_cl cal_pw m_cnt, PySem.W.mg_of X G a_cc, k_cc, b_cc, .nil⟩
  have cal_lcn : C8.Cal l.prog w K mg base 1 "_law_counts" spCnts [] := ⟨f_lcn, _, _, [], ok_cnts (k := 0) F_lcn T, PySem.W.mg_of X G a_lcn, k_lcn, b_lcn, .nil⟩
  have cal_mgr : C8.Cal l.prog w K mg base 2 "_law_mergers" spMgrs [] := ⟨f_mgr, _, _, [], ok_mgrs (k := 0) F_mgr T cal_lcn, PySem.W.mg_of X G a_mgr, k_mgr, b_mgr, .nil⟩
  have cal_mrg : C8.Cal l.prog w K mg base 1 "_law_merge" spMrg [] := ⟨f_mrg, _, _, [], ok_mrg (k := 0) F_mrg T, PySem.W.mg_of X G a_mrg, k_mrg, b_mrg, .nil⟩
  have cal_lrn : C8.Cal l.prog w K mg base 1 "_law_renamed" spLRn [] := ⟨f_lrn, _, _, [], ok_lrn (k := 0) F_lrn T, PySem.W.mg_of X G a_lrn, k_lrn, b_lrn, .nil⟩
  have cal_lsp : C8.Cal l.prog w K mg base 1 "_law_split" spLSp [] := ⟨f_lsp, _, _, [], ok_lsp (k := 0) F_lsp T, PySem.W.mg_of X G a_lsp, k_lsp, b_lsp, .nil⟩
  have cal_shf : C8.Cal l.prog w K mg base 2 "_law_shuffled" spShuf [] := ⟨f_shf, _, _, [], ok_shuf (k := 0) F_shf T cal_pull, PySem.W.mg_of X G a_shf, k_shf, b_shf, .nil⟩
  have cal_stf : C8.Cal l.prog w K mg base 3 "_law_step_for" spStF [] := ⟨f_stf, _, _, [], ok_stf (k := 0) F_stf T cal_pull cal_of cal_mgr cal_shf, PySem.W.mg_of X G a_stf, k_stf, b_stf, .nil⟩
  have cal_std : C8.Cal l.prog w K mg base 2 "_law_stepped" spStd [] := ⟨f_std, _, _, [], ok_std (k := 0) F_std cal_lsp cal_mrg cal_lrn, PySem.W.mg_of X G a_std, k_std, b_std, .nil⟩
  have cal_sps : C8.Cal l.prog w K mg base 4 "_law_splits" spSps [] := ⟨f_sps, _, _, [], ok_sps (k := 0) F_sps T cal_stf cal_std cal_lrn cal_shf, PySem.W.mg_of X G a_sps, k_sps, b_sps, .nil⟩
  have cal_lch : C8.Cal l.prog w K mg base 4 "_law_chain" spLCh [] := ⟨f_lch, _, _, [], ok_lch (k := 0) F_lch T cal_stf cal_std, PySem.W.mg_of X G a_lch, k_lch, b_lch, .nil⟩
  have cal_tg : C8.Cal l.prog w K mg base 5 "_law_two_graphs" spTg [] := ⟨f_tg, _, _, [], ok_tg (k := 0) F_tg T cal_pull cal_plan cal_sps, PySem.W.mg_of X G a_tg, k_tg, b_tg, .nil⟩
  exact ok_law F_law (C := C) (CS := CS) (CM := CM) (CR := CR) ⟨T, (PySem.W.mg_none_of X G z_any), cal_bag, cal_of, cal_plan, cal_graph, cal_tg, cal_lch, cal_ak, cal_cc, cal_cmp, cal_lt, cal_ck, cal_uc⟩
theorem walk {l : PySem.W.OpenLaw} {q : Program} {loose : List Str} {XP : (Str → Option Value) → Heap → Prop} {YP : World → Heap → Prop} {d : DefRec} {K : Params → PySem.W.Frag} (hn : l.most = some 63) (hdf : d.params.defaults = [])
    (hY : ∀ (w : World) (h : Heap), YP w h → (K w.params).In h)
    (F : ∀ (w : World) (mg : Str → Option Value) (fa : Addr) (h : Heap), (K w.params).In h → h.Ns mainGlobals mg → mg d.name = some (.ref fa) →
      ∃ fd : FuncData, (∀ (s : Shared) (u : Value), BindsTo s fd ⟨[u], []⟩ [("_law_script", u)]) ∧ ∀ base : Heap, (K w.params).In base → base.Ns mainGlobals mg → FnOk l.prog w (K w.params) mg base CX0 12 fa fd ["_law_script"] (spLaw (K w.params))) :
    PySem.W.WalkO q loose XP YP l.row.toRowW d [] (fun f vs => PySem.call f vs) :=
  L2.walk_of (n := 63) (k := 12) (x := "_law_script") (CX := fun _ => CX0) (sp := fun w => spLaw (K w.params)) hn (by decide) hdf ⟨rfl, by decide, by decide⟩ hY F (fun _ _ a ns hl _ hS => ⟨a, ns, rfl, hS, hl, fun _ => rfl⟩) fun _ _ _ _ _ z => z
end Lw
open PySem PySem.W PyProof.Rows
set_option Elab.async false
namespace Lw
def hn0 : List PySem.Str := ["_wall", "__name__", "WindowError", "InvalidGraph", "LimitExceeded", "OutOfRange", "InvalidRow", "InvalidWidth", "InvalidCode", "InvalidLength", "InvalidStep", "MAX_LENGTH", "MAX_COUNTED", "first_break", "check_length", "ways_to", "walks", "paths", "product", "power", "count_paths", "count_closed", "check_row", "turned", "shortest_cycle", "normal_row", "check_width", "check_paths", "check_images", "check_following"]
def hn1 : List PySem.Str := ["Code", "MAX_STEPS", "chain_graphs", "chain_result", "undone_chain", "graph_reached", "leads_to", "check_edges", "Graph", "is_permutation", "turned_back", "Step", "Split", "Merge", "Renaming", "merge_pairs", "least", "state_profiles", "fits_before", "find_state_numbers", "edge_numbers_between", "find_renaming", "compare", "least_reached", "show_apart", "check_comparison", "are_kin", "_law_bag", "_law_pull", "_law_of"]
def hn2 : List PySem.Str := ["_law_plan", "_law_graph", "_law_split", "_law_counts", "_law_mergers", "_law_merge", "_law_renamed", "_law_shuffled", "_law_step_for", "_law_stepped", "_law_chain", "_law_splits", "_law_two_graphs"]
def hnames : List PySem.Str := hn0 ++ hn1 ++ hn2
end Lw
local macro_rules
  | `(tactic| o_headL ($f $K $A $E)) => `(tactic| refine HandSHeadRun.head_any (r := (OpenLaw.row PySem.Challenge.rw_windowkin_k61_whole_kin_is_an_equivalenc)) (q := view (OpenLaw.row PySem.Challenge.rw_windowkin_k61_whole_kin_is_an_equivalenc).prog [82]) (H := $f $K $A $E) (ob := fun s => List.map (HandSHeadRun.getT s) $A) (M := 9000) (loose := Lw.hnames) (d := HandSHeadRun.topDef (OpenLaw.row PySem.Challenge.rw_windowkin_k61_whole_kin_is_an_equivalenc).prog 82) (kwd := []) (fun s => List.map_congr_left fun a _ => HandSHeadRun.getT_eq s a) (by kernel_rfl) (fun s => by kernel_rfl) (fun w => by intro os; kernel_rfl) (by kernel_rfl) (by kernel_rfl) (by kernel_rfl) (by rfl) (by first | assumption | decide +kernel) (by decide +kernel) ⟨rfl, rfl, rfl, rfl, rfl, by decide +kernel⟩ ?_ ?_)
set_option maxRecDepth 100000 in
set_option maxHeartbeats 0 in
theorem PySem.Challenge.cw_windowkin_k61_whole_kin_is_an_equivalenc_holds : PySem.Challenge.rw_windowkin_k61_whole_kin_is_an_equivalenc.Holds := by
  w_on; o_law; k_headL
  · w_witness2
  k_fill
  refine Lw.walk (l := PySem.Challenge.rw_windowkin_k61_whole_kin_is_an_equivalenc) rfl (by kernel_rfl) (fun w h Y => PySem.W.kIn_of Y) ?F
  case F =>
    intro w mg fa h KX G hmg0
    have hmg : mg ("law" : PySem.Str) = some (.ref fa) := by
      have e : (HandSHeadRun.topDef (OpenLaw.row PySem.Challenge.rw_windowkin_k61_whole_kin_is_an_equivalenc).prog 82).name = ("law" : PySem.Str) := by kernel_rfl
      rw [← e]
      exact hmg0
    refine' Lw.all_mk KX G hmg ?z_len ?z_list ?z_tuple ?z_bool ?z_int ?z_str ?z_isinstance ?z_all ?z_zip ?z_range ?z_enumerate ?z_any ?z_sorted ?z_reversed ?z_sum ?aC ?gpg ?ghd ?gpo ?gsa ?gmk ?gkc ?gnS ?gnE ?grd ?gga ?gv8 ?gv24 ?iha ?ihn ?ihtk ?ihm ?iCl ?tyC ?qn ?qi ?ql ?qt ?a_bag ?l_bag ?c_bag ?k_bag ?a_pull ?l_pull ?c_pull ?k_pull ?a_of ?l_of ?c_of ?k_of ?a_plan ?l_plan ?c_plan ?k_plan ?a_check ?l_check ?c_check ?k_check ?a_init ?i_init ?l_init ?c_init ?k_init ?a_graph ?l_graph ?c_graph ?k_graph ?a_cnt ?i_cnt ?l_cnt ?c_cnt ?k_cnt ?a_eds ?i_eds ?l_eds ?c_eds ?k_eds ?a_edg ?i_edg ?l_edg ?c_edg ?k_edg ?a_cst ?i_cst ?l_cst ?c_cst ?k_cst ?a_lea ?i_lea ?l_lea ?c_lea ?k_lea ?a_ent ?i_ent ?l_ent ?c_ent ?k_ent ?a_len ?i_len ?l_len ?c_len ?k_len ?a_eq ?i_eq ?l_eq ?c_eq ?k_eq ?a_st ?g_st ?t_st ?r_st ?l_st ?c_st ?k_st ?aCM ?pgM ?hdM ?poM ?saM ?mkM ?kcM ?haM ?hmM ?nlow_M ?nhigh_M ?aCR ?pgR ?hdR ?poR ?saR ?mkR ?kcR ?haR ?hmR ?nstate_numbers_R ?nedge_numbers_R ?aCS ?pgS ?hdS ?poS ?saS ?mkS ?kcS ?haS ?hmS ?nstate_S ?npart_S ?a_mi ?i_mi ?l_mi ?c_mi ?k_mi ?a_ri ?i_ri ?l_ri ?c_ri ?k_ri ?a_si ?i_si ?l_si ?c_si ?k_si ?a_mck ?i_mck ?l_mck ?c_mck ?k_mck ?a_mkp ?i_mkp ?l_mkp ?c_mkp ?k_mkp ?a_mns ?i_mns ?l_mns ?c_mns ?k_mns ?a_mrs ?i_mrs ?l_mrs ?c_mrs ?k_mrs ?a_mpt ?i_mpt ?l_mpt ?c_mpt ?k_mpt ?a_mud ?i_mud ?l_mud ?c_mud ?k_mud ?a_ip ?l_ip ?c_ip ?k_ip ?a_tb ?l_tb ?c_tb ?k_tb ?a_rck ?i_rck ?l_rck ?c_rck ?k_rck ?a_rr ?i_rr ?l_rr ?c_rr ?k_rr ?a_rud ?i_rud ?l_rud ?c_rud ?k_rud ?a_sal ?i_sal ?l_sal ?c_sal ?k_sal ?a_sck ?i_sck ?l_sck ?c_sck ?k_sck ?a_sr ?i_sr ?l_sr ?c_sr ?k_sr ?a_sud ?i_sud ?l_sud ?c_sud ?k_sud ?a_mp ?l_mp ?c_mp ?k_mp ?a_le ?l_le ?c_le ?k_le ?aMX ?a_cg ?l_cg ?c_cg ?k_cg ?a_cr ?l_cr ?c_cr ?k_cr ?a_gr ?l_gr ?c_gr ?k_gr ?a_lt ?l_lt ?c_lt ?k_lt ?a_uc ?l_uc ?c_uc ?k_uc ?a_pf ?l_pf ?c_pf ?k_pf ?a_fb ?l_fb ?c_fb ?k_fb ?a_fsn ?l_fsn ?c_fsn ?k_fsn ?a_en ?l_en ?c_en ?k_en ?a_fr ?l_fr ?c_fr ?k_fr ?a_ak ?l_ak ?c_ak ?k_ak ?a_cmp ?l_cmp ?c_cmp ?k_cmp ?a_ck ?l_ck ?c_ck ?k_ck ?aMC ?a_cl ?l_cl ?c_cl ?k_cl ?a_pr ?l_pr ?c_pr ?k_pr ?a_pw ?l_pw ?c_pw ?k_pw ?a_cc ?l_cc ?c_cc ?k_cc ?a_lcn ?l_lcn ?c_lcn ?k_lcn ?a_mgr ?l_mgr ?c_mgr ?k_mgr ?a_mrg ?l_mrg ?c_mrg ?k_mrg ?a_lrn ?l_lrn ?c_lrn ?k_lrn ?a_lsp ?l_lsp ?c_lsp ?k_lsp ?a_shf ?l_shf ?c_shf ?k_shf ?a_stf ?l_stf ?c_stf ?k_stf ?a_std ?l_std ?c_std ?k_std ?a_sps ?l_sps ?c_sps ?k_sps ?a_lch ?l_lch ?c_lch ?k_lch ?a_tg ?l_tg ?c_tg ?k_tg ?a_law ?l_law ?c_law ?k_law
    (case z_len => k_is)
    (case z_list => k_is)
    (case z_tuple => k_is)
    (case z_bool => k_is)
    (case z_int => k_is)
    (case z_str => k_is)
    (case z_isinstance => k_is)
    (case z_all => k_is)
    (case z_zip => k_is)
    (case z_range => k_is)
    (case z_enumerate => k_is)
    (case z_any => k_is)
    (case z_sorted => k_is)
    (case z_reversed => k_is)
    (case z_sum => k_is)
    (case aC => k_is)
    (case gpg => k_is)
    (case ghd => k_is)
    (case gpo => k_is)
    (case gsa => k_is)
    (case gmk => k_is)
    (case gkc => k_is)
    (case gnS => k_is)
    (case gnE => k_is)
    (case grd => k_is)
    (case gga => k_is)
    (case gv8 => k_is)
    (case gv24 => k_is)
    (case iha => k_is)
    (case ihn => k_is)
    (case ihtk => k_is)
    (case ihm => k_is)
    (case iCl => k_is)
    (case tyC => k_is)
    (case qn => k_is)
    (case qi => k_is)
    (case ql => k_is)
    (case qt => k_is)
    (case a_bag => k_is)
    (case l_bag => k_is)
    (case c_bag => k_is)
    (case k_bag => k_is)
    (case a_pull => k_is)
    (case l_pull => k_is)
    (case c_pull => k_is)
    (case k_pull => k_is)
    (case a_of => k_is)
    (case l_of => k_is)
    (case c_of => k_is)
    (case k_of => k_is)
    (case a_plan => k_is)
    (case l_plan => k_is)
    (case c_plan => k_is)
    (case k_plan => k_is)
    (case a_check => k_is)
    (case l_check => k_is)
    (case c_check => k_is)
    (case k_check => k_is)
    (case a_init => k_is)
    (case i_init => k_is)
    (case l_init => k_is)
    (case c_init => k_is)
    (case k_init => k_is)
    (case a_graph => k_is)
    (case l_graph => k_is)
    (case c_graph => k_is)
    (case k_graph => k_is)
    (case a_cnt => k_is)
    (case i_cnt => k_is)
    (case l_cnt => k_is)
    (case c_cnt => k_is)
    (case k_cnt => k_is)
    (case a_eds => k_is)
    (case i_eds => k_is)
    (case l_eds => k_is)
    (case c_eds => k_is)
    (case k_eds => k_is)
    (case a_edg => k_is)
    (case i_edg => k_is)
    (case l_edg => k_is)
    (case c_edg => k_is)
    (case k_edg => k_is)
    (case a_cst => k_is)
    (case i_cst => k_is)
    (case l_cst => k_is)
    (case c_cst => k_is)
    (case k_cst => k_is)
    (case a_lea => k_is)
    (case i_lea => k_is)
    (case l_lea => k_is)
    (case c_lea => k_is)
    (case k_lea => k_is)
    (case a_ent => k_is)
    (case i_ent => k_is)
    (case l_ent => k_is)
    (case c_ent => k_is)
    (case k_ent => k_is)
    (case a_len => k_is)
    (case i_len => k_is)
    (case l_len => k_is)
    (case c_len => k_is)
    (case k_len => k_is)
    (case a_eq => k_is)
    (case i_eq => k_is)
    (case l_eq => k_is)
    (case c_eq => k_is)
    (case k_eq => k_is)
    (case a_st => k_is)
    (case g_st => k_is)
    (case t_st => k_is)
    (case r_st => k_is)
    (case l_st => k_is)
    (case c_st => k_is)
    (case k_st => k_is)
    (case aCM => k_is)
    (case pgM => k_is)
    (case hdM => k_is)
    (case poM => k_is)
    (case saM => k_is)
    (case mkM => k_is)
    (case kcM => k_is)
    (case haM => k_is)
    (case hmM => k_is)
    (case nlow_M => k_is)
    (case nhigh_M => k_is)
    (case aCR => k_is)
    (case pgR => k_is)
    (case hdR => k_is)
    (case poR => k_is)
    (case saR => k_is)
    (case mkR => k_is)
    (case kcR => k_is)
    (case haR => k_is)
    (case hmR => k_is)
    (case nstate_numbers_R => k_is)
    (case nedge_numbers_R => k_is)
    (case aCS => k_is)
    (case pgS => k_is)
    (case hdS => k_is)
    (case poS => k_is)
    (case saS => k_is)
    (case mkS => k_is)
    (case kcS => k_is)
    (case haS => k_is)
    (case hmS => k_is)
    (case nstate_S => k_is)
    (case npart_S => k_is)
    (case a_mi => k_is)
    (case i_mi => k_is)
    (case l_mi => k_is)
    (case c_mi => k_is)
    (case k_mi => k_is)
    (case a_ri => k_is)
    (case i_ri => k_is)
    (case l_ri => k_is)
    (case c_ri => k_is)
    (case k_ri => k_is)
    (case a_si => k_is)
    (case i_si => k_is)
    (case l_si => k_is)
    (case c_si => k_is)
    (case k_si => k_is)
    (case a_mck => k_is)
    (case i_mck => k_is)
    (case l_mck => k_is)
    (case c_mck => k_is)
    (case k_mck => k_is)
    (case a_mkp => k_is)
    (case i_mkp => k_is)
    (case l_mkp => k_is)
    (case c_mkp => k_is)
    (case k_mkp => k_is)
    (case a_mns => k_is)
    (case i_mns => k_is)
    (case l_mns => k_is)
    (case c_mns => k_is)
    (case k_mns => k_is)
    (case a_mrs => k_is)
    (case i_mrs => k_is)
    (case l_mrs => k_is)
    (case c_mrs => k_is)
    (case k_mrs => k_is)
    (case a_mpt => k_is)
    (case i_mpt => k_is)
    (case l_mpt => k_is)
    (case c_mpt => k_is)
    (case k_mpt => k_is)
    (case a_mud => k_is)
    (case i_mud => k_is)
    (case l_mud => k_is)
    (case c_mud => k_is)
    (case k_mud => k_is)
    (case a_ip => k_is)
    (case l_ip => k_is)
    (case c_ip => k_is)
    (case k_ip => k_is)
    (case a_tb => k_is)
    (case l_tb => k_is)
    (case c_tb => k_is)
    (case k_tb => k_is)
    (case a_rck => k_is)
    (case i_rck => k_is)
    (case l_rck => k_is)
    (case c_rck => k_is)
    (case k_rck => k_is)
    (case a_rr => k_is)
    (case i_rr => k_is)
    (case l_rr => k_is)
    (case c_rr => k_is)
    (case k_rr => k_is)
    (case a_rud => k_is)
    (case i_rud => k_is)
    (case l_rud => k_is)
    (case c_rud => k_is)
    (case k_rud => k_is)
    (case a_sal => k_is)
    (case i_sal => k_is)
    (case l_sal => k_is)
    (case c_sal => k_is)
    (case k_sal => k_is)
    (case a_sck => k_is)
    (case i_sck => k_is)
    (case l_sck => k_is)
    (case c_sck => k_is)
    (case k_sck => k_is)
    (case a_sr => k_is)
    (case i_sr => k_is)
    (case l_sr => k_is)
    (case c_sr => k_is)
    (case k_sr => k_is)
    (case a_sud => k_is)
    (case i_sud => k_is)
    (case l_sud => k_is)
    (case c_sud => k_is)
    (case k_sud => k_is)
    (case a_mp => k_is)
    (case l_mp => k_is)
    (case c_mp => k_is)
    (case k_mp => k_is)
    (case a_le => k_is)
    (case l_le => k_is)
    (case c_le => k_is)
    (case k_le => k_is)
    (case aMX => k_is)
    (case a_cg => k_is)
    (case l_cg => k_is)
    (case c_cg => k_is)
    (case k_cg => k_is)
    (case a_cr => k_is)
    (case l_cr => k_is)
    (case c_cr => k_is)
    (case k_cr => k_is)
    (case a_gr => k_is)
    (case l_gr => k_is)
    (case c_gr => k_is)
    (case k_gr => k_is)
    (case a_lt => k_is)
    (case l_lt => k_is)
    (case c_lt => k_is)
    (case k_lt => k_is)
    (case a_uc => k_is)
    (case l_uc => k_is)
    (case c_uc => k_is)
    (case k_uc => k_is)
    (case a_pf => k_is)
    (case l_pf => k_is)
    (case c_pf => k_is)
    (case k_pf => k_is)
    (case a_fb => k_is)
    (case l_fb => k_is)
    (case c_fb => k_is)
    (case k_fb => k_is)
    (case a_fsn => k_is)
    (case l_fsn => k_is)
    (case c_fsn => k_is)
    (case k_fsn => k_is)
    (case a_en => k_is)
    (case l_en => k_is)
    (case c_en => k_is)
    (case k_en => k_is)
    (case a_fr => k_is)
    (case l_fr => k_is)
    (case c_fr => k_is)
    (case k_fr => k_is)
    (case a_ak => k_is)
    (case l_ak => k_is)
    (case c_ak => k_is)
    (case k_ak => k_is)
    (case a_cmp => k_is)
    (case l_cmp => k_is)
    (case c_cmp => k_is)
    (case k_cmp => k_is)
    (case a_ck => k_is)
    (case l_ck => k_is)
    (case c_ck => k_is)
    (case k_ck => k_is)
    (case aMC => k_is)
    (case a_cl => k_is)
    (case l_cl => k_is)
    (case c_cl => k_is)
    (case k_cl => k_is)
    (case a_pr => k_is)
    (case l_pr => k_is)
    (case c_pr => k_is)
    (case k_pr => k_is)
    (case a_pw => k_is)
    (case l_pw => k_is)
    (case c_pw => k_is)
    (case k_pw => k_is)
    (case a_cc => k_is)
    (case l_cc => k_is)
    (case c_cc => k_is)
    (case k_cc => k_is)
    (case a_lcn => k_is)
    (case l_lcn => k_is)
    (case c_lcn => k_is)
    (case k_lcn => k_is)
    (case a_mgr => k_is)
    (case l_mgr => k_is)
    (case c_mgr => k_is)
    (case k_mgr => k_is)
    (case a_mrg => k_is)
    (case l_mrg => k_is)
    (case c_mrg => k_is)
    (case k_mrg => k_is)
    (case a_lrn => k_is)
    (case l_lrn => k_is)
    (case c_lrn => k_is)
    (case k_lrn => k_is)
    (case a_lsp => k_is)
    (case l_lsp => k_is)
    (case c_lsp => k_is)
    (case k_lsp => k_is)
    (case a_shf => k_is)
    (case l_shf => k_is)
    (case c_shf => k_is)
    (case k_shf => k_is)
    (case a_stf => k_is)
    (case l_stf => k_is)
    (case c_stf => k_is)
    (case k_stf => k_is)
    (case a_std => k_is)
    (case l_std => k_is)
    (case c_std => k_is)
    (case k_std => k_is)
    (case a_sps => k_is)
    (case l_sps => k_is)
    (case c_sps => k_is)
    (case k_sps => k_is)
    (case a_lch => k_is)
    (case l_lch => k_is)
    (case c_lch => k_is)
    (case k_lch => k_is)
    (case a_tg => k_is)
    (case l_tg => k_is)
    (case c_tg => k_is)
    (case k_tg => k_is)
    (case a_law => k_is)
    (case l_law => k_is)
    (case c_law => k_is)
    (case k_law => k_is)
