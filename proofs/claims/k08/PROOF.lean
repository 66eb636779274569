import PyProof.Rows.All
import Wide.All
import OpenK.AllK
import Wide.FinOn
import HandS.ForMost
import HandS.Exc
import HandS.ExcOwn
import HandS.WordsExc
import HandS.ExcInit
import HandS.Codes
import HandS.ClsMeth
import HandS.Defaults
import HandS.FStr
import PySem.Challenge.RW_windowkin_k08_normal_forms_of_rows
import HandS.TryOnly
import HandS.Lambda
import HandS.HotCalls
import HandS.ExcField
import HandS.Wide
import HandS.IsInst
import HandS.Walk
import HandS.Zip
import HandS.TupAny
import HandS.TupMul
import HandS.Conv
import HandS.EndOwn
import KE.KNestM
set_option Elab.async false
set_option linter.all false
set_option maxRecDepth 100000
/-! the own errors: a base over ValueError with a word, and an error of one field over it -/
namespace Lw
open PySem PySem.Spec PyProof.Rows L2
section
variable {X : Cx} {CX : CXT} {k : Nat} {C f : Addr} {mc : Value} {fd : FuncData} {ps : List Str} {sp : Sp} {ds : List Value} {dvs : List V} {E : XK} {x m : Str} {e : Expr} {es : List Expr} {ta : TA} {p1 p2 pos : Pos}
/-- C.m(e, ..), m a plain def of the class C -/
theorem pe_clsfn {pl : Sem Bool} (hg : Gl X x) (hm : X.mg x = some (.ref C)) (r : ClX.CRead X.K C mc) (kv : ClX.CVal X.K C mc m (.ref f) (.ref f)) (hk : PySem.W.keepIn X.K (.ref f) = true)
    (F : FnOk X.prog X.w X.K X.mg X.base CX k f fd ps sp) (hr : Room k X.A) (hb : Binds X.K fd ps ds) (hd : Vals dvs ds) (hx : Passes CX X E) (ha : PA X (e :: es) ta)
    (hc : eval (.Call (.Attribute (.Name x p1) m p2) (e :: es) [] pos) X.env = (do
      let ov ← eval (.Name x p1) X.env
      standAt p2.atName
      let (f, first) ← holding [ov] (getMethod ov m pl)
      callWith pos f first (backTo pos (starEach (e :: es) X.env)) (backToKw pos (keywordEach [] X.env))) := by rfl)
    (hdb : (x == ("__debug__" : Str)) = false := by decide) (he : starEach (e :: es) X.env = (false, eval e X.env) :: starEach es X.env := by rfl) (hpl : (backTo pos (starEach es X.env)).any (·.1) = false := by rfl) :
    PE X (.Call (.Attribute (.Name x p1) m p2) (e :: es) [] pos) (tCall sp dvs E ta) := by
  refine ⟨fun pins s σ H Q I h => ?_⟩
  refine PySem.W.methodCall_KW (ld_glob I hg hm ?_ hdb) hc
  refine PySem.W.method_cls I.kIn r.ga (ClX.getcval_ok I r kv fun s' I' => ?_)
  refine PySem.W.callWith_K (h₀ := X.base) I.ok.mod.kin hk (thn (ha.run pos pins s' σ H _ I' h) fun us s2 ⟨vs, H2, I2, rv, q⟩ => ⟨I2.kIn, ?_⟩) he hpl
  exact run_fn F hr hb hd hx I2 rv q
end
def top (i : Nat) : Stmt := PySem.Challenge.pw_windowkin_k08_normal_forms_of_rows.main.body.getD i (.Pass ⟨0, 0, 0, 0⟩)
abbrev sWin : Stmt := inClass (top 1) 0
abbrev sOor : Stmt := inClass (top 2) 0
/-- a fresh error of the class at C, its dict at d with these fields -/
def spWin (K : PySem.W.Frag) : Sp := fun vs H Q _ => ∃ (a C : Addr) (wd told : Str), vs = [.ref a, .str wd, .str told] ∧ OexC K C ∧ PySem.W.findIn K (.ref C) "word" = some none ∧ H a = some (exo a C none) ∧
  ∀ d, H d = none → d ≠ a → Q .non (upd (upd H d (exd d [("word", .str wd)])) a (exo a C (some d)))
def spOor (K : PySem.W.Frag) (C : Addr) : Sp := fun vs H Q _ => ∃ (a : Addr) (n : Int), vs = [.ref a, .int n] ∧ n.natAbs < 10 ^ 100 ∧ H a = some (exo a C none) ∧
  ∀ d, H d = none → d ≠ a → Q .non (upd (upd (upd H d (exd d [("word", .str "outofrange")])) a (exo a C (some d))) d (exd d [("number", .int n), ("word", .str "outofrange")]))
section
variable {P : Program} {w : World} {K : PySem.W.Frag} {mg : Str → Option Value} {base : Heap}
theorem scWin : FnScope ["self", "word", "told"] ["self", "word", "told"] (defScope sWin) := ⟨rfl, rfl, rfl, by decide +kernel, rfl, by decide +kernel, by decide +kernel⟩
theorem ok_win {f : Addr} {fd : FuncData} {k : Nat} {dvs : List V} (F : FunD K "__init__" "WindowError.__init__" (defArgs sWin) (defBody sWin) (defScope sWin) dvs [] f fd) (mVE : mg "ValueError" = none)
    (vV : PySem.W.findCls K (.type "ValueError") (.type "type") "__init__" = some (.val (.builtin "ValueError.__init__"))) : FnOk P w K mg base CX0 (k + 1) f fd ["self", "word", "told"] (spWin K) := by
  refine F.ok scWin (fun vs H Q E h => ?_) (fun cdv A outer s H vs Q E hr h => ?_)
  · obtain ⟨a, C, wd, told, rfl, _⟩ := h
    rfl
  · obtain ⟨a, C, wd, told, rfl, T, nw, ha, q⟩ := h
    refine ⟨_, pss_cons (ps_expr (pe_veinit (by rfl) mVE vV (pa_cons (pv 0) (pa_cons (pv 2) pa_nil)))) (pss_one (ps_ost (pv 0) (pv 1))), ?_⟩
    refine ⟨_, rfl, _, rfl, a, C, _, rfl, (by show 1 ≤ 1000; decide), T, ha, ?_⟩
    exact ⟨_, rfl, _, rfl, a, C, rfl, T, nw, .inl ⟨ha, fun d hd ne => q d hd ne⟩⟩
theorem scOor : FnScope ["self", "number"] ["self", "number"] (defScope sOor) := ⟨rfl, rfl, rfl, by decide +kernel, rfl, by decide +kernel, by decide +kernel⟩
theorem log_big {n : Int} (h : n.natAbs < 10 ^ 100) : n.natAbs.log2 < 1920 := by
  by_cases hz : n.natAbs = 0
  · rw [hz]
    decide
  · exact (Nat.log2_lt hz).mpr (Nat.lt_trans h (by decide +kernel))
theorem len_appX (x y : Str) : (x ++ y).length = x.length + y.length := by
  show (x.cps ++ y.cps).size = x.cps.size + y.cps.size
  exact Array.size_append
theorem ok_oor {f C CW fW : Addr} {mc : Value} {fd fdW : FuncData} {k : Nat} (F : Fun K "__init__" "OutOfRange.__init__" sOor f fd) (T : OexC K C) (nw : PySem.W.findIn K (.ref C) "word" = some none) (nn : PySem.W.findIn K (.ref C) "number" = some none)
    (gW : mg "WindowError" = some (.ref CW)) (rW : ClX.CRead K CW mc) (vW : ClX.CVal K CW mc "__init__" (.ref fW) (.ref fW)) (kW : PySem.W.keepIn K (.ref fW) = true) (FW : FnOk P w K mg base CX0 1 fW fdW ["self", "word", "told"] (spWin K)) (bW : Binds K fdW ["self", "word", "told"] []) :
    FnOk P w K mg base CX0 (k + 2) f fd ["self", "number"] (spOor K C) := by
  refine F.ok scOor (fun vs H Q E h => ?_) (fun cdv A outer s H vs Q E hr h => ?_)
  · obtain ⟨a, n, rfl, _⟩ := h
    rfl
  · obtain ⟨a, n, rfl, hn, ha, q⟩ := h
    refine ⟨_, pss_cons (ps_expr (pe_clsfn (by rfl) gW rW vW kW FW (hr.mono (Nat.le_add_left 1 k)) bW .nil pass0 (pa_cons (pv 0) (pa_cons pe_str (pa_cons (pe_joined (.cons pe_str (.cons (pe_fmt (pv 1)) .nil))) pa_nil))))) (pss_one (ps_ost (pv 0) (pv 1))), ?_⟩
    have z0 : (Str.empty ++ Str.ofString "nothing has the number ").length = 23 := by decide +kernel
    have zn := int_text_len_1921 (log_big hn)
    have hsz : ∀ m : Nat, m ≤ 3000 → m ≤ sizeLine := fun m h => Nat.le_trans h (by rw [sizeLine_eq]; decide)
    refine ⟨_, rfl, _, rfl, hsz _ (by rw [z0]; decide), _, rfl, .inr ⟨n, rfl, log_big hn, _, rfl, hsz _ (by rw [len_appX, z0]; omega), ?_⟩⟩
    refine ⟨a, C, _, _, rfl, T, nw, ha, fun d hd ne => ?_⟩
    have ed : upd (upd H d (exd d [("word", .str "outofrange")])) a (exo a C (some d)) d = some (exd d [("word", .str "outofrange")]) := by
      rw [upd_ne ne]
      exact upd_same
    exact ⟨_, rfl, _, rfl, a, C, rfl, T, nn, .inr ⟨d, _, upd_same, ed, (by show 1 ≤ 900; decide), q d hd ne⟩⟩
end
end Lw
set_option Elab.async false
set_option linter.all false
set_option maxRecDepth 100000
/-! try .. except C as n: .., with any clauses behind, where all that the body raises is of C -/
namespace Lw
open PySem PySem.Spec PyProof.Rows L2
section
variable {X : Cx} {pins : List (Addr × Obj)} {σ : L2.St} {H : Hp}
/-- an error on the ground: its object, the frame's state, and the state of a suite that handles it -/
theorem ground {a : Addr} {cls : Value} {d : Option Addr} {B h : Heap} {sI s' : Shared} (fo : X.env.frame = some X.env.locals) (J : Inv X pins σ H sI)
    (old : ∀ b o, sI.heap.get? b = some o → b ∉ frs X.stack → B.get? b = some o) (up : sI.heap.UpToSlots h) (os : s'.os = sI.os) (bare : AllBare s'.gens) (na : H a = none)
    (fl : HandSPX.FlyingZ B (X.env :: X.outer) a (Zc cls d) h) :
    ∃ oe, h.get? a = some oe ∧ Zc cls d oe ∧ (∃ vs, oe.data = .fields vs) ∧ Inv X pins σ H { s' with heap := h } ∧ Inv (X.suite a ((a, oe) :: (X.pn ++ pins))) [] σ H { s' with heap := h } := by
  obtain ⟨oe, vs, get, z, dat⟩ := fl.there
  have K : Inv X pins σ H { s' with heap := h } := J.landed old fl.1 up os bare
  have off : a ∉ frs (X.env :: X.outer) := by
    intro m
    obtain ⟨_, o, ho, no⟩ := fl.2.2.1.mem m
    have e : oe = o := Option.some.inj (get.symm.trans ho)
    exact no vs (e ▸ dat)
  refine ⟨oe, get, z, ⟨vs, dat⟩, K, K.suite get dat na (fun e => off ?_) (fun m => off ?_)⟩
  · refine List.mem_filterMap.mpr ⟨X.env, .head _, ?_⟩
    rw [fo, ← e]
  · obtain ⟨en, hen, hfr⟩ := List.mem_filterMap.mp m
    exact List.mem_filterMap.mpr ⟨en, .tail _ hen, hfr⟩
/-- what becomes of an error that leaves the body -/
abbrev Lands (X : Cx) (pins : List (Addr × Obj)) (D : Ends) (hds : List ExceptHandler) : Value → Shared → Prop := fun e s1 =>
  wpAny (model X.prog X.w) X.A (noteFrame e X.env) (fun _ s2 => wpAny (model X.prog X.w) X.A (setFlight e none) (fun _ s3 => wpAny (model X.prog X.w) X.A (handleBy e X.env hds) (SP X pins D) X.xe s3) X.xe s2) X.xe s1
/-- the ends of the suite: its name goes -/
abbrev without (D : Ends) (i : Nat) : Ends := { nx := fun τ G => D.nx (τ.set i none) G, rt := D.rt, bk := fun τ G => D.bk (τ.set i none) G, ct := fun τ G => D.ct (τ.set i none) G }
def wFirst (K : PySem.W.Frag) (c : Value) (i : Nat) (ts : Addr → Value → Option Addr → TS) (D : Ends) : WX := fun cls d τ G =>
  PySem.W.exmOne K cls c = some true ∧ ∀ a, G a = none → ts a cls d (without D i) (τ.set i (some (.ref a))) G
theorem SP.back {P' : Cx} {ps : List (Addr × Obj)} {D : Ends} {f : Flow} {s : Shared} (h : SP P' ps D f s) (k : ∀ {τ G}, Inv P' ps τ G s → Inv X pins τ G s) : SP X pins D f s := by
  match f, h with
  | .next, ⟨τ, G, J, q⟩ => exact ⟨τ, G, k J, q⟩
  | .brk, ⟨τ, G, J, q⟩ => exact ⟨τ, G, k J, q⟩
  | .cont, ⟨τ, G, J, q⟩ => exact ⟨τ, G, k J, q⟩
  | .ret u, ⟨v, τ, G, J, r, q⟩ => exact ⟨v, τ, G, k J, r, q⟩
end
section
variable {X : Cx} {x n : Str} {c : Value} {i : Nat} {body suite : List Stmt} {b0 : Stmt} {np pos pos' : Pos} {tb : WX → TS} {ts : Addr → Value → Option Addr → TS} {more : List ExceptHandler}
theorem ps_try_first (so : X.stack = X.env :: X.outer) (fo : X.env.frame = some X.env.locals) (nd : X.N.Nodup) (hi : X.N[i]? = some n) (loc : X.env.kindOf n = some .local) (nam : Names X x c)
    (inBody : ∀ (W : WX) (pn : List (Addr × Obj)) (xe : Value → Shared → Prop), Takes (X.tr pn xe) W → PassesOwn (model X.prog X.w) X.A X.env xe →
      PSs (X.tr pn xe) body (tb W))
    (inSuite : ∀ (a : Addr) (oe : Obj) (cls : Value) (d : Option Addr) (pn : List (Addr × Obj)), Zc cls d oe → (∃ vs, oe.data = .fields vs) →
      PSs (X.suite a ((a, oe) :: pn)) (b0 :: suite) (ts a cls d)) :
    PS X (.Try body (.ExceptHandler (some (.Name x np)) (some n) (b0 :: suite) pos' :: more) [] [] pos) (fun D σ H => tb (wFirst X.K c i ts D) D σ H) := by
  constructor
  intro pins s σ H D I h
  have frames : X.A.frames = some (X.env :: X.outer) := I.ok.frames.trans (congrArg some so)
  refine wpAny_Try_except (wpAny_mono ((inBody (wFirst X.K c i ts D) (X.pn ++ pins) (Lands X pins D (.ExceptHandler (some (.Name x np)) (some n) (b0 :: suite) pos' :: more)) ?_ PassesOwn.looking).run [] s σ H D (I.toTry _) h) ?_ fun _ _ z => z)
  · -- an error leaves the body: it lands, it is of c, the suite runs
    rintro _ s' ⟨a, B, sI, ps, τ, G, cls, d, rfl, J0, old, up, sky, na, os, bare, hit, run⟩
    have J : Inv X pins τ G sI := J0.ofTry I.ok
    refine Sky.land Zc.steady frames fo (show Sky B (X.env :: X.outer) a (Zc cls d) X.env.locals s'.heap from so ▸ sky) fun g fl up1 => ?_
    obtain ⟨oe, get, z, _, K, S⟩ := ground fo J old (up.trans up1) os bare na fl
    have isC : PySem.W.Looks (model X.prog X.w) g (typeOf (.ref a)) cls := fun A' Q' E' t keep q => wpAny_typeOf_ref (keep _ _ get) (z.1.symm ▸ q)
    refine wpAny_handleBy_cons (codeAny_handlers_test ?_) nofun
    have ask : ∀ {Q E : Value → Shared → Prop}, Q c { s' with heap := g } → wpAny (model X.prog X.w) (X.A.mark (some (.ref a))) (eval (.Name x np) X.env) Q E { s' with heap := g } := by
      intro Q' E' q
      rcases nam.2.2 with m | ⟨m, bt, ne⟩
      · exact ld_glob (X := X.suite a ((a, oe) :: (X.pn ++ pins))) S nam.1 m q nam.2.1
      · exact ld_blt (X := X.suite a ((a, oe) :: (X.pn ++ pins))) S nam.1 m bt q ne nam.2.1
    refine ask ((PySem.W.exm_one (M := model X.prog X.w) K.kIn isC hit).here (codeAny_handlers_suite_as (HandSPX.lands_againZ fl fun g2 fl2 up2 => ?_)))
    obtain ⟨oe2, _, z2, flds, _, S2⟩ := ground fo J old ((up.trans up1).trans up2) os bare na fl2
    refine store_ok (X := X.suite a ((a, oe2) :: (X.pn ++ pins))) (v := .ref a) S2 nd hi (.inl loc) rfl (fun s5 S5 => ?_) (.inr loc)
    refine wpAny_mono ((inSuite a oe2 cls d (X.pn ++ pins) z2 flds).run [] s5 _ G _ S5 (run a na)) ?_ fun _ _ z => z.elim
    have gone : ∀ {τ6 G6 s6} {Q : Shared → Prop}, Inv (X.suite a ((a, oe2) :: (X.pn ++ pins))) [] τ6 G6 s6 → (∀ s7, Inv X pins (τ6.set i none) G6 s7 → Q s7) → wpAny (model X.prog X.w) X.A (do bindName X.env n .none; unbindBehindTheSuite X.env n pos') (fun _ s7 => Q s7) X.xe s6 :=
      fun S6 after => gone_ok (S6.unsuite I.ok) nd hi loc after
    intro f s6 fin
    match f, fin with
    | .next, ⟨τ6, G6, S6, q⟩ => exact gone S6 fun s7 J7 => ⟨_, _, J7, q⟩
    | .brk, ⟨τ6, G6, S6, q⟩ => exact gone S6 fun s7 J7 => ⟨_, _, J7, q⟩
    | .cont, ⟨τ6, G6, S6, q⟩ => exact gone S6 fun s7 J7 => ⟨_, _, J7, q⟩
    | .ret u, ⟨v, τ6, G6, S6, r, q⟩ => exact gone S6 fun s7 J7 => ⟨_, _, _, J7, r, q⟩
  · -- the body ends by itself
    intro f s1 fin
    have fin := SP.back (X := X) (pins := pins) fin fun J => J.ofTry I.ok
    match f, fin with
    | .next, fin => exact wpAny_execs_nil fin
    | .brk, fin => exact fin
    | .cont, fin => exact fin
    | .ret u, fin => exact fin
end
end Lw
set_option Elab.async false
set_option linter.all false
set_option maxRecDepth 100000
/-! a def that raises nothing, called while an error is handled: p is the handled one, of which Z is known -/
namespace Lw
open PySem PySem.Spec PyProof.Rows L2
structure FnC (P : Program) (w : World) (K : PySem.W.Frag) (mg : Str → Option Value) (base : Heap) (k : Nat) (f : Addr) (fd : FuncData) (ps : List Str) (Z : Addr × Obj → Prop) (sp : Sp) : Prop where
  len : ∀ vs H Q E, sp vs H Q E → vs.length = ps.length
  run : ∀ (A : Around) (outer : List Env) (s : Shared) (H : Hp) (args : Args) (us : List Value) (vs : List V) (Q : VK) (E : XK) (p : Addr × Obj), L2H.RoomH k A → Z p → L2H.PinOk outer H s p → Env0 P w K mg base A outer s H → BindsTo s fd args (ps.zip us) → Vals vs us → sp vs H Q E →
    codeAny (model P w) A (.call (.ref f) args) (CR CX0 outer P w H s Q E) s
theorem fn_ofC {P : Program} {w : World} {K : PySem.W.Frag} {mg : Str → Option Value} {base : Heap} {k : Nat} {x qual : Str} {st : Stmt} {f : Addr} {fd : FuncData} {N ps : List Str} {Z : Addr × Obj → Prop} {sp : Sp} (F : Fun K x qual st f fd) (S : FnScope N ps (defScope st))
    (len : ∀ vs H Q E, sp vs H Q E → vs.length = ps.length)
    (hbody : ∀ (cdv : Value) (A : Around) (outer : List Env) (s : Shared) (H : Hp) (vs : List V) (Q : VK) (E : XK) (p : Addr × Obj), Z p → L2H.RoomH k (A.deeper (envOfC qual (defScope st) s.heap.objs.size f cdv)) → sp vs H Q E →
      ∃ t, PSs (L2H.cxH CX0 P w K mg base N qual (defScope st) f cdv A outer s H E p) (defBody st) t ∧ t { nx := fun _ H' => Q .non H', rt := Q } (L2.start N vs) H) : FnC P w K mg base (k + 1) f fd ps Z sp := by
  obtain ⟨oc, od, kV, doc, pm, an, cdv, ct, osl, rfl, lk, hcd⟩ := F.ex
  refine ⟨len, fun A outer s H args us vs Q E p hr hz hpin e0 hb r hsp => ?_⟩
  have hl := len _ _ _ _ hsp
  have up : ∀ b o, base.get? b = some o → s.heap.get? b = some o := fun b o e => (e0.bs b o e).1
  have KX : K.In s.heap := e0.mod.kin.keeps up
  refine codeAny_call_function hr.depth (KX _ _ lk) rfl S.co S.gen rfl (PySem.W.codeRec_of KX hcd) (hb _ _ _ _ ?_)
  refine wpAny_newFunctionEnv_cells S.kind (fun y hy => ?_) fun env he s1 x => ?_
  · exact (S.par y.1 (List.of_mem_zip hy).1).imp id fun q => ⟨q, PySem.W.cellsFrom_some _ _ _ (.inl q)⟩
  · subst he
    refine ⟨(e0.mod.nolimit.keeps up).keeps x.toInCall.keep, codeAny_func ?_⟩
    obtain ⟨t, ht, hq⟩ := hbody cdv A outer s H vs Q E p hz (hr.deeper _) hsp
    refine wpAny_mono (ht.run [] s1 (L2.start N vs) H _ (L2H.inv_startH S hpin e0 hl r x) hq) (fun fl s' hs => ?_) fun e s' hs => hs
    cases fl with
    | ret u =>
      obtain ⟨v, σ', H', J, rv, q⟩ := hs
      exact ⟨v, H', J.os, J.bare, J.base, J.hok, rv, q⟩
    | next =>
      obtain ⟨σ', H', J, q⟩ := hs
      exact ⟨.non, H', J.os, J.bare, J.base, J.hok, rfl, q⟩
    | brk => exact hs.elim fun _ z => z.elim fun _ z => z.2.elim
    | cont => exact hs.elim fun _ z => z.elim fun _ z => z.2.elim
section
variable {X : Cx} {k : Nat} {f : Addr} {fd : FuncData} {ps : List Str} {Z : Addr × Obj → Prop} {sp : Sp} {x : Str} {q pos : Pos} {e : Expr} {es : List Expr} {ta : TA} {p : Addr × Obj}
theorem pe_callC (F : FnC X.prog X.w X.K X.mg X.base k f fd ps Z sp) (hr : L2H.RoomH k X.A) (hp : p ∈ X.pn) (hz : Z p) (hg : Gl X x) (hm : X.mg x = some (.ref f)) (hk : PySem.W.keepIn X.K (.ref f) = true) (hb : Binds X.K fd ps [])
    (ha : PA X (e :: es) ta) (hdb : (x == ("__debug__" : Str)) = false := by decide) (he : starEach (e :: es) X.env = (false, eval e X.env) :: starEach es X.env := by rfl) (hpl : (backTo pos (starEach es X.env)).any (·.1) = false := by rfl) :
    PE X (.Call (.Name x q) (e :: es) [] pos) (tCall sp [] E0 ta) := by
  refine ⟨fun pins s σ H Q I h => wpAny_Call_Name_kw (ld_glob I hg hm ?_ hdb)⟩
  refine PySem.W.callWith_K (h₀ := X.base) I.ok.mod.kin hk (thn (ha.run pos pins s σ H _ I h) fun us s1 ⟨vs, H1, I1, r, q⟩ => ⟨I1.kIn, ?_⟩) he hpl
  replace q : sp (vs ++ []) H1 Q E0 := q
  rw [List.append_nil] at q
  have b := hb s1 us I1.kIn (by rw [List.append_nil, ← r.length]; exact F.len _ _ _ _ q)
  rw [List.append_nil] at b
  have P1 := I1.pin p (List.mem_append_left _ hp)
  refine wpAny_call (codeAny_mono (F.run X.A X.stack s1 H1 ⟨us, []⟩ us vs Q E0 p hr hz ⟨P1.1, P1.2.1, fun hm => (List.mem_cons.mp (I1.stkSub p.1 hm)).elim P1.2.2.1 P1.2.2.2.1, P1.2.2.2.2⟩ I1.env0 b r q) fun r s' hq => ?_)
  cases r with
  | error e => exact (show False from hq).elim
  | ok fl =>
    cases fl with
    | ret u => exact I1.after hq
    | next => exact False.elim hq
    | brk => exact False.elim hq
    | cont => exact False.elim hq
/-- a field of the handled error, wherever it is pinned -/
theorem pe_xfP {a C : Addr} {oe : Obj} {dd : Addr} {te : TE} {n : Str} (T : XfC X.K C) (hno : PySem.W.findIn X.K (.ref C) n = some none) (hz : Zc (.ref C) (some dd) oe) (hf : ∃ vs, oe.data = .fields vs) (hp : (a, oe) ∈ X.pn) (he : PE X e te)
    (hb : attributeBase e n X.env (eval e X.env) = eval e X.env := by rfl) :
    PE X (.Attribute e n pos) (fun σ H Q => te σ H fun y H1 => y = .ref a ∧ ∃ (fs : List (Str × V)) (v : V), H1 dd = some (.xd fs) ∧ fs.lookup n = some v ∧ Q v H1) := by
  refine ⟨fun pins s σ H Q I h => attr_of hb (thn (he.run pins s σ H _ I h) fun u s1 hh => ?_)⟩
  obtain ⟨y, H1, I1, ry, rfl, fs, v, ed, l, q⟩ := hh
  obtain rfl : u = Value.ref a := ry
  obtain ⟨ha, _⟩ := I1.pin (a, oe) (List.mem_append_left _ hp)
  obtain ⟨vs, hd⟩ := hf
  obtain ⟨mA, hns, hr⟩ := (show ObjOk X.prog X.w H1 s1.heap dd (.xd fs) from I1.hok dd _ ed)
  obtain ⟨od, ho, hl⟩ := lookIn_ns hns
  obtain ⟨u, hu, ru⟩ := RelO.some_of (v := v) (o := mA n) (by rw [← l]; exact hr n)
  have J : PySem.W.InstAt s1.heap a oe C (some od) := ⟨ha, hz.1, by unfold PySem.W.notCls; rw [hd] <;> rfl, by rw [hz.2]; exact ho⟩
  exact HandSPX.exc_get I1.kIn J T.ga T.gg T.exC (PySem.W.findObj_own T.hdC hno rfl (by rw [hl, hu])) (handed_of ru) ⟨v, H1, I1.tok _, ru, q⟩
end
end Lw
set_option Elab.async false
set_option linter.all false
set_option maxRecDepth 100000
namespace Lw
open PySem PySem.Spec PyProof.Rows L2
abbrev sField : Stmt := top 14
abbrev sTried : Stmt := top 15
/-- the fields of an OutOfRange -/
def oorF (n : Int) : List (Str × V) := [("number", .int n), ("word", .str "outofrange")]
theorem oor_w (n : Int) : (oorF n).lookup ("word" : Str) = some (.str "outofrange") := by
  have h : (("word" : Str) == ("number" : Str)) = false := by decide +kernel
  simp [oorF, List.lookup, h]
theorem oor_n (n : Int) : (oorF n).lookup ("number" : Str) = some (.int n) := by
  simp [oorF, List.lookup]
/-- the handled error at a: of the class at C, its dict at dd -/
def Zh (C a dd : Addr) : Addr × Obj → Prop := fun p => p.1 = a ∧ Zc (.ref C) (some dd) p.2 ∧ ∃ vs, p.2.data = .fields vs
def spField (a dd : Addr) : Sp := fun vs H Q _ => ∃ n : Int, vs = [.ref a] ∧ H dd = some (.xd (oorF n)) ∧ ∀ H', Same H H' → Q (.int n) H'
theorem same_new {H : Hp} {p : Addr} {o : HO} (h : H p = none) : Same H (upd H p o) := fun b x e => by
  rw [upd_ne (ne_of_none e h)]
  exact e
theorem ifT {c : Bool} {A B : Prop} (hc : c = true) (h : A) : if c = true then A else B := by
  rw [if_pos hc]
  exact h
theorem ifF {c : Bool} {A B : Prop} (hc : c = false) (h : B) : if c = true then A else B := by
  rw [if_neg (by rw [hc]; exact Bool.false_ne_true)]
  exact h
section
variable {P : Program} {w : World} {K : PySem.W.Frag} {mg : Str → Option Value} {base : Heap}
theorem scField : FnScope ["_law_e", "_law_fields", "_law_word", "_law_ask"] ["_law_e"] (defScope sField) := ⟨rfl, rfl, rfl, by decide +kernel, rfl, by decide +kernel, by decide +kernel⟩
set_option maxHeartbeats 4000000 in
theorem ok_field {f C a dd : Addr} {fd : FuncData} {k : Nat} (F : Fun K "_law_field" "_law_field" sField f fd) (T : XfC K C) (nw : PySem.W.findIn K (.ref C) "word" = some none) (nn : PySem.W.findIn K (.ref C) "number" = some none) :
    FnC P w K mg base (k + 1) f fd ["_law_e"] (Zh C a dd) (spField a dd) := by
  refine fn_ofC F scField (fun vs H Q E h => ?_) (fun cdv A outer s H vs Q E p hz hr h => ?_)
  · obtain ⟨n, rfl, _⟩ := h
    rfl
  · obtain ⟨n, rfl, hd, q⟩ := h
    obtain ⟨pa, po⟩ := p
    obtain ⟨rfl, hzc, hf⟩ := hz
    have hm : (pa, po) ∈ [(pa, po)] := List.mem_singleton.mpr rfl
    refine ⟨_, pss_cons (ps_if (pt_cmpR op_in_seq (pe_xfP T nw hzc hf hm (pv 0)) (pe_lst (pa_cons pe_str (pa_cons pe_str (pa_cons pe_str (pa_cons pe_str pa_nil))))) (by rfl)) (pss_one ps_never) pss_nil)
      (pss_cons (ps_if (pt_cmpR op_in_seq (pe_xfP T nw hzc hf hm (pv 0)) (pe_lst (pa_cons pe_str (pa_cons pe_str pa_nil))) (by rfl)) (pss_one ps_never) pss_nil)
      (pss_cons (ps_if (pt_cmpR op_in_seq (pe_xfP T nw hzc hf hm (pv 0)) (pe_lst (pa_cons pe_str (pa_cons pe_str (pa_cons pe_str (pa_cons pe_str pa_nil))))) (by rfl)) (pss_one ps_never) pss_nil)
      (pss_cons (ps_if (pt_cmpR op_in_seq (pe_xfP T nw hzc hf hm (pv 0)) (pe_lst (pa_cons pe_str (pa_cons pe_str (pa_cons pe_str pa_nil)))) (by rfl)) (pss_one (ps_ret (pe_xfP T nn hzc hf hm (pv 0)))) pss_nil)
      (pss_cons ps_never (pss_cons ps_never (pss_cons ps_never (pss_one ps_never))))))), ?_⟩
    have sz : ∀ m : Nat, m ≤ 10 → m ≤ sizeLine := fun m h => Nat.le_trans h (by rw [sizeLine_eq]; decide)
    refine ⟨_, rfl, rfl, _, _, hd, oor_w n, sz 4 (by decide), fun l1 h1 => ⟨l1, _, rfl, .inl (SqL.of upd_same), rfl, (by decide +kernel), _, rfl, ifF (by decide +kernel) ?_⟩⟩
    have s1 := same_new (o := .lst [.str "invalidname", .str "duplicatename", .str "nameinuse", .str "unknownname"]) h1
    refine ⟨_, rfl, rfl, _, _, s1 _ _ hd, oor_w n, sz 2 (by decide), fun l2 h2 => ⟨l2, _, rfl, .inl (SqL.of upd_same), rfl, (by decide +kernel), _, rfl, ifF (by decide +kernel) ?_⟩⟩
    have s2 := s1.trans (same_new (o := .lst [.str "limitexceeded", .str "capacityexceeded"]) h2)
    refine ⟨_, rfl, rfl, _, _, s2 _ _ hd, oor_w n, sz 4 (by decide), fun l3 h3 => ⟨l3, _, rfl, .inl (SqL.of upd_same), rfl, (by decide +kernel), _, rfl, ifF (by decide +kernel) ?_⟩⟩
    have s3 := s2.trans (same_new (o := .lst [.str "invalidgraph", .str "invalidrow", .str "invalidpath", .str "invalidcode"]) h3)
    refine ⟨_, rfl, rfl, _, _, s3 _ _ hd, oor_w n, sz 3 (by decide), fun l4 h4 => ⟨l4, _, rfl, .inl (SqL.of upd_same), rfl, (by decide +kernel), _, rfl, ifT (by decide +kernel) ?_⟩⟩
    have s4 := s3.trans (same_new (o := .lst [.str "outofrange", .str "invalidwidth", .str "invalidcapacity"]) h4)
    exact ⟨_, rfl, rfl, _, _, s4 _ _ hd, oor_n n, q _ s4⟩
end
end Lw
set_option Elab.async false
set_option linter.all false
set_option maxRecDepth 100000
namespace Lw
open PySem PySem.Spec PyProof.Rows L2
/-- what `_law_tried` makes of what it calls: ('', value), or the word and the number of an OutOfRange -/
def Tried (C : Addr) : (XK → Hp → VK → Prop) → Hp → VK → Prop := fun tl H Q =>
  tl (fun cls d H' => ∃ (dd : Addr) (n : Int), cls = .ref C ∧ d = some dd ∧ H' dd = some (.xd (oorF n)) ∧ ∀ H2 p, Same H' H2 → H' p = none → H2 p = some (.tup [.str "outofrange", .int n]) → Q (.ref p) H2) H
    (fun v H' => [V.str "", v].length ≤ sizeLine ∧ ∀ p, H' p = none → Q (.ref p) (upd H' p (.tup [.str "", v])))
section
variable {X : Cx}
theorem scTried : FnScope ["_law_ask", "_law_e"] ["_law_ask"] (defScope sTried) := ⟨rfl, rfl, rfl, by decide +kernel, rfl, by decide +kernel, by decide +kernel⟩
set_option maxHeartbeats 4000000 in
theorem tried_gives {q : Str} {g C CW fF : Addr} {cdg : Value} {fdF : FuncData} (hr : Room 2 X.A) (gW : X.mg "WindowError" = some (.ref CW)) (ex : PySem.W.exmOne X.K (.ref C) (.ref CW) = some true) (T : XfC X.K C) (nw : PySem.W.findIn X.K (.ref C) "word" = some none)
    (gF : X.mg "_law_field" = some (.ref fF)) (kF : PySem.W.keepIn X.K (.ref fF) = true) (bF : L2.Binds X.K fdF ["_law_e"] []) (FF : ∀ a dd, FnC X.prog X.w X.K X.mg X.base 1 fF fdF ["_law_e"] (Zh C a dd) (spField a dd)) :
    LamX.GivesTo X ["_law_ask", "_law_e"] "_law_tried" (defScope sTried) g cdg (defBody sTried) "_law_ask" q (Tried C) := by
  intro f c' s H Q tl act hc h
  have two : 2 ≤ sizeLine := by decide
  refine ⟨_, pss_one (ps_try_first (X := (cxOf C8.CX0 X.prog X.w X.K X.mg X.base ["_law_ask", "_law_e"] "_law_tried" (defScope sTried) g cdg X.A X.stack s H C8.E0).nox) (i := 1) (c := .ref CW)
      (tb := fun W D σ H => ∃ Ech : XK, (∀ cls d σ' H', Ech cls d H' → W cls d σ' H') ∧ σ[0]? = some (some (.ref f)) ∧ H c' = some (LamX.CodeO c' q) ∧ tl Ech H (fun v H' => [V.str "", v].length ≤ sizeLine ∧ ∀ p, H' p = none → D.rt (.ref p) (upd H' p (.tup [.str "", v]))))
      (ts := fun a cls d D σ H => ∃ dd : Addr, cls = .ref C ∧ d = some dd ∧ (∃ σ0 : L2.St, σ = σ0.set 1 (some (.ref a))) ∧ ∃ n : Int, H dd = some (.xd (oorF n)) ∧ ∀ H2 p, Same H H2 → H p = none → H2 p = some (.tup [.str "outofrange", .int n]) → D.rt (.ref p) H2)
      rfl rfl scTried.nd rfl rfl ⟨rfl, by decide, .inl gW⟩ (fun W pn xe tk _ => ?_) (fun a oe cls d pn hz hf => ?_)), ?_⟩
  · refine ⟨fun pins s' σ H' D I h' => ?_⟩
    obtain ⟨Ech, hW, h1, h2, h3⟩ := h'
    exact (pss_one (ps_ret (pe_tup (pa_cons pe_str (pa_cons (act W pn xe Ech _ _ tk hW) pa_nil))))).run pins s' σ H' D I ⟨h1, h2, h3⟩
  · refine ⟨fun pins s' σ H' D I h' => ?_⟩
    obtain ⟨dd, rfl, rfl, ⟨σ0, rfl⟩, n, h2, h3⟩ := h'
    have h1 : (σ0.set 1 (some (.ref a)))[1]? = some (some (V.ref a)) := by
      have l2 : (σ0.set 1 (some (.ref a))).length = 2 := I.len
      rw [List.length_set] at l2
      rw [List.getElem?_set_self (by omega)]
    have hrm : L2H.RoomH 1 ((cxOf C8.CX0 X.prog X.w X.K X.mg X.base ["_law_ask", "_law_e"] "_law_tried" (defScope sTried) g cdg X.A X.stack s H C8.E0).nox.suite a ((a, oe) :: pn)).A := ⟨by have := hr.dp; show X.A.depth + 1 + 3 * 1 + 5 < _; omega, by have := hr.un; show X.A.units + 3 + 16 * 1 + 200 < _; omega⟩
    refine (pss_one (ps_ret (pe_tup (pa_cons (pe_xfP (X := ((cxOf C8.CX0 X.prog X.w X.K X.mg X.base ["_law_ask", "_law_e"] "_law_tried" (defScope sTried) g cdg X.A X.stack s H C8.E0).nox.suite a ((a, oe) :: pn))) T nw hz hf List.mem_cons_self (pv 1)) (pa_cons (pe_callC (X := ((cxOf C8.CX0 X.prog X.w X.K X.mg X.base ["_law_ask", "_law_e"] "_law_tried" (defScope sTried) g cdg X.A X.stack s H C8.E0).nox.suite a ((a, oe) :: pn))) (p := (a, oe)) (FF a dd) hrm List.mem_cons_self ⟨rfl, hz, hf⟩ (by rfl) gF kF bF (pa_cons (pv 1) pa_nil)) pa_nil))))).run pins s' _ H' D I ?_
    refine ⟨_, h1, rfl, _, _, h2, oor_w n, _, h1, n, rfl, h2, fun H2 s2 => ⟨two, fun p hp => ?_⟩⟩
    exact h3 _ p (s2.trans (same_new hp)) (s2.free hp) upd_same
  · exact ⟨_, fun cls d σ' H' ⟨dd, n, e1, e2, e3, e4⟩ => ⟨by rw [e1]; exact ex, fun a na => ⟨dd, e1, e2, ⟨σ', rfl⟩, n, e3, e4⟩⟩, rfl, hc, h⟩
end
end Lw
set_option Elab.async false
set_option linter.all false
/-! rows as sequences, and their normal form -/
namespace Lw
/-- the edge at a place -/
def sq (xs ys : List Int) (i : Nat) : Int := if i < xs.length then xs.getD i 0 else ys.getD ((i - xs.length) % ys.length) 0
def Per (s : Nat → Int) (m p : Nat) : Prop := ∀ i, m ≤ i → s i = s (i + p)
structure IsNF (s : Nat → Int) (m p : Nat) : Prop where
  p1 : 1 ≤ p
  per : Per s m p
  minp : ∀ m' p', 1 ≤ p' → Per s m' p' → p ≤ p'
  minm : ∀ m', Per s m' p → m ≤ m'
theorem IsNF.uniq {s : Nat → Int} {m p m' p' : Nat} (h : IsNF s m p) (h' : IsNF s m' p') : m = m' ∧ p = p' := by
  have e : p = p' := Nat.le_antisymm (h.minp m' p' h'.p1 h'.per) (h'.minp m p h.p1 h.per)
  subst e
  exact ⟨Nat.le_antisymm (h.minm m' h'.per) (h'.minm m h.per), rfl⟩
/-- the first n from m on -/
def seg (s : Nat → Int) (m n : Nat) : List Int := (List.range n).map fun k => s (m + k)
theorem seg_len (s : Nat → Int) (m n : Nat) : (seg s m n).length = n := by
  unfold seg
  simp
theorem seg_get (s : Nat → Int) (m n k : Nat) (h : k < n) : (seg s m n).getD k 0 = s (m + k) := by
  unfold seg
  simp [List.getD, h]
theorem seg_get? (s : Nat → Int) (m n k : Nat) (h : k < n) : (seg s m n)[k]? = some (s (m + k)) := by
  unfold seg
  simp [h]
theorem Per.mono {s : Nat → Int} {m m' p : Nat} (h : Per s m p) (hm : m ≤ m') : Per s m' p := fun i hi => h i (Nat.le_trans hm hi)
theorem Per.mul {s : Nat → Int} {m p : Nat} (h : Per s m p) : ∀ (k i : Nat), m ≤ i → s i = s (i + k * p)
  | 0, i, _ => by simp
  | k + 1, i, hi => by
    rw [h.mul k i hi, h (i + k * p) (by omega)]
    congr 1
    rw [Nat.succ_mul]
    omega
/-- the tail of a row is periodic -/
theorem sq_per (xs ys : List Int) (hy : ys ≠ []) : Per (sq xs ys) xs.length ys.length := fun i hi => by
  have h0 : 0 < ys.length := List.length_pos_iff.mpr hy
  unfold sq
  rw [if_neg (by omega), if_neg (by omega), show i + ys.length - xs.length = (i - xs.length) + ys.length by omega, Nat.add_mod_right]
/-- two places behind m that differ by a multiple of p -/
theorem Per.cong {s : Nat → Int} {m p : Nat} (h : Per s m p) (hp : 0 < p) {i j : Nat} (hi : m ≤ i) (hj : m ≤ j) (e : i % p = j % p) : s i = s j := by
  rcases Nat.le_total i j with hij | hij
  · have : j = i + ((j - i) / p) * p := by
      have h1 : (j - i) % p = 0 := Nat.sub_mod_eq_zero_of_mod_eq e.symm
      have h2 := Nat.div_add_mod (j - i) p
      rw [h1, Nat.mul_comm] at h2
      omega
    rw [this]
    exact h.mul _ i hi
  · have : i = j + ((i - j) / p) * p := by
      have h1 : (i - j) % p = 0 := Nat.sub_mod_eq_zero_of_mod_eq e
      have h2 := Nat.div_add_mod (i - j) p
      rw [h1, Nat.mul_comm] at h2
      omega
    rw [this]
    exact (h.mul _ j hj).symm
/-- a period that holds somewhere holds from where the row repeats -/
theorem Per.back {s : Nat → Int} {h n m p : Nat} (t : Per s h n) (hn : 0 < n) (q : Per s m p) : Per s h p := fun i hi => by
  have e1 := t.mul m i hi
  have e2 := t.mul m (i + p) (by omega)
  have hm : m ≤ i + m * n := by
    have : m ≤ m * n := Nat.le_mul_of_pos_right m hn
    omega
  rw [e1, e2, q (i + m * n) hm]
  congr 1
  omega
/-- the least period divides every period of the tail -/
theorem least_dvd {s : Nat → Int} {h n p : Nat} (t : Per s h n) (q : Per s h p) (hp : 0 < p) (hmin : ∀ p', 1 ≤ p' → Per s h p' → p ≤ p') : n % p = 0 := by
  by_cases hz : n % p = 0
  · exact hz
  · exfalso
    have hr : Per s h (n % p) := fun i hi => by
      have e1 := q.mul (n / p) (i + n % p) (by omega)
      have e2 := Nat.div_add_mod n p
      rw [e1, t i hi]
      congr 1
      rw [Nat.mul_comm] at e2
      omega
    have := hmin (n % p) (by omega) hr
    have := Nat.mod_lt n hp
    omega
/-- a least period and a least beginning give the normal form -/
theorem nf_of {s : Nat → Int} {h n m p : Nat} (t : Per s h n) (hn : 0 < n) (hp : 1 ≤ p) (hmin : ∀ p', 1 ≤ p' → Per s h p' → p ≤ p') (q : Per s m p) (hm : ∀ m', Per s m' p → m ≤ m') : IsNF s m p :=
  ⟨hp, q, fun m' p' h1 q' => hmin p' h1 (t.back hn q'), hm⟩
/-- the row of a normal form is the same row -/
theorem sq_seg {s : Nat → Int} {m p : Nat} (hp : 0 < p) (q : Per s m p) : sq (seg s 0 m) (seg s m p) = s := by
  funext i
  unfold sq
  rw [seg_len, seg_len]
  by_cases hi : i < m
  · rw [if_pos hi, seg_get s 0 m i hi, Nat.zero_add]
  · rw [if_neg hi, seg_get s m p _ (Nat.mod_lt _ hp)]
    refine q.cong hp (Nat.le_add_right _ _) (by omega) ?_
    rw [Nat.add_mod, Nat.mod_mod, ← Nat.add_mod, show m + (i - m) = i by omega]
/-- the tail's period, seen in a window of one turn -/
theorem per_window {s : Nat → Int} {h n p a b : Nat} (t : Per s h n) (hn : 0 < n) (ha : a ≤ h) (hb : h + n ≤ b) (w : ∀ i, a ≤ i → i < b → s i = s (i + p)) : Per s a p := fun i hi => by
  by_cases hlt : i < b
  · exact w i hi hlt
  · have hlo : h + (i - h) % n < b := by
      have := Nat.mod_lt (i - h) hn
      omega
    have e1 : s i = s (h + (i - h) % n) := t.cong hn (by omega) (by omega) (by
      rw [Nat.add_mod h ((i - h) % n), Nat.mod_mod, ← Nat.add_mod, show h + (i - h) = i by omega])
    have e2 : s (i + p) = s (h + (i - h) % n + p) := t.cong hn (by omega) (by omega) (by
      have e : (h + (i - h) % n) % n = i % n := by
        rw [Nat.add_mod h ((i - h) % n), Nat.mod_mod, ← Nat.add_mod, show h + (i - h) = i by omega]
      rw [Nat.add_mod i p, Nat.add_mod (h + (i - h) % n) p, e])
    rw [e1, e2]
    exact w _ (by omega) hlo
end Lw
set_option Elab.async false
set_option linter.all false
set_option maxRecDepth 100000
namespace Lw
open PySem L2
abbrev sBag : Stmt := top 10
abbrev sPull : Stmt := top 11
abbrev sOf : Stmt := top 12
/-! ### heaps -/
theorem same_upd {H : Hp} {p : Addr} {o : HO} (h : H p = none) : Same H (upd H p o) := fun b x e => by
  rw [upd_ne (ne_of_none e h)]
  exact e
theorem upd_upd {H : Hp} {p : Addr} {o o' : HO} : upd (upd H p o) p o' = upd H p o' := by
  funext c
  by_cases e : c = p
  · subst e
    rw [upd_same, upd_same]
  · rw [upd_ne e, upd_ne e, upd_ne e]
theorem upd_self {H : Hp} {p : Addr} {o : HO} (h : H p = some o) : upd H p o = H := by
  funext c
  by_cases e : c = p
  · subst e
    rw [upd_same, h]
  · rw [upd_ne e]
/-! ### the bag: the script's own list at l, a place, a rest, a salt -/
def BagO (l : Addr) (ns : List Int) (o : HO) : Prop := ∃ (i : Nat) (r s : Int), o = .lst [.ref l, .int (i : Int), .int r, .int s] ∧ i ≤ ns.length ∧ 0 ≤ r ∧ 0 ≤ s ∧ s < 2147483563
structure BagAt (H : Hp) (b l : Addr) (ns : List Int) : Prop where
  ob : ∃ o, H b = some o ∧ BagO l ns o
  sc : H l = some (.lst (ns.map V.int))
  ln : ns.length ≤ 63
theorem BagAt.ne {H : Hp} {b l : Addr} {ns : List Int} (h : BagAt H b l ns) : l ≠ b := fun e => by
  obtain ⟨o, ho, i, r, s, rfl, _⟩ := h.ob
  have h2 := h.sc
  rw [e, ho] at h2
  cases ns with
  | nil => cases h2
  | cons x r => cases h2
theorem BagAt.upd {H : Hp} {b l : Addr} {ns : List Int} {o : HO} (h : BagAt H b l ns) (ho : BagO l ns o) : BagAt (upd H b o) b l ns :=
  ⟨⟨o, upd_same, ho⟩, by rw [upd_ne h.ne]; exact h.sc, h.ln⟩
/-- the bag where all that was tracked stands -/
theorem BagAt.same {H H' : Hp} {b l : Addr} {ns : List Int} (h : BagAt H b l ns) (e : Same H H') : BagAt H' b l ns :=
  ⟨h.ob.imp fun _ z => ⟨e _ _ z.1, z.2⟩, e _ _ h.sc, h.ln⟩
def spPull : Sp := fun vs H Q _ => ∃ (b l : Addr) (ns : List Int) (m : Int), vs = [.ref b, .int m] ∧ BagAt H b l ns ∧ 0 < m ∧ m < 2 ^ 100 ∧
  ∀ (v : Int) (o : HO), 0 ≤ v → v < m → BagO l ns o → Q (.int v) (upd H b o)
def spBag (K : PySem.W.Frag) : Sp := fun vs H Q _ => ∃ (a : Addr) (ns : List Int), vs = [.ref a] ∧ SqL K H a (ns.map V.int) ∧ ns.length ≤ 63 ∧
  ∀ (b l : Addr) (H' : Hp), Same H H' → H b = none → H l = none → BagAt H' b l ns → Q (.ref b) H'
section
variable {P : Program} {w : World} {K : PySem.W.Frag} {mg : Str → Option Value} {base : Heap}
/-! ### _law_pull -/
theorem scPull : FnScope ["_law_bag_here", "_law_many", "_law_cell", "_law_got", "_law_seed"] ["_law_bag_here", "_law_many"] (defScope sPull) := ⟨rfl, rfl, rfl, by decide +kernel, rfl, by decide +kernel, by decide +kernel⟩
theorem at0 {x : V} {r : List V} : atI (x :: r) 0 = some x := by
  have h := atI_nat (xs := x :: r) (j := 0) (v := x) rfl
  exact h
theorem at1 {x y : V} {r : List V} : atI (x :: y :: r) 1 = some y := by
  have h := atI_nat (xs := x :: y :: r) (j := 1) (v := y) rfl
  exact h
theorem at2 {x y z : V} {r : List V} : atI (x :: y :: z :: r) 2 = some z := by
  have h := atI_nat (xs := x :: y :: z :: r) (j := 2) (v := z) rfl
  exact h
theorem at3 {x y z u : V} {r : List V} : atI (x :: y :: z :: u :: r) 3 = some u := by
  have h := atI_nat (xs := x :: y :: z :: u :: r) (j := 3) (v := u) rfl
  exact h
set_option maxHeartbeats 4000000 in
theorem ok_pull {f : Addr} {fd : FuncData} {k : Nat} (F : Fun K "_law_pull" "_law_pull" sPull f fd) (mlen : mg "len" = none) : FnOk P w K mg base CX0 (k + 1) f fd ["_law_bag_here", "_law_many"] spPull := by
  refine F.ok scPull (fun vs H Q E h => ?_) (fun cdv A outer s H vs Q E hr h => ?_)
  · obtain ⟨b, l, ns, m, rfl, _⟩ := h
    rfl
  · obtain ⟨b, l, ns, m, rfl, B, hm, hm2, q⟩ := h
    refine ⟨_, C8.pss_cut (ps_if (PW.pt (pw_and (pt_cmpR op_eq (pe_ix ix_list (pv 0) pe_int (fun _ _ => rfl)) pe_int (nomark _))
        (pw_and1 (pt_cmpR op_lt (pe_ix ix_list (pv 0) pe_int (fun _ _ => rfl)) (pe_callB call_len_seq (by rfl) mlen PySem.boot_len (pa_cons (pe_ix ix_list (pv 0) pe_int (fun _ _ => rfl)) pa_nil)) (nomark _)))))
        (pss_cons (ps_set (i := 2) scPull.nd rfl (Or.inl rfl) (pe_ix ix_list (pe_ix ix_list (pv 0) pe_int (fun _ _ => rfl)) (pe_ix ix_list (pv 0) pe_int (fun _ _ => rfl)) (fun _ _ => rfl)))
        (pss_cons (ps_asg (pe_op op_add (pe_ix ix_list (pv 0) pe_int (fun _ _ => rfl)) pe_int) (pg_sub (pv 0) pe_int set_list))
        (pss_one (ps_if (pt_cmpR op_ge (pv 2) (pe_op op_pow pe_int pe_int) (nomark _))
          (pss_one (ps_asg (pe_op op_sub (pv 2) (pe_op op_pow pe_int pe_int)) (pg_sub (pv 0) pe_int set_list)))
          (pss_one (ps_asg (pe_op op_mod (pe_op op_add (pe_op op_add (pe_op op_mul (pe_ix ix_list (pv 0) pe_int (fun _ _ => rfl)) pe_int) (pe_op op_mul (pe_op op_mod (pv 2) pe_int) pe_int)) pe_int) pe_int) (pg_sub (pv 0) pe_int set_list)))))))
        pss_nil)
      (pss_cons (ps_if (pt_cmpR op_gt (pe_ix ix_list (pv 0) pe_int (fun _ _ => rfl)) pe_int (nomark _))
        (pss_cons (ps_set (i := 3) scPull.nd rfl (Or.inl rfl) (pe_op op_mod (pe_ix ix_list (pv 0) pe_int (fun _ _ => rfl)) (pv 1)))
        (pss_cons (ps_asg (pe_op op_fdivW (pe_ix ix_list (pv 0) pe_int (fun _ _ => rfl)) (pv 1)) (pg_sub (pv 0) pe_int set_list))
        (pss_one (ps_ret (pv 3))))) pss_nil)
      (pss_cons (ps_set (i := 4) scPull.nd rfl (Or.inl rfl) (pe_ix ix_list (pv 0) pe_int (fun _ _ => rfl)))
      (pss_cons (ps_asg (pe_op op_mod (pe_op op_add (pe_op op_add (pe_op op_mul (pe_op op_mul (pv 4) (pv 4)) pe_int) (pe_op op_mul (pv 4) pe_int)) pe_int) pe_int) (pg_sub (pv 0) pe_int set_list))
      (pss_one (ps_ret (pe_op op_mod (pe_op op_add (pe_op op_fdiv (pe_ix ix_list (pv 0) pe_int (fun _ _ => rfl)) pe_int) (pe_op op_mul (pe_op op_mod (pe_ix ix_list (pv 0) pe_int (fun _ _ => rfl)) pe_int) pe_int)) (pv 1))))))), ?_⟩
    obtain ⟨o, ho, i, r, sa, rfl, hi, hr0, hs0, hs1⟩ := B.ob
    refine ⟨fun σ H' => ∃ (v2 : Option V) (o : HO), σ = [some (.ref b), some (.int m), v2, none, none] ∧ H' = upd H b o ∧ BagO l ns o, ?_, ?_⟩
    · refine ⟨_, rfl, b, _, _, _, rfl, rfl, SqL.of ho, at2, rfl, _, rfl, ?_⟩
      have stay : H = upd H b (.lst [.ref l, .int (i : Int), .int r, .int sa]) := (upd_self ho).symm
      refine ite2 (fun c => ?_) (fun c => ?_)
      · have c0 : r = 0 := by
          have c1 := of_decide_eq_true c
          injection c1
        subst c0
        refine ⟨_, rfl, b, _, _, _, rfl, rfl, SqL.of ho, at1, _, rfl, b, _, _, _, rfl, rfl, SqL.of ho, at0, l, _, rfl, .inl (SqL.of B.sc), _, _, rfl, rfl, _, rfl, ?_⟩
        rw [List.length_map]
        refine ite2 (fun c => ?_) (fun c => ?_)
        · have c1 : (i : Int) < (ns.length : Int) := of_decide_eq_true c
          have c2 : i < ns.length := by omega
          have g1 : (ns.map V.int)[i]? = some (.int ns[i]) := by
            rw [List.getElem?_map, List.getElem?_eq_getElem c2]
            rfl
          refine ⟨_, rfl, b, _, _, _, rfl, rfl, SqL.of ho, at0, _, rfl, b, _, _, _, rfl, rfl, SqL.of ho, at1, l, _, _, _, rfl, rfl, SqL.of B.sc, atI_nat g1, ?_⟩
          refine ⟨_, rfl, b, _, _, _, rfl, rfl, SqL.of ho, at1, _, _, rfl, rfl, _, rfl, b, _, _, 1, rfl, rfl, ho, rfl, ?_⟩
          refine ⟨_, rfl, _, _, rfl, rfl, ⟨by decide, by decide, by decide⟩, _, _, rfl, rfl, _, rfl, ?_⟩
          refine ite2 (fun c => ?_) (fun c => ?_)
          · have c3 : (10 : Int) ^ (18 : Int).toNat ≤ ns[i] := of_decide_eq_true c
            refine ⟨_, rfl, _, _, rfl, rfl, ⟨by decide, by decide, by decide⟩, _, _, rfl, rfl, _, rfl, b, _, _, 2, rfl, rfl, upd_same, rfl, ?_⟩
            refine ⟨_, _, rfl, upd_upd, i + 1, ns[i] - 10 ^ (18 : Int).toNat, sa, by rfl, by omega, by omega, hs0, hs1⟩
          · refine ⟨_, rfl, b, _, _, _, rfl, rfl, SqL.of upd_same, at3, _, _, rfl, rfl, .inl ⟨by omega, by omega⟩, _, rfl, _, _, rfl, rfl, (by show (0 : Int) < 2147483563; decide), _, _, rfl, rfl, .inl ⟨by omega, by omega⟩, _, _, rfl, rfl, _, _, rfl, rfl, _, _, rfl, rfl, (by show (0 : Int) < 2147483563; decide), _, rfl, b, _, _, 3, rfl, rfl, upd_same, rfl, ?_⟩
            refine ⟨_, _, rfl, upd_upd, i + 1, 0, _, by rfl, by omega, by omega, ?_, ?_⟩
            · exact Int.emod_nonneg _ (by decide)
            · exact Int.emod_lt_of_pos _ (by decide)
        · refine ⟨none, _, rfl, stay, i, 0, sa, rfl, hi, by omega, hs0, hs1⟩
      · refine iteF ?_
        exact ⟨none, _, rfl, stay, i, r, sa, rfl, hi, hr0, hs0, hs1⟩
    · rintro σ H' ⟨v2, o, rfl, rfl, i, r, sa, rfl, hi, hr0, hs0, hs1⟩
      refine ⟨_, rfl, b, _, _, _, rfl, rfl, SqL.of upd_same, at2, _, _, rfl, rfl, _, rfl, ?_⟩
      refine ite2 (fun c => ?_) (fun c => ?_)
      · have c1 : 0 < r := of_decide_eq_true c
        refine ⟨_, rfl, b, _, _, _, rfl, rfl, SqL.of upd_same, at2, _, rfl, _, _, rfl, rfl, hm, ?_⟩
        refine ⟨_, rfl, b, _, _, _, rfl, rfl, SqL.of upd_same, at2, _, rfl, _, _, rfl, rfl, wide_div hm (b := 100) (by omega) (by decide) (by decide), _, rfl, b, _, _, 2, rfl, rfl, upd_same, rfl, ?_⟩
        refine ⟨_, rfl, ?_⟩
        rw [upd_upd]
        refine q _ _ (Int.emod_nonneg _ (by omega)) (Int.emod_lt_of_pos _ hm) ⟨i, r / m, sa, rfl, hi, Int.ediv_nonneg hr0 (by omega), hs0, hs1⟩
      · refine ⟨_, rfl, b, _, _, _, rfl, rfl, SqL.of upd_same, at3, ?_⟩
        have hq : sa * sa < 2 ^ 64 := by
          have : sa * sa ≤ sa * 2147483563 := Int.mul_le_mul_of_nonneg_left (by omega) hs0
          omega
        have hq0 : 0 ≤ sa * sa := Int.mul_nonneg hs0 hs0
        refine ⟨_, rfl, _, rfl, _, _, rfl, rfl, .inl ⟨by omega, by omega⟩, _, _, rfl, rfl, .inl ⟨by omega, by omega⟩, _, rfl, _, _, rfl, rfl, .inl ⟨by omega, by omega⟩, _, _, rfl, rfl, _, _, rfl, rfl, _, _, rfl, rfl, (by show (0 : Int) < 2147483563; decide), _, rfl, b, _, _, 3, rfl, rfl, upd_same, rfl, ?_⟩
        rw [upd_upd]
        obtain ⟨x, hx⟩ : ∃ x : Int, (sa * sa * 3 + sa * 16807 + 1013904223) % 2147483563 = x := ⟨_, rfl⟩
        have x0 : 0 ≤ x := hx ▸ Int.emod_nonneg _ (by decide)
        have x1 : x < 2147483563 := hx ▸ Int.emod_lt_of_pos _ (by decide)
        refine ⟨_, rfl, b, _, _, _, rfl, rfl, SqL.of upd_same, at3, _, _, rfl, rfl, ⟨by decide, by decide⟩, _, rfl, b, _, _, _, rfl, rfl, SqL.of upd_same, at3, _, _, rfl, rfl, (by show (0 : Int) < 8191; decide), _, _, rfl, rfl, .inl ⟨by omega, by omega⟩, _, _, rfl, rfl, _, rfl, _, _, rfl, rfl, hm, ?_⟩
        exact q _ _ (Int.emod_nonneg _ (by omega)) (Int.emod_lt_of_pos _ hm) ⟨i, r, x, by rw [← hx]; rfl, hi, hr0, x0, x1⟩
end
end Lw
set_option Elab.async false
set_option linter.all false
set_option maxRecDepth 100000
namespace Lw
open PySem L2
abbrev sLike : Stmt := top 13
/-- the built-in names that the law's helpers ask for -/
structure Bi (mg : Str → Option Value) : Prop where
  len : mg "len" = none
  list : mg "list" = none
  tuple : mg "tuple" = none
  bool : mg "bool" = none
  int : mg "int" = none
  str : mg "str" = none
  isi : mg "isinstance" = none
  all : mg "all" = none
  zip : mg "zip" = none
  range : mg "range" = none
def spOf (K : PySem.W.Frag) : Sp := fun vs H Q _ => ∃ (b l t : Addr) (ns : List Int) (xs : List V), vs = [.ref b, .ref t] ∧ BagAt H b l ns ∧ SqL K H t xs ∧ t ≠ b ∧ xs ≠ [] ∧ xs.length ≤ 1000 ∧
  ∀ (i : Nat) (v : V) (o : HO), xs[i]? = some v → BagO l ns o → Q v (upd H b o)
theorem if_t {c : Bool} {A B : Prop} (hc : c = true) (h : A) : if c = true then A else B := by
  rw [if_pos hc]
  exact h
theorem if_f {c : Bool} {A B : Prop} (hc : c = false) (h : B) : if c = true then A else B := by
  rw [hc, if_neg Bool.false_ne_true]
  exact h
theorem cut_all {xs : List V} (h : xs.length ≤ 63) : cutV xs none (some 63) = xs := by
  unfold cutV
  rw [HT.sIx_none, show HT.sIx xs.length xs.length (some 63) = min 63 xs.length from HT.sIx_nat xs.length xs.length 63, Nat.min_eq_right h]
  simp
section
variable {P : Program} {w : World} {K : PySem.W.Frag} {mg : Str → Option Value} {base : Heap}
theorem SqL.upd_ne {H : Hp} {a b : Addr} {xs : List V} {o : HO} (h : SqL K H a xs) (e : a ≠ b) : SqL K (upd H b o) a xs := by
  unfold SqL Rd at h ⊢
  rw [L2.upd_ne e]
  exact h
/-! ### _law_bag -/
theorem scBag : FnScope ["_law_script", "_law_salt", "_law_cell"] ["_law_script"] (defScope sBag) := ⟨rfl, rfl, rfl, by decide +kernel, rfl, by decide +kernel, by decide +kernel⟩
set_option maxHeartbeats 4000000 in
theorem ok_bag {f : Addr} {fd : FuncData} {k : Nat} (F : Fun K "_law_bag" "_law_bag" sBag f fd) (T : Bi mg) : FnOk P w K mg base CX0 (k + 1) f fd ["_law_script"] (spBag K) := by
  refine F.ok scBag (fun vs H Q E h => ?_) (fun cdv A outer s H vs Q E hr h => ?_)
  · obtain ⟨b, ns, rfl, _⟩ := h
    rfl
  · obtain ⟨a, ns, rfl, hS, hl, q⟩ := h
    refine ⟨_, pss_cons (ps_set (i := 1) scBag.nd rfl (Or.inl rfl) pe_int)
      (pss_cons (ps_for PassesOwn.never rfl (pi_list (pe_slice sl_list (pv 0) po_none (po_some pe_int))) (pg_name (i := 2) scBag.nd rfl (Or.inl rfl))
        (pss_one (ps_set (i := 1) scBag.nd rfl (Or.inl rfl) (pe_op op_mod (pe_op op_add (pe_op op_add (pe_op op_mul (pv 1) pe_int) (pe_op op_mod (pv 2) pe_int)) pe_int) pe_int))))
      (pss_one (ps_ret (pe_lst (pa_cons (pe_callTy call_list_of (by rfl) T.list (by decide +kernel) (pa_cons (pe_slice sl_list (pv 0) po_none (po_some pe_int)) pa_nil)) (pa_cons pe_int (pa_cons pe_int (pa_cons (pv 1) pa_nil)))))))), ?_⟩
    have hl' : (ns.map V.int).length ≤ 63 := by rw [List.length_map]; exact hl
    refine ⟨_, rfl, _, rfl, a, _, rfl, hS, fun p hp => ?_⟩
    rw [cut_all hl']
    have s1 : Same H (upd H p (.lst (ns.map V.int))) := same_upd hp
    refine ⟨p, rfl, ⟨_, SqL.of upd_same⟩, for_list (K := K) (a := p) (xs := ns.map V.int) (fun i σ H' => ∃ (v : Option V) (sa : Int), σ = [some (.ref a), some (.int sa), v] ∧ H' = upd H p (.lst (ns.map V.int)) ∧ 0 ≤ sa ∧ sa < 2147483563)
      ⟨none, 3803, rfl, rfl, by decide, by decide⟩ (fun i σ H' _ ⟨_, _, _, e, _⟩ => by subst e; exact SqL.of upd_same) ?_ ?_⟩
    · rintro i y σ H' hi ⟨v, sa, rfl, rfl, h0, h1⟩
      obtain ⟨z, rfl⟩ : ∃ z, y = V.int z := by
        rw [List.getElem?_map] at hi
        cases e : ns[i]? with
        | none =>
          rw [e] at hi
          cases hi
        | some z =>
          rw [e] at hi
          exact ⟨z, (Option.some.inj hi).symm⟩
      refine ⟨_, rfl, _, _, rfl, rfl, .inl ⟨by omega, by omega⟩, _, rfl, _, _, rfl, rfl, (by show (0 : Int) < 2147483563; decide), _, _, rfl, rfl, _, _, rfl, rfl, _, _, rfl, rfl, (by show (0 : Int) < 2147483563; decide), ?_⟩
      exact ⟨_, _, rfl, rfl, Int.emod_nonneg _ (by decide), Int.emod_lt_of_pos _ (by decide)⟩
    · rintro σ H' ⟨v, sa, rfl, rfl, h0, h1⟩
      refine ⟨_, rfl, _, rfl, a, _, rfl, s1.seq hS, fun p2 hp2 => ?_⟩
      rw [cut_all hl']
      refine ⟨p2, _, rfl, .inl (SqL.of upd_same), fun l hl2 => ?_⟩
      have s2 := s1.trans (same_upd (o := .lst (ns.map V.int)) hp2)
      have s3 := s2.trans (same_upd (o := .lst (ns.map V.int)) hl2)
      refine ⟨_, rfl, (by show 4 ≤ sizeLine; decide), fun b hb => ?_⟩
      have nl : H l = none := s2.free hl2
      have nb : H b = none := s3.free hb
      have lb : l ≠ b := fun e => by
        rw [← e, upd_same] at hb
        cases hb
      refine q b l _ (s3.trans (same_upd hb)) nb nl ⟨⟨_, upd_same, 0, 0, sa, rfl, Nat.zero_le _, by decide, h0, h1⟩, ?_, hl⟩
      rw [upd_ne lb, upd_same]
/-! ### _law_of -/
theorem scOf : FnScope ["_law_bag_here", "_law_things"] ["_law_bag_here", "_law_things"] (defScope sOf) := ⟨rfl, rfl, rfl, by decide +kernel, rfl, by decide +kernel, by decide +kernel⟩
set_option maxHeartbeats 4000000 in
theorem ok_of {f : Addr} {fd : FuncData} {k : Nat} (F : Fun K "_law_of" "_law_of" sOf f fd) (T : Bi mg) (cP : C8.Cal P w K mg base 1 "_law_pull" spPull []) : FnOk P w K mg base CX0 (k + 2) f fd ["_law_bag_here", "_law_things"] (spOf K) := by
  refine F.ok scOf (fun vs H Q E h => ?_) (fun cdv A outer s H vs Q E hr h => ?_)
  · obtain ⟨b, l, t, ns, xs, rfl, _⟩ := h
    rfl
  · obtain ⟨b, l, t, ns, xs, rfl, B, hS, ne, nn, hl, q⟩ := h
    refine ⟨_, pss_one (ps_ret (pe_ix ix_list (pv 1) (C8.pe_c cP hr (Nat.le_add_left 1 k) (by rfl) (pa_cons (pv 0) (pa_cons (pe_callB call_len_seq (by rfl) T.len PySem.boot_len (pa_cons (pv 1) pa_nil)) pa_nil))) (fun _ _ => rfl))), ?_⟩
    have l0 : 0 < xs.length := List.length_pos_iff.mpr nn
    refine ⟨_, rfl, _, rfl, _, rfl, t, xs, rfl, .inl hS, b, l, ns, _, rfl, B, by omega, by omega, fun v o v0 v1 BO => ?_⟩
    have hv : v.toNat < xs.length := by omega
    have hvv : ((v.toNat : Nat) : Int) = v := Int.toNat_of_nonneg v0
    have g : atI xs v = some xs[v.toNat] := by
      have := atI_nat (xs := xs) (j := v.toNat) (v := xs[v.toNat]) (List.getElem?_eq_getElem hv)
      rw [hvv] at this
      exact this
    exact ⟨t, xs, v, _, rfl, rfl, SqL.upd_ne hS ne, g, q v.toNat _ o (List.getElem?_eq_getElem hv) BO⟩
/-! ### _law_like of like things is True -/
def atomV : V → Bool
  | .non => true
  | .bl _ => true
  | .int _ => true
  | .str _ => true
  | _ => false
def Lk (H : Hp) : Nat → V → V → Prop
  | 0, _, _ => False
  | n + 1, x, y => (x = y ∧ atomV x = true) ∨
    (∃ (a b : Addr) (xs ys : List V), x = .ref a ∧ y = .ref b ∧ H a = some (.lst xs) ∧ H b = some (.lst ys) ∧ xs.length = ys.length ∧ xs.length ≤ 1000 ∧ ∀ (i : Nat) u v, xs[i]? = some u → ys[i]? = some v → Lk H n u v) ∨
    (∃ (a b : Addr) (xs ys : List V), x = .ref a ∧ y = .ref b ∧ H a = some (.tup xs) ∧ H b = some (.tup ys) ∧ xs.length = ys.length ∧ xs.length ≤ 1000 ∧ ∀ (i : Nat) u v, xs[i]? = some u → ys[i]? = some v → Lk H n u v)
theorem Lk.same {H H' : Hp} (s : Same H H') : ∀ (n : Nat) (x y : V), Lk H n x y → Lk H' n x y
  | 0, _, _, h => h
  | n + 1, x, y, h => by
    rcases h with h | ⟨a, b, xs, ys, e1, e2, e3, e4, e5, e6, h⟩ | ⟨a, b, xs, ys, e1, e2, e3, e4, e5, e6, h⟩
    · exact .inl h
    · exact .inr (.inl ⟨a, b, xs, ys, e1, e2, s _ _ e3, s _ _ e4, e5, e6, fun i u v h1 h2 => Lk.same s n u v (h i u v h1 h2)⟩)
    · exact .inr (.inr ⟨a, b, xs, ys, e1, e2, s _ _ e3, s _ _ e4, e5, e6, fun i u v h1 h2 => Lk.same s n u v (h i u v h1 h2)⟩)
def spLike (n : Nat) : Sp := fun vs H Q _ => ∃ x y, vs = [x, y] ∧ Lk H n x y ∧ ∀ H', Same H H' → Q (.bl true) H'
theorem scLike : FnScope ["_law_found", "_law_due", "_law_one", "_law_other"] ["_law_found", "_law_due"] (defScope sLike) := ⟨rfl, rfl, rfl, by decide +kernel, rfl, by decide +kernel, by decide +kernel⟩
theorem walk_zipT {a b : Addr} {xs ys : List V} {n : Nat} (hn : n = min xs.length ys.length) : Walk (RZ.ItzT K a b) n (fun H => SqT K H a xs ∧ SqT K H b ys) (YPair (fun i => xs[i]?) (fun i => ys[i]?)) := by
  subst hn
  refine ⟨fun i H hi q => ?_, fun H q => ?_, fun i H x H' hi q y => ?_⟩
  · have h1 : i < xs.length := by omega
    have h2 : i < ys.length := by omega
    exact ⟨xs, ys, xs[i], ys[i], q.1, q.2, by simp [h1], by simp [h2]⟩
  · exact ⟨xs, ys, q.1, q.2, by omega⟩
  · obtain ⟨T, u, v, e1, e2, e3, g1, g2⟩ := y
    exact ⟨T, u, v, e1, e2, e3, g1 xs q.1, g2 ys q.2⟩
/-- what the law asks of an atom: its type's name -/
def tyV : V → String
  | .non => "NoneType"
  | .bl _ => "bool"
  | .int _ => "int"
  | .str _ => "str"
  | _ => "none"
theorem tyV_of {H : Hp} {x : V} (h : atomV x = true) : TyX K H x (.type (tyV x)) := by
  cases x with
  | non => exact .base .non
  | bl b => exact .base (.bl b)
  | int i => exact .base (.int i)
  | str z => exact .base (.str z)
  | _ => cases h
theorem tyV_cases {x : V} (h : atomV x = true) : tyV x = "NoneType" ∨ tyV x = "bool" ∨ tyV x = "int" ∨ tyV x = "str" := by
  cases x with
  | non => exact .inl rfl
  | bl b => exact .inr (.inl rfl)
  | int i => exact .inr (.inr (.inl rfl))
  | str z => exact .inr (.inr (.inr rfl))
  | _ => cases h
/-- isinstance of an atom: some answer, by the type alone -/
def isB (x : V) (T : String) : Bool := (kitB (tyV x) T).getD false
theorem isB_of {x : V} {T : String} (h : atomV x = true) (hT : T = "list" ∨ T = "tuple" ∨ T = "bool" ∨ T = "int" ∨ T = "str") : PySem.W.kitOne K (.type (tyV x)) (.type T) = some (isB x T) := by
  refine kit_ty ?_
  unfold isB
  rcases tyV_cases h with e | e | e | e <;> rw [e] <;> rcases hT with e | e | e | e | e <;> rw [e] <;> decide +kernel
theorem isB_no {x : V} (h : atomV x = true) : PySem.W.kitAny K (.type (tyV x)) [.type "list", .type "tuple"] = some false := by
  rcases tyV_cases h with e | e | e | e <;> rw [e]
  all_goals
    refine kitAny_cons (b := false) (kit_ty (by decide +kernel)) (fun _ => ?_) (fun z => by cases z)
    refine kitAny_cons (b := false) (kit_ty (by decide +kernel)) (fun _ => rfl) (fun z => by cases z)
theorem all_true (n : Nat) : (List.replicate n true).all id = true := by
  rw [List.all_replicate]
  simp
theorem like0 {f : Addr} {fd : FuncData} {k : Nat} (F : Fun K "_law_like" "_law_like" sLike f fd) : FnOk P w K mg base CX0 (k + 1) f fd ["_law_found", "_law_due"] (spLike 0) := by
  refine F.ok scLike (fun vs H Q E h => ?_) (fun cdv A outer s H vs Q E hr h => ?_)
  · obtain ⟨x, y, rfl, _⟩ := h
    rfl
  · obtain ⟨x, y, rfl, L, q⟩ := h
    exact L.elim
set_option maxHeartbeats 8000000 in
theorem ok_like {f : Addr} {fd : FuncData} {n k : Nat} (F : Fun K "_law_like" "_law_like" sLike f fd) (T : Bi mg) (c : 0 < n → C8.Cal P w K mg base (k + 1) "_law_like" (spLike (n - 1)) []) : FnOk P w K mg base CX0 (k + 2) f fd ["_law_found", "_law_due"] (spLike n) := by
  refine F.ok scLike (fun vs H Q E h => ?_) (fun cdv A outer s H vs Q E hr h => ?_)
  · obtain ⟨x, y, rfl, _⟩ := h
    rfl
  · obtain ⟨x, y, rfl, L, q⟩ := h
    cases n with
    | zero => exact L.elim
    | succ n =>
      have cc := c (Nat.succ_pos n)
      refine ⟨_, pss_cons (ps_if (pt_val (pe_callB call_isiT (by rfl) T.isi (by decide +kernel) (pa_cons (pv 1) (pa_cons (pe_tup (pa_cons (pe_bltn (v := .ty "list") (by rfl) T.list (by decide +kernel) rfl) (pa_cons (pe_bltn (v := .ty "tuple") (by rfl) T.tuple (by decide +kernel) rfl) pa_nil))) pa_nil))))
          (pss_cons (ps_if (PW.pt (pw_or (pt_cmpR op_ne (pe_callB call_isi (by rfl) T.isi (by decide +kernel) (pa_cons (pv 0) (pa_cons (pe_bltn (v := .ty "list") (by rfl) T.list (by decide +kernel) rfl) pa_nil))) (pe_callB call_isi (by rfl) T.isi (by decide +kernel) (pa_cons (pv 1) (pa_cons (pe_bltn (v := .ty "list") (by rfl) T.list (by decide +kernel) rfl) pa_nil))) (nomark _))
              (pw_or1 (pt_cmpR op_ne (pe_callB call_isi (by rfl) T.isi (by decide +kernel) (pa_cons (pv 0) (pa_cons (pe_bltn (v := .ty "tuple") (by rfl) T.tuple (by decide +kernel) rfl) pa_nil))) (pe_callB call_isi (by rfl) T.isi (by decide +kernel) (pa_cons (pv 1) (pa_cons (pe_bltn (v := .ty "tuple") (by rfl) T.tuple (by decide +kernel) rfl) pa_nil))) (nomark _))))) (pss_one (ps_ret pe_bl)) pss_nil)
          (pss_one (ps_ret (pe_and (pe_cmpR op_eq (pe_callB call_len_seq (by rfl) T.len PySem.boot_len (pa_cons (pv 0) pa_nil)) (pe_callB call_len_seq (by rfl) T.len PySem.boot_len (pa_cons (pv 1) pa_nil)) (nomark _))
            (pe_one (pe_callB (cr_all rfl) (by rfl) T.all (by decide +kernel) (pa_cons
              (pe_lc (own := [("_law_one", 2), ("_law_other", 3)]) (g := gTup K 2 (gCons (gName 2) (gCons (gName 3) gNil))) (tt := tYes) (te := tCall (spLike n) [] E0 (tCons (tVar 2) (tCons (tVar 3) tNil))) rfl scLike.nd (RZ.pi_zipA (by rfl) T.zip (pa_cons (pv 0) (pa_cons (pv 1) pa_nil)))
                (blkOk_by (N := ["_law_found", "_law_due", "_law_one", "_law_other"]) (sc := defScope sLike) (by decide +kernel))
                (fun _ _ _ _ _ => by exact pg_tup rfl (pgs_cons (pg_name (i := 2) scLike.nd rfl (Or.inl rfl)) (pgs_cons (pg_name (i := 3) scLike.nd rfl (Or.inl rfl)) pgs_nil)))
                (fun _ _ _ _ _ => pts_nil)
                (fun _ _ _ _ _ => by exact C8.pe_c cc hr (Nat.le_refl _) (by rfl) (pa_cons (pv 2) (pa_cons (pv 3) pa_nil)))) pa_nil))))))) pss_nil)
        (pss_cons (ps_if (PW.pt (pw_or (pt_cmpR op_isN (pv 0) pe_non (nomark _)) (pw_or1 (pt_cmpR op_isN (pv 1) pe_non (nomark _))))) (pss_one (ps_ret (pe_and (pe_cmpR op_isN (pv 0) pe_non (nomark _)) (pe_one (pe_cmpR op_isN (pv 1) pe_non (nomark _)))))) pss_nil)
        (pss_cons (ps_if (PW.pt (pw_or (pt_cmpR op_ne (pe_callB call_isi (by rfl) T.isi (by decide +kernel) (pa_cons (pv 0) (pa_cons (pe_bltn (v := .ty "bool") (by rfl) T.bool (by decide +kernel) rfl) pa_nil))) (pe_callB call_isi (by rfl) T.isi (by decide +kernel) (pa_cons (pv 1) (pa_cons (pe_bltn (v := .ty "bool") (by rfl) T.bool (by decide +kernel) rfl) pa_nil))) (nomark _))
              (pw_or1 (pt_cmpR op_ne (pe_callB call_isi (by rfl) T.isi (by decide +kernel) (pa_cons (pv 0) (pa_cons (pe_bltn (v := .ty "int") (by rfl) T.int (by decide +kernel) rfl) pa_nil))) (pe_callB call_isi (by rfl) T.isi (by decide +kernel) (pa_cons (pv 1) (pa_cons (pe_bltn (v := .ty "int") (by rfl) T.int (by decide +kernel) rfl) pa_nil))) (nomark _))))) (pss_one (ps_ret pe_bl)) pss_nil)
        (pss_one (ps_ret (pe_and (pe_cmpR op_eq (pe_callB call_isi (by rfl) T.isi (by decide +kernel) (pa_cons (pv 0) (pa_cons (pe_bltn (v := .ty "str") (by rfl) T.str (by decide +kernel) rfl) pa_nil))) (pe_callB call_isi (by rfl) T.isi (by decide +kernel) (pa_cons (pv 1) (pa_cons (pe_bltn (v := .ty "str") (by rfl) T.str (by decide +kernel) rfl) pa_nil))) (nomark _)) (pe_one (pe_cmpR op_eq (pv 0) (pv 1) (nomark _)))))))), ?_⟩
      rcases L with ⟨rfl, ha⟩ | ⟨a, b, xs, ys, rfl, rfl, ea, eb, hl, h1000, hp⟩ | ⟨a, b, xs, ys, rfl, rfl, ea, eb, hl, h1000, hp⟩
      · refine ⟨_, rfl, (by show 2 ≤ sizeLine; decide), fun t ht => ?_⟩
        have s1 := same_upd (o := .tup [.ty "list", .ty "tuple"]) ht
        refine ⟨x, t, _, _, _, _, rfl, upd_same, .cons (.ty _) (.cons (.ty _) .nil), tyV_of ha, isB_no ha, false, rfl, ?_⟩
        refine iteF ?_
        refine ⟨_, rfl, rfl, _, rfl, ?_⟩
        by_cases hx : x = .non
        · subst hx
          refine if_t (decide_eq_true rfl) (iteT ?_)
          exact ⟨_, rfl, rfl, _, rfl, if_t (decide_eq_true rfl) ⟨_, rfl, rfl, q _ s1⟩⟩
        · refine if_f (decide_eq_false hx) ⟨_, rfl, rfl, _, rfl, if_f (decide_eq_false hx) ?_⟩
          refine ⟨_, rfl, x, _, _, _, _, rfl, .ty _, tyV_of ha, isB_of ha (by simp), _, rfl, x, _, _, _, _, rfl, .ty _, tyV_of ha, isB_of ha (by simp), rfl, _, rfl, ?_⟩
          refine if_f (by simp) ?_
          refine ⟨_, rfl, x, _, _, _, _, rfl, .ty _, tyV_of ha, isB_of ha (by simp), _, rfl, x, _, _, _, _, rfl, .ty _, tyV_of ha, isB_of ha (by simp), rfl, _, rfl, ?_⟩
          refine if_f (by simp) ?_
          refine ⟨_, rfl, x, _, _, _, _, rfl, .ty _, tyV_of ha, isB_of ha (by simp), _, rfl, x, _, _, _, _, rfl, .ty _, tyV_of ha, isB_of ha (by simp), rfl, _, rfl, ?_⟩
          refine if_t (by simp) ?_
          refine ⟨_, rfl, _, rfl, ?_, ?_⟩
          · cases x <;> first | rfl | (cases ha)
          · rw [decide_eq_true rfl]
            exact q _ s1
      · refine ⟨_, rfl, (by show 2 ≤ sizeLine; decide), fun t ht => ?_⟩
        have s1 := same_upd (o := .tup [.ty "list", .ty "tuple"]) ht
        have ea1 := s1 _ _ ea
        have eb1 := s1 _ _ eb
        refine ⟨.ref b, t, _, _, _, _, rfl, upd_same, .cons (.ty _) (.cons (.ty _) .nil), .base (.lst eb1), kitAny_cons (b := true) (kit_ty (by decide +kernel)) (fun z => by cases z) (fun _ => rfl), true, rfl, ?_⟩
        refine iteT ?_
        refine ⟨_, rfl, _, _, _, _, true, rfl, .ty _, .base (.lst ea1), kit_ty (by decide +kernel), _, rfl, _, _, _, _, true, rfl, .ty _, .base (.lst eb1), kit_ty (by decide +kernel), rfl, _, rfl, ?_⟩
        refine if_f (by simp) ?_
        refine ⟨_, rfl, _, _, _, _, false, rfl, .ty _, .base (.lst ea1), kit_ty (by decide +kernel), _, rfl, _, _, _, _, false, rfl, .ty _, .base (.lst eb1), kit_ty (by decide +kernel), rfl, _, rfl, ?_⟩
        refine if_f (by simp) ?_
        refine ⟨_, rfl, a, xs, rfl, .inl (SqL.of ea1), _, rfl, b, ys, rfl, .inl (SqL.of eb1), rfl, _, rfl, ?_⟩
        refine if_t (by rw [hl]; exact decide_eq_true rfl) ?_
        refine ⟨_, rfl, _, rfl, a, b, xs, ys, rfl, .inl ⟨SqL.of ea1, SqL.of eb1, fun D hD => ?_⟩⟩
        have s2 := s1.trans (same_upd (o := .lst []) hD)
        refine lc_it (walk_zip (K := K) (a := a) (b := b) (xs := xs) (ys := ys) (n := xs.length) (by omega)) (fun i H' => Same H H' ∧ H' D = some (.lst ((List.replicate i true).map V.bl))) ⟨s2, upd_same⟩ (fun i H' _ p => ⟨SqL.of (p.1 _ _ ea), SqL.of (p.1 _ _ eb)⟩) ?_ ?_
        · rintro i v H1 H' hi ⟨sm, eD⟩ ⟨T, x, y, rfl, hT, rfl, gx, gy⟩
          have s3 := sm.trans (same_upd (o := .tup [x, y]) hT)
          refine ⟨T, _, rfl, SqT.of upd_same, rfl, _, _, rfl, _, _, rfl, rfl, rfl, ?_⟩
          refine ⟨_, rfl, _, rfl, x, y, rfl, Lk.same s3 n _ _ (hp i x y gx gy), fun H4 s4 => ?_⟩
          have eD4 : H4 D = some (.lst ((List.replicate i true).map V.bl)) := s4 _ _ (by rw [upd_ne (ne_of_none eD hT)]; exact eD)
          have nD : H D = none := s1.free hD
          refine ⟨_, eD4, ?_, ?_, ?_⟩
          · rw [List.length_map, List.length_replicate]
            exact small1000 (by omega)
          · intro c o ec
            rw [upd_ne (ne_of_none ec nD)]
            exact s4 _ _ (s3 _ _ ec)
          · rw [upd_same, List.replicate_succ', List.map_append]
            rfl
        · rintro H' ⟨sm, eD⟩
          refine ⟨D, List.replicate xs.length true, rfl, SqL.of eD, ?_⟩
          rw [all_true]
          exact q H' sm
      · refine ⟨_, rfl, (by show 2 ≤ sizeLine; decide), fun t ht => ?_⟩
        have s1 := same_upd (o := .tup [.ty "list", .ty "tuple"]) ht
        have ea1 := s1 _ _ ea
        have eb1 := s1 _ _ eb
        refine ⟨.ref b, t, _, _, _, _, rfl, upd_same, .cons (.ty _) (.cons (.ty _) .nil), .base (.tup eb1), kitAny_cons (b := false) (kit_ty (by decide +kernel)) (fun _ => kitAny_cons (b := true) (kit_ty (by decide +kernel)) (fun z => by cases z) (fun _ => rfl)) (fun z => by cases z), true, rfl, ?_⟩
        refine iteT ?_
        refine ⟨_, rfl, _, _, _, _, false, rfl, .ty _, .base (.tup ea1), kit_ty (by decide +kernel), _, rfl, _, _, _, _, false, rfl, .ty _, .base (.tup eb1), kit_ty (by decide +kernel), rfl, _, rfl, ?_⟩
        refine if_f (by simp) ?_
        refine ⟨_, rfl, _, _, _, _, true, rfl, .ty _, .base (.tup ea1), kit_ty (by decide +kernel), _, rfl, _, _, _, _, true, rfl, .ty _, .base (.tup eb1), kit_ty (by decide +kernel), rfl, _, rfl, ?_⟩
        refine if_f (by simp) ?_
        refine ⟨_, rfl, a, xs, rfl, .inr (SqT.of ea1), _, rfl, b, ys, rfl, .inr (SqT.of eb1), rfl, _, rfl, ?_⟩
        refine if_t (by rw [hl]; exact decide_eq_true rfl) ?_
        refine ⟨_, rfl, _, rfl, a, b, xs, ys, rfl, .inr ⟨SqT.of ea1, SqT.of eb1, fun D hD => ?_⟩⟩
        have s2 := s1.trans (same_upd (o := .lst []) hD)
        refine lc_it (walk_zipT (K := K) (a := a) (b := b) (xs := xs) (ys := ys) (n := xs.length) (by omega)) (fun i H' => Same H H' ∧ H' D = some (.lst ((List.replicate i true).map V.bl))) ⟨s2, upd_same⟩ (fun i H' _ p => ⟨SqT.of (p.1 _ _ ea), SqT.of (p.1 _ _ eb)⟩) ?_ ?_
        · rintro i v H1 H' hi ⟨sm, eD⟩ ⟨T, x, y, rfl, hT, rfl, gx, gy⟩
          have s3 := sm.trans (same_upd (o := .tup [x, y]) hT)
          refine ⟨T, _, rfl, SqT.of upd_same, rfl, _, _, rfl, _, _, rfl, rfl, rfl, ?_⟩
          refine ⟨_, rfl, _, rfl, x, y, rfl, Lk.same s3 n _ _ (hp i x y gx gy), fun H4 s4 => ?_⟩
          have eD4 : H4 D = some (.lst ((List.replicate i true).map V.bl)) := s4 _ _ (by rw [upd_ne (ne_of_none eD hT)]; exact eD)
          have nD : H D = none := s1.free hD
          refine ⟨_, eD4, ?_, ?_, ?_⟩
          · rw [List.length_map, List.length_replicate]
            exact small1000 (by omega)
          · intro c o ec
            rw [upd_ne (ne_of_none ec nD)]
            exact s4 _ _ (s3 _ _ ec)
          · rw [upd_same, List.replicate_succ', List.map_append]
            rfl
        · rintro H' ⟨sm, eD⟩
          refine ⟨D, List.replicate xs.length true, rfl, SqL.of eD, ?_⟩
          rw [all_true]
          exact q H' sm
end
end Lw
set_option Elab.async false
set_option linter.all false
set_option maxRecDepth 100000
namespace Lw
open PySem L2
abbrev sTurned : Stmt := top 5
abbrev sShort : Stmt := top 6
abbrev sNormal : Stmt := top 7
abbrev sEdgeAt : Stmt := top 8
/-! ### tuples of ints -/
def TI (H : Hp) (a : Addr) (xs : List Int) : Prop := H a = some (.tup (xs.map V.int))
theorem TI.same {H H' : Hp} {a : Addr} {xs : List Int} (h : TI H a xs) (s : Same H H') : TI H' a xs := s _ _ h
section
variable {K : PySem.W.Frag}
theorem slA {H : Hp} {a : Addr} {xs : List V} {lo hi : Option Int} {Q : VK} (h : H a = some (.tup xs)) (q : ∀ r H', Same H H' → H' r = some (.tup (cutV xs lo hi)) → Q (.ref r) H') : rSlA K (.ref a) lo hi H Q := by
  refine ⟨a, xs, rfl, SqT.of h, fun z => q a H (fun _ _ e => e) ?_, fun _ p hp => q p _ (same_upd hp) upd_same⟩
  rw [h]
  unfold cutV
  rw [z.1, z.2]
  simp
theorem catA {H : Hp} {a b : Addr} {xs ys : List V} {Q : VK} (h : H a = some (.tup xs)) (h2 : H b = some (.tup ys)) (hl : xs.length + ys.length ≤ 1000) (q : ∀ r H', Same H H' → H' r = some (.tup (xs ++ ys)) → Q (.ref r) H') : rCatA K (.ref a) (.ref b) H Q := by
  refine ⟨a, b, xs, ys, rfl, rfl, SqT.of h, SqT.of h2, Nat.le_of_lt (small1000 hl), fun z => q b H (fun _ _ e => e) ?_, fun _ z => q a H (fun _ _ e => e) ?_, fun _ _ p hp => q p _ (same_upd hp) upd_same⟩
  · rw [h2, z]
    rfl
  · rw [h, z, List.append_nil]
theorem cut_lo' {xs : List V} {k : Nat} (h : k ≤ xs.length) : cutV xs none (some (k : Int)) = xs.take k := by
  unfold cutV
  rw [HT.sIx_none, HT.sIx_nat, Nat.min_eq_left h]
  simp
theorem cut_hi' {xs : List V} {k : Nat} (h : k ≤ xs.length) : cutV xs (some (k : Int)) none = xs.drop k := by
  unfold cutV
  rw [HT.sIx_none, HT.sIx_nat, Nat.min_eq_left h]
  rw [List.take_of_length_le]
  rw [List.length_drop]
  exact Nat.le_refl _
end
def rot (ys : List Int) (j : Nat) : List Int := ys.drop j ++ ys.take j
def spTurned : Sp := fun vs H Q _ => ∃ (c : Addr) (k : Int) (ys : List Int), vs = [.ref c, .int k] ∧ TI H c ys ∧ ys ≠ [] ∧ ys.length ≤ 500 ∧ ∀ r H', Same H H' → TI H' r (rot ys (k % (ys.length : Int)).toNat) → Q (.ref r) H'
/-! ### the shortest part of a cycle that gives it -/
def Gives (ys : List Int) (d : Nat) : Prop := ys.length % d = 0 ∧ (List.replicate (ys.length / d) (ys.take d)).flatten = ys
structure IsSh (ys : List Int) (d : Nat) : Prop where
  d1 : 1 ≤ d
  dl : d ≤ ys.length
  gv : Gives ys d
  mn : ∀ d', 1 ≤ d' → d' < d → ¬ Gives ys d'
def spShort : Sp := fun vs H Q _ => ∃ (c : Addr) (ys : List Int), vs = [.ref c] ∧ TI H c ys ∧ ys ≠ [] ∧ ys.length ≤ 500 ∧ ∀ (r : Addr) (H' : Hp) (d : Nat), Same H H' → TI H' r (ys.take d) → IsSh ys d → Q (.ref r) H'
theorem gives_all (ys : List Int) (h : ys ≠ []) : Gives ys ys.length := by
  have h0 : 0 < ys.length := List.length_pos_iff.mpr h
  refine ⟨Nat.mod_self _, ?_⟩
  rw [Nat.div_self h0]
  simp
theorem dp_ints {K : PySem.W.Frag} {H : Hp} : ∀ xs : List Int, DpAll K H (xs.map V.int) (xs.map PyData.int)
  | [] => .nil
  | x :: xs => .cons (.int x) (dp_ints xs)
theorem eqv_ints : ∀ xs ys : List Int, PyData.eqvAll (xs.map PyData.int) (ys.map PyData.int) = decide (xs = ys)
  | [], [] => rfl
  | [], _ :: _ => rfl
  | _ :: _, [] => rfl
  | x :: xs, y :: ys => by
    show ((x == y) && PyData.eqvAll (xs.map PyData.int) (ys.map PyData.int)) = decide (x :: xs = y :: ys)
    rw [eqv_ints xs ys]
    by_cases h : x = y <;> by_cases h2 : xs = ys <;> simp [h, h2]
theorem lay_ints : ∀ xs : List Int, PyData.canLayAll0 (xs.map PyData.int) = true
  | [] => rfl
  | x :: xs => by
    show (true && PyData.canLayAll0 (xs.map PyData.int)) = true
    rw [lay_ints xs]
    rfl
theorem dep_ints : ∀ xs : List Int, PyData.depthAll (xs.map PyData.int) = 0
  | [] => rfl
  | x :: xs => by
    show max 0 (PyData.depthAll (xs.map PyData.int)) = 0
    rw [dep_ints xs]
    rfl
theorem sh_ints (xs : List Int) : SeqAt.shaped (.tuple (xs.map PyData.int)) = true := by
  show (PyData.canLayAll0 (xs.map PyData.int) && decide (PyData.depthAll (xs.map PyData.int) + 1 ≤ 64)) = true
  rw [lay_ints, dep_ints]
  rfl
section
variable {P : Program} {w : World} {K : PySem.W.Frag} {mg : Str → Option Value} {base : Heap}
theorem scTurned : FnScope ["cycle", "count", "start"] ["cycle", "count"] (defScope sTurned) := ⟨rfl, rfl, rfl, by decide +kernel, rfl, by decide +kernel, by decide +kernel⟩
theorem ok_turned {f : Addr} {fd : FuncData} {k : Nat} (F : Fun K "turned" "turned" sTurned f fd) (T : Bi mg) : FnOk P w K mg base CX0 (k + 1) f fd ["cycle", "count"] spTurned := by
  refine F.ok scTurned (fun vs H Q E h => ?_) (fun cdv A outer s H vs Q E hr h => ?_)
  · obtain ⟨c, n, ys, rfl, _⟩ := h
    rfl
  · obtain ⟨c, n, ys, rfl, hc, hy, hl, q⟩ := h
    refine ⟨_, pss_cons (ps_set (i := 2) scTurned.nd rfl (Or.inl rfl) (pe_op op_mod (pv 1) (pe_callB call_len_seq (by rfl) T.len PySem.boot_len (pa_cons (pv 0) pa_nil))))
      (pss_one (ps_ret (pe_op op_catA (pe_slice sl_tupA (pv 0) (po_some (pv 2)) po_none) (pe_slice sl_tupA (pv 0) po_none (po_some (pv 2)))))), ?_⟩
    have h0 : 0 < ys.length := List.length_pos_iff.mpr hy
    refine ⟨_, rfl, _, rfl, c, _, rfl, .inr (SqT.of hc), _, _, rfl, rfl, (by show (0 : Int) < ((ys.map V.int).length : Int); rw [List.length_map]; omega), ?_⟩
    have e0 : 0 ≤ n % (ys.length : Int) := Int.emod_nonneg _ (by omega)
    have e1 : n % (ys.length : Int) < (ys.length : Int) := Int.emod_lt_of_pos _ (by omega)
    obtain ⟨j, hj⟩ : ∃ j : Nat, n % (ys.length : Int) = (j : Int) := ⟨(n % (ys.length : Int)).toNat, (Int.toNat_of_nonneg e0).symm⟩
    have hjl : j ≤ (ys.map V.int).length := by
      rw [List.length_map]
      omega
    rw [hj] at q
    have ej : n % ((ys.map V.int).length : Int) = (j : Int) := by
      rw [List.length_map]
      exact hj
    refine ⟨_, rfl, _, rfl, _, rfl, ?_⟩
    dsimp only [tNoPart]
    refine slA hc fun r1 H1 s1 h1 => ?_
    refine ⟨_, rfl, _, rfl, _, rfl, slA (s1 _ _ hc) fun r2 H2 s2 h2 => ?_⟩
    have h1' : H1 r1 = some (.tup ((ys.drop j).map V.int)) := by
      rw [h1, ej, cut_hi' hjl, List.map_drop]
    have h2' : H2 r2 = some (.tup ((ys.take j).map V.int)) := by
      rw [h2, ej, cut_lo' hjl, List.map_take]
    refine catA (s2 _ _ h1') h2' (by simp; omega) fun r3 H3 s3 h3 => ?_
    refine q r3 H3 ((s1.trans s2).trans s3) ?_
    unfold TI rot
    rw [h3, List.map_append]
    rfl
theorem scShort : FnScope ["cycle", "size", "part"] ["cycle"] (defScope sShort) := ⟨rfl, rfl, rfl, by decide +kernel, rfl, by decide +kernel, by decide +kernel⟩
set_option maxHeartbeats 4000000 in
theorem ok_short {f : Addr} {fd : FuncData} {k : Nat} (F : Fun K "shortest_cycle" "shortest_cycle" sShort f fd) (T : Bi mg) : FnOk P w K mg base CX0 (k + 1) f fd ["cycle"] spShort := by
  refine F.ok scShort (fun vs H Q E h => ?_) (fun cdv A outer s H vs Q E hr h => ?_)
  · obtain ⟨c, ys, rfl, _⟩ := h
    rfl
  · obtain ⟨c, ys, rfl, hc, hy, hl, q⟩ := h
    refine ⟨_, pss_cons (ps_set (i := 1) scShort.nd rfl (Or.inl rfl) (pe_callB call_len_seq (by rfl) T.len PySem.boot_len (pa_cons (pv 0) pa_nil)))
      (pss_cons (ps_for PassesOwn.never rfl (pi_range2 (by rfl) T.range (pa_cons pe_int (pa_cons (pv 1) pa_nil))) (pg_name (i := 2) scShort.nd rfl (Or.inl rfl))
        (pss_one (ps_if (PW.pt (pw_and (pt_cmpR op_eq (pe_op op_mod (pv 1) (pv 2)) pe_int (nomark _)) (pw_and1 (pt_cmpR (op_eqD hr.units) (pe_op op_repT (pe_slice sl_tupA (pv 0) po_none (po_some (pv 2))) (pe_op op_fdiv (pv 1) (pv 2))) (pv 0) (nomark _)))))
          (pss_one (ps_ret (pe_slice sl_tupA (pv 0) po_none (po_some (pv 2))))) pss_nil)))
      (pss_one (ps_ret (pv 0)))), ?_⟩
    have h0 : 0 < ys.length := List.length_pos_iff.mpr hy
    refine ⟨_, rfl, c, _, rfl, .inr (SqT.of hc), ?_⟩
    rw [List.length_map]
    refine ⟨_, rfl, 1, (ys.length : Int), rfl, ⟨by decide, by decide, by omega, by omega⟩, ?_⟩
    refine for_it (walk_range (lo := 1) (n := ((ys.length : Int) - 1).toNat)) (fun i σ H' => ∃ v : Option V, σ = [some (.ref c), some (.int ys.length), v] ∧ Same H H' ∧ ∀ d, 1 ≤ d → d < 1 + i → ¬ Gives ys d)
      ⟨none, rfl, fun _ _ e => e, fun d h1 h2 => by omega⟩ (fun _ _ _ _ _ => True.intro) ?_ ?_
    · rintro i x σ H1 H' hi ⟨v, rfl, sm, hno⟩ ⟨rfl, rfl⟩
      have hd1 : (1 : Int) + (i : Int) = ((1 + i : Nat) : Int) := by omega
      have hdl : 1 + i < ys.length := by omega
      have dl2 : 1 + i ≤ (ys.map V.int).length := by
        rw [List.length_map]
        omega
      have c' := hc.same sm
      refine ⟨_, rfl, _, rfl, _, _, rfl, rfl, (by show (0 : Int) < 1 + (i : Int); omega), rfl, _, rfl, ?_⟩
      by_cases hm : ys.length % (1 + i) = 0
      · refine if_t (decide_eq_true ?_) ?_
        · show V.int ((ys.length : Int) % (1 + (i : Int))) = V.int 0
          rw [hd1, show ((ys.length : Int) % ((1 + i : Nat) : Int)) = ((ys.length % (1 + i) : Nat) : Int) from rfl, hm]
          rfl
        refine ⟨_, rfl, _, rfl, _, rfl, slA c' fun r1 H1 s1 h1 => ?_⟩
        have h1' : H1 r1 = some (.tup ((ys.take (1 + i)).map V.int)) := by
          rw [h1]
          show some (HO.tup (cutV (ys.map V.int) none (some (1 + (i : Int))))) = _
          rw [hd1, cut_lo' dl2, List.map_take]
        have hk2 : 2 ≤ ys.length / (1 + i) := by
          have e := Nat.div_add_mod ys.length (1 + i)
          rw [hm] at e
          obtain ⟨qq, hqq⟩ : ∃ qq, ys.length / (1 + i) = qq := ⟨_, rfl⟩
          rw [hqq] at e ⊢
          match qq, e with
          | 0, e => omega
          | 1, e => omega
          | qq + 2, _ => omega
        have ediv : (ys.length : Int) / (1 + (i : Int)) = ((ys.length / (1 + i) : Nat) : Int) := by
          rw [hd1]
          rfl
        have hkl : ys.length / (1 + i) ≤ ys.length := Nat.div_le_self _ _
        refine ⟨_, rfl, _, rfl, _, _, rfl, rfl, ⟨(by show (0 : Int) < 1 + (i : Int); omega), (by show 1 + (i : Int) < 1073741824; omega)⟩, r1, _, _, rfl, rfl, SqT.of h1', ?_, ?_, ?_, ?_, fun p hp => ?_⟩
        · intro z
          have z1 := congrArg List.length z
          rw [List.length_map, List.length_take, Nat.min_eq_left (by omega)] at z1
          cases z1.symm.trans (Nat.add_comm 1 i)
        · show (2 : Int) ≤ (ys.length : Int) / (1 + (i : Int))
          rw [ediv]
          omega
        · show (ys.length : Int) / (1 + (i : Int)) ≤ 1000
          rw [ediv]
          omega
        · rw [List.length_map, List.length_take]
          omega
        have er : (List.replicate ((ys.length : Int) / (1 + (i : Int))).toNat ((ys.take (1 + i)).map V.int)).flatten = ((List.replicate (ys.length / (1 + i)) (ys.take (1 + i))).flatten).map V.int := by
          rw [ediv, Int.toNat_natCast, List.map_flatten, List.map_replicate]
        have s2 := s1.trans (same_upd (o := .tup (List.replicate ((ys.length : Int) / (1 + (i : Int))).toNat ((ys.take (1 + i)).map V.int)).flatten) hp)
        have cc := c'.same s2
        refine ⟨_, rfl, _, _, .tup (SqT.of (by rw [upd_same, er])) (dp_ints _), .tup (SqT.of cc) (dp_ints _), sh_ints _, sh_ints _, _, rfl, ?_⟩
        have ee : PyData.eqv (.tuple ((List.replicate (ys.length / (1 + i)) (ys.take (1 + i))).flatten.map PyData.int)) (.tuple (ys.map PyData.int)) = decide ((List.replicate (ys.length / (1 + i)) (ys.take (1 + i))).flatten = ys) := eqv_ints _ _
        by_cases hg : (List.replicate (ys.length / (1 + i)) (ys.take (1 + i))).flatten = ys
        · refine if_t (by rw [ee]; exact decide_eq_true hg) ?_
          refine ⟨_, rfl, _, rfl, _, rfl, slA cc fun r3 H3 s3 h3 => ?_⟩
          refine q r3 H3 (1 + i) ((sm.trans s2).trans s3) ?_ ⟨by omega, by omega, ⟨hm, hg⟩, hno⟩
          unfold TI
          rw [h3]
          show some (HO.tup (cutV (ys.map V.int) none (some (1 + (i : Int))))) = _
          rw [hd1, cut_lo' dl2, List.map_take]
        · refine if_f (by rw [ee]; exact decide_eq_false hg) ?_
          refine ⟨_, rfl, sm.trans s2, fun d h1 h2 => ?_⟩
          by_cases hd : d = 1 + i
          · subst hd
            exact fun z => hg z.2
          · exact hno d h1 (by omega)
      · refine if_f (decide_eq_false ?_) ?_
        · intro z
          injection z with z
          refine hm ?_
          have z' : ((ys.length : Int) % (1 + (i : Int))) = 0 := z
          rw [hd1] at z'
          have z2 : ((ys.length % (1 + i) : Nat) : Int) = 0 := z'
          omega
        refine iteF ⟨_, rfl, sm, fun d h1 h2 => ?_⟩
        by_cases hd : d = 1 + i
        · subst hd
          exact fun z => hm z.1
        · exact hno d h1 (by omega)
    · rintro σ H1 ⟨v, rfl, sm, hno⟩
      refine ⟨_, rfl, q c H1 ys.length sm ?_ ⟨by omega, Nat.le_refl _, gives_all ys hy, fun d' h1 h2 => hno d' h1 (by omega)⟩⟩
      rw [List.take_length]
      exact hc.same sm
end
end Lw
set_option Elab.async false
set_option linter.all false
namespace Lw
theorem rep_get (l : List Int) (hl : 0 < l.length) : ∀ (k t : Nat), t < k * l.length → ((List.replicate k l).flatten).getD t 0 = l.getD (t % l.length) 0
  | 0, t, h => by simp at h
  | k + 1, t, h => by
    rw [List.replicate_succ, List.flatten_cons]
    by_cases ht : t < l.length
    · rw [Nat.mod_eq_of_lt ht]
      simp [List.getD, List.getElem?_append_left ht]
    · have e : t % l.length = (t - l.length) % l.length := by
        conv => lhs; rw [show t = (t - l.length) + l.length by omega, Nat.add_mod_right]
      rw [e, ← rep_get l hl k (t - l.length) (by rw [Nat.succ_mul] at h; omega)]
      simp [List.getD, List.getElem?_append_right (Nat.le_of_not_lt ht)]
theorem getD_take {ys : List Int} {d t : Nat} (h : t < d) : (ys.take d).getD t 0 = ys.getD t 0 := by
  simp [List.getD, List.getElem?_take, h]
theorem list_ext {xs ys : List Int} (hl : xs.length = ys.length) (h : ∀ t, t < xs.length → xs.getD t 0 = ys.getD t 0) : xs = ys := by
  refine List.ext_getElem hl fun t h1 h2 => ?_
  have := h t h1
  simpa [List.getD, h1, h2] using this
/-- a part that gives the cycle is a period -/
theorem gives_at {ys : List Int} {d t : Nat} (hd : 1 ≤ d) (hdl : d ≤ ys.length) (g : Gives ys d) (ht : t < ys.length) : ys.getD t 0 = ys.getD (t % d) 0 := by
  have hl : (ys.take d).length = d := by
    rw [List.length_take]
    omega
  have e := Nat.div_add_mod ys.length d
  rw [g.1] at e
  have h1 := rep_get (ys.take d) (by omega) (ys.length / d) t (by rw [hl, Nat.mul_comm]; omega)
  rw [g.2, hl, getD_take (Nat.mod_lt _ hd)] at h1
  exact h1
theorem sq_tail {xs ys : List Int} (t : Nat) : sq xs ys (xs.length + t) = ys.getD (t % ys.length) 0 := by
  unfold sq
  rw [if_neg (by omega), Nat.add_sub_cancel_left]
theorem gives_per {xs ys : List Int} {d : Nat} (hd : 1 ≤ d) (hdl : d ≤ ys.length) (g : Gives ys d) : Per (sq xs ys) xs.length d := fun i hi => by
  have h0 : 0 < ys.length := by omega
  have key : ∀ t, sq xs ys (xs.length + t) = ys.getD (t % d) 0 := fun t => by
    rw [sq_tail, gives_at hd hdl g (Nat.mod_lt t h0), Nat.mod_mod_of_dvd t (Nat.dvd_of_mod_eq_zero g.1)]
  have e1 : i = xs.length + (i - xs.length) := by omega
  have e2 : i + d = xs.length + ((i - xs.length) + d) := by omega
  rw [e2, key]
  rw [e1, key, Nat.add_sub_cancel_left, Nat.add_mod_right]
/-- a period that divides gives the cycle -/
theorem per_gives {xs ys : List Int} {d : Nat} (hd : 1 ≤ d) (hdl : d ≤ ys.length) (hm : ys.length % d = 0) (q : Per (sq xs ys) xs.length d) : Gives ys d := by
  refine ⟨hm, ?_⟩
  have hl : (ys.take d).length = d := by
    rw [List.length_take]
    omega
  have e := Nat.div_add_mod ys.length d
  rw [hm] at e
  have hlen : ((List.replicate (ys.length / d) (ys.take d)).flatten).length = ys.length := by
    rw [List.length_flatten, List.map_replicate, List.sum_replicate_nat, hl]
    rw [Nat.mul_comm]
    omega
  refine list_ext hlen fun t ht => ?_
  rw [hlen] at ht
  rw [rep_get (ys.take d) (by omega) _ _ (by rw [hl, Nat.mul_comm]; omega), hl, getD_take (Nat.mod_lt _ hd)]
  have h1 := q.cong hd (i := xs.length + t % d) (j := xs.length + t) (Nat.le_add_right _ _) (Nat.le_add_right _ _) (by rw [Nat.add_mod, Nat.mod_mod, ← Nat.add_mod])
  rw [sq_tail, sq_tail, Nat.mod_eq_of_lt ht, Nat.mod_eq_of_lt (Nat.lt_of_lt_of_le (Nat.mod_lt _ hd) hdl)] at h1
  exact h1
theorem least_per {s : Nat → Int} {h : Nat} : ∀ p, 1 ≤ p → Per s h p → ∃ p0, 1 ≤ p0 ∧ p0 ≤ p ∧ Per s h p0 ∧ ∀ p', 1 ≤ p' → Per s h p' → p0 ≤ p' := by
  intro p
  induction p using Nat.strongRecOn with
  | _ p ih =>
    intro h1 hp
    by_cases hx : ∃ p', 1 ≤ p' ∧ p' < p ∧ Per s h p'
    · obtain ⟨p', a, b, c⟩ := hx
      obtain ⟨p0, x, y, z, u⟩ := ih p' b a c
      exact ⟨p0, x, by omega, z, u⟩
    · exact ⟨p, h1, Nat.le_refl _, hp, fun p' a b => Nat.le_of_not_lt fun c => hx ⟨p', a, c, b⟩⟩
theorem sh_min {xs ys : List Int} {d : Nat} (hy : ys ≠ []) (h : IsSh ys d) : ∀ p', 1 ≤ p' → Per (sq xs ys) xs.length p' → d ≤ p' := by
  intro p' h1 hp
  refine Nat.le_of_not_lt fun hlt => ?_
  obtain ⟨p0, a, b, c, e⟩ := least_per p' h1 hp
  have hdl := h.dl
  exact h.mn p0 a (by omega) (per_gives a (by omega) (least_dvd (sq_per xs ys hy) c a e) c)
theorem emod_nat {a : Int} {d : Nat} (hd : 1 ≤ d) : ((a % (d : Int)).toNat : Int) = a % (d : Int) := Int.toNat_of_nonneg (Int.emod_nonneg _ (by omega))
/-- the edge that the cycle, continued backwards, has ahead of place k -/
theorem back_edge {xs ys : List Int} {d k : Nat} (hd : 1 ≤ d) (hdl : d ≤ ys.length) (hk : k < xs.length) (q : Per (sq xs ys) (k + 1) d) :
    (ys.take d).getD (((k : Int) - (xs.length : Int)) % (d : Int)).toNat 0 = sq xs ys (k + d) := by
  obtain ⟨j, hj⟩ : ∃ j, (((k : Int) - (xs.length : Int)) % (d : Int)).toNat = j := ⟨_, rfl⟩
  have e := emod_nat (a := (k : Int) - (xs.length : Int)) hd
  rw [hj] at e
  have hjd : j < d := by
    have := Int.emod_lt_of_pos ((k : Int) - (xs.length : Int)) (show (0 : Int) < (d : Int) by omega)
    omega
  rw [hj, getD_take hjd]
  have h1 : sq xs ys (xs.length + j) = ys.getD j 0 := by rw [sq_tail, Nat.mod_eq_of_lt (by omega)]
  rw [← h1]
  refine q.cong hd (by omega) (by omega) ?_
  have z : ((xs.length + j : Nat) : Int) % (d : Int) = ((k + d : Nat) : Int) % (d : Int) := by
    have e4 : (d : Int) * (((k : Int) - (xs.length : Int)) / (d : Int)) + ((k : Int) - (xs.length : Int)) % (d : Int) = (k : Int) - (xs.length : Int) := Int.mul_ediv_add_emod _ _
    have e5 : ((xs.length + j : Nat) : Int) = ((k + d : Nat) : Int) + (d : Int) * (-(((k : Int) - (xs.length : Int)) / (d : Int)) - 1) := by
      rw [Int.mul_sub, Int.mul_neg, Int.mul_one]
      push_cast
      omega
    rw [e5, Int.add_mul_emod_self_left]
  exact_mod_cast z
/-- the turned cycle is what follows place k -/
theorem rot_seg {xs ys : List Int} {d k : Nat} (hd : 1 ≤ d) (hdl : d ≤ ys.length) (hk : k ≤ xs.length) (q : Per (sq xs ys) k d) :
    rot (ys.take d) (((k : Int) - (xs.length : Int)) % (d : Int)).toNat = seg (sq xs ys) k d := by
  obtain ⟨j, hj⟩ : ∃ j, (((k : Int) - (xs.length : Int)) % (d : Int)).toNat = j := ⟨_, rfl⟩
  have e := emod_nat (a := (k : Int) - (xs.length : Int)) hd
  rw [hj] at e
  have hjd : j < d := by
    have := Int.emod_lt_of_pos ((k : Int) - (xs.length : Int)) (show (0 : Int) < (d : Int) by omega)
    omega
  have hl : (ys.take d).length = d := by
    rw [List.length_take]
    omega
  rw [hj]
  have hrl : (rot (ys.take d) j).length = d := by
    simp only [rot, List.length_append, List.length_drop, List.length_take]
    omega
  refine list_ext (by rw [hrl, seg_len]) fun t ht => ?_
  rw [hrl] at ht
  rw [seg_get _ _ _ _ ht]
  have h2 : (rot (ys.take d) j).getD t 0 = (ys.take d).getD ((j + t) % d) 0 := by
    unfold rot
    by_cases c : t < d - j
    · rw [Nat.mod_eq_of_lt (by omega)]
      simp only [List.getD]
      rw [List.getElem?_append_left (by rw [List.length_drop, hl]; omega), List.getElem?_drop]
    · have e3 : (j + t) % d = t - (d - j) := by
        rw [show j + t = (t - (d - j)) + d by omega, Nat.add_mod_right, Nat.mod_eq_of_lt (by omega)]
      rw [e3]
      simp only [List.getD]
      rw [List.getElem?_append_right (by rw [List.length_drop, hl]; omega), List.length_drop, hl, List.getElem?_take_of_lt (by omega)]
  have hm := Nat.mod_lt (j + t) hd
  rw [h2, getD_take hm]
  have h1 : sq xs ys (xs.length + (j + t) % d) = ys.getD ((j + t) % d) 0 := by rw [sq_tail, Nat.mod_eq_of_lt (by omega)]
  rw [← h1]
  refine q.cong hd (by omega) (by omega) ?_
  have z : ((xs.length + (j + t) : Nat) : Int) % (d : Int) = ((k + t : Nat) : Int) % (d : Int) := by
    push_cast
    rw [e, show (xs.length : Int) + (((k : Int) - (xs.length : Int)) % (d : Int) + (t : Int)) = ((k : Int) - (xs.length : Int)) % (d : Int) + ((xs.length : Int) + (t : Int)) by omega, Int.add_emod, Int.emod_emod_of_dvd _ (Int.dvd_refl _), ← Int.add_emod]
    congr 1
    omega
  have z2 : (xs.length + (j + t)) % d = (k + t) % d := by exact_mod_cast z
  rw [Nat.add_mod, Nat.mod_mod, ← Nat.add_mod]
  exact z2
theorem head_seg {xs ys : List Int} {k : Nat} (hk : k ≤ xs.length) : xs.take k = seg (sq xs ys) 0 k := by
  refine list_ext (by rw [seg_len, List.length_take]; omega) fun t ht => ?_
  rw [List.length_take] at ht
  rw [seg_get _ _ _ _ (by omega), getD_take (by omega), Nat.zero_add]
  unfold sq
  rw [if_pos (by omega)]
end Lw
set_option Elab.async false
set_option linter.all false
set_option maxRecDepth 100000
namespace Lw
open PySem L2
/-! ### rows -/
def RowAt (H : Hp) (r : Addr) (xs ys : List Int) : Prop := ∃ h c, H r = some (.tup [.ref h, .ref c]) ∧ TI H h xs ∧ TI H c ys
theorem RowAt.same {H H' : Hp} {r : Addr} {xs ys : List Int} (h : RowAt H r xs ys) (s : Same H H') : RowAt H' r xs ys := by
  obtain ⟨a, c, h1, h2, h3⟩ := h
  exact ⟨a, c, s _ _ h1, h2.same s, h3.same s⟩
def spNormal : Sp := fun vs H Q _ => ∃ (r : Addr) (xs ys : List Int), vs = [.ref r] ∧ RowAt H r xs ys ∧ ys ≠ [] ∧ xs.length ≤ 500 ∧ ys.length ≤ 500 ∧
  ∀ (r' : Addr) (H' : Hp) (m p : Nat), Same H H' → IsNF (sq xs ys) m p → m ≤ xs.length → p ≤ ys.length → RowAt H' r' (seg (sq xs ys) 0 m) (seg (sq xs ys) m p) → Q (.ref r') H'
def spEdgeAt (C : Addr) : Sp := fun vs H Q E => ∃ (r : Addr) (xs ys : List Int) (p : Int), vs = [.ref r, .int p] ∧ RowAt H r xs ys ∧ ys ≠ [] ∧ p.natAbs < 10 ^ 100 ∧
  (p < 0 → ∀ d, H d = none → E (.ref C) (some d) (upd H d (.xd (oorF p)))) ∧ (0 ≤ p → Q (.int (sq xs ys p.toNat)) H)
theorem int_at {xs : List Int} {j : Nat} (h : j < xs.length) : atI (xs.map V.int) (j : Int) = some (.int (xs.getD j 0)) := by
  refine atI_nat ?_
  rw [List.getElem?_map, List.getElem?_eq_getElem h]
  simp [List.getD, h]
section
variable {P : Program} {w : World} {K : PySem.W.Frag} {mg : Str → Option Value} {base : Heap}
theorem scNormal : FnScope ["row", "head", "long_cycle", "cycle", "kept"] ["row"] (defScope sNormal) := ⟨rfl, rfl, rfl, by decide +kernel, rfl, by decide +kernel, by decide +kernel⟩
set_option maxHeartbeats 4000000 in
theorem ok_normal {f : Addr} {fd : FuncData} {k : Nat} (F : Fun K "normal_row" "normal_row" sNormal f fd) (T : Bi mg) (cT : C8.Cal P w K mg base 1 "turned" spTurned []) (cS : C8.Cal P w K mg base 1 "shortest_cycle" spShort []) : FnOk P w K mg base CX0 (k + 2) f fd ["row"] spNormal := by
  refine F.ok scNormal (fun vs H Q E h => ?_) (fun cdv A outer s H vs Q E hr h => ?_)
  · obtain ⟨r, xs, ys, rfl, _⟩ := h
    rfl
  · obtain ⟨r, xs, ys, rfl, ⟨h, c, hrow, hh, hc⟩, hy, hlx, hly, q⟩ := h
    have hk : 1 ≤ k + 1 := Nat.le_add_left 1 k
    refine ⟨_, pss_cons (ps_asg (pv 0) (pg_tup rfl (pgs_cons (pg_name (i := 1) scNormal.nd rfl (Or.inl rfl)) (pgs_cons (pg_name (i := 2) scNormal.nd rfl (Or.inl rfl)) pgs_nil))))
      (pss_cons (ps_set (i := 3) scNormal.nd rfl (Or.inl rfl) (C8.pe_c cS hr hk (by rfl) (pa_cons (pv 2) pa_nil)))
      (pss_cons (ps_set (i := 4) scNormal.nd rfl (Or.inl rfl) (pe_callB call_len_seq (by rfl) T.len PySem.boot_len (pa_cons (pv 1) pa_nil)))
      (pss_cons (ps_while PassesOwn.never (PW.pt (pw_and (pt_cmpR op_gt (pv 4) pe_int (nomark _)) (pw_and1 (pt_cmpR op_eq (pe_ix ix_tup (pv 1) (pe_op op_sub (pv 4) pe_int) (fun _ _ => rfl))
          (pe_ix ix_tup (pv 3) (pe_op op_mod (pe_op op_sub (pe_op op_sub (pv 4) pe_int) (pe_callB call_len_seq (by rfl) T.len PySem.boot_len (pa_cons (pv 1) pa_nil))) (pe_callB call_len_seq (by rfl) T.len PySem.boot_len (pa_cons (pv 3) pa_nil))) (fun _ _ => rfl)) (nomark _)))))
        (pss_one (ps_aug (i := 4) scNormal.nd rfl (.inl rfl) pe_int ip_sub)))
      (pss_one (ps_ret (pe_tup (pa_cons (pe_slice sl_tupA (pv 1) po_none (po_some (pv 4))) (pa_cons (C8.pe_c cT hr hk (by rfl) (pa_cons (pv 3) (pa_cons (pe_op op_sub (pv 4) (pe_callB call_len_seq (by rfl) T.len PySem.boot_len (pa_cons (pv 1) pa_nil))) pa_nil))) pa_nil)))))))), ?_⟩
    refine ⟨_, rfl, r, _, rfl, SqT.of hrow, rfl, _, _, rfl, _, _, rfl, rfl, ?_⟩
    refine ⟨_, rfl, c, ys, rfl, hc, hy, hly, fun cy H1 d s1 hcy sh => ?_⟩
    have hh1 := hh.same s1
    have hdl := sh.dl
    have hd1 := sh.d1
    have ldl : ((ys.take d).map V.int).length = d := by
      rw [List.length_map, List.length_take]
      omega
    refine ⟨_, rfl, h, _, rfl, .inr (SqT.of hh1), ?_⟩
    rw [List.length_map]
    -- the while
    refine ⟨fun m σ H' => ∃ kp : Nat, m = kp ∧ σ = [some (.ref r), some (.ref h), some (.ref c), some (.ref cy), some (.int (kp : Int))] ∧ H' = H1 ∧ kp ≤ xs.length ∧ Per (sq xs ys) kp d, ⟨xs.length, xs.length, rfl, rfl, rfl, Nat.le_refl _, gives_per hd1 hdl sh.gv⟩, ?_⟩
    rintro kp σ H' ⟨_, rfl, rfl, rfl, hkp, per⟩
    have fin : (∀ m', Per (sq xs ys) m' d → kp ≤ m') → tRet (tTup (tCons (tSl (rSlA K) (tVar 1) tNoPart (tPart (tVar 4))) (tCons (tCall spTurned [] C8.E0 (tCons (tVar 3) (tCons (tOp (rI0 fun i j => .int (i - j)) (tVar 4) (tCB (fun xs H Q => ∃ p ys, xs = [.ref p] ∧ (SqL K H p ys ∨ SqT K H p ys) ∧ Q (.int ys.length) H) (tCons (tVar 1) tNil))) tNil))) tNil)))
        { nx := fun _ H' => Q .non H', rt := Q } [some (.ref r), some (.ref h), some (.ref c), some (.ref cy), some (.int (kp : Int))] H' := fun hmin => by
      refine ⟨_, rfl, _, rfl, _, rfl, slA hh1 fun r1 H2 s2 h2 => ?_⟩
      have h2' : TI H2 r1 (seg (sq xs ys) 0 kp) := by
        unfold TI
        rw [h2, cut_lo' (by rw [List.length_map]; exact hkp), ← List.map_take, head_seg hkp]
      refine ⟨_, rfl, _, rfl, _, rfl, h, _, rfl, .inr (SqT.of (hh1.same s2)), _, _, rfl, rfl, cy, _, ys.take d, rfl, hcy.same s2, ?_, ?_, fun r2 H3 s3 h3 => ?_⟩
      · intro z
        have := congrArg List.length z
        rw [List.length_take] at this
        have h0 : ([] : List Int).length = 0 := rfl
        omega
      · rw [List.length_take]
        omega
      rw [List.length_map] at h3
      have lt : (ys.take d).length = d := by
        rw [List.length_take]
        omega
      rw [lt, rot_seg hd1 hdl hkp per] at h3
      refine ⟨(by show 2 ≤ sizeLine; decide), fun p hp => ?_⟩
      have s4 := same_upd (o := .tup [.ref r1, .ref r2]) hp
      exact q p _ kp d (((s1.trans s2).trans s3).trans s4) (nf_of (sq_per xs ys hy) (by omega) hd1 (sh_min hy sh) per hmin) hkp hdl ⟨r1, r2, upd_same, (h2'.same s3).same s4, TI.same h3 s4⟩
    refine ⟨_, rfl, _, _, rfl, rfl, _, rfl, ?_⟩
    match kp, hkp, per, fin with
    | 0, hkp, per, fin =>
      refine if_f (decide_eq_false (by omega)) (iteF ?_)
      exact fin fun m' _ => Nat.zero_le _
    | kp + 1, hkp, per, fin =>
      refine if_t (decide_eq_true (by omega)) ?_
      have e1 : ((kp + 1 : Nat) : Int) - 1 = (kp : Int) := by omega
      have i1 : atI (xs.map V.int) (((kp + 1 : Nat) : Int) - 1) = some (.int (xs.getD kp 0)) := by
        rw [e1]
        exact int_at (by omega)
      have dpos : (0 : Int) < (((ys.take d).map V.int).length : Int) := by
        rw [ldl]
        omega
      obtain ⟨j, hj⟩ : ∃ j : Nat, (((kp : Int) - (xs.length : Int)) % (d : Int)).toNat = j := ⟨_, rfl⟩
      have ej := emod_nat (a := (kp : Int) - (xs.length : Int)) hd1
      rw [hj] at ej
      have hjd : j < d := by
        have := Int.emod_lt_of_pos ((kp : Int) - (xs.length : Int)) (show (0 : Int) < (d : Int) by omega)
        omega
      have i2 : atI ((ys.take d).map V.int) ((((kp + 1 : Nat) : Int) - 1 - ((xs.map V.int).length : Int)) % (((ys.take d).map V.int).length : Int)) = some (.int ((ys.take d).getD j 0)) := by
        rw [e1, ldl, List.length_map, ← ej]
        exact int_at (by rw [List.length_take]; omega)
      have hb := back_edge (xs := xs) (ys := ys) (d := d) (k := kp) hd1 hdl (by omega) per
      rw [hj] at hb
      refine ⟨_, rfl, _, rfl, _, _, rfl, rfl, h, _, _, _, rfl, rfl, SqT.of hh1, i1, _, rfl, _, rfl, _, _, rfl, rfl, _, rfl, h, _, rfl, .inr (SqT.of hh1), _, _, rfl, rfl, _, rfl, cy, _, rfl, .inr (SqT.of hcy), _, _, rfl, rfl, dpos, cy, _, _, _, rfl, rfl, SqT.of hcy, i2, rfl, _, rfl, ?_⟩
      have hs : sq xs ys kp = xs.getD kp 0 := by
        unfold sq
        rw [if_pos (by omega)]
      by_cases hx : sq xs ys kp = sq xs ys (kp + d)
      · refine if_t (decide_eq_true (by rw [hb, ← hx, hs])) ?_
        refine ⟨fun σ' H'' => ∃ kp', kp' < kp + 1 ∧ σ' = [some (.ref r), some (.ref h), some (.ref c), some (.ref cy), some (.int (kp' : Int))] ∧ H'' = H' ∧ kp' ≤ xs.length ∧ Per (sq xs ys) kp' d, fun σ' H'' z => ?_, ?_⟩
        · obtain ⟨kp', a1, a2, a3, a4, a5⟩ := z
          exact ⟨kp', a1, kp', rfl, a2, a3, a4, a5⟩
        · refine ⟨_, rfl, _, _, rfl, rfl, kp, by omega, ?_, rfl, by omega, fun i hi => ?_⟩
          · show [some (V.ref r), some (V.ref h), some (V.ref c), some (V.ref cy), some (V.int (((kp + 1 : Nat) : Int) - 1))] = _
            rw [e1]
          · by_cases hi2 : i = kp
            · rw [hi2]
              exact hx
            · exact per i (by omega)
      · refine if_f (decide_eq_false (fun z => hx ?_)) ?_
        · injection z with z
          rw [hs, ← hb]
          exact z
        · refine fin fun m' hm' => ?_
          refine Nat.le_of_not_lt fun hlt => hx (hm' kp (by omega))
end
end Lw
set_option Elab.async false
set_option linter.all false
set_option maxRecDepth 100000
/-! a tuple times 1 is the tuple itself -/
namespace Lw
open PySem PySem.Spec PyProof.Rows L2
open AutoSeq1 (wpAny_loadPart')
theorem mul_one (l : Addr) (items : Array Value) (n : Nat) (dd : Option Addr) (sl : Array (Option Value)) (u : Tok) :
    Meets (Builtin.«tuple.__mul__» ⟨[.ref l, .int 1 u], []⟩) (fun _ R s => s.heap.get? l = some { cls := .type "tuple", dict := dd, data := .seq items n, slots := sl } ∧ R (.ok (.ret (Value.ref l))) s) :=
  .of_wp fun prog w A R s h => by
    obtain ⟨hp, g, d, tk, os⟩ := s
    obtain ⟨hl, h⟩ := h
    have f1 := AutoSeq1.idx_int
    wp_walk using wpAny_loadPart' hl
    exact ⟨_, rfl, h⟩
section
variable {X : Cx}
def rRepA (K : PySem.W.Frag) : R2 := fun x y H Q => ∃ l k xs, x = .ref l ∧ y = .int k ∧ SqT K H l xs ∧ xs ≠ [] ∧ 1 ≤ k ∧ k ≤ 1000 ∧ xs.length ≤ 1000 ∧ (k = 1 → Q (.ref l) H) ∧ (2 ≤ k → ∀ p, H p = none → Q (.ref p) (upd H p (.tup (List.replicate k.toNat xs).flatten)))
theorem op_repA : OpR X (binaryOp .Mult) (rRepA X.K) := by
  intro pins s σ H x y v u Q I rx ry h
  obtain ⟨l, k, xs, rfl, rfl, hT, hne, h1, h2, hz, q1, q2⟩ := h
  by_cases hk : k = 1
  · subst hk
    cases rx
    obtain ⟨t, rfl⟩ := ry
    obtain ⟨its, r, ⟨⟨cls, dd, data, sl⟩, ho, hc, n, hd⟩, hs⟩ := I.tuple hT
    simp only at hc hd
    subst hc hd
    exact wpAny_binaryOp_repeat_ref (T := "tuple") (U := "int") (by decide) ⟨_, ho, rfl⟩ (fun s' => typeIs_int s' 1 t) noFill_tuple_mul PySem.F.fills_int_mul PySem.F.slot_int_rmul repeat_tuple PySem.F.slot_int_index.lookup
      (call_meets PySem.F.slot_int_rmul (typeIs_int s 1 t) PySem.F.entry_int_rmul (PySem.F.args_int_rmul_2 _ _) (int_rmul_tuple 1 t l its.toArray n dd sl)
        ⟨ho, rfl, ⟨_, ho, rfl⟩, call_meets PySem.F.slot_tuple_mul ⟨_, ho, rfl⟩ PySem.F.entry_tuple_mul (PySem.F.args_tuple_mul_2 _ _) (mul_one l its.toArray n dd sl t) ⟨ho, .ref l, H, I, rfl, q1 rfl⟩⟩)
  · exact op_repT pins s σ H _ _ v u Q I rx ry ⟨l, k, xs, rfl, rfl, hT, hne, by omega, h2, hz, q2 (by omega)⟩
end
end Lw
set_option Elab.async false
set_option linter.all false
set_option maxRecDepth 100000
namespace Lw
open PySem L2
abbrev sLEdge : Stmt := top 16
abbrev sLFirst : Stmt := top 17
abbrev sUnr : Stmt := top 18
def spLEdge : Sp := fun vs H Q _ => ∃ (r : Addr) (xs ys : List Int) (p : Int), vs = [.ref r, .int p] ∧ RowAt H r xs ys ∧ ys ≠ [] ∧ 0 ≤ p ∧ Q (.int (sq xs ys p.toNat)) H
def spLFirst : Sp := fun vs H Q _ => ∃ (r : Addr) (xs ys : List Int) (n : Nat), vs = [.ref r, .int (n : Int)] ∧ RowAt H r xs ys ∧ ys ≠ [] ∧ n ≤ 500 ∧ ∀ t H', Same H H' → TI H' t (seg (sq xs ys) 0 n) → Q (.ref t) H'
section
variable {P : Program} {w : World} {K : PySem.W.Frag} {mg : Str → Option Value} {base : Heap}
/-! ### edge_at -/
theorem scEdgeAt : FnScope ["row", "place", "head", "cycle"] ["row", "place"] (defScope sEdgeAt) := ⟨rfl, rfl, rfl, by decide +kernel, rfl, by decide +kernel, by decide +kernel⟩
theorem len_pos' {ys : List Int} (h : ys ≠ []) : 0 < ys.length := List.length_pos_iff.mpr h
/-- the place in the cycle -/
theorem cyc_at {xs ys : List Int} {p : Int} (hy : ys ≠ []) (h0 : 0 ≤ p) (h : ¬ p < (xs.length : Int)) :
    atI (ys.map V.int) ((p - ((xs.map V.int).length : Int)) % ((ys.map V.int).length : Int)) = some (.int (sq xs ys p.toNat)) := by
  have hl := len_pos' hy
  rw [List.length_map, List.length_map]
  have e1 : p = ((p.toNat : Nat) : Int) := (Int.toNat_of_nonneg h0).symm
  have e2 : (p - (xs.length : Int)) % (ys.length : Int) = (((p.toNat - xs.length) % ys.length : Nat) : Int) := by
    rw [show p - (xs.length : Int) = ((p.toNat - xs.length : Nat) : Int) by omega]
    rfl
  rw [e2, int_at (Nat.mod_lt _ hl)]
  unfold sq
  rw [if_neg (by omega)]
theorem head_at {xs ys : List Int} {p : Int} (h0 : 0 ≤ p) (h : p < (xs.length : Int)) : atI (xs.map V.int) p = some (.int (sq xs ys p.toNat)) := by
  have e1 : p = ((p.toNat : Nat) : Int) := (Int.toNat_of_nonneg h0).symm
  rw [e1, int_at (by omega), Int.toNat_natCast]
  unfold sq
  rw [if_pos (by omega)]
set_option maxHeartbeats 4000000 in
theorem ok_edgeAt {f C fI : Addr} {fd fdI : FuncData} {k : Nat} (F : Fun K "edge_at" "edge_at" sEdgeAt f fd) (T : Bi mg) (TO : OexC K C) (mO : mg "OutOfRange" = some (.ref C)) (iC : PySem.W.findIn K (.ref C) "__init__" = some (some (.ref fI))) (tI : PySem.W.typeIn K (.ref fI) = some (.type "function"))
    (FI : FnOk P w K mg base CX0 2 fI fdI ["self", "number"] (spOor K C)) (bI : Binds K fdI ["self", "number"] []) : FnOk P w K mg base (L2.CX P w) (k + 4) f fd ["row", "place"] (spEdgeAt C) := by
  refine F.okX scEdgeAt (fun vs H Q E h => ?_) (fun cdv A outer s H vs Q E hr h => ?_)
  · obtain ⟨r, xs, ys, p, rfl, _⟩ := h
    rfl
  · obtain ⟨r, xs, ys, p, rfl, ⟨h, c, hrow, hh, hc⟩, hy, hp, kE, kQ⟩ := h
    refine ⟨_, pss_cons (ps_if (pt_cmpR op_lt (pv 1) pe_int (nomark _)) (pss_one (ps_raise rfl (takes_of rfl rfl rfl rfl) (pmk_oex TO iC tI FI (hr.mono (by omega)) bI .nil pass0 (by rfl) mO (pa_cons (pv 1) pa_nil)))) pss_nil)
      (pss_cons (ps_asg (pv 0) (pg_tup rfl (pgs_cons (pg_name (i := 2) scEdgeAt.nd rfl (Or.inl rfl)) (pgs_cons (pg_name (i := 3) scEdgeAt.nd rfl (Or.inl rfl)) pgs_nil))))
      (pss_cons (ps_if (pt_cmpR op_lt (pv 1) (pe_callB call_len_seq (by rfl) T.len PySem.boot_len (pa_cons (pv 2) pa_nil)) (nomark _)) (pss_one (ps_ret (pe_ix ix_tup (pv 2) (pv 1) (fun _ _ => rfl)))) pss_nil)
      (pss_one (ps_ret (pe_ix ix_tup (pv 3) (pe_op op_mod (pe_op op_sub (pv 1) (pe_callB call_len_seq (by rfl) T.len PySem.boot_len (pa_cons (pv 2) pa_nil))) (pe_callB call_len_seq (by rfl) T.len PySem.boot_len (pa_cons (pv 3) pa_nil))) (fun _ _ => rfl)))))), ?_⟩
    refine ⟨_, rfl, _, _, rfl, rfl, _, rfl, ?_⟩
    by_cases hneg : p < 0
    · refine if_t (decide_eq_true hneg) ?_
      refine ⟨_, rfl, (by show 1 ≤ 1000; decide), fun a na => ⟨a, p, rfl, hp, upd_same, fun d hd ne => ⟨rfl, d, _, ?_, upd_same, ?_, ?_⟩⟩⟩
      · rw [upd_ne ne.symm]
        exact upd_same
      · rw [upd_ne ne] at hd
        exact hd
      · have hd' : H d = none := by
          rw [upd_ne ne] at hd
          exact hd
        have e : upd (del (upd (upd (upd (upd H a (exo a C none)) d (exd d [("word", .str "outofrange")])) a (exo a C (some d))) d (exd d [("number", .int p), ("word", .str "outofrange")])) a) d (.xd [("number", .int p), ("word", .str "outofrange")]) = upd H d (.xd (oorF p)) := by
          funext x
          by_cases e1 : x = d
          · subst e1
            rw [upd_same, upd_same]
            rfl
          · rw [upd_ne e1, upd_ne e1]
            by_cases e2 : x = a
            · subst e2
              rw [del_same, na]
            · rw [del_ne e2, upd_ne e1, upd_ne e2, upd_ne e1, upd_ne e2]
        rw [e]
        exact kE hneg d hd'
    · refine if_f (decide_eq_false hneg) ?_
      have h0 : 0 ≤ p := by omega
      have hl := len_pos' hy
      refine ⟨_, rfl, r, _, rfl, SqT.of hrow, rfl, _, _, rfl, _, _, rfl, rfl, ?_⟩
      refine ⟨_, rfl, _, rfl, h, _, rfl, .inr (SqT.of hh), _, _, rfl, rfl, _, rfl, ?_⟩
      by_cases hlt : p < (xs.length : Int)
      · refine if_t (decide_eq_true (by rw [List.length_map]; exact hlt)) ?_
        exact ⟨_, rfl, _, rfl, h, _, _, _, rfl, rfl, SqT.of hh, head_at h0 hlt, kQ h0⟩
      · refine if_f (decide_eq_false (by rw [List.length_map]; exact hlt)) ?_
        exact ⟨_, rfl, _, rfl, _, rfl, h, _, rfl, .inr (SqT.of hh), _, _, rfl, rfl, _, rfl, c, _, rfl, .inr (SqT.of hc), _, _, rfl, rfl, (by show (0 : Int) < ((ys.map V.int).length : Int); rw [List.length_map]; omega), c, _, _, _, rfl, rfl, SqT.of hc, cyc_at hy h0 hlt, kQ h0⟩
/-! ### _law_edge, _law_first -/
theorem scLEdge : FnScope ["_law_row", "_law_at", "_law_head", "_law_cycle"] ["_law_row", "_law_at"] (defScope sLEdge) := ⟨rfl, rfl, rfl, by decide +kernel, rfl, by decide +kernel, by decide +kernel⟩
theorem ok_ledge {f : Addr} {fd : FuncData} {k : Nat} (F : Fun K "_law_edge" "_law_edge" sLEdge f fd) (T : Bi mg) : FnOk P w K mg base CX0 (k + 1) f fd ["_law_row", "_law_at"] spLEdge := by
  refine F.ok scLEdge (fun vs H Q E h => ?_) (fun cdv A outer s H vs Q E hr h => ?_)
  · obtain ⟨r, xs, ys, p, rfl, _⟩ := h
    rfl
  · obtain ⟨r, xs, ys, p, rfl, ⟨h, c, hrow, hh, hc⟩, hy, h0, kQ⟩ := h
    have hl := len_pos' hy
    refine ⟨_, pss_cons (ps_asg (pv 0) (pg_tup rfl (pgs_cons (pg_name (i := 2) scLEdge.nd rfl (Or.inl rfl)) (pgs_cons (pg_name (i := 3) scLEdge.nd rfl (Or.inl rfl)) pgs_nil))))
      (pss_one (ps_ret (pe_ifExp (pt_cmpR op_lt (pv 1) (pe_callB call_len_seq (by rfl) T.len PySem.boot_len (pa_cons (pv 2) pa_nil)) (nomark _)) (pe_ix ix_tup (pv 2) (pv 1) (fun _ _ => rfl))
        (pe_ix ix_tup (pv 3) (pe_op op_mod (pe_op op_sub (pv 1) (pe_callB call_len_seq (by rfl) T.len PySem.boot_len (pa_cons (pv 2) pa_nil))) (pe_callB call_len_seq (by rfl) T.len PySem.boot_len (pa_cons (pv 3) pa_nil))) (fun _ _ => rfl))))), ?_⟩
    refine ⟨_, rfl, r, _, rfl, SqT.of hrow, rfl, _, _, rfl, _, _, rfl, rfl, ?_⟩
    refine ⟨_, rfl, _, rfl, h, _, rfl, .inr (SqT.of hh), _, _, rfl, rfl, _, rfl, ?_⟩
    by_cases hlt : p < (xs.length : Int)
    · refine if_t (decide_eq_true (by rw [List.length_map]; exact hlt)) ?_
      exact ⟨_, rfl, _, rfl, h, _, _, _, rfl, rfl, SqT.of hh, head_at h0 hlt, kQ⟩
    · refine if_f (decide_eq_false (by rw [List.length_map]; exact hlt)) ?_
      exact ⟨_, rfl, _, rfl, _, rfl, h, _, rfl, .inr (SqT.of hh), _, _, rfl, rfl, _, rfl, c, _, rfl, .inr (SqT.of hc), _, _, rfl, rfl, (by show (0 : Int) < ((ys.map V.int).length : Int); rw [List.length_map]; omega), c, _, _, _, rfl, rfl, SqT.of hc, cyc_at hy h0 hlt, kQ⟩
theorem scLFirst : FnScope ["_law_row", "_law_size", "_law_at"] ["_law_row", "_law_size"] (defScope sLFirst) := ⟨rfl, rfl, rfl, by decide +kernel, rfl, by decide +kernel, by decide +kernel⟩
theorem seg_succ (s : Nat → Int) (m n : Nat) : seg s m (n + 1) = seg s m n ++ [s (m + n)] := by
  unfold seg
  rw [List.range_succ, List.map_append]
  rfl
set_option maxHeartbeats 4000000 in
theorem ok_lfirst {f : Addr} {fd : FuncData} {k : Nat} (F : Fun K "_law_first" "_law_first" sLFirst f fd) (T : Bi mg) (cE : C8.Cal P w K mg base 1 "_law_edge" spLEdge []) : FnOk P w K mg base CX0 (k + 2) f fd ["_law_row", "_law_size"] spLFirst := by
  refine F.ok scLFirst (fun vs H Q E h => ?_) (fun cdv A outer s H vs Q E hr h => ?_)
  · obtain ⟨r, xs, ys, n, rfl, _⟩ := h
    rfl
  · obtain ⟨r, xs, ys, n, rfl, hrow, hy, hn, q⟩ := h
    refine ⟨_, pss_one (ps_ret (pe_callTy call_tuple_of (by rfl) T.tuple (by decide +kernel) (pa_cons
        (pe_lc (own := [("_law_at", 2)]) (g := gName 2) (tt := tYes) (te := tCall spLEdge [] E0 (tCons (tVar 0) (tCons (tVar 2) tNil))) rfl scLFirst.nd (pi_range1 (by rfl) T.range (pa_cons (pv 1) pa_nil))
          (blkOk_by (N := ["_law_row", "_law_size", "_law_at"]) (sc := defScope sLFirst) (by decide +kernel))
          (fun _ _ _ _ _ => by exact pg_name (i := 2) scLFirst.nd rfl (Or.inl rfl))
          (fun _ _ _ _ _ => pts_nil)
          (fun _ _ _ _ _ => by exact C8.pe_c cE hr (Nat.le_add_left 1 k) (by rfl) (pa_cons (pv 0) (pa_cons (pv 2) pa_nil)))) pa_nil))), ?_⟩
    refine ⟨_, rfl, (n : Int), rfl, by omega, by omega, fun D hD => ?_⟩
    refine lc_it (walk_range (lo := 0) (n := ((n : Int)).toNat)) (fun i H' => Same H H' ∧ H' D = some (.lst ((seg (sq xs ys) 0 i).map V.int))) ⟨same_upd hD, upd_same⟩ (fun _ _ _ _ => True.intro) ?_ ?_
    · rintro i x H1 H' hi ⟨sm, eD⟩ ⟨rfl, rfl⟩
      refine ⟨rfl, ?_⟩
      refine ⟨_, rfl, _, rfl, r, xs, ys, _, rfl, hrow.same sm, hy, (by show (0 : Int) ≤ 0 + (i : Int); omega), _, eD, ?_, ?_, ?_⟩
      · rw [List.length_map, seg_len]
        exact small1000 (by omega)
      · intro b o e
        rw [upd_ne (ne_of_none e hD)]
        exact sm _ _ e
      · rw [upd_same, seg_succ, List.map_append]
        show _ = some (HO.lst (_ ++ [V.int (sq xs ys (0 + i))]))
        rw [show (0 + (i : Int)).toNat = 0 + i by omega]
    · rintro H1 ⟨sm, eD⟩
      refine ⟨D, _, rfl, .inl ⟨SqL.of eD, fun t ht => ?_⟩⟩
      refine q t _ (sm.trans (same_upd ht)) ?_
      unfold TI
      rw [upd_same]
      rfl
end
end Lw
set_option Elab.async false
set_option linter.all false
set_option maxRecDepth 100000
namespace Lw
open PySem L2
/-- all that stood, but at b, stands -/
def KeepB (b : Addr) (H H' : Hp) : Prop := ∀ c o, c ≠ b → H c = some o → H' c = some o
theorem KeepB.trans {b : Addr} {H H1 H2 : Hp} (x : KeepB b H H1) (y : KeepB b H1 H2) : KeepB b H H2 := fun c o n e => y c o n (x c o n e)
theorem KeepB.of_same {b : Addr} {H H' : Hp} (s : Same H H') : KeepB b H H' := fun c o _ e => s c o e
theorem KeepB.updb {b : Addr} {H : Hp} {o : HO} : KeepB b H (upd H b o) := fun c o n e => by
  rw [upd_ne n]
  exact e
theorem BagAt.at_b {H : Hp} {b l : Addr} {ns : List Int} (B : BagAt H b l ns) : ∃ xs, H b = some (.lst xs) := by
  obtain ⟨o, ho, i, r, s, rfl, _⟩ := B.ob
  exact ⟨_, ho⟩
theorem BagAt.ne_tup {H : Hp} {b l c : Addr} {ns : List Int} {xs : List V} (B : BagAt H b l ns) (h : H c = some (.tup xs)) : c ≠ b := fun e => by
  obtain ⟨ys, hb⟩ := B.at_b
  rw [e, hb] at h
  cases h
theorem BagAt.ne_new {H : Hp} {b l c : Addr} {ns : List Int} (B : BagAt H b l ns) (h : H c = none) : c ≠ b := fun e => by
  obtain ⟨ys, hb⟩ := B.at_b
  rw [e, hb] at h
  cases h
theorem TI.keep {H H' : Hp} {b l a : Addr} {ns xs : List Int} (h : TI H a xs) (B : BagAt H b l ns) (k : KeepB b H H') : TI H' a xs := k _ _ (B.ne_tup h) h
theorem RowAt.keep {H H' : Hp} {b l r : Addr} {ns xs ys : List Int} (h : RowAt H r xs ys) (B : BagAt H b l ns) (k : KeepB b H H') : RowAt H' r xs ys := by
  obtain ⟨a, c, h1, h2, h3⟩ := h
  exact ⟨a, c, k _ _ (B.ne_tup h1) h1, h2.keep B k, h3.keep B k⟩
/-! ### other forms of a row -/
theorem rot_len (ys : List Int) (t : Nat) : (rot ys t).length = ys.length := by
  simp only [rot, List.length_append, List.length_drop, List.length_take]
  omega
theorem rot_get {ys : List Int} {t j : Nat} (ht : t < ys.length) (hj : j < ys.length) : (rot ys t).getD j 0 = ys.getD ((t + j) % ys.length) 0 := by
  unfold rot
  by_cases c : j < ys.length - t
  · rw [Nat.mod_eq_of_lt (by omega)]
    simp only [List.getD]
    rw [List.getElem?_append_left (by rw [List.length_drop]; omega), List.getElem?_drop]
  · have e3 : (t + j) % ys.length = j - (ys.length - t) := by
      rw [show t + j = (j - (ys.length - t)) + ys.length by omega, Nat.add_mod_right, Nat.mod_eq_of_lt (by omega)]
    rw [e3]
    simp only [List.getD]
    rw [List.getElem?_append_right (by rw [List.length_drop]; omega), List.length_drop, List.getElem?_take_of_lt (by omega)]
theorem rep_len (l : List Int) (k : Nat) : ((List.replicate k l).flatten).length = k * l.length := by
  rw [List.length_flatten, List.map_replicate, List.sum_replicate_nat]
theorem sq_unr {xs ys : List Int} {more k : Nat} (hy : ys ≠ []) (hk : 1 ≤ k) : sq (xs ++ seg (sq [] ys) 0 more) ((List.replicate k (rot ys (more % ys.length))).flatten) = sq xs ys := by
  have hn := len_pos' hy
  funext i
  have hl : (xs ++ seg (sq [] ys) 0 more).length = xs.length + more := by rw [List.length_append, seg_len]
  have e : sq (xs ++ seg (sq [] ys) 0 more) ((List.replicate k (rot ys (more % ys.length))).flatten) i = if i < xs.length + more then (xs ++ seg (sq [] ys) 0 more).getD i 0 else ((List.replicate k (rot ys (more % ys.length))).flatten).getD ((i - (xs.length + more)) % (k * ys.length)) 0 := by
    show (if i < (xs ++ seg (sq [] ys) 0 more).length then (xs ++ seg (sq [] ys) 0 more).getD i 0 else ((List.replicate k (rot ys (more % ys.length))).flatten).getD ((i - (xs ++ seg (sq [] ys) 0 more).length) % ((List.replicate k (rot ys (more % ys.length))).flatten).length) 0) = _
    rw [hl, rep_len, rot_len]
  rw [e]
  by_cases h1 : i < xs.length
  · rw [if_pos (by omega)]
    have e2 : sq xs ys i = xs.getD i 0 := by
      unfold sq
      rw [if_pos h1]
    rw [e2]
    simp only [List.getD]
    rw [List.getElem?_append_left h1]
  · have e2 : sq xs ys i = ys.getD ((i - xs.length) % ys.length) 0 := by
      unfold sq
      rw [if_neg h1]
    rw [e2]
    by_cases h2 : i < xs.length + more
    · rw [if_pos h2]
      simp only [List.getD]
      rw [List.getElem?_append_right (by omega), seg_get? _ _ _ _ (by omega)]
      show sq [] ys (0 + (i - xs.length)) = _
      unfold sq
      simp [List.getD]
    · rw [if_neg h2]
      have hm := Nat.mod_lt (i - (xs.length + more)) (show 0 < k * ys.length from Nat.mul_pos hk hn)
      rw [rep_get _ (by rw [rot_len]; exact hn) _ _ (by rw [rot_len]; exact hm), rot_len, Nat.mod_mul_left_mod, rot_get (Nat.mod_lt _ hn) (Nat.mod_lt _ hn), ← Nat.add_mod]
      congr 2
      omega
def spUnr : Sp := fun vs H Q _ => ∃ (b l r : Addr) (ns xs ys : List Int), vs = [.ref b, .ref r] ∧ BagAt H b l ns ∧ RowAt H r xs ys ∧ ys ≠ [] ∧ xs.length ≤ 100 ∧ ys.length ≤ 100 ∧
  ∀ (r' : Addr) (H' : Hp) (xs' ys' : List Int), KeepB b H H' → BagAt H' b l ns → RowAt H' r' xs' ys' → sq xs' ys' = sq xs ys → ys' ≠ [] → xs'.length ≤ 200 → ys'.length ≤ 300 → Q (.ref r') H'
section
variable {P : Program} {w : World} {K : PySem.W.Frag} {mg : Str → Option Value} {base : Heap}
theorem scUnr : FnScope ["_law_bag_here", "_law_row", "_law_head", "_law_cycle", "_law_more", "_law_turn"] ["_law_bag_here", "_law_row"] (defScope sUnr) := ⟨rfl, rfl, rfl, by decide +kernel, rfl, by decide +kernel, by decide +kernel⟩
set_option maxHeartbeats 4000000 in
theorem ok_unr {f : Addr} {fd : FuncData} {k : Nat} (F : Fun K "_law_unrolled" "_law_unrolled" sUnr f fd) (T : Bi mg) (cP : C8.Cal P w K mg base 1 "_law_pull" spPull []) (cF : C8.Cal P w K mg base 2 "_law_first" spLFirst []) : FnOk P w K mg base CX0 (k + 3) f fd ["_law_bag_here", "_law_row"] spUnr := by
  refine F.ok scUnr (fun vs H Q E h => ?_) (fun cdv A outer s H vs Q E hr h => ?_)
  · obtain ⟨b, l, r, ns, xs, ys, rfl, _⟩ := h
    rfl
  · obtain ⟨b, l, r, ns, xs, ys, rfl, B, ⟨h, c, hrow, hh, hc⟩, hy, hlx, hly, q⟩ := h
    have hn := len_pos' hy
    refine ⟨_, pss_cons (ps_asg (pv 1) (pg_tup rfl (pgs_cons (pg_name (i := 2) scUnr.nd rfl (Or.inl rfl)) (pgs_cons (pg_name (i := 3) scUnr.nd rfl (Or.inl rfl)) pgs_nil))))
      (pss_cons (ps_set (i := 4) scUnr.nd rfl (Or.inl rfl) (C8.pe_c cP hr (by omega) (by rfl) (pa_cons (pv 0) (pa_cons pe_int pa_nil))))
      (pss_cons (ps_set (i := 2) scUnr.nd rfl (Or.inl rfl) (pe_op op_catA (pv 2) (C8.pe_c cF hr (by omega) (by rfl) (pa_cons (pe_tup (pa_cons (pe_tup pa_nil) (pa_cons (pv 3) pa_nil))) (pa_cons (pv 4) pa_nil)))))
      (pss_cons (ps_set (i := 5) scUnr.nd rfl (Or.inl rfl) (pe_op op_mod (pv 4) (pe_callB call_len_seq (by rfl) T.len PySem.boot_len (pa_cons (pv 3) pa_nil))))
      (pss_one (ps_ret (pe_tup (pa_cons (pv 2) (pa_cons (pe_op op_repA (pe_op op_catA (pe_slice sl_tupA (pv 3) (po_some (pv 5)) po_none) (pe_slice sl_tupA (pv 3) po_none (po_some (pv 5)))) (pe_op op_add pe_int (C8.pe_c cP hr (by omega) (by rfl) (pa_cons (pv 0) (pa_cons pe_int pa_nil))))) pa_nil)))))))), ?_⟩
    refine ⟨_, rfl, r, _, rfl, SqT.of hrow, rfl, _, _, rfl, _, _, rfl, rfl, ?_⟩
    refine ⟨_, rfl, b, l, ns, 3, rfl, B, by decide, by decide, fun v o v0 v1 BO => ?_⟩
    obtain ⟨more, rfl⟩ : ∃ more : Nat, v = (more : Int) := ⟨v.toNat, (Int.toNat_of_nonneg v0).symm⟩
    have B1 := B.upd BO
    have k1 : KeepB b H (upd H b o) := .updb
    have hh1 := hh.keep B k1
    have hc1 := hc.keep B k1
    generalize upd H b o = H1 at *
    -- head + first(((), cycle), more)
    refine ⟨_, rfl, (by show 0 ≤ sizeLine; decide), fun e0 he0 => ?_⟩
    have s2 := same_upd (o := .tup []) he0
    have e2 : upd H1 e0 (.tup []) e0 = some (.tup []) := upd_same
    generalize upd H1 e0 (.tup []) = H2 at *
    refine ⟨_, rfl, (by show 2 ≤ sizeLine; decide), fun rr hrr => ?_⟩
    have s3 := same_upd (o := .tup [.ref e0, .ref c]) hrr
    have e3 : upd H2 rr (.tup [.ref e0, .ref c]) rr = some (.tup [.ref e0, .ref c]) := upd_same
    generalize upd H2 rr (.tup [.ref e0, .ref c]) = H3 at *
    have s23 := s2.trans s3
    refine ⟨_, rfl, rr, [], ys, more, rfl, ⟨e0, c, e3, s3 _ _ e2, hc1.same s23⟩, hy, by omega, fun t H4 s4 ht => ?_⟩
    have s234 := s23.trans s4
    refine catA (hh1.same s234) ht (by rw [List.length_map, List.length_map, seg_len]; omega) fun h5 H5 s5 e5 => ?_
    have s5' := s234.trans s5
    have hd5 : TI H5 h5 (xs ++ seg (sq [] ys) 0 more) := by
      unfold TI
      rw [e5, List.map_append]
    have c5 := hc1.same s5'
    have B5 := B1.same s5'
    -- turn
    refine ⟨_, rfl, _, rfl, c, _, rfl, .inr (SqT.of c5), _, _, rfl, rfl, (by show (0 : Int) < ((ys.map V.int).length : Int); rw [List.length_map]; omega), ?_⟩
    have ej : (more : Int) % ((ys.map V.int).length : Int) = ((more % ys.length : Nat) : Int) := by
      rw [List.length_map]
      rfl
    have htl := Nat.mod_lt more hn
    have jl : more % ys.length ≤ (ys.map V.int).length := by
      rw [List.length_map]
      omega
    refine ⟨_, rfl, _, rfl, _, rfl, _, rfl, ?_⟩
    dsimp only [tNoPart]
    refine slA c5 fun r1 H6 s6 h6 => ?_
    refine ⟨_, rfl, _, rfl, _, rfl, slA (c5.same s6) fun r2 H7 s7 h7 => ?_⟩
    have h6' : H6 r1 = some (.tup ((ys.drop (more % ys.length)).map V.int)) := by
      rw [h6, ej, cut_hi' jl, List.map_drop]
    have h7' : H7 r2 = some (.tup ((ys.take (more % ys.length)).map V.int)) := by
      rw [h7, ej, cut_lo' jl, List.map_take]
    refine catA (s7 _ _ h6') h7' (by simp; omega) fun r3 H8 s8 h8 => ?_
    have h8' : TI H8 r3 (rot ys (more % ys.length)) := by
      unfold TI rot
      rw [h8, List.map_append]
    have s8' := (s6.trans s7).trans s8
    have B8 := B5.same s8'
    refine ⟨_, rfl, b, l, ns, 2, rfl, B8, by decide, by decide, fun v2 o2 v20 v21 BO2 => ?_⟩
    have B9 := B8.upd BO2
    have k9 : KeepB b H8 (upd H8 b o2) := .updb
    have h9 := h8'.keep B8 k9
    have hd9 := (hd5.same s8').keep B8 k9
    have kk : KeepB b H (upd H8 b o2) := (k1.trans (.of_same (s5'.trans s8'))).trans k9
    generalize upd H8 b o2 = H9 at *
    have rne : rot ys (more % ys.length) ≠ [] := fun z => by
      have := congrArg List.length z
      rw [rot_len] at this
      have h0 : ([] : List Int).length = 0 := rfl
      omega
    have fin : ∀ (r4 : Addr) (H10 : Hp) (kq : Nat), 1 ≤ kq → kq ≤ 2 → Same H9 H10 → TI H10 r4 ((List.replicate kq (rot ys (more % ys.length))).flatten) → [V.ref h5, V.ref r4].length ≤ sizeLine ∧ ∀ p, H10 p = none → Q (.ref p) (upd H10 p (.tup [.ref h5, .ref r4])) := fun r4 H10 kq a1 a2 s10 e10 => by
      refine ⟨(by show 2 ≤ sizeLine; decide), fun p hp => ?_⟩
      have s11 := same_upd (o := .tup [.ref h5, .ref r4]) hp
      have ll : ((List.replicate kq (rot ys (more % ys.length))).flatten).length = kq * ys.length := by rw [rep_len, rot_len]
      have l2 : kq * ys.length ≤ 2 * 100 := Nat.mul_le_mul a2 hly
      have l1 : 1 * ys.length ≤ kq * ys.length := Nat.mul_le_mul_right _ a1
      refine q p _ _ _ (kk.trans (.of_same (s10.trans s11))) (B9.same (s10.trans s11)) ⟨h5, r4, upd_same, (hd9.same s10).same s11, TI.same e10 s11⟩ (sq_unr hy a1) (fun z => ?_) (by rw [List.length_append, seg_len]; omega) (by rw [ll]; omega)
      have := congrArg List.length z
      rw [ll] at this
      have h0 : ([] : List Int).length = 0 := rfl
      omega
    refine ⟨_, _, rfl, rfl, r3, 1 + v2, _, rfl, rfl, SqT.of h9, ?_, by omega, by omega, by rw [List.length_map, rot_len]; omega, fun hk1 => ?_, fun hk2 p hp => ?_⟩
    · intro z
      exact rne (List.map_eq_nil_iff.mp z)
    · refine fin r3 H9 1 (by decide) (by decide) (fun _ _ e => e) ?_
      simpa using h9
    · have ev : 1 + v2 = 2 := by omega
      refine fin p _ 2 (by decide) (by decide) (same_upd hp) ?_
      unfold TI
      rw [upd_same, ev]
      show some (HO.tup (List.replicate 2 ((rot ys (more % ys.length)).map V.int)).flatten) = _
      rw [List.map_flatten, List.map_replicate]
end
end Lw
set_option Elab.async false
set_option linter.all false
set_option maxRecDepth 100000
namespace Lw
open PySem L2
abbrev sTN : Stmt := top 19
def spTN : Sp := fun vs H Q _ => ∃ (r : Addr) (xs ys : List Int), vs = [.ref r] ∧ RowAt H r xs ys ∧ ys ≠ [] ∧ xs.length ≤ 100 ∧ ys.length ≤ 100 ∧
  ∀ (r' : Addr) (H' : Hp) (m p : Nat), Same H H' → IsNF (sq xs ys) m p → m ≤ xs.length → p ≤ ys.length → RowAt H' r' (seg (sq xs ys) 0 m) (seg (sq xs ys) m p) → Q (.ref r') H'
/-- the answers at the places from a on -/
def same_at (s : Nat → Int) (a p n : Nat) : List Bool := (List.range n).map fun t => decide (s (a + t) = s (a + t + p))
theorem same_len (s : Nat → Int) (a p n : Nat) : (same_at s a p n).length = n := by
  unfold same_at
  simp
theorem same_succ (s : Nat → Int) (a p n : Nat) : same_at s a p (n + 1) = same_at s a p n ++ [decide (s (a + n) = s (a + n + p))] := by
  unfold same_at
  rw [List.range_succ, List.map_append]
  rfl
theorem same_all {s : Nat → Int} {a p n : Nat} : (same_at s a p n).all id = true ↔ ∀ i, a ≤ i → i < a + n → s i = s (i + p) := by
  unfold same_at
  rw [List.all_map, List.all_eq_true]
  constructor
  · intro h i h1 h2
    have := h (i - a) (List.mem_range.mpr (by omega))
    have e : a + (i - a) = i := by omega
    simp only [Function.comp, id, decide_eq_true_eq, e] at this
    exact this
  · intro h t ht
    have := List.mem_range.mp ht
    simp only [Function.comp, id, decide_eq_true_eq]
    exact h (a + t) (by omega) (by omega)
section
variable {P : Program} {w : World} {K : PySem.W.Frag} {mg : Str → Option Value} {base : Heap}
theorem scTN : FnScope ["_law_row", "_law_head", "_law_cycle", "_law_total", "_law_size", "_law_first_here", "_law_at", "_law_k"] ["_law_row"] (defScope sTN) := ⟨rfl, rfl, rfl, by decide +kernel, rfl, by decide +kernel, by decide +kernel⟩
set_option maxHeartbeats 8000000 in
theorem ok_tn {f : Addr} {fd : FuncData} {k : Nat} (F : Fun K "_law_tried_normal" "_law_tried_normal" sTN f fd) (T : Bi mg) (cE : C8.Cal P w K mg base 1 "_law_edge" spLEdge []) (cF : C8.Cal P w K mg base 2 "_law_first" spLFirst []) : FnOk P w K mg base CX0 (k + 3) f fd ["_law_row"] spTN := by
  refine F.ok scTN (fun vs H Q E h => ?_) (fun cdv A outer s H vs Q E hr h => ?_)
  · obtain ⟨r, xs, ys, rfl, _⟩ := h
    rfl
  · obtain ⟨r, xs, ys, rfl, hrow0, hy, hlx, hly, q⟩ := h
    obtain ⟨h, c, hrow, hh, hc⟩ := id hrow0
    have hn := len_pos' hy
    have h1k : 1 ≤ k + 2 := by omega
    have h2k : 2 ≤ k + 2 := by omega
    refine ⟨_, pss_cons (ps_asg (pv 0) (pg_tup rfl (pgs_cons (pg_name (i := 1) scTN.nd rfl (Or.inl rfl)) (pgs_cons (pg_name (i := 2) scTN.nd rfl (Or.inl rfl)) pgs_nil))))
      (pss_cons (ps_set (i := 3) scTN.nd rfl (Or.inl rfl) (pe_op op_add (pe_callB call_len_seq (by rfl) T.len PySem.boot_len (pa_cons (pv 1) pa_nil)) (pe_op op_mul pe_int (pe_callB call_len_seq (by rfl) T.len PySem.boot_len (pa_cons (pv 2) pa_nil)))))
      (pss_cons (ps_for PassesOwn.never rfl (pi_range2 (by rfl) T.range (pa_cons pe_int (pa_cons (pe_op op_add (pe_callB call_len_seq (by rfl) T.len PySem.boot_len (pa_cons (pv 2) pa_nil)) pe_int) pa_nil))) (pg_name (i := 4) scTN.nd rfl (Or.inr rfl))
        (pss_one (ps_for PassesOwn.never rfl (pi_range1 (by rfl) T.range (pa_cons (pe_op op_add (pe_callB call_len_seq (by rfl) T.len PySem.boot_len (pa_cons (pv 1) pa_nil)) pe_int) pa_nil)) (pg_name (i := 5) scTN.nd rfl (Or.inr rfl))
          (pss_one (ps_if (pt_val (pe_callB (cr_all rfl) (by rfl) T.all (by decide +kernel) (pa_cons
              (pe_lc (own := [("_law_at", 6)]) (g := gName 6) (tt := tYes) (te := tOp rEq (tCall spLEdge [] E0 (tCons (tVar 0) (tCons (tVar 6) tNil))) (tCall spLEdge [] E0 (tCons (tVar 0) (tCons (tOp (rI0 fun i j => .int (i + j)) (tVar 6) (tVar 4)) tNil)))) rfl scTN.nd
                (pi_range2 (by rfl) T.range (pa_cons (pv 5) (pa_cons (pv 3) pa_nil)))
                (blkOk_by (N := ["_law_row", "_law_head", "_law_cycle", "_law_total", "_law_size", "_law_first_here", "_law_at", "_law_k"]) (sc := defScope sTN) (by decide +kernel))
                (fun _ _ _ _ _ => by exact pg_name (i := 6) scTN.nd rfl (Or.inl rfl))
                (fun _ _ _ _ _ => pts_nil)
                (fun _ _ _ _ _ => by exact pe_cmpR op_eq (C8.pe_c cE hr h1k (by rfl) (pa_cons (pv 0) (pa_cons (pv 6) pa_nil))) (C8.pe_c cE hr h1k (by rfl) (pa_cons (pv 0) (pa_cons (pe_op op_add (pv 6) (pv 4)) pa_nil))) (nomark _))) pa_nil)))
            (pss_one (ps_ret (pe_tup (pa_cons (C8.pe_c cF hr h2k (by rfl) (pa_cons (pv 0) (pa_cons (pv 5) pa_nil))) (pa_cons (pe_callTy call_tuple_of (by rfl) T.tuple (by decide +kernel) (pa_cons
              (pe_lc (own := [("_law_k", 7)]) (g := gName 7) (tt := tYes) (te := tCall spLEdge [] E0 (tCons (tVar 0) (tCons (tOp (rI0 fun i j => .int (i + j)) (tVar 5) (tVar 7)) tNil))) rfl scTN.nd
                (pi_range1 (by rfl) T.range (pa_cons (pv 4) pa_nil))
                (blkOk_by (N := ["_law_row", "_law_head", "_law_cycle", "_law_total", "_law_size", "_law_first_here", "_law_at", "_law_k"]) (sc := defScope sTN) (by decide +kernel))
                (fun _ _ _ _ _ => by exact pg_name (i := 7) scTN.nd rfl (Or.inl rfl))
                (fun _ _ _ _ _ => pts_nil)
                (fun _ _ _ _ _ => by exact C8.pe_c cE hr h1k (by rfl) (pa_cons (pv 0) (pa_cons (pe_op op_add (pv 5) (pv 7)) pa_nil)))) pa_nil)) pa_nil))))) pss_nil)))))
      (pss_one (ps_ret (pv 0))))), ?_⟩
    refine ⟨_, rfl, r, _, rfl, SqT.of hrow, rfl, _, _, rfl, _, _, rfl, rfl, ?_⟩
    refine ⟨_, rfl, h, _, rfl, .inr (SqT.of hh), _, rfl, c, _, rfl, .inr (SqT.of hc), _, _, rfl, rfl, .inl ⟨by decide, by decide⟩, _, _, rfl, rfl, ?_⟩
    refine ⟨_, rfl, c, _, rfl, .inr (SqT.of hc), _, _, rfl, rfl, 1, _, rfl, ⟨by decide, by decide, by omega, by rw [List.length_map]; omega⟩, ?_⟩
    refine for_it (walk_range (lo := 1) (n := ((((ys.map V.int).length : Int) + 1) - 1).toNat)) (fun i σ H' => ∃ v4 v5 v6 v7 : Option V, σ = [some (.ref r), some (.ref h), some (.ref c), some (.int (((xs.map V.int).length : Int) + 2 * ((ys.map V.int).length : Int))), v4, v5, v6, v7] ∧ Same H H' ∧ ∀ p', 1 ≤ p' → p' < 1 + i → ¬ Per (sq xs ys) xs.length p')
      ⟨none, none, none, none, rfl, fun _ _ e => e, fun p' h1 h2 => by omega⟩ (fun _ _ _ _ _ => True.intro) ?_ ?_
    · rintro i x σ H1 H' hi ⟨v4, v5, v6, v7, rfl, sm, hno⟩ ⟨rfl, rfl⟩
      rw [List.length_map] at hi
      refine ⟨_, rfl, h, _, rfl, .inr (SqT.of (hh.same sm)), _, _, rfl, rfl, _, rfl, by omega, by rw [List.length_map]; omega, ?_⟩
      refine for_it (walk_range (lo := 0) (n := (((xs.map V.int).length : Int) + 1).toNat)) (fun j σ H' => ∃ v5 v6 v7 : Option V, σ = [some (.ref r), some (.ref h), some (.ref c), some (.int (((xs.map V.int).length : Int) + 2 * ((ys.map V.int).length : Int))), some (.int (1 + (i : Int))), v5, v6, v7] ∧ Same H H' ∧ ∀ m', m' < j → ¬ Per (sq xs ys) m' (1 + i))
        ⟨_, _, _, rfl, sm, fun m' h => absurd h (Nat.not_lt_zero _)⟩ (fun _ _ _ _ _ => True.intro) ?_ ?_
      · rintro j x σ H2 H' hj ⟨v5, v6, v7, rfl, sm2, hno2⟩ ⟨rfl, rfl⟩
        rw [List.length_map] at hj
        have jl : j ≤ xs.length := by omega
        have row2 := hrow0.same sm2
        -- all([..])
        refine ⟨_, rfl, _, rfl, _, _, rfl, ⟨by omega, by omega, by rw [List.length_map, List.length_map]; omega, by rw [List.length_map, List.length_map]; omega⟩, fun D hD => ?_⟩
        have nD : H D = none := sm2.free hD
        have cnt : ((((xs.map V.int).length : Int) + 2 * ((ys.map V.int).length : Int)) - (0 + (j : Int))).toNat = xs.length + 2 * ys.length - j := by
          rw [List.length_map, List.length_map]
          omega
        refine lc_it (walk_range (lo := 0 + (j : Int)) (n := ((((xs.map V.int).length : Int) + 2 * ((ys.map V.int).length : Int)) - (0 + (j : Int))).toNat)) (fun t H' => Same H H' ∧ H' D = some (.lst ((same_at (sq xs ys) j (1 + i) t).map V.bl))) ⟨sm2.trans (same_upd hD), upd_same⟩ (fun _ _ _ _ => True.intro) ?_ ?_
        · rintro t x H3 H' ht ⟨sm3, eD⟩ ⟨rfl, rfl⟩
          rw [cnt] at ht
          have row3 := hrow0.same sm3
          refine ⟨rfl, ?_⟩
          refine ⟨_, rfl, _, rfl, r, xs, ys, _, rfl, row3, hy, (by show (0 : Int) ≤ 0 + (j : Int) + (t : Int); omega), ?_⟩
          refine ⟨_, rfl, _, rfl, _, rfl, _, _, rfl, rfl, r, xs, ys, _, rfl, row3, hy, (by show (0 : Int) ≤ 0 + (j : Int) + (t : Int) + (1 + (i : Int)); omega), rfl, _, eD, ?_, ?_, ?_⟩
          · rw [List.length_map, same_len]
            exact small1000 (by omega)
          · intro b o e
            rw [upd_ne (ne_of_none e nD)]
            exact sm3 _ _ e
          · rw [upd_same, same_succ, List.map_append]
            have e1 : (0 + (j : Int) + (t : Int)).toNat = j + t := by omega
            have e2 : (0 + (j : Int) + (t : Int) + (1 + (i : Int))).toNat = j + t + (1 + i) := by omega
            show some (HO.lst (_ ++ [V.bl (decide (V.int (sq xs ys (0 + (j : Int) + (t : Int)).toNat) = V.int (sq xs ys (0 + (j : Int) + (t : Int) + (1 + (i : Int))).toNat)))])) = some (HO.lst (_ ++ [V.bl (decide (sq xs ys (j + t) = sq xs ys (j + t + (1 + i))))]))
            rw [e1, e2, decide_eq_decide.mpr (⟨fun z => by injection z, fun z => by rw [z]⟩ : V.int (sq xs ys (j + t)) = V.int (sq xs ys (j + t + (1 + i))) ↔ sq xs ys (j + t) = sq xs ys (j + t + (1 + i)))]
        · rintro H3 ⟨sm3, eD⟩
          rw [cnt] at eD
          refine ⟨D, _, rfl, SqL.of eD, _, rfl, ?_⟩
          have iff1 : (same_at (sq xs ys) j (1 + i) (xs.length + 2 * ys.length - j)).all id = true ↔ Per (sq xs ys) j (1 + i) := by
            rw [same_all]
            constructor
            · intro w
              exact per_window (sq_per xs ys hy) hn jl (show xs.length + ys.length ≤ j + (xs.length + 2 * ys.length - j) by omega) w
            · intro w i2 h1 _
              exact w i2 h1
          by_cases hper : Per (sq xs ys) j (1 + i)
          · refine if_t (iff1.mpr hper) ?_
            have hmin : ∀ p', 1 ≤ p' → Per (sq xs ys) xs.length p' → 1 + i ≤ p' := fun p' a b => Nat.le_of_not_lt fun z => hno p' a z b
            have nf : IsNF (sq xs ys) j (1 + i) := nf_of (sq_per xs ys hy) hn (by omega) hmin hper (fun m' b => Nat.le_of_not_lt fun z => hno2 m' z b)
            -- (_law_first(row, first), tuple([..]))
            have ej : (0 : Int) + (j : Int) = (j : Int) := by omega
            refine ⟨_, rfl, _, rfl, r, xs, ys, j, (by show [V.ref r, V.int (0 + (j : Int))] = _; rw [ej]), hrow0.same sm3, hy, by omega, fun t1 H4 s4 ht1 => ?_⟩
            refine ⟨_, rfl, _, rfl, by omega, by omega, fun D2 hD2 => ?_⟩
            have sm4 := sm3.trans s4
            have nD2 : H D2 = none := sm4.free hD2
            have nD3 : H3 D2 = none := s4.free hD2
            refine lc_it (walk_range (lo := 0) (n := (1 + (i : Int)).toNat)) (fun t H' => Same H4 H' ∧ H' D2 = some (.lst ((seg (sq xs ys) j t).map V.int))) ⟨same_upd hD2, upd_same⟩ (fun _ _ _ _ => True.intro) ?_ ?_
            · rintro t x H5 H' ht ⟨sm5, eD2⟩ ⟨rfl, rfl⟩
              refine ⟨rfl, ?_⟩
              refine ⟨_, rfl, _, rfl, _, rfl, _, _, rfl, rfl, r, xs, ys, _, rfl, (hrow0.same sm4).same sm5, hy, (by show (0 : Int) ≤ 0 + (j : Int) + (0 + (t : Int)); omega), _, eD2, ?_, ?_, ?_⟩
              · rw [List.length_map, seg_len]
                exact small1000 (by omega)
              · intro b o e
                rw [upd_ne (ne_of_none e hD2)]
                exact sm5 _ _ e
              · rw [upd_same, seg_succ, List.map_append]
                show _ = some (HO.lst (_ ++ [V.int (sq xs ys (j + t))]))
                rw [show (0 + (j : Int) + (0 + (t : Int))).toNat = j + t by omega]
            · rintro H5 ⟨sm5, eD2⟩
              rw [show (1 + (i : Int)).toNat = 1 + i by omega] at eD2
              refine ⟨D2, _, rfl, .inl ⟨SqL.of eD2, fun t2 ht2 => ?_⟩⟩
              have s6 := same_upd (o := .tup ((seg (sq xs ys) j (1 + i)).map V.int)) ht2
              refine ⟨(by show 2 ≤ sizeLine; decide), fun p hp => ?_⟩
              have s7 := same_upd (o := .tup [.ref t1, .ref t2]) hp
              exact q p _ j (1 + i) (((sm4.trans sm5).trans s6).trans s7) nf jl (by omega) ⟨t1, t2, upd_same, ((ht1.same sm5).same s6).same s7, TI.same (a := t2) upd_same s7⟩
          · refine if_f ?_ ⟨_, _, _, rfl, sm3, fun m' hm' => ?_⟩
            · cases e : (same_at (sq xs ys) j (1 + i) (xs.length + 2 * ys.length - j)).all id with
              | false => rfl
              | true => exact absurd (iff1.mp e) hper
            · by_cases hmj : m' = j
              · rw [hmj]
                exact hper
              · exact hno2 m' (by omega)
      · rintro σ H2 ⟨v5, v6, v7, rfl, sm2, hno2⟩
        refine ⟨_, _, _, _, rfl, sm2, fun p' h1 h2 => ?_⟩
        by_cases hp : p' = 1 + i
        · rw [hp]
          exact hno2 xs.length (by rw [List.length_map]; omega)
        · exact hno p' h1 (by omega)
    · rintro σ H1 ⟨v4, v5, v6, v7, rfl, sm, hno⟩
      exfalso
      exact hno ys.length hn (by rw [List.length_map]; omega) (sq_per xs ys hy)
end
end Lw
set_option Elab.async false
set_option linter.all false
set_option maxRecDepth 100000
namespace Lw
open PySem L2
abbrev sLaw : Stmt := top 20
abbrev NL : List Str := ["_law_script", "_law_bag_here", "_law_turn", "_law_some", "_law_head", "_law_due", "_law_places", "_law_long_row", "_law_far", "_law_row", "_law_k", "_law_at"]
theorem scLaw : FnScope NL ["_law_script"] (defScope sLaw) := ⟨rfl, rfl, rfl, by decide +kernel, rfl, by decide +kernel, by decide +kernel⟩
def spEdge0 : Sp := fun vs H Q _ => ∃ (r : Addr) (xs ys : List Int) (p : Int), vs = [.ref r, .int p] ∧ RowAt H r xs ys ∧ ys ≠ [] ∧ 0 ≤ p ∧ Q (.int (sq xs ys p.toNat)) H
section
variable {P : Program} {w : World} {K : PySem.W.Frag} {mg : Str → Option Value} {base : Heap}
theorem ok_edge0 {f : Addr} {fd : FuncData} {k : Nat} (F : Fun K "edge_at" "edge_at" sEdgeAt f fd) (T : Bi mg) : FnOk P w K mg base CX0 (k + 1) f fd ["row", "place"] spEdge0 := by
  refine F.ok scEdgeAt (fun vs H Q E h => ?_) (fun cdv A outer s H vs Q E hr h => ?_)
  · obtain ⟨r, xs, ys, p, rfl, _⟩ := h
    rfl
  · obtain ⟨r, xs, ys, p, rfl, ⟨h, c, hrow, hh, hc⟩, hy, h0, kQ⟩ := h
    refine ⟨_, pss_cons (ps_if (pt_cmpR op_lt (pv 1) pe_int (nomark _)) (pss_one ps_never) pss_nil)
      (pss_cons (ps_asg (pv 0) (pg_tup rfl (pgs_cons (pg_name (i := 2) scEdgeAt.nd rfl (Or.inl rfl)) (pgs_cons (pg_name (i := 3) scEdgeAt.nd rfl (Or.inl rfl)) pgs_nil))))
      (pss_cons (ps_if (pt_cmpR op_lt (pv 1) (pe_callB call_len_seq (by rfl) T.len PySem.boot_len (pa_cons (pv 2) pa_nil)) (nomark _)) (pss_one (ps_ret (pe_ix ix_tup (pv 2) (pv 1) (fun _ _ => rfl)))) pss_nil)
      (pss_one (ps_ret (pe_ix ix_tup (pv 3) (pe_op op_mod (pe_op op_sub (pv 1) (pe_callB call_len_seq (by rfl) T.len PySem.boot_len (pa_cons (pv 2) pa_nil))) (pe_callB call_len_seq (by rfl) T.len PySem.boot_len (pa_cons (pv 3) pa_nil))) (fun _ _ => rfl)))))), ?_⟩
    have hl := len_pos' hy
    refine ⟨_, rfl, _, _, rfl, rfl, _, rfl, if_f (decide_eq_false (by omega)) ?_⟩
    refine ⟨_, rfl, r, _, rfl, SqT.of hrow, rfl, _, _, rfl, _, _, rfl, rfl, ?_⟩
    refine ⟨_, rfl, _, rfl, h, _, rfl, .inr (SqT.of hh), _, _, rfl, rfl, _, rfl, ?_⟩
    by_cases hlt : p < (xs.length : Int)
    · refine if_t (decide_eq_true (by rw [List.length_map]; exact hlt)) ?_
      exact ⟨_, rfl, _, rfl, h, _, _, _, rfl, rfl, SqT.of hh, head_at h0 hlt, kQ⟩
    · refine if_f (decide_eq_false (by rw [List.length_map]; exact hlt)) ?_
      exact ⟨_, rfl, _, rfl, _, rfl, h, _, rfl, .inr (SqT.of hh), _, _, rfl, rfl, _, rfl, c, _, rfl, .inr (SqT.of hc), _, _, rfl, rfl, (by show (0 : Int) < ((ys.map V.int).length : Int); rw [List.length_map]; omega), c, _, _, _, rfl, rfl, SqT.of hc, cyc_at hy h0 hlt, kQ⟩
/-- the defs that the law calls -/
structure Lib (P : Program) (w : World) (K : PySem.W.Frag) (mg : Str → Option Value) (base : Heap) (C : Addr) : Prop where
  T : Bi mg
  bag : C8.Cal P w K mg base 1 "_law_bag" (spBag K) []
  pull : C8.Cal P w K mg base 1 "_law_pull" spPull []
  of : C8.Cal P w K mg base 2 "_law_of" (spOf K) []
  like : C8.Cal P w K mg base 6 "_law_like" (spLike 5) []
  tn : C8.Cal P w K mg base 3 "_law_tried_normal" spTN []
  unr : C8.Cal P w K mg base 3 "_law_unrolled" spUnr []
  ledge : C8.Cal P w K mg base 1 "_law_edge" spLEdge []
  norm : C8.Cal P w K mg base 2 "normal_row" spNormal []
  edge0 : C8.Cal P w K mg base 1 "edge_at" spEdge0 []
  edgeX : ∃ f fd, FnOk P w K mg base (L2.CX P w) 4 f fd ["row", "place"] (spEdgeAt C) ∧ mg "edge_at" = some (.ref f) ∧ PySem.W.keepIn K (.ref f) = true ∧ Binds K fd ["row", "place"] []
  tried : ∃ (g : Addr) (oc : Value) (od : Option Addr) (dV kV doc pm : Value) (an : Option Addr) (cdv ct : Value) (osl : Array (Option Value)), mg "_law_tried" = some (.ref g) ∧ PySem.W.keepIn K (.ref g) = true ∧
    K.lookup g = some ⟨oc, od, .func (PySem.W.fnOf "_law_tried" "_law_tried" (defArgs sTried) (defBody sTried) (defScope sTried) dV kV doc pm an cdv ct), osl⟩ ∧ PySem.W.codeIn K cdv "_law_tried" = true ∧ Binds K (PySem.W.fnOf "_law_tried" "_law_tried" (defArgs sTried) (defBody sTried) (defScope sTried) dV kV doc pm an cdv ct) ["_law_ask"] []
  err : ∃ (CW fF : Addr) (fdF : FuncData), mg "WindowError" = some (.ref CW) ∧ PySem.W.exmOne K (.ref C) (.ref CW) = some true ∧ XfC K C ∧ PySem.W.findIn K (.ref C) "word" = some none ∧ mg "_law_field" = some (.ref fF) ∧ PySem.W.keepIn K (.ref fF) = true ∧ Binds K fdF ["_law_e"] [] ∧
    ∀ a dd, FnC P w K mg base 1 fF fdF ["_law_e"] (Zh C a dd) (spField a dd)
def spLaw (K : PySem.W.Frag) (Pt : Addr) : Sp := fun vs H Q _ => ∃ (a : Addr) (ns : List Int), vs = [.ref a] ∧ SqL K H a (ns.map V.int) ∧ ns.length ≤ 63 ∧ H Pt = some (.tbl #[]) ∧ ∀ H', Q (.bl true) H'
def Tq (Pt : Addr) (qn : Str) : List (Addr × Str) := [(Pt, qn)]
theorem tabs_keep {T : List (Addr × Str)} {H H' : Hp} {b l : Addr} {ns : List Int} (t : LamX.Tabs T H) (B : BagAt H b l ns) (k : KeepB b H H') : LamX.Tabs T H' := fun p hp => by
  obtain ⟨ps, h1, h2, h3⟩ := t p hp
  obtain ⟨ys, hb⟩ := B.at_b
  refine ⟨ps, k _ _ (fun e => by rw [e, hb] at h1; cases h1) h1, h2, fun pos cv hc => ?_⟩
  obtain ⟨c, e1, e2⟩ := h3 pos cv hc
  exact ⟨c, e1, k _ _ (fun e => by rw [e, hb] at e2; cases e2) e2⟩
theorem BagAt.extN {H H' : Hp} {b l : Addr} {ns : List Int} (B : BagAt H b l ns) (e : LamX.ExtN H H') : BagAt H' b l ns := by
  obtain ⟨o, ho, hB⟩ := B.ob
  obtain ⟨i, r, s, rfl, h2⟩ := id hB
  exact ⟨⟨_, e _ _ ho (fun ps z => by cases z), hB⟩, e _ _ B.sc (fun ps z => by cases z), B.ln⟩
theorem RowAt.extN {H H' : Hp} {r : Addr} {xs ys : List Int} (h : RowAt H r xs ys) (e : LamX.ExtN H H') : RowAt H' r xs ys := by
  obtain ⟨a, c, h1, h2, h3⟩ := h
  exact ⟨a, c, e _ _ h1 (fun ps z => by cases z), e _ _ h2 (fun ps z => by cases z), e _ _ h3 (fun ps z => by cases z)⟩
theorem lk_tup {H : Hp} {a b : Addr} {xs : List Int} {k : Nat} (h1 : TI H a xs) (h2 : TI H b xs) (hl : xs.length ≤ 1000) : Lk H (k + 2) (.ref a) (.ref b) := by
  refine .inr (.inr ⟨a, b, _, _, rfl, rfl, h1, h2, rfl, by rw [List.length_map]; exact hl, fun i u v hu hv => ?_⟩)
  rw [hu] at hv
  have e := Option.some.inj hv
  subst e
  have m := List.mem_of_getElem? hu
  obtain ⟨z, _, rfl⟩ := List.mem_map.mp m
  exact .inl ⟨rfl, rfl⟩
theorem lk_row {H : Hp} {a b : Addr} {xs ys : List Int} {k : Nat} (h1 : RowAt H a xs ys) (h2 : RowAt H b xs ys) (hl : xs.length ≤ 1000) (hl2 : ys.length ≤ 1000) : Lk H (k + 3) (.ref a) (.ref b) := by
  obtain ⟨x1, y1, a1, a2, a3⟩ := h1
  obtain ⟨x2, y2, b1, b2, b3⟩ := h2
  refine .inr (.inr ⟨a, b, _, _, rfl, rfl, a1, b1, rfl, (by show 2 ≤ 1000; decide), fun i u v hu hv => ?_⟩)
  match i, hu, hv with
  | 0, hu, hv =>
    cases hu; cases hv
    exact lk_tup a2 b2 hl
  | 1, hu, hv =>
    cases hu; cases hv
    exact lk_tup a3 b3 hl2
  | i + 2, hu, hv => cases hu
theorem lk_rows {H : Hp} {F D a1 a2 a3 d : Addr} {xs ys : List Int} (hF : H F = some (.lst [.ref a1, .ref a2, .ref a3])) (hD : H D = some (.lst [.ref d, .ref d, .ref d])) (h1 : RowAt H a1 xs ys) (h2 : RowAt H a2 xs ys) (h3 : RowAt H a3 xs ys) (hd : RowAt H d xs ys) (hl : xs.length ≤ 1000) (hl2 : ys.length ≤ 1000) : Lk H 5 (.ref F) (.ref D) := by
  refine .inr (.inl ⟨F, D, _, _, rfl, rfl, hF, hD, rfl, (by show 3 ≤ 1000; decide), fun i u v hu hv => ?_⟩)
  match i, hu, hv with
  | 0, hu, hv =>
    cases hu; cases hv
    exact lk_row h1 hd hl hl2
  | 1, hu, hv =>
    cases hu; cases hv
    exact lk_row h2 hd hl hl2
  | 2, hu, hv =>
    cases hu; cases hv
    exact lk_row h3 hd hl hl2
  | i + 3, hu, hv => cases hu
theorem lk_lst {H : Hp} {a b : Addr} {xs : List Int} (h1 : H a = some (.lst (xs.map V.int))) (h2 : H b = some (.lst (xs.map V.int))) (hl : xs.length ≤ 1000) : Lk H 5 (.ref a) (.ref b) := by
  refine .inr (.inl ⟨a, b, _, _, rfl, rfl, h1, h2, rfl, by rw [List.length_map]; exact hl, fun i u v hu hv => ?_⟩)
  rw [hu] at hv
  have e := Option.some.inj hv
  subst e
  obtain ⟨z, _, rfl⟩ := List.mem_map.mp (List.mem_of_getElem? hu)
  exact .inl ⟨rfl, rfl⟩
theorem repA {H : Hp} {l : Addr} {zs : List Int} {k : Int} {Q : VK} (h : TI H l zs) (ne : zs ≠ []) (h1 : 1 ≤ k) (h2 : k ≤ 1000) (hl : zs.length ≤ 1000) (q : ∀ r H', Same H H' → TI H' r ((List.replicate k.toNat zs).flatten) → Q (.ref r) H') : rRepA K (.ref l) (.int k) H Q := by
  refine ⟨l, k, _, rfl, rfl, SqT.of h, (by intro e; exact ne (List.map_eq_nil_iff.mp e)), h1, h2, (by rw [List.length_map]; exact hl), fun e => ?_, fun e p hp => ?_⟩
  · refine q l H (fun _ _ z => z) ?_
    subst e
    simpa using h
  · refine q p _ (same_upd hp) ?_
    show upd H p _ p = _
    rw [upd_same, List.map_flatten, List.map_replicate]
/-- the normal form of a row of the same sequence is the same -/
theorem nf_row {H : Hp} {r' : Addr} {xs ys xs' ys' : List Int} {m p m' p' : Nat} (e : sq xs' ys' = sq xs ys) (nf : IsNF (sq xs ys) m p) (nf' : IsNF (sq xs' ys') m' p') (h : RowAt H r' (seg (sq xs' ys') 0 m') (seg (sq xs' ys') m' p')) : RowAt H r' (seg (sq xs ys) 0 m) (seg (sq xs ys) m p) := by
  rw [e] at nf' h
  obtain ⟨rfl, rfl⟩ := nf.uniq nf'
  exact h
/-- the places that the law asks for -/
def plc (v : Int) : List Int := (List.range 20).map (fun i : Nat => 0 + ((i : Nat) : Int)) ++ [v]
theorem plc_len (v : Int) : (plc v).length = 21 := rfl
theorem plc_pos {v : Int} (h : 0 ≤ v) : ∀ x ∈ plc v, 0 ≤ x := fun x hx => by
  unfold plc at hx
  rcases List.mem_append.mp hx with h1 | h1
  · obtain ⟨i, _, rfl⟩ := List.mem_map.mp h1
    omega
  · rw [List.mem_singleton.mp h1]
    exact h
theorem plc_rg (v : Int) : rgV 0 20 ++ [V.int v] = (plc v).map V.int := rfl
theorem far_small {v : Int} (h0 : 0 ≤ v) (h1 : v < 10 ^ (20 : Int).toNat) : ((-1) - v).natAbs < 10 ^ 100 := by
  have e : (10 : Int) ^ (20 : Int).toNat = 100000000000000000000 := by decide +kernel
  have e2 : 100000000000000000001 < 10 ^ 100 := by decide +kernel
  rw [e] at h1
  refine Nat.lt_trans ?_ e2
  clear e2 e
  omega
theorem sh_out (n : Int) : SeqAt.shaped (.tuple [.str "outofrange", .int n]) = true := by
  show (PyData.canLayAll0 [.str "outofrange", .int n] && decide (PyData.depthAll [.str "outofrange", .int n] + 1 ≤ 64)) = true
  have h1 : PyData.canLayAll0 [.str "outofrange", .int n] = PyData.canLayAll0 [.str "outofrange", .int 0] := rfl
  have h2 : PyData.depthAll [.str "outofrange", .int n] = PyData.depthAll [.str "outofrange", .int 0] := rfl
  rw [h1, h2]
  decide +kernel
theorem eq_out (n : Int) : PyData.eqv (.tuple [.str "outofrange", .int n]) (.tuple [.str "outofrange", .int n]) = true := by
  show (PyData.eqv (.str "outofrange") (.str "outofrange") && (PyData.eqv (.int n) (.int n) && true)) = true
  have h1 : PyData.eqv (.str "outofrange") (.str "outofrange") = true := by decide +kernel
  have h2 : PyData.eqv (.int n) (.int n) = true := by
    show (n == n) = true
    simp
  rw [h1, h2]
  rfl
theorem ne_out {H : Hp} {a b : Addr} {n : Int} {Q : VK} (h1 : H a = some (.tup [.str "outofrange", .int n])) (h2 : H b = some (.tup [.str "outofrange", .int n])) (q : Q (.bl false) H) : rNeD K (.ref a) (.ref b) H Q := by
  refine ⟨_, _, .tup (SqT.of h1) (.cons (.str _) (.cons (.int _) .nil)), .tup (SqT.of h2) (.cons (.str _) (.cons (.int _) .nil)), sh_out n, sh_out n, ?_⟩
  rw [eq_out n]
  exact q
theorem sq_rep {xs ys : List Int} {k : Nat} (hy : ys ≠ []) (hk : 1 ≤ k) : sq xs ((List.replicate k ys).flatten) = sq xs ys := by
  have h := sq_unr (xs := xs) (more := 0) hy hk
  have e1 : seg (sq [] ys) 0 0 = [] := rfl
  have e2 : rot ys (0 % ys.length) = ys := by
    rw [Nat.zero_mod]
    unfold rot
    simp
  rw [e1, e2, List.append_nil] at h
  exact h
theorem repT {H : Hp} {l : Addr} {zs : List Int} {Q : VK} (h : TI H l zs) (ne : zs ≠ []) (hl : zs.length ≤ 1000) (q : ∀ r H', Same H H' → TI H' r ((List.replicate 2 zs).flatten) → Q (.ref r) H') : rRepT K (.ref l) (.int 2) H Q := by
  refine ⟨l, 2, _, rfl, rfl, SqT.of h, (by intro e; exact ne (List.map_eq_nil_iff.mp e)), by decide, by decide, (by rw [List.length_map]; exact hl), fun p hp => ?_⟩
  refine q p _ (same_upd hp) ?_
  show upd H p _ p = _
  rw [upd_same, List.map_flatten, List.map_replicate]
  rfl
/-- what a turn holds from the row on -/
structure Rw (b l Pt : Addr) (qn : Str) (r rd : Addr) (ns xs ys : List Int) (m p : Nat) (H : Hp) : Prop where
  bag : BagAt H b l ns
  tab : LamX.Tabs (Tq Pt qn) H
  row : RowAt H r xs ys
  due : RowAt H rd (seg (sq xs ys) 0 m) (seg (sq xs ys) m p)
theorem Rw.same {b l Pt r rd : Addr} {qn : Str} {ns xs ys : List Int} {m p : Nat} {H H' : Hp} (h : Rw b l Pt qn r rd ns xs ys m p H) (s : Same H H') : Rw b l Pt qn r rd ns xs ys m p H' := ⟨h.bag.same s, h.tab.ext s, h.row.same s, h.due.same s⟩
theorem Rw.keep {b l Pt r rd : Addr} {qn : Str} {ns xs ys : List Int} {m p : Nat} {H H' : Hp} (h : Rw b l Pt qn r rd ns xs ys m p H) (k : KeepB b H H') (B : BagAt H' b l ns) : Rw b l Pt qn r rd ns xs ys m p H' := ⟨B, tabs_keep h.tab h.bag k, h.row.keep h.bag k, h.due.keep h.bag k⟩
theorem Rw.extN {b l Pt r rd : Addr} {qn : Str} {ns xs ys : List Int} {m p : Nat} {H H' : Hp} (h : Rw b l Pt qn r rd ns xs ys m p H) (e : LamX.ExtN H H') (t : LamX.Tabs (Tq Pt qn) H') : Rw b l Pt qn r rd ns xs ys m p H' := ⟨h.bag.extN e, t, h.row.extN e, h.due.extN e⟩
set_option maxHeartbeats 16000000 in
theorem ok_law {f C c Pt : Addr} {oc dV kV doc pm ct : Value} {od an : Option Addr} {osl : Array (Option Value)} (lk : K.lookup f = some ⟨oc, od, .func (PySem.W.fnOf "law" "law" (defArgs sLaw) (defBody sLaw) (defScope sLaw) dV kV doc pm an (.ref c) ct), osl⟩) (hcd : PySem.W.codeIn K (.ref c) "law" = true)
    (TB : LamX.TabB base mg c Pt) (L : Lib P w K mg base C) : FnOk P w K mg base CX0 10 f (PySem.W.fnOf "law" "law" (defArgs sLaw) (defBody sLaw) (defScope sLaw) dV kV doc pm an (.ref c) ct) ["_law_script"] (spLaw K Pt) := by
  refine fn_of lk hcd scLaw (fun vs H Q E h => ?_) (fun A outer s H vs Q E hr h => ?_)
  · obtain ⟨a, ns, rfl, _⟩ := h
    rfl
  · obtain ⟨a, ns, rfl, hS, hln, htb, q⟩ := h
    have T := L.T
    obtain ⟨fX, fdX, FX, mX, kX, bX⟩ := L.edgeX
    obtain ⟨gT, ocT, odT, dVT, kVT, docT, pmT, anT, cdvT, ctT, oslT, mT, kT, lkT, hcT, bT⟩ := L.tried
    obtain ⟨CW, fF, fdF, gW, exW, xfC, nwC, gF, kF, bF, FF⟩ := L.err
    suffices hh : ∃ t, PSs (cxOf CX0 P w K mg base NL "law" (defScope sLaw) f (.ref c) A outer s H E).nox (defBody sLaw) t ∧ t { nx := fun _ H' => Q .non H', rt := Q } (start NL [.ref a]) H by
      obtain ⟨t, h1, h2⟩ := hh
      exact ⟨t, h1.nox, h2⟩
    obtain ⟨qn, hqn⟩ : ∃ q, (cxOf CX0 P w K mg base NL "law" (defScope sLaw) f (.ref c) A outer s H E).nox.env.qual ++ "<lambda>" = q := ⟨_, rfl⟩
    refine ⟨_, pss_cons (ps_set (i := 1) scLaw.nd rfl (Or.inr rfl) (C8.pe_c L.bag hr (by decide) (by rfl) (pa_cons (pv 0) pa_nil)))
      (pss_cons (ps_for PassesOwn.never rfl (pi_range1 (by rfl) T.range (pa_cons pe_int pa_nil)) (pg_name (i := 2) scLaw.nd rfl (Or.inl rfl))
        (pss_cons (ps_set (i := 3) scLaw.nd rfl (Or.inr rfl) (pe_lc (own := [("_law_k", 10)]) (g := gName 10) (tt := tYes) (te := tCall spPull [] E0 (tCons (tVar 1) (tCons (tCall (spOf K) [] E0 (tCons (tVar 1) (tCons (tLst (tCons (tC (.int 1)) (tCons (tC (.int 2)) (tCons (tC (.int 3)) tNil)))) tNil))) tNil))) rfl scLaw.nd (pi_range1 (by rfl) T.range (pa_cons (pe_op op_add pe_int (C8.pe_c L.pull hr (by decide) (by rfl) (pa_cons (pv 1) (pa_cons pe_int pa_nil)))) pa_nil)) (blkOk_by (N := NL) (sc := defScope sLaw) (by decide +kernel)) (fun _ _ _ _ _ => by exact pg_name (i := 10) scLaw.nd rfl (Or.inl rfl)) (fun _ _ _ _ _ => pts_nil) (fun _ _ _ _ _ => by exact C8.pe_c L.pull hr (by decide) (by rfl) (pa_cons (pv 1) (pa_cons (C8.pe_c L.of hr (by decide) (by rfl) (pa_cons (pv 1) (pa_cons (pe_lst (pa_cons pe_int (pa_cons pe_int (pa_cons pe_int pa_nil)))) pa_nil))) pa_nil)))))
        (pss_cons (ps_set (i := 4) scLaw.nd rfl (Or.inl rfl) (pe_callTy call_tuple_of (by rfl) T.tuple (by decide +kernel) (pa_cons (pe_lc (own := [("_law_k", 10)]) (g := gName 10) (tt := tYes) (te := tCall (spOf K) [] E0 (tCons (tVar 1) (tCons (tVar 3) tNil))) rfl scLaw.nd (pi_range1 (by rfl) T.range (pa_cons (C8.pe_c L.pull hr (by decide) (by rfl) (pa_cons (pv 1) (pa_cons pe_int pa_nil))) pa_nil)) (blkOk_by (N := NL) (sc := defScope sLaw) (by decide +kernel)) (fun _ _ _ _ _ => by exact pg_name (i := 10) scLaw.nd rfl (Or.inl rfl)) (fun _ _ _ _ _ => pts_nil) (fun _ _ _ _ _ => by exact C8.pe_c L.of hr (by decide) (by rfl) (pa_cons (pv 1) (pa_cons (pv 3) pa_nil)))) pa_nil)))
        (pss_cons (ps_set (i := 9) scLaw.nd rfl (Or.inr rfl) (pe_tup (pa_cons (pv 4) (pa_cons (pe_op op_repA (pe_callTy call_tuple_of (by rfl) T.tuple (by decide +kernel) (pa_cons (pv 3) pa_nil)) (pe_op op_add pe_int (C8.pe_c L.pull hr (by decide) (by rfl) (pa_cons (pv 1) (pa_cons pe_int pa_nil))))) pa_nil))))
        (C8.pss_cut (ps_set (i := 5) scLaw.nd rfl (Or.inr rfl) (C8.pe_c L.tn hr (by decide) (by rfl) (pa_cons (pv 9) pa_nil)))
        (C8.pss_cut (ps_if (pt_not (pt_val (C8.pe_c L.like hr (by decide) (by rfl) (pa_cons (pe_lst (pa_cons (C8.pe_c L.norm hr (by decide) (by rfl) (pa_cons (pv 9) pa_nil)) (pa_cons (C8.pe_c L.norm hr (by decide) (by rfl) (pa_cons (pv 5) pa_nil)) (pa_cons (C8.pe_c L.norm hr (by decide) (by rfl) (pa_cons (C8.pe_c L.unr hr (by decide) (by rfl) (pa_cons (pv 1) (pa_cons (pv 9) pa_nil))) pa_nil)) pa_nil)))) (pa_cons (pe_op op_rep (pe_lst (pa_cons (pv 5) pa_nil)) pe_int) pa_nil))))) (pss_one (ps_ret pe_bl)) pss_nil)
        (pss_cons (ps_set (i := 8) scLaw.nd rfl (Or.inr rfl) (C8.pe_c L.pull hr (by decide) (by rfl) (pa_cons (pv 1) (pa_cons (pe_op op_pow pe_int pe_int) pa_nil))))
        (pss_cons (ps_set (i := 6) scLaw.nd rfl (Or.inl rfl) (pe_op op_cat (pe_listRg rfl (by rfl) T.list (prg_1 (by rfl) T.range pe_int)) (pe_lst (pa_cons (pv 8) pa_nil))))
        (C8.pss_cut (ps_if (pt_not (pt_val (C8.pe_c L.like hr (by decide) (by rfl) (pa_cons (pe_lc (own := [("_law_at", 11)]) (g := gName 11) (tt := tYes) (te := tCall spEdge0 [] E0 (tCons (tVar 9) (tCons (tVar 11) tNil))) rfl scLaw.nd (pi_list (pv 6)) (blkOk_by (N := NL) (sc := defScope sLaw) (by decide +kernel)) (fun _ _ _ _ _ => by exact pg_name (i := 11) scLaw.nd rfl (Or.inl rfl)) (fun _ _ _ _ _ => pts_nil) (fun _ _ _ _ _ => by exact C8.pe_c L.edge0 hr (by decide) (by rfl) (pa_cons (pv 9) (pa_cons (pv 11) pa_nil)))) (pa_cons (pe_lc (own := [("_law_at", 11)]) (g := gName 11) (tt := tYes) (te := tCall spLEdge [] E0 (tCons (tVar 5) (tCons (tVar 11) tNil))) rfl scLaw.nd (pi_list (pv 6)) (blkOk_by (N := NL) (sc := defScope sLaw) (by decide +kernel)) (fun _ _ _ _ _ => by exact pg_name (i := 11) scLaw.nd rfl (Or.inl rfl)) (fun _ _ _ _ _ => pts_nil) (fun _ _ _ _ _ => by exact C8.pe_c L.ledge hr (by decide) (by rfl) (pa_cons (pv 5) (pa_cons (pv 11) pa_nil)))) pa_nil))))) (pss_one (ps_ret pe_bl)) pss_nil)
        (pss_one (ps_if (pt_cmpR (op_neD hr.units) (LamX.pe_lamcall (T := Tq Pt qn) (t := fun E => tCall (spEdgeAt C) [] E (tCons (tVar 9) (tCons (tOp (rI0 fun i j => .int (i - j)) (tUn (fun x H Q => ∃ i, x = .int i ∧ Q (.int (-i)) H) (tC (.int 1))) (tVar 8)) tNil))) (k := 4) (by rfl) mT kT lkT hcT bT scTried rfl (.inl rfl)
            (tried_gives (hr.mono (by decide)) gW exW xfC nwC gF kF bF FF) TB rfl (by rw [hqn]; exact List.mem_singleton.mpr rfl) (fun p hp _ => by rw [List.mem_singleton.mp hp]; exact hqn.symm) (hr.mono (by decide)) (LamX.lamS_by (sc := defScope sLaw) (by decide +kernel)) rfl (fun _ _ _ _ _ => rfl)
            (fun A2 o2 s2 H2 E2 f2 c2 hr2 => by exact pe_call FX hr2 (by rfl) mX kX bX .nil (passes_call (takes_of rfl rfl rfl rfl) (fun _ _ _ _ h => h)) (pa_cons (pv 9) (pa_cons (pe_op op_sub (pe_un un_neg pe_int) (pv 8)) pa_nil)))) (pe_tup (pa_cons pe_str (pa_cons (pe_op op_sub (pe_un un_neg pe_int) (pv 8)) pa_nil))) (nomark _)) (pss_one (ps_ret pe_bl)) pss_nil)))))))))))
      (pss_cons (ps_set (i := 7) scLaw.nd rfl (Or.inl rfl) (pe_callTy call_tuple_of (by rfl) T.tuple (by decide +kernel) (pa_cons (pe_lc (own := [("_law_k", 10)]) (g := gName 10) (tt := tYes) (te := tCall spPull [] E0 (tCons (tVar 1) (tCons (tC (.int 2)) tNil))) rfl scLaw.nd (pi_range1 (by rfl) T.range (pa_cons (pe_op op_add pe_int (C8.pe_c L.pull hr (by decide) (by rfl) (pa_cons (pv 1) (pa_cons pe_int pa_nil)))) pa_nil)) (blkOk_by (N := NL) (sc := defScope sLaw) (by decide +kernel)) (fun _ _ _ _ _ => by exact pg_name (i := 10) scLaw.nd rfl (Or.inl rfl)) (fun _ _ _ _ _ => pts_nil) (fun _ _ _ _ _ => by exact C8.pe_c L.pull hr (by decide) (by rfl) (pa_cons (pv 1) (pa_cons pe_int pa_nil)))) pa_nil)))
      (pss_one (ps_ret (C8.pe_c L.like hr (by decide) (by rfl) (pa_cons (C8.pe_c L.norm hr (by decide) (by rfl) (pa_cons (pe_tup (pa_cons (pe_slice sl_tupA (pv 7) po_none (po_some pe_int)) (pa_cons (pe_op op_repT (pv 7) pe_int) pa_nil))) pa_nil)) (pa_cons (C8.pe_c L.tn hr (by decide) (by rfl) (pa_cons (pe_tup (pa_cons (pe_slice sl_tupA (pv 7) po_none (po_some pe_int)) (pa_cons (pv 7) pa_nil))) pa_nil)) pa_nil))))))), ?_⟩
    have four : ∀ m : Nat, m ≤ 1000 → m ≤ sizeLine := fun m h => Nat.le_of_lt (small1000 h)
    refine ⟨_, rfl, a, ns, rfl, hS, hln, fun b l H1 s1 nb nl B => ?_⟩
    have tb1 : LamX.Tabs (Tq Pt qn) H1 := LamX.Tabs.ext (fun p hp => by rw [List.mem_singleton.mp hp]; exact LamX.TabS.nil htb) s1
    refine ⟨6, rfl, by decide, by decide, ?_⟩
    refine for_it (walk_range (lo := 0) (n := (6 : Int).toNat)) (fun i σ H' => ∃ v2 v3 v4 v5 v6 v7 v8 v9 v10 v11 : Option V, σ = [some (.ref a), some (.ref b), v2, v3, v4, v5, v6, v7, v8, v9, v10, v11] ∧ BagAt H' b l ns ∧ LamX.Tabs (Tq Pt qn) H')
      ⟨none, none, none, none, none, none, none, none, none, none, rfl, B, tb1⟩ (fun _ _ _ _ _ => True.intro) ?_ ?_
    · rintro i x σ H2 H' hi ⟨v2, v3, v4, v5, v6, v7, v8, v9, v10, v11, rfl, B2, tb2⟩ ⟨rfl, rfl⟩
      -- some
      refine ⟨_, rfl, b, l, ns, 4, rfl, B2, by decide, by decide, fun v o v0 v1 BO => ⟨_, _, rfl, rfl, 1 + v, rfl, by omega, by omega, fun D hD => ?_⟩⟩
      have B3 := B2.upd BO
      have tb3 := tabs_keep tb2 B2 (.updb (o := o))
      generalize upd H' b o = H3 at *
      have Db : D ≠ b := B3.ne_new hD
      have Dl : D ≠ l := fun z => by rw [z, B3.sc] at hD; cases hD
      refine lc_it (walk_range (lo := 0) (n := (1 + v).toNat)) (fun t H' => ∃ zs : List Int, zs.length = t ∧ KeepB b H3 H' ∧ BagAt H' b l ns ∧ H' D = some (.lst (zs.map V.int)))
        ⟨[], rfl, .of_same (same_upd hD), B3.same (same_upd hD), upd_same⟩ (fun _ _ _ _ => True.intro) ?_ ?_
      · rintro t x H4 H' ht ⟨zs, hzs, kp, Bt, eD⟩ ⟨rfl, rfl⟩
        refine ⟨rfl, ?_⟩
        refine ⟨_, rfl, _, rfl, four 3 (by decide), fun tl htl => ?_⟩
        have s5 := same_upd (o := .lst [.int 1, .int 2, .int 3]) htl
        have B5 := Bt.same s5
        refine ⟨b, l, tl, ns, _, rfl, B5, SqL.of upd_same, Bt.ne_new htl, by simp, (by show 3 ≤ 1000; decide), fun j w o hj BO => ?_⟩
        obtain ⟨mm, rfl, hm⟩ : ∃ mm : Int, w = .int mm ∧ 1 ≤ mm ∧ mm ≤ 3 := by
          have := List.mem_of_getElem? hj
          simp only [List.mem_cons, List.not_mem_nil, or_false] at this
          rcases this with rfl | rfl | rfl
          · exact ⟨1, rfl, by decide, by decide⟩
          · exact ⟨2, rfl, by decide, by decide⟩
          · exact ⟨3, rfl, by decide, by decide⟩
        have B6 := B5.upd BO
        refine ⟨b, l, ns, mm, rfl, B6, by omega, by omega, fun z o2 z0 z1 BO2 => ?_⟩
        have B7 := B6.upd BO2
        have k7 : KeepB b H' (upd (upd (upd H' tl (.lst [.int 1, .int 2, .int 3])) b o) b o2) := (KeepB.of_same s5).trans (KeepB.updb.trans .updb)
        refine ⟨_, k7 _ _ Db eD, ?_, zs ++ [z], by simp [hzs], ?_, ?_, ?_⟩
        · rw [List.length_map]
          exact small1000 (by omega)
        · intro e oo ne he
          rw [upd_ne (ne_of_none he hD)]
          exact k7 _ _ ne (kp _ _ ne he)
        · obtain ⟨ob, hob, hB⟩ := B7.ob
          exact ⟨⟨ob, by rw [upd_ne Db.symm]; exact hob, hB⟩, by rw [upd_ne Dl.symm]; exact B7.sc, B7.ln⟩
        · rw [upd_same, List.map_append]
          rfl
      · rintro H4 ⟨zs, hzs, kp4, B4, eD4⟩
        have tb4 := tabs_keep tb3 B3 kp4
        have zne : zs ≠ [] := fun e => by
          rw [e] at hzs
          have h0 : ([] : List Int).length = 0 := rfl
          omega
        have zl : zs.length ≤ 4 := by omega
        -- head
        refine ⟨_, rfl, b, l, ns, 9, rfl, B4, by decide, by decide, fun v5 o5 v50 v51 BO5 => ⟨v5, rfl, by omega, by omega, fun D2 hD2 => ?_⟩⟩
        have B5 := B4.upd BO5
        have k5 : KeepB b H4 (upd H4 b o5) := .updb
        have tb5 := tabs_keep tb4 B4 k5
        have eD5 := k5 _ _ Db eD4
        generalize upd H4 b o5 = H5 at *
        have D2b : D2 ≠ b := B5.ne_new hD2
        have D2l : D2 ≠ l := fun z => by rw [z, B5.sc] at hD2; cases hD2
        refine lc_it (walk_range (lo := 0) (n := v5.toNat)) (fun t H' => ∃ hs : List Int, hs.length = t ∧ KeepB b H5 H' ∧ BagAt H' b l ns ∧ H' D2 = some (.lst (hs.map V.int)))
          ⟨[], rfl, .of_same (same_upd hD2), B5.same (same_upd hD2), upd_same⟩ (fun _ _ _ _ => True.intro) ?_ ?_
        · rintro t x H6 H' ht ⟨hs, hhs, kp, Bt, eD2⟩ ⟨rfl, rfl⟩
          refine ⟨rfl, ?_⟩
          refine ⟨_, rfl, _, rfl, b, l, D, ns, _, rfl, Bt, SqL.of (kp _ _ Db eD5), Db, (by intro e; exact zne (List.map_eq_nil_iff.mp e)), (by rw [List.length_map]; omega), fun j w o hj BO => ?_⟩
          obtain ⟨z, _, rfl⟩ := List.mem_map.mp (List.mem_of_getElem? hj)
          have k7 : KeepB b H' (upd H' b o) := .updb
          have B7 := Bt.upd BO
          refine ⟨_, k7 _ _ D2b eD2, ?_, hs ++ [z], by simp [hhs], ?_, ?_, ?_⟩
          · rw [List.length_map]
            exact small1000 (by omega)
          · intro e oo ne he
            rw [upd_ne (ne_of_none he hD2)]
            exact k7 _ _ ne (kp _ _ ne he)
          · obtain ⟨ob, hob, hB⟩ := B7.ob
            exact ⟨⟨ob, by rw [upd_ne D2b.symm]; exact hob, hB⟩, by rw [upd_ne D2l.symm]; exact B7.sc, B7.ln⟩
          · rw [upd_same, List.map_append]
            rfl
        · rintro H6 ⟨hs, hhs, kp6, B6, eD6⟩
          have tb6 := tabs_keep tb5 B5 kp6
          have eDD := kp6 _ _ Db eD5
          have hsl : hs.length ≤ 8 := by omega
          refine ⟨D2, _, rfl, .inl ⟨SqL.of eD6, fun hd hhd => ?_⟩⟩
          have s7 := same_upd (o := .tup (hs.map V.int)) hhd
          have hd7 : TI (upd H6 hd (.tup (hs.map V.int))) hd hs := upd_same
          have B7 := B6.same s7
          have tb7 := tb6.ext s7
          have e7 := s7 _ _ eDD
          generalize upd H6 hd (.tup (hs.map V.int)) = H7 at *
          -- row
          refine ⟨_, rfl, _, rfl, D, _, rfl, .inl ⟨SqL.of e7, fun ts hts => ?_⟩⟩
          have s8 := same_upd (o := .tup (zs.map V.int)) hts
          have t8 : TI (upd H7 ts (.tup (zs.map V.int))) ts zs := upd_same
          have B8 := B7.same s8
          have tb8 := tb7.ext s8
          have hd8 := hd7.same s8
          generalize upd H7 ts (.tup (zs.map V.int)) = H8 at *
          refine ⟨_, rfl, b, l, ns, 2, rfl, B8, by decide, by decide, fun v9 o9 v90 v91 BO9 => ?_⟩
          have B9 := B8.upd BO9
          have k9 : KeepB b H8 (upd H8 b o9) := .updb
          have tb9 := tabs_keep tb8 B8 k9
          have t9 := t8.keep B8 k9
          have hd9 := hd8.keep B8 k9
          generalize upd H8 b o9 = H9 at *
          refine ⟨_, _, rfl, rfl, repA t9 zne (by omega) (by omega) (by omega) fun cy H10 s10 c10 => ?_⟩
          refine ⟨four 2 (by decide), fun r hr => ?_⟩
          obtain ⟨kq, hkq, kq1, kq2⟩ : ∃ kq : Nat, (1 + v9).toNat = kq ∧ 1 ≤ kq ∧ kq ≤ 2 := ⟨_, rfl, by omega, by omega⟩
          rw [hkq] at c10
          obtain ⟨ys, hys⟩ : ∃ ys, (List.replicate kq zs).flatten = ys := ⟨_, rfl⟩
          rw [hys] at c10
          have ysl : ys.length = kq * zs.length := by rw [← hys, rep_len]
          have zs0 := len_pos' zne
          have ysl1 : 1 ≤ ys.length := by rw [ysl]; exact Nat.mul_pos kq1 zs0
          have ysl8 : ys.length ≤ 8 := by rw [ysl]; exact Nat.mul_le_mul kq2 zl
          have yne : ys ≠ [] := fun e => by rw [e] at ysl1; exact absurd ysl1 (by decide)
          have s11 := same_upd (o := .tup [.ref hd, .ref cy]) hr
          have row11 : RowAt (upd H10 r (.tup [.ref hd, .ref cy])) r hs ys := ⟨hd, cy, upd_same, (hd9.same s10).same s11, c10.same s11⟩
          have B11 := (B9.same s10).same s11
          have tb11 := (tb9.ext s10).ext s11
          generalize upd H10 r (.tup [.ref hd, .ref cy]) = H11 at *
          refine ⟨fun σ H' => ∃ (v2 v3 v6 v7 v8 v10 v11 : Option V) (rd : Addr) (m p : Nat), σ = [some (.ref a), some (.ref b), v2, v3, some (.ref hd), some (.ref rd), v6, v7, v8, some (.ref r), v10, v11] ∧ Rw b l Pt qn r rd ns hs ys m p H' ∧ IsNF (sq hs ys) m p ∧ m ≤ hs.length ∧ p ≤ ys.length, ?_, ?_⟩
          · refine ⟨_, rfl, r, hs, ys, rfl, row11, yne, by omega, by omega, fun rd H12 m p s12 nf hm hp due => ?_⟩
            exact ⟨_, _, _, _, _, _, _, rd, m, p, rfl, ⟨B11.same s12, tb11.ext s12, row11.same s12, due⟩, nf, hm, hp⟩
          · rintro σ H12 ⟨v2, v3, v6, v7, v8, v10, v11, rd, m, p, rfl, R, nf, hm, hp⟩
            have pp := nf.p1
            have hms : (seg (sq hs ys) 0 m).length = m := seg_len _ _ _
            have hps : (seg (sq hs ys) m p).length = p := seg_len _ _ _
            have sne : seg (sq hs ys) m p ≠ [] := fun e => by rw [e] at hps; have h0 : ([] : List Int).length = 0 := rfl; omega
            have esq : sq (seg (sq hs ys) 0 m) (seg (sq hs ys) m p) = sq hs ys := sq_seg pp nf.per
            refine ⟨fun σ H' => ∃ (v2 v3 v6 v7 v8 v10 v11 : Option V), σ = [some (.ref a), some (.ref b), v2, v3, some (.ref hd), some (.ref rd), v6, v7, v8, some (.ref r), v10, v11] ∧ Rw b l Pt qn r rd ns hs ys m p H', ?_, ?_⟩
            · refine ⟨_, rfl, r, hs, ys, rfl, R.row, yne, by omega, by omega, fun r1 H13 m1 p1 s13 nf1 _ _ R1 => ?_⟩
              have R1 := nf_row rfl nf nf1 R1
              have RR := R.same s13
              refine ⟨_, rfl, rd, _, _, rfl, RR.due, sne, by omega, by omega, fun r2 H14 m2 p2 s14 nf2 _ _ R2 => ?_⟩
              have R2 := nf_row esq nf nf2 R2
              have R1 := R1.same s14
              have RR := RR.same s14
              refine ⟨_, rfl, _, rfl, b, l, r, ns, hs, ys, rfl, RR.bag, RR.row, yne, by omega, by omega, fun ru H15 xs' ys' k15 B15 Ru eu une ul1 ul2 => ?_⟩
              have R1 := R1.keep RR.bag k15
              have R2 := R2.keep RR.bag k15
              have RR := RR.keep k15 B15
              refine ⟨ru, xs', ys', rfl, Ru, une, by omega, by omega, fun r3 H16 m3 p3 s16 nf3 _ _ R3 => ?_⟩
              have R3 := nf_row eu nf nf3 R3
              have R1 := R1.same s16
              have R2 := R2.same s16
              have RR := RR.same s16
              refine ⟨four 3 (by decide), fun F hF => ?_⟩
              have s17 := same_upd (o := .lst [.ref r1, .ref r2, .ref r3]) hF
              have F17 : upd H16 F (.lst [.ref r1, .ref r2, .ref r3]) F = some (.lst [.ref r1, .ref r2, .ref r3]) := upd_same
              have R1 := R1.same s17
              have R2 := R2.same s17
              have R3 := R3.same s17
              have RR := RR.same s17
              generalize upd H16 F (.lst [.ref r1, .ref r2, .ref r3]) = H17 at *
              refine ⟨_, rfl, four 1 (by decide), fun l1 hl1 => ?_⟩
              have s18 := same_upd (o := .lst [.ref rd]) hl1
              refine ⟨l1, 3, _, rfl, rfl, upd_same, by decide, by decide, four 3 (by decide), fun DD hDD => ?_⟩
              have s19 := same_upd (o := .lst [.ref rd, .ref rd, .ref rd]) hDD
              refine ⟨_, _, rfl, lk_rows ((s19 _ _ (s18 _ _ F17))) (upd_same (o := .lst [.ref rd, .ref rd, .ref rd])) ((R1.same s18).same s19) ((R2.same s18).same s19) ((R3.same s18).same s19) ((RR.due.same s18).same s19) (by omega) (by omega), fun Hc sc => ⟨true, rfl, if_f rfl ?_⟩⟩
              exact ⟨_, _, _, _, _, _, _, rfl, ((RR.same s18).same s19).same sc⟩
            · rintro σ H13 ⟨v2, v3, v6, v7, v8, v10, v11, rfl, R⟩
              -- far
              refine ⟨_, rfl, _, _, rfl, rfl, ⟨by decide, by decide, by decide⟩, b, l, ns, _, rfl, R.bag, by decide +kernel, by decide +kernel, fun far o f0 f1 BO => ?_⟩
              have R := R.keep .updb (R.bag.upd BO)
              generalize upd H13 b o = H14 at *
              have fs := far_small f0 f1
              clear f1
              -- places
              refine ⟨_, rfl, RgOk.of_le (by decide) (by decide) (by decide) (by decide), fun q1 hq1 => ?_⟩
              have s15 := same_upd (o := .lst (rgV 0 20)) hq1
              have e15 : upd H14 q1 (.lst (rgV 0 20)) q1 = some (.lst (rgV 0 20)) := upd_same
              have R := R.same s15
              generalize upd H14 q1 (.lst (rgV 0 20)) = H15 at *
              refine ⟨_, rfl, four 1 (by decide), fun q2 hq2 => ?_⟩
              have s16 := same_upd (o := .lst [.int far]) hq2
              have e16 : upd H15 q2 (.lst [.int far]) q2 = some (.lst [.int far]) := upd_same
              have e15 := s16 _ _ e15
              have R := R.same s16
              generalize upd H15 q2 (.lst [.int far]) = H16 at *
              refine ⟨q1, q2, _, _, rfl, rfl, e15, e16, four 21 (by decide), fun pl hpl => ?_⟩
              rw [plc_rg]
              have s17 := same_upd (o := .lst ((plc far).map V.int)) hpl
              have e17 : upd H16 pl (.lst ((plc far).map V.int)) pl = some (.lst ((plc far).map V.int)) := upd_same
              have R := R.same s17
              generalize upd H16 pl (.lst ((plc far).map V.int)) = H17 at *
              have pos := plc_pos f0
              have pll := plc_len far
              generalize plc far = ps at *
              refine ⟨fun σ H' => ∃ (v2 v3 v6 v7 v10 v11 : Option V), σ = [some (.ref a), some (.ref b), v2, v3, some (.ref hd), some (.ref rd), v6, v7, some (.int far), some (.ref r), v10, v11] ∧ Rw b l Pt qn r rd ns hs ys m p H', ?_, ?_⟩
              · refine ⟨_, rfl, pl, rfl, ⟨_, SqL.of e17⟩, fun D1 hD1 => ?_⟩
                refine lc_it (walk_list (xs := ps.map V.int)) (fun t H' => Same H17 H' ∧ H' D1 = some (.lst (((ps.take t).map fun x => sq hs ys x.toNat).map V.int)))
                  ⟨same_upd hD1, upd_same⟩ (fun t H' _ h => SqL.of (h.1 _ _ e17)) ?_ ?_
                · rintro t x H18 H' ht ⟨st, eD⟩ ⟨rfl, hx⟩
                  rw [List.length_map] at ht
                  rw [List.getElem?_map] at hx
                  obtain ⟨z, hz, rfl⟩ := Option.map_eq_some_iff.mp hx
                  refine ⟨rfl, ?_⟩
                  refine ⟨_, rfl, _, rfl, r, hs, ys, z, rfl, R.row.same st, yne, pos z (List.mem_of_getElem? hz), ?_⟩
                  refine ⟨_, eD, ?_, ?_, ?_⟩
                  · rw [List.length_map, List.length_map, List.length_take]
                    exact small1000 (by omega)
                  · intro e oo he
                    rw [upd_ne (ne_of_none he hD1)]
                    exact st _ _ he
                  · rw [upd_same, List.take_add_one, hz]
                    simp
                · rintro H18 ⟨s18, eD1⟩
                  rw [List.length_map, List.take_length] at eD1
                  have R := R.same s18
                  have e18 := s18 _ _ e17
                  refine ⟨_, rfl, pl, rfl, ⟨_, SqL.of e18⟩, fun D2 hD2 => ?_⟩
                  refine lc_it (walk_list (xs := ps.map V.int)) (fun t H' => Same H18 H' ∧ H' D2 = some (.lst (((ps.take t).map fun x => sq hs ys x.toNat).map V.int)))
                    ⟨same_upd hD2, upd_same⟩ (fun t H' _ h => SqL.of (h.1 _ _ e18)) ?_ ?_
                  · rintro t x H19 H' ht ⟨st, eD⟩ ⟨rfl, hx⟩
                    rw [List.length_map] at ht
                    rw [List.getElem?_map] at hx
                    obtain ⟨z, hz, rfl⟩ := Option.map_eq_some_iff.mp hx
                    refine ⟨rfl, ?_⟩
                    refine ⟨_, rfl, _, rfl, rd, _, _, z, rfl, R.due.same st, sne, pos z (List.mem_of_getElem? hz), ?_⟩
                    rw [esq]
                    refine ⟨_, eD, ?_, ?_, ?_⟩
                    · rw [List.length_map, List.length_map, List.length_take]
                      exact small1000 (by omega)
                    · intro e oo he
                      rw [upd_ne (ne_of_none he hD2)]
                      exact st _ _ he
                    · rw [upd_same, List.take_add_one, hz]
                      simp
                  · rintro H19 ⟨s19, eD2⟩
                    rw [List.length_map, List.take_length] at eD2
                    have R := R.same s19
                    refine ⟨_, _, rfl, lk_lst (s19 _ _ eD1) eD2 (by rw [List.length_map]; omega), fun Hc sc => ⟨true, rfl, if_f rfl ?_⟩⟩
                    exact ⟨_, _, _, _, _, _, rfl, R.same sc⟩
              · rintro σ H18 ⟨v2, v3, v6, v7, v10, v11, rfl, R⟩
                refine ⟨R.tab, fun H19 eN T19 => ?_⟩
                have R := R.extN eN T19
                refine ⟨_, rfl, _, rfl, _, rfl, _, _, rfl, rfl, r, hs, ys, _, rfl, R.row, yne, fs, fun neg d hd' => ?_, fun pos' => ?_⟩
                · refine ⟨d, _, rfl, rfl, upd_same, fun H20 p1 s20 _ e20 => ?_⟩
                  have R := (R.same (same_upd hd')).same s20
                  refine ⟨_, rfl, _, rfl, _, _, rfl, rfl, four 2 (by decide), fun p2 hp2 => ?_⟩
                  have s21 := same_upd (o := .tup [.str "outofrange", .int ((-1) - far)]) hp2
                  refine ne_out (s21 _ _ e20) upd_same ⟨_, rfl, if_f rfl ?_⟩
                  have R := R.same s21
                  exact ⟨_, _, _, _, _, _, _, _, _, _, rfl, R.bag, R.tab⟩
                · exfalso
                  omega
    · rintro σ H2 ⟨v2, v3, v4, v5, v6, v7, v8, v9, v10, v11, rfl, B2, tb2⟩
      refine ⟨_, rfl, b, l, ns, 21, rfl, B2, by decide, by decide, fun v o v0 v1 BO => ⟨_, _, rfl, rfl, 40 + v, rfl, by omega, by omega, fun D hD => ?_⟩⟩
      have B3 := B2.upd BO
      generalize upd H2 b o = H3 at *
      have Db : D ≠ b := B3.ne_new hD
      have Dl : D ≠ l := fun z => by rw [z, B3.sc] at hD; cases hD
      refine lc_it (walk_range (lo := 0) (n := (40 + v).toNat)) (fun t H' => ∃ zs : List Int, zs.length = t ∧ KeepB b H3 H' ∧ BagAt H' b l ns ∧ H' D = some (.lst (zs.map V.int)))
        ⟨[], rfl, .of_same (same_upd hD), B3.same (same_upd hD), upd_same⟩ (fun _ _ _ _ => True.intro) ?_ ?_
      · rintro t x H4 H' ht ⟨zs, hzs, kp, Bt, eD⟩ ⟨rfl, rfl⟩
        refine ⟨rfl, ?_⟩
        refine ⟨_, rfl, b, l, ns, 2, rfl, Bt, by decide, by decide, fun z o2 z0 z1 BO2 => ?_⟩
        have B7 := Bt.upd BO2
        have k7 : KeepB b H' (upd H' b o2) := .updb
        refine ⟨_, k7 _ _ Db eD, ?_, zs ++ [z], by simp [hzs], ?_, ?_, ?_⟩
        · rw [List.length_map]
          exact small1000 (by omega)
        · intro e oo ne he
          rw [upd_ne (ne_of_none he hD)]
          exact k7 _ _ ne (kp _ _ ne he)
        · obtain ⟨ob, hob, hB⟩ := B7.ob
          exact ⟨⟨ob, by rw [upd_ne Db.symm]; exact hob, hB⟩, by rw [upd_ne Dl.symm]; exact B7.sc, B7.ln⟩
        · rw [upd_same, List.map_append]
          rfl
      · rintro H4 ⟨zs, hzs, kp4, B4, eD4⟩
        have zl : zs.length ≤ 60 := by omega
        have zl0 : 40 ≤ zs.length := by omega
        have zne : zs ≠ [] := fun e => by
          rw [e] at zl0
          have h0 : ([] : List Int).length = 0 := rfl
          omega
        refine ⟨D, _, rfl, .inl ⟨SqL.of eD4, fun lr hlr => ?_⟩⟩
        have t5 : TI (upd H4 lr (.tup (zs.map V.int))) lr zs := upd_same
        generalize upd H4 lr (.tup (zs.map V.int)) = H5 at *
        have e5 : cutV (zs.map V.int) none (some 5) = (zs.take 5).map V.int := by
          rw [List.map_take]
          exact cut_lo' (k := 5) (by rw [List.length_map]; omega)
        refine ⟨_, rfl, _, rfl, slA t5 fun h1 H6 s6 e6 => ?_⟩
        have t6 := t5.same s6
        have e6 : TI H6 h1 (zs.take 5) := e6.trans (by rw [e5])
        refine ⟨_, rfl, ?_⟩
        dsimp only [tC]
        refine repT t6 zne (by omega) fun c2 H7 s7 e7 => ?_
        have hll : ((List.replicate 2 zs).flatten).length = 2 * zs.length := rep_len _ _
        have h2ne : (List.replicate 2 zs).flatten ≠ [] := fun e => by
          rw [e] at hll
          have h0 : ([] : List Int).length = 0 := rfl
          omega
        have h5l : (zs.take 5).length = 5 := by rw [List.length_take]; omega
        have es : sq (zs.take 5) ((List.replicate 2 zs).flatten) = sq (zs.take 5) zs := sq_rep zne (by decide)
        have t7 := t6.same s7
        have h7 := e6.same s7
        generalize (List.replicate 2 zs).flatten = z2 at *
        refine ⟨four 2 (by decide), fun r1 hr1 => ?_⟩
        have s8 := same_upd (o := .tup [.ref h1, .ref c2]) hr1
        have R8 : RowAt (upd H7 r1 (.tup [.ref h1, .ref c2])) r1 (zs.take 5) z2 := ⟨h1, c2, upd_same, h7.same s8, e7.same s8⟩
        have t8 := t7.same s8
        generalize upd H7 r1 (.tup [.ref h1, .ref c2]) = H8 at *
        refine ⟨r1, _, _, rfl, R8, h2ne, by omega, by omega, fun r2 H9 m p s9 nf hm hp R9 => ?_⟩
        have t9 := t8.same s9
        refine ⟨_, rfl, _, rfl, slA t9 fun h3 H10 s10 e10 => ?_⟩
        have t10 := t9.same s10
        have e10 : TI H10 h3 (zs.take 5) := e10.trans (by rw [e5])
        refine ⟨_, rfl, four 2 (by decide), fun r3 hr3 => ?_⟩
        have s11 := same_upd (o := .tup [.ref h3, .ref lr]) hr3
        have R11 : RowAt (upd H10 r3 (.tup [.ref h3, .ref lr])) r3 (zs.take 5) zs := ⟨h3, lr, upd_same, e10.same s11, t10.same s11⟩
        have R9 := (R9.same s10).same s11
        generalize upd H10 r3 (.tup [.ref h3, .ref lr]) = H11 at *
        refine ⟨r3, _, _, rfl, R11, zne, by omega, by omega, fun r4 H12 m' p' s12 nf' hm' hp' R12 => ?_⟩
        have R12 := nf_row es.symm nf nf' R12
        have R9 := R9.same s12
        refine ⟨_, _, rfl, lk_row (k := 2) R9 R12 (by rw [seg_len]; omega) (by rw [seg_len]; omega), fun Hc sc => q Hc⟩
end
end Lw
set_option Elab.async false
set_option linter.all false
set_option maxRecDepth 100000
namespace Lw
open PySem L2
theorem exm_own {K : PySem.W.Frag} {C S : Addr} (h1 : PySem.W.subIn K (.ref S) (.type "BaseException") = some true) (h2 : PySem.W.isClsIn K S = true) (h3 : PySem.W.typeIn K (.ref S) = some (.type "type")) (h4 : PySem.W.subIn K (.ref C) (.ref S) = some true) :
    PySem.W.exmOne K (.ref C) (.ref S) = some true := by
  have e1 : (PySem.W.subIn K (.ref S) (.type "BaseException") == some true) = true := by rw [h1] <;> rfl
  have e2 : ((PySem.W.clsIn K S).isSome && PySem.W.typeIn K (.ref S) == some (.type "type")) = true := by
    have h2' : (PySem.W.clsIn K S).isSome = true := h2
    rw [h2', h3] <;> rfl
  show (if (PySem.W.subIn K (.ref S) (.type "BaseException") == some true) = true then (if ((PySem.W.clsIn K S).isSome && PySem.W.typeIn K (.ref S) == some (.type "type")) = true then PySem.W.subIn K (.ref C) (.ref S) else none) else none) = some true
  rw [if_pos e1, if_pos e2]
  exact h4
theorem hd_at {K : PySem.W.Frag} {c P : Addr} (e : PySem.W.codeHdIn K c P = true) : ∃ (e : Value) (dd : Option Addr) (vs : Array Value) (sl : Array (Option Value)), K.lookup c = some ⟨e, dd, .fields vs, sl⟩ ∧ vs[11]? = some (.ref P) := by
  unfold PySem.W.codeHdIn at e
  split at e
  · rename_i vs _ hk
    simp only [Bool.and_eq_true] at e
    obtain ⟨⟨⟨⟨⟨e1, _⟩, _⟩, _⟩, _⟩, _⟩ := e
    split at e1
    · rename_i P' h11
      have hP : P' = P := beq_iff_eq.mp e1
      subst hP
      exact ⟨_, _, _, _, hk, h11⟩
    · cases e1
  · cases e
theorem all_mk {l : PySem.W.OpenLaw} {w : World} {K : PySem.W.Frag} {h : Heap} {mg : Str → Option Value} {fa fB fP fO fL fD fT fE fS fU fN fW fA fH fM fG fI fJ C CW cW Pt TJ : Addr} (X : K.In h) (G : h.Ns mainGlobals mg) (hfa : mg "law" = some (.ref fa)) (own : LamX.OwnTab K fa h)
    {odB anB : Option Addr} {slB : Array (Option Value)} {ocB kVB dcB pmB cdB ctB : Value}
    {odP anP : Option Addr} {slP : Array (Option Value)} {ocP kVP dcP pmP cdP ctP : Value}
    {odO anO : Option Addr} {slO : Array (Option Value)} {ocO kVO dcO pmO cdO ctO : Value}
    {odL anL : Option Addr} {slL : Array (Option Value)} {ocL kVL dcL pmL cdL ctL : Value}
    {odD anD : Option Addr} {slD : Array (Option Value)} {ocD kVD dcD pmD cdD ctD : Value}
    {odT anT : Option Addr} {slT : Array (Option Value)} {ocT kVT dcT pmT cdT ctT : Value}
    {odE anE : Option Addr} {slE : Array (Option Value)} {ocE kVE dcE pmE cdE ctE : Value}
    {odS anS : Option Addr} {slS : Array (Option Value)} {ocS kVS dcS pmS cdS ctS : Value}
    {odU anU : Option Addr} {slU : Array (Option Value)} {ocU kVU dcU pmU cdU ctU : Value}
    {odN anN : Option Addr} {slN : Array (Option Value)} {ocN kVN dcN pmN cdN ctN : Value}
    {odW anW : Option Addr} {slW : Array (Option Value)} {ocW kVW dcW pmW  ctW : Value}
    {odA anA : Option Addr} {slA : Array (Option Value)} {ocA kVA dcA pmA cdA ctA : Value}
    {odH anH : Option Addr} {slH : Array (Option Value)} {ocH kVH dcH pmH cdH ctH : Value}
    {odM anM : Option Addr} {slM : Array (Option Value)} {ocM kVM dcM pmM cdM ctM : Value}
    {odG anG : Option Addr} {slG : Array (Option Value)} {ocG kVG dcG pmG cdG ctG : Value}
    {nmc qc : Str} {Nc : Addr} {bsc bmc : List Value} {snc : List Str} {subc : List Value} {abc : Bool} {colc : Option Bool} {ddc : Option Addr} {m0 m1 m2 m3 m5 : Option Value}
    {odI anI : Option Addr} {slI : Array (Option Value)} {ocI kVI dcI pmI cdI ctI : Value}
    {odJ anJ : Option Addr} {slJ : Array (Option Value)} {ocJ kVJ dcJ pmJ cdJ ctJ : Value} {odK : Option Addr} {slK : Array (Option Value)} {ocK : Value} {nK : Nat} {t1 t2 : Tok}
    (aB : PySem.W.nsIn K mainGlobals "_law_bag" = some (some (.ref fB)))
    (lB : K.lookup fB = some ⟨ocB, odB, .func (PySem.W.fnOf "_law_bag" "_law_bag" (defArgs sBag) (defBody sBag) (defScope sBag) .none kVB dcB pmB anB cdB ctB), slB⟩)
    (cB : PySem.W.codeIn K cdB "_law_bag" = true)
    (kB : PySem.W.keepIn K (.ref fB) = true)
    (aP : PySem.W.nsIn K mainGlobals "_law_pull" = some (some (.ref fP)))
    (lP : K.lookup fP = some ⟨ocP, odP, .func (PySem.W.fnOf "_law_pull" "_law_pull" (defArgs sPull) (defBody sPull) (defScope sPull) .none kVP dcP pmP anP cdP ctP), slP⟩)
    (cP : PySem.W.codeIn K cdP "_law_pull" = true)
    (kP : PySem.W.keepIn K (.ref fP) = true)
    (aO : PySem.W.nsIn K mainGlobals "_law_of" = some (some (.ref fO)))
    (lO : K.lookup fO = some ⟨ocO, odO, .func (PySem.W.fnOf "_law_of" "_law_of" (defArgs sOf) (defBody sOf) (defScope sOf) .none kVO dcO pmO anO cdO ctO), slO⟩)
    (cO : PySem.W.codeIn K cdO "_law_of" = true)
    (kO : PySem.W.keepIn K (.ref fO) = true)
    (aL : PySem.W.nsIn K mainGlobals "_law_like" = some (some (.ref fL)))
    (lL : K.lookup fL = some ⟨ocL, odL, .func (PySem.W.fnOf "_law_like" "_law_like" (defArgs sLike) (defBody sLike) (defScope sLike) .none kVL dcL pmL anL cdL ctL), slL⟩)
    (cL : PySem.W.codeIn K cdL "_law_like" = true)
    (kL : PySem.W.keepIn K (.ref fL) = true)
    (aD : PySem.W.nsIn K mainGlobals "_law_field" = some (some (.ref fD)))
    (lD : K.lookup fD = some ⟨ocD, odD, .func (PySem.W.fnOf "_law_field" "_law_field" (defArgs sField) (defBody sField) (defScope sField) .none kVD dcD pmD anD cdD ctD), slD⟩)
    (cD : PySem.W.codeIn K cdD "_law_field" = true)
    (kD : PySem.W.keepIn K (.ref fD) = true)
    (aT : PySem.W.nsIn K mainGlobals "_law_tried" = some (some (.ref fT)))
    (lT : K.lookup fT = some ⟨ocT, odT, .func (PySem.W.fnOf "_law_tried" "_law_tried" (defArgs sTried) (defBody sTried) (defScope sTried) .none kVT dcT pmT anT cdT ctT), slT⟩)
    (cT : PySem.W.codeIn K cdT "_law_tried" = true)
    (kT : PySem.W.keepIn K (.ref fT) = true)
    (aE : PySem.W.nsIn K mainGlobals "_law_edge" = some (some (.ref fE)))
    (lE : K.lookup fE = some ⟨ocE, odE, .func (PySem.W.fnOf "_law_edge" "_law_edge" (defArgs sLEdge) (defBody sLEdge) (defScope sLEdge) .none kVE dcE pmE anE cdE ctE), slE⟩)
    (cE : PySem.W.codeIn K cdE "_law_edge" = true)
    (kE : PySem.W.keepIn K (.ref fE) = true)
    (aS : PySem.W.nsIn K mainGlobals "_law_first" = some (some (.ref fS)))
    (lS : K.lookup fS = some ⟨ocS, odS, .func (PySem.W.fnOf "_law_first" "_law_first" (defArgs sLFirst) (defBody sLFirst) (defScope sLFirst) .none kVS dcS pmS anS cdS ctS), slS⟩)
    (cS : PySem.W.codeIn K cdS "_law_first" = true)
    (kS : PySem.W.keepIn K (.ref fS) = true)
    (aU : PySem.W.nsIn K mainGlobals "_law_unrolled" = some (some (.ref fU)))
    (lU : K.lookup fU = some ⟨ocU, odU, .func (PySem.W.fnOf "_law_unrolled" "_law_unrolled" (defArgs sUnr) (defBody sUnr) (defScope sUnr) .none kVU dcU pmU anU cdU ctU), slU⟩)
    (cU : PySem.W.codeIn K cdU "_law_unrolled" = true)
    (kU : PySem.W.keepIn K (.ref fU) = true)
    (aN : PySem.W.nsIn K mainGlobals "_law_tried_normal" = some (some (.ref fN)))
    (lN : K.lookup fN = some ⟨ocN, odN, .func (PySem.W.fnOf "_law_tried_normal" "_law_tried_normal" (defArgs sTN) (defBody sTN) (defScope sTN) .none kVN dcN pmN anN cdN ctN), slN⟩)
    (cN : PySem.W.codeIn K cdN "_law_tried_normal" = true)
    (kN : PySem.W.keepIn K (.ref fN) = true)
    (aW : PySem.W.nsIn K mainGlobals "law" = some (some (.ref fW)))
    (lW : K.lookup fW = some ⟨ocW, odW, .func (PySem.W.fnOf "law" "law" (defArgs sLaw) (defBody sLaw) (defScope sLaw) .none kVW dcW pmW anW (.ref cW) ctW), slW⟩)
    (cW' : PySem.W.codeIn K (.ref cW) "law" = true)
    (kW : PySem.W.keepIn K (.ref fW) = true)
    (aA : PySem.W.nsIn K mainGlobals "turned" = some (some (.ref fA)))
    (lA : K.lookup fA = some ⟨ocA, odA, .func (PySem.W.fnOf "turned" "turned" (defArgs sTurned) (defBody sTurned) (defScope sTurned) .none kVA dcA pmA anA cdA ctA), slA⟩)
    (cA : PySem.W.codeIn K cdA "turned" = true)
    (kA : PySem.W.keepIn K (.ref fA) = true)
    (aH : PySem.W.nsIn K mainGlobals "shortest_cycle" = some (some (.ref fH)))
    (lH : K.lookup fH = some ⟨ocH, odH, .func (PySem.W.fnOf "shortest_cycle" "shortest_cycle" (defArgs sShort) (defBody sShort) (defScope sShort) .none kVH dcH pmH anH cdH ctH), slH⟩)
    (cH : PySem.W.codeIn K cdH "shortest_cycle" = true)
    (kH : PySem.W.keepIn K (.ref fH) = true)
    (aM : PySem.W.nsIn K mainGlobals "normal_row" = some (some (.ref fM)))
    (lM : K.lookup fM = some ⟨ocM, odM, .func (PySem.W.fnOf "normal_row" "normal_row" (defArgs sNormal) (defBody sNormal) (defScope sNormal) .none kVM dcM pmM anM cdM ctM), slM⟩)
    (cM : PySem.W.codeIn K cdM "normal_row" = true)
    (kM : PySem.W.keepIn K (.ref fM) = true)
    (aG : PySem.W.nsIn K mainGlobals "edge_at" = some (some (.ref fG)))
    (lG : K.lookup fG = some ⟨ocG, odG, .func (PySem.W.fnOf "edge_at" "edge_at" (defArgs sEdgeAt) (defBody sEdgeAt) (defScope sEdgeAt) .none kVG dcG pmG anG cdG ctG), slG⟩)
    (cG : PySem.W.codeIn K cdG "edge_at" = true)
    (kG : PySem.W.keepIn K (.ref fG) = true)
    (tW : PySem.W.tabIn K "law" = some (cW, Pt))
    (hW : PySem.W.codeHdIn K cW Pt = true)
    (nP : K.lookup Pt = none)
    (aC : PySem.W.nsIn K mainGlobals "OutOfRange" = some (some (.ref C)))
    (aX : PySem.W.nsIn K mainGlobals "WindowError" = some (some (.ref CW)))
    (xL : K.lookup C = some (excClassObj nmc qc C Nc bsc bmc true snc subc abc colc ddc m0 m1 m2 m3 m5 "ValueError.__new__"))
    (rV : PySem.HandSPX.refsVE bmc = true)
    (sa : PySem.W.findIn K (.ref C) "__setattr__" = some (some (.builtin "object.__setattr__")))
    (ga : PySem.W.findIn K (.ref C) "__getattribute__" = some (some (.builtin "BaseException.__getattribute__")))
    (gg : PySem.W.findIn K (.ref C) "__getattr__" = some none)
    (nw : PySem.W.findIn K (.ref C) "word" = some none)
    (nn : PySem.W.findIn K (.ref C) "number" = some none)
    (kC : PySem.W.keepIn K (.ref C) = true)
    (eC : PySem.W.subIn K (.ref C) (.type "BaseException") = some true)
    (tC : PySem.W.typeIn K (.ref C) = some (.type "type"))
    (hC : PySem.W.hasDictIn K C = true)
    (eX : PySem.W.subIn K (.ref CW) (.type "BaseException") = some true)
    (tX : PySem.W.typeIn K (.ref CW) = some (.type "type"))
    (iX : PySem.W.isClsIn K CW = true)
    (sX : PySem.W.subIn K (.ref C) (.ref CW) = some true)
    (aI : PySem.W.findIn K (.ref C) "__init__" = some (some (.ref fI)))
    (tI : PySem.W.typeIn K (.ref fI) = some (.type "function"))
    (lI : K.lookup fI = some ⟨ocI, odI, .func (PySem.W.fnOf "__init__" "OutOfRange.__init__" (defArgs sOor) (defBody sOor) (defScope sOor) .none kVI dcI pmI anI cdI ctI), slI⟩)
    (cI : PySem.W.codeIn K cdI "OutOfRange.__init__" = true)
    (kI : PySem.W.keepIn K (.ref fI) = true)
    (aJ : PySem.W.findCls K (.ref CW) (.type "type") "__init__" = some (.val (.ref fJ)))
    (lJ : K.lookup fJ = some ⟨ocJ, odJ, .func (PySem.W.fnOf "__init__" "WindowError.__init__" (defArgs sWin) (defBody sWin) (defScope sWin) (.ref TJ) kVJ dcJ pmJ anJ cdJ ctJ), slJ⟩)
    (lK : K.lookup TJ = some ⟨ocK, odK, .seq #[.str "windowerror" t1, .str "" t2] nK, slK⟩)
    (cJ : PySem.W.codeIn K cdJ "WindowError.__init__" = true)
    (kJ : PySem.W.keepIn K (.ref fJ) = true)
    (rd : PySem.W.readsIn K CW (.type "type") = true)
    (gt : PySem.W.specialIn K (.ref CW) "__getattribute__" = some (some (.builtin "type.__getattribute__")))
    (vV : PySem.W.findCls K (.type "ValueError") (.type "type") "__init__" = some (.val (.builtin "ValueError.__init__")))
    (z0 : PySem.W.nsIn K mainGlobals "len" = some none)
    (z1 : PySem.W.nsIn K mainGlobals "list" = some none)
    (z2 : PySem.W.nsIn K mainGlobals "tuple" = some none)
    (z3 : PySem.W.nsIn K mainGlobals "bool" = some none)
    (z4 : PySem.W.nsIn K mainGlobals "int" = some none)
    (z5 : PySem.W.nsIn K mainGlobals "str" = some none)
    (z6 : PySem.W.nsIn K mainGlobals "isinstance" = some none)
    (z7 : PySem.W.nsIn K mainGlobals "all" = some none)
    (z8 : PySem.W.nsIn K mainGlobals "zip" = some none)
    (z9 : PySem.W.nsIn K mainGlobals "range" = some none)
    (z10 : PySem.W.nsIn K mainGlobals "ValueError" = some none) :
    LamX.LawAtS l w K CX0 10 63 "_law_script" mg fa h := by
  have e := hfa.symm.trans (PySem.W.mg_of X G aW)
  cases e
  have T : Bi mg := ⟨PySem.W.mg_none_of X G z0, PySem.W.mg_none_of X G z1, PySem.W.mg_none_of X G z2, PySem.W.mg_none_of X G z3, PySem.W.mg_none_of X G z4, PySem.W.mg_none_of X G z5, PySem.W.mg_none_of X G z6, PySem.W.mg_none_of X G z7, PySem.W.mg_none_of X G z8, PySem.W.mg_none_of X G z9⟩
  have TO : OexC K C := ⟨⟨nmc, qc, Nc, bsc, bmc, snc, subc, abc, colc, ddc, m0, m1, m2, m3, m5, xL, rV⟩, sa, eC, tC, kC⟩
  have xf : XfC K C := ⟨ga, gg, eC, hC⟩
  have FB := fun_mk (st := sBag) lB cB kB
  have bB := FB.binds (ps := ["_law_script"]) fun _ _ _ _ _ _ us hl => match us, hl with | [_], _ => rfl
  have FP := fun_mk (st := sPull) lP cP kP
  have bP := FP.binds (ps := ["_law_bag_here", "_law_many"]) fun _ _ _ _ _ _ us hl => match us, hl with | [_, _], _ => rfl
  have FO := fun_mk (st := sOf) lO cO kO
  have bO := FO.binds (ps := ["_law_bag_here", "_law_things"]) fun _ _ _ _ _ _ us hl => match us, hl with | [_, _], _ => rfl
  have FL := fun_mk (st := sLike) lL cL kL
  have bL := FL.binds (ps := ["_law_found", "_law_due"]) fun _ _ _ _ _ _ us hl => match us, hl with | [_, _], _ => rfl
  have FD := fun_mk (st := sField) lD cD kD
  have bD := FD.binds (ps := ["_law_e"]) fun _ _ _ _ _ _ us hl => match us, hl with | [_], _ => rfl
  have FT := fun_mk (st := sTried) lT cT kT
  have bT := FT.binds (ps := ["_law_ask"]) fun _ _ _ _ _ _ us hl => match us, hl with | [_], _ => rfl
  have FE := fun_mk (st := sLEdge) lE cE kE
  have bE := FE.binds (ps := ["_law_row", "_law_at"]) fun _ _ _ _ _ _ us hl => match us, hl with | [_, _], _ => rfl
  have FS := fun_mk (st := sLFirst) lS cS kS
  have bS := FS.binds (ps := ["_law_row", "_law_size"]) fun _ _ _ _ _ _ us hl => match us, hl with | [_, _], _ => rfl
  have FU := fun_mk (st := sUnr) lU cU kU
  have bU := FU.binds (ps := ["_law_bag_here", "_law_row"]) fun _ _ _ _ _ _ us hl => match us, hl with | [_, _], _ => rfl
  have FN := fun_mk (st := sTN) lN cN kN
  have bN := FN.binds (ps := ["_law_row"]) fun _ _ _ _ _ _ us hl => match us, hl with | [_], _ => rfl
  have FA := fun_mk (st := sTurned) lA cA kA
  have bA := FA.binds (ps := ["cycle", "count"]) fun _ _ _ _ _ _ us hl => match us, hl with | [_, _], _ => rfl
  have FH := fun_mk (st := sShort) lH cH kH
  have bH := FH.binds (ps := ["cycle"]) fun _ _ _ _ _ _ us hl => match us, hl with | [_], _ => rfl
  have FM := fun_mk (st := sNormal) lM cM kM
  have bM := FM.binds (ps := ["row"]) fun _ _ _ _ _ _ us hl => match us, hl with | [_], _ => rfl
  have FG := fun_mk (st := sEdgeAt) lG cG kG
  have bG := FG.binds (ps := ["row", "place"]) fun _ _ _ _ _ _ us hl => match us, hl with | [_, _], _ => rfl
  have FI := fun_mk (st := sOor) lI cI kI
  have bI := FI.binds (ps := ["self", "number"]) fun _ _ _ _ _ _ us hl => match us, hl with | [_, _], _ => rfl

  have FJ : FunD K "__init__" "WindowError.__init__" (defArgs sWin) (defBody sWin) (defScope sWin) [.str "windowerror", .str ""] [] fJ (PySem.W.fnOf "__init__" "WindowError.__init__" (defArgs sWin) (defBody sWin) (defScope sWin) (.ref TJ) kVJ dcJ pmJ anJ cdJ ctJ) :=
    ⟨⟨_, _, _, _, _, _, _, _, _, _, rfl, lJ, cJ, .inr ⟨by simp, TJ, _, [.str "windowerror" t1, .str "" t2], _, rfl, lK, rfl, .cons ⟨_, rfl⟩ (.cons ⟨_, rfl⟩ .nil)⟩, .inl rfl⟩, kJ⟩
  have bJ : Binds K (PySem.W.fnOf "__init__" "WindowError.__init__" (defArgs sWin) (defBody sWin) (defScope sWin) (.ref TJ) kVJ dcJ pmJ anJ cdJ ctJ) ["self", "word", "told"] [] := by
    obtain ⟨ds, hv, hb⟩ := FJ.binds1 (ps := ["self", "word", "told"]) 3 2 (by simp) rfl (fun _ _ _ _ _ _ _ us its hu hi => match us, its, hu, hi with | [_, _, _], [_, _], _, _ => ⟨_, rfl, rfl⟩)
    cases hv
    exact hb
  obtain ⟨ev, dv, vsv, slv, e1, e2⟩ := hd_at hW
  have hP := own cW Pt _ _ _ _ _ _ lW rfl rfl e1 e2
  refine ⟨PySem.W.fnOf "law" "law" (defArgs sLaw) (defBody sLaw) (defScope sLaw) .none kVW dcW pmW anW (.ref cW) ctW, [(cW, Pt)], spLaw K Pt, fun p hp => by rw [List.mem_singleton.mp hp]; exact hP, fun p hp => by rw [List.mem_singleton.mp hp]; exact nP, fun p hp => by rw [List.mem_singleton.mp hp]; exact PySem.W.codeHd_of_K X hW, fun s v => .of_eq rfl, fun H a ns hl _ hH hS => ⟨a, ns, rfl, hS, hl, hH _ (List.mem_singleton.mpr rfl), fun _ => rfl⟩, fun base _ _ TB => ?_⟩
  have cP' : C8.Cal l.prog w K mg base 1 "_law_pull" spPull [] := ⟨fP, _, _, [], ok_pull (k := 0) FP T.len, PySem.W.mg_of X G aP, kP, bP, .nil⟩
  have cB' : C8.Cal l.prog w K mg base 1 "_law_bag" (spBag K) [] := ⟨fB, _, _, [], ok_bag (k := 0) FB T, PySem.W.mg_of X G aB, kB, bB, .nil⟩
  have cO' : C8.Cal l.prog w K mg base 2 "_law_of" (spOf K) [] := ⟨fO, _, _, [], ok_of (k := 0) FO T cP', PySem.W.mg_of X G aO, kO, bO, .nil⟩
  have l0 : C8.Cal l.prog w K mg base 1 "_law_like" (spLike 0) [] := ⟨fL, _, _, [], like0 (k := 0) FL, PySem.W.mg_of X G aL, kL, bL, .nil⟩
  have l1 : C8.Cal l.prog w K mg base 2 "_law_like" (spLike 1) [] := ⟨fL, _, _, [], ok_like (n := 1) (k := 0) FL T (fun _ => l0), PySem.W.mg_of X G aL, kL, bL, .nil⟩
  have l2 : C8.Cal l.prog w K mg base 3 "_law_like" (spLike 2) [] := ⟨fL, _, _, [], ok_like (n := 2) (k := 1) FL T (fun _ => l1), PySem.W.mg_of X G aL, kL, bL, .nil⟩
  have l3 : C8.Cal l.prog w K mg base 4 "_law_like" (spLike 3) [] := ⟨fL, _, _, [], ok_like (n := 3) (k := 2) FL T (fun _ => l2), PySem.W.mg_of X G aL, kL, bL, .nil⟩
  have l4 : C8.Cal l.prog w K mg base 5 "_law_like" (spLike 4) [] := ⟨fL, _, _, [], ok_like (n := 4) (k := 3) FL T (fun _ => l3), PySem.W.mg_of X G aL, kL, bL, .nil⟩
  have l5 : C8.Cal l.prog w K mg base 6 "_law_like" (spLike 5) [] := ⟨fL, _, _, [], ok_like (n := 5) (k := 4) FL T (fun _ => l4), PySem.W.mg_of X G aL, kL, bL, .nil⟩
  have cE' : C8.Cal l.prog w K mg base 1 "_law_edge" spLEdge [] := ⟨fE, _, _, [], ok_ledge (k := 0) FE T, PySem.W.mg_of X G aE, kE, bE, .nil⟩
  have cS' : C8.Cal l.prog w K mg base 2 "_law_first" spLFirst [] := ⟨fS, _, _, [], ok_lfirst (k := 0) FS T cE', PySem.W.mg_of X G aS, kS, bS, .nil⟩
  have cU' : C8.Cal l.prog w K mg base 3 "_law_unrolled" spUnr [] := ⟨fU, _, _, [], ok_unr (k := 0) FU T cP' cS', PySem.W.mg_of X G aU, kU, bU, .nil⟩
  have cN' : C8.Cal l.prog w K mg base 3 "_law_tried_normal" spTN [] := ⟨fN, _, _, [], ok_tn (k := 0) FN T cE' cS', PySem.W.mg_of X G aN, kN, bN, .nil⟩
  have cA' : C8.Cal l.prog w K mg base 1 "turned" spTurned [] := ⟨fA, _, _, [], ok_turned (k := 0) FA T, PySem.W.mg_of X G aA, kA, bA, .nil⟩
  have cH' : C8.Cal l.prog w K mg base 1 "shortest_cycle" spShort [] := ⟨fH, _, _, [], ok_short (k := 0) FH T, PySem.W.mg_of X G aH, kH, bH, .nil⟩
  have cM' : C8.Cal l.prog w K mg base 2 "normal_row" spNormal [] := ⟨fM, _, _, [], ok_normal (k := 0) FM T cA' cH', PySem.W.mg_of X G aM, kM, bM, .nil⟩
  have cG' : C8.Cal l.prog w K mg base 1 "edge_at" spEdge0 [] := ⟨fG, _, _, [], ok_edge0 (k := 0) FG T, PySem.W.mg_of X G aG, kG, bG, .nil⟩
  have oJ := ok_win (P := l.prog) (w := w) (mg := mg) (base := base) (k := 0) FJ (PySem.W.mg_none_of X G z10) vV
  have oI := ok_oor (P := l.prog) (w := w) (mg := mg) (base := base) (k := 0) FI TO nw nn (PySem.W.mg_of X G aX) ⟨rd, gt⟩ ⟨aJ, rfl⟩ kJ oJ bJ
  have oG := ok_edgeAt (P := l.prog) (w := w) (mg := mg) (base := base) (k := 0) FG T TO (PySem.W.mg_of X G aC) aI tI oI bI
  exact ok_law lW cW' (TB _ (List.mem_singleton.mpr rfl)) (C := C) ⟨T, cB', cP', cO', l5, cN', cU', cE', cM', cG', ⟨fG, _, oG, PySem.W.mg_of X G aG, kG, bG⟩, ⟨fT, _, _, _, _, _, _, _, _, _, _, PySem.W.mg_of X G aT, kT, lT, cT, bT⟩,
    ⟨CW, fD, _, PySem.W.mg_of X G aX, exm_own eX iX tX sX, xf, nw, PySem.W.mg_of X G aD, kD, bD, fun a dd => ok_field (k := 0) FD xf nw nn⟩⟩
theorem walk {l : PySem.W.OpenLaw} {q : Program} {loose : List Str} {XP : (Str → Option Value) → Heap → Prop} {YP : World → Heap → Prop} {d : DefRec} {K : Params → PySem.W.Frag} (hn : l.most = some 63) (hdf : d.params.defaults = []) (hrec : ((PyProof.Rows.recsOf q).any fun e => e.name == d.name) = true)
    (hY : ∀ (w : World) (h : Heap), YP w h → (K w.params).In h)
    (F : ∀ (w : World) (mg : Str → Option Value) (fa : Addr) (h : Heap), YP w h → (K w.params).In h → h.Ns mainGlobals mg → mg d.name = some (.ref fa) → LamX.OwnTab (K w.params) fa h → LamX.LawAtS l w (K w.params) CX0 10 63 "_law_script" mg fa h) :
    PySem.W.WalkO q loose XP YP l.row.toRowW d [] (fun f vs => PySem.call f vs) :=
  LamX.walk_ofOwn (n := 63) (k := 10) (x := "_law_script") (CX := fun _ => CX0) hn (by decide) hdf ⟨rfl, by decide, by decide⟩ hrec hY F fun _ _ _ _ _ z => z
end Lw
open PySem PySem.W PyProof.Rows
set_option Elab.async false
set_option maxRecDepth 100000 in
set_option maxHeartbeats 0 in
theorem PySem.Challenge.cw_windowkin_k08_normal_forms_of_rows_holds : PySem.Challenge.rw_windowkin_k08_normal_forms_of_rows.Holds := by
  w_on; o_law; k_head; (case hw => w_witness2)
  k_fill
  refine Lw.walk (l := PySem.Challenge.rw_windowkin_k08_normal_forms_of_rows) rfl rfl ?R (fun w h Y => PySem.W.km_in_of Y) ?F
  (case R => first | rfl | decide +kernel)
  case F =>
    intro w mg fa h Y KX G hmg own
    refine' Lw.all_mk KX G hmg own ?aB ?lB ?cB ?kB ?aP ?lP ?cP ?kP ?aO ?lO ?cO ?kO ?aL ?lL ?cL ?kL ?aD ?lD ?cD ?kD ?aT ?lT ?cT ?kT ?aE ?lE ?cE ?kE ?aS ?lS ?cS ?kS ?aU ?lU ?cU ?kU ?aN ?lN ?cN ?kN ?aW ?lW ?cW1 ?kW ?aA ?lA ?cA ?kA ?aH ?lH ?cH ?kH ?aM ?lM ?cM ?kM ?aG ?lG ?cG ?kG ?tW ?hW ?nP ?aC ?aX ?xL ?rV ?sa ?ga ?gg ?nw ?nn ?kC ?eC ?tC ?hC ?eX ?tX ?iX ?sX ?aI ?tI ?lI ?cI ?kI ?aJ ?lJ ?lK ?cJ ?kJ ?rd ?gt ?vV ?z0 ?z1 ?z2 ?z3 ?z4 ?z5 ?z6 ?z7 ?z8 ?z9 ?z10
    (case aB => k_is)
    (case lB => k_is)
    (case cB => k_is)
    (case kB => k_is)
    (case aP => k_is)
    (case lP => k_is)
    (case cP => k_is)
    (case kP => k_is)
    (case aO => k_is)
    (case lO => k_is)
    (case cO => k_is)
    (case kO => k_is)
    (case aL => k_is)
    (case lL => k_is)
    (case cL => k_is)
    (case kL => k_is)
    (case aD => k_is)
    (case lD => k_is)
    (case cD => k_is)
    (case kD => k_is)
    (case aT => k_is)
    (case lT => k_is)
    (case cT => k_is)
    (case kT => k_is)
    (case aE => k_is)
    (case lE => k_is)
    (case cE => k_is)
    (case kE => k_is)
    (case aS => k_is)
    (case lS => k_is)
    (case cS => k_is)
    (case kS => k_is)
    (case aU => k_is)
    (case lU => k_is)
    (case cU => k_is)
    (case kU => k_is)
    (case aN => k_is)
    (case lN => k_is)
    (case cN => k_is)
    (case kN => k_is)
    (case aW => k_is)
    (case lW => k_is)
    (case cW1 => k_is)
    (case kW => k_is)
    (case aA => k_is)
    (case lA => k_is)
    (case cA => k_is)
    (case kA => k_is)
    (case aH => k_is)
    (case lH => k_is)
    (case cH => k_is)
    (case kH => k_is)
    (case aM => k_is)
    (case lM => k_is)
    (case cM => k_is)
    (case kM => k_is)
    (case aG => k_is)
    (case lG => k_is)
    (case cG => k_is)
    (case kG => k_is)
    (case tW => first | k_is | rfl | decide +kernel)
    (case hW => first | k_is | rfl | decide +kernel)
    (case nP => first | k_is | rfl | decide +kernel)
    (case aC => k_is)
    (case aX => k_is)
    (case xL => k_is)
    (case rV => first | rfl | decide +kernel | k_is)
    (case sa => k_is)
    (case ga => k_is)
    (case gg => k_is)
    (case nw => k_is)
    (case nn => k_is)
    (case kC => k_is)
    (case eC => k_is)
    (case tC => k_is)
    (case hC => k_is)
    (case eX => first | k_is | rfl | decide +kernel)
    (case tX => k_is)
    (case iX => k_is)
    (case sX => first | k_is | rfl | decide +kernel)
    (case aI => k_is)
    (case tI => k_is)
    (case lI => k_is)
    (case cI => k_is)
    (case kI => k_is)
    (case aJ => k_is)
    (case lJ => k_is)
    (case lK => k_is)
    (case cJ => k_is)
    (case kJ => k_is)
    (case rd => k_is)
    (case gt => k_is)
    (case vV => k_is)
    (case z0 => k_is)
    (case z1 => k_is)
    (case z2 => k_is)
    (case z3 => k_is)
    (case z4 => k_is)
    (case z5 => k_is)
    (case z6 => k_is)
    (case z7 => k_is)
    (case z8 => k_is)
    (case z9 => k_is)
    (case z10 => k_is)
