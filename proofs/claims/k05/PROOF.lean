import PyProof.Rows.All
import Wide.All
import OpenK.AllK
import Wide.FinOn
import HandS.ForMost
import HandS.Wide
import HandS.Codes
import PySem.Challenge.RW_windowkin_k05_closed_paths_in_order
import HandS.IsInst
import HandS.Walk
import HandS.Zip
import KE.GoesMore
import HandS.ClsMeth
import HandS.Property
import HandS.FStr
import PyProof.ZipIter
import PyProof.ListNew
import KE.KStar
import KE.KDictZip
import HandS.Star
import HandS.List
import KE.GoesZip
import KE.GoesEnum
import HandS.WideBits
import HandS.RevRange
import HandS.GenList
import HandS.ForExc
import HandS.Flow
import HandS.GenYield
import HandS.GenCall
import HandS.TupAny
import HandS.Rev
import HandS.More
import HandS.Conv
import HandS.DictTup
import HandS.Keys
import HandS.Iter
import HandS.DictComp
import PyProof.EqAt
import PyProof.EqKinds
import HandS.OwnEq
import HandS.TupMul
import HandS.NoneIn
import HandS.TupSets
import HandS.Comp
import HandS.Set
import HandS.SetFor
import HandS.Strs
import HandS.Dict
import PyProof.DictMoreH
import KE.KDictCopyH
import HandS.CallLocal
import HandS.Small
import HandS.Steps
import HandS.SortRule
import HandS.SortInts
import HandS.Style
import HandS.Head2
import HandS.Ends
import HandS.EndOwn
import KE.KNestM
import KE.OsRunLaw
import HandS.Head0
import HandS.Head1
set_option Elab.async false
set_option linter.all false
set_option maxRecDepth 100000
section
namespace Lw
open PySem L2
def top (i : Nat) : Stmt := PySem.Challenge.pw_windowkin_k05_closed_paths_in_order.main.body.getD i (.Pass ⟨0, 0, 0, 0⟩)
abbrev sBag : Stmt := top 23
abbrev sPull : Stmt := top 24
abbrev sOf : Stmt := top 25
abbrev sLike : Stmt := top 26
abbrev sPlan : Stmt := top 27
abbrev sCheck : Stmt := top 20
abbrev sInit : Stmt := inClass (top 21) 2
abbrev sLen : Stmt := inClass (top 21) 5
abbrev sStates : Stmt := inClass (top 21) 7
abbrev sEdges : Stmt := inClass (top 21) 8
abbrev sGraph : Stmt := top 28
abbrev sCounts : Stmt := inClass (top 21) 13
abbrev sProd : Stmt := top 16
abbrev sPow : Stmt := top 17
abbrev sCl : Stmt := top 12
abbrev sCC : Stmt := top 18
abbrev sWalks : Stmt := top 14
abbrev sWaysTo : Stmt := top 13
abbrev sLeaving : Stmt := inClass (top 21) 10
abbrev sCheckState : Stmt := inClass (top 21) 12
abbrev sClosed : Stmt := top 15
abbrev sAft : Stmt := top 29
abbrev sPths : Stmt := top 30
abbrev sLPC : Stmt := top 31
abbrev sBreak : Stmt := top 10
abbrev sEdge : Stmt := inClass (top 21) 9
abbrev sIsP : Stmt := top 11
abbrev sLaw : Stmt := top 32
end Lw
end
section
namespace Sf
open PySem
open Sem (wp)
def softId : String := "soft.yield"
def yfId : String := "proto.yield_from"
def isG (o : Option Obj) : Bool := (o.bind (·.genNumber?)).isSome
def mark : List Value := [.builtin softId]
def yfOf : Code → Option Addr
  | .builtin id ⟨.ref a :: _, _⟩ => if id = yfId then some a else none
  | _ => none
def T0 : Sem Fin → Sem Fin
  | .pure x => .pure x
  | .raise e => .raise e
  | .unsupported w => .unsupported w
  | .finish e => .finish e
  | .rule t k => .rule t fun x => T0 (k x)
  | .at p k => .at p fun x => T0 (k x)
  | .load b p k => .load b p fun x => T0 (k x)
  | .update b p f k => .update b p f fun x => T0 (k x)
  | .alloc o k => .alloc o fun x => T0 (k x)
  | .loadIfAlive b k => .loadIfAlive b fun x => T0 (k x)
  | .point l k => .point l fun x => T0 (k x)
  | .register b k => .register b fun x => T0 (k x)
  | .fresh k => .fresh fun x => T0 (k x)
  | .ask k => .ask fun x => T0 (k x)
  | .choose s n k => .choose s n fun x => T0 (k x)
  | .os q l k => .os q l fun x => T0 (k x)
  | .call c h g l k => .call c h g l fun x => T0 (k x)
  | .handled o k => .handled o fun x => T0 (k x)
  | .newGen c k => .newGen c fun x => T0 (k x)
  | .genState g k => .genState g fun x => T0 (k x)
  | .resume g r l k => .resume g r l fun x => T0 (k x)
  | .yield v g _ k => .yield v g [] fun x => T0 (k x)
  | .stack k => .stack fun x => T0 (k x)
  | .fork c k => .fork c fun x => T0 (k x)
  | .thread k => .thread fun x => T0 (k x)
  | .await b f d l k => .await b f d l fun x => T0 (k x)
def T (a : Addr) : Sem Fin → Sem Fin
  | .pure x => .pure x
  | .raise e => .raise e
  | .unsupported w => .unsupported w
  | .finish e => .finish e
  | .rule t k => .rule t fun x => T a (k x)
  | .at p k => .at p fun x => T a (k x)
  | .load b p k => .load b p fun x => T a (k x)
  | .update b p f k => .update b p f fun x => T a (k x)
  | .alloc o k => .alloc o fun x => T a (k x)
  | .loadIfAlive b k => .loadIfAlive b fun x => T a (k x)
  | .point l k => .point l fun x => T a (k x)
  | .register b k => .register b fun x => T a (k x)
  | .fresh k => .fresh fun x => T a (k x)
  | .ask k => .ask fun x => T a (k x)
  | .choose s n k => .choose s n fun x => T a (k x)
  | .os q l k => .os q l fun x => T a (k x)
  | .call c h g l k => .call c h g l fun x => T a (k x)
  | .handled o k => .handled o fun x => T a (k x)
  | .newGen c k => .newGen c fun x => T a (k x)
  | .genState g k => .genState g fun x => T a (k x)
  | .resume g r l k => .resume g r l fun x => T a (k x)
  | .yield v g _ k => match g with
    | true => .loadIfAlive a fun o => if isG o then .yield v false mark fun x => T0 (k x) else .yield v true [] fun x => T0 (k x)
    | false => .yield v false [] fun x => T0 (k x)
  | .stack k => .stack fun x => T a (k x)
  | .fork c k => .fork c fun x => T a (k x)
  | .thread k => .thread fun x => T a (k x)
  | .await b f d l k => .await b f d l fun x => T a (k x)
def denS (c : Code) : Sem Fin := match yfOf c with
  | some a => T a (denote table c)
  | none => denote table c
def mp (P : Program) (w : World) : Model := ⟨denS, P, w⟩
inductive TR (c : Code) : Sem Fin → Sem Fin → Prop
  | same (h : yfOf c = none) (t) : TR c t t
  | tr {a} (h : yfOf c = some a) (t) : TR c t (T a t)
  | t0 {a} (h : yfOf c = some a) (t) : TR c t (T0 t)
inductive FR : Frame → Frame → Prop
  | ret {k k' : Result → Sem Fin} {c} (hk : ∀ r, TR c (k r) (k' r)) (h g l l' p kp kp') : FR (.ret k h g l c p kp) (.ret k' h g l' c p kp')
  | gen {k k' : GenResult → Sem Fin} {c} (hk : ∀ r, TR c (k r) (k' r)) (g l l' p) : FR (.gen g k l c p) (.gen g k' l' c p)
inductive FsR : List Frame → List Frame → Prop
  | nil : FsR [] []
  | cons {f f' fs fs'} : FR f f' → FsR fs fs' → FsR (f :: fs) (f' :: fs')
inductive GR (S : Prop) : GenState → GenState → Prop
  | fresh (c) : GR S (.fresh c) (.fresh c)
  | running : GR S .running .running
  | finished : GR S .finished .finished
  | susp {k k' : Resume → Sem Fin} {fs fs' c l'} (hk : ∀ r, TR c (k r) (k' r)) (hf : FsR fs fs') (hl : yfOf c = none ∨ l' = []) (l p cl) : GR S (.suspended k l c p fs cl) (.suspended k' l' c p fs' cl)
  | soft {k k' : Resume → Sem Fin} {fs fs' c} (hS : S) (hk : ∀ r, TR c (k r) (k' r)) (hf : FsR fs fs') (l p) : GR S (.suspended k l c p fs false) (.suspended k' mark c p fs' false)
inductive OR (S : Prop) : Option GenState → Option GenState → Prop
  | none : OR S none none
  | some {x y} : GR S x y → OR S (some x) (some y)
structure SR (S : Nat → Prop) (s s' : Shared) : Prop where
  heap : s'.heap = s.heap
  drawn : s'.drawn = s.drawn
  toks : s'.toks = s.toks
  os : s'.os = s.os
  size : s'.gens.size = s.gens.size
  gens : ∀ i : Nat, OR (S i) (s.gens[i]?) (s'.gens[i]?)
inductive ER : End → End → Prop
  | ret (r) : ER (.ret r) (.ret r)
  | susp {k k' : Resume → Sem Fin} {fs fs' c l'} (hk : ∀ r, TR c (k r) (k' r)) (hf : FsR fs fs') (hl : yfOf c = none ∨ l' = []) (v g l p) : ER (.susp v g l k c p fs) (.susp v g l' k' c p fs')
theorem FsR.append {a a' b b' : List Frame} (h : FsR a a') (h2 : FsR b b') : FsR (a ++ b) (a' ++ b') := by
  induction h with
  | nil => exact h2
  | cons x _ ih => exact .cons x ih
theorem FR.where_ {f f' : Frame} (h : FR f f') : f'.where_ = f.where_ := by cases h <;> rfl
theorem FR.guarded {f f' : Frame} (h : FR f f') : f'.guarded = f.guarded := by cases h <;> rfl
theorem FsR.where_ {a b : List Frame} (h : FsR a b) : b.map Frame.where_ = a.map Frame.where_ := by
  induction h with
  | nil => rfl
  | cons x _ ih => rw [List.map_cons, List.map_cons, x.where_, ih]
theorem FsR.guarded {a b : List Frame} (h : FsR a b) : b.any Frame.guarded = a.any Frame.guarded := by
  induction h with
  | nil => rfl
  | cons x _ ih => rw [List.any_cons, List.any_cons, x.guarded, ih]
theorem FsR.marks {a b : List Frame} (h : FsR a b) (x) : marksOver b x = marksOver a x := by
  induction h with
  | nil => rfl
  | cons y _ ih => rw [marksOver_cons, marksOver_cons, ih]; cases y <;> rfl
theorem FsR.top {a b : List Frame} (h : FsR a b) : ∀ k, topHandled.go k b = topHandled.go k a := by
  induction h with
  | nil => intro k; rfl
  | cons y _ ih =>
    intro k
    cases y with
    | ret hk h g l l' p kp kp' =>
      cases k with
      | true => exact ih true
      | false => cases h with
        | none => exact ih false
        | some e =>
          show (if e == byPass then topHandled.go true _ else some e) = if e == byPass then topHandled.go true _ else some e
          rw [ih true]
    | gen hk g l l' p => cases k <;> exact ih false
inductive SpR : Option (List Frame × (Nat × (GenResult → Sem Fin) × Code × Pos) × List Frame) → Option (List Frame × (Nat × (GenResult → Sem Fin) × Code × Pos) × List Frame) → Prop
  | none : SpR none none
  | some {pre pre' g k k' c p rest rest'} : FsR pre pre' → (∀ r, TR c (k r) (k' r)) → FsR rest rest' → SpR (some (pre, (g, k, c, p), rest)) (some (pre', (g, k', c, p), rest'))
theorem FsR.split {a b : List Frame} (h : FsR a b) : SpR (splitAtGen a) (splitAtGen b) := by
  induction h with
  | nil => exact .none
  | @cons f f' fs fs' y r ih =>
    cases y with
    | gen hk g l l' p => rw [splitAtGen_gen, splitAtGen_gen]; exact .some .nil hk r
    | ret hk h g l l' p kp kp' =>
      rw [splitAtGen_ret, splitAtGen_ret]
      generalize splitAtGen fs = x at ih ⊢
      generalize splitAtGen fs' = z at ih ⊢
      cases ih with
      | none => exact .none
      | some i1 i2 i3 => exact .some (.cons (.ret hk ..) i1) i2 i3
theorem FsR.over {a b : List Frame} (h : FsR a b) (Γ : Ctx) : Γ.over b = Γ.over a := by
  unfold Ctx.over
  rw [h.marks, h.where_]
  have hs := h.split
  generalize splitAtGen a = x at hs ⊢
  generalize splitAtGen b = z at hs ⊢
  cases hs with
  | none => simp only [h.marks]
  | some i1 _ _ => simp only; rw [show topHandled _ = topHandled _ from i1.top false]
theorem ER.quiet {e e' : End} (h : ER e e') : e'.quiet = e.quiet := by
  cases h with
  | ret => rfl
  | susp hk hf => simp only [End.quiet, hf.guarded]
theorem ER.result {e e' : End} (h : ER e e') : e'.result = e.result := by cases h <;> rfl
theorem ER.genState {S : Prop} {e e' : End} (h : ER e e') : GR S e.genState e'.genState := by
  cases h with
  | ret => exact .finished
  | susp hk hf hl => simp only [End.genState, hf.guarded]; exact .susp hk hf hl ..
theorem GR.seen {S : Prop} {x y : GenState} (h : GR S x y) : y.seen = x.seen := by
  cases h with
  | susp hk hf => simp only [GenState.seen, hf.where_]
  | soft _ hk hf => simp only [GenState.seen, hf.where_]
  | _ => rfl
section
variable {S : Nat → Prop}
theorem SR.some {s s' : Shared} (h : SR S s s') {g : Nat} {x : GenState} (e : s.gens[g]? = some x) : ∃ y, s'.gens[g]? = some y ∧ GR (S g) x y := by
  have q := h.gens g
  rw [e] at q
  cases h2 : s'.gens[g]? with
  | none => rw [h2] at q; cases q
  | some y => rw [h2] at q; cases q with | some z => exact ⟨y, rfl, z⟩
theorem SR.setGen {s s' : Shared} (h : SR S s s') {x y : GenState} (g : Nat) (hx : GR (S g) x y) : SR S (s.setGen g x) (s'.setGen g y) := by
  refine ⟨h.heap, h.drawn, h.toks, h.os, ?_, fun i => ?_⟩
  · show (s'.gens.setIfInBounds g y).size = (s.gens.setIfInBounds g x).size
    rw [Array.size_setIfInBounds, Array.size_setIfInBounds, h.size]
  · show OR (S i) (s.gens.setIfInBounds g x)[i]? (s'.gens.setIfInBounds g y)[i]?
    by_cases hi : g = i
    · subst hi
      by_cases hl : g < s.gens.size
      · have hl' : g < s'.gens.size := by rw [h.size]; exact hl
        rw [Array.getElem?_setIfInBounds_self_of_lt hl, Array.getElem?_setIfInBounds_self_of_lt hl']
        exact .some hx
      · have hl' : ¬ g < s'.gens.size := by rw [h.size]; exact hl
        rw [Array.getElem?_eq_none (by rw [Array.size_setIfInBounds]; omega), Array.getElem?_eq_none (by rw [Array.size_setIfInBounds]; omega)]
        exact .none
    · rw [Array.getElem?_setIfInBounds_ne hi, Array.getElem?_setIfInBounds_ne hi]
      exact h.gens i
theorem SR.push {s s' : Shared} (h : SR S s s') (c : Code)  : SR S { s with gens := s.gens.push (.fresh c) } { s' with gens := s'.gens.push (.fresh c) } := by
  refine ⟨h.heap, h.drawn, h.toks, h.os, ?_, fun i => ?_⟩
  · show (s'.gens.push _).size = (s.gens.push _).size
    rw [Array.size_push, Array.size_push, h.size]
  · show OR (S i) (s.gens.push _)[i]? (s'.gens.push _)[i]?
    rw [Array.getElem?_push, Array.getElem?_push, h.size]
    split
    · exact .some (.fresh _)
    · exact h.gens i
theorem SR.heapTo {s s' : Shared} (h : SR S s s') (hp : Heap)  : SR S { s with heap := hp } { s' with heap := hp } := ⟨rfl, h.drawn, h.toks, h.os, h.size, h.gens⟩
theorem SR.toksTo {s s' : Shared} (h : SR S s s') (x) : SR S { s with toks := x } { s' with toks := x } := ⟨h.heap, h.drawn, rfl, h.os, h.size, h.gens⟩
theorem SR.drawnTo {s s' : Shared} (h : SR S s s') (x) : SR S { s with drawn := x } { s' with drawn := x } := ⟨h.heap, rfl, h.toks, h.os, h.size, h.gens⟩
theorem SR.osTo {s s' : Shared} (h : SR S s s') (x) : SR S { s with os := x } { s' with os := x } := ⟨h.heap, h.drawn, h.toks, rfl, h.size, h.gens⟩
end
end Sf
end
section
namespace Sf
open PySem
open Sem (wp)
section
variable {P : Program} {w : World}
theorem tr_den (c : Code) : TR c ((model P w).den c) ((mp P w).den c) := by
  show TR c (denote table c) (denS c)
  unfold denS
  cases h : yfOf c with
  | none => exact .same h _
  | some a => exact .tr h _
variable {S : Nat → Prop}
theorem gs_fresh {s s' : Shared} (h : SR S s s') {g : Nat} {c : Code} (e : s.gens[g]? = some (.fresh c)) : s'.gens[g]? = some (.fresh c) := by
  obtain ⟨y, hy, q⟩ := h.some e
  cases q
  exact hy
theorem gs_run {s s' : Shared} (h : SR S s s') {g : Nat} (e : s.gens[g]? = some .running) : s'.gens[g]? = some .running := by
  obtain ⟨y, hy, q⟩ := h.some e
  cases q
  exact hy
theorem gs_fin {s s' : Shared} (h : SR S s s') {g : Nat} (e : s.gens[g]? = some .finished) : s'.gens[g]? = some .finished := by
  obtain ⟨y, hy, q⟩ := h.some e
  cases q
  exact hy
theorem gs_susp {s s' : Shared} (h : SR S s s') {g : Nat} {k l c p fs cl} (e : s.gens[g]? = some (.suspended k l c p fs cl)) : ∃ k' l' fs', s'.gens[g]? = some (.suspended k' l' c p fs' cl) ∧ (∀ r, TR c (k r) (k' r)) ∧ FsR fs fs' := by
  obtain ⟨y, hy, q⟩ := h.some e
  cases q with
  | susp hk hf => exact ⟨_, _, _, hy, hk, hf⟩
  | soft _ hk hf => exact ⟨_, _, _, hy, hk, hf⟩
theorem er_ret {r : Result} {e' : End} (h : ER (.ret r) e') : e' = .ret r := by cases h; rfl
theorem quiet_append {v g l k c p fs fs2} (h : (End.susp v g l k c p (fs ++ fs2)).quiet = true) : (End.susp v g l k c p fs).quiet = true := by
  simp only [End.quiet, List.any_append] at h ⊢
  simp only [Bool.not_eq_true', Bool.or_eq_false_iff] at h ⊢
  exact ⟨h.1, h.2.1⟩
theorem up {Γ : Ctx} {p : Pos} {t : Sem Fin} {fs : List Frame} {s s₁ : Shared} {e : End} (h : Runs (model P w) Γ p t fs s e s₁) : e.quiet = true → ∀ {t' : Sem Fin} {fs' : List Frame} {s' : Shared}, TR Γ.code t t' → FsR fs fs' → SR S s s' →
    ∃ e' s₁', Runs (mp P w) Γ p t' fs' s' e' s₁' ∧ ER e e' ∧ SR S s₁ s₁' := by
  induction h with
  | done => intro _ t' fs' s' ht hf hs; cases hf; cases ht <;> exact ⟨_, _, .done, .ret _, hs⟩
  | raise => intro _ t' fs' s' ht hf hs; cases hf; cases ht <;> exact ⟨_, _, .raise, .ret _, hs⟩
  | again hq h ih => 
    intro he t' fs' s' ht hf hs; cases hf
    obtain ⟨e', s₁', h1, h2, h3⟩ := ih he (tr_den _) .nil hs
    cases ht <;> exact ⟨e', s₁', .again hq h1, h2, h3⟩
  | rule h ih => intro he t' fs' s' ht hf hs; cases hf; cases ht with
    | same hy => obtain ⟨e', s₁', h1, h2, h3⟩ := ih he (.same hy _) .nil hs; exact ⟨e', s₁', .rule h1, h2, h3⟩
    | tr hy => obtain ⟨e', s₁', h1, h2, h3⟩ := ih he (.tr hy _) .nil hs; exact ⟨e', s₁', .rule h1, h2, h3⟩
    | t0 hy => obtain ⟨e', s₁', h1, h2, h3⟩ := ih he (.t0 hy _) .nil hs; exact ⟨e', s₁', .rule h1, h2, h3⟩
  | «at» h ih => intro he t' fs' s' ht hf hs; cases hf; cases ht with
    | same hy => obtain ⟨e', s₁', h1, h2, h3⟩ := ih he (.same hy _) .nil hs; exact ⟨e', s₁', .at h1, h2, h3⟩
    | tr hy => obtain ⟨e', s₁', h1, h2, h3⟩ := ih he (.tr hy _) .nil hs; exact ⟨e', s₁', .at h1, h2, h3⟩
    | t0 hy => obtain ⟨e', s₁', h1, h2, h3⟩ := ih he (.t0 hy _) .nil hs; exact ⟨e', s₁', .at h1, h2, h3⟩
  | load ho h ih => intro he t' fs' s' ht hf hs; cases hf; cases ht with
    | same hy => obtain ⟨e', s₁', h1, h2, h3⟩ := ih he (.same hy _) .nil hs; exact ⟨e', s₁', .load (by rw [hs.heap]; exact ho) h1, h2, h3⟩
    | tr hy => obtain ⟨e', s₁', h1, h2, h3⟩ := ih he (.tr hy _) .nil hs; exact ⟨e', s₁', .load (by rw [hs.heap]; exact ho) h1, h2, h3⟩
    | t0 hy => obtain ⟨e', s₁', h1, h2, h3⟩ := ih he (.t0 hy _) .nil hs; exact ⟨e', s₁', .load (by rw [hs.heap]; exact ho) h1, h2, h3⟩
  | @update s a Γ p k f e s' part ho h ih => intro he t' fs' s2 ht hf hs; cases hf; cases ht with
    | same hy => obtain ⟨e', s₁', h1, h2, h3⟩ := ih he (.same hy _) .nil (hs.heapTo _); exact ⟨e', s₁', .update (by rw [hs.heap]; exact ho) (by rw [hs.heap]; exact h1), h2, h3⟩
    | tr hy => obtain ⟨e', s₁', h1, h2, h3⟩ := ih he (.tr hy _) .nil (hs.heapTo _); exact ⟨e', s₁', .update (by rw [hs.heap]; exact ho) (by rw [hs.heap]; exact h1), h2, h3⟩
    | t0 hy => obtain ⟨e', s₁', h1, h2, h3⟩ := ih he (.t0 hy _) .nil (hs.heapTo _); exact ⟨e', s₁', .update (by rw [hs.heap]; exact ho) (by rw [hs.heap]; exact h1), h2, h3⟩
  | loadIfAlive h ih => intro he t' fs' s' ht hf hs; cases hf; cases ht with
    | same hy => obtain ⟨e', s₁', h1, h2, h3⟩ := ih he (.same hy _) .nil hs; exact ⟨e', s₁', .loadIfAlive (by rw [hs.heap]; exact h1), h2, h3⟩
    | tr hy => obtain ⟨e', s₁', h1, h2, h3⟩ := ih he (.tr hy _) .nil hs; exact ⟨e', s₁', .loadIfAlive (by rw [hs.heap]; exact h1), h2, h3⟩
    | t0 hy => obtain ⟨e', s₁', h1, h2, h3⟩ := ih he (.t0 hy _) .nil hs; exact ⟨e', s₁', .loadIfAlive (by rw [hs.heap]; exact h1), h2, h3⟩
  | point h ih => intro he t' fs' s' ht hf hs; cases hf; cases ht with
    | same hy => obtain ⟨e', s₁', h1, h2, h3⟩ := ih he (.same hy _) .nil hs; exact ⟨e', s₁', .point h1, h2, h3⟩
    | tr hy => obtain ⟨e', s₁', h1, h2, h3⟩ := ih he (.tr hy _) .nil hs; exact ⟨e', s₁', .point h1, h2, h3⟩
    | t0 hy => obtain ⟨e', s₁', h1, h2, h3⟩ := ih he (.t0 hy _) .nil hs; exact ⟨e', s₁', .point h1, h2, h3⟩
  | alloc h ih => intro he t' fs' s' ht hf hs; cases hf; cases ht with
    | same hy => obtain ⟨e', s₁', h1, h2, h3⟩ := ih he (.same hy _) .nil (hs.heapTo _); exact ⟨e', s₁', .alloc (by rw [hs.heap]; exact h1), h2, h3⟩
    | tr hy => obtain ⟨e', s₁', h1, h2, h3⟩ := ih he (.tr hy _) .nil (hs.heapTo _); exact ⟨e', s₁', .alloc (by rw [hs.heap]; exact h1), h2, h3⟩
    | t0 hy => obtain ⟨e', s₁', h1, h2, h3⟩ := ih he (.t0 hy _) .nil (hs.heapTo _); exact ⟨e', s₁', .alloc (by rw [hs.heap]; exact h1), h2, h3⟩
  | fresh h ih => intro he t' fs' s' ht hf hs; cases hf; cases ht with
    | same hy => obtain ⟨e', s₁', h1, h2, h3⟩ := ih he (.same hy _) .nil (hs.toksTo _); exact ⟨e', s₁', .fresh (by rw [hs.toks]; exact h1), h2, h3⟩
    | tr hy => obtain ⟨e', s₁', h1, h2, h3⟩ := ih he (.tr hy _) .nil (hs.toksTo _); exact ⟨e', s₁', .fresh (by rw [hs.toks]; exact h1), h2, h3⟩
    | t0 hy => obtain ⟨e', s₁', h1, h2, h3⟩ := ih he (.t0 hy _) .nil (hs.toksTo _); exact ⟨e', s₁', .fresh (by rw [hs.toks]; exact h1), h2, h3⟩
  | ask h ih => intro he t' fs' s' ht hf hs; cases hf; cases ht with
    | same hy => obtain ⟨e', s₁', h1, h2, h3⟩ := ih he (.same hy _) .nil hs; exact ⟨e', s₁', .ask h1, h2, h3⟩
    | tr hy => obtain ⟨e', s₁', h1, h2, h3⟩ := ih he (.tr hy _) .nil hs; exact ⟨e', s₁', .ask h1, h2, h3⟩
    | t0 hy => obtain ⟨e', s₁', h1, h2, h3⟩ := ih he (.t0 hy _) .nil hs; exact ⟨e', s₁', .ask h1, h2, h3⟩
  | choose hn h ih => intro he t' fs' s' ht hf hs; cases hf; cases ht with
    | same hy => obtain ⟨e', s₁', h1, h2, h3⟩ := ih he (.same hy _) .nil (hs.drawnTo _); exact ⟨e', s₁', .choose hn (by rw [hs.drawn]; exact h1), h2, h3⟩
    | tr hy => obtain ⟨e', s₁', h1, h2, h3⟩ := ih he (.tr hy _) .nil (hs.drawnTo _); exact ⟨e', s₁', .choose hn (by rw [hs.drawn]; exact h1), h2, h3⟩
    | t0 hy => obtain ⟨e', s₁', h1, h2, h3⟩ := ih he (.t0 hy _) .nil (hs.drawnTo _); exact ⟨e', s₁', .choose hn (by rw [hs.drawn]; exact h1), h2, h3⟩
  | os h ih => intro he t' fs' s' ht hf hs; cases hf; cases ht with
    | same hy => obtain ⟨e', s₁', h1, h2, h3⟩ := ih he (.same hy _) .nil (hs.osTo _); exact ⟨e', s₁', .os (by rw [hs.os]; exact h1), h2, h3⟩
    | tr hy => obtain ⟨e', s₁', h1, h2, h3⟩ := ih he (.tr hy _) .nil (hs.osTo _); exact ⟨e', s₁', .os (by rw [hs.os]; exact h1), h2, h3⟩
    | t0 hy => obtain ⟨e', s₁', h1, h2, h3⟩ := ih he (.t0 hy _) .nil (hs.osTo _); exact ⟨e', s₁', .os (by rw [hs.os]; exact h1), h2, h3⟩
  | handled h ih => intro he t' fs' s' ht hf hs; cases hf; cases ht with
    | same hy => obtain ⟨e', s₁', h1, h2, h3⟩ := ih he (.same hy _) .nil hs; exact ⟨e', s₁', .handled h1, h2, h3⟩
    | tr hy => obtain ⟨e', s₁', h1, h2, h3⟩ := ih he (.tr hy _) .nil hs; exact ⟨e', s₁', .handled h1, h2, h3⟩
    | t0 hy => obtain ⟨e', s₁', h1, h2, h3⟩ := ih he (.t0 hy _) .nil hs; exact ⟨e', s₁', .handled h1, h2, h3⟩
  | genState hg h ih =>
    intro he t' fs' s' ht hf hs; cases hf
    obtain ⟨y, hyg, q⟩ := hs.some hg
    cases ht with
    | same hy => obtain ⟨e', s₁', h1, h2, h3⟩ := ih he (.same hy _) .nil hs; exact ⟨e', s₁', .genState hyg (by rw [q.seen]; exact h1), h2, h3⟩
    | tr hy => obtain ⟨e', s₁', h1, h2, h3⟩ := ih he (.tr hy _) .nil hs; exact ⟨e', s₁', .genState hyg (by rw [q.seen]; exact h1), h2, h3⟩
    | t0 hy => obtain ⟨e', s₁', h1, h2, h3⟩ := ih he (.t0 hy _) .nil hs; exact ⟨e', s₁', .genState hyg (by rw [q.seen]; exact h1), h2, h3⟩
  | stack h ih => intro he t' fs' s' ht hf hs; cases hf; cases ht with
    | same hy => obtain ⟨e', s₁', h1, h2, h3⟩ := ih he (.same hy _) .nil hs; exact ⟨e', s₁', .stack h1, h2, h3⟩
    | tr hy => obtain ⟨e', s₁', h1, h2, h3⟩ := ih he (.tr hy _) .nil hs; exact ⟨e', s₁', .stack h1, h2, h3⟩
    | t0 hy => obtain ⟨e', s₁', h1, h2, h3⟩ := ih he (.t0 hy _) .nil hs; exact ⟨e', s₁', .stack h1, h2, h3⟩
  | thread h ih => intro he t' fs' s' ht hf hs; cases hf; cases ht with
    | same hy => obtain ⟨e', s₁', h1, h2, h3⟩ := ih he (.same hy _) .nil hs; exact ⟨e', s₁', .thread h1, h2, h3⟩
    | tr hy => obtain ⟨e', s₁', h1, h2, h3⟩ := ih he (.tr hy _) .nil hs; exact ⟨e', s₁', .thread h1, h2, h3⟩
    | t0 hy => obtain ⟨e', s₁', h1, h2, h3⟩ := ih he (.t0 hy _) .nil hs; exact ⟨e', s₁', .thread h1, h2, h3⟩
  | newGen h ih => intro he t' fs' s' ht hf hs; cases hf; cases ht with
    | same hy => obtain ⟨e', s₁', h1, h2, h3⟩ := ih he (.same hy _) .nil (hs.push _); exact ⟨e', s₁', .newGen (by rw [hs.size]; exact h1), h2, h3⟩
    | tr hy => obtain ⟨e', s₁', h1, h2, h3⟩ := ih he (.tr hy _) .nil (hs.push _); exact ⟨e', s₁', .newGen (by rw [hs.size]; exact h1), h2, h3⟩
    | t0 hy => obtain ⟨e', s₁', h1, h2, h3⟩ := ih he (.t0 hy _) .nil (hs.push _); exact ⟨e', s₁', .newGen (by rw [hs.size]; exact h1), h2, h3⟩
  | call h hk ih ihk =>
    intro he t' fs' s' ht hf hs; cases hf
    obtain ⟨e₁, s₂, h1, h2, h3⟩ := ih rfl (tr_den _) .nil hs
    cases er_ret h2
    cases ht with
    | same hy => obtain ⟨e', s₁', q1, q2, q3⟩ := ihk he (.same hy _) .nil h3; exact ⟨e', s₁', .call h1 q1, q2, q3⟩
    | tr hy => obtain ⟨e', s₁', q1, q2, q3⟩ := ihk he (.tr hy _) .nil h3; exact ⟨e', s₁', .call h1 q1, q2, q3⟩
    | t0 hy => obtain ⟨e', s₁', q1, q2, q3⟩ := ihk he (.t0 hy _) .nil h3; exact ⟨e', s₁', .call h1 q1, q2, q3⟩
  | callSusp h ih =>
    intro he t' fs' s' ht hf hs; cases hf
    obtain ⟨e₁, s₂, h1, h2, h3⟩ := ih (quiet_append he) (tr_den _) .nil hs
    cases h2 with
    | susp hk hf hl =>
      cases ht with
      | same hy => exact ⟨_, _, .callSusp h1, .susp hk (hf.append (.cons (.ret (fun r => .same hy _) ..) .nil)) hl .., h3⟩
      | tr hy => exact ⟨_, _, .callSusp h1, .susp hk (hf.append (.cons (.ret (fun r => .tr hy _) ..) .nil)) hl .., h3⟩
      | t0 hy => exact ⟨_, _, .callSusp h1, .susp hk (hf.append (.cons (.ret (fun r => .t0 hy _) ..) .nil)) hl .., h3⟩
  | @«yield» _ _ v g l k s0 =>
    intro he t' fs' s' ht hf hs; cases hf
    cases ht with
    | same hy => exact ⟨_, _, .yield, .susp (fun _ => .same hy _) .nil (.inl hy) .., hs⟩
    | t0 hy => exact ⟨_, _, .yield, .susp (fun _ => .t0 hy _) .nil (.inr rfl) .., hs⟩
    | tr hy =>
      cases g with
      | false => exact ⟨_, _, .yield, .susp (fun _ => .t0 hy _) .nil (.inr rfl) .., hs⟩
      | true => exact absurd he (by simp [End.quiet])
  | resumeFresh hg h hq hk ih ihk =>
    intro he t' fs' s' ht hf hs; cases hf
    obtain ⟨e₁, s₂, h1, h2, h3⟩ := ih hq (tr_den _) .nil (hs.setGen _ .running)
    have h4 := fun g => h3.setGen g (h2.genState (S := S g))
    cases ht with
    | same hy => obtain ⟨e', s₁', q1, q2, q3⟩ := ihk he (.same hy _) .nil (h4 _); exact ⟨e', s₁', .resumeFresh (gs_fresh hs hg) h1 (by rw [h2.quiet]; exact hq) (by rw [h2.result]; exact q1), q2, q3⟩
    | tr hy => obtain ⟨e', s₁', q1, q2, q3⟩ := ihk he (.tr hy _) .nil (h4 _); exact ⟨e', s₁', .resumeFresh (gs_fresh hs hg) h1 (by rw [h2.quiet]; exact hq) (by rw [h2.result]; exact q1), q2, q3⟩
    | t0 hy => obtain ⟨e', s₁', q1, q2, q3⟩ := ihk he (.t0 hy _) .nil (h4 _); exact ⟨e', s₁', .resumeFresh (gs_fresh hs hg) h1 (by rw [h2.quiet]; exact hq) (by rw [h2.result]; exact q1), q2, q3⟩
  | resumeSuspended hg h hq hk ih ihk =>
    intro he t' fs' s' ht hf hs; cases hf
    obtain ⟨k', l2, fs2, hg', hk2, hf2⟩ := gs_susp hs hg
    obtain ⟨e₁, s₂, h1, h2, h3⟩ := ih hq (hk2 _) hf2 (hs.setGen _ .running)
    have h4 := fun g => h3.setGen g (h2.genState (S := S g))
    cases ht with
    | same hy => obtain ⟨e', s₁', q1, q2, q3⟩ := ihk he (.same hy _) .nil (h4 _); exact ⟨e', s₁', .resumeSuspended hg' h1 (by rw [h2.quiet]; exact hq) (by rw [h2.result]; exact q1), q2, q3⟩
    | tr hy => obtain ⟨e', s₁', q1, q2, q3⟩ := ihk he (.tr hy _) .nil (h4 _); exact ⟨e', s₁', .resumeSuspended hg' h1 (by rw [h2.quiet]; exact hq) (by rw [h2.result]; exact q1), q2, q3⟩
    | t0 hy => obtain ⟨e', s₁', q1, q2, q3⟩ := ihk he (.t0 hy _) .nil (h4 _); exact ⟨e', s₁', .resumeSuspended hg' h1 (by rw [h2.quiet]; exact hq) (by rw [h2.result]; exact q1), q2, q3⟩
  | resumeJustStarted hg hv h ih => intro he t' fs' s' ht hf hs; cases hf; cases ht with
    | same hy => obtain ⟨e', s₁', h1, h2, h3⟩ := ih he (.same hy _) .nil hs; exact ⟨e', s₁', .resumeJustStarted (gs_fresh hs hg) hv h1, h2, h3⟩
    | tr hy => obtain ⟨e', s₁', h1, h2, h3⟩ := ih he (.tr hy _) .nil hs; exact ⟨e', s₁', .resumeJustStarted (gs_fresh hs hg) hv h1, h2, h3⟩
    | t0 hy => obtain ⟨e', s₁', h1, h2, h3⟩ := ih he (.t0 hy _) .nil hs; exact ⟨e', s₁', .resumeJustStarted (gs_fresh hs hg) hv h1, h2, h3⟩
  | resumeThrowFresh hg h ih => intro he t' fs' s' ht hf hs; cases hf; cases ht with
    | same hy => obtain ⟨e', s₁', h1, h2, h3⟩ := ih he (.same hy _) .nil (hs.setGen _ .finished); exact ⟨e', s₁', .resumeThrowFresh (gs_fresh hs hg) h1, h2, h3⟩
    | tr hy => obtain ⟨e', s₁', h1, h2, h3⟩ := ih he (.tr hy _) .nil (hs.setGen _ .finished); exact ⟨e', s₁', .resumeThrowFresh (gs_fresh hs hg) h1, h2, h3⟩
    | t0 hy => obtain ⟨e', s₁', h1, h2, h3⟩ := ih he (.t0 hy _) .nil (hs.setGen _ .finished); exact ⟨e', s₁', .resumeThrowFresh (gs_fresh hs hg) h1, h2, h3⟩
  | resumeRunning hg h ih => intro he t' fs' s' ht hf hs; cases hf; cases ht with
    | same hy => obtain ⟨e', s₁', h1, h2, h3⟩ := ih he (.same hy _) .nil hs; exact ⟨e', s₁', .resumeRunning (gs_run hs hg) h1, h2, h3⟩
    | tr hy => obtain ⟨e', s₁', h1, h2, h3⟩ := ih he (.tr hy _) .nil hs; exact ⟨e', s₁', .resumeRunning (gs_run hs hg) h1, h2, h3⟩
    | t0 hy => obtain ⟨e', s₁', h1, h2, h3⟩ := ih he (.t0 hy _) .nil hs; exact ⟨e', s₁', .resumeRunning (gs_run hs hg) h1, h2, h3⟩
  | resumeFinished hg h ih => intro he t' fs' s' ht hf hs; cases hf; cases ht with
    | same hy => obtain ⟨e', s₁', h1, h2, h3⟩ := ih he (.same hy _) .nil hs; exact ⟨e', s₁', .resumeFinished (gs_fin hs hg) h1, h2, h3⟩
    | tr hy => obtain ⟨e', s₁', h1, h2, h3⟩ := ih he (.tr hy _) .nil hs; exact ⟨e', s₁', .resumeFinished (gs_fin hs hg) h1, h2, h3⟩
    | t0 hy => obtain ⟨e', s₁', h1, h2, h3⟩ := ih he (.t0 hy _) .nil hs; exact ⟨e', s₁', .resumeFinished (gs_fin hs hg) h1, h2, h3⟩
  | segRet h hk ih ihk =>
    intro he t' fs' s' ht hf hs
    have hov := hf.over
    cases hf with
    | cons hF hr =>
      cases hF with
      | ret hk' =>
        obtain ⟨e₁, s₂, h1, h2, h3⟩ := ih rfl ht .nil hs
        cases er_ret h2
        obtain ⟨e', s₁', q1, q2, q3⟩ := ihk he (hk' _) hr h3
        exact ⟨e', s₁', .segRet (by rw [hov]; exact h1) q1, q2, q3⟩
  | segGen h hk ih ihk =>
    intro he t' fs' s' ht hf hs
    have hov := hf.over
    cases hf with
    | cons hF hr =>
      cases hF with
      | gen hk' =>
        obtain ⟨e₁, s₂, h1, h2, h3⟩ := ih rfl ht .nil hs
        cases er_ret h2
        obtain ⟨e', s₁', q1, q2, q3⟩ := ihk he (hk' _) hr (h3.setGen _ .finished)
        exact ⟨e', s₁', .segGen (by rw [hov]; exact h1) q1, q2, q3⟩
  | segSuspOut hsp h ih =>
    intro he t' fs' s' ht hf hs
    obtain ⟨e₁, s₂, h1, h2, h3⟩ := ih (quiet_append he) ht .nil hs
    have hov := hf.over
    have hsplit := hf.split
    rw [hsp] at hsplit
    cases h2 with
    | susp hk hf2 hl =>
      have happ := hf2.append hf
      cases hf with
      | cons hF hr =>
        generalize hz : splitAtGen _ = z at hsplit
        cases hsplit
        exact ⟨_, _, .segSuspOut hz (by rw [hov]; exact h1), .susp hk happ hl .., h3⟩
  | @segSuspGen _ _ _ _ _ _ _ _ _ _ _ _ v g₀ l₀ _ c₀ p₀ _ _ _ _ hsp h hq hk ih ihk =>
    intro he t' fs' s' ht hf hs
    obtain ⟨e₁, s₂, h1, h2, h3⟩ := ih (quiet_append hq) ht .nil hs
    have hov := hf.over
    have hsplit := hf.split
    rw [hsp] at hsplit
    cases h2 with
    | susp hk2 hf2 hl =>
      generalize hz : splitAtGen fs' = z at hsplit
      cases hsplit with
      | some i1 i2 i3 =>
        have hee := ER.susp hk2 (hf2.append i1) hl v g₀ l₀ p₀
        obtain ⟨e', s₁', q1, q2, q3⟩ := ihk he (i2 _) i3 (h3.setGen _ hee.genState)
        cases hf with
        | cons hF hr => exact ⟨e', s₁', .segSuspGen hz (by rw [hov]; exact h1) (by rw [hee.quiet]; exact hq) q1, q2, q3⟩
end
end Sf
end
section
namespace Sf
open PySem
open Sem (wp)
section
variable {P : Program} {w : World} {S : Nat → Prop}
theorem returns_up {Γ : Ctx} {p : Pos} {s s' s₁ : Shared} {r : Result} (h : Returns (model P w) Γ p s r s₁) (hs : SR S s s') : ∃ s₁', Returns (mp P w) Γ p s' r s₁' ∧ SR S s₁ s₁' := by
  obtain ⟨e', s₁', h1, h2, h3⟩ := up h rfl (tr_den _) .nil hs
  cases er_ret h2
  exact ⟨s₁', h1, h3⟩
theorem wakes_up {Γ : Ctx} {p : Pos} {g : Nat} {r : Resume} {s s' s₁ : Shared} {res : GenResult} (h : Wakes (model P w) Γ p g r s res s₁) (hs : SR S s s') : ∃ s₁', Wakes (mp P w) Γ p g r s' res s₁' ∧ SR S s₁ s₁' := by
  unfold Wakes at h ⊢
  generalize hg : s.gens[g]? = x at h
  cases x with
  | none => exact h.elim
  | some x =>
    cases x with
    | fresh c =>
      rw [gs_fresh hs hg]
      dsimp only at h ⊢
      cases r with
      | send v =>
        by_cases hv : v = .none
        · subst hv
          obtain ⟨e₁, s₂, h1, h2, rfl, rfl⟩ := h
          obtain ⟨e', s₂', q1, q2, q3⟩ := up h1 h2 (tr_den _) .nil (hs.setGen _ .running)
          exact ⟨_, ⟨e', s₂', q1, by rw [q2.quiet]; exact h2, q2.result.symm, rfl⟩, q3.setGen _ q2.genState⟩
        · have hx : res = .justStarted ∧ s₁ = s := by
            cases v <;> first | exact absurd rfl hv | exact h
          obtain ⟨rfl, rfl⟩ := hx
          refine ⟨s', ?_, hs⟩
          cases v <;> first | exact absurd rfl hv | exact ⟨rfl, rfl⟩
      | throw x =>
        obtain ⟨rfl, rfl⟩ := h
        exact ⟨_, ⟨rfl, rfl⟩, hs.setGen _ .finished⟩
    | suspended k l c p fs cl =>
      obtain ⟨k', l2, fs2, hg', hk2, hf2⟩ := gs_susp hs hg
      rw [hg']
      dsimp only at h ⊢
      obtain ⟨e₁, s₂, h1, h2, rfl, rfl⟩ := h
      obtain ⟨e', s₂', q1, q2, q3⟩ := up h1 h2 (hk2 _) hf2 (hs.setGen _ .running)
      exact ⟨_, ⟨e', s₂', q1, by rw [q2.quiet]; exact h2, q2.result.symm, rfl⟩, q3.setGen _ q2.genState⟩
    | running =>
      rw [gs_run hs hg]
      obtain ⟨rfl, rfl⟩ := h
      exact ⟨s', ⟨rfl, rfl⟩, hs⟩
    | finished =>
      rw [gs_fin hs hg]
      obtain ⟨rfl, rfl⟩ := h
      exact ⟨s', ⟨rfl, rfl⟩, hs⟩
theorem lift {α : Type} (t : Sem α) : ∀ {Γ : Ctx} {Q : α → Pos → Shared → Prop} {E : Value → Pos → Shared → Prop} {p : Pos} {s s' : Shared}, SR S s s' → wp (model P w) Γ t Q E p s →
    wp (mp P w) Γ t (fun a p x' => ∃ x, SR S x x' ∧ Q a p x) (fun e p x' => ∃ x, SR S x x' ∧ E e p x) p s' := by
  induction t with
  | pure a => intro Γ Q E p s s' hs h; exact ⟨s, hs, h⟩
  | raise e => intro Γ Q E p s s' hs h; exact ⟨s, hs, h⟩
  | unsupported _ => intro Γ Q E p s s' hs h; exact h.elim
  | finish _ => intro Γ Q E p s s' hs h; exact h.elim
  | rule _ k ih => intro Γ Q E p s s' hs h; exact ih () hs h
  | «at» _ k ih => intro Γ Q E p s s' hs h; exact ih () hs h
  | load a _ k ih => intro Γ Q E p s s' hs h; obtain ⟨o, ho, h⟩ := h; exact ⟨o, by rw [hs.heap]; exact ho, ih o hs h⟩
  | update a _ f k ih =>
    intro Γ Q E p s s' hs h
    obtain ⟨ho, h⟩ := h
    refine ⟨by rw [hs.heap]; exact ho, ?_⟩
    rw [hs.heap]
    exact ih () (hs.heapTo _) h
  | loadIfAlive a k ih =>
    intro Γ Q E p s s' hs h
    show wp _ Γ (k (s'.heap.get? a)) _ _ p s'
    rw [hs.heap]
    exact ih _ hs h
  | point _ k ih => intro Γ Q E p s s' hs h; exact ih () hs h
  | register _ _ => intro Γ Q E p s s' hs h; exact h.elim
  | alloc o k ih =>
    intro Γ Q E p s s' hs h
    show wp _ Γ (k s'.heap.objs.size) _ _ p { s' with heap := s'.heap.push o }
    rw [hs.heap]
    exact ih _ (hs.heapTo _) h
  | fresh k ih =>
    intro Γ Q E p s s' hs h
    show wp _ Γ (k s'.toks) _ _ p { s' with toks := s'.toks + 1 }
    rw [hs.toks]
    exact ih _ (hs.toksTo _) h
  | ask k ih => intro Γ Q E p s s' hs h; exact ih _ hs h
  | choose src n k ih =>
    intro Γ Q E p s s' hs h
    obtain ⟨h0, h⟩ := h
    refine ⟨h0, ?_⟩
    rw [hs.drawn]
    exact ih _ (hs.drawnTo _) h
  | os q _ k ih =>
    intro Γ Q E p s s' hs h
    show wp _ Γ (k (Os.step s'.os q).2) _ _ p { s' with os := (Os.step s'.os q).1 }
    rw [hs.os]
    exact ih _ (hs.osTo _) h
  | call c hd _ _ k ih =>
    intro Γ Q E p s s' hs h
    obtain ⟨r, s₁, hr, h⟩ := h
    obtain ⟨s₁', q1, q2⟩ := returns_up hr hs
    exact ⟨r, s₁', q1, ih r q2 h⟩
  | handled own k ih => intro Γ Q E p s s' hs h; exact ih _ hs h
  | genState g k ih =>
    intro Γ Q E p s s' hs h
    obtain ⟨x, hx, h⟩ := h
    obtain ⟨y, hy, q⟩ := hs.some hx
    refine ⟨y, hy, ?_⟩
    rw [q.seen]
    exact ih _ hs h
  | newGen c k ih =>
    intro Γ Q E p s s' hs h
    show wp _ Γ (k s'.gens.size) _ _ p { s' with gens := s'.gens.push (.fresh c) }
    rw [hs.size]
    exact ih _ (hs.push c) h
  | resume g r _ k ih =>
    intro Γ Q E p s s' hs h
    obtain ⟨res, s₁, hw, h⟩ := h
    obtain ⟨s₁', q1, q2⟩ := wakes_up hw hs
    exact ⟨res, s₁', q1, ih res q2 h⟩
  | «yield» _ _ _ _ => intro Γ Q E p s s' hs h; exact h.elim
  | stack k ih => intro Γ Q E p s s' hs h; exact ih _ hs h
  | fork _ _ => intro Γ Q E p s s' hs h; exact h.elim
  | thread k ih => intro Γ Q E p s s' hs h; exact ih _ hs h
  | await _ _ _ _ _ => intro Γ Q E p s s' hs h; exact h.elim
theorem wpAny_up {α : Type} {A : Around} {t : Sem α} {Q : α → Shared → Prop} {E : Value → Shared → Prop} {s s' : Shared} (hs : SR S s s') (h : wpAny (model P w) A t Q E s) :
    wpAny (mp P w) A t (fun a x' => ∃ x, SR S x x' ∧ Q a x) (fun e x' => ∃ x, SR S x x' ∧ E e x) s' := fun Γ p hΓ => lift t hs (h Γ p hΓ)
theorem codeAny_up {A : Around} {c : Code} {R : Result → Shared → Prop} {s s' : Shared} (hs : SR S s s') (h : codeAny (model P w) A c R s) : codeAny (mp P w) A c (fun r x' => ∃ x, SR S x x' ∧ R r x) s' := fun Γ p hc hΓ => by
  obtain ⟨r, s₁, hr, hR⟩ := h Γ p hc hΓ
  obtain ⟨s₁', q1, q2⟩ := returns_up hr hs
  exact ⟨r, s₁', q1, s₁, q2, hR⟩
end
end Sf
end
section
namespace Sf
open PySem
inductive GQ : GenState → GenState → Prop
  | fresh (c) : GQ (.fresh c) (.fresh c)
  | running : GQ .running .running
  | finished : GQ .finished .finished
  | susp {k k' : Resume → Sem Fin} {fs fs' c} (hk : ∀ r, TR c (k r) (k' r)) (hf : FsR fs fs') (l l' p cl) : GQ (.suspended k l c p fs cl) (.suspended k' l' c p fs' cl)
  | soft {k k' : Resume → Sem Fin} {fs fs' c a} (ha : yfOf c = some a) (hk : ∀ r, TR c (k r) (k' r)) (hf : FsR fs fs') (l p) : GQ (.suspended k l c p fs true) (.suspended k' mark c p fs' false)
inductive OQ : Option GenState → Option GenState → Prop
  | none : OQ none none
  | some {x y} : GQ x y → OQ (some x) (some y)
structure SQ (s s' : Shared) : Prop where
  heap : s'.heap = s.heap
  drawn : s'.drawn = s.drawn
  toks : s'.toks = s.toks
  os : s'.os = s.os
  size : s'.gens.size = s.gens.size
  gens : ∀ i : Nat, OQ (s.gens[i]?) (s'.gens[i]?)
theorem GQ.seen {x y : GenState} (h : GQ x y) : y.seen = x.seen := by
  cases h with
  | susp hk hf => simp only [GenState.seen, hf.where_]
  | soft _ hk hf => simp only [GenState.seen, hf.where_]
  | _ => rfl
theorem SQ.get {s s' : Shared} (h : SQ s s') {g : Nat} {y : GenState} (e : s'.gens[g]? = some y) : ∃ x, s.gens[g]? = some x ∧ GQ x y := by
  have q := h.gens g
  rw [e] at q
  cases h2 : s.gens[g]? with
  | none => rw [h2] at q; cases q
  | some x => rw [h2] at q; cases q with | some z => exact ⟨x, rfl, z⟩
theorem SQ.setGen {s s' : Shared} (h : SQ s s') {x y : GenState} (g : Nat) (hx : GQ x y) : SQ (s.setGen g x) (s'.setGen g y) := by
  refine ⟨h.heap, h.drawn, h.toks, h.os, ?_, fun i => ?_⟩
  · show (s'.gens.setIfInBounds g y).size = (s.gens.setIfInBounds g x).size
    rw [Array.size_setIfInBounds, Array.size_setIfInBounds, h.size]
  · show OQ (s.gens.setIfInBounds g x)[i]? (s'.gens.setIfInBounds g y)[i]?
    by_cases hi : g = i
    · subst hi
      by_cases hl : g < s.gens.size
      · have hl' : g < s'.gens.size := by rw [h.size]; exact hl
        rw [Array.getElem?_setIfInBounds_self_of_lt hl, Array.getElem?_setIfInBounds_self_of_lt hl']
        exact .some hx
      · have hl' : ¬ g < s'.gens.size := by rw [h.size]; exact hl
        rw [Array.getElem?_eq_none (by rw [Array.size_setIfInBounds]; omega), Array.getElem?_eq_none (by rw [Array.size_setIfInBounds]; omega)]
        exact .none
    · rw [Array.getElem?_setIfInBounds_ne hi, Array.getElem?_setIfInBounds_ne hi]
      exact h.gens i
theorem SQ.push {s s' : Shared} (h : SQ s s') (c : Code) : SQ { s with gens := s.gens.push (.fresh c) } { s' with gens := s'.gens.push (.fresh c) } := by
  refine ⟨h.heap, h.drawn, h.toks, h.os, ?_, fun i => ?_⟩
  · show (s'.gens.push _).size = (s.gens.push _).size
    rw [Array.size_push, Array.size_push, h.size]
  · show OQ (s.gens.push _)[i]? (s'.gens.push _)[i]?
    rw [Array.getElem?_push, Array.getElem?_push, h.size]
    split
    · exact .some (.fresh _)
    · exact h.gens i
theorem SQ.heapTo {s s' : Shared} (h : SQ s s') (hp : Heap) : SQ { s with heap := hp } { s' with heap := hp } := ⟨rfl, h.drawn, h.toks, h.os, h.size, h.gens⟩
theorem SQ.toksTo {s s' : Shared} (h : SQ s s') (x) : SQ { s with toks := x } { s' with toks := x } := ⟨h.heap, h.drawn, rfl, h.os, h.size, h.gens⟩
theorem SQ.drawnTo {s s' : Shared} (h : SQ s s') (x) : SQ { s with drawn := x } { s' with drawn := x } := ⟨h.heap, rfl, h.toks, h.os, h.size, h.gens⟩
theorem SQ.osTo {s s' : Shared} (h : SQ s s') (x) : SQ { s with os := x } { s' with os := x } := ⟨h.heap, h.drawn, h.toks, rfl, h.size, h.gens⟩
def NM (s : Shared) : Prop := ∀ (i : Nat) k l c p fs cl, s.gens[i]? = some (.suspended k l c p fs cl) → yfOf c = none ∨ l ≠ mark
theorem SR.nm {s s' : Shared} (h : SR (fun _ => False) s s') : NM s' := fun i k l c p fs cl e => by
  have q := h.gens i
  rw [e] at q
  generalize s.gens[i]? = z at q
  cases q with
  | some q => cases q with
    | susp hk hf hl => exact hl.imp (fun z => z) fun z y => by rw [z] at y; cases y
    | soft hS => exact hS.elim
theorem SQ.clean {s s' : Shared} (h : SQ s s') (hn : NM s') (hl : leftWithCleanup s'.gens = false) : leftWithCleanup s.gens = false := by
  cases hx : leftWithCleanup s.gens with
  | false => rfl
  | true =>
    exfalso
    simp only [leftWithCleanup, Array.any_eq_true] at hx
    obtain ⟨i, hi, hx⟩ := hx
    have e : s.gens[i]? = some s.gens[i] := Array.getElem?_eq_getElem hi
    generalize s.gens[i] = x at hx e
    have q := h.gens i
    rw [e] at q
    generalize hz : s'.gens[i]? = z at q
    cases q with
    | some q =>
      cases q with
      | fresh => cases hx
      | running => cases hx
      | finished => cases hx
      | susp hk hf l l' p cl =>
        have hx : cl = true := hx
        subst hx
        have : leftWithCleanup s'.gens = true := by
          simp only [leftWithCleanup, Array.any_eq_true]
          obtain ⟨h1, h2⟩ := Array.getElem?_eq_some_iff.mp hz
          exact ⟨i, h1, by rw [h2]⟩
        rw [hl] at this
        cases this
      | soft ha hk hf l p =>
        rcases hn _ _ _ _ _ _ _ hz with y | y
        · rw [ha] at y; cases y
        · exact y rfl
section
variable {P : Program} {w : World}
theorem go1 {x x' : Shared} {t t2 : Thread} (hc : t.calm = true) (hz : x.asleep) (hs : step (denote table) P w x t = .go x' t2) (N : Nat) : schedN (denote table) P w (N + 1) (.single x t) = schedN (denote table) P w N (.single x' t2) := by
  have e := (sstep_single (denote table) P w x t hc hz).resolve_right (by rw [hs]; intro z; cases z)
  simp only [schedN, e, hs, Step.lift]
theorem asleep1 {x x' : Shared} {t t2 : Thread} (hz : x.asleep) (hs : step (denote table) P w x t = .go x' t2) : x'.asleep := Shared.asleep_of_life (step_life (denote table) P w x x' t t2 hs) hz
theorem go_soft {x : Shared} {v : Value} {l : List Value} {k : Resume → Sem Fin} {c : Code} {p : Pos} {st fs rest : List Frame} {g : Nat} {kk : GenResult → Sem Fin} {c' : Code} {p' : Pos} {a : Addr} (hz : x.asleep) (hsp : splitAtGen st = some (fs, (g, kk, c', p'), rest)) (ha : yfOf c = some a) (hg : isG (x.heap.get? a) = true) (hf : fs.any Frame.guarded = false) (N : Nat) :
    schedN (denote table) P w (N + 1) (.single x ⟨.yield v true l k, c, p, st⟩) = schedN (denote table) P w N (.single (x.setGen g (.suspended k l c p fs true)) ⟨kk (.yielded v), c', p', rest⟩) := by
  have hr := hz.1
  have hc := hz.2
  have hsh : closingShows x fs c true = false := by
    unfold closingShows
    rw [hf, Bool.false_or, Bool.true_and]
    have hd : delegateShows x (.ref a) = false := by
      dsimp only [delegateShows]
      cases ho : x.heap.get? a with
      | none => rfl
      | some o =>
        rw [ho] at hg
        have hg : (o.genNumber?).isSome = true := hg
        cases hn : o.genNumber? with
        | none => rw [hn] at hg; cases hg
        | some n => simp only [hr, hn, List.contains_nil]
    cases c with
    | builtin id args =>
      obtain ⟨pos, kw⟩ := args
      cases pos with
      | nil => cases ha
      | cons v0 r =>
        cases v0 with
        | ref b =>
          have ha : (if id = yfId then some b else none) = some a := ha
          by_cases hi : id = yfId
          · rw [if_pos hi] at ha
            cases ha
            subst hi
            exact hd
          · rw [if_neg hi] at ha; cases ha
        | _ => cases ha
    | _ => cases ha
  have h1 : (Config.single x ⟨.yield v true l k, c, p, st⟩).collect? w.params = none := by
    simp [Config.collect?, Config.single, (nothing_to_collect _ _ _ x _ hr).1]
  have h2 : (Config.single x ⟨.yield v true l k, c, p, st⟩).collectable = [] := by
    simp [Config.collectable, Config.single, (nothing_to_collect w.params _ _ x _ hr).2]
  have h3 : ∀ pr, (Config.single x ⟨.yield v true l k, c, p, st⟩).moves pr = [.run 0] := fun pr => by
    simp [Config.moves, Config.single, movesFrom, Thread.moves]
  have hp : (Config.single x ⟨.yield v true l k, c, p, st⟩).pick w = .ok (.run 0, .single x ⟨.yield v true l k, c, p, st⟩) := by
    simp only [Config.pick, h1, h2, Config.pickThread, h3]
    cases w.params.lifetimes <;> simp
  have hspec : Thread.special ⟨.yield v true l k, c, p, st⟩ = true := by
    simp [Thread.special, Thread.yieldsInsideHandler]
  have hl : lifeStep (denote table) P w [] x ⟨.yield v true l k, c, p, st⟩ = .go (x.setGen g (.suspended k l c p fs true)) ⟨kk (.yielded v), c', p', rest⟩ := by
    have hct : collectorTurn? w.params [] x ⟨.yield v true l k, c, p, st⟩ = none := rfl
    have hae : Thread.atItsEnd ⟨.yield v true l k, c, p, st⟩ = false := rfl
    simp only [lifeStep, hspec, if_true, hct, hsp, hsh, hae, Bool.false_and, Bool.false_eq_true, if_false, stepCounting, hc]
    simp only [step, hsp, Bool.true_or]
    rfl
  have hrun : (Config.single x ⟨.yield v true l k, c, p, st⟩).run (denote table) P w 0 = .go (.single (x.setGen g (.suspended k l c p fs true)) ⟨kk (.yielded v), c', p', rest⟩) := by
    simp only [Config.run, Config.single]
    simp [others_single, Thread.finalizes, hl]
  simp only [schedN, sstep, hp, Config.move, hrun]
theorem tr_rule {c tag k t'} (h : TR c (.rule tag k) t') : ∃ k', t' = .rule tag k' ∧ ∀ x, TR c (k x) (k' x) := by
  cases h with
  | same hy => exact ⟨_, rfl, fun _ => .same hy _⟩
  | tr hy => exact ⟨_, rfl, fun _ => .tr hy _⟩
  | t0 hy => exact ⟨_, rfl, fun _ => .t0 hy _⟩
theorem tr_at {c p k t'} (h : TR c (.at p k) t') : ∃ k', t' = .at p k' ∧ ∀ x, TR c (k x) (k' x) := by
  cases h with
  | same hy => exact ⟨_, rfl, fun _ => .same hy _⟩
  | tr hy => exact ⟨_, rfl, fun _ => .tr hy _⟩
  | t0 hy => exact ⟨_, rfl, fun _ => .t0 hy _⟩
theorem tr_load {c a p k t'} (h : TR c (.load a p k) t') : ∃ k', t' = .load a p k' ∧ ∀ x, TR c (k x) (k' x) := by
  cases h with
  | same hy => exact ⟨_, rfl, fun _ => .same hy _⟩
  | tr hy => exact ⟨_, rfl, fun _ => .tr hy _⟩
  | t0 hy => exact ⟨_, rfl, fun _ => .t0 hy _⟩
theorem tr_update {c a p f k t'} (h : TR c (.update a p f k) t') : ∃ k', t' = .update a p f k' ∧ ∀ x, TR c (k x) (k' x) := by
  cases h with
  | same hy => exact ⟨_, rfl, fun _ => .same hy _⟩
  | tr hy => exact ⟨_, rfl, fun _ => .tr hy _⟩
  | t0 hy => exact ⟨_, rfl, fun _ => .t0 hy _⟩
theorem tr_alloc {c o k t'} (h : TR c (.alloc o k) t') : ∃ k', t' = .alloc o k' ∧ ∀ x, TR c (k x) (k' x) := by
  cases h with
  | same hy => exact ⟨_, rfl, fun _ => .same hy _⟩
  | tr hy => exact ⟨_, rfl, fun _ => .tr hy _⟩
  | t0 hy => exact ⟨_, rfl, fun _ => .t0 hy _⟩
theorem tr_alive {c a k t'} (h : TR c (.loadIfAlive a k) t') : ∃ k', t' = .loadIfAlive a k' ∧ ∀ x, TR c (k x) (k' x) := by
  cases h with
  | same hy => exact ⟨_, rfl, fun _ => .same hy _⟩
  | tr hy => exact ⟨_, rfl, fun _ => .tr hy _⟩
  | t0 hy => exact ⟨_, rfl, fun _ => .t0 hy _⟩
theorem tr_point {c l k t'} (h : TR c (.point l k) t') : ∃ k', t' = .point l k' ∧ ∀ x, TR c (k x) (k' x) := by
  cases h with
  | same hy => exact ⟨_, rfl, fun _ => .same hy _⟩
  | tr hy => exact ⟨_, rfl, fun _ => .tr hy _⟩
  | t0 hy => exact ⟨_, rfl, fun _ => .t0 hy _⟩
theorem tr_fresh {c k t'} (h : TR c (.fresh k) t') : ∃ k', t' = .fresh k' ∧ ∀ x, TR c (k x) (k' x) := by
  cases h with
  | same hy => exact ⟨_, rfl, fun _ => .same hy _⟩
  | tr hy => exact ⟨_, rfl, fun _ => .tr hy _⟩
  | t0 hy => exact ⟨_, rfl, fun _ => .t0 hy _⟩
theorem tr_ask {c k t'} (h : TR c (.ask k) t') : ∃ k', t' = .ask k' ∧ ∀ x, TR c (k x) (k' x) := by
  cases h with
  | same hy => exact ⟨_, rfl, fun _ => .same hy _⟩
  | tr hy => exact ⟨_, rfl, fun _ => .tr hy _⟩
  | t0 hy => exact ⟨_, rfl, fun _ => .t0 hy _⟩
theorem tr_choose {c src n k t'} (h : TR c (.choose src n k) t') : ∃ k', t' = .choose src n k' ∧ ∀ x, TR c (k x) (k' x) := by
  cases h with
  | same hy => exact ⟨_, rfl, fun _ => .same hy _⟩
  | tr hy => exact ⟨_, rfl, fun _ => .tr hy _⟩
  | t0 hy => exact ⟨_, rfl, fun _ => .t0 hy _⟩
theorem tr_os {c q l k t'} (h : TR c (.os q l k) t') : ∃ k', t' = .os q l k' ∧ ∀ x, TR c (k x) (k' x) := by
  cases h with
  | same hy => exact ⟨_, rfl, fun _ => .same hy _⟩
  | tr hy => exact ⟨_, rfl, fun _ => .tr hy _⟩
  | t0 hy => exact ⟨_, rfl, fun _ => .t0 hy _⟩
theorem tr_call {c d h0 g l k t'} (h : TR c (.call d h0 g l k) t') : ∃ k', t' = .call d h0 g l k' ∧ ∀ x, TR c (k x) (k' x) := by
  cases h with
  | same hy => exact ⟨_, rfl, fun _ => .same hy _⟩
  | tr hy => exact ⟨_, rfl, fun _ => .tr hy _⟩
  | t0 hy => exact ⟨_, rfl, fun _ => .t0 hy _⟩
theorem tr_handled {c o k t'} (h : TR c (.handled o k) t') : ∃ k', t' = .handled o k' ∧ ∀ x, TR c (k x) (k' x) := by
  cases h with
  | same hy => exact ⟨_, rfl, fun _ => .same hy _⟩
  | tr hy => exact ⟨_, rfl, fun _ => .tr hy _⟩
  | t0 hy => exact ⟨_, rfl, fun _ => .t0 hy _⟩
theorem tr_newGen {c d k t'} (h : TR c (.newGen d k) t') : ∃ k', t' = .newGen d k' ∧ ∀ x, TR c (k x) (k' x) := by
  cases h with
  | same hy => exact ⟨_, rfl, fun _ => .same hy _⟩
  | tr hy => exact ⟨_, rfl, fun _ => .tr hy _⟩
  | t0 hy => exact ⟨_, rfl, fun _ => .t0 hy _⟩
theorem tr_genState {c g k t'} (h : TR c (.genState g k) t') : ∃ k', t' = .genState g k' ∧ ∀ x, TR c (k x) (k' x) := by
  cases h with
  | same hy => exact ⟨_, rfl, fun _ => .same hy _⟩
  | tr hy => exact ⟨_, rfl, fun _ => .tr hy _⟩
  | t0 hy => exact ⟨_, rfl, fun _ => .t0 hy _⟩
theorem tr_resume {c g r l k t'} (h : TR c (.resume g r l k) t') : ∃ k', t' = .resume g r l k' ∧ ∀ x, TR c (k x) (k' x) := by
  cases h with
  | same hy => exact ⟨_, rfl, fun _ => .same hy _⟩
  | tr hy => exact ⟨_, rfl, fun _ => .tr hy _⟩
  | t0 hy => exact ⟨_, rfl, fun _ => .t0 hy _⟩
theorem tr_stack {c k t'} (h : TR c (.stack k) t') : ∃ k', t' = .stack k' ∧ ∀ x, TR c (k x) (k' x) := by
  cases h with
  | same hy => exact ⟨_, rfl, fun _ => .same hy _⟩
  | tr hy => exact ⟨_, rfl, fun _ => .tr hy _⟩
  | t0 hy => exact ⟨_, rfl, fun _ => .t0 hy _⟩
theorem tr_thread {c k t'} (h : TR c (.thread k) t') : ∃ k', t' = .thread k' ∧ ∀ x, TR c (k x) (k' x) := by
  cases h with
  | same hy => exact ⟨_, rfl, fun _ => .same hy _⟩
  | tr hy => exact ⟨_, rfl, fun _ => .tr hy _⟩
  | t0 hy => exact ⟨_, rfl, fun _ => .t0 hy _⟩
theorem tr_pure {c x t'} (h : TR c (.pure x) t') : t' = .pure x := by cases h <;> rfl
theorem tr_raise {c x t'} (h : TR c (.raise x) t') : t' = .raise x := by cases h <;> rfl
theorem tr_yield {c v g l k t'} (h : TR c (.yield v g l k) t') : (∃ k' l', t' = .yield v g l' k' ∧ ∀ x, TR c (k x) (k' x)) ∨
    (g = true ∧ ∃ a, yfOf c = some a ∧ t' = .loadIfAlive a fun o => if isG o then .yield v false mark fun x => T0 (k x) else .yield v true [] fun x => T0 (k x)) := by
  cases h with
  | same hy => exact .inl ⟨_, _, rfl, fun _ => .same hy _⟩
  | t0 hy => exact .inl ⟨_, _, rfl, fun _ => .t0 hy _⟩
  | @tr a hy =>
    cases g with
    | true => exact .inr ⟨rfl, a, hy, rfl⟩
    | false => exact .inl ⟨_, _, rfl, fun _ => .t0 hy _⟩
end
end Sf
end
section
namespace Sf
open PySem
section
variable {P : Program} {w : World}
theorem again1 {x : Shared} {c c' : Code} {p : Pos} {st st' : List Frame} (hf : FsR st st') : ∃ st2, step (denote table) P w x ⟨.pure (.again c'), c, p, st⟩ = .go x ⟨denote table c', c', p, st2⟩ ∧ FsR st2 st' := by
  cases hf with
  | nil => exact ⟨[], by cases c <;> cases c' <;> rfl, .nil⟩
  | cons y r =>
    cases y with
    | gen hk => cases c <;> cases c' <;> exact ⟨_, rfl, .cons (.gen hk ..) r⟩
    | ret hk => cases c <;> cases c' <;> exact ⟨_, rfl, .cons (.ret hk ..) r⟩
theorem calm_again {c' c : Code} {p : Pos} {st : List Frame} (hq : c'.quiet = true) : Thread.calm ⟨.pure (.again c'), c, p, st⟩ = true := by
  have h1 : Thread.loud ⟨.pure (.again c'), c, p, st⟩ = false := by rw [Thread.loud_again, hq]; rfl
  rw [Thread.calm_eq, h1]
  rfl
theorem calm_yield {v : Value} {g : Bool} {l : List Value} {k : Resume → Sem Fin} {c : Code} {p : Pos} {st fs rest : List Frame} {b} (hsp : splitAtGen st = some (fs, b, rest)) (hg : (g || fs.any Frame.guarded) = false) : Thread.calm ⟨.yield v g l k, c, p, st⟩ = true := by
  have h1 : Thread.loud ⟨.yield v g l k, c, p, st⟩ = false := by rw [Thread.loud_yield v g l k c p hsp, hg]
  rw [Thread.calm_eq, h1]
  rfl
theorem top_fs {a b : List Frame} (h : FsR a b) : topHandled b = topHandled a := h.top false
theorem own_fs {a b : List Frame} (h : FsR a b) : topHandled (ownFrames b) = topHandled (ownFrames a) := by
  have hs := h.split
  unfold ownFrames
  generalize splitAtGen a = x at hs ⊢
  generalize splitAtGen b = z at hs ⊢
  cases hs with
  | none => exact top_fs h
  | some i1 _ _ => exact top_fs i1
theorem halted_ends {M : Model} {n s t r s'} (h : M.runN n s t = .halted (outcomeOf r) s') {why s2} (e : M.step s t = .halt (.stuck why) s2) : False := by
  cases n with
  | zero => cases h
  | succ n =>
    rw [runN_succ, e] at h
    injection h with h1 _
    cases r <;> cases h1
theorem sim : ∀ (n : Nat) (x : Shared) (t : Sem Fin) (c : Code) (p : Pos) (st : List Frame) (s : Shared) (t' : Sem Fin) (st' : List Frame) (r : Result) (sE : Shared), SQ x s → TR c t t' → FsR st st' → (mp P w).runN n s ⟨t', c, p, st'⟩ = .halted (outcomeOf r) sE → NM sE → x.asleep →
    ∃ N xE, schedN (denote table) P w N (.single x ⟨t, c, p, st⟩) = .halted (outcomeOf r) xE ∧ SQ xE sE ∧ xE.heap.life = x.heap.life := by
  intro n
  induction n using Nat.strongRecOn with
  | ind n ih =>
  intro x t c p st s t' st' r sE hs ht hf h hn hz
  cases n with
  | zero => cases h
  | succ n =>
  -- one step on both sides
  have one : ∀ {x2 s2 : Shared} {t2 t2' : Sem Fin} {c2 : Code} {p2 : Pos} {st2 st2' : List Frame}, (mp P w).step s ⟨t', c, p, st'⟩ = .go s2 ⟨t2', c2, p2, st2'⟩ → Thread.calm ⟨t, c, p, st⟩ = true → step (denote table) P w x ⟨t, c, p, st⟩ = .go x2 ⟨t2, c2, p2, st2⟩ → SQ x2 s2 → TR c2 t2 t2' → FsR st2 st2' →
      ∃ N xE, schedN (denote table) P w N (.single x ⟨t, c, p, st⟩) = .halted (outcomeOf r) xE ∧ SQ xE sE ∧ xE.heap.life = x.heap.life := by
    intro x2 s2 t2 t2' c2 p2 st2 st2' hm hc hr h1 h2 h3
    rw [runN_succ, hm] at h
    obtain ⟨N, xE, q1, q2, q3⟩ := ih n (Nat.lt_succ_self n) x2 t2 c2 p2 st2 s2 t2' st2' r sE h1 h2 h3 h hn (asleep1 hz hr)
    exact ⟨N + 1, xE, (go1 hc hz hr N).trans q1, q2, q3.trans (step_life _ _ _ _ _ _ _ hr)⟩
  have leafEnd : ∀ {r' : Result}, t = leafOf r' → t' = leafOf r' → st = [] → st' = [] → ∃ N xE, schedN (denote table) P w N (.single x ⟨t, c, p, st⟩) = .halted (outcomeOf r) xE ∧ SQ xE sE ∧ xE.heap.life = x.heap.life := by
    intro r' e1 e2 e3 e4
    subst e1 e2 e3 e4
    rw [runN_succ, step_leaf_nil] at h
    unfold finish at h
    cases hl : leftWithCleanup s.gens with
    | true =>
      rw [hl] at h
      simp only [if_true] at h
      injection h with h1 _
      cases r <;> cases h1
    | false =>
      rw [hl] at h
      simp only [Bool.false_eq_true, if_false] at h
      injection h with h1 h2
      have er : r' = r := by cases r <;> cases r' <;> first | (cases h1; rfl) | cases h1
      subst er h2
      have hx := hs.clean hn hl
      have hc : Thread.calm ⟨leafOf r', c, p, []⟩ = true := by cases r' <;> rfl
      have hst : step (denote table) P w x ⟨leafOf r', c, p, []⟩ = .halt (outcomeOf r') x := by
        have e : step (denote table) P w x ⟨leafOf r', c, p, []⟩ = finish (outcomeOf r') x := by cases r' <;> rfl
        rw [e]
        simp only [finish, hx, Bool.false_eq_true, if_false]
      have e := (sstep_single (denote table) P w x _ hc hz).resolve_right (by rw [hst]; intro z; injection z with z1 _; cases r' <;> cases z1)
      exact ⟨1, x, by simp only [schedN, e, hst, Step.lift], hs, rfl⟩
  cases t with
  | pure fin =>
    have ht := tr_pure ht
    subst ht
    cases fin with
    | again c' =>
      cases hq : c'.quiet with
      | false => exact (halted_ends h (step_again_loud _ _ _ _ _ _ hq)).elim
      | true =>
        obtain ⟨st2, e1, e2⟩ := again1 (P := P) (w := w) (x := x) (c := c) (c' := c') (p := p) hf
        exact one (step_again _ _ _ _ _ c' hq) (calm_again hq) e1 hs (tr_den (P := P) (w := w) c') e2
    | done f =>
      cases hf with
      | nil => exact leafEnd (r' := .ok f) rfl rfl rfl rfl
      | cons y hr =>
        cases y with
        | ret hk => exact one (step_leaf_ret (mp P w) s c p _ (.ok f) ..) rfl rfl hs (hk _) hr
        | gen hk => exact one (step_leaf_gen (mp P w) s c p _ (.ok f) ..) rfl rfl (hs.setGen _ .finished) (hk _) hr
  | raise e =>
    have ht := tr_raise ht
    subst ht
    cases hf with
    | nil => exact leafEnd (r' := .error e) rfl rfl rfl rfl
    | cons y hr =>
      cases y with
      | ret hk => exact one (step_leaf_ret (mp P w) s c p _ (.error e) ..) rfl rfl hs (hk _) hr
      | gen hk => exact one (step_leaf_gen (mp P w) s c p _ (.error e) ..) rfl rfl (hs.setGen _ .finished) (hk _) hr
  | unsupported what =>
    exfalso
    cases ht <;> (rw [runN_succ] at h; have h : Run.halted (.unsupported what) s = _ := h; injection h with h1 _; cases r <;> cases h1)
  | finish e =>
    exfalso
    have q : (mp P w).step s ⟨.finish e, c, p, st'⟩ = finish (.ended e) s := rfl
    have et : t' = .finish e := by cases ht <;> rfl
    subst et
    rw [runN_succ, q] at h
    unfold finish at h
    cases hl : leftWithCleanup s.gens <;> rw [hl] at h <;> simp only [Bool.false_eq_true, if_false, if_true] at h <;> (injection h with h1 _; cases r <;> cases h1)
  | rule tag k => obtain ⟨k', rfl, hk⟩ := tr_rule ht; exact one rfl rfl rfl hs (hk _) hf
  | «at» p' k => obtain ⟨k', rfl, hk⟩ := tr_at ht; exact one rfl rfl rfl hs (hk _) hf
  | load a part k =>
    obtain ⟨k', rfl, hk⟩ := tr_load ht
    cases ho : s.heap.get? a with
    | none => obtain ⟨why, e⟩ := step_load_none (mp P w) s c p st' part k' ho; exact (halted_ends h e).elim
    | some o =>
      have ho' : x.heap.get? a = some o := by rw [← hs.heap]; exact ho
      exact one (step_load (mp P w) s c p st' part k' ho) rfl (by simp only [step, ho']) hs (hk _) hf
  | update a part f k =>
    obtain ⟨k', rfl, hk⟩ := tr_update ht
    by_cases ho : (s.heap.get? a).isSome
    · have ho' : (x.heap.get? a).isSome = true := by rw [← hs.heap]; exact ho
      exact one (step_update (mp P w) s c p st' part f k' ho) rfl (by simp only [step, ho', if_true]; rfl) (by rw [hs.heap]; exact hs.heapTo _) (hk _) hf
    · obtain ⟨why, e⟩ := step_update_none (mp P w) s c p st' part f k' ho; exact (halted_ends h e).elim
  | alloc o k =>
    obtain ⟨k', rfl, hk⟩ := tr_alloc ht
    exact one (t2 := k x.heap.objs.size) rfl rfl rfl (by rw [hs.heap]; exact hs.heapTo _) (by rw [hs.heap]; exact hk _) hf
  | loadIfAlive a k =>
    obtain ⟨k', rfl, hk⟩ := tr_alive ht
    exact one (t2 := k (x.heap.get? a)) rfl rfl rfl hs (by rw [hs.heap]; exact hk _) hf
  | point l k => obtain ⟨k', rfl, hk⟩ := tr_point ht; exact one rfl rfl rfl hs (hk _) hf
  | register a k =>
    exfalso
    cases ht <;> (rw [runN_succ] at h; have h : Run.halted (.unsupported "lifetime") s = _ := h; injection h with h1 _; cases r <;> cases h1)
  | fresh k =>
    obtain ⟨k', rfl, hk⟩ := tr_fresh ht
    exact one (t2 := k x.toks) rfl rfl rfl (by rw [hs.toks]; exact hs.toksTo _) (by rw [hs.toks]; exact hk _) hf
  | ask k => obtain ⟨k', rfl, hk⟩ := tr_ask ht; exact one rfl rfl rfl hs (hk _) hf
  | choose src m k =>
    obtain ⟨k', rfl, hk⟩ := tr_choose ht
    by_cases hm : m = 0
    · subst hm; obtain ⟨why, e⟩ := step_choose_zero (mp P w) s c p st' src k'; exact (halted_ends h e).elim
    · exact one (t2 := k (w.draws src (x.drawn.get src) % m)) (step_choose (mp P w) s c p st' src k' hm) rfl (by simp only [step, hm, if_false]; rfl) (by rw [hs.drawn]; exact hs.drawnTo _) (by rw [hs.drawn]; exact hk _) hf
  | os q l k =>
    obtain ⟨k', rfl, hk⟩ := tr_os ht
    exact one (t2 := k (Os.step x.os q).2) rfl rfl rfl (by rw [hs.os]; exact hs.osTo _) (by rw [hs.os]; exact hk _) hf
  | call d h0 g l k =>
    obtain ⟨k', rfl, hk⟩ := tr_call ht
    exact one (step_call (mp P w) s c p st' d h0 g l k') rfl rfl hs (tr_den (P := P) (w := w) d) (.cons (.ret hk ..) hf)
  | handled own k =>
    obtain ⟨k', rfl, hk⟩ := tr_handled ht
    have e2 : topHandled (if own then ownFrames st' else st') = topHandled (if own then ownFrames st else st) := by
      cases own
      · exact top_fs hf
      · exact own_fs hf
    exact one (t2 := k (topHandled (if own then ownFrames st else st))) (step_handled (mp P w) s c p st' own k') (by rfl) (by cases own <;> rfl) hs (by rw [e2]; exact hk _) hf
  | genState g k =>
    obtain ⟨k', rfl, hk⟩ := tr_genState ht
    cases hg : s.gens[g]? with
    | none => obtain ⟨why, e⟩ := step_genState_none (mp P w) s c p st' k' hg; exact (halted_ends h e).elim
    | some y =>
      obtain ⟨x0, hx0, q⟩ := hs.get hg
      refine one (t2 := k x0.seen) (step_genState (mp P w) s c p st' k' hg) rfl ?_ hs (by rw [q.seen]; exact hk _) hf
      simp only [step, hx0]
      cases x0 <;> rfl
  | newGen d k =>
    obtain ⟨k', rfl, hk⟩ := tr_newGen ht
    exact one (t2 := k x.gens.size) rfl rfl rfl (hs.push d) (by rw [hs.size]; exact hk _) hf
  | stack k =>
    obtain ⟨k', rfl, hk⟩ := tr_stack ht
    exact one (t2 := k ((c, p) :: st.map Frame.where_)) (step_stack (mp P w) s c p st' k') rfl rfl hs (by rw [hf.where_]; exact hk _) hf
  | fork d k =>
    exfalso
    cases ht <;> (rw [runN_succ] at h; have h : Run.halted (.unsupported "threads") s = _ := h; injection h with h1 _; cases r <;> cases h1)
  | thread k => obtain ⟨k', rfl, hk⟩ := tr_thread ht; exact one rfl rfl rfl hs (hk _) hf
  | await a f d l k =>
    exfalso
    cases ht <;> (rw [runN_succ] at h; have h : Run.halted (.unsupported "threads") s = _ := h; injection h with h1 _; cases r <;> cases h1)
  | resume g rr l k =>
    obtain ⟨k', rfl, hk⟩ := tr_resume ht
    cases hg : s.gens[g]? with
    | none => obtain ⟨why, e⟩ := step_resume_none (mp P w) s c p st' rr l k' hg; exact (halted_ends h e).elim
    | some y =>
      obtain ⟨x0, hx0, q⟩ := hs.get hg
      cases q with
      | fresh d =>
        cases rr with
        | send v =>
          by_cases hv : v = .none
          · subst hv
            exact one (step_resume_fresh (mp P w) s c p st' l k' hg) rfl (by simp only [step, hx0]; rfl) (hs.setGen g .running) (tr_den (P := P) (w := w) d) (.cons (.gen hk ..) hf)
          · exact one (step_resume_justStarted (mp P w) s c p st' l k' hg hv) rfl (by cases v <;> first | exact absurd rfl hv | simp only [step, hx0]) hs (hk _) hf
        | throw e => exact one (step_resume_throwFresh (mp P w) s c p st' e l k' hg) rfl (by simp only [step, hx0]; rfl) (hs.setGen g .finished) (hk _) hf
      | running => exact one (step_resume_running (mp P w) s c p st' rr l k' hg) rfl (by simp only [step, hx0]) hs (hk _) hf
      | finished => exact one (step_resume_finished (mp P w) s c p st' rr l k' hg) rfl (by simp only [step, hx0]) hs (hk _) hf
      | susp hk0 hf0 => exact one (step_resume_suspended (mp P w) s c p st' rr l k' hg) rfl (by simp only [step, hx0]; rfl) (hs.setGen g .running) (hk0 _) (hf0.append (.cons (.gen hk ..) hf))
      | soft ha hk0 hf0 => exact one (step_resume_suspended (mp P w) s c p st' rr l k' hg) rfl (by simp only [step, hx0]; rfl) (hs.setGen g .running) (hk0 _) (hf0.append (.cons (.gen hk ..) hf))
  | «yield» v g l k =>
    have hsp := hf.split
    rcases tr_yield ht with ⟨k', l', rfl, hk⟩ | ⟨rfl, a, ha, rfl⟩
    · generalize hx : splitAtGen st = z at hsp
      generalize hy : splitAtGen st' = z' at hsp
      cases hsp with
      | none => obtain ⟨why, e⟩ := step_yield_none (mp P w) s c p st' v g l' k' hy; exact (halted_ends h e).elim
      | some i1 i2 i3 =>
        rename_i pre pre' gg kk kk' cc pp rest rest'
        cases hq : (End.susp v g l' k' c p pre').quiet with
        | false => exact (halted_ends h (step_yield_loud (mp P w) s c p st' v g l' k' hy hq)).elim
        | true =>
          have hq' : (g || pre.any Frame.guarded) = false := by
            have : (!(g || pre'.any Frame.guarded)) = true := hq
            rw [i1.guarded] at this
            simpa using this
          refine one (step_yield (mp P w) s c p st' v g l' k' hy hq) (calm_yield hx hq') (by simp only [step, hx]; rfl) ?_ (i2 _) i3
          have hq2 : (g || pre'.any Frame.guarded) = (g || pre.any Frame.guarded) := by rw [i1.guarded]
          show SQ (x.setGen gg (.suspended k l c p pre (g || pre.any Frame.guarded))) (s.setGen gg (.suspended k' l' c p pre' (g || pre'.any Frame.guarded)))
          rw [hq2]
          exact hs.setGen gg (.susp hk i1 ..)
    · -- the soft sleep
      rw [runN_succ, step_loadIfAlive] at h
      dsimp only at h
      cases hg : isG (s.heap.get? a) with
      | false =>
        rw [hg] at h
        simp only [Bool.false_eq_true, if_false] at h
        generalize hy : splitAtGen st' = z' at hsp
        cases z' with
        | none => obtain ⟨why, e⟩ := step_yield_none (mp P w) s c p st' v true [] (fun x => T0 (k x)) hy; exact (halted_ends h e).elim
        | some z => 
          obtain ⟨pre', b, rest'⟩ := z
          exact (halted_ends h (step_yield_loud (mp P w) s c p st' v true [] (fun x => T0 (k x)) hy rfl)).elim
      | true =>
        rw [hg] at h
        simp only [if_true] at h
        generalize hx : splitAtGen st = z at hsp
        generalize hy : splitAtGen st' = z' at hsp
        cases hsp with
        | none => obtain ⟨why, e⟩ := step_yield_none (mp P w) s c p st' v false mark (fun x => T0 (k x)) hy; exact (halted_ends h e).elim
        | some i1 i2 i3 =>
          rename_i pre pre' gg kk kk' cc pp rest rest'
          cases hq : (End.susp v false mark (fun x => T0 (k x)) c p pre').quiet with
          | false => exact (halted_ends h (step_yield_loud (mp P w) s c p st' v false mark (fun x => T0 (k x)) hy hq)).elim
          | true =>
            have hgd : pre.any Frame.guarded = false := by
              have : (!(false || pre'.any Frame.guarded)) = true := hq
              rw [i1.guarded] at this
              simpa using this
            cases n with
            | zero => cases h
            | succ n =>
              rw [runN_succ, step_yield (mp P w) s c p st' v false mark _ hy hq] at h
              dsimp only at h
              have hgs : End.genState (.susp v false mark (fun x => T0 (k x)) c p pre') = .suspended (fun x => T0 (k x)) mark c p pre' false := by
                show GenState.suspended _ _ _ _ _ (false || pre'.any Frame.guarded) = _
                rw [i1.guarded, hgd]; rfl
              rw [hgs] at h
              have hsx : SQ (x.setGen gg (.suspended k l c p pre true)) (s.setGen gg (.suspended (fun x => T0 (k x)) mark c p pre' false)) := hs.setGen gg (.soft ha (fun _ => .t0 ha _) i1 ..)
              obtain ⟨N, xE, q1, q2, q3⟩ := ih n (by omega) _ _ _ _ _ _ _ _ r sE hsx (i2 (.yielded v)) i3 h hn (hz : Shared.asleep (x.setGen gg _))
              exact ⟨N + 1, xE, (go_soft hz hx ha (by rw [← hs.heap]; exact hg) hgd N).trans q1, q2, q3⟩
end
end Sf
end
section
namespace Sf
open PySem L2 PyProof.Rows
section
variable {P : Program} {w : World} {S : Nat → Prop} {A : Around} {α β : Type} {x s : Shared}
def lo (S : Nat → Prop) (Q : α → Shared → Prop) : α → Shared → Prop := fun a s => ∃ x, SR S x s ∧ Q a x
def wS (P : Program) (w : World) (S : Nat → Prop) (A : Around) (t : Sem α) (Q : α → Shared → Prop) (E : Value → Shared → Prop) (x : Shared) : Prop := ∀ s, SR S x s → wpAny (mp P w) A t (lo S Q) (lo S E) s
def cS (P : Program) (w : World) (S : Nat → Prop) (A : Around) (c : Code) (R : Result → Shared → Prop) (x : Shared) : Prop := ∀ s, SR S x s → codeAny (mp P w) A c (lo S R) s
theorem wS_up {t : Sem α} {Q : α → Shared → Prop} {E : Value → Shared → Prop} (h : wpAny (model P w) A t Q E x) : wS P w S A t Q E x := fun _ hs => wpAny_up hs h
theorem cS_up {c : Code} {R : Result → Shared → Prop} (h : codeAny (model P w) A c R x) : cS P w S A c R x := fun _ hs => codeAny_up hs h
theorem lo.imp {Q Q' : α → Shared → Prop} (h : ∀ a x, Q a x → Q' a x) {a : α} (q : lo S Q a s) : lo S Q' a s := let ⟨x, h1, h2⟩ := q; ⟨x, h1, h _ _ h2⟩
theorem wS.imp {t : Sem α} {Q Q' : α → Shared → Prop} {E E' : Value → Shared → Prop} (h : wS P w S A t Q E x) (hQ : ∀ a x, Q a x → Q' a x) (hE : ∀ a x, E a x → E' a x) : wS P w S A t Q' E' x :=
  fun s hs => wpAny_mono (h s hs) (fun _ _ q => q.imp hQ) fun _ _ q => q.imp hE
theorem wS.thn {t : Sem α} {Q Q' : α → Shared → Prop} {E : Value → Shared → Prop} (h : wS P w S A t Q E x) (hQ : ∀ a x, Q a x → Q' a x) : wS P w S A t Q' E x := h.imp hQ fun _ _ q => q
end
structure QE (X : Cx) (e : Expr) (t : TE) : Prop where
  run : ∀ (S : Nat → Prop) (pins : List (Addr × Obj)) (x : Shared) (σ : L2.St) (H : Hp) (Q : VK), Inv X pins σ H x → t σ H Q → wS X.prog X.w S X.A (eval e X.env) (EP X pins σ Q) X.xe x
structure QT (X : Cx) (e : Expr) (t : TT) : Prop where
  run : ∀ (S : Nat → Prop) (pins : List (Addr × Obj)) (x : Shared) (σ : L2.St) (H : Hp) (Q : Bool → Hp → Prop), Inv X pins σ H x → t σ H Q → wS X.prog X.w S X.A (isTrue e X.env (eval e X.env)) (TP X pins σ Q) X.xe x
structure QA (X : Cx) (es : List Expr) (t : TA) : Prop where
  run : ∀ (pos : Pos) (S : Nat → Prop) (pins : List (Addr × Obj)) (x : Shared) (σ : L2.St) (H : Hp) (Q : List V → Hp → Prop), Inv X pins σ H x → t σ H Q → wS X.prog X.w S X.A (spliced (backTo pos (starEach es X.env))) (AP X pins σ Q) X.xe x
structure QS (X : Cx) (st : Stmt) (t : TS) : Prop where
  run : ∀ (S : Nat → Prop) (pins : List (Addr × Obj)) (x : Shared) (σ : L2.St) (H : Hp) (D : Ends), Inv X pins σ H x → t D σ H → wS X.prog X.w S X.A (exec st X.env) (SP X pins D) X.xe x
structure QSs (X : Cx) (st : List Stmt) (t : TS) : Prop where
  run : ∀ (S : Nat → Prop) (pins : List (Addr × Obj)) (x : Shared) (σ : L2.St) (H : Hp) (D : Ends), Inv X pins σ H x → t D σ H → wS X.prog X.w S X.A (execs st X.env) (SP X pins D) X.xe x
section
variable {X : Cx} {e a b : Expr} {es : List Expr} {st : Stmt} {rest : List Stmt} {te ta tb : TE} {tA tB' : TT} {tl : TA} {t u : TS} {pos : Pos}
theorem PE.up (h : PE X e te) : QE X e te := ⟨fun _ pins x σ H Q I q => wS_up (h.run pins x σ H Q I q)⟩
theorem PT.up (h : PT X e tA) : QT X e tA := ⟨fun _ pins x σ H Q I q => wS_up (h.run pins x σ H Q I q)⟩
theorem PA.up (h : PA X es tl) : QA X es tl := ⟨fun pos _ pins x σ H Q I q => wS_up (h.run pos pins x σ H Q I q)⟩
theorem PS.up (h : PS X st t) : QS X st t := ⟨fun _ pins x σ H D I q => wS_up (h.run pins x σ H D I q)⟩
theorem PSs.up (h : PSs X rest t) : QSs X rest t := ⟨fun _ pins x σ H D I q => wS_up (h.run pins x σ H D I q)⟩
theorem qss_nil : QSs X [] tNext := PSs.up pss_nil
theorem flow_then {S : Nat → Prop} {pins : List (Addr × Obj)} {D D' : Ends} {Mid : L2.St → Hp → Prop} (h2 : ∀ x σ H, Inv X pins σ H x → Mid σ H → wS X.prog X.w S X.A (execs rest X.env) (SP X pins D') X.xe x)
    (hD : D = { D' with nx := Mid }) {f : Flow} {s : Shared} : lo S (SP X pins D) f s →
    (match f with | .next => wpAny (mp X.prog X.w) X.A (execs rest X.env) (lo S (SP X pins D')) (lo S X.xe) s | f => lo S (SP X pins D') f s) := by
  subst hD
  intro ⟨y, hy, q⟩
  cases f with
  | next => obtain ⟨σ', H', I', q⟩ := q; exact h2 y σ' H' I' q s hy
  | brk => exact ⟨y, hy, q⟩
  | cont => exact ⟨y, hy, q⟩
  | ret v => exact ⟨y, hy, q⟩
theorem qss_cons (h1 : QS X st t) (h2 : QSs X rest u) : QSs X (st :: rest) (tSeq t u) :=
  ⟨fun S pins x σ H D I h s hs => wpAny_execs_cons (wpAny_mono (h1.run S pins x σ H { D with nx := u D } I h s hs) (fun f _ q => flow_then (fun y σ' H' I' q => h2.run S pins y σ' H' D I' q) rfl q) fun _ _ e => e)⟩
theorem qss_cut (h1 : QS X st t) (h2 : QSs X rest u) : QSs X (st :: rest) (C8.tCut t u) :=
  ⟨fun S pins x σ H D I ⟨Mid, hm, hu⟩ s hs => wpAny_execs_cons (wpAny_mono (h1.run S pins x σ H { D with nx := Mid } I hm s hs) (fun f _ q => flow_then (fun y σ' H' I' q => h2.run S pins y σ' H' D I' (hu σ' H' q)) rfl q) fun _ _ e => e)⟩
theorem qss_one (h1 : QS X st t) : QSs X [st] t :=
  ⟨fun S pins x σ H D I h s hs => wpAny_execs_cons (wpAny_mono (h1.run S pins x σ H D I h s hs) (fun f s1 q => flow_then (D := D) (Mid := D.nx) (fun y σ' H' I' q => wS_up (wpAny_execs_nil ⟨σ', H', I', q⟩)) rfl q) fun _ _ e => e)⟩
theorem qs_if {c : Expr} {p q : List Stmt} (hc : QT X c tA) (h1 : QSs X p t) (h2 : QSs X q u) : QS X (.If c p q pos) (tIfS tA t u) := by
  refine ⟨fun S pins x σ H D I h s hs => wpAny_If (wpAny_mono (hc.run S pins x σ H _ I h s hs) (fun d s1 z => ?_) fun _ _ e => e)⟩
  obtain ⟨y, hy, H1, I1, q1⟩ := z
  cases d with
  | true => exact h1.run S pins y σ H1 D I1 q1 s1 hy
  | false => exact h2.run S pins y σ H1 D I1 q1 s1 hy
theorem qs_ret (he : QE X e te) : QS X (.Return (some e) pos) (tRet te) :=
  ⟨fun S pins x σ H D I h s hs => wpAny_Return_some (wpAny_mono (he.run S pins x σ H _ I h s hs) (fun _ _ ⟨y, hy, v, H1, I1, r1, q1⟩ => ⟨y, hy, v, σ, H1, I1, r1, q1⟩) fun _ _ e => e)⟩
theorem qs_set {i : Nat} {y : Str} {pos' : Pos} (hN : X.N.Nodup) (hi : X.N[i]? = some y) (hx : Loc X.env.scope y) (he : QE X e te) (hw : swapsWith e (some (.Name y pos')) pos.line X.env = pure false := by rfl)
    (hf : X.fn y = true ∨ X.env.scope.names.lookup y = some .local := by first | exact .inl rfl | exact .inr rfl | assumption) : QS X (.Assign [.Name y pos'] e pos) (tAsg te (gName i)) :=
  ⟨fun S pins x σ H D I h s hs => wpAny_Assign_Name (wpAny_mono (he.run S pins x σ H _ I h s hs) (fun v s1 ⟨z, hz, _, H1, I1, r1, q1⟩ => wS_up (store_ok I1 hN hi hx r1 (fun _ I2 => ⟨_, H1, I2, q1⟩) hf) s1 hz) fun _ _ e => e) hw⟩
theorem qt_val (h : QE X e te) (he : ∀ whole, isTrue e X.env whole = (do let v ← whole; standAt e.pos; holding [v] (truthy v)) := by intro _; rfl) : QT X e (tB te) := by
  refine ⟨fun S pins x σ H Q I q s hs => isTrue_plain (wpAny_mono (h.run S pins x σ H _ I q s hs) (fun v s1 z => ?_) fun _ _ e => e) (he _)⟩
  obtain ⟨y, hy, v', H1, I1, r1, d, rfl, q1⟩ := z
  cases r1
  exact wpAny_truthy_bool ⟨y, hy, H1, I1, q1⟩
theorem qt_not (h : QT X a tA) : QT X (.UnaryOp .Not a pos) (tNot tA) :=
  ⟨fun S pins x σ H Q I q s hs => isTrue_not (wpAny_mono (h.run S pins x σ H (fun c H1 => Q (!c) H1) I q s hs) (fun _ _ z => z) fun _ _ e => e)⟩
theorem qa_cons (ha : QE X e te) (hr : QA X es tl) (hw : starEach (e :: es) X.env = (false, eval e X.env) :: starEach es X.env := by rfl) : QA X (e :: es) (tCons te tl) := by
  refine ⟨fun pos S pins x σ H Q I h s hs => ?_⟩
  rw [hw]
  show wpAny _ _ (spliced ((false, eval e X.env) :: backTo pos (starEach es X.env))) _ _ s
  refine Calls.spliced_cons (wpAny_mono (ha.run S pins x σ H _ I h s hs) (fun v s1 ⟨y, hy, z, H1, I1, r1, q1⟩ => ?_) fun _ _ e => e)
  exact wpAny_mono (hr.run pos S pins y σ H1 _ I1 q1 s1 hy) (fun vs s2 ⟨y2, hy2, zs, H2, I2, r2, q2⟩ => ⟨y2, hy2, z :: zs, H2, I2, .cons r1 r2, q2⟩) fun _ _ e => e
theorem qe_op {op : Operator} {r : R2} (ho : OpR X (binaryOp op) r) (ha : QE X a ta) (hb : QE X b tb) : QE X (.BinOp a op b pos) (tOp r ta tb) := by
  refine ⟨fun S pins x σ H Q I h s hs => wpAny_BinOp (wpAny_mono (ha.run S pins x σ H _ I h s hs) (fun v s1 ⟨y, hy, z, H1, I1, r1, q1⟩ => ?_) fun _ _ e => e)⟩
  exact wpAny_mono (hb.run S pins y σ H1 _ I1 q1 s1 hy) (fun u s2 ⟨y2, hy2, z2, H2, I2, r2, q2⟩ => wS_up (ho pins y2 σ H2 z z2 v u Q I2 r1 r2 q2) s2 hy2) fun _ _ e => e
theorem qe_cmp {op : CmpOp} {r : R2} (ho : OpR X (compareOp op) r) (ha : QE X a ta) (hb : QE X b tb) (hm : behindInMarks op b = false) : QE X (.Compare a [op] [b] pos) (tOp r ta tb) := by
  refine ⟨fun S pins x σ H Q I h s hs => wpAny_Compare1 (wpAny_mono (ha.run S pins x σ H _ I h s hs) (fun v s1 ⟨y, hy, z, H1, I1, r1, q1⟩ => ?_) fun _ _ e => e) hm⟩
  exact wpAny_mono (hb.run S pins y σ H1 _ I1 q1 s1 hy) (fun u s2 ⟨y2, hy2, z2, H2, I2, r2, q2⟩ => wS_up (ho pins y2 σ H2 z z2 v u Q I2 r1 r2 q2) s2 hy2) fun _ _ e => e
end
end Sf
end
section
namespace Sf
open PySem L2 PyProof.Rows
structure FnS (P : Program) (w : World) (K : PySem.W.Frag) (mg : Str → Option Value) (base : Heap) (CX : CXT) (k : Nat) (f : Addr) (fd : FuncData) (ps : List Str) (sp : Sp) : Prop where
  len : ∀ vs H Q E, sp vs H Q E → vs.length = ps.length
  run : ∀ (S : Nat → Prop) (A : Around) (outer : List Env) (x : Shared) (H : Hp) (args : Args) (us : List Value) (vs : List V) (Q : VK) (E : XK), Room k A → Env0 P w K mg base A outer x H → BindsTo x fd args (ps.zip us) → Vals vs us → sp vs H Q E →
    cS P w S A (.call (.ref f) args) (CR CX outer P w H x Q E) x
section
variable {P : Program} {w : World} {K : PySem.W.Frag} {mg : Str → Option Value} {base : Heap} {CX : CXT} {k : Nat} {f : Addr} {fd : FuncData} {ps : List Str} {sp : Sp}
theorem FnOk.up (F : FnOk P w K mg base CX k f fd ps sp) : FnS P w K mg base CX k f fd ps sp :=
  ⟨F.len, fun _ A outer x H args us vs Q E hr e0 hb rv q => cS_up (F.run A outer x H args us vs Q E hr e0 hb rv q)⟩
end
section
variable {X : Cx} {CX : CXT} {k : Nat} {f : Addr} {fd : FuncData} {ps : List Str} {sp : Sp} {dvs : List V} {ds : List Value} {E : XK} {y : Str} {p pos : Pos} {e : Expr} {es : List Expr} {t : TA}
theorem run_fnS {S : Nat → Prop} {pins : List (Addr × Obj)} {σ : L2.St} {H : Hp} {x : Shared} {Q : VK} {us : List Value} {vs : List V} (F : FnS X.prog X.w X.K X.mg X.base CX k f fd ps sp) (hr : Room k X.A) (hb : Binds X.K fd ps ds) (hd : Vals dvs ds) (hx : Passes CX X E)
    (I : Inv X pins σ H x) (rv : Vals vs us) (q : sp (vs ++ dvs) H Q E) : wS X.prog X.w S X.A (call (.ref f) us) (EP X pins σ Q) X.xe x := by
  intro s hs
  have r2 : Vals (vs ++ dvs) (us ++ ds) := rv.append hd
  have hl : (us ++ ds).length = ps.length := by rw [← r2.length]; exact F.len _ _ _ _ q
  refine wpAny_call (codeAny_mono (F.run S X.A X.stack x H ⟨us, []⟩ (us ++ ds) (vs ++ dvs) Q E hr I.env0 (hb x us I.kIn hl) r2 q s hs) fun r s' z => ?_)
  obtain ⟨x', hx', z⟩ := z
  cases r with
  | error e => exact ⟨x', hx', hx pins σ H x e x' I z⟩
  | ok fl =>
    cases fl with
    | ret u => exact ⟨x', hx', I.after z⟩
    | next => exact False.elim z
    | brk => exact False.elim z
    | cont => exact False.elim z
theorem nm_glob {S : Nat → Prop} {pins : List (Addr × Obj)} {σ : L2.St} {H : Hp} {x s : Shared} {u : Value} {E : Value → Shared → Prop} (I : Inv X pins σ H x) (hs : SR S x s) (hg : Gl X y) (hm : X.mg y = some u) (hd : (y == ("__debug__" : Str)) = false) :
    wpAny (mp X.prog X.w) X.A (eval (.Name y p) X.env) (fun v s1 => v = u ∧ SR S x s1) (lo S E) s :=
  wpAny_mono (wS_up (ld_glob (Q := fun v z => v = u ∧ z = x) (E := E) I hg hm ⟨rfl, rfl⟩ hd) s hs) (fun v s1 ⟨z, hz, e1, e2⟩ => ⟨e1, e2 ▸ hz⟩) fun _ _ e => e
theorem nm_blt {S : Nat → Prop} {pins : List (Addr × Obj)} {σ : L2.St} {H : Hp} {x s : Shared} {u : Value} {E : Value → Shared → Prop} (I : Inv X pins σ H x) (hs : SR S x s) (hg : Gl X y) (hm : X.mg y = none) (hv : bootBuiltins y = some u) (hn : y ≠ "__name__") (hd : (y == ("__debug__" : Str)) = false) :
    wpAny (mp X.prog X.w) X.A (eval (.Name y p) X.env) (fun v s1 => v = u ∧ SR S x s1) (lo S E) s :=
  wpAny_mono (wS_up (ld_blt (Q := fun v z => v = u ∧ z = x) (E := E) I hg hm hv ⟨rfl, rfl⟩ hn hd) s hs) (fun v s1 ⟨z, hz, e1, e2⟩ => ⟨e1, e2 ▸ hz⟩) fun _ _ e => e
theorem qe_call (F : FnS X.prog X.w X.K X.mg X.base CX k f fd ps sp) (hr : Room k X.A) (hg : Gl X y) (hm : X.mg y = some (.ref f)) (hk : PySem.W.keepIn X.K (.ref f) = true) (hb : Binds X.K fd ps ds) (hd : Vals dvs ds) (hx : Passes CX X E)
    (ha : QA X (e :: es) t) (hdb : (y == ("__debug__" : Str)) = false := by decide) (he : starEach (e :: es) X.env = (false, eval e X.env) :: starEach es X.env := by rfl) (hpl : (backTo pos (starEach es X.env)).any (·.1) = false := by rfl) :
    QE X (.Call (.Name y p) (e :: es) [] pos) (tCall sp dvs E t) := by
  refine ⟨fun S pins x σ H Q I q s hs => wpAny_Call_Name_kw (wpAny_mono (nm_glob I hs hg hm hdb) (fun v s1 ⟨ev, h1⟩ => ?_) fun _ _ e => e)⟩
  subst ev
  refine PySem.W.callWith_K (h₀ := X.base) I.ok.mod.kin hk (wpAny_mono (ha.run pos S pins x σ H _ I q s1 h1) (fun us s2 ⟨y2, h2, vs, H1, I1, rv, q2⟩ => ⟨by rw [h2.heap]; exact I1.kIn, ?_⟩) fun _ _ e => e) he hpl
  exact run_fnS F hr hb hd hx I1 rv q2 s2 h2
end
section
variable {P : Program} {w : World} {S : Nat → Prop} {A : Around} {x s : Shared} {env : Env}
theorem noted_up {E : Value → Shared → Prop} {e : Value} (q : lo S (notedBy (model P w) A env E) e s) : notedBy (mp P w) A env (lo S E) e s := by
  obtain ⟨x, h, q⟩ := q
  exact wpAny_up h q
theorem back_up {E : Value → Shared → Prop} {e : Value} (q : lo S (cameBackBy (model P w) A env E) e s) : cameBackBy (mp P w) A env (lo S E) e s := by
  obtain ⟨x, h, q⟩ := q
  exact wpAny_up h q
theorem block_S {stmts : List Stmt} {R : Result → Shared → Prop} (h : wS P w S A (execs stmts env) (fun f y => R (.ok f) y) (notedBy (model P w) A env fun e y => R (.error e) y) x) : cS P w S A (.block stmts env) R x := by
  intro s hs
  refine codeAny_of_tree ?_
  show wpAny (mp P w) _ (do return Fin.done (← (execs stmts env).onRaise (fun x => do noteFrame x env; theTreesLotGoes x))) _ _ s
  exact wpAny_bind (wpAny_noted (wpAny_mono (h s hs) (fun f s' q => wpAny_pure q) fun _ _ q => noted_up q))
theorem func_S {body : List Stmt} {R : Result → Shared → Prop} (h : wS P w S (A.deeper env) (execs body env) (fun f y => R (.ok (.ret (match f with | .ret v => v | _ => .none))) y)
    (fun e y => wpAny (model P w) (A.deeper env) (leaving env e) (fun _ z => R (.error e) z) (fun e' z => R (.error e') z) y) x) : cS P w S A (.func body env) R x := by
  intro s hs
  refine codeAny_of_tree ?_
  show wpAny (mp P w) (A.deeper env) (do point; match ← (execs body env).onRaise (leaving env) with | .ret v => ret v | _ => ret .none) _ _ s
  refine wpAny_bind (wpAny_point (wpAny_bind (wpAny_onRaise (wpAny_mono (h s hs) (fun f s' q => ?_) fun e s' ⟨y, hy, q⟩ => ?_))))
  · cases f <;> exact wpAny_pure q
  · exact wpAny_up hy q
theorem turns_S {R : Result → Shared → Prop} {tg : Expr} {it : Value} {body : List Stmt} (I : Nat → Shared → Prop)
    (turn : ∀ n x, I n x → wS P w S A (pyNext it) (fun r x1 => match r with
      | none => wS P w S A (execs [] env) (fun f x3 => R (.ok f) x3) (notedBy (model P w) A env fun e y => R (.error e) y) x1
      | some v => wS P w S A (letOwnedTupleGo tg it v) (fun _ x1' =>
          wS P w S A (assign tg env v) (fun _ x2 => wS P w S A (execs body env) (fun f x3 => match f with
            | .next | .cont => ∃ m, m < n ∧ I m x3
            | .brk => R (.ok .next) x3
            | .ret v => R (.ok (.ret v)) x3) (notedBy (model P w) A env fun e y => R (.error e) y) x2) (notedBy (model P w) A env fun e y => R (.error e) y) x1') (notedBy (model P w) A env fun e y => R (.error e) y) x1) (notedBy (model P w) A env fun e y => R (.error e) y) x)
    (n : Nat) (h : I n x) : cS P w S A (.forLoop tg it body [] env) R x := by
  intro s hs
  refine codeAny_loop' rfl (fun n s => ∃ x, SR S x s ∧ I n x) (fun n s hI => ?_) n ⟨x, hs, h⟩
  obtain ⟨x, hs, hI⟩ := hI
  show wpAny (mp P w) A ((forTurn tg it body [] env).onRaise (fun x => do noteFrame x env; theTreesLotGoes x)) _ _ s
  refine wpAny_noted ?_
  simp only [forTurn]
  have ne : ∀ e s, lo S (notedBy (model P w) A env fun e y => R (.error e) y) e s → notedBy (mp P w) A env (fun e s => lo S R (.error e) s) e s := fun e s q => noted_up q
  refine wpAny_bind (wpAny_standAt (wpAny_bind (wpAny_onRaise (wpAny_mono (turn n x hI s hs) (fun r s1 ⟨x1, h1, q⟩ => ?_) fun _ _ q => wpAny_standAt (ne _ _ q)))))
  cases r with
  | none => exact wpAny_pure (.inr ⟨rfl, block_S q s1 h1⟩)
  | some v =>
    refine wpAny_bind (wpAny_mono (q s1 h1) (fun _ s2 ⟨x2, h2, q2⟩ => ?_) ne)
    refine wpAny_bind (wpAny_mono (q2 s2 h2) (fun _ s3 ⟨x3, h3, q3⟩ => ?_) ne)
    refine wpAny_bind (wpAny_mono (q3 s3 h3) (fun f s4 ⟨x4, h4, q4⟩ => ?_) ne)
    cases f with
    | next => obtain ⟨m, hm, hi⟩ := q4; exact wpAny_pure (.inl ⟨rfl, m, hm, x4, h4, hi⟩)
    | cont => obtain ⟨m, hm, hi⟩ := q4; exact wpAny_pure (.inl ⟨rfl, m, hm, x4, h4, hi⟩)
    | brk => exact wpAny_pure ⟨x4, h4, q4⟩
    | ret v => exact wpAny_pure ⟨x4, h4, q4⟩
theorem passes_S {α : Type} {t : Sem α} {Q : α → Shared → Prop} {E : Value → Shared → Prop} (hE : PassesOwn (model P w) A env E) (h : wS P w S A t Q E x) : wS P w S A t Q (notedBy (model P w) A env (cameBackBy (model P w) A env E)) x := h.imp (fun _ _ q => q) hE
end
section
variable {X : Cx} {pos : Pos}
theorem qs_for {tg iter : Expr} {body : List Stmt} {wi : TI} {g : TG} {tb : TS} (hp : PassesOwn (model X.prog X.w) X.A X.env X.xe) (hc : X.calm = true) (hi : PI X tg iter wi) (hg : PG X tg g) (hb : QSs X body tb)
    (hw : ∀ z, foldedSetIterable iter X.env z = pure z := by intro _; rfl) : QS X (.For tg iter body [] pos) (tFor wi g tb) := by
  refine ⟨fun S pins x σ H D I h s hs => wpAny_For (wpAny_mono (wS_up (hi.run pins x σ H _ I h) s hs) (fun v s1 ⟨x1, h1, q1⟩ => wpAny_mono (wpAny_up h1 q1) (fun itv s2 ⟨x2, h2, q2⟩ => ?_) fun _ _ e => e) fun _ _ e => e) hw⟩
  obtain ⟨it, fp, tn, J, H2, e, I2, T, st2, f2, W, ⟨m0, w0⟩, turn⟩ := q2
  subst e
  have stat : ∀ {H' : Hp}, (∀ b ∈ fp, H' b = none) → ∀ b ∈ fp, FpOk X pins H' b := fun hn b hb => ⟨hn b hb, (f2 b hb).2⟩
  refine codeAny_mono (turns_S (R := fun r y => match r with | .ok f => SP X pins D f y | .error e => cameBackBy (model X.prog X.w) X.A X.env X.xe e y) (fun n y => ∃ i σ' H', Inv X pins σ' H' y ∧ tn i y.heap ∧ (∀ b ∈ fp, H' b = none) ∧ W i n σ' H') ?_ m0 ⟨0, σ, H2, I2, st2, fun b hb => (f2 b hb).1, w0⟩ s2 h2) ?_
  · rintro n x3 ⟨i, σ3, H3, I3, st3, fr3, w3⟩
    rcases turn i n σ3 H3 w3 with ⟨stop, qn⟩ | ⟨go, N, hN, step⟩
    · refine passes_S hp ((wS_up (T.done X rfl rfl rfl hc i pins x3 σ3 H3 X.xe I3 (stat fr3) st3 stop)).thn fun r x4 ⟨hr, I4⟩ => ?_)
      subst hr
      exact wS_up (wpAny_execs_nil ⟨σ3, H3, I4, qn⟩)
    · refine passes_S hp ((wS_up (T.item X rfl rfl rfl hc i pins x3 σ3 H3 X.xe I3 (stat fr3) st3 go)).thn fun r x4 ⟨u, hr, h4⟩ => ?_)
      subst hr
      refine passes_S hp ((wS_up h4).thn fun _ x5 ⟨v5, H5, I5, r5, y5, st5, fr5⟩ => ?_)
      have I5' := I5.pinned (stat fr5) (T.obj _ _ st5)
      refine passes_S hp ((wS_up (hg.run _ x5 σ3 H5 v5 u _ I5' r5 (step v5 H5 y5))).thn fun _ x6 ⟨σ6, H6, I6, q6⟩ => ?_)
      refine passes_S hp ((hb.run S _ x6 σ6 H6 _ I6 q6).thn fun f x7 q7 => ?_)
      have again : ∀ {σ7 : L2.St} {H7 : Hp}, Inv X (pins ++ pinsAt fp x5.heap) σ7 H7 x7 → N σ7 H7 → ∃ m, m < n ∧ ∃ i σ' H', Inv X pins σ' H' x7 ∧ tn i x7.heap ∧ (∀ b ∈ fp, H' b = none) ∧ W i m σ' H' := fun {σ7 H7} I7 n7 => by
        obtain ⟨m', hm, w7⟩ := hN σ7 H7 n7
        refine ⟨m', hm, i + 1, σ7, H7, I7.unpinned, T.keep _ _ _ st5 fun b hb o e => (I7.pin (b, o) (List.mem_append_right _ (List.mem_append_right _ (mem_pinsAt hb e)))).1, fun b hb => ?_, w7⟩
        obtain ⟨o, e, d⟩ := T.obj _ _ st5 b hb
        exact (I7.pin (b, o) (List.mem_append_right _ (List.mem_append_right _ (mem_pinsAt hb e)))).2.1
      cases f with
      | next => obtain ⟨σ7, H7, I7, n7⟩ := q7; exact again I7 n7
      | cont => obtain ⟨σ7, H7, I7, n7⟩ := q7; exact again I7 n7
      | brk => obtain ⟨σ7, H7, I7, q7⟩ := q7; exact ⟨σ7, H7, I7.unpinned, q7⟩
      | ret v => obtain ⟨z7, σ7, H7, I7, r7, q7⟩ := q7; exact ⟨z7, σ7, H7, I7.unpinned, r7, q7⟩
  · intro r s3 q
    cases r with
    | ok f => exact q
    | error e => exact back_up q
end
end Sf
end
section
namespace Sf
open PySem L2 PyProof.Rows
section
variable {P : Program} {w : World} {S : Nat → Prop} {A : Around} {x s : Shared}
theorem enter_def {a : Addr} {args : Args} {o : Obj} {fd : FuncData} {body : List Stmt} {G : Env → Shared → Prop} {E : Value → Shared → Prop} (hroom : A.depth < recursionLimit) (ho : x.heap.get? a = some o) (hd : o.data = .func fd)
    (hco : fd.scope.isCoroutine = false) (hgen : fd.scope.isGenerator = false) (hbody : fd.body = .stmts body) (hcd : x.heap.CodeRec fd.code fd.qualname)
    (h : wpAny (model P w) A.in1 (bindArgs fd args) (fun binds x1 => wpAny (model P w) A.in1 (newFunctionEnv fd.scope fd.globals fd.closure binds (fd.qualname ++ ".<locals>.") (some a) fd.code none fd.builtins) (fun env x2 => x2.heap.NoLimit ∧ G env x2) E x1) E x) :
    wpAny (model P w) A.in1 (callAny (.ref a) args) (fun fin y => ∃ env, fin = .again (.func body env) ∧ G env y) E x := by
  obtain ⟨c, oc, fs, tq, hc, hoc, hdc, hq⟩ := hcd
  unfold callAny
  refine wpAny_bind (wpAny_load ho ?_)
  simp only [hd]
  unfold callFunction
  simp only [hc, hco, hgen, hbody]
  refine wpAny_bind (wpAny_field hoc hdc hq (wpAny_bind (wpAny_pure ?_)))
  rw [hc] at h
  exact wpAny_bind (wpAny_mono h (fun binds x1 h1 => wpAny_bind (wpAny_mono h1 (fun env x2 h2 => wpAny_bind (wpAny_enterFrame h2.1 hroom (wpAny_pure ⟨env, rfl, h2.2⟩))) fun _ _ e => e)) fun _ _ e => e)
theorem call_S {a : Addr} {args : Args} {o : Obj} {fd : FuncData} {body : List Stmt} {R : Result → Shared → Prop} (hroom : A.depth < recursionLimit) (ho : x.heap.get? a = some o) (hd : o.data = .func fd)
    (hco : fd.scope.isCoroutine = false) (hgen : fd.scope.isGenerator = false) (hbody : fd.body = .stmts body) (hcd : x.heap.CodeRec fd.code fd.qualname)
    (h : wpAny (model P w) A.in1 (bindArgs fd args) (fun binds x1 => wpAny (model P w) A.in1 (newFunctionEnv fd.scope fd.globals fd.closure binds (fd.qualname ++ ".<locals>.") (some a) fd.code none fd.builtins) (fun env x2 => x2.heap.NoLimit ∧ cS P w S A (.func body env) R x2) (fun e y => R (.error e) y) x1) (fun e y => R (.error e) y) x) :
    cS P w S A (.call (.ref a) args) R x := by
  intro s hs
  refine codeAny_of_tree ?_
  show wpAny (mp P w) A.in1 (callAny (.ref a) args) _ _ s
  refine wpAny_mono (wpAny_up hs (enter_def hroom ho hd hco hgen hbody hcd h)) (fun fin s1 ⟨y, hy, env, ef, q⟩ => ?_) fun _ _ e => e
  subst ef
  exact ⟨rfl, q s1 hy⟩
end
theorem fnS_of {CX : CXT} {P : Program} {w : World} {K : PySem.W.Frag} {mg : Str → Option Value} {base : Heap} {k : Nat} {f : Addr} {name qual : Str} {params : Arguments} {body : List Stmt} {scope : Scope} {dV kV doc pm cdv ct oc : Value} {an od : Option Addr}
    {osl : Array (Option Value)} {N ps : List Str} {sp : Sp} (lk : K.lookup f = some ⟨oc, od, .func (PySem.W.fnOf name qual params body scope dV kV doc pm an cdv ct), osl⟩) (hcd : PySem.W.codeIn K cdv qual = true) (sc : FnScope N ps scope)
    (len : ∀ vs H Q E, sp vs H Q E → vs.length = ps.length)
    (hbody : ∀ (A : Around) (outer : List Env) (x : Shared) (H : Hp) (vs : List V) (Q : VK) (E : XK), Room k (A.deeper (envOfC qual scope x.heap.objs.size f cdv)) → sp vs H Q E →
      ∃ t, QSs (cxOf CX P w K mg base N qual scope f cdv A outer x H E) body t ∧ t { nx := fun _ H' => Q .non H', rt := Q } (start N vs) H) :
    FnS P w K mg base CX (k + 1) f (PySem.W.fnOf name qual params body scope dV kV doc pm an cdv ct) ps sp := by
  refine ⟨len, fun S A outer x H args us vs Q E hr e0 hb rv hsp => ?_⟩
  have KX : K.In x.heap := e0.mod.kin.keeps fun b o e => (e0.bs b o e).1
  have lim : x.heap.NoLimit := e0.mod.nolimit.keeps fun b o e => (e0.bs b o e).1
  have hkind : ∀ z ∈ ps.zip us, scope.names.lookup z.1 = some .local ∨ (scope.names.lookup z.1 = some .cell ∧ ((cellsFrom (x.heap.objs.size + 1) scope.names []).lookup z.1).isSome = true) := by
    rintro ⟨n, v⟩ hz
    exact (sc.par n (List.of_mem_zip hz).1).imp (fun q => q) fun q => ⟨q, PySem.W.cellsFrom_some _ _ _ (.inl q)⟩
  refine call_S hr.depth (KX _ _ lk) rfl sc.co sc.gen rfl (PySem.W.codeRec_of KX hcd) (hb _ _ _ _ (wpAny_newFunctionEnv_cells sc.kind hkind ?_))
  rintro env rfl x1 z
  refine ⟨lim.keeps z.toInCall.keep, func_S ?_⟩
  obtain ⟨t, ht, hq⟩ := hbody A outer x H vs Q E (hr.deeper _) hsp
  have I := inv_start (CX := CX) (E := E) sc hr.hd e0 (len _ _ _ _ hsp) rv z
  refine (ht.run S [] x1 (start N vs) H _ I hq).imp (fun fl y q => ?_) fun e y q => q
  cases fl with
  | ret u => obtain ⟨v, σ', H', J, r1, q1⟩ := q; exact ⟨v, H', J.os, J.bare, J.base, J.hok, r1, q1⟩
  | next => obtain ⟨σ', H', J, q1⟩ := q; exact ⟨.non, H', J.os, J.bare, J.base, J.hok, rfl, q1⟩
  | brk => obtain ⟨_, _, _, q⟩ := q; exact q.elim
  | cont => obtain ⟨_, _, _, q⟩ := q; exact q.elim
end Sf
end
section
namespace Sf
open PySem L2 PyProof.Rows GenW
open Sem (wp)
section
variable {M : Model} {A : Around} {R : GenEnd} {Y : Protocol} {n : Nat} {s₀ s : Shared} {c : Code} {fs : List Frame} {env : Env} {K : Flow → Sem PySem.Fin} {J : Value → Sem PySem.Fin} {gd : Bool → Bool} {lv : List Value → List Value}
theorem never_mono {α : Type} {t : Sem α} {Q : α → Shared → Prop} {E : Value → Shared → Prop} (h : wpAny M A t Q (fun _ _ => False) s) : wpAny M A t Q E s := wpAny_mono h (fun _ _ q => q) fun _ _ z => z.elim
theorem segw_at {α : Type} {p' : Pos} {m : Sem α} {KK : α → Sem PySem.Fin} {JJ : Value → Sem PySem.Fin} (h : Seg M A R Y n s₀ c (m.wrap KK JJ gd lv) fs s) : Seg M A R Y n s₀ c ((standAt p' >>= fun _ => m).wrap KK JJ gd lv) fs s := seg_at h
theorem seg_if {e : Expr} {a b : List Stmt} {pos : Pos} (h : wpAny M (A.over c fs) (isTrue e env (eval e env)) (fun d s' => Seg M A R Y n s₀ c ((execs (if d = true then a else b) env).wrap K J gd lv) fs s') (fun x s' => Seg M A R Y n s₀ c (J x) fs s') s) :
    Seg M A R Y n s₀ c ((exec (.If e a b pos) env).wrap K J gd lv) fs s := by
  rw [exec_If]
  refine segw_at (seg_bind_wrap (wpAny_mono h (fun d s' q => ?_) fun _ _ q => q))
  cases d with
  | true => exact q
  | false => exact q
def came (env : Env) (K : Flow → Sem PySem.Fin) (J : Value → Sem PySem.Fin) (gd : Bool → Bool) (lv : List Value → List Value) : Result → Sem PySem.Fin :=
  fun r => ((match r with | .ok f => (.pure f : Sem Flow) | .error e => .raise e).onRaise fun (x : Value) => do
        if (← field x 1) == Value.none then unsupported "frame.own-activation:exception-without-traceback"
        setFlight x env.frame).wrap K J gd lv
theorem seg_for {tg iter : Expr} {body : List Stmt} {pos : Pos} (hw : ∀ x, foldedSetIterable iter env x = pure x)
    (h : wpAny M (A.over c fs) (eval iter env) (fun v s1 => wpAny M (A.over c fs) (pyIter v) (fun it s2 => ∀ p, Seg M A R Y n s₀ (.forLoop tg it body [] env) (M.den (.forLoop tg it body [] env)) (.ret (came env K J gd lv) none (gd false) (lv []) c p [] :: fs) s2) (fun _ _ => False) s1) (fun _ _ => False) s) :
    Seg M A R Y n s₀ c ((exec (.For tg iter body [] pos) env).wrap K J gd lv) fs s := by
  rw [exec_For]
  refine segw_at (seg_bind_wrap (never_mono (wpAny_mono h (fun v s1 q => ?_) fun _ _ z => z)))
  rw [hw]
  refine seg_bind_wrap (wpAny_pure (segw_at (seg_bind_wrap (wpAny_holding (never_mono (wpAny_mono q (fun it s2 q2 => ?_) fun _ _ z => z))))))
  exact seg_call q2
end
section
variable {P : Program} {w : World} {A : Around} {R : GenEnd} {Y : Protocol} {n : Nat} {s₀ s : Shared} {fs : List Frame} {env : Env}
theorem seg_turn {tg : Expr} {it : Value} {body : List Stmt} {Jn : Value → Sem PySem.Fin} (hJ : Jn = fun e => (do noteFrame e env; theTreesLotGoes e : Sem Unit).bind fun _ => .raise e)
    (h : wpAny (mp P w) (A.over (.forLoop tg it body [] env) fs) (pyNext it) (fun r s1 => match r with
      | none => Seg (mp P w) A R Y n s₀ (.block [] env) ((mp P w).den (.block [] env)) fs s1
      | some v => wpAny (mp P w) (A.over (.forLoop tg it body [] env) fs) (letOwnedTupleGo tg it v) (fun _ s2 => wpAny (mp P w) (A.over (.forLoop tg it body [] env) fs) (assign tg env v) (fun _ s3 =>
          Seg (mp P w) A R Y n s₀ (.forLoop tg it body [] env) ((execs body env).wrap (fun f => match f with
            | .next | .cont => .pure (.again (.forLoop tg it body [] env))
            | .brk => .pure (.done .next)
            | .ret v => .pure (.done (.ret v))) Jn id id) fs s3) (fun _ _ => False) s2) (fun _ _ => False) s1) (fun _ _ => False) s) :
    Seg (mp P w) A R Y n s₀ (.forLoop tg it body [] env) ((mp P w).den (.forLoop tg it body [] env)) fs s := by
  show Seg _ A R Y n s₀ _ ((forTurn tg it body [] env).onRaise (fun x => do noteFrame x env; theTreesLotGoes x)) fs s
  rw [Sem.onRaise_eq_wrap]
  unfold forTurn
  refine segw_at (seg_bind_wrap (wpAny_onRaise (wpAny_mono h (fun r s1 q => ?_) fun _ _ z => z.elim)))
  cases r with
  | none => exact seg_again rfl q
  | some v =>
    refine seg_bind_wrap (never_mono (wpAny_mono q (fun _ s2 q2 => ?_) fun _ _ z => z))
    refine seg_bind_wrap (never_mono (wpAny_mono q2 (fun _ s3 q3 => ?_) fun _ _ z => z))
    rw [Sem.bind_eq_wrap', Sem.wrap_wrap]
    rw [Sem.wrap_congr (execs body env) _ _ (K' := fun f => match f with
            | .next | .cont => .pure (.again (.forLoop tg it body [] env))
            | .brk => .pure (.done .next)
            | .ret v => .pure (.done (.ret v))) (H' := Jn) (fun f => by cases f <;> rfl) (fun e => by rw [hJ]; rfl)]
    exact q3
theorem seg_fun {body : List Stmt} {Jn : Value → Sem PySem.Fin} (hJ : Jn = fun e => (leaving env e).bind fun _ => .raise e)
    (h : Seg (mp P w) A R Y n s₀ (.func body env) ((execs body env).wrap (fun f => .pure (.done (.ret (match f with | .ret v => v | _ => .none)))) Jn id id) fs s) :
    Seg (mp P w) A R Y n s₀ (.func body env) ((mp P w).den (.func body env)) fs s := by
  show Seg _ A R Y n s₀ _ (.point [] fun _ => ((execs body env).onRaise (leaving env)) >>= _) fs s
  refine seg_point ?_
  rw [Sem.onRaise_eq_wrap, Sem.bind_eq_wrap', Sem.wrap_wrap]
  rw [Sem.wrap_congr (execs body env) _ _ (K' := fun f => .pure (.done (.ret (match f with | .ret v => v | _ => .none)))) (H' := Jn) (fun f => by cases f <;> rfl) (fun e => by
    subst hJ
    show _ = (leaving env e).bind fun _ => .raise e
    rw [Sem.bind_eq_wrap, Sem.wrap_wrap, Sem.bind_eq_wrap]
    rfl)]
  exact h
theorem seg_wturn {test : Expr} {body : List Stmt} {Jn : Value → Sem PySem.Fin} (hJ : Jn = fun e => (do noteFrame e env; theTreesLotGoes e : Sem Unit).bind fun _ => .raise e)
    (h : wpAny (mp P w) (A.over (.whileLoop test body [] env) fs) (isTrue test env (eval test env)) (fun b s1 => if b = true then
        Seg (mp P w) A R Y n s₀ (.whileLoop test body [] env) ((execs body env).wrap (fun f => match f with
            | .next | .cont => .pure (.again (.whileLoop test body [] env))
            | .brk => .pure (.done .next)
            | .ret v => .pure (.done (.ret v))) Jn id id) fs s1
        else Seg (mp P w) A R Y n s₀ (.whileLoop test body [] env) (.pure (.done .next)) fs s1) (fun _ _ => False) s) :
    Seg (mp P w) A R Y n s₀ (.whileLoop test body [] env) ((mp P w).den (.whileLoop test body [] env)) fs s := by
  show Seg _ A R Y n s₀ _ ((whileTurn test body [] env).onRaise (fun x => do noteFrame x env; theTreesLotGoes x)) fs s
  rw [Sem.onRaise_eq_wrap]
  unfold whileTurn
  refine seg_bind_wrap (never_mono (wpAny_mono h (fun b s1 q => ?_) fun _ _ z => z))
  cases b with
  | true =>
    rw [if_pos rfl] at q ⊢
    rw [Sem.bind_eq_wrap', Sem.wrap_wrap]
    rw [Sem.wrap_congr (execs body env) _ _ (K' := fun f => match f with
            | .next | .cont => .pure (.again (.whileLoop test body [] env))
            | .brk => .pure (.done .next)
            | .ret v => .pure (.done (.ret v))) (H' := Jn) (fun f => by cases f <;> rfl) (fun e => by rw [hJ]; rfl)]
    exact q
  | false =>
    rw [if_neg Bool.false_ne_true] at q ⊢
    exact q
end
theorem runs_T {M : Model} {α : Type} {Γ : Ctx} {fs : List Frame} {Φ : End → Shared → Prop} {a : Addr} (K : α → Sem PySem.Fin) (m : Sem α) :
    ∀ {Q : α → Pos → Shared → Prop} {p : Pos} {s : Shared}, wp M (Γ.over fs) m Q (fun _ _ _ => False) p s → (∀ b p' s', Q b p' s' → ∃ e s'', Runs M Γ p' (T a (K b)) fs s' e s'' ∧ Φ e s'') →
      ∃ e s'', Runs M Γ p (T a (m.bind K)) fs s e s'' ∧ Φ e s'' := by
  induction m with
  | pure b => intro Q p s h hQ; exact hQ b p s h
  | raise x => intro Q p s h; exact h.elim
  | unsupported what => intro Q p s h; exact h.elim
  | finish x => intro Q p s h; exact h.elim
  | register b k => intro Q p s h; exact h.elim
  | «yield» v g l k => intro Q p s h; exact h.elim
  | fork d k => intro Q p s h; exact h.elim
  | await b f d l k => intro Q p s h; exact h.elim
  | rule tag k ih => intro Q p s h hQ; obtain ⟨e, z, hr, hz⟩ := ih () h hQ; exact ⟨e, z, Runs.head' (fun _ _ y => .rule y) hr, hz⟩
  | «at» p' k ih => intro Q p s h hQ; obtain ⟨e, z, hr, hz⟩ := ih () h hQ; exact ⟨e, z, Runs.head' (fun _ _ y => .at y) hr, hz⟩
  | load b part k ih => intro Q p s h hQ; obtain ⟨o, ho, h⟩ := h; obtain ⟨e, z, hr, hz⟩ := ih o h hQ; exact ⟨e, z, Runs.head' (fun _ _ y => .load ho y) hr, hz⟩
  | update b part f k ih => intro Q p s h hQ; obtain ⟨ho, h⟩ := h; obtain ⟨e, z, hr, hz⟩ := ih () h hQ; exact ⟨e, z, Runs.head' (fun _ _ y => .update ho y) hr, hz⟩
  | alloc o k ih => intro Q p s h hQ; obtain ⟨e, z, hr, hz⟩ := ih _ h hQ; exact ⟨e, z, Runs.head' (fun _ _ y => .alloc y) hr, hz⟩
  | loadIfAlive b k ih => intro Q p s h hQ; obtain ⟨e, z, hr, hz⟩ := ih _ h hQ; exact ⟨e, z, Runs.head' (fun _ _ y => .loadIfAlive y) hr, hz⟩
  | point l k ih => intro Q p s h hQ; obtain ⟨e, z, hr, hz⟩ := ih () h hQ; exact ⟨e, z, Runs.head' (fun _ _ y => .point y) hr, hz⟩
  | fresh k ih => intro Q p s h hQ; obtain ⟨e, z, hr, hz⟩ := ih _ h hQ; exact ⟨e, z, Runs.head' (fun _ _ y => .fresh y) hr, hz⟩
  | ask k ih => intro Q p s h hQ; obtain ⟨e, z, hr, hz⟩ := ih _ h hQ; exact ⟨e, z, Runs.head' (fun _ _ y => .ask y) hr, hz⟩
  | choose src m k ih => intro Q p s h hQ; obtain ⟨hm, h⟩ := h; obtain ⟨e, z, hr, hz⟩ := ih _ h hQ; exact ⟨e, z, Runs.head' (fun _ _ y => .choose hm y) hr, hz⟩
  | os q l k ih => intro Q p s h hQ; obtain ⟨e, z, hr, hz⟩ := ih _ h hQ; exact ⟨e, z, Runs.head' (fun _ _ y => .os y) hr, hz⟩
  | call d h0 g l k ih => intro Q p s h hQ; obtain ⟨r, s1, hret, h⟩ := h; obtain ⟨e, z, hr, hz⟩ := ih r h hQ; exact ⟨e, z, Runs.head' (fun _ _ y => .call hret y) hr, hz⟩
  | handled own k ih => intro Q p s h hQ; obtain ⟨e, z, hr, hz⟩ := ih _ h hQ; exact ⟨e, z, Runs.head' (fun _ _ y => .handled y) hr, hz⟩
  | newGen d k ih => intro Q p s h hQ; obtain ⟨e, z, hr, hz⟩ := ih _ h hQ; exact ⟨e, z, Runs.head' (fun _ _ y => .newGen y) hr, hz⟩
  | genState g k ih => intro Q p s h hQ; obtain ⟨st, hg, h⟩ := h; obtain ⟨e, z, hr, hz⟩ := ih _ h hQ; exact ⟨e, z, Runs.head' (fun _ _ y => .genState hg y) hr, hz⟩
  | resume g r l k ih => intro Q p s h hQ; obtain ⟨res, s1, hk, h⟩ := h; obtain ⟨e, z, hr, hz⟩ := ih res h hQ; exact ⟨e, z, Runs.head' (fun _ _ y => (Sem.runs_resume_iff M _).mpr ⟨res, s1, hk, y⟩) hr, hz⟩
  | stack k ih => intro Q p s h hQ; obtain ⟨e, z, hr, hz⟩ := ih _ h hQ; exact ⟨e, z, Runs.head' (fun _ _ y => .stack y) hr, hz⟩
  | thread k ih => intro Q p s h hQ; obtain ⟨e, z, hr, hz⟩ := ih _ h hQ; exact ⟨e, z, Runs.head' (fun _ _ y => .thread y) hr, hz⟩
section
variable {M : Model} {A : Around} {R : GenEnd} {Y : Protocol} {n : Nat} {s₀ s : Shared} {c : Code} {fs : List Frame} {a : Addr}
theorem seg_T {α : Type} {m : Sem α} {K : α → Sem PySem.Fin} (h : wpAny M (A.over c fs) m (fun b s' => Seg M A R Y n s₀ c (T a (K b)) fs s') (fun _ _ => False) s) : Seg M A R Y n s₀ c (T a (m >>= K)) fs s := by
  rw [seg_iff]
  rintro Γ p rfl hΓ
  exact runs_T K m (h (Γ.over fs) p (hΓ.over fs)) fun b p' s' q => seg_iff.mp q Γ p' rfl hΓ
end
theorem runs_T0 {M : Model} {α : Type} {Γ : Ctx} {fs : List Frame} {Φ : End → Shared → Prop}  (K : α → Sem PySem.Fin) (m : Sem α) :
    ∀ {Q : α → Pos → Shared → Prop} {p : Pos} {s : Shared}, wp M (Γ.over fs) m Q (fun _ _ _ => False) p s → (∀ b p' s', Q b p' s' → ∃ e s'', Runs M Γ p' (T0 (K b)) fs s' e s'' ∧ Φ e s'') →
      ∃ e s'', Runs M Γ p (T0 (m.bind K)) fs s e s'' ∧ Φ e s'' := by
  induction m with
  | pure b => intro Q p s h hQ; exact hQ b p s h
  | raise x => intro Q p s h; exact h.elim
  | unsupported what => intro Q p s h; exact h.elim
  | finish x => intro Q p s h; exact h.elim
  | register b k => intro Q p s h; exact h.elim
  | «yield» v g l k => intro Q p s h; exact h.elim
  | fork d k => intro Q p s h; exact h.elim
  | await b f d l k => intro Q p s h; exact h.elim
  | rule tag k ih => intro Q p s h hQ; obtain ⟨e, z, hr, hz⟩ := ih () h hQ; exact ⟨e, z, Runs.head' (fun _ _ y => .rule y) hr, hz⟩
  | «at» p' k ih => intro Q p s h hQ; obtain ⟨e, z, hr, hz⟩ := ih () h hQ; exact ⟨e, z, Runs.head' (fun _ _ y => .at y) hr, hz⟩
  | load b part k ih => intro Q p s h hQ; obtain ⟨o, ho, h⟩ := h; obtain ⟨e, z, hr, hz⟩ := ih o h hQ; exact ⟨e, z, Runs.head' (fun _ _ y => .load ho y) hr, hz⟩
  | update b part f k ih => intro Q p s h hQ; obtain ⟨ho, h⟩ := h; obtain ⟨e, z, hr, hz⟩ := ih () h hQ; exact ⟨e, z, Runs.head' (fun _ _ y => .update ho y) hr, hz⟩
  | alloc o k ih => intro Q p s h hQ; obtain ⟨e, z, hr, hz⟩ := ih _ h hQ; exact ⟨e, z, Runs.head' (fun _ _ y => .alloc y) hr, hz⟩
  | loadIfAlive b k ih => intro Q p s h hQ; obtain ⟨e, z, hr, hz⟩ := ih _ h hQ; exact ⟨e, z, Runs.head' (fun _ _ y => .loadIfAlive y) hr, hz⟩
  | point l k ih => intro Q p s h hQ; obtain ⟨e, z, hr, hz⟩ := ih () h hQ; exact ⟨e, z, Runs.head' (fun _ _ y => .point y) hr, hz⟩
  | fresh k ih => intro Q p s h hQ; obtain ⟨e, z, hr, hz⟩ := ih _ h hQ; exact ⟨e, z, Runs.head' (fun _ _ y => .fresh y) hr, hz⟩
  | ask k ih => intro Q p s h hQ; obtain ⟨e, z, hr, hz⟩ := ih _ h hQ; exact ⟨e, z, Runs.head' (fun _ _ y => .ask y) hr, hz⟩
  | choose src m k ih => intro Q p s h hQ; obtain ⟨hm, h⟩ := h; obtain ⟨e, z, hr, hz⟩ := ih _ h hQ; exact ⟨e, z, Runs.head' (fun _ _ y => .choose hm y) hr, hz⟩
  | os q l k ih => intro Q p s h hQ; obtain ⟨e, z, hr, hz⟩ := ih _ h hQ; exact ⟨e, z, Runs.head' (fun _ _ y => .os y) hr, hz⟩
  | call d h0 g l k ih => intro Q p s h hQ; obtain ⟨r, s1, hret, h⟩ := h; obtain ⟨e, z, hr, hz⟩ := ih r h hQ; exact ⟨e, z, Runs.head' (fun _ _ y => .call hret y) hr, hz⟩
  | handled own k ih => intro Q p s h hQ; obtain ⟨e, z, hr, hz⟩ := ih _ h hQ; exact ⟨e, z, Runs.head' (fun _ _ y => .handled y) hr, hz⟩
  | newGen d k ih => intro Q p s h hQ; obtain ⟨e, z, hr, hz⟩ := ih _ h hQ; exact ⟨e, z, Runs.head' (fun _ _ y => .newGen y) hr, hz⟩
  | genState g k ih => intro Q p s h hQ; obtain ⟨st, hg, h⟩ := h; obtain ⟨e, z, hr, hz⟩ := ih _ h hQ; exact ⟨e, z, Runs.head' (fun _ _ y => .genState hg y) hr, hz⟩
  | resume g r l k ih => intro Q p s h hQ; obtain ⟨res, s1, hk, h⟩ := h; obtain ⟨e, z, hr, hz⟩ := ih res h hQ; exact ⟨e, z, Runs.head' (fun _ _ y => (Sem.runs_resume_iff M _).mpr ⟨res, s1, hk, y⟩) hr, hz⟩
  | stack k ih => intro Q p s h hQ; obtain ⟨e, z, hr, hz⟩ := ih _ h hQ; exact ⟨e, z, Runs.head' (fun _ _ y => .stack y) hr, hz⟩
  | thread k ih => intro Q p s h hQ; obtain ⟨e, z, hr, hz⟩ := ih _ h hQ; exact ⟨e, z, Runs.head' (fun _ _ y => .thread y) hr, hz⟩
section
variable {M : Model} {A : Around} {R : GenEnd} {Y : Protocol} {n : Nat} {s₀ s : Shared} {c : Code} {fs : List Frame} 
theorem seg_T0 {α : Type} {m : Sem α} {K : α → Sem PySem.Fin} (h : wpAny M (A.over c fs) m (fun b s' => Seg M A R Y n s₀ c (T0 (K b)) fs s') (fun _ _ => False) s) : Seg M A R Y n s₀ c (T0 (m >>= K)) fs s := by
  rw [seg_iff]
  rintro Γ p rfl hΓ
  exact runs_T0 K m (h (Γ.over fs) p (hΓ.over fs)) fun b p' s' q => seg_iff.mp q Γ p' rfl hΓ
end
end Sf
end
section
set_option maxHeartbeats 1000000
namespace Sf
open PySem L2 PyProof.Rows GenW
abbrev N0 : Nat → Prop := fun _ => False
def GenO (g : Nat) (o : Obj) : Prop := o.cls = .type "generator" ∧ (∃ nm qn : Value, o.data = .fields #[.int g 0, nm, qn]) ∧ (o.slots = #[] ∨ ∃ t, o.slots = #[some (.int 0 t)])
theorem GenO.noList {g : Nat} {acc : Array Value} {c : Nat} (h : GenO g (lstObj acc c)) : False := by
  have e : Value.type "list" = Value.type "generator" := h.1
  simp at e
structure Wk (S ad : Addr) (g : Nat) (mk : Prop) (u : Value) (x x' : Shared) : Prop where
  os : x'.os = x.os
  bare : AllBare x'.gens
  keep : ∀ b o, b ≠ S → (mk → b ≠ ad) → x.heap.get? b = some o → x'.heap.get? b = some o
  own : ∀ acc c, x.heap.get? S = some (lstObj acc c) → ∃ c', x'.heap.get? S = some (lstObj (acc.push u) c')
  slf : ∀ o, x.heap.get? ad = some o → GenO g o → ∃ o', x'.heap.get? ad = some o' ∧ GenO g o'
structure SH (Z Hs : Nat → Prop) (x s : Shared) : Prop where
  heap : s.heap = x.heap
  drawn : s.drawn = x.drawn
  toks : s.toks = x.toks
  os : s.os = x.os
  size : s.gens.size = x.gens.size
  gens : ∀ i : Nat, ¬ Hs i → OR (Z i) (x.gens[i]?) (s.gens[i]?)
theorem SR.hole {Z : Nat → Prop} {x s : Shared} (h : SR Z x s) : SH Z N0 x s := ⟨h.heap, h.drawn, h.toks, h.os, h.size, fun i _ => h.gens i⟩
theorem SH.none {Z : Nat → Prop} {x s : Shared} (h : SH Z N0 x s) : SR Z x s := ⟨h.heap, h.drawn, h.toks, h.os, h.size, fun i => h.gens i fun z => z⟩
structure Bk (Hs : Nat → Prop) (s s' : Shared) : Prop where
  size : s.gens.size ≤ s'.gens.size
  same : ∀ i, Hs i → s'.gens[i]? = s.gens[i]?
def YG (Z : Nat → Prop) (S ad : Addr) (g : Nat) (B : Prop × (Heap → Prop)) : Protocol := fun n _ u s kap => ∃ (Hs : Nat → Prop) (x : Shared), SH Z Hs x s ∧ ¬ Hs g ∧ (B.1 → ∀ i, ¬ Hs i) ∧ AllBare x.gens ∧ x.heap.NoLimit ∧ B.2 x.heap ∧ (∃ o, x.heap.get? ad = some o ∧ GenO g o) ∧ (∃ acc c, x.heap.get? S = some (lstObj acc c) ∧ n + 1 + acc.size = sizeLine) ∧
  (∃ v, RelV v u) ∧ ∀ x', Wk S ad g B.1 u x x' → ∀ s', SH Z Hs x' s' → Bk Hs s s' → kap (.send .none) s'
def GV (X : Cx) (S ad : Addr) (g : Nat) (ip : List (Addr × Obj)) (ys : List V) (σ : L2.St) (H : Hp) (x : Shared) : Prop := ∃ o, GenO g o ∧ GI X S ((ad, o) :: ip) ys σ H x
structure Apt (X : Cx) (b : Addr) : Prop where
  ex : b ∈ X.ex ∨ X.s_0.heap.objs.size ≤ b
  loc : b ≠ X.env.locals
  cel : ∀ y c, X.env.cells.lookup y = some c → c ≠ b
theorem GV.woken {X : Cx} {S ad : Addr} {g : Nat} {ip : List (Addr × Obj)} {ys : List V} {v : V} {u : Value} {σ : L2.St} {H : Hp} {x x' : Shared} (hpn : ∀ p ∈ X.pn ++ ip, p.1 ≠ S ∧ p.1 ≠ ad) (aS : Apt X S) (aO : Apt X ad)
    (h : GV X S ad g ip ys σ H x) {mk : Prop} (rv : RelV v u) (z : Wk S ad g mk u x x') : GV X S ad g ip (ys ++ [v]) σ H x' := by
  obtain ⟨o, go, acc, c, r, I⟩ := h
  obtain ⟨eS, S0, SL, Sf, _⟩ := I.pin (S, lstObj acc c) (List.mem_append_right _ List.mem_cons_self)
  obtain ⟨eO, O0, OL, Of, Oc⟩ := I.pin (ad, o) (List.mem_append_right _ (List.mem_cons_of_mem _ List.mem_cons_self))
  have hne : S ≠ ad := fun q => by
    subst q
    rw [eS] at eO
    cases eO
    exact go.noList
  have I0 : Inv X ip σ H x := I.pins_of fun p hp => I.pin p (List.mem_append_right _ (List.mem_cons_of_mem _ (List.mem_cons_of_mem _ hp)))
  have nt : ∀ b w, H b = some w → b ≠ S ∧ b ≠ ad := fun b w q => ⟨fun hb => (by rw [hb, S0] at q; cases q), fun hb => (by rw [hb, O0] at q; cases q)⟩
  obtain ⟨c', eS'⟩ := z.own acc c eS
  obtain ⟨o', eO', go'⟩ := z.slf o eO go
  have zk := z.keep
  have zb := z.bare
  have zo := z.os
  obtain ⟨hh, gg, d, t, os⟩ := x'
  have zo : os = x.os := zo
  subst zo
  have nc : ∀ b, b ∉ [S, ad] → b ≠ S ∧ b ≠ ad := fun b hb => ⟨fun e => hb (by rw [e]; exact List.mem_cons_self), fun e => hb (by rw [e]; exact List.mem_cons_of_mem _ List.mem_cons_self)⟩
  have J : Inv X ip σ H { x with heap := hh, gens := gg, drawn := d, toks := t } := by
    refine I0.step (g' := gg) (t' := t) (d' := d) (ch := [S, ad]) (fun b hb => ?_) (fun b ob _ _ hc q _ => zk b ob (nc b hc).1 (fun _ => (nc b hc).2) q) (fun b ob _ _ hc q _ => ⟨ob.slots, zk b ob (nc b hc).1 (fun _ => (nc b hc).2) q⟩) (fun _ _ _ _ n => n) (fun b ob hc q => ⟨ob, zk b ob (nc b hc).1 (fun _ => (nc b hc).2) q⟩)
      (fun _ _ q => q) (fun _ _ _ q => q) (fun b ps q => ⟨#[], by rw [q]; simp⟩) (fun m hm => ?_) (fun b w q => ?_) zb
    · rcases List.mem_cons.mp hb with e | e
      · rw [e]; exact ⟨aS.ex, aS.loc, aS.cel, fun p hp => (hpn p hp).1⟩
      · rw [List.mem_singleton.mp e]; exact ⟨aO.ex, aO.loc, aO.cel, fun p hp => (hpn p hp).2⟩
    · obtain ⟨ob, es, ep, ho, rr⟩ := hm
      exact ⟨ob, es, ep, zk _ ob (Ne.symm SL) (fun _ => Ne.symm OL) ho, rr⟩
    · refine (I0.hok b w q).stay (fun c v hc y => zk c v ?_ (fun _ => ?_) y) (fun _ y => y) fun _ _ y => y
      · rcases hc with y | y
        · rw [y]; exact (nt b w q).1
        · exact (nt c _ y).1
      · rcases hc with y | y
        · rw [y]; exact (nt b w q).2
        · exact (nt c _ y).2
  refine ⟨o', go', acc.push u, c', ?_, J.pins_of fun p hp => ?_⟩
  · rw [Array.toList_push]
    exact r.append (.cons rv .nil)
  · rcases List.mem_cons.mp hp with e | hp
    · rw [e]; exact ⟨eS', S0, SL, Sf, fun v q => by cases q⟩
    · rcases List.mem_cons.mp hp with e | hp
      · rw [e]
        refine ⟨eO', O0, OL, Of, fun v q => ?_⟩
        obtain ⟨_, ⟨nm, qn, hd⟩, _⟩ := go'
        have q : o'.data = .cell v := q
        rw [hd] at q; cases q
      · exact J.pin p (List.mem_append_right _ hp)
structure Sd (mk : Prop) (X : Cx) (S ad : Addr) (B : Prop × (Heap → Prop)) (ip : List (Addr × Obj)) (A : Around) (c : Code) (fs : List Frame) (gd : Bool → Bool) : Prop where
  pn : ∀ p ∈ X.pn ++ ip, p.1 ≠ S ∧ p.1 ≠ ad
  aS : Apt X S
  aO : Apt X ad
  over : A.over c fs = X.A
  split : splitAtGen fs = none
  guard : fs.any Frame.guarded = false
  gd : gd false = false
  nx : ∀ e s, ¬ X.xe e s
  hb : ∀ pins σ H y, Inv X pins σ H y → B.2 y.heap
  hk : ∀ pins σ H y h, Inv X pins σ H y → (∀ b o, y.heap.get? b = some o → H b = none → b ∉ frs X.stack → b ≠ S → h.get? b = some o) → B.2 h
  mkd : B.1 → mk
def GP (X : Cx) (S ad : Addr) (g : Nat) (ip : List (Addr × Obj)) (D : GEnds) (ys : List V) (f : Flow) (x : Shared) : Prop :=
  match f with
  | .next => ∃ σ H, GV X S ad g ip ys σ H x ∧ D.nx ys σ H
  | .brk => ∃ σ H, GV X S ad g ip ys σ H x ∧ D.bk ys σ H
  | .cont => ∃ σ H, GV X S ad g ip ys σ H x ∧ D.ct ys σ H
  | .ret u => ∃ v σ H, GV X S ad g ip ys σ H x ∧ RelV v u ∧ D.rt ys v H
abbrev Gt (Z : Nat → Prop) (X : Cx) (S ad : Addr) (g : Nat) (B : Prop × (Heap → Prop)) (R : GenEnd) (A : Around) (n : Nat) (c : Code) (fs : List Frame) (t : Sem PySem.Fin) (x : Shared) : Prop := ∀ s₀ s, SR Z x s → g < s.gens.size → Seg (mp X.prog X.w) A R (YG Z S ad g B) n s₀ c t fs s
structure GB (mk : Prop) (X : Cx) (st : Stmt) (t : TGn) : Prop where
  run : ∀ (Z : Nat → Prop) (A : Around) (S ad : Addr) (g : Nat) (B : Prop × (Heap → Prop)) (R : GenEnd) (n : Nat) (ys : List V) (ip : List (Addr × Obj)) (x : Shared) (σ : L2.St) (H : Hp) (D : GEnds) (c : Code) (fs : List Frame) (K : Flow → Sem PySem.Fin) (J : Value → Sem PySem.Fin) (gd : Bool → Bool) (lv : List Value → List Value),
    Sd mk X S ad B ip A c fs gd → n + ys.length = sizeLine → (∀ n ys y f, n + ys.length = sizeLine → GP X S ad g ip D ys f y → Gt Z X S ad g B R A n c fs (K f) y) → GV X S ad g ip ys σ H x → t D ys σ H → Gt Z X S ad g B R A n c fs ((exec st X.env).wrap K J gd lv) x
structure GBs (mk : Prop) (X : Cx) (st : List Stmt) (t : TGn) : Prop where
  run : ∀ (Z : Nat → Prop) (A : Around) (S ad : Addr) (g : Nat) (B : Prop × (Heap → Prop)) (R : GenEnd) (n : Nat) (ys : List V) (ip : List (Addr × Obj)) (x : Shared) (σ : L2.St) (H : Hp) (D : GEnds) (c : Code) (fs : List Frame) (K : Flow → Sem PySem.Fin) (J : Value → Sem PySem.Fin) (gd : Bool → Bool) (lv : List Value → List Value),
    Sd mk X S ad B ip A c fs gd → n + ys.length = sizeLine → (∀ n ys y f, n + ys.length = sizeLine → GP X S ad g ip D ys f y → Gt Z X S ad g B R A n c fs (K f) y) → GV X S ad g ip ys σ H x → t D ys σ H → Gt Z X S ad g B R A n c fs ((execs st X.env).wrap K J gd lv) x
section
variable {mk : Prop} {X : Cx} {st : Stmt} {rest : List Stmt} {t u : TGn} {pos : Pos}
theorem sp_gp {S ad : Addr} {g : Nat} {o : Obj} {acc : Array Value} {cc : Nat} {ip : List (Addr × Obj)} {x : Shared} {D : GEnds} {ys : List V} {f : Flow} (go : GenO g o) (r : Vals ys acc.toList) (h : SP X ((S, lstObj acc cc) :: (ad, o) :: ip) (D.at ys) f x) : GP X S ad g ip D ys f x := by
  cases f with
  | next => obtain ⟨σ, H, I, q⟩ := h; exact ⟨σ, H, ⟨o, go, acc, cc, r, I⟩, q⟩
  | brk => obtain ⟨σ, H, I, q⟩ := h; exact ⟨σ, H, ⟨o, go, acc, cc, r, I⟩, q⟩
  | cont => obtain ⟨σ, H, I, q⟩ := h; exact ⟨σ, H, ⟨o, go, acc, cc, r, I⟩, q⟩
  | ret v => obtain ⟨z, σ, H, I, r1, q⟩ := h; exact ⟨z, σ, H, ⟨o, go, acc, cc, r, I⟩, r1, q⟩
theorem gb_plain {tt : TS} (h : QS X st tt) : GB mk X st (tPlain tt) := by
  refine ⟨fun Z A S ad g B R n ys ip x σ H D c fs K J gd lv sd hn k hV ht s₀ s hs hg => ?_⟩
  obtain ⟨o, go, acc, cc, r, I⟩ := hV
  refine seg_wrap ?_
  rw [sd.over]
  exact wpAny_gsz (n := g + 1) hg (wpAny_mono (h.run Z _ x σ H (D.at ys) I ht s hs) (fun f s' ⟨y, hy, q⟩ hg' => k n ys y f hn (sp_gp go r q) s₀ s' hy hg') fun e s' ⟨y, _, q⟩ => (sd.nx e y q).elim)
theorem gbs_nil : GBs mk X [] tG0 := ⟨fun Z A S ad g B R n ys ip x σ H D c fs K J gd lv sd hn k hV ht s₀ s hs hg => seg_execs_nil (k n ys x .next hn ⟨σ, H, hV, ht⟩ s₀ s hs hg)⟩
theorem gbs_cons (a : GB mk X st t) (b : GBs mk X rest u) : GBs mk X (st :: rest) (tGThen t u) := by
  refine ⟨fun Z A S ad g B R n ys ip x σ H D c fs K J gd lv sd hn k hV ht s₀ s hs hg => seg_execs_cons ?_⟩
  refine a.run Z A S ad g B R n ys ip x σ H { D with nx := fun ys' σ' H' => u D ys' σ' H' } c fs _ J gd lv sd hn (fun n' ys' y f hn' q => ?_) hV ht s₀ s hs hg
  cases f with
  | next =>
    obtain ⟨σ', H', V', q⟩ := q
    exact b.run Z A S ad g B R n' ys' ip y σ' H' D c fs K J gd lv sd hn' k V' q
  | brk => exact k n' ys' y .brk hn' q
  | cont => exact k n' ys' y .cont hn' q
  | ret v => exact k n' ys' y (.ret v) hn' q
theorem gbs_one (a : GB mk X st t) : GBs mk X [st] (tGThen t tG0) := gbs_cons a gbs_nil
def tGIf (c : TT) (t u : TGn) : TGn := fun D ys σ H => c σ H fun b H1 => if b = true then t D ys σ H1 else u D ys σ H1
theorem gb_if {e : Expr} {a b : List Stmt} {tc : TT} (hc : QT X e tc) (ha : GBs mk X a t) (hb : GBs mk X b u) : GB mk X (.If e a b pos) (tGIf tc t u) := by
  refine ⟨fun Z A S ad g B R n ys ip x σ H D c fs K J gd lv sd hn k hV ht s₀ s hs hg => seg_if ?_⟩
  obtain ⟨o, go, acc, cc, r, I⟩ := hV
  rw [sd.over]
  refine wpAny_gsz (n := g + 1) hg (wpAny_mono (hc.run Z _ x σ H _ I ht s hs) (fun d s' ⟨y, hy, H1, I1, q⟩ hg' => ?_) fun e s' ⟨y, _, q⟩ => (sd.nx e y q).elim)
  cases d with
  | true => exact ha.run Z A S ad g B R n ys ip y σ H1 D c fs K J gd lv sd hn k ⟨o, go, acc, cc, r, I1⟩ q s₀ s' hy hg'
  | false => exact hb.run Z A S ad g B R n ys ip y σ H1 D c fs K J gd lv sd hn k ⟨o, go, acc, cc, r, I1⟩ q s₀ s' hy hg'
theorem gb_yield {e : Expr} {yp : Pos} {te : TE} (he : QE X e te) (hco : X.env.scope.isCoroutine = false := by rfl) (hi : interactive X.env = false := by rfl) : GB mk X (.Expr (.Yield (some e) yp) pos) (tGYield te) := by
  refine ⟨fun Z A S ad g B R n ys ip x σ H D c fs K J gd lv sd hn k hV ht s₀ s hs hg => ?_⟩
  obtain ⟨hlt, ht⟩ := ht
  obtain ⟨n, rfl⟩ : ∃ m, n = m + 1 := ⟨n - 1, by omega⟩
  obtain ⟨o, go, acc, cc, r, I⟩ := hV
  refine seg_Expr_Yield sd.split sd.gd sd.guard ?_ hco hi
  rw [sd.over]
  refine wpAny_gsz (n := g + 1) hg (wpAny_mono (he.run Z _ x σ H _ I ht s hs) (fun v s' ⟨y, hy, z, H1, I1, rv, q⟩ hg' => ?_) fun e s' ⟨y, _, q⟩ => (sd.nx e y q).elim)
  intro kap hk
  have V1 : GV X S ad g ip ys σ H1 y := ⟨o, go, acc, cc, r, I1⟩
  have hsz : acc.size = ys.length := by
    have e1 := r.length
    have e2 : acc.toList.length = acc.size := by simp
    omega
  have pS := (I1.pin (S, lstObj acc cc) (List.mem_append_right _ List.mem_cons_self)).1
  have pO := (I1.pin (ad, o) (List.mem_append_right _ (List.mem_cons_of_mem _ List.mem_cons_self))).1
  refine ⟨N0, y, hy.hole, (fun z => z), (fun _ _ z => z), I1.bare, I1.nolimit, sd.hb _ _ _ _ I1, ⟨o, pO, go⟩, ⟨acc, cc, pS, by rw [hsz]; exact hn⟩, ⟨z, rv⟩, fun x' wk s'' hs'' bk => hk .none s'' ?_⟩
  exact k n (ys ++ [z]) x' .next (by rw [List.length_append, List.length_singleton]; omega) ⟨σ, H1, V1.woken sd.pn sd.aS sd.aO rv wk, q⟩ s'' s'' hs''.none (Nat.lt_of_lt_of_le hg' bk.size)
end
end Sf
end
section
set_option maxHeartbeats 1000000
namespace Sf
open PySem L2 PyProof.Rows GenW
section
variable {Z : Nat → Prop} {mk : Prop} {X : Cx} {S ad : Addr} {g : Nat} {B : Prop × (Heap → Prop)} {R : GenEnd} {A : Around} {c c' : Code} {fs : List Frame} {K : Flow → Sem PySem.Fin} {J : Value → Sem PySem.Fin} {gd : Bool → Bool} {lv : List Value → List Value} {n : Nat} {x : Shared} {pos : Pos}
theorem Sd.loop {ip : List (Addr × Obj)} {p : Pos} (sd : Sd mk X S ad B ip A c fs gd) (hw : c'.weight = 0) (hu : c'.cUnits = 0) (kk : Result → Sem PySem.Fin) : Sd mk X S ad B ip A c' (.ret kk none (gd false) (lv []) c p [] :: fs) id where
  pn := sd.pn
  aS := sd.aS
  aO := sd.aO
  over := (over_loop hw hu).trans sd.over
  split := by rw [splitAtGen_ret, sd.split]; rfl
  guard := by
    show (gd false || fs.any Frame.guarded) = false
    rw [sd.gd, sd.guard]; rfl
  gd := rfl
  nx := sd.nx
  hb := sd.hb
  hk := sd.hk
  mkd := sd.mkd
theorem Sd.more {ip ip' : List (Addr × Obj)} (sd : Sd mk X S ad B ip A c fs gd) (h : ∀ p ∈ ip', p.1 ≠ S ∧ p.1 ≠ ad) : Sd mk X S ad B (ip ++ ip') A c fs gd :=
  ⟨fun p hp => (List.mem_append.mp hp).elim (fun z => sd.pn p (List.mem_append_left _ z)) fun z => (List.mem_append.mp z).elim (fun y => sd.pn p (List.mem_append_right _ y)) (h p), sd.aS, sd.aO, sd.over, sd.split, sd.guard, sd.gd, sd.nx, sd.hb, sd.hk, sd.mkd⟩
theorem gt_leave {ip : List (Addr × Obj)} {p : Pos} (f : Flow) (h : Gt Z X S ad g B R A n c fs (K f) x) : Gt Z X S ad g B R A n c' (.ret (came X.env K J gd lv) none (gd false) (lv []) c p [] :: fs) (.pure (.done f)) x :=
  fun s₀ s hs hg => seg_leaf (.ok f) (h s₀ s hs hg)
end
section
variable {mk : Prop} {X : Cx} {pos : Pos}
theorem gb_while {test : Expr} {body : List Stmt} {tc : TT} {tb : TGn} (hc : QT X test tc) (hb : GBs mk X body tb) : GB mk X (.While test body [] pos) (tGWhile tc tb) := by
  refine ⟨fun Z A S ad g B R n ys ip x σ H D c fs K J gd lv sd hn k hV ht => ?_⟩
  obtain ⟨W, ⟨m0, w0⟩, turn⟩ := ht
  intro s₀ s hs hg
  refine seg_While fun p => ?_
  have sl := fun kk => Sd.loop (lv := lv) (p := p) (c' := .whileLoop test body [] X.env) sd rfl rfl kk
  have loop : ∀ (m n : Nat) (ys : List V) (x : Shared) (σ : L2.St) (H : Hp), n + ys.length = sizeLine → W m ys σ H → GV X S ad g ip ys σ H x →
      Gt Z X S ad g B R A n (.whileLoop test body [] X.env) (.ret (came X.env K J gd lv) none (gd false) (lv []) c p [] :: fs) ((mp X.prog X.w).den (.whileLoop test body [] X.env)) x := by
    intro m
    induction m using Nat.strongRecOn with
    | ind m ih =>
      intro n ys x σ H hn wm hV s₀ s hs hg
      obtain ⟨o, go, acc, cc, r, I⟩ := hV
      refine seg_wturn rfl ?_
      rw [(sl (came X.env K J gd lv)).over]
      refine wpAny_gsz (n := g + 1) hg (wpAny_mono (hc.run Z _ x σ H _ I (turn m ys σ H wm) s hs) (fun b s1 ⟨y, hy, H1, I1, q⟩ hg1 => ?_) fun e s' ⟨y, _, q⟩ => (sd.nx e y q).elim)
      cases b with
      | true =>
        obtain ⟨N, hN, q⟩ := q
        rw [if_pos rfl]
        refine hb.run Z A S ad g B R n ys ip y σ H1 { D with nx := N, ct := N, bk := D.nx } _ _ _ _ id id (sl _) hn (fun n' ys' y' f hn' q' => ?_) ⟨o, go, acc, cc, r, I1⟩ q s₀ s1 hy hg1
        cases f with
        | next => obtain ⟨σ', H', V', q2⟩ := q'; obtain ⟨m', hm, w'⟩ := hN ys' σ' H' q2; exact fun s₀ s hs hg => seg_again rfl (ih m' hm n' ys' y' σ' H' hn' w' V' s₀ s hs hg)
        | cont => obtain ⟨σ', H', V', q2⟩ := q'; obtain ⟨m', hm, w'⟩ := hN ys' σ' H' q2; exact fun s₀ s hs hg => seg_again rfl (ih m' hm n' ys' y' σ' H' hn' w' V' s₀ s hs hg)
        | brk => exact gt_leave (ip := ip) .next (k n' ys' y' .next hn' q')
        | ret v => exact gt_leave (ip := ip) (.ret v) (k n' ys' y' (.ret v) hn' q')
      | false =>
        rw [if_neg Bool.false_ne_true]
        exact gt_leave (ip := ip) .next (k n ys y .next hn ⟨σ, H1, ⟨o, go, acc, cc, r, I1⟩, q⟩) s₀ s1 hy hg1
  exact loop m0 n ys x σ H hn w0 hV s₀ s hs hg
def tGFor (wi : TI) (g : TG) (tb : TGn) : TGn := fun D ys σ H => wi σ H fun J H1 => ∃ W : Nat → Nat → List V → L2.St → Hp → Prop, (∃ m, W 0 m ys σ H1) ∧ ∀ i m ys σ H, W i m ys σ H →
  (J.stop i H ∧ D.nx ys σ H) ∨ (J.go i H ∧ ∃ N : List V → L2.St → Hp → Prop, (∀ ys' σ' H', N ys' σ' H' → ∃ m', m' < m ∧ W (i + 1) m' ys' σ' H') ∧ ∀ v H', J.yld i H v H' → g v σ H' fun σ2 H2 => tb { D with nx := N, ct := N, bk := D.nx } ys σ2 H2)
theorem gb_for {tg iter : Expr} {body : List Stmt} {wi : TI} {gg : TG} {tb : TGn} (hx : ∀ e s, ¬ X.xe e s) (hc : X.calm = true) (hi : PI X tg iter wi) (hg : PG X tg gg) (hb : GBs mk X body tb) (hw : ∀ z, foldedSetIterable iter X.env z = pure z := by intro _; rfl) :
    GB mk X (.For tg iter body [] pos) (tGFor wi gg tb) := by
  have nx : ∀ {Z : Nat → Prop} {α : Type} {t : Sem α} {Q : α → Shared → Prop} {x s : Shared}, SR Z x s → ∀ {g : Nat}, g < s.gens.size → wpAny (model X.prog X.w) X.A t Q X.xe x → wpAny (mp X.prog X.w) X.A t (fun a s' => g < s'.gens.size ∧ lo Z Q a s') (fun _ _ => False) s := fun {Z α t Q x s} hs {g} hg h =>
    wpAny_gsz (n := g + 1) hg (wpAny_mono (wpAny_up hs h) (fun _ _ q hg' => ⟨hg', q⟩) fun e _ ⟨y, _, q⟩ => (hx e y q).elim)
  refine ⟨fun Z A S ad g B R n ys ip x σ H D c fs K J gd lv sd hn k hV ht s₀ s hs hg0 => ?_⟩
  obtain ⟨o, go, acc, cc, r, I⟩ := hV
  refine seg_for hw ?_
  rw [sd.over]
  refine wpAny_mono (nx hs hg0 (hi.run _ x σ H _ I ht)) (fun v s1 ⟨g1, x1, h1, q1⟩ => wpAny_mono (nx h1 g1 q1) (fun itv s2 ⟨g2, x2, h2, q2⟩ p => ?_) fun _ _ e => e) fun _ _ e => e
  obtain ⟨it, fp, tn, JJ, H2, e, I2, TT, st2, f2, W, ⟨m0, w0⟩, turn⟩ := q2
  subst e
  have sl := fun kk => Sd.loop (lv := lv) (p := p) (c' := .forLoop tg (.ref it) body [] X.env) sd rfl rfl kk
  have apart : ∀ {o : Obj} {acc : Array Value} {cc : Nat} {H' : Hp}, (∀ b ∈ fp, FpOk X ((S, lstObj acc cc) :: (ad, o) :: ip) H' b) → ∀ b ∈ fp, b ≠ S ∧ b ≠ ad := fun {o acc cc H'} h b hb =>
    ⟨fun e => (h b hb).2.2.2.2.2 (S, _) (List.mem_append_right _ List.mem_cons_self) e.symm, fun e => (h b hb).2.2.2.2.2 (ad, _) (List.mem_append_right _ (List.mem_cons_of_mem _ List.mem_cons_self)) e.symm⟩
  have fok : ∀ {o' : Obj} {acc' : Array Value} {cc' : Nat} {H' : Hp}, (∀ b ∈ fp, H' b = none) → ∀ b ∈ fp, FpOk X ((S, lstObj acc' cc') :: (ad, o') :: ip) H' b := fun {o' acc' cc' H'} hn b hb => by
    obtain ⟨_, y2, y3, y4, y5, y6⟩ := f2 b hb
    refine ⟨hn b hb, y2, y3, y4, y5, fun q hq => ?_⟩
    rcases List.mem_append.mp hq with z | z
    · exact y6 q (List.mem_append_left _ z)
    · rcases List.mem_cons.mp z with z | z
      · rw [z]; exact fun e => (apart f2 b hb).1 e.symm
      · rcases List.mem_cons.mp z with z | z
        · rw [z]; exact fun e => (apart f2 b hb).2 e.symm
        · exact y6 q (List.mem_append_right _ (List.mem_cons_of_mem _ (List.mem_cons_of_mem _ z)))
  have loop : ∀ (m n i : Nat) (ys : List V) (x : Shared) (σ : L2.St) (H : Hp), n + ys.length = sizeLine → W i m ys σ H → GV X S ad g ip ys σ H x → tn i x.heap → (∀ b ∈ fp, H b = none) →
      Gt Z X S ad g B R A n (.forLoop tg (.ref it) body [] X.env) (.ret (came X.env K J gd lv) none (gd false) (lv []) c p [] :: fs) ((mp X.prog X.w).den (.forLoop tg (.ref it) body [] X.env)) x := by
    intro m
    induction m using Nat.strongRecOn with
    | ind m ih =>
      intro n i ys x3 σ3 H3 hn wm hV st3 fr3 s₀ s3 hs3 g3
      obtain ⟨o, go, acc, cc, r, I3⟩ := hV
      refine seg_turn rfl ?_
      rw [(sl (came X.env K J gd lv)).over]
      rcases turn i m ys σ3 H3 wm with ⟨stop, qn⟩ | ⟨goes, N, hN, step⟩
      · refine wpAny_mono (nx hs3 g3 (TT.done X rfl rfl rfl hc i _ x3 σ3 H3 X.xe I3 (fok fr3) st3 stop)) (fun rr s4 ⟨g4, x4, h4, er, I4⟩ => ?_) fun _ _ e => e
        subst er
        exact gt_leave (c' := .block [] X.env) (ip := ip) .next (k n ys x4 .next hn ⟨σ3, H3, ⟨o, go, acc, cc, r, I4⟩, qn⟩) s₀ s4 h4 g4
      · refine wpAny_mono (nx hs3 g3 (TT.item X rfl rfl rfl hc i _ x3 σ3 H3 X.xe I3 (fok fr3) st3 goes)) (fun rr s4 ⟨g4, x4, h4, u, er, q4⟩ => ?_) fun _ _ e => e
        subst er
        refine wpAny_mono (nx h4 g4 q4) (fun _ s5 ⟨g5, x5, h5, v5, H5, I5, r5, y5, st5, fr5⟩ => ?_) fun _ _ e => e
        have I5' := I5.pinned (fok fr5) (TT.obj _ _ st5)
        refine wpAny_mono (nx h5 g5 (hg.run _ x5 σ3 H5 v5 u _ I5' r5 (step v5 H5 y5))) (fun _ s6 ⟨g6, x6, h6, σ6, H6, I6, q6⟩ => ?_) fun _ _ e => e
        have sd' : Sd mk X S ad B (ip ++ pinsAt fp x5.heap) A (.forLoop tg (.ref it) body [] X.env) (.ret (came X.env K J gd lv) none (gd false) (lv []) c p [] :: fs) id := (sl _).more fun q hq => apart f2 q.1 (of_pinsAt hq).1
        refine hb.run Z A S ad g B R n ys (ip ++ pinsAt fp x5.heap) x6 σ6 H6 { D with nx := N, ct := N, bk := D.nx } _ _ _ _ id id sd' hn (fun n' ys' x7 f hn' q7 => ?_) ⟨o, go, acc, cc, r, I6⟩ q6 s₀ s6 h6 g6
        have drop : ∀ {σ7 : L2.St} {H7 : Hp}, GV X S ad g (ip ++ pinsAt fp x5.heap) ys' σ7 H7 x7 → GV X S ad g ip ys' σ7 H7 x7 ∧ tn (i + 1) x7.heap ∧ ∀ b ∈ fp, H7 b = none := fun {σ7 H7} V7 => by
          obtain ⟨o7, go7, acc7, cc7, r7, I7⟩ := V7
          have at7 : ∀ b ∈ fp, ∀ ob, x5.heap.get? b = some ob → x7.heap.get? b = some ob ∧ H7 b = none := fun b hb ob e =>
            let z := I7.pin (b, ob) (List.mem_append_right _ (List.mem_cons_of_mem _ (List.mem_cons_of_mem _ (List.mem_append_right _ (mem_pinsAt hb e)))))
            ⟨z.1, z.2.1⟩
          refine ⟨⟨o7, go7, acc7, cc7, r7, I7.pins_of fun q hq => I7.pin q (List.mem_append_right _ ?_)⟩, TT.keep _ _ _ st5 fun b hb ob e => (at7 b hb ob e).1, fun b hb => ?_⟩
          · rcases List.mem_cons.mp hq with z | z
            · rw [z]; exact List.mem_cons_self
            · rcases List.mem_cons.mp z with z | z
              · rw [z]; exact List.mem_cons_of_mem _ List.mem_cons_self
              · exact List.mem_cons_of_mem _ (List.mem_cons_of_mem _ (List.mem_append_left _ z))
          · obtain ⟨ob, e, _⟩ := TT.obj _ _ st5 b hb
            exact (at7 b hb ob e).2
        cases f with
        | next => obtain ⟨σ7, H7, V7, n7⟩ := q7; obtain ⟨m', hm, w'⟩ := hN ys' σ7 H7 n7; obtain ⟨d1, d2, d3⟩ := drop V7; exact fun s₀ s hs hg => seg_again rfl (ih m' hm n' (i + 1) ys' x7 σ7 H7 hn' w' d1 d2 d3 s₀ s hs hg)
        | cont => obtain ⟨σ7, H7, V7, n7⟩ := q7; obtain ⟨m', hm, w'⟩ := hN ys' σ7 H7 n7; obtain ⟨d1, d2, d3⟩ := drop V7; exact fun s₀ s hs hg => seg_again rfl (ih m' hm n' (i + 1) ys' x7 σ7 H7 hn' w' d1 d2 d3 s₀ s hs hg)
        | brk => obtain ⟨σ7, H7, V7, q7⟩ := q7; exact gt_leave (ip := ip) .next (k n' ys' x7 .next hn' ⟨σ7, H7, (drop V7).1, q7⟩)
        | ret v => obtain ⟨z7, σ7, H7, V7, r7, q7⟩ := q7; exact gt_leave (ip := ip) (.ret v) (k n' ys' x7 (.ret v) hn' ⟨z7, σ7, H7, (drop V7).1, r7, q7⟩)
  exact loop m0 n 0 ys x2 σ H2 hn w0 ⟨o, go, acc, cc, r, I2⟩ st2 (fun b hb => (f2 b hb).1) s₀ s2 h2 g2
end
end Sf
end
section
set_option maxHeartbeats 1000000
namespace Sf
open PySem L2 PyProof.Rows GenW
def gX (P : Program) (w : World) (K : PySem.W.Frag) (mg : Str → Option Value) (base : Heap) (N : List Str) (qual : Str) (scope : Scope) (f : Addr) (cd : Value) (A : Around) (outer : List Env) (x : Shared) (H : Hp) (S : Addr) : Cx :=
  { cxOf CX0 P w K mg base N qual scope f cd A outer x H (fun _ _ _ => False) with ex := [S], xe := fun _ _ => False }
structure SAt (base : Heap) (outer : List Env) (H : Hp) (x : Shared) (made : Nat) (S : Addr) : Prop where
  away : x.heap.objs.size > S ∨ made ≤ S
  no : H S = none
  fs : S ∉ frs outer
  nb : base.get? S = none
theorem un_ex {fs : List Addr} {H H' : Hp} {h h' : Heap} {S : Addr} (u : Un fs [] H H' h h') : Un fs [S] H H' h h' :=
  ⟨fun b o e n hf _ => u.keep b o e n hf (by simp), fun b o e n hf _ => u.slot b o e n hf (by simp), fun b o e n _ => u.free b o e n (by simp), fun b o e _ => u.there b o e (by simp), u.tups, u.frzs, u.tbls⟩
theorem un_but {fs : List Addr} {H : Hp} {h h' : Heap} {S : Addr} (k : ∀ b o, b ≠ S → h.get? b = some o → h'.get? b = some o) : Un fs [S] H H h h' :=
  ⟨fun b o e _ _ hx => k b o (fun z => hx (by rw [z]; exact List.mem_cons_self)) e, fun b o e _ _ hx => ⟨o.slots, k b o (fun z => hx (by rw [z]; exact List.mem_cons_self)) e⟩, fun _ _ _ n _ => n, fun b o e hx => ⟨o, k b o (fun z => hx (by rw [z]; exact List.mem_cons_self)) e⟩,
    fun _ _ q => q, fun _ _ _ q => q, fun b ps q => ⟨#[], by rw [q]; simp⟩⟩
theorem hok_but {P : Program} {w : World} {H : Hp} {h h' : Heap} {S : Addr} (hS : H S = none) (k : ∀ b o, b ≠ S → h.get? b = some o → h'.get? b = some o) (hok : HOk P w H h) : HOk P w H h' := fun b u q =>
  (hok b u q).stay (fun c v hc y => k c v (by
    rcases hc with z | z
    · rw [z]; rintro rfl; rw [hS] at q; cases q
    · rintro rfl; rw [hS] at z; cases z) y) (fun _ y => y) fun _ _ y => y
def BG (outer : List Env) (H : Hp) (x : Shared) (S : Addr) (h : Heap) : Prop := ∀ b o, x.heap.get? b = some o → H b = none → b ∉ frs outer → b ≠ S → h.get? b = some o
def RG (Z : Nat → Prop) (P : Program) (w : World) (outer : List Env) (H : Hp) (x : Shared) (S a : Addr) (g : Nat) (pre : List V) (Q : List V → Hp → Prop) : GenEnd := fun n _ r s => r = .ok (.ret .none) ∧ ∃ y, SR Z y s ∧ ∃ (H' : Hp) (out : List V) (acc : Array Value) (c : Nat),
  y.os = x.os ∧ AllBare y.gens ∧ Un (frs outer) [S] H H' x.heap y.heap ∧ HOk P w H' y.heap ∧ H' S = none ∧ y.heap.get? S = some (lstObj acc c) ∧ Vals (pre ++ out) acc.toList ∧ n + (pre ++ out).length = sizeLine ∧ Q out H' ∧ (∃ o, y.heap.get? a = some o ∧ GenO g o) ∧ y.heap.NoLimit
def Made (P : Program) (w : World) (base : Heap) (k : Nat) (mk : Prop) (pl : Nat) (outer : List Env) (H : Hp) (x : Shared) (Q : List V → Hp → Prop) (u : Value) (x' : Shared) : Prop :=
  ∃ (a : Addr) (g : Nat) (c : Code), u = .ref a ∧ x.heap.objs.size ≤ a ∧ a < x'.heap.objs.size ∧ x'.heap.IsGen a g ∧ x'.gens[g]? = some (.fresh c) ∧ x.gens.size ≤ g ∧ x'.os = x.os ∧ AllBare x'.gens ∧ x'.heap.NoLimit ∧ (∀ b o, x.heap.get? b = some o → x'.heap.get? b = some o) ∧
    ∀ (Z : Nat → Prop) (B : Prop) (A : Around) (S : Addr) (pre : List V) (y : Shared), (B → mk) → pre.length = pl → Room k A → A.frames = some outer → SAt base outer H x x'.heap.objs.size S → (∀ b o, b ≠ S → x'.heap.get? b = some o → y.heap.get? b = some o) → (∃ acc c, y.heap.get? S = some (lstObj acc c) ∧ Vals pre acc.toList) → y.os = x.os → AllBare y.gens → pre.length ≤ sizeLine →
      ∀ s₀ s, SR Z y s → g < s.gens.size → Seg (mp P w) A (RG Z P w outer H x S a g pre Q) (YG Z S a g (B, BG outer H x S)) (sizeLine - pre.length) s₀ c ((mp P w).den c) [] s
abbrev SpGS := Nat → List V → Hp → (List V → Hp → Prop) → Prop
structure GFnS (P : Program) (w : World) (K : PySem.W.Frag) (mg : Str → Option Value) (base : Heap) (k : Nat) (mk : Prop) (f : Addr) (fd : FuncData) (ps : List Str) (sp : SpGS) : Prop where
  len : ∀ pl vs H Q, sp pl vs H Q → vs.length = ps.length
  run : ∀ (pl : Nat) (A : Around) (outer : List Env) (x : Shared) (H : Hp) (args : Args) (us : List Value) (vs : List V) (Q : List V → Hp → Prop), Room k A → Env0 P w K mg base A outer x H → BindsTo x fd args (ps.zip us) → Vals vs us → sp pl vs H Q →
    codeAny (model P w) A (.call (.ref f) args) (fun r y => match r with | .ok (.ret u) => Made P w base k mk pl outer H x Q u y | _ => False) x
theorem gfnS_of {mk : Prop} {P : Program} {w : World} {K : PySem.W.Frag} {mg : Str → Option Value} {base : Heap} {k : Nat} {f : Addr} {name qual : Str} {params : Arguments} {body : List Stmt} {scope : Scope} {dV kV doc pm cdv ct oc : Value} {an od : Option Addr}
    {osl : Array (Option Value)} {N ps : List Str} {sp : SpGS} (lk : K.lookup f = some ⟨oc, od, .func (PySem.W.fnOf name qual params body scope dV kV doc pm an cdv ct), osl⟩) (hcd : PySem.W.codeIn K cdv qual = true) (sc : GScope N ps scope)
    (len : ∀ pl vs H Q, sp pl vs H Q → vs.length = ps.length)
    (hbody : ∀ (A : Around) (outer : List Env) (x : Shared) (H : Hp) (vs : List V) (S : Addr) (pre : List V) (Q : List V → Hp → Prop), Room k (A.deeper (envOfC qual scope x.heap.objs.size f cdv)) → sp pre.length vs H Q →
      ∃ t, GBs mk (gX P w K mg base N qual scope f cdv A outer x H S) body t ∧ t { nx := fun ys _ H' => ∃ out, ys = pre ++ out ∧ Q out H', rt := fun ys v H' => v = .non ∧ ∃ out, ys = pre ++ out ∧ Q out H' } pre (start N vs) H) :
    GFnS P w K mg base (k + 1) mk f (PySem.W.fnOf name qual params body scope dV kV doc pm an cdv ct) ps sp := by
  refine ⟨len, fun pl A outer x H args us vs Q hr e0 hb rv hsp => ?_⟩
  have hl := len _ _ _ _ hsp
  have KX : K.In x.heap := e0.mod.kin.keeps fun b o e => (e0.bs b o e).1
  have lim : x.heap.NoLimit := e0.mod.nolimit.keeps fun b o e => (e0.bs b o e).1
  have hkind : ∀ z ∈ ps.zip us, scope.names.lookup z.1 = some .local ∨ (scope.names.lookup z.1 = some .cell ∧ ((cellsFrom (x.heap.objs.size + 1) scope.names []).lookup z.1).isSome = true) := by
    rintro ⟨n, v⟩ hz
    exact (sc.par n (List.of_mem_zip hz).1).imp (fun q => q) fun q => ⟨q, PySem.W.cellsFrom_some _ _ _ (.inl q)⟩
  refine codeAny_call_generator hr.depth (KX _ _ lk) rfl sc.co sc.gen rfl (PySem.W.codeRec_of KX hcd) (hb _ _ _ _ (wpAny_newFunctionEnv_cells sc.kind hkind ?_))
  rintro env rfl x1 z
  have lim1 : x1.heap.NoLimit := lim.keeps z.toInCall.keep
  refine ⟨lim1, ?_⟩
  have lt1 : x.heap.objs.size < x1.heap.objs.size := z.toInCall.ns.lt
  have kp1 : ∀ b o, x.heap.get? b = some o → x1.heap.get? b = some o := z.toInCall.keep
  obtain ⟨os1, gen1⟩ : x1.os = x.os ∧ x1.gens = x.gens := by
    obtain ⟨h1, tk, rfl, _⟩ := z.done
    exact ⟨rfl, rfl⟩
  have cells1 : ∀ y c, (cellsFrom (x.heap.objs.size + 1) scope.names []).lookup y = some c → x.heap.objs.size < c ∧ x1.heap.objs.size > c := fun y c e => by
    obtain ⟨ob, ho, _⟩ := z.cell y c e
    exact ⟨z.above y c (PySem.mem_of_lookup e), Heap.lt_size ho⟩
  have main : ∀ (go : Obj) (nm qn : Value) (tk2 : Nat), go.cls = .type "generator" → go.data = .fields #[.int x1.gens.size 0, nm, qn] → go.slots = #[] → (∀ h : Heap, (h.push go).get? h.objs.size = some go) →
      Made P w base (k + 1) mk pl outer H x Q (.ref x1.heap.objs.size) { x1 with gens := x1.gens.push (.fresh (.func body (envOfC qual scope x.heap.objs.size f cdv))), toks := tk2, heap := x1.heap.push go } := by
    intro go nm qn tk2 hgc hgd hgs hgp
    have hgO : GenO x1.gens.size go := ⟨hgc, ⟨nm, qn, hgd⟩, .inl hgs⟩
    have hpush : ∀ b o, x1.heap.get? b = some o → (x1.heap.push go).get? b = some o := fun b o e => Heap.get?_push_of_some _ e
    refine ⟨x1.heap.objs.size, x1.gens.size, _, rfl, Nat.le_of_lt lt1, ?_, ⟨go, nm, qn, hgp _, hgc, hgd, hgs⟩, Array.getElem?_push_size .., Nat.le_of_eq (by rw [gen1]), os1, ?_, lim1.keeps hpush, fun b o e => hpush b o (kp1 b o e), ?_⟩
    · show _ < (x1.heap.push _).objs.size
      rw [Heap.size_push]; exact Nat.lt_succ_self _
    · exact AllBare.push (by rw [gen1]; exact e0.bare) rfl
    intro Z B Aw S pre y hB hpl hrw hfr hS hk2 ⟨acc, cS, eS, rpre⟩ hos hba hle s₀ s hs hgl
    subst hpl
    have e0w : Env0 P w K mg base Aw outer x H := ⟨hfr, e0.mod, e0.bs, e0.bsz, e0.funs, e0.frf, e0.hok, e0.bare⟩
    obtain ⟨t, ht, hq⟩ := hbody Aw outer x H vs S pre Q (hrw.deeper _) hsp
    have I1 := inv_startG (E := fun _ _ _ => False) sc hrw.hd e0w hl rv z
    have hSz : x1.heap.objs.size + 1 ≤ S ∨ x.heap.objs.size > S := by
      rcases hS.away with q | q
      · exact .inr q
      · refine .inl ?_
        have q : (x1.heap.push go).objs.size ≤ S := q
        rw [Heap.size_push] at q
        exact q
    have SL : S ≠ x.heap.objs.size := fun e => by
      rw [e] at hSz
      omega
    have SC : ∀ y c, (cellsFrom (x.heap.objs.size + 1) scope.names []).lookup y = some c → c ≠ S := fun y c e => by
      obtain ⟨h1, h2⟩ := cells1 y c e
      intro e
      rw [e] at h1 h2
      omega
    have Sa : S ≠ x1.heap.objs.size := fun e => by
      rw [e] at hSz
      omega
    have I1' : Inv (gX P w K mg base N qual scope f cdv Aw outer x H S) [] (start N vs) H x1 := by
      refine ⟨⟨I1.ok.mod, I1.ok.kind, I1.ok.glob, I1.ok.blt, I1.ok.above, I1.ok.inj, I1.ok.has, I1.ok.cab, I1.ok.hd, I1.ok.frames, I1.ok.stk, fun b hb => ?_, I1.ok.bs, I1.ok.bsz, fun b o e hb => ?_, fun b hb => ?_, I1.ok.funs, I1.ok.frf⟩, I1.os, I1.bare, un_ex I1.base, I1.loc, I1.cell, I1.free, I1.freeC, fun p hp => absurd (show p ∈ ([] : List (Addr × Obj)) from hp) (by simp), I1.hok, I1.len⟩
      · rw [List.mem_singleton.mp hb]; exact ⟨SL, SC⟩
      · have e : base.get? b = some o := e
        rw [List.mem_singleton.mp hb, hS.nb] at e; cases e
      · rw [List.mem_singleton.mp hb]; exact hS.fs
    have ky : ∀ b o, b ≠ S → x1.heap.get? b = some o → y.heap.get? b = some o := fun b o hb e => hk2 b o hb (hpush b o e)
    have aS : Apt (gX P w K mg base N qual scope f cdv Aw outer x H S) S := ⟨.inl List.mem_cons_self, SL, SC⟩
    have aO : Apt (gX P w K mg base N qual scope f cdv Aw outer x H S) x1.heap.objs.size := ⟨.inr (Nat.le_of_lt lt1), Nat.ne_of_gt lt1, fun y c e => Nat.ne_of_lt (cells1 y c e).2⟩
    have I2 : Inv (gX P w K mg base N qual scope f cdv Aw outer x H S) [] (start N vs) H y :=
      I1'.call' (ch := [S]) (hos.trans os1.symm) (un_but ky) (hok_but hS.no ky I1'.hok) hba fun b hb => by
        rw [List.mem_singleton.mp hb]
        exact ⟨aS.ex, aS.loc, aS.cel, fun p hp => absurd (show p ∈ ([] : List (Addr × Obj)) from hp) (by simp)⟩
    have V2 : GV (gX P w K mg base N qual scope f cdv Aw outer x H S) S x1.heap.objs.size x1.gens.size [] pre (start N vs) H y := by
      refine ⟨go, hgO, acc, cS, rpre, I2.pins_of fun p hp => ?_⟩
      rcases List.mem_cons.mp hp with e | hp
      · rw [e]; exact ⟨eS, hS.no, SL, hS.fs, fun v q => by cases q⟩
      · rw [List.mem_singleton.mp hp]
        exact ⟨hk2 _ _ (Ne.symm Sa) (hgp _), I1'.hok.fresh (Nat.le_refl _), aO.loc, I1'.nofs (Nat.le_refl _), fun v q => by
          have q : go.data = .cell v := q
          rw [hgd] at q; cases q⟩
    refine seg_fun rfl ?_
    refine ht.run Z Aw S x1.heap.objs.size x1.gens.size (B, BG outer H x S) _ (sizeLine - pre.length) pre [] y (start N vs) H _ (.func body (envOfC qual scope x.heap.objs.size f cdv)) [] _ _ id id
      ⟨fun p hp => absurd (show p ∈ ([] : List (Addr × Obj)) from hp) (by simp), aS, aO, over_func, rfl, rfl, rfl, fun _ _ q => q, fun pins σ' H' y' I b o e n hf hb => I.base.keep b o e n hf (fun q => hb (List.mem_singleton.mp q)),
        fun pins σ' H' y' h I kk b o e n hf hb => by
          have nS : b ∉ [S] := fun q => hb (List.mem_singleton.mp q)
          refine kk b o (I.base.keep b o e n hf nS) (I.base.free b o e n nS) (fun hm => ?_) hb
          rcases List.mem_cons.mp (I.stkSub b hm) with q | q
          · rw [q] at e
            exact absurd (Heap.lt_size e) (Nat.lt_irrefl _)
          · exact hf q, hB⟩
      (by omega) (fun n ys y' fl hn q => ?_) V2 hq s₀ s hs hgl
    have done : ∀ {σ' : L2.St} {H' : Hp}, GV (gX P w K mg base N qual scope f cdv Aw outer x H S) S x1.heap.objs.size x1.gens.size [] ys σ' H' y' → (∃ out, ys = pre ++ out ∧ Q out H') → ∀ s, SR Z y' s → RG Z P w outer H x S x1.heap.objs.size x1.gens.size pre Q n s₀ (.ok (.ret .none)) s := by
      rintro σ' H' ⟨o', go', acc', c', r', J⟩ ⟨out, rfl, hQ⟩ s hs
      exact ⟨rfl, y', hs, H', out, acc', c', J.os, J.bare, J.base, J.hok, (J.pin _ (List.mem_append_right _ List.mem_cons_self)).2.1, (J.pin _ (List.mem_append_right _ List.mem_cons_self)).1, r', hn, hQ, ⟨o', (J.pin _ (List.mem_append_right _ (List.mem_cons_of_mem _ List.mem_cons_self))).1, go'⟩, J.nolimit⟩
    intro s1' s1 hs1 _
    cases fl with
    | next =>
      obtain ⟨σ', H', V', q⟩ := q
      exact seg_end (.ok (.ret .none)) (by obtain ⟨h1, h2⟩ := done V' q s1 hs1; exact ⟨h1, h2⟩)
    | brk => obtain ⟨_, _, _, q⟩ := q; exact q.elim
    | cont => obtain ⟨_, _, _, q⟩ := q; exact q.elim
    | ret u =>
      obtain ⟨v, σ', H', V', r1, ev, q⟩ := q
      subst ev
      have eu : u = Value.none := r1
      subst eu
      exact seg_end (.ok (.ret .none)) (by obtain ⟨h1, h2⟩ := done V' q s1 hs1; exact ⟨h1, h2⟩)
  exact main _ _ _ _ rfl rfl rfl fun h => Heap.get?_push_size _ rfl
end Sf
end
section
set_option maxHeartbeats 1000000
namespace Sf
open PySem L2 PyProof.Rows GenW
section
variable {P : Program} {w : World} {A : Around} {E : Value → Shared → Prop} {s : Shared}
theorem GenO.ty {g : Nat} {o : Obj} {a : Addr} (go : GenO g o) (ho : s.heap.get? a = some o) : s.TypeIs (.ref a) "generator" := ⟨o, ho, go.1⟩
theorem genNum {M : Model} {a : Addr} {g : Nat} {o : Obj} {Q : Nat → Shared → Prop} (ho : s.heap.get? a = some o) (go : GenO g o) (h : Q g s) : wpAny M A (Builtin.Generator.genNumber (.ref a)) Q E s := by
  obtain ⟨_, ⟨nm, qn, hd⟩, hs⟩ := go
  unfold Builtin.Generator.genNumber
  refine wpAny_bind (wpAny_load ho ?_)
  rcases hs with hs | ⟨t, hs⟩
  · rw [hs, hd]
    show wpAny M A (pure ((g : Int).toNat)) Q E s
    rw [Int.toNat_natCast]; exact wpAny_pure h
  · rw [hs, hd]
    show wpAny M A (if (0 : Int) > 0 then _ else _) Q E s
    rw [if_neg (by decide)]
    show wpAny M A (pure ((g : Int).toNat)) Q E s
    rw [Int.toNat_natCast]; exact wpAny_pure h
theorem yf_not {id : String} {args : Args} (h : id ≠ yfId) : yfOf (.builtin id args) = none := by
  obtain ⟨pos, kw⟩ := args
  cases pos with
  | nil => rfl
  | cons v r =>
    cases v with
    | ref a =>
      show (if id = yfId then some a else none) = none
      exact if_neg h
    | _ => rfl
theorem den_bi {id : String} {args : Args} {b : Builtin} (h : id ≠ yfId) (hb : entryFor table id = some b) : (mp P w).den (.builtin id args) = b args := by
  show denS _ = _
  unfold denS
  rw [yf_not h]
  show (match entryFor table id with | some b => b args | none => unsupported ((withoutEnding? id "#data").getD id)) = _
  rw [hb]
theorem den_bis {id : String} {args : Args} {a : Addr} {b : Builtin} (h : yfOf (.builtin id args) = some a) (hb : entryFor table id = some b) : (mp P w).den (.builtin id args) = T a (b args) := by
  show denS _ = _
  unfold denS
  rw [h]
  show T a (match entryFor table id with | some b => b args | none => unsupported ((withoutEnding? id "#data").getD id)) = _
  rw [hb]
theorem den_gn (args : Args) : (mp P w).den (.builtin "generator.__next__" args) = Builtin.«generator.__next__» args := den_bi (by decide) entry_gen_next
theorem next_call {a : Addr} {Q : Value → Shared → Prop} (hT : s.TypeIs (.ref a) "generator") (h : wpAny (mp P w) A.in1 (Builtin.Generator.genWake (.ref a) (.send .none)) (fun fin s' => ∃ v, fin = .done (.ret v) ∧ Q v s') E s) :
    wpAny (mp P w) A (call (.builtin "generator.__next__") [.ref a]) Q E s := by
  refine wpAny_call (codeAny_of_tree ?_)
  show wpAny (mp P w) A.in1 (checkBuiltinCall "generator.__next__" ⟨[.ref a], []⟩ >>= fun _ => again (.builtin "generator.__next__" ⟨[.ref a], []⟩)) _ _ s
  refine wpAny_bind (slot_gen_next.check _ _ _ _ _ _ _ _ hT (args_gen_next _) (wpAny_pure ⟨plainId_quiet slot_gen_next.plain _, codeAny_of_tree ?_⟩))
  rw [den_gn, Around.under_plainId slot_gen_next.plain _]
  show wpAny (mp P w) A.in1 (Builtin.Generator.genWake (.ref a) (.send .none)) _ _ s
  refine wpAny_mono h (fun fin s' ⟨v, ev, q⟩ => ?_) fun _ _ e => e
  subst ev
  exact q
theorem wake_S {a : Addr} {g n : Nat} {o : Obj} {gs : GenState} {R : GenEnd} {Y : Protocol} {Q : Option Value → Shared → Prop} {F : Shared → Prop} (hh : A.handled = none) (hl : s.heap.NoLimit) (hroom : A.depth < recursionLimit) (ho : s.heap.get? a = some o) (go : GenO g o)
    (hgs : s.gens[g]? = some gs) (hgo : gs.Goes (mp P w) A.in1 R Y n (.send .none) (s.setGen g .running)) (hR : ∀ r s₁, R n (s.setGen g .running) r s₁ → r = .ok (.ret .none) ∧ F s₁)
    (hY : ∀ v s₁ gs', gs'.bare = true → Y (n - 1) (s.setGen g .running) v s₁ (fun r' s'' => match n with | 0 => False | m + 1 => gs'.Goes (mp P w) A.in1 R Y m r' s'') → Q (some v) (s₁.setGen g gs'))
    (hE : ∀ s₁, F s₁ → ∀ e h', StopX e h' → (∀ b o, s₁.heap.get? b = some o → h'.get? b = some o) → E e { s₁.setGen g .finished with heap := h' }) :
    wpAny (mp P w) A (callSpecial? (.ref a) "__next__") Q E s := by
  refine wpAny_callSpecial?_slot (name := Str.ofString "__next__") (go.ty ho) slot_gen_next (next_call (go.ty ho) ?_)
  unfold Builtin.Generator.genWake
  refine wpAny_bind (wpAny_holding (genNum ho go (wpAny_bind (wpAny_genState hgs ?_))))
  have room : ∀ {t : Sem PySem.Fin} {Q' : PySem.Fin → Shared → Prop}, wpAny (mp P w) A.in1 t Q' E s → wpAny (mp P w) A.in1 (roomToWake >>= fun _ => t) Q' E s := fun h => wpAny_bind (wpAny_roomToWake hl hroom h)
  cases gs with
  | running => exact hgo.elim
  | finished => exact hgo.elim
  | _ =>
    refine wpAny_bind (wpAny_roomToWake hl hroom ?_)
    show wpAny _ A.in1 (.resume g (.send .none) [] _) _ _ s
    refine wpAny_resumeQ hgs hgo (fun r s₁ hr => ?_) (fun v s₁ gs' hb hv => ?_)
    · obtain ⟨rfl, hF⟩ := hR r s₁ hr
      show wpAny _ A.in1 (newExc (.type "StopIteration") [] >>= _) _ _ _
      refine wpAny_bind ?_
      simp only [newExc, newTuple]
      refine wpAny_bind (wpAny_newObj_type ?_ (by size_fits))
      refine wpAny_bind (m := firstArgMember _ _) (wpAny_of_eq (a := Value.none) (by first | rfl | (simp only [firstArgMember]; rfl)) ?_)
      refine wpAny_newObj_type ?_ (by size_fits)
      simp only [raiseNew]
      refine wpAny_bind (wpAny_bind (wpAny_handled ?_))
      first | rw [show A.in1.handled = none from hh] | rw [hh]
      refine wpAny_throw ?_
      refine hE s₁ hF _ _ ⟨_, _, _, rfl, Heap.get?_push_size _ rfl, rfl, rfl, ?_⟩ fun b o e => Heap.get?_push_of_some _ (Heap.get?_push_of_some _ e)
      first
        | rfl
        | (rw [Array.getElem?_append_left (by decide)]; rfl)
        | kernel_rfl
    · exact wpAny_pure ⟨v, rfl, hY v s₁ gs' hb hv⟩
theorem slept {M : Model} {a : Addr} {o : Obj} {m : Int} {vs : Array Value} {b : Bool} {Q : Unit → Shared → Prop} (ho : s.heap.get? a = some o) (hc : o.cls = .type "generator") (hd : o.data = .fields vs) (hm : o.slots = #[] ∧ m = 0 ∨ ∃ t, o.slots = #[some (.int m t)])
    (h : ∀ h', h'.get? a = some { o with slots := #[some (.int (if b = true then m + 1 else m - 1) 0)] } → ((∀ c, c ≠ a → h'.get? c = s.heap.get? c) ∧ h'.objs.size = s.heap.objs.size) → Q () { s with heap := h' }) : wpAny M A (Builtin.Generator.sleptOver (.ref a) b) Q E s := by
  unfold Builtin.Generator.sleptOver
  refine wpAny_bind (wpAny_load ho ?_)
  rw [hc, if_neg (by decide)]
  unfold setSlotAt
  rw [if_neg (by decide)]
  refine wpAny_updatePart ho (h _ ?_ ⟨fun c hca => Heap.get?_update_other _ _ (Ne.symm hca), Heap.size_update ..⟩)
  refine (Heap.get?_update_self _ ho (Obj.isFreed_of_fields (vs := vs) hd)).trans ?_
  rcases hm with ⟨hs, rfl⟩ | ⟨t, hs⟩
  · rw [hs]; cases b <;> rfl
  · rw [hs]; cases b <;> rfl
end
end Sf
end
section
set_option maxHeartbeats 2000000
namespace Sf
open PySem L2 PyProof.Rows GenW
theorem over_bi {A : Around} {c c' : Code} {fs : List Frame} {k : Result → Sem PySem.Fin} {g : Bool} {l kp : List Value} {p : Pos} (hw : c'.weight = 0) :
    (A.over c' (.ret k none g l c p kp :: fs)).handled = (A.over c fs).handled ∧ (A.over c' (.ret k none g l c p kp :: fs)).depth = (A.over c fs).depth ∧ (A.over c' (.ret k none g l c p kp :: fs)).frames = (A.over c fs).frames ∧
      (A.over c' (.ret k none g l c p kp :: fs)).units = (A.over c fs).units + c'.cUnits := by
  refine ⟨rfl, ?_, ?_, ?_⟩
  · show A.depth + frameCount ((c, p) :: fs.map Frame.where_) + c'.weight = A.depth + frameCount (fs.map Frame.where_) + c.weight
    rw [frameCount_cons, hw]; omega
  · show pushEnvs c'.envs (pushEnvs (envsOf ((c, p) :: fs.map Frame.where_)) A.frames) = pushEnvs c.envs (pushEnvs (envsOf (fs.map Frame.where_)) A.frames)
    rw [Code.envs_of_weight hw, envsOf_cons]
    simp only [pushEnvs_eq]
    cases A.frames <;> simp [List.append_assoc]
  · show A.units + unitsOf ((c, p) :: fs.map Frame.where_) + c'.cUnits = A.units + unitsOf (fs.map Frame.where_) + c.cUnits + c'.cUnits
    rw [unitsOf_cons]; omega
abbrev yfC (a : Addr) : Code := .builtin "proto.yield_from" ⟨[.ref a, .bool false, .none], []⟩
theorem yfC_of (a : Addr) : yfOf (yfC a) = some a := by
  show (if ("proto.yield_from" : String) = yfId then some a else none) = some a
  exact if_pos rfl
theorem den_yfC {P : Program} {w : World} (a : Addr) : (mp P w).den (yfC a) = T a (Builtin.«proto.yield_from» ⟨[.ref a, .bool false, .none], []⟩) := den_bis (yfC_of a) entry_yf
theorem close_gen : typeLookup (.type "generator") "close" = pure (some (.builtin "generator.close")) := by rw [typeLookup_type, builtinLookup_eq_fast]; kernel_rfl
def behind (a : Addr) (r : Resume) : Sem PySem.Fin := do
  Builtin.Generator.sleptOver (.ref a) false
  match r with
    | .send v => again (.builtin "proto.yield_from" ⟨[.ref a, .bool false, ← (match v with | .ref _ => newList [v] | _ => pure v)], []⟩)
    | .throw e => again (.builtin "proto.yield_from" ⟨[.ref a, .bool true, ← (match e with | .ref _ => newList [e] | _ => pure e)], []⟩)
section
variable {M : Model} {A : Around} {R : GenEnd} {Y : Protocol} {n : Nat} {s₀ s : Shared} {fs : List Frame} {a : Addr}
theorem seg_yfturn {P : Program} {w : World} {g : Nat} (h : wpAny (mp P w) (A.over (yfC a) fs) (callSpecial? (.ref a) "__next__") (fun r s1 => ∃ u, r = some u ∧ ∃ o1, s1.heap.get? a = some o1 ∧ GenO g o1 ∧
        ∀ h2, h2.get? a = some { o1 with slots := #[some (.int 1 0)] } → ((∀ c, c ≠ a → h2.get? c = s1.heap.get? c) ∧ h2.objs.size = s1.heap.objs.size) → Seg (mp P w) A R Y n s₀ (yfC a) (.yield u false mark fun r => T0 (behind a r)) fs { s1 with heap := h2 })
      (fun e s1 => StopX e s1.heap ∧ Seg (mp P w) A R Y n s₀ (yfC a) (.pure (.done (.ret .none))) fs s1) s) :
    Seg (mp P w) A R Y n s₀ (yfC a) ((mp P w).den (yfC a)) fs s := by
  rw [den_yfC]
  unfold Builtin.«proto.yield_from»
  try dsimp only
  refine seg_T (wpAny_pure ?_)
  try dsimp only
  refine seg_T (wpAny_attempt (wpAny_holding ?_))
  rw [if_neg Bool.false_ne_true, if_pos (show (Value.none == Value.none) = true from rfl)]
  refine wpAny_bind (wpAny_rule (wpAny_bind (wpAny_mono h (fun r s1 ⟨u, er, o1, ho1, go1, q⟩ => ?_) fun e s1 ⟨hx, q⟩ => ?_)))
  · subst er
    refine wpAny_pure ?_
    try dsimp only
    refine seg_T (wpAny_typeOf (T := "generator") (go1.ty ho1) ?_)
    try dsimp only
    first
      | (refine seg_T (wpAny_of_eq close_gen ?_); refine seg_T (wpAny_pure ?_))
      | refine seg_T (wpAny_bind (wpAny_of_eq close_gen (wpAny_pure ?_)))
    try dsimp only
    obtain ⟨gc, ⟨nm, qn, gd⟩, gs⟩ := go1
    refine seg_T (slept (m := 0) ho1 gc gd (gs.imp (fun z => ⟨z, rfl⟩) fun z => z) fun h2 e2 k2 => ?_)
    have hG : isG (some { o1 with slots := #[some (.int 1 0)] }) = true := by
      show (Obj.genNumber? _).isSome = true
      unfold Obj.genNumber?
      rw [show ({ o1 with slots := #[some (.int 1 0)] } : Obj).cls = .type "generator" from gc, show ({ o1 with slots := #[some (.int 1 0)] } : Obj).data = _ from gd]
      rfl
    refine seg_wrap (m := loadIfAlive a) (K := fun o => if isG o then .yield u false mark fun x => T0 _ else .yield u true [] fun x => T0 _) (H := .raise) (gd := id) (lv := id) ?_
    have ha : ∀ {Q : Option Obj → Shared → Prop} {E : Value → Shared → Prop} {s : Shared} {A : Around}, Q (s.heap.get? a) s → wpAny (mp P w) A (loadIfAlive a) Q E s := fun hq _ _ _ => hq
    refine ha ?_
    dsimp only
    have e2' : h2.get? a = some { o1 with slots := #[some (.int 1 0)] } := e2
    rw [e2', if_pos hG]
    exact q h2 e2' k2
  · obtain ⟨b, ob, vs, rfl, hob, hcb, hdb, h5⟩ := hx
    try dsimp only
    refine seg_T (wpAny_endsTurn hob hcb ?_)
    try dsimp only
    rw [if_pos rfl]
    first
      | refine seg_T (wpAny_rule ?_)
      | (rw [if_neg Bool.false_ne_true]; refine seg_T (wpAny_rule ?_))
    refine seg_T (wpAny_field hob hdb h5 ?_)
    exact q
end
end Sf
end
section
set_option maxHeartbeats 1000000
namespace Sf
open PySem L2 PyProof.Rows GenW
abbrev TGS := Nat → L2.St → Hp → (List V → Hp → Prop) → Prop
structure PGS (X : Cx) (k : Nat) (mk : Prop) (e : Expr) (t : TGS) : Prop where
  run : ∀ (pl : Nat) (pins : List (Addr × Obj)) (x : Shared) (σ : L2.St) (H : Hp) (Q : List V → Hp → Prop), Inv X pins σ H x → t pl σ H Q →
    wpAny (model X.prog X.w) X.A (eval e X.env) (fun u y => ∃ (H1 : Hp) (xc : Shared), x.gens.size ≤ xc.gens.size ∧ Inv X pins σ H1 xc ∧ Made X.prog X.w X.base k mk pl X.stack H1 xc Q u y) X.xe x
def tGFromG (t : TGS) : TGn := fun D ys σ H => t ys.length σ H fun out H1 => D.nx (ys ++ out) σ H1
theorem Wk.push {S ad : Addr} {g : Nat} {mk : Prop} {u : Value} {x : Shared} {acc : Array Value} {c : Nat} {G : Array GenState} (hS : x.heap.get? S = some (lstObj acc c)) (hne : S ≠ ad) (hG : AllBare G) : Wk S ad g mk u x { x with gens := G, heap := x.heap.update S (Obj.mapSeq (·.push u)) } where
  os := rfl
  bare := hG
  keep := fun b o hb _ e => (Heap.get?_update_other _ _ (Ne.symm hb)).trans e
  own := fun acc' c' e => by
    rw [hS] at e
    cases e
    exact ⟨_, Heap.get?_update_self _ hS rfl⟩
  slf := fun o e go => ⟨o, (Heap.get?_update_other _ _ hne).trans e, go⟩
theorem SH.fill {Z Hs : Nat → Prop} {g : Nat} {x s : Shared} (h : SH Z (fun i => i = g) x s) (hp : Heap)  : SH Z Hs (({ x with heap := hp } : Shared).setGen g .running) (({ s with heap := hp } : Shared).setGen g .running) := by
  refine ⟨rfl, h.drawn, h.toks, h.os, ?_, fun i _ => ?_⟩
  · rw [setGen_size, setGen_size]; exact h.size
  · show OR (Z i) (x.gens.setIfInBounds g .running)[i]? (s.gens.setIfInBounds g .running)[i]?
    by_cases hi : g = i
    · subst hi
      by_cases hl : g < x.gens.size
      · have hl' : g < s.gens.size := by rw [h.size]; exact hl
        rw [Array.getElem?_setIfInBounds_self_of_lt hl, Array.getElem?_setIfInBounds_self_of_lt hl']
        exact .some .running
      · have hl' : ¬ g < s.gens.size := by rw [h.size]; exact hl
        rw [Array.getElem?_eq_none (by rw [Array.size_setIfInBounds]; omega), Array.getElem?_eq_none (by rw [Array.size_setIfInBounds]; omega)]
        exact .none
    · rw [Array.getElem?_setIfInBounds_ne hi, Array.getElem?_setIfInBounds_ne hi]
      exact h.gens i fun q => hi q.symm
theorem nolim {h h' : Heap} (l : h.NoLimit) (k : ∀ o, h.get? cStatics = some o → h'.get? cStatics = some o) : h'.NoLimit := by
  obtain ⟨mc, hns, hnn⟩ := l
  exact ⟨mc, hns.at' fun o e => k o e, hnn⟩
section
variable {X : Cx} {e : Expr} {yp pos : Pos} {k : Nat} {t : TGS}
theorem yf_loop {Z : Nat → Prop} {S ad a2 : Addr} {g g2 : Nat} {B : Prop × (Heap → Prop)} {R : GenEnd} {A : Around} {fs : List Frame} {xc : Shared} {H1 : Hp} {ys : List V} {cont : List V → Hp → Prop}
    (hh : (A.over (yfC a2) fs).handled = none) (hroom : (A.over (yfC a2) fs).depth < recursionLimit) (hsp : splitAtGen fs = none) (hgd : fs.any Frame.guarded = false)
    (hB : ¬ B.1) (hgg : g ≠ g2) (hSa : S ≠ a2) (hca : cStatics ≠ a2) (hcS : cStatics ≠ S)
    (hbo : ∀ h, BG X.stack H1 xc S h → B.2 h ∧ ∃ o, h.get? ad = some o ∧ GenO g o)
    (hba : ∀ h h', BG X.stack H1 xc S h → (∀ c oc, c ≠ a2 → h.get? c = some oc → h'.get? c = some oc) → BG X.stack H1 xc S h')
    (hend : ∀ n s₀ s' s₁, g < s₁.gens.size → RG Z X.prog X.w X.stack H1 xc S a2 g2 ys cont n s' (.ok (.ret .none)) s₁ → ∀ h', (∀ b o, s₁.heap.get? b = some o → h'.get? b = some o) →
      Seg (mp X.prog X.w) A R (YG Z S ad g B) n s₀ (yfC a2) (.pure (.done (.ret .none))) fs { s₁.setGen g2 .finished with heap := h' }) :
    ∀ (n : Nat) (s₀ s : Shared) (gs : GenState), g < s.gens.size → s.gens[g2]? = some gs →
      gs.Goes (mp X.prog X.w) (A.over (yfC a2) fs).in1 (RG Z X.prog X.w X.stack H1 xc S a2 g2 ys cont) (YG Z S a2 g2 (True, BG X.stack H1 xc S)) n (.send .none) (s.setGen g2 .running) →
      (∃ o2, s.heap.get? a2 = some o2 ∧ GenO g2 o2) → s.heap.NoLimit → Seg (mp X.prog X.w) A R (YG Z S ad g B) n s₀ (yfC a2) ((mp X.prog X.w).den (yfC a2)) fs s := by
  have up : ∀ {s₁ : Shared} {x : GenState} {h : Heap} {j : Nat}, j + 1 ≤ ({ s₁.setGen g2 x with heap := h } : Shared).gens.size → j < s₁.gens.size := fun {s₁ x h j} q => by
    have q : j + 1 ≤ (s₁.setGen g2 x).gens.size := q
    rw [setGen_size] at q
    exact q
  intro n
  induction n with
  | zero =>
    intro s₀ s gs hgs hg2 hgo ⟨o2, ho2, go2⟩ hl
    refine seg_yfturn (g := g2) (wpAny_gsz (n := g + 1) hgs (wake_S (F := fun s₁ => RG Z X.prog X.w X.stack H1 xc S a2 g2 ys cont 0 s (.ok (.ret .none)) s₁) hh hl hroom ho2 go2 hg2 hgo (fun r s₁ hr => ?_) (fun v s₁ gs' hb hv hz1 => ?_) fun s₁ hF e h' hx hk hz1 => ⟨hx, hend 0 s₀ s s₁ (up hz1) hF h' hk⟩))
    · obtain ⟨rfl, q⟩ := hr
      exact ⟨rfl, rfl, q⟩
    · obtain ⟨Hs, xg, sh, _, hno, hbare, hlim, hbg, ⟨o1, ho1, go1⟩, ⟨acc, c, eS, hcnt⟩, rv, wake⟩ := hv
      exact (wake _ (Wk.push eS hSa hbare) { s₁ with heap := xg.heap.update S (Obj.mapSeq (·.push v)) } ⟨rfl, sh.drawn, sh.toks, sh.os, sh.size, sh.gens⟩ ⟨Nat.le_refl _, fun _ _ => rfl⟩).elim
  | succ m ih =>
    intro s₀ s gs hgs hg2 hgo ⟨o2, ho2, go2⟩ hl
    have hg2l : g2 < s.gens.size := (Array.getElem?_eq_some_iff.mp hg2).1
    refine seg_yfturn (g := g2) (wpAny_gsz (n := g + 1) hgs (wpAny_gsz (n := g2 + 1) hg2l (wake_S (F := fun s₁ => RG Z X.prog X.w X.stack H1 xc S a2 g2 ys cont (m + 1) s (.ok (.ret .none)) s₁) hh hl hroom ho2 go2 hg2 hgo (fun r s₁ hr => ?_) (fun v s₁ gs' hb hv hz2 hz1 => ?_)
      fun s₁ hF e h' hx hk hz2 hz1 => ⟨hx, hend (m + 1) s₀ s s₁ (up hz1) hF h' hk⟩)))
    · obtain ⟨rfl, q⟩ := hr
      exact ⟨rfl, rfl, q⟩
    · obtain ⟨Hs, xg, sh, _, hno, hbare, hlim, hbg, ⟨o1, ho1, go1⟩, ⟨acc, c, eS, hcnt⟩, rv, wake⟩ := hv
      have hH : ∀ i, ¬ Hs i := hno trivial
      have z1 : g < s₁.gens.size := up (h := s₁.heap) hz1
      have z2 : g2 < s₁.gens.size := up (h := s₁.heap) hz2
      refine ⟨v, rfl, o1, ?_, go1, fun h2 e2 k2 => ?_⟩
      · show s₁.heap.get? a2 = _
        rw [sh.heap]; exact ho1
      have k2' : ∀ c oc, c ≠ a2 → xg.heap.get? c = some oc → h2.get? c = some oc := fun c oc hc e => (k2.1 c hc).trans (by
        show s₁.heap.get? c = _
        rw [sh.heap]; exact e)
      obtain ⟨hB2, hself⟩ := hbo _ (hba _ _ hbg k2')
      have l2 : h2.NoLimit := nolim hlim fun o e => k2' _ o hca e
      refine seg_yield hsp rfl hgd ?_
      refine ⟨fun i => i = g2, { xg with heap := h2 }, ⟨rfl, sh.drawn, sh.toks, sh.os, ?_, fun i hi => ?_⟩, hgg, fun hb => (hB hb).elim, hbare, l2, hB2, hself, ⟨acc, c, k2' S _ hSa eS, hcnt⟩, rv, fun x' wk s' hs' bk => ?_⟩
      · show (s₁.setGen g2 gs').gens.size = xg.gens.size
        rw [setGen_size]; exact sh.size
      · show OR (Z i) (xg.gens[i]?) ((s₁.gens.setIfInBounds g2 gs')[i]?)
        rw [Array.getElem?_setIfInBounds_ne (Ne.symm hi)]
        exact sh.gens i (hH i)
      have keep3 : ∀ b o, b ≠ S → h2.get? b = some o → x'.heap.get? b = some o := fun b o hb e => wk.keep b o hb (fun q => (hB q).elim) e
      have ea : s'.heap.get? a2 = some { o1 with slots := #[some (.int 1 0)] } := by
        rw [hs'.heap]; exact keep3 a2 _ (Ne.symm hSa) e2
      obtain ⟨gc, ⟨nm, qn, gd'⟩, gsl⟩ := go1
      show Seg _ A R _ m s' (yfC a2) (T0 (Builtin.Generator.sleptOver (.ref a2) false >>= fun _ => _)) fs s'
      refine seg_T0 (slept (m := 1) ea gc gd' (.inr ⟨0, rfl⟩) fun h3 e3 k3 => ?_)
      have e3 : h3.get? a2 = some { o1 with slots := #[some (.int 0 0)] } := e3
      have k4 : ∀ b o, b ≠ S → b ≠ a2 → xg.heap.get? b = some o → h3.get? b = some o := fun b o hb hb2 e => (k3.1 b hb2).trans (by
        rw [hs'.heap]; exact keep3 b o hb (k2' b o hb2 e))
      have go3 : GenO g2 { o1 with slots := #[some (.int 0 0)] } := ⟨gc, ⟨nm, qn, gd'⟩, .inr ⟨0, rfl⟩⟩
      show Seg _ A R _ m s' (yfC a2) (T0 (pure Value.none >>= fun v => again (.builtin "proto.yield_from" ⟨[.ref a2, .bool false, v], []⟩))) fs { s' with heap := h3 }
      refine seg_T0 (wpAny_pure ?_)
      show Seg _ A R _ m s' (yfC a2) (.pure (.again (yfC a2))) fs { s' with heap := h3 }
      refine seg_again (plainId_quiet plain_yf _) (ih s' { s' with heap := h3 } gs' ?_ ?_ ?_ ⟨_, e3, go3⟩ ?_)
      · refine Nat.lt_of_lt_of_le z1 (Nat.le_trans (Nat.le_of_eq ?_) bk.size)
        show _ = (s₁.setGen g2 gs').gens.size
        rw [setGen_size]
      · exact (bk.same g2 rfl).trans (setGen_at z2)
      · refine wake (({ x' with heap := h3 } : Shared).setGen g2 .running) ⟨wk.os, allBare_setGen (s := x') wk.bare rfl, fun b o hb hb2 e => k4 b o hb (hb2 trivial) e, fun acc' c' e => ?_, fun o e go => ⟨_, e3, go3⟩⟩ (({ s' with heap := h3 } : Shared).setGen g2 .running) (SH.fill hs' h3) ⟨?_, fun i q => (hH i q).elim⟩
        · obtain ⟨c2, e⟩ := wk.own acc' c' (k2' S _ hSa e)
          exact ⟨c2, (k3.1 S hSa).trans (by rw [hs'.heap]; exact e)⟩
        · refine Nat.le_trans (Nat.le_trans (Nat.le_of_eq ?_) bk.size) (Nat.le_of_eq ?_)
          · show _ = (s₁.setGen g2 gs').gens.size
            rw [setGen_size]
          · rw [setGen_size]
      · refine nolim l2 fun o e => (k3.1 _ hca).trans (by rw [hs'.heap]; exact keep3 _ o hcS e)
end
end Sf
end
section
set_option maxHeartbeats 1000000
namespace Sf
open PySem L2 PyProof.Rows GenW
theorem yfC_w (a : Addr) : (yfC a).weight = 0 := by
  first | rfl | decide | simp [yfC, Code.weight]
theorem yfC_u (a : Addr) : (yfC a).cUnits ≤ 8 := by
  first | exact (by decide : (1 : Nat) ≤ 8) | exact (by decide : (0 : Nat) ≤ 8) | (simp [yfC, Code.cUnits])
section
variable {X : Cx} {e : Expr} {yp pos : Pos} {k : Nat} {t : TGS}
theorem gb_yf (he : PGS X k True e t) (hc : X.calm = true) (hr : Room (k + 1) X.A) (hi : interactive X.env = false := by rfl) : GB False X (.Expr (.YieldFrom e yp) pos) (tGFromG t) := by
  refine ⟨fun Z A S ad g B R n ys ip x σ H D c fs K J gd lv sd hn kk hV ht s₀ s hs hg => ?_⟩
  rw [exec_Expr X.env _ pos hi rfl]
  show Seg _ _ _ _ n s₀ c (.at pos fun _ => ((eval e X.env >>= fun v => (standAt yp >>= fun _ => yieldFrom X.env v)) >>= fun x => dropValue (.YieldFrom e yp) pos x).wrap K J gd lv) fs s
  refine seg_at ?_
  obtain ⟨o, go, acc, cc, r, I⟩ := hV
  refine segw_bind2 ?_
  rw [sd.over]
  refine wpAny_gsz (n := g + 1) hg (wpAny_mono (wpAny_up hs (he.run ys.length _ x σ H _ I ht)) (fun v s1 ⟨y, hy, H1, xc, hxc, Ic, hM⟩ hg1 => ?_) fun e s' ⟨y, _, q⟩ => (sd.nx e y q).elim)
  obtain ⟨a2, g2, c2, rfl, ha1, ha2, hG, hgs, hxg, hos, hb, hlim, hkp, wake⟩ := hM
  have hne : ¬ ((Value.type "generator" == Value.type "coroutine") = true) := by decide
  have hG1 : s1.heap.IsGen a2 g2 := by rw [hy.heap]; exact hG
  refine seg_at ?_
  show Seg _ _ _ _ n s₀ c ((yieldFrom X.env (.ref a2)).wrap (fun b => (dropValue (.YieldFrom e yp) pos b).wrap K J gd lv) J gd lv) fs s1
  unfold yieldFrom
  refine seg_bind_wrap (wpAny_typeOf hG1.typeIs ?_)
  rw [if_neg hne]
  refine seg_bind_wrap (wpAny_holding ?_)
  rw [sd.over]
  refine wpAny_gsz (n := g + 1) hg1 (wpAny_mono (wpAny_up hy (wpAny_pyIter_gen (Q := fun u y' => u = .ref a2 ∧ y' = y) (E := fun _ _ => False) hG ⟨rfl, rfl⟩)) (fun u s2 ⟨y', hy2, eu, ey⟩ hg2 => ?_) fun e s' ⟨y, _, q⟩ => q.elim)
  subst eu ey
  refine seg_call fun p => ?_
  -- the pins of the call
  obtain ⟨pS, pS0, pSL, pSf, _⟩ := Ic.pin (S, lstObj acc cc) (List.mem_append_right _ List.mem_cons_self)
  obtain ⟨pO, pO0, pOL, pOf, pOc⟩ := Ic.pin (ad, o) (List.mem_append_right _ (List.mem_cons_of_mem _ List.mem_cons_self))
  have hSO : S ≠ ad := fun q => by
    subst q
    rw [pS] at pO
    cases pO
    exact go.noList
  have ltS : S < xc.heap.objs.size := Heap.lt_size pS
  have ltO : ad < xc.heap.objs.size := Heap.lt_size pO
  have nstk : ∀ {b : Addr}, b ≠ X.env.locals → b ∉ X.fs → b ∉ frs X.stack := fun {b} h1 h2 hm => by
    rcases List.mem_cons.mp (Ic.stkSub b hm) with z | z
    · exact h1 z
    · exact h2 z
  have hSa : S ≠ a2 := Nat.ne_of_lt (Nat.lt_of_lt_of_le ltS ha1)
  have limc : xc.heap.NoLimit := Ic.nolimit
  have ltC : cStatics < xc.heap.objs.size := let ⟨_, hn, _⟩ := limc; hn.lt
  have hca : cStatics ≠ a2 := Nat.ne_of_lt (Nat.lt_of_lt_of_le ltC ha1)
  have nbS : X.base.get? S = none := by
    rcases sd.aS.ex with q | q
    · cases e : X.base.get? S with
      | none => rfl
      | some ob => exact absurd q (Ic.ok.noex S ob e)
    · cases e : X.base.get? S with
      | none => rfl
      | some ob =>
        have h1 := Heap.lt_size e
        exact absurd (Nat.lt_of_lt_of_le h1 (Nat.le_trans Ic.ok.bsz q)) (Nat.lt_irrefl _)
  have hcS : cStatics ≠ S := fun q => by
    obtain ⟨_, ⟨ob, es, ep, e, _⟩, _⟩ := Ic.ok.mod.nolimit
    rw [q, nbS] at e
    cases e
  have hgg : g ≠ g2 := by
    have h1 : x.gens.size = s.gens.size := hs.size.symm
    omega
  have oc : A.over c fs = X.A := sd.over
  have rm : ∀ {kf : Result → Sem PySem.Fin} {gg : Bool} {ll : List Value}, Room k (A.over (yfC a2) (.ret kf none gg ll c p [] :: fs)).in1 := fun {kf gg ll} => by
    obtain ⟨o1, o2, o3, o4⟩ := over_bi (A := A) (c := c) (c' := yfC a2) (fs := fs) (k := kf) (g := gg) (l := ll) (p := p) (kp := []) (yfC_w a2)
    have h1 := hr.dp
    have h2 := hr.un
    have h3 := yfC_u a2
    refine ⟨by show (A.over (yfC a2) (.ret kf none gg ll c p [] :: fs)).handled = _; rw [o1, oc]; exact hr.hd, ?_, ?_⟩
    · show (A.over (yfC a2) (.ret kf none gg ll c p [] :: fs)).depth + 3 * k + 5 < _
      rw [o2, oc]; omega
    · show (A.over (yfC a2) (.ret kf none gg ll c p [] :: fs)).units + 1 + 16 * k + 200 < _
      rw [o4, oc]; omega
  have oc2 : A.over c fs = X.A := sd.over
  have fr : ∀ {kf : Result → Sem PySem.Fin} {gg : Bool} {ll : List Value}, (A.over (yfC a2) (.ret kf none gg ll c p [] :: fs)).in1.frames = some X.stack := fun {kf gg ll} => by
    obtain ⟨o1, o2, o3, o4⟩ := over_bi (A := A) (c := c) (c' := yfC a2) (fs := fs) (k := kf) (g := gg) (l := ll) (p := p) (kp := []) (yfC_w a2)
    show (A.over (yfC a2) (.ret kf none gg ll c p [] :: fs)).frames = _
    rw [o3, oc]; exact Ic.ok.frames
  have hgl : g2 < s2.gens.size := by
    rw [hy2.size]
    exact (Array.getElem?_eq_some_iff.mp hgs).1
  have eqn : sizeLine - ys.length = n := by omega
  have uS : SAt X.base X.stack H1 xc y'.heap.objs.size S := ⟨.inl ltS, pS0, nstk pSL pSf, nbS⟩
  refine yf_loop (cont := fun out H1 => D.nx (ys ++ out) σ H1) (xc := xc) (H1 := H1) (ys := ys) (g2 := g2) ?_ ?_ ?_ ?_ (fun q => sd.mkd q) hgg hSa hca hcS (fun h bg => ⟨?_, o, bg ad o pO pO0 (nstk pOL pOf) (Ne.symm hSO), go⟩) (fun h h' bg kp b ob e1 e2 e3 e4 => kp b ob (fun q => ?_) (bg b ob e1 e2 e3 e4)) (fun n' s₀' s' s₁ hgz hR h' hk => ?_) n s₀ s2 (.fresh c2) hg2 ?_ ⟨rfl, ?_⟩ ?_ ?_
  · exact (over_bi (yfC_w a2)).1.trans (by rw [oc]; exact hr.hd)
  · rw [(over_bi (yfC_w a2)).2.1, oc]; exact hr.depth
  · show (splitAtGen fs).map _ = none
    rw [sd.split]; rfl
  · show (gd false || fs.any Frame.guarded) = false
    rw [sd.gd, sd.guard]; rfl
  · exact sd.hk _ σ H1 xc h Ic bg
  · rw [q] at e1
    exact absurd (Heap.lt_size e1) (Nat.not_lt.mpr ha1)
  · obtain ⟨_, ye, hye, H', out, acc', c', eos, eb, un, hok, hS0, eS, vs, hlen, hq, hself, hle⟩ := hR
    refine seg_leaf (.ok (.ret .none)) ?_
    have SRe : SR Z { ye.setGen g2 .finished with heap := h' } { s₁.setGen g2 .finished with heap := h' } := (hye.setGen g2 .finished).heapTo h'
    have hk' : ∀ b o, ye.heap.get? b = some o → h'.get? b = some o := fun b o e => hk b o (by rw [hye.heap]; exact e)
    have I0 : Inv X ((ad, o) :: ip) σ H1 xc := Ic.pins_of fun p hp => Ic.pin p (List.mem_append_right _ (List.mem_cons_of_mem _ hp))
    have I2 : Inv X ((ad, o) :: ip) σ H' { ye.setGen g2 .finished with heap := h' } :=
      I0.call' (ch := [S]) eos (un.trans (Un.kept hk')) (hok.kept hk') (allBare_setGen eb rfl) fun b hb => by
        rw [List.mem_singleton.mp hb]
        refine ⟨sd.aS.ex, sd.aS.loc, sd.aS.cel, fun p hp => ?_⟩
        rcases List.mem_append.mp hp with z | z
        · exact (sd.pn p (List.mem_append_left _ z)).1
        · rcases List.mem_cons.mp z with z | z
          · rw [z]; exact Ne.symm hSO
          · exact (sd.pn p (List.mem_append_right _ z)).1
    have I3 : Inv X ((S, lstObj acc' c') :: (ad, o) :: ip) σ H' { ye.setGen g2 .finished with heap := h' } := I2.pins_of fun p hp => by
      rcases List.mem_cons.mp hp with z | z
      · rw [z]; exact ⟨hk' _ _ eS, hS0, pSL, pSf, fun v q => by cases q⟩
      · exact I2.pin p (List.mem_append_right _ z)
    exact kk n' (ys ++ out) _ .next hlen ⟨σ, H', ⟨o, go, acc', c', vs, I3⟩, hq⟩ s₀' _ SRe (by
      show g < (s₁.setGen g2 .finished).gens.size
      rw [setGen_size]; exact hgz)
  · exact gs_fresh hy2 hgs
  · rw [← eqn]
    exact wake Z True _ S ys (y'.setGen g2 .running) (fun _ => trivial) rfl rm fr uS (fun b ob _ e => e) ⟨acc, cc, hkp S _ pS, r⟩ hos (allBare_setGen hb rfl) (by omega) (s2.setGen g2 .running) (s2.setGen g2 .running) (hy2.setGen g2 .running) (by rw [setGen_size]; exact hgl)
  · obtain ⟨ob, nm, qn, h1, h2, h3, h4⟩ := hG
    exact ⟨ob, by rw [hy2.heap]; exact h1, h2, ⟨nm, qn, h3⟩, .inl h4⟩
  · rw [hy2.heap]; exact hlim
end
end Sf
end
section
set_option maxHeartbeats 1000000
namespace Sf
open PySem L2 PyProof.Rows GenW
section
variable {P : Program} {w : World} {A : Around} {R : Result → Shared → Prop} {E : Value → Shared → Prop} {s : Shared}
theorem code_bi {id : String} {args : Args} {b : Builtin} (hy : id ≠ yfId) (hb : entryFor table id = some b)
    (h : wpAny (mp P w) (A.under (.builtin id args)) (b args) (fun fin s' => match fin with | .done f => R (.ok f) s' | .again c' => c'.quiet = true ∧ codeAny (mp P w) A c' R s') (fun e s' => R (.error e) s') s) :
    codeAny (mp P w) A (.builtin id args) R s := by
  refine codeAny_of_tree ?_
  rw [den_bi hy hb]
  exact h
theorem callType_S {T newId initId : String} {Bi : Builtin} {args : List Value} {Q Q₁ : Value → Shared → Prop} (ft : TypeCalled T newId initId) (hyi : initId ≠ yfId)
    (hct : checkTypeCall T ⟨args, []⟩ = pure ()) (entryI : entryFor table initId = some Bi)
    (hnew : codeAny (mp P w) A.in1 (.call (.builtin newId) ⟨.type T :: args, []⟩) (wants Q₁ E) s)
    (hnext : ∀ obj s₁, Q₁ obj s₁ → s₁.TypeIs obj T ∧ argsOk initId ⟨obj :: args, []⟩ ∧
      wpAny (mp P w) A.in1.in1 (Bi ⟨obj :: args, []⟩)
        (fun fin s' => match fin with | .done f => wants (fun r s₂ => r = .none ∧ Q obj s₂) E (.ok f) s' | .again c' => c'.quiet = true ∧ codeAny (mp P w) A.in1 c' (wants (fun r s₂ => r = .none ∧ Q obj s₂) E) s')
        (fun e s' => wants (fun r s₂ => r = .none ∧ Q obj s₂) E (.error e) s') s₁) :
    wpAny (mp P w) A (call (.type T) args) Q E s := by
  obtain ⟨c, tl, hmro⟩ := ft.mro
  have hmade := ft.made
  have hsub := ft.sub
  refine wpAny_call (codeAny_of_tree ?_)
  show wpAny _ _ (callAny (.type T) _) _ _ _
  refine wpAny_pure ⟨Code.quiet_builtin _ (by decide +kernel), code_bi (by decide) F.entry_type_call ?_⟩
  rw [Around.under_plain (weight_type_call_type T args []) rfl]
  have h1 := ft.notType
  have h2 := ft.canCreate
  repeat (any_goals (first | assumption | wp_step))
  refine codeAny_mono hnew fun r s₁ hr => ?_
  match r, hr with
  | .error e, hr => exact hr
  | .ok .next, hr => exact hr.elim
  | .ok .brk, hr => exact hr.elim
  | .ok .cont, hr => exact hr.elim
  | .ok (.ret obj), hr =>
    obtain ⟨hT, hok, hin⟩ := hnext _ _ hr
    have q1 := ft.init.lookup
    have q2 := ft.init.bind obj
    repeat (any_goals (first | assumption | wp_step))
    refine codeAny_mono (R := wants (fun r s₂ => r = .none ∧ Q obj s₂) E) (codeAny_of_tree ?_) fun r₂ s₂ hr₂ => ?_
    · show wpAny (mp P w) A.in1.in1 (checkBuiltinCall initId ⟨obj :: args, []⟩ >>= fun _ => again (.builtin initId ⟨obj :: args, []⟩)) _ _ s₁
      refine wpAny_bind (ft.init.check _ _ _ _ _ _ _ _ hT hok (wpAny_pure ⟨plainId_quiet ft.init.plain _, code_bi hyi entryI ?_⟩))
      rw [Around.under_plainId ft.init.plain _]
      exact hin
    · match r₂, hr₂ with
      | .error e, hr₂ => exact hr₂
      | .ok .next, hr₂ => exact hr₂.elim
      | .ok .brk, hr₂ => exact hr₂.elim
      | .ok .cont, hr₂ => exact hr₂.elim
      | .ok (.ret r), hr₂ =>
        obtain ⟨rfl, hq⟩ := hr₂
        repeat (any_goals (first | assumption | wp_step))
end
end Sf
end
section
set_option maxHeartbeats 1000000
namespace Sf
open PySem L2 PyProof.Rows GenW
section
variable {P : Program} {w : World} {A : Around} {E : Value → Shared → Prop} {s : Shared}
theorem next_S {a : Addr} {g n : Nat} {o : Obj} {gs : GenState} {R : GenEnd} {Y : Protocol} {Q : Option Value → Shared → Prop} {F : Shared → Prop} (hh : A.handled = none) (hl : s.heap.NoLimit) (hroom : A.depth < recursionLimit) (ho : s.heap.get? a = some o) (go : GenO g o)
    (hgs : s.gens[g]? = some gs) (hgo : gs.Goes (mp P w) A.in1 R Y n (.send .none) (s.setGen g .running)) (hR : ∀ r s₁, R n (s.setGen g .running) r s₁ → r = .ok (.ret .none) ∧ F s₁)
    (hY : ∀ v s₁ gs', gs'.bare = true → Y (n - 1) (s.setGen g .running) v s₁ (fun r' s'' => match n with | 0 => False | m + 1 => gs'.Goes (mp P w) A.in1 R Y m r' s'') → Q (some v) (s₁.setGen g gs'))
    (hN : ∀ s₁, F s₁ → ∀ h', (∀ b o, s₁.heap.get? b = some o → h'.get? b = some o) → Q none { s₁.setGen g .finished with heap := h' }) : wpAny (mp P w) A (pyNext (.ref a)) Q E s := by
  unfold pyNext
  refine wpAny_bind (wpAny_attempt (wake_S hh hl hroom ho go hgs hgo hR (fun v s₁ gs' hb hv => wpAny_pure (hY v s₁ gs' hb hv)) fun s₁ hF e h' hx hk => ?_))
  obtain ⟨b, ob, vs, rfl, hob, hcb, hdb, h5⟩ := hx
  refine wpAny_bind (wpAny_isInstance (T := "StopIteration") (b := true) ⟨ob, hob, hcb⟩ isSubtype_stop ?_)
  exact wpAny_pure (hN s₁ hF h' hk)
theorem SH.run {Z Hs : Nat → Prop} {g : Nat} {gs' : GenState} {x s : Shared} (h : SH Z Hs x s) (hp : Heap) : SH Z Hs ({ x.setGen g .running with heap := hp } : Shared) ((({ s.setGen g gs' with heap := hp } : Shared)).setGen g .running) := by
  refine ⟨rfl, h.drawn, h.toks, h.os, ?_, fun i hi => ?_⟩
  · rw [setGen_size]
    show (s.setGen g gs').gens.size = (x.setGen g .running).gens.size
    rw [setGen_size, setGen_size]; exact h.size
  · show OR (Z i) (x.gens.setIfInBounds g .running)[i]? ((s.gens.setIfInBounds g gs').setIfInBounds g .running)[i]?
    by_cases hgi : g = i
    · subst hgi
      by_cases hl : g < x.gens.size
      · have hl' : g < s.gens.size := by rw [h.size]; exact hl
        rw [Array.getElem?_setIfInBounds_self_of_lt hl, Array.getElem?_setIfInBounds_self_of_lt (by rw [Array.size_setIfInBounds]; exact hl')]
        exact .some .running
      · have hl' : ¬ g < s.gens.size := by rw [h.size]; exact hl
        rw [Array.getElem?_eq_none (by rw [Array.size_setIfInBounds]; omega), Array.getElem?_eq_none (by rw [Array.size_setIfInBounds, Array.size_setIfInBounds]; omega)]
        exact .none
    · rw [Array.getElem?_setIfInBounds_ne hgi, Array.getElem?_setIfInBounds_ne hgi, Array.getElem?_setIfInBounds_ne hgi]
      exact h.gens i hi
theorem drain_S {Z : Nat → Prop} {outer : List Env} {H : Hp} {sc : Shared} {S a : Addr} {g : Nat} {Q : List V → Hp → Prop} {R : Result → Shared → Prop} {res : Value} (hh : A.handled = none) (hd : A.depth < recursionLimit) (hSa : S ≠ a) (hcS : cStatics ≠ S)
    (hend : ∀ n s' s₁, RG Z P w outer H sc S a g [] Q n s' (.ok (.ret .none)) s₁ → ∀ h', (∀ b o, s₁.heap.get? b = some o → h'.get? b = some o) → R (.ok (.ret res)) { s₁.setGen g .finished with heap := h' }) :
    ∀ (n : Nat) (s : Shared) (gs : GenState), s.gens[g]? = some gs → gs.Goes (mp P w) A.in1.in1 (RG Z P w outer H sc S a g [] Q) (YG Z S a g (False, BG outer H sc S)) n (.send .none) (s.setGen g .running) →
      (∃ o, s.heap.get? a = some o ∧ GenO g o) → s.heap.NoLimit → codeAny (mp P w) A (.builtin "list.extend.loop" ⟨[.ref S, .ref a, res], []⟩) R s := by
  intro n
  induction n with
  | zero =>
    intro s gs hgs hgo ⟨o, ho, go⟩ hl
    refine code_bi (by decide) F.entry_extend_loop ?_
    rw [Around.under_plainId F.plain_extend_loop _]
    show wpAny _ A.in1 (pyNext (.ref a) >>= _) _ _ s
    refine wpAny_bind (next_S (F := fun s₁ => RG Z P w outer H sc S a g [] Q 0 s (.ok (.ret .none)) s₁) hh hl hd ho go hgs hgo (fun r s₁ hr => ?_) (fun v s₁ gs' hb hv => ?_) fun s₁ hF h' hk => ?_)
    · obtain ⟨rfl, q⟩ := hr
      exact ⟨rfl, rfl, q⟩
    · obtain ⟨Hs, xg, sh, _, hno, hbare, hlim, hbg, ⟨o1, ho1, go1⟩, ⟨acc, c, eS, hcnt⟩, rv, wake⟩ := hv
      exact (wake _ (Wk.push eS hSa hbare) { s₁ with heap := xg.heap.update S (Obj.mapSeq (·.push v)) } ⟨rfl, sh.drawn, sh.toks, sh.os, sh.size, sh.gens⟩ ⟨Nat.le_refl _, fun _ _ => rfl⟩).elim
    · exact wpAny_pure (hend 0 s s₁ hF h' hk)
  | succ m ih =>
    intro s gs hgs hgo ⟨o, ho, go⟩ hl
    have hgl : g < s.gens.size := (Array.getElem?_eq_some_iff.mp hgs).1
    refine code_bi (by decide) F.entry_extend_loop ?_
    rw [Around.under_plainId F.plain_extend_loop _]
    show wpAny _ A.in1 (pyNext (.ref a) >>= _) _ _ s
    refine wpAny_bind (wpAny_gsz (n := g + 1) hgl (next_S (F := fun s₁ => RG Z P w outer H sc S a g [] Q (m + 1) s (.ok (.ret .none)) s₁) hh hl hd ho go hgs hgo (fun r s₁ hr => ?_) (fun v s₁ gs' hb hv hz => ?_) fun s₁ hF h' hk _ => ?_))
    · obtain ⟨rfl, q⟩ := hr
      exact ⟨rfl, rfl, q⟩
    · obtain ⟨Hs, xg, sh, hnG, _, hbare, hlim, hbg, ⟨o1, ho1, go1⟩, ⟨acc, c, eS, hcnt⟩, rv, wake⟩ := hv
      have hz1 : g < s₁.gens.size := by
        have q : g + 1 ≤ (s₁.setGen g gs').gens.size := hz
        rw [setGen_size] at q; exact q
      have hS1 : (s₁.setGen g gs').heap.get? S = some (lstObj acc c) := by
        show s₁.heap.get? S = _
        rw [sh.heap]; exact eS
      show wpAny _ A.in1 (updateSeq S (·.push v) >>= _) _ _ _
      refine wpAny_bind (wpAny_updateSeq hS1 rfl (wpAny_pure ⟨plainId_quiet F.plain_extend_loop _, ?_⟩) (by omega) (by show (acc.push v).size ≤ sizeLine + 1; rw [Array.size_push]; omega))
      have keep3 : ∀ b o, b ≠ S → xg.heap.get? b = some o → (s₁.heap.update S (Obj.mapSeq (·.push v))).get? b = some o := fun b o hbS e => (Heap.get?_update_other _ _ (Ne.symm hbS)).trans (by rw [sh.heap]; exact e)
      refine ih { s₁.setGen g gs' with heap := s₁.heap.update S (Obj.mapSeq (·.push v)) } gs' (setGen_at hz1) ?_ ⟨o1, keep3 a o1 (Ne.symm hSa) ho1, go1⟩ (nolim hlim fun o e => keep3 _ o hcS e)
      have eh : s₁.heap.update S (Obj.mapSeq (·.push v)) = xg.heap.update S (Obj.mapSeq (·.push v)) := by rw [sh.heap]
      rw [eh]
      refine wake { xg.setGen g .running with heap := xg.heap.update S (Obj.mapSeq (·.push v)) } (Wk.push eS hSa (allBare_setGen hbare rfl)) _ (sh.run _) ⟨?_, fun i hi => ?_⟩
      · rw [setGen_size]
        show _ ≤ (s₁.setGen g gs').gens.size
        rw [setGen_size]; exact Nat.le_refl _
      · have hne : g ≠ i := fun q => hnG (by rw [q]; exact hi)
        show ((s₁.gens.setIfInBounds g gs').setIfInBounds g .running)[i]? = s₁.gens[i]?
        rw [Array.getElem?_setIfInBounds_ne hne, Array.getElem?_setIfInBounds_ne hne]
    · exact wpAny_pure (hend (m + 1) s s₁ hF h' hk)
end
end Sf
end
section
set_option maxHeartbeats 1000000
namespace Sf
open PySem L2 PyProof.Rows GenW
section
variable {X : Cx} {k : Nat} {mk : Prop} {f : Addr} {fd : FuncData} {ps : List Str} {sp : SpGS} {dvs : List V} {ds : List Value} {nm : Str} {p pos pos' : Pos} {e : Expr} {es : List Expr} {t : TA}
def tCallGS (sp : SpGS) (dvs : List V) (t : TA) : TGS := fun pl σ H cont => t σ H fun vs H1 => sp pl (vs ++ dvs) H1 cont
theorem pgs_call (F : GFnS X.prog X.w X.K X.mg X.base k mk f fd ps sp) (hr : Room k X.A) (hg : Gl X nm) (hm : X.mg nm = some (.ref f)) (hk : PySem.W.keepIn X.K (.ref f) = true) (hb : Binds X.K fd ps ds) (hd : Vals dvs ds)
    (ha : PA X (e :: es) t) (hdb : (nm == ("__debug__" : Str)) = false := by decide) (he : starEach (e :: es) X.env = (false, eval e X.env) :: starEach es X.env := by rfl) (hpl : (backTo pos' (starEach es X.env)).any (·.1) = false := by rfl) :
    PGS X k mk (.Call (.Name nm p) (e :: es) [] pos') (tCallGS sp dvs t) := by
  refine ⟨fun pl pins x σ H Q I h => ?_⟩
  refine wpAny_Call_Name_kw (ld_glob I hg hm ?_ hdb)
  refine PySem.W.callWith_K (h₀ := X.base) I.ok.mod.kin hk (wpAny_gsz (n := x.gens.size) (Nat.le_refl _) (wpAny_mono (ha.run pos' pins x σ H _ I h) (fun us s1 ⟨vs, H1, I1, r, q⟩ hz => ⟨I1.kIn, ?_⟩) fun _ _ e _ => e)) he hpl
  have r2 : Vals (vs ++ dvs) (us ++ ds) := r.append hd
  have hl : (us ++ ds).length = ps.length := by rw [← r2.length]; exact F.len _ _ _ _ q
  refine wpAny_call (codeAny_mono (F.run pl X.A X.stack s1 H1 ⟨us, []⟩ (us ++ ds) (vs ++ dvs) Q hr I1.env0 (hb s1 us I1.kIn hl) r2 q) fun r s' z => ?_)
  match r, z with
  | .error _, z => exact False.elim z
  | .ok .next, z => exact False.elim z
  | .ok .brk, z => exact False.elim z
  | .ok .cont, z => exact False.elim z
  | .ok (.ret u), z => exact ⟨H1, s1, hz, I1, z⟩
end
theorem init_pre {P : Program} {w : World} {A : Around} {s : Shared} {S a : Addr} {g : Nat} {Q : PySem.Fin → Shared → Prop} {E : Value → Shared → Prop} (hg : s.heap.IsGen a g) (hS : s.heap.get? S = some { cls := .type "list", data := .seq #[] }) (hSa : S ≠ a)
    (h : ∀ h', (∀ b o, b ≠ S → s.heap.get? b = some o → h'.get? b = some o) → (∃ c, h'.get? S = some (lstObj #[] c)) → Q (.again (.builtin "list.extend.loop" ⟨[.ref S, .ref a, .none], []⟩)) { s with heap := h' }) :
    wpAny (model P w) A (do let old ← Builtin.List.listItems (.ref S); Builtin.List.listUpdate (.ref S) (fun _ => #[]); letGo old.toList.reverse; Builtin.List.listExtendWith (.ref S) (.ref a) .none) Q E s := by
  have other : ∀ (hp : Heap) (f : Obj → Obj) b o, b ≠ S → hp.get? b = some o → (hp.update S f).get? b = some o := fun hp f b o hb e => (Heap.get?_update_other _ _ (Ne.symm hb)).trans e
  have h2 := Heap.get?_update_self (Obj.mapSeq (fun _ => (#[] : Array Value))) hS rfl
  have h3 := Heap.get?_update_self (Obj.mapSeq (·.push Value.none)) h2 rfl
  have h4 := Heap.get?_update_self (Obj.mapSeq (·.pop)) h3 rfl
  have hg2 : (s.heap.update S (Obj.mapSeq fun _ => #[])).IsGen a g := by
    obtain ⟨o, n1, n2, ho, r⟩ := hg
    exact ⟨o, n1, n2, other _ _ a o (Ne.symm hSa) ho, r⟩
  have ty : ({ s with heap := s.heap.update S (Obj.mapSeq fun _ => #[]) } : Shared).TypeIs (.ref a) "generator" := Heap.IsGen.typeIs hg2
  refine wpAny_bind ?_
  unfold Builtin.List.listItems
  refine wpAny_bind (wpAny_seqItems hS rfl (wpAny_pure ?_))
  show wpAny _ A (updateSeq S (fun _ => #[]) >>= fun _ => letGo (#[] : Array Value).toList.reverse >>= fun _ => Builtin.List.listExtendWith (.ref S) (.ref a) .none) _ _ _
  refine wpAny_bind (wpAny_updateSeq hS rfl (wpAny_bind (wpAny_letGo ?_)))
  unfold Builtin.List.listExtendWith
  refine wpAny_bind (wpAny_typeOf ty ?_)
  have d1 : Builtin.List.listSameRef (.ref S) (.ref a) = false := by simp [Builtin.List.listSameRef, hSa]
  have d2 : (Value.type "generator" == Value.type "list") = false := by decide
  have d3 : (Value.type "generator" == Value.type "tuple") = false := by decide
  simp only [d1, d2, d3, Bool.or_false, Bool.false_eq_true, if_false]
  refine wpAny_bind (wpAny_pyIter_gen hg2 (wpAny_bind (wpAny_holding ?_)))
  unfold Builtin.List.listLengthHint
  refine wpAny_bind (wpAny_specialOf ty F.gen_no_len ?_)
  show wpAny _ A (specialOf (Value.ref a) (Str.ofString "__length_hint__") >>= _) _ _ _
  refine wpAny_bind (wpAny_specialOf ty F.gen_no_hint (wpAny_pure ?_))
  show wpAny _ A (rule "list.extend.makes-room" >>= fun _ => (updateSeq S (·.push .none) >>= fun _ => updateSeq S (·.pop)) >>= fun _ => again (.builtin "list.extend.loop" ⟨[.ref S, .ref a, .none], []⟩)) _ _ _
  refine wpAny_bind (wpAny_rule (wpAny_bind (wpAny_bind (wpAny_updateSeq h2 rfl (wpAny_updateSeq (hz := by seq_fits) h3 rfl (wpAny_pure ?_))))))
  exact h _ (fun b o hb e => other _ _ b o hb (other _ _ b o hb (other _ _ b o hb e))) ⟨_, h4⟩
end Sf
end
section
set_option maxHeartbeats 1000000
namespace Sf
open PySem L2 PyProof.Rows GenW
section
variable {X : Cx} {k : Nat} {mk : Prop}
theorem listG_S {Z : Nat → Prop} {pins : List (Addr × Obj)} {σ : L2.St} {H1 : Hp} {xc y s : Shared} {u : Value} {cont : List V → Hp → Prop} {Q : VK} (I : Inv X pins σ H1 xc) (hM : Made X.prog X.w X.base k mk 0 X.stack H1 xc cont u y) (hs : SR Z y s) (hr : Room (k + 3) X.A)
    (hQ : ∀ out H2 p, cont out H2 → H2 p = none → Q (.ref p) (upd H2 p (.lst out))) : wpAny (mp X.prog X.w) X.A (call (.type "list") [u]) (lo Z (EP X pins σ Q)) (lo Z X.xe) s := by
  obtain ⟨a, g, c, rfl, ha1, ha2, hG, hgs, hxg, hos, hb, hlim, hkp, wake⟩ := hM
  have sz : xc.heap.objs.size ≤ y.heap.objs.size := Nat.le_trans ha1 (Nat.le_of_lt ha2)
  have szl : X.env.locals < xc.heap.objs.size := let ⟨_, hn, _⟩ := I.loc; hn.lt
  have sz0 : X.s_0.heap.objs.size ≤ xc.heap.objs.size := Nat.le_trans I.ok.above (Nat.le_of_lt szl)
  have szb : X.base.objs.size ≤ y.heap.objs.size := Nat.le_trans I.ok.bsz (Nat.le_trans sz0 sz)
  have ltC : cStatics < y.heap.objs.size := let ⟨_, hn, _⟩ := hlim; hn.lt
  have hSa : y.heap.objs.size ≠ a := Nat.ne_of_gt ha2
  have hex : ExOk X pins [y.heap.objs.size] := fun b hb => by
    rw [List.mem_singleton.mp hb]
    refine ⟨.inr (Nat.le_trans sz0 sz), Nat.ne_of_gt (Nat.lt_of_lt_of_le szl sz), fun z cc e => ?_, fun q hq => ?_⟩
    · obtain ⟨v, h⟩ := I.cell z cc e
      obtain ⟨o, ho, _⟩ := h
      exact Nat.ne_of_lt (Nat.lt_of_lt_of_le (Heap.lt_size ho) sz)
    · exact Nat.ne_of_lt (Nat.lt_of_lt_of_le (Heap.lt_size (I.pin q hq).1) sz)
  have nstk : y.heap.objs.size ∉ frs X.stack := fun hm => by
    rcases List.mem_cons.mp (I.stkSub _ hm) with z | z
    · exact absurd (Nat.lt_of_lt_of_le szl sz) (by rw [z]; exact Nat.lt_irrefl _)
    · exact I.nofs sz z
  refine callType_S (Q₁ := fun obj s₁ => obj = .ref y.heap.objs.size ∧ SR Z { y with heap := y.heap.push { cls := .type "list", data := .seq #[] } } s₁) F.called_list (by decide) (F.typeCall_list_1 _) F.entry_list_init ?_ fun obj s₁ h₁ => ?_
  · refine codeAny_mono (codeAny_up hs (code_list_new (Q₁ := fun obj x => obj = .ref y.heap.objs.size ∧ x = { y with heap := y.heap.push { cls := .type "list", data := .seq #[] } }) (E := fun _ _ => False) (.ref a) ⟨rfl, rfl⟩)) fun r s' ⟨x, hx, q⟩ => ?_
    match r, q with
    | .error _, q => exact q.elim
    | .ok .next, q => exact q.elim
    | .ok .brk, q => exact q.elim
    | .ok .cont, q => exact q.elim
    | .ok (.ret v), ⟨q1, q2⟩ => subst q2; exact ⟨q1, hx⟩
  · obtain ⟨rfl, h₁⟩ := h₁
    have hS : (y.heap.push { cls := .type "list", data := .seq #[] }).get? y.heap.objs.size = some { cls := .type "list", data := .seq #[] } := Heap.get?_push_size _ rfl
    have hpush : ∀ b o, y.heap.get? b = some o → (y.heap.push { cls := .type "list", data := .seq #[] }).get? b = some o := fun b o e => Heap.get?_push_of_some _ e
    refine ⟨⟨_, by rw [h₁.heap]; exact hS, rfl⟩, F.args_list_init_2 _ _, ?_⟩
    refine wpAny_mono (wpAny_up h₁ (init_pre (Q := fun fin x => fin = .again (.builtin "list.extend.loop" ⟨[.ref y.heap.objs.size, .ref a, .none], []⟩) ∧ ∃ h', x = { y with heap := h' } ∧ (∀ b o, y.heap.get? b = some o → h'.get? b = some o) ∧ ∃ cc, h'.get? y.heap.objs.size = some (lstObj #[] cc)) (E := fun _ _ => False)
      (hG.keeps hpush) hS hSa fun h' k1 k2 => ⟨rfl, h', rfl, fun b o e => k1 b o (Nat.ne_of_lt (Heap.lt_size e)) (hpush b o e), k2⟩)) (fun fin s2 ⟨x2, h2, ef, h', ex, kp, hS2⟩ => ?_) fun _ _ ⟨_, _, q⟩ => q.elim
    subst ef ex
    refine ⟨plainId_quiet F.plain_extend_loop _, ?_⟩
    have gl : g < y.gens.size := (Array.getElem?_eq_some_iff.mp hgs).1
    refine drain_S (A := X.A.in1) (Z := Z) (outer := X.stack) (H := H1) (sc := xc) (g := g) (Q := cont) hr.hd (by have := hr.dp; show X.A.depth < _; omega) hSa (Nat.ne_of_lt ltC) (fun n s' s₁' hR h'' hk => ?_) sizeLine s2 (.fresh c) (gs_fresh h2 hgs) ⟨rfl, ?_⟩ ?_ ?_
    · obtain ⟨_, ye, hye, H', out, acc', c', eos, eb, un, hok, hS0, eS, vs, hlen, hq, _, _⟩ := hR
      have kk : ∀ b o, ye.heap.get? b = some o → h''.get? b = some o := fun b o e => hk b o (by rw [hye.heap]; exact e)
      have vs : Vals out acc'.toList := vs
      have hlen : n + out.length = sizeLine := hlen
      exact ⟨rfl, { ye.setGen g .finished with heap := h'' }, (hye.setGen g .finished).heapTo h'', .ref y.heap.objs.size, _, I.drained (ex := [y.heap.objs.size]) sz (by omega) (kk _ _ eS) vs hex eos (allBare_setGen eb rfl) (un.trans (Un.kept kk)) (hok.kept kk) hS0, rfl, hQ out H' _ hq hS0⟩
    · refine wake Z False X.A.in1.in1.in1 y.heap.objs.size [] (({ y with heap := h' } : Shared).setGen g .running) (fun q => q.elim) rfl ⟨hr.hd, ?_, ?_⟩ I.ok.frames ⟨.inr (Nat.le_refl _), I.hok.fresh sz, nstk, ?_⟩ (fun b o _ e => kp b o e) ?_ hos (allBare_setGen (s := { y with heap := h' }) hb rfl) (Nat.zero_le _) (s2.setGen g .running) (s2.setGen g .running) (h2.setGen g .running) ?_
      · have := hr.dp
        show X.A.depth + 3 * k + 5 < _
        omega
      · have := hr.un
        show X.A.units + 1 + 1 + 1 + 16 * k + 200 < _
        omega
      · cases e : X.base.get? y.heap.objs.size with
        | none => rfl
        | some ob => exact absurd (Nat.lt_of_lt_of_le (Heap.lt_size e) szb) (Nat.lt_irrefl _)
      · obtain ⟨cc, e⟩ := hS2
        exact ⟨#[], cc, e, .nil⟩
      · rw [setGen_size, h2.size]; exact gl
    · obtain ⟨ob, nm, qn, e1, e2, e3, e4⟩ := hG
      exact ⟨ob, by rw [h2.heap]; exact kp _ _ e1, e2, ⟨nm, qn, e3⟩, .inl e4⟩
    · rw [h2.heap]; exact hlim.keeps kp
def tListGS (t : TGS) : TE := fun σ H Q => t 0 σ H fun out H2 => ∀ p, H2 p = none → Q (.ref p) (upd H2 p (.lst out))
theorem qe_listG {e : Expr} {t : TGS} {nm : Str} {p pos : Pos} (h : PGS X k mk e t) (hr : Room (k + 3) X.A) (hg : Gl X nm) (hm : X.mg nm = none) (hv : bootBuiltins nm = some (.type "list")) (hn : nm ≠ "__name__" := by decide) (hdb : (nm == ("__debug__" : Str)) = false := by decide)
    (he : starEach [e] X.env = (false, eval e X.env) :: starEach [] X.env := by rfl) : QE X (.Call (.Name nm p) [e] [] pos) (tListGS t) := by
  refine ⟨fun S pins x σ H Q I q s hs => wpAny_Call_Name_kw (wpAny_mono (nm_blt I hs hg hm hv hn hdb) (fun v s1 ⟨ev, h1⟩ => ?_) fun _ _ e => e)⟩
  subst ev
  refine PyProof.Rows.callWith_type1 ?_ he rfl
  rw [he]
  show wpAny _ _ (spliced ((false, eval e X.env) :: backTo pos (starEach [] X.env))) _ _ s1
  refine Calls.spliced_cons (wpAny_mono (wpAny_up h1 (h.run 0 pins x σ H _ I q)) (fun u s2 ⟨y, h2, H1, xc, hz, Ic, hM⟩ => Calls.spliced_nil ?_) fun _ _ e => e)
  exact listG_S Ic hM h2 hr fun out H2 p q hp => q p hp
end
end Sf
end
section
set_option maxHeartbeats 1000000
noncomputable section
namespace Sf
open PySem PySem.W PySem.Calls PyProof.Rows
theorem sq_refl {s : Shared} (h : s.gens = #[]) : SQ s s := ⟨rfl, rfl, rfl, rfl, rfl, fun i => by rw [h]; exact .none⟩
theorem sr_refl {Z : Nat → Prop} {s : Shared} (h : s.gens = #[]) : SR Z s s := ⟨rfl, rfl, rfl, rfl, rfl, fun i => by rw [h]; exact .none⟩
theorem thread_S {P : Program} {w : World} {t : Sem Fin} {s : Shared} {R : Result → Shared → Prop} (hz : s.asleep) (hg : s.gens = #[])
    (h : wpAny (mp P w) callerA t (fun fin s' => ∃ f, fin = .done f ∧ (R (.ok f) s' ∧ NM s') ∧ leftWithCleanup s'.gens = false) (fun e s' => (R (.error e) s' ∧ NM s') ∧ leftWithCleanup s'.gens = false) s) :
    ∃ n r xE sE, schedN (denote table) P w n (.single s ⟨t, .builtin "claim.caller" {}, default, []⟩) = .halted (outcomeOf r) xE ∧ xE.heap = sE.heap ∧ xE.os = sE.os ∧ xE.heap.life = s.heap.life ∧ R r sE := by
  obtain ⟨n, r, sE, hn, hR, hm⟩ := (wp_iff_halts (M := mp P w) (c := .builtin "claim.caller" {}) t (fun r s' => R r s' ∧ NM s') default s).mp
    (wp_of_wpAny_done (R := fun r s' => (R r s' ∧ NM s') ∧ leftWithCleanup s'.gens = false) caller_in h default)
  obtain ⟨N, xE, h1, h2, h3⟩ := sim n s t _ default [] s t [] r sE (sq_refl hg) (.same rfl t) .nil hn hm hz
  exact ⟨N, r, xE, sE, h1, h2.heap.symm, h2.os.symm, h3, hR⟩
def Fine (c : ClaimW) (s : Shared) (args : List WData) (vs : List Value) (s₁ : Shared) (kept : Heap → Prop) (r : Result) (s' : Shared) : Prop := c.Ends s args vs s₁ r s' ∧ s'.os = s.os ∧ AllBare s'.gens ∧ kept s'.heap ∧ NM s'
theorem callFrom_S {c : ClaimW} {tree : List Value → Sem Fin} {w : World} {s : Shared} {free : Addr → Prop} {gens : Prop} {kept : Heap → Prop} (hz : s.asleep) (hgens : s.gens = #[])
    (spec : ∀ args, c.pre args = true → WData.layableAll args = true → ∀ ord : List DictEntry → List DictEntry, (∀ l, (ord l).Perm l) → ∃ vs s₁, layAllW c.records (classAt s.heap) w.params ord args s = some (vs, s₁) ∧
      wpAny (mp c.prog w) callerA (tree vs) (fun fin s' => ∃ f, fin = .done f ∧ Fine c s args vs s₁ kept (.ok f) s') (fun e s' => Fine c s args vs s₁ kept (.error e) s') s₁) :
    c.CallFrom (fun vs => ⟨tree vs, .builtin "claim.caller" {}, default, []⟩) w free gens kept s := by
  intro args hpre hlay ord hord
  obtain ⟨vs, s₁, hl, h⟩ := spec args hpre hlay ord hord
  obtain ⟨g1, _, _, lf1⟩ := layAllW_rest _ _ _ hl
  obtain ⟨n, r, xE, sE, hs, eh, eo, el, q1, q2, q3⟩ := thread_S (P := c.prog) (w := w) (t := tree vs) (s := s₁) (R := fun r s' => c.Ends s args vs s₁ r s' ∧ s'.os = s.os ∧ kept s'.heap) (Shared.asleep_of_life lf1 hz) (g1.trans hgens)
    (wpAny_mono h (fun fin s' ⟨f, ef, a1, a2, a3, a4, a5⟩ => ⟨f, ef, ⟨⟨a1, a2, a4⟩, a5⟩, leftWithCleanup_false_of_bare a3⟩) fun e s' ⟨a1, a2, a3, a4, a5⟩ => ⟨⟨⟨a1, a2, a4⟩, a5⟩, leftWithCleanup_false_of_bare a3⟩)
  have q1 := q1.congr eh
  refine ⟨vs, s₁, hl, n, _, xE, hs, ?_, (fun _ i x e => by rw [hgens] at e; simp at e), (by rw [eh]; exact q3), congrArg Life.seen (el.trans lf1), Shared.rest_eq (eo.trans q2)⟩
  rcases q1 with ⟨v, rfl, d1, d2, d3, d4, d5⟩ | ⟨e, ob, cls, rfl, d1, d2, d3, d4, d5⟩
  · exact .inl ⟨v, rfl, d1, d2, d3, fun b o y _ => d4 b o y, d5⟩
  · exact .inr ⟨e, ob, cls, rfl, d1, d2, d3, d4, fun b o y _ => d5 b o y⟩
abbrev WalkS (q : Program) (loose : List Str) (XP : (Str → Option Value) → Heap → Prop) (YP : World → Heap → Prop) (r : RowW) (d : DefRec) (kwd : List (Str × Expr)) : Prop :=
  ∀ (w : World) (s₀ s₁ : Shared) (mg mb : Str → Option Value), Ground q loose r.records XP w s₀ mg mb s₁.heap → YP w s₁.heap → ∀ (a : Addr) (o : Obj) (pm cd doc dV kV : Value), s₁.heap.get? a = some o →
    o.data = .func { docDef d.name d.params d.body d.scope pm cd doc with defaults := dV, kwdefaults := kV } → s₁.heap.CodeRec cd d.name → Dflts mg s₁.heap d.params kwd dV kV → mg d.name = some (.ref a) → s₁.gens = #[] →
    ∀ (args : List WData) (vals : List Value) (as : List Addr), r.claim.pre args = true → WData.layableAll args = true → ReadsAllW r.records (classAt s₀.heap) s₁.heap vals args as → WellAll w.params s₁.heap vals args → (∀ a ∈ as, (a == sysModules) = false) →
      wpAny (mp r.prog w) callerA (PySem.call (.ref a) vals) (fun v s' => GoodWG r.claim (classAt s₀.heap) (ExcName.means s₀.heap) args s₁ (.ok (.ret v)) s' ∧ NM s')
        (fun e s' => GoodWG r.claim (classAt s₀.heap) (ExcName.means s₀.heap) args s₁ (.error e) s' ∧ NM s') s₁
end Sf
end
end
section
set_option maxHeartbeats 1000000
noncomputable section
namespace Sf
open PySem PySem.W PySem.Calls PyProof.Rows HandSHeadRun
theorem head_S {r : OpenRow} {q : Program} {H : Hook} {ob : SharedT → H.α} {M : Nat} {loose : List PySem.Str} {d : DefRec} {kwd : List (PySem.Str × PySem.Expr)} (ho : ∀ s : SharedT, ob s = H.obs s.abs)
    (e : opening r.prog = plainProg r.prog.main.scope.names) (f : ∀ s, fenceModules? r.prog s = some s) (run : ∀ w, RunEq r q H ob M loose w)
    (hdef : defOf q r.name = some (d, kwd)) (hp : r.prog.theDef r.name = some (d.params, d.body, d.scope)) (hk : kwWritten? d.params.kwonlyargs d.params.kw_defaults = some kwd)
    (hwr : (!r.writes || r.records.isEmpty) = true) (k1 : r.wellSaid = true) (ok : (chainsOk q && opensWell r.prog && (frees r.toRowW && r.within.isEmpty)) = true) (hb : r.prog.bare) (hw : r.toRowW.promised)
    (call : WalkS q loose (XL q []) H.says r.toRowW d kwd) : r.Holds := by
  have left : LeftO r.prog q loose (fun s => xlAt q [] s && recOk r.toRowW.records s) H.obs H.val (M + 600) true :=
    left_one (M := M) e (Nat.ble_eq_true_of_le (by omega)) f (Nat.ble_eq_true_of_le (by omega)) fun w os => by
      have eo : ob = fun s => H.obs s.abs := funext ho
      have z := run w os
      rw [eo] at z
      simp only [endQ_eq, seenQ_eq]
      exact z
  simp only [Bool.and_eq_true] at ok
  obtain ⟨⟨hch, hop⟩, hfr, hwi⟩ := ok
  obtain ⟨hsame, hu, ha, hap, hm⟩ := frees_parts hfr
  have both : ∀ s : Shared, (xlAt q [] s && recOk r.toRowW.records s) = true → XL q [] (s.heap.nsMap mainGlobals) s.heap ∧ RecFacts r.records s.heap := fun s z => ⟨xl_of s (Bool.and_eq_true_iff.mp z).1, recFacts_of (Bool.and_eq_true_iff.mp z).2⟩
  refine ⟨k1, hw, ⟨hb, hop, by show r.toRowW.makers.map _ = []; rw [hm]; rfl⟩, hw.witness, fun w => ⟨(left.behind (fun s z => (both s z).1) hch w).1, fun s' hs' => ?_⟩⟩
  obtain ⟨s₀, hf, hg0, s, hT, hz, hgn, hg, G, y⟩ := (left.behind (XP := fun mg h => XL q [] mg h ∧ RecFacts r.records h) both hch w).2 s' hs'
  have T := hT
  have G0 : Ground q loose [] (XL q []) w s (s.heap.nsMap mainGlobals) (s.heap.nsMap builtinsNs) s.heap := ⟨G.T, G.B, G.D, G.TE, G.TD, G.W, G.X.1, G.cls, G.has, G.apart, G.once, G.K⟩
  have rf := G.X.2
  have gn : s.gens = #[] := Array.eq_empty_of_size_eq_zero (beq_iff_eq.mp hgn)
  refine ⟨s₀, hf, hg0, s, hT, fun n hn => ?_, rf.1, rf.2.1, callFrom_S (c := r.claim) hz gn fun args hpre hlay ord hord => ?_⟩
  · obtain rfl : n = r.name := by split at hn <;> simp_all
    exact pinned_of_view hg G0 hdef hp hk
  have GR : Ground q loose r.records (XL q []) w s _ _ s.heap := rf.ground G0
  obtain ⟨⟨vs, s₁⟩, hl⟩ := Option.isSome_iff_exists.mp (layAllW_isSome (P := w.params) (ord := ord) GR.has args r.args s (pre_splitW hpre).1)
  have kp := layAllW_keeps _ _ _ hl
  obtain ⟨g1, _, z1, _⟩ := layAllW_rest _ _ _ hl
  obtain ⟨as, hrd, hin, hold⟩ := reads_layAllW hord _ _ _ hl hlay s₁.heap (fun _ _ e => e)
  have L : Laid r.records w s s₁ args vs as := ⟨⟨ord, hord, hl⟩, hrd, hin, hold, kp, g1.trans gn, z1⟩
  have G1 := GR.keeps XL.keeps kp
  obtain ⟨a, o, pm, cd, doc, dV, kV, h1, h2, h3, h4, h5⟩ := G1.fn hdef
  have hname := defOf_name hdef
  have hx := call w s s₁ _ _ G1 (H.keeps _ _ _ (H.of w s y) kp) a o pm cd doc dV kV h2 h3 h4 h5 (hname ▸ h1) L.gens args vs as hpre hlay L.reads L.well (L.low GR.low)
  have fine : ∀ (rr : Result) (s' : Shared), GoodWG r.claim (classAt s.heap) (ExcName.means s.heap) args s₁ rr s' ∧ NM s' → Fine r.claim s args vs s₁ (fun h' => r.writes = true → namesKept r.claim.prog r.keeps s.heap h' ∧ ∀ x ∈ r.claim.records, ∀ a, classAt s.heap x.1 = some a → recordClass h' a x.1 (x.2.map (·.1)) = true) rr s' := fun rr s' ⟨g, nm⟩ =>
    have z := g.laid (c := r.claim) hsame (List.isEmpty_iff.mp hwi) (ident_freeW hu ha hap) L
    ⟨z.1, z.2.1, z.2.2, fun q => ⟨namesKept_of T hg r.keeps kp g.2.1.old, noTable hwr q⟩, nm⟩
  refine ⟨vs, s₁, hl, ?_⟩
  refine wpAny_bind (wpAny_nsGet G1.T.g ?_)
  rw [h1]
  exact wpAny_bind (wpAny_mono hx (fun v s' g => wpAny_pure ⟨_, rfl, fine _ _ g⟩) fun e s' g => fine _ _ g)
end Sf
end
end
section
set_option maxHeartbeats 1000000
noncomputable section
namespace Sf
open PySem PySem.W L2 PyProof.Rows
theorem bare_sr {S : Nat → Prop} {x s : Shared} (h : SR S x s) (hb : AllBare x.gens) : AllBare s.gens := fun y hy => by
  obtain ⟨i, hi, e⟩ := Array.mem_iff_getElem.mp hy
  have q := h.gens i
  rw [show s.gens[i]? = some y by rw [Array.getElem?_eq_getElem hi, e]] at q
  generalize hz : x.gens[i]? = z at q
  cases q with
  | some q =>
    have b := hb _ (Array.mem_of_getElem? hz)
    cases q <;> exact b
section
variable {P : Program} {w : World} {K : PySem.W.Frag} {a : Addr} {vs : List Value} {ns : List Int} {s : Shared}
theorem script_at (KX : K.In s.heap) (ha : s.heap.get? a = some { cls := .type "list", data := .seq vs.toArray }) (hi : IntsAre vs ns) (hl : ns.length ≤ sizeLine) :
    ∃ H : Hp, Only H ∧ SqL K H a (ns.map V.int) ∧ HOk P w H s.heap ∧ ∀ b u, H b = some u → b = a ∧ K.lookup a = none := by
  have rv := vals_ints hi
  cases hk : K.lookup a with
  | some o =>
    have e := KX a o hk
    rw [ha] at e
    cases e
    refine ⟨fun _ => none, fun _ => .inl rfl, .inr ⟨_, vs.toArray, _, hk, rfl, rfl, rfl, ?_, by simpa using rv⟩, fun b u z => (nomatch z), fun b u z => (nomatch z)⟩
    rw [List.size_toArray, hi.length]; exact hl
  | none =>
    let H : Hp := fun b => if b = a then some (.frz { cls := .type "list", data := .seq vs.toArray } (.lst (ns.map V.int))) else none
    have at_ : H a = some (.frz { cls := .type "list", data := .seq vs.toArray } (.lst (ns.map V.int))) := if_pos rfl
    have off : ∀ {b}, b ≠ a → H b = none := fun hb => if_neg hb
    have one : ∀ b u, H b = some u → b = a ∧ u = .frz { cls := .type "list", data := .seq vs.toArray } (.lst (ns.map V.int)) := fun b u z => by
      by_cases hb : b = a
      · subst hb; rw [at_] at z; cases z; exact ⟨rfl, rfl⟩
      · rw [off hb] at z; cases z
    refine ⟨H, fun b => ?_, .inl (.inr ⟨_, at_⟩), fun b u z => ?_, fun b u z => ⟨(one b u z).1, rfl⟩⟩
    · by_cases hb : b = a
      · subst hb; exact .inr ⟨_, _, at_⟩
      · exact .inl (off hb)
    · obtain ⟨rfl, rfl⟩ := one b u z
      exact ⟨ha, by rw [List.length_map]; exact hl, vs, _, rv, ha⟩
theorem env_at {mg mb : Str → Option Value} {H : Hp} (KX : K.In s.heap) (hns : s.heap.Ns mainGlobals mg) (hb : s.heap.Ns builtinsNs mb) (hbb : ∀ x : Str, x ≠ "__name__" → mb x = bootBuiltins x) (hlim : s.heap.NoLimit) (hg : s.gens = #[])
    (ha : s.heap.get? a = some { cls := .type "list", data := .seq vs.toArray }) (hok : HOk P w H s.heap) (hA : ∀ b u, H b = some u → b = a ∧ K.lookup a = none) : Env0 P w K mg (hidT s.heap H) callerA [] s H := by
  have free : ∀ {b o es ep}, s.heap.get? b = some o → o.data = .dict es ep → H b = none := fun {b o es ep} e d => by
    cases q : H b with
    | none => rfl
    | some u =>
      rw [(hA b u q).1, ha] at e
      cases e
      cases (show Data.seq vs.toArray _ = Data.dict es ep from d)
  have nsK : ∀ {b : Addr} {m : Str → Option Value}, s.heap.Ns b m → (hidT s.heap H).Ns b m := fun {b m} ⟨o, es, ep, e, d, r⟩ => ⟨o, es, ep, hidT_get e (free e d), d, r⟩
  refine ⟨rfl, ⟨fun b o e => hidT_get (KX b o e) ?_, nsK hns, ⟨mb, nsK hb, hbb⟩, hlim.imp fun mc z => ⟨nsK z.1, z.2⟩⟩, fun b o e => of_hidT e, Nat.le_of_eq (hidT_size _ _), trivial, fun b hb => (nomatch (show b ∈ ([] : List Addr) from hb)), hok, .of_eq hg⟩
  cases q : H b with
  | none => rfl
  | some u =>
    obtain ⟨h1, h2⟩ := hA b u q
    rw [h1, h2] at e; cases e
theorem law_S {mg mb : Str → Option Value} {CX : CXT} {k : Nat} {fa : Addr} {fd : FuncData} {x : Str} {sp : Sp} (KX : K.In s.heap) (hns : s.heap.Ns mainGlobals mg) (hb : s.heap.Ns builtinsNs mb) (hbb : ∀ x : Str, x ≠ "__name__" → mb x = bootBuiltins x) (hlim : s.heap.NoLimit) (hg : s.gens = #[])
    (ha : s.heap.get? a = some { cls := .type "list", data := .seq vs.toArray }) (hi : IntsAre vs ns) (hl : ns.length ≤ sizeLine) (hr : Room k callerA)
    (F : ∀ base : Heap, K.In base → base.Ns mainGlobals mg → FnS P w K mg base CX k fa fd [x] sp) (hbind : ∀ (s : Shared) (u : Value), BindsTo s fd ⟨[u], []⟩ [(x, u)])
    (hsp : ∀ H : Hp, Only H → SqL K H a (ns.map V.int) → sp [.ref a] H (fun v _ => v = .bl true) fun _ _ _ => False) (hCX : ∀ H e s', CX [] H s (fun _ _ _ => False) e s' → False) :
    codeAny (mp P w) callerA (.call (.ref fa) ⟨[.ref a], []⟩) (fun r s' => r = .ok (.ret (.bool true)) ∧ OldK s.heap s'.heap ∧ s'.os = s.os ∧ AllBare s'.gens ∧ NM s') s := by
  obtain ⟨H, hO, hS, hok, hA⟩ := script_at (P := P) (w := w) KX ha hi hl
  have e0 := env_at (P := P) (w := w) KX hns hb hbb hlim hg ha hok hA
  refine codeAny_mono ((F _ e0.mod.kin e0.mod.glob).run N0 callerA [] s H ⟨[.ref a], []⟩ [.ref a] [.ref a] _ _ hr e0 (hbind s (.ref a)) (.cons rfl .nil) (hsp H hO hS) s (sr_refl hg)) fun r s' ⟨y, hy, h⟩ => ?_
  match r, h with
  | .error e, h => exact (hCX H e y h).elim
  | .ok .next, h => exact False.elim h
  | .ok .brk, h => exact False.elim h
  | .ok .cont, h => exact False.elim h
  | .ok (.ret u), ⟨v, H', os, bare, un, hok', r', q⟩ =>
    have q : v = .bl true := q
    subst q
    obtain rfl : u = Value.bool true := r'
    refine ⟨rfl, OldK.of_keep fun b o e => ?_, hy.os.trans os, bare_sr hy bare, hy.nm⟩
    rw [hy.heap]
    rcases hO b with z | ⟨ob, xs, z⟩
    · exact un.keep b o e z (by intro z; exact absurd (show b ∈ ([] : List Addr) from z) (by simp)) (by simp)
    · have e1 := (hok b _ z).1
      have e2 := (hok' b _ (un.frzs b ob _ z)).1
      rw [e] at e1; cases e1
      exact e2
end
theorem walk_S {l : PySem.W.OpenLaw} {n k : Nat} {q : Program} {loose : List Str} {XP : (Str → Option Value) → Heap → Prop} {YP : World → Heap → Prop} {d : DefRec} {K : Params → PySem.W.Frag} {CX : World → CXT} {sp : World → Sp} {x : Str}
    (hn : l.most = some n) (hn2 : n ≤ sizeLine) (hdf : d.params.defaults = []) (hr : Room k callerA) (hY : ∀ (w : World) (h : Heap), YP w h → (K w.params).In h)
    (F : ∀ (w : World) (mg : Str → Option Value) (fa : Addr) (h : Heap), (K w.params).In h → h.Ns mainGlobals mg → mg d.name = some (.ref fa) →
      ∃ fd : FuncData, (∀ (s : Shared) (u : Value), BindsTo s fd ⟨[u], []⟩ [(x, u)]) ∧ ∀ base : Heap, (K w.params).In base → base.Ns mainGlobals mg → FnS l.prog w (K w.params) mg base (CX w) k fa fd [x] (sp w))
    (hsp : ∀ (w : World) (H : Hp) (a : Addr) (ns : List Int), ns.length ≤ n → Only H → SqL (K w.params) H a (ns.map V.int) → sp w [.ref a] H (fun v _ => v = .bl true) fun _ _ _ => False)
    (hCX : ∀ (w : World) (H : Hp) (s : Shared) (e : Value) (s' : Shared), CX w [] H s (fun _ _ _ => False) e s' → False) : WalkS q loose XP YP l.row.toRowW d [] := by
  intro w s₀ s₁ mg mb G Y fa o pm cd doc dV kV ho hd hcd hD hmg hg args vals as hpre hlay hrd hwl hlo
  have KX := hY w _ Y
  obtain ⟨a, vs, ns, rfl, rfl, hobj, hints, hlen⟩ := Att.script_of hn hpre hwl
  obtain ⟨fd, hbd, hF⟩ := F w mg fa _ KX G.T.g hmg
  refine wpAny_call (codeAny_mono (law_S KX G.T.g G.T.b G.T.builtins G.T.nolimit hg hobj hints (Nat.le_trans hlen hn2) hr hF hbd (fun H hO hS => hsp w H a ns hlen hO hS) fun H e s' => hCX w H s₁ e s') fun r s' ⟨er, h2, h3, h4, h5⟩ => ?_)
  subst er
  exact ⟨⟨.inl ⟨.bool true, .bool true, [], rfl, fun _ => rfl, .bool true, Att.post_true l _, fun _ => ⟨List.Pairwise.nil, fun _ hm => (nomatch hm)⟩⟩, h2, h3, h4⟩, h5⟩
end Sf
end
end
section
namespace Lw
open PySem L2
def spLaw (K : PySem.W.Frag) : Sp := fun vs H Q _ => ∃ (a : Addr) (ns : List Int), vs = [.ref a] ∧ SqL K H a (ns.map V.int) ∧ ns.length ≤ 63 ∧ ∀ H', Q (.bl true) H'
abbrev AMk : Prop := ∀ {l : PySem.W.OpenLaw}
    {w : World}
    {K : PySem.W.Frag}
    {h : Heap}
    {mg : Str → Option Value}
    {fa C f_bag f_pull f_of f_plan f_like f_check f_init f_cnt f_eds f_edg f_cst f_lea p_st f_st f_graph f_aft f_pths f_lpc f_cl f_pr f_pw f_cc f_wt f_wk f_cs f_fb f_isp f_law : Addr}
    {re_st : List Value}
    {t8 t24 t40 t2000 : Tok}
    {od_bag an_bag od_pull an_pull od_of an_of od_plan an_plan od_like an_like od_check an_check od_init an_init od_cnt an_cnt od_eds an_eds od_edg an_edg od_cst an_cst od_lea an_lea od_st an_st od_graph an_graph od_aft an_aft od_pths an_pths od_lpc an_lpc od_cl an_cl od_pr an_pr od_pw an_pw od_cc an_cc od_wt an_wt od_wk an_wk od_cs an_cs od_fb an_fb od_isp an_isp od_law an_law : Option Addr}
    {sl_bag sl_pull sl_of sl_plan sl_like sl_check sl_init sl_cnt sl_eds sl_edg sl_cst sl_lea sl_st sl_graph sl_aft sl_pths sl_lpc sl_cl sl_pr sl_pw sl_cc sl_wt sl_wk sl_cs sl_fb sl_isp sl_law : Array (Option Value)}
    {oc_bag kV_bag dc_bag pm_bag cd_bag ct_bag oc_pull kV_pull dc_pull pm_pull cd_pull ct_pull oc_of kV_of dc_of pm_of cd_of ct_of oc_plan kV_plan dc_plan pm_plan cd_plan ct_plan oc_like kV_like dc_like pm_like cd_like ct_like oc_check kV_check dc_check pm_check cd_check ct_check oc_init kV_init dc_init pm_init cd_init ct_init oc_cnt kV_cnt dc_cnt pm_cnt cd_cnt ct_cnt oc_eds kV_eds dc_eds pm_eds cd_eds ct_eds oc_edg kV_edg dc_edg pm_edg cd_edg ct_edg oc_cst kV_cst dc_cst pm_cst cd_cst ct_cst oc_lea kV_lea dc_lea pm_lea cd_lea ct_lea oc_st kV_st dc_st pm_st cd_st ct_st oc_graph kV_graph dc_graph pm_graph cd_graph ct_graph oc_aft kV_aft dc_aft pm_aft cd_aft ct_aft oc_pths kV_pths dc_pths pm_pths cd_pths ct_pths oc_lpc kV_lpc dc_lpc pm_lpc cd_lpc ct_lpc oc_cl kV_cl dc_cl pm_cl cd_cl ct_cl oc_pr kV_pr dc_pr pm_pr cd_pr ct_pr oc_pw kV_pw dc_pw pm_pw cd_pw ct_pw oc_cc kV_cc dc_cc pm_cc cd_cc ct_cc oc_wt kV_wt dc_wt pm_wt cd_wt ct_wt oc_wk kV_wk dc_wk pm_wk cd_wk ct_wk oc_cs kV_cs dc_cs pm_cs cd_cs ct_cs oc_fb kV_fb dc_fb pm_fb cd_fb ct_fb oc_isp kV_isp dc_isp pm_isp cd_isp ct_isp oc_law kV_law dc_law pm_law cd_law ct_law : Value}
    (X : K.In h)
    (G : h.Ns mainGlobals mg)
    (hfa : mg "law" = some (.ref fa))
    (z_len : PySem.W.nsIn K mainGlobals "len" = some none)
    (z_list : PySem.W.nsIn K mainGlobals "list" = some none)
    (z_tuple : PySem.W.nsIn K mainGlobals "tuple" = some none)
    (z_bool : PySem.W.nsIn K mainGlobals "bool" = some none)
    (z_int : PySem.W.nsIn K mainGlobals "int" = some none)
    (z_str : PySem.W.nsIn K mainGlobals "str" = some none)
    (z_isinstance : PySem.W.nsIn K mainGlobals "isinstance" = some none)
    (z_all : PySem.W.nsIn K mainGlobals "all" = some none)
    (z_zip : PySem.W.nsIn K mainGlobals "zip" = some none)
    (z_range : PySem.W.nsIn K mainGlobals "range" = some none)
    (z_enumerate : PySem.W.nsIn K mainGlobals "enumerate" = some none)
    (z_sum : PySem.W.nsIn K mainGlobals "sum" = some none)
    (z_reversed : PySem.W.nsIn K mainGlobals "reversed" = some none)
    (z_set : PySem.W.nsIn K mainGlobals "set" = some none)
    (z_sorted : PySem.W.nsIn K mainGlobals "sorted" = some none)
    (aC : PySem.W.nsIn K mainGlobals "Graph" = some (some (.ref C)))
    (gpg : PySem.W.plainGet K C Str.empty = true)
    (ghd : PySem.W.hasDictIn K C = true)
    (gpo : PySem.W.plainOver K C = true)
    (gsa : PySem.W.findIn K (.ref C) "__setattr__" = some (some (.builtin "object.__setattr__")))
    (gmk : PySem.W.makesIn K C = true)
    (gkc : PySem.W.keepIn K (.ref C) = true)
    (gnS : PySem.W.findIn K (.ref C) "state_count" = some none)
    (gnE : PySem.W.findIn K (.ref C) "edge_pairs" = some none)
    (grd : PySem.W.readsIn K C (.type "type") = true)
    (gga : PySem.W.specialIn K (.ref C) "__getattribute__" = some (some (.builtin "type.__getattribute__")))
    (gv8 : PySem.W.findCls K (.ref C) (.type "type") "MAX_STATES" = some (.val (.int 8 t8)))
    (gv24 : PySem.W.findCls K (.ref C) (.type "type") "MAX_EDGES" = some (.val (.int 24 t24)))
    (a_bag : PySem.W.nsIn K mainGlobals "_law_bag" = some (some (.ref f_bag)))
    (l_bag : K.lookup f_bag = some ⟨oc_bag, od_bag, .func (PySem.W.fnOf "_law_bag" "_law_bag" (defArgs sBag) (defBody sBag) (defScope sBag) .none kV_bag dc_bag pm_bag an_bag cd_bag ct_bag), sl_bag⟩)
    (c_bag : PySem.W.codeIn K cd_bag "_law_bag" = true)
    (k_bag : PySem.W.keepIn K (.ref f_bag) = true)
    (a_pull : PySem.W.nsIn K mainGlobals "_law_pull" = some (some (.ref f_pull)))
    (l_pull : K.lookup f_pull = some ⟨oc_pull, od_pull, .func (PySem.W.fnOf "_law_pull" "_law_pull" (defArgs sPull) (defBody sPull) (defScope sPull) .none kV_pull dc_pull pm_pull an_pull cd_pull ct_pull), sl_pull⟩)
    (c_pull : PySem.W.codeIn K cd_pull "_law_pull" = true)
    (k_pull : PySem.W.keepIn K (.ref f_pull) = true)
    (a_of : PySem.W.nsIn K mainGlobals "_law_of" = some (some (.ref f_of)))
    (l_of : K.lookup f_of = some ⟨oc_of, od_of, .func (PySem.W.fnOf "_law_of" "_law_of" (defArgs sOf) (defBody sOf) (defScope sOf) .none kV_of dc_of pm_of an_of cd_of ct_of), sl_of⟩)
    (c_of : PySem.W.codeIn K cd_of "_law_of" = true)
    (k_of : PySem.W.keepIn K (.ref f_of) = true)
    (a_plan : PySem.W.nsIn K mainGlobals "_law_plan" = some (some (.ref f_plan)))
    (l_plan : K.lookup f_plan = some ⟨oc_plan, od_plan, .func (PySem.W.fnOf "_law_plan" "_law_plan" (defArgs sPlan) (defBody sPlan) (defScope sPlan) .none kV_plan dc_plan pm_plan an_plan cd_plan ct_plan), sl_plan⟩)
    (c_plan : PySem.W.codeIn K cd_plan "_law_plan" = true)
    (k_plan : PySem.W.keepIn K (.ref f_plan) = true)
    (a_like : PySem.W.nsIn K mainGlobals "_law_like" = some (some (.ref f_like)))
    (l_like : K.lookup f_like = some ⟨oc_like, od_like, .func (PySem.W.fnOf "_law_like" "_law_like" (defArgs sLike) (defBody sLike) (defScope sLike) .none kV_like dc_like pm_like an_like cd_like ct_like), sl_like⟩)
    (c_like : PySem.W.codeIn K cd_like "_law_like" = true)
    (k_like : PySem.W.keepIn K (.ref f_like) = true)
    (a_check : PySem.W.nsIn K mainGlobals "check_edges" = some (some (.ref f_check)))
    (l_check : K.lookup f_check = some ⟨oc_check, od_check, .func (PySem.W.fnOf "check_edges" "check_edges" (defArgs sCheck) (defBody sCheck) (defScope sCheck) .none kV_check dc_check pm_check an_check cd_check ct_check), sl_check⟩)
    (c_check : PySem.W.codeIn K cd_check "check_edges" = true)
    (k_check : PySem.W.keepIn K (.ref f_check) = true)
    (a_init : PySem.W.findIn K (.ref C) "__init__" = some (some (.ref f_init)))
    (i_init : PySem.W.isFn K (.ref f_init) = true)
    (l_init : K.lookup f_init = some ⟨oc_init, od_init, .func (PySem.W.fnOf "__init__" "Graph.__init__" (defArgs sInit) (defBody sInit) (defScope sInit) .none kV_init dc_init pm_init an_init cd_init ct_init), sl_init⟩)
    (c_init : PySem.W.codeIn K cd_init "Graph.__init__" = true)
    (k_init : PySem.W.keepIn K (.ref f_init) = true)
    (a_cnt : PySem.W.findIn K (.ref C) "counts" = some (some (.ref f_cnt)))
    (i_cnt : PySem.W.isFn K (.ref f_cnt) = true)
    (l_cnt : K.lookup f_cnt = some ⟨oc_cnt, od_cnt, .func (PySem.W.fnOf "counts" "Graph.counts" (defArgs sCounts) (defBody sCounts) (defScope sCounts) .none kV_cnt dc_cnt pm_cnt an_cnt cd_cnt ct_cnt), sl_cnt⟩)
    (c_cnt : PySem.W.codeIn K cd_cnt "Graph.counts" = true)
    (k_cnt : PySem.W.keepIn K (.ref f_cnt) = true)
    (a_eds : PySem.W.findIn K (.ref C) "edges" = some (some (.ref f_eds)))
    (i_eds : PySem.W.isFn K (.ref f_eds) = true)
    (l_eds : K.lookup f_eds = some ⟨oc_eds, od_eds, .func (PySem.W.fnOf "edges" "Graph.edges" (defArgs sEdges) (defBody sEdges) (defScope sEdges) .none kV_eds dc_eds pm_eds an_eds cd_eds ct_eds), sl_eds⟩)
    (c_eds : PySem.W.codeIn K cd_eds "Graph.edges" = true)
    (k_eds : PySem.W.keepIn K (.ref f_eds) = true)
    (a_edg : PySem.W.findIn K (.ref C) "edge" = some (some (.ref f_edg)))
    (i_edg : PySem.W.isFn K (.ref f_edg) = true)
    (l_edg : K.lookup f_edg = some ⟨oc_edg, od_edg, .func (PySem.W.fnOf "edge" "Graph.edge" (defArgs sEdge) (defBody sEdge) (defScope sEdge) .none kV_edg dc_edg pm_edg an_edg cd_edg ct_edg), sl_edg⟩)
    (c_edg : PySem.W.codeIn K cd_edg "Graph.edge" = true)
    (k_edg : PySem.W.keepIn K (.ref f_edg) = true)
    (a_cst : PySem.W.findIn K (.ref C) "check_state" = some (some (.ref f_cst)))
    (i_cst : PySem.W.isFn K (.ref f_cst) = true)
    (l_cst : K.lookup f_cst = some ⟨oc_cst, od_cst, .func (PySem.W.fnOf "check_state" "Graph.check_state" (defArgs sCheckState) (defBody sCheckState) (defScope sCheckState) .none kV_cst dc_cst pm_cst an_cst cd_cst ct_cst), sl_cst⟩)
    (c_cst : PySem.W.codeIn K cd_cst "Graph.check_state" = true)
    (k_cst : PySem.W.keepIn K (.ref f_cst) = true)
    (a_lea : PySem.W.findIn K (.ref C) "leaving" = some (some (.ref f_lea)))
    (i_lea : PySem.W.isFn K (.ref f_lea) = true)
    (l_lea : K.lookup f_lea = some ⟨oc_lea, od_lea, .func (PySem.W.fnOf "leaving" "Graph.leaving" (defArgs sLeaving) (defBody sLeaving) (defScope sLeaving) .none kV_lea dc_lea pm_lea an_lea cd_lea ct_lea), sl_lea⟩)
    (c_lea : PySem.W.codeIn K cd_lea "Graph.leaving" = true)
    (k_lea : PySem.W.keepIn K (.ref f_lea) = true)
    (a_st : PySem.W.findIn K (.ref C) "states" = some (some (.ref p_st)))
    (g_st : PySem.W.specialIn K (.ref p_st) "__get__" = some (some (.builtin "property.__get__")))
    (t_st : PySem.W.takesIn K (.ref p_st) = some true)
    (r_st : PySem.W.recIn K p_st "property" = some (.ref f_st :: re_st))
    (l_st : K.lookup f_st = some ⟨oc_st, od_st, .func (PySem.W.fnOf "states" "Graph.states" (defArgs sStates) (defBody sStates) (defScope sStates) .none kV_st dc_st pm_st an_st cd_st ct_st), sl_st⟩)
    (c_st : PySem.W.codeIn K cd_st "Graph.states" = true)
    (k_st : PySem.W.keepIn K (.ref f_st) = true)
    (a_graph : PySem.W.nsIn K mainGlobals "_law_graph" = some (some (.ref f_graph)))
    (l_graph : K.lookup f_graph = some ⟨oc_graph, od_graph, .func (PySem.W.fnOf "_law_graph" "_law_graph" (defArgs sGraph) (defBody sGraph) (defScope sGraph) .none kV_graph dc_graph pm_graph an_graph cd_graph ct_graph), sl_graph⟩)
    (c_graph : PySem.W.codeIn K cd_graph "_law_graph" = true)
    (k_graph : PySem.W.keepIn K (.ref f_graph) = true)
    (a_aft : PySem.W.nsIn K mainGlobals "_law_after" = some (some (.ref f_aft)))
    (l_aft : K.lookup f_aft = some ⟨oc_aft, od_aft, .func (PySem.W.fnOf "_law_after" "_law_after" (defArgs sAft) (defBody sAft) (defScope sAft) .none kV_aft dc_aft pm_aft an_aft cd_aft ct_aft), sl_aft⟩)
    (c_aft : PySem.W.codeIn K cd_aft "_law_after" = true)
    (k_aft : PySem.W.keepIn K (.ref f_aft) = true)
    (a_pths : PySem.W.nsIn K mainGlobals "_law_paths" = some (some (.ref f_pths)))
    (l_pths : K.lookup f_pths = some ⟨oc_pths, od_pths, .func (PySem.W.fnOf "_law_paths" "_law_paths" (defArgs sPths) (defBody sPths) (defScope sPths) .none kV_pths dc_pths pm_pths an_pths cd_pths ct_pths), sl_pths⟩)
    (c_pths : PySem.W.codeIn K cd_pths "_law_paths" = true)
    (k_pths : PySem.W.keepIn K (.ref f_pths) = true)
    (a_lpc : PySem.W.nsIn K mainGlobals "_law_path_count" = some (some (.ref f_lpc)))
    (l_lpc : K.lookup f_lpc = some ⟨oc_lpc, od_lpc, .func (PySem.W.fnOf "_law_path_count" "_law_path_count" (defArgs sLPC) (defBody sLPC) (defScope sLPC) .none kV_lpc dc_lpc pm_lpc an_lpc cd_lpc ct_lpc), sl_lpc⟩)
    (c_lpc : PySem.W.codeIn K cd_lpc "_law_path_count" = true)
    (k_lpc : PySem.W.keepIn K (.ref f_lpc) = true)
    (aML : PySem.W.nsIn K mainGlobals "MAX_LENGTH" = some (some (.int 40 t40)))
    (aMC : PySem.W.nsIn K mainGlobals "MAX_COUNTED" = some (some (.int 2000 t2000)))
    (a_cl : PySem.W.nsIn K mainGlobals "check_length" = some (some (.ref f_cl)))
    (l_cl : K.lookup f_cl = some ⟨oc_cl, od_cl, .func (PySem.W.fnOf "check_length" "check_length" (defArgs sCl) (defBody sCl) (defScope sCl) .none kV_cl dc_cl pm_cl an_cl cd_cl ct_cl), sl_cl⟩)
    (c_cl : PySem.W.codeIn K cd_cl "check_length" = true)
    (k_cl : PySem.W.keepIn K (.ref f_cl) = true)
    (a_pr : PySem.W.nsIn K mainGlobals "product" = some (some (.ref f_pr)))
    (l_pr : K.lookup f_pr = some ⟨oc_pr, od_pr, .func (PySem.W.fnOf "product" "product" (defArgs sProd) (defBody sProd) (defScope sProd) .none kV_pr dc_pr pm_pr an_pr cd_pr ct_pr), sl_pr⟩)
    (c_pr : PySem.W.codeIn K cd_pr "product" = true)
    (k_pr : PySem.W.keepIn K (.ref f_pr) = true)
    (a_pw : PySem.W.nsIn K mainGlobals "power" = some (some (.ref f_pw)))
    (l_pw : K.lookup f_pw = some ⟨oc_pw, od_pw, .func (PySem.W.fnOf "power" "power" (defArgs sPow) (defBody sPow) (defScope sPow) .none kV_pw dc_pw pm_pw an_pw cd_pw ct_pw), sl_pw⟩)
    (c_pw : PySem.W.codeIn K cd_pw "power" = true)
    (k_pw : PySem.W.keepIn K (.ref f_pw) = true)
    (a_cc : PySem.W.nsIn K mainGlobals "count_closed" = some (some (.ref f_cc)))
    (l_cc : K.lookup f_cc = some ⟨oc_cc, od_cc, .func (PySem.W.fnOf "count_closed" "count_closed" (defArgs sCC) (defBody sCC) (defScope sCC) .none kV_cc dc_cc pm_cc an_cc cd_cc ct_cc), sl_cc⟩)
    (c_cc : PySem.W.codeIn K cd_cc "count_closed" = true)
    (k_cc : PySem.W.keepIn K (.ref f_cc) = true)
    (a_wt : PySem.W.nsIn K mainGlobals "ways_to" = some (some (.ref f_wt)))
    (l_wt : K.lookup f_wt = some ⟨oc_wt, od_wt, .func (PySem.W.fnOf "ways_to" "ways_to" (defArgs sWaysTo) (defBody sWaysTo) (defScope sWaysTo) .none kV_wt dc_wt pm_wt an_wt cd_wt ct_wt), sl_wt⟩)
    (c_wt : PySem.W.codeIn K cd_wt "ways_to" = true)
    (k_wt : PySem.W.keepIn K (.ref f_wt) = true)
    (a_wk : PySem.W.nsIn K mainGlobals "walks" = some (some (.ref f_wk)))
    (l_wk : K.lookup f_wk = some ⟨oc_wk, od_wk, .func (PySem.W.fnOf "walks" "walks" (defArgs sWalks) (defBody sWalks) (defScope sWalks) .none kV_wk dc_wk pm_wk an_wk cd_wk ct_wk), sl_wk⟩)
    (c_wk : PySem.W.codeIn K cd_wk "walks" = true)
    (k_wk : PySem.W.keepIn K (.ref f_wk) = true)
    (a_cs : PySem.W.nsIn K mainGlobals "closed_paths" = some (some (.ref f_cs)))
    (l_cs : K.lookup f_cs = some ⟨oc_cs, od_cs, .func (PySem.W.fnOf "closed_paths" "closed_paths" (defArgs sClosed) (defBody sClosed) (defScope sClosed) .none kV_cs dc_cs pm_cs an_cs cd_cs ct_cs), sl_cs⟩)
    (c_cs : PySem.W.codeIn K cd_cs "closed_paths" = true)
    (k_cs : PySem.W.keepIn K (.ref f_cs) = true)
    (a_fb : PySem.W.nsIn K mainGlobals "first_break" = some (some (.ref f_fb)))
    (l_fb : K.lookup f_fb = some ⟨oc_fb, od_fb, .func (PySem.W.fnOf "first_break" "first_break" (defArgs sBreak) (defBody sBreak) (defScope sBreak) .none kV_fb dc_fb pm_fb an_fb cd_fb ct_fb), sl_fb⟩)
    (c_fb : PySem.W.codeIn K cd_fb "first_break" = true)
    (k_fb : PySem.W.keepIn K (.ref f_fb) = true)
    (a_isp : PySem.W.nsIn K mainGlobals "is_path" = some (some (.ref f_isp)))
    (l_isp : K.lookup f_isp = some ⟨oc_isp, od_isp, .func (PySem.W.fnOf "is_path" "is_path" (defArgs sIsP) (defBody sIsP) (defScope sIsP) .none kV_isp dc_isp pm_isp an_isp cd_isp ct_isp), sl_isp⟩)
    (c_isp : PySem.W.codeIn K cd_isp "is_path" = true)
    (k_isp : PySem.W.keepIn K (.ref f_isp) = true)
    (a_law : PySem.W.nsIn K mainGlobals "law" = some (some (.ref f_law)))
    (l_law : K.lookup f_law = some ⟨oc_law, od_law, .func (PySem.W.fnOf "law" "law" (defArgs sLaw) (defBody sLaw) (defScope sLaw) .none kV_law dc_law pm_law an_law cd_law ct_law), sl_law⟩)
    (c_law : PySem.W.codeIn K cd_law "law" = true)
    (k_law : PySem.W.keepIn K (.ref f_law) = true),
    ∃ fd : FuncData, (∀ (s : Shared) (v : Value), BindsTo s fd ⟨[v], []⟩ [("_law_script", v)]) ∧ ∀ base : Heap, K.In base → base.Ns mainGlobals mg → Sf.FnS l.prog w K mg base CX0 10 fa fd ["_law_script"] (spLaw K)
theorem walkS {l : PySem.W.OpenLaw} {q : Program} {loose : List Str} {XP : (Str → Option Value) → Heap → Prop} {YP : World → Heap → Prop} {d : DefRec} {K : Params → PySem.W.Frag} (hn : l.most = some 63) (hdf : d.params.defaults = [])
    (hY : ∀ (w : World) (h : Heap), YP w h → (K w.params).In h)
    (F : ∀ (w : World) (mg : Str → Option Value) (fa : Addr) (h : Heap), (K w.params).In h → h.Ns mainGlobals mg → mg d.name = some (.ref fa) →
      ∃ fd : FuncData, (∀ (s : Shared) (u : Value), BindsTo s fd ⟨[u], []⟩ [("_law_script", u)]) ∧ ∀ base : Heap, (K w.params).In base → base.Ns mainGlobals mg → Sf.FnS l.prog w (K w.params) mg base CX0 10 fa fd ["_law_script"] (spLaw (K w.params))) :
    Sf.WalkS q loose XP YP l.row.toRowW d [] :=
  Sf.walk_S (n := 63) (k := 10) (x := "_law_script") (CX := fun _ => CX0) (sp := fun w => spLaw (K w.params)) hn (by decide) hdf ⟨rfl, by decide, by decide⟩ hY F (fun _ _ a ns hl _ hS => ⟨a, ns, rfl, hS, hl, fun _ => rfl⟩) fun _ _ _ _ _ z => z
end Lw
end
section
open PySem PySem.W PyProof.Rows
namespace Lw
def hn0 : List PySem.Str := ["_wall", "__name__", "WindowError", "InvalidGraph", "LimitExceeded", "OutOfRange", "InvalidLength", "MAX_LENGTH", "MAX_COUNTED", "first_break", "is_path", "check_length", "ways_to", "walks", "closed_paths", "product", "power", "count_closed", "check_edges", "Graph", "_law_bag", "_law_pull", "_law_of", "_law_like", "_law_plan", "_law_graph", "_law_after", "_law_paths", "_law_path_count"]
def hnames : List PySem.Str := hn0
end Lw
local macro_rules
  | `(tactic| o_headL ($f $K $A $E)) => `(tactic| refine Sf.head_S (r := (OpenLaw.row PySem.Challenge.rw_windowkin_k05_closed_paths_in_order)) (q := view (OpenLaw.row PySem.Challenge.rw_windowkin_k05_closed_paths_in_order).prog [32]) (H := $f $K $A $E) (ob := fun s => List.map (HandSHeadRun.getT s) $A) (M := 9000) (loose := Lw.hnames) (d := HandSHeadRun.topDef (OpenLaw.row PySem.Challenge.rw_windowkin_k05_closed_paths_in_order).prog 32) (kwd := []) (fun s => List.map_congr_left fun a _ => HandSHeadRun.getT_eq s a) (by kernel_rfl) (fun s => by kernel_rfl) (fun w => by intro os; kernel_rfl) (by kernel_rfl) (by kernel_rfl) (by kernel_rfl) (by rfl) (by first | assumption | decide +kernel) (by decide +kernel) ⟨rfl, rfl, rfl, rfl, rfl, by decide +kernel⟩ ?_ ?_)
set_option maxRecDepth 100000 in
set_option maxHeartbeats 0 in
theorem Lw.h0 (AM : Lw.AMk) : PySem.Challenge.rw_windowkin_k05_closed_paths_in_order.Holds := by
  w_on; o_law; k_headL
  · w_witness2
  k_fill
  refine Lw.walkS (l := PySem.Challenge.rw_windowkin_k05_closed_paths_in_order) rfl (by kernel_rfl) (fun w h Y => PySem.W.kIn_of Y) ?F
  case F =>
    intro w mg fa h KX G hmg0
    have hmg : mg ("law" : PySem.Str) = some (.ref fa) := by
      have e : (HandSHeadRun.topDef (OpenLaw.row PySem.Challenge.rw_windowkin_k05_closed_paths_in_order).prog 32).name = ("law" : PySem.Str) := by kernel_rfl
      rw [← e]
      exact hmg0
    refine' AM KX G hmg ?z_len ?z_list ?z_tuple ?z_bool ?z_int ?z_str ?z_isinstance ?z_all ?z_zip ?z_range ?z_enumerate ?z_sum ?z_reversed ?z_set ?z_sorted ?aC ?gpg ?ghd ?gpo ?gsa ?gmk ?gkc ?gnS ?gnE ?grd ?gga ?gv8 ?gv24 ?a_bag ?l_bag ?c_bag ?k_bag ?a_pull ?l_pull ?c_pull ?k_pull ?a_of ?l_of ?c_of ?k_of ?a_plan ?l_plan ?c_plan ?k_plan ?a_like ?l_like ?c_like ?k_like ?a_check ?l_check ?c_check ?k_check ?a_init ?i_init ?l_init ?c_init ?k_init ?a_cnt ?i_cnt ?l_cnt ?c_cnt ?k_cnt ?a_eds ?i_eds ?l_eds ?c_eds ?k_eds ?a_edg ?i_edg ?l_edg ?c_edg ?k_edg ?a_cst ?i_cst ?l_cst ?c_cst ?k_cst ?a_lea ?i_lea ?l_lea ?c_lea ?k_lea ?a_st ?g_st ?t_st ?r_st ?l_st ?c_st ?k_st ?a_graph ?l_graph ?c_graph ?k_graph ?a_aft ?l_aft ?c_aft ?k_aft ?a_pths ?l_pths ?c_pths ?k_pths ?a_lpc ?l_lpc ?c_lpc ?k_lpc ?aML ?aMC ?a_cl ?l_cl ?c_cl ?k_cl ?a_pr ?l_pr ?c_pr ?k_pr ?a_pw ?l_pw ?c_pw ?k_pw ?a_cc ?l_cc ?c_cc ?k_cc ?a_wt ?l_wt ?c_wt ?k_wt ?a_wk ?l_wk ?c_wk ?k_wk ?a_cs ?l_cs ?c_cs ?k_cs ?a_fb ?l_fb ?c_fb ?k_fb ?a_isp ?l_isp ?c_isp ?k_isp ?a_law ?l_law ?c_law ?k_law
    (case z_len => k_is)
    (case z_list => k_is)
    (case z_tuple => k_is)
    (case z_bool => k_is)
    (case z_int => k_is)
    (case z_str => k_is)
    (case z_isinstance => k_is)
    (case z_all => k_is)
    (case z_zip => k_is)
    (case z_range => k_is)
    (case z_enumerate => k_is)
    (case z_sum => k_is)
    (case z_reversed => k_is)
    (case z_set => k_is)
    (case z_sorted => k_is)
    (case aC => k_is)
    (case gpg => k_is)
    (case ghd => k_is)
    (case gpo => k_is)
    (case gsa => k_is)
    (case gmk => k_is)
    (case gkc => k_is)
    (case gnS => k_is)
    (case gnE => k_is)
    (case grd => k_is)
    (case gga => k_is)
    (case gv8 => k_is)
    (case gv24 => k_is)
    (case a_bag => k_is)
    (case l_bag => k_is)
    (case c_bag => k_is)
    (case k_bag => k_is)
    (case a_pull => k_is)
    (case l_pull => k_is)
    (case c_pull => k_is)
    (case k_pull => k_is)
    (case a_of => k_is)
    (case l_of => k_is)
    (case c_of => k_is)
    (case k_of => k_is)
    (case a_plan => k_is)
    (case l_plan => k_is)
    (case c_plan => k_is)
    (case k_plan => k_is)
    (case a_like => k_is)
    (case l_like => k_is)
    (case c_like => k_is)
    (case k_like => k_is)
    (case a_check => k_is)
    (case l_check => k_is)
    (case c_check => k_is)
    (case k_check => k_is)
    (case a_init => k_is)
    (case i_init => k_is)
    (case l_init => k_is)
    (case c_init => k_is)
    (case k_init => k_is)
    (case a_cnt => k_is)
    (case i_cnt => k_is)
    (case l_cnt => k_is)
    (case c_cnt => k_is)
    (case k_cnt => k_is)
    (case a_eds => k_is)
    (case i_eds => k_is)
    (case l_eds => k_is)
    (case c_eds => k_is)
    (case k_eds => k_is)
    (case a_edg => k_is)
    (case i_edg => k_is)
    (case l_edg => k_is)
    (case c_edg => k_is)
    (case k_edg => k_is)
    (case a_cst => k_is)
    (case i_cst => k_is)
    (case l_cst => k_is)
    (case c_cst => k_is)
    (case k_cst => k_is)
    (case a_lea => k_is)
    (case i_lea => k_is)
    (case l_lea => k_is)
    (case c_lea => k_is)
    (case k_lea => k_is)
    (case a_st => k_is)
    (case g_st => k_is)
    (case t_st => k_is)
    (case r_st => k_is)
    (case l_st => k_is)
    (case c_st => k_is)
    (case k_st => k_is)
    (case a_graph => k_is)
    (case l_graph => k_is)
    (case c_graph => k_is)
    (case k_graph => k_is)
    (case a_aft => k_is)
    (case l_aft => k_is)
    (case c_aft => k_is)
    (case k_aft => k_is)
    (case a_pths => k_is)
    (case l_pths => k_is)
    (case c_pths => k_is)
    (case k_pths => k_is)
    (case a_lpc => k_is)
    (case l_lpc => k_is)
    (case c_lpc => k_is)
    (case k_lpc => k_is)
    (case aML => k_is)
    (case aMC => k_is)
    (case a_cl => k_is)
    (case l_cl => k_is)
    (case c_cl => k_is)
    (case k_cl => k_is)
    (case a_pr => k_is)
    (case l_pr => k_is)
    (case c_pr => k_is)
    (case k_pr => k_is)
    (case a_pw => k_is)
    (case l_pw => k_is)
    (case c_pw => k_is)
    (case k_pw => k_is)
    (case a_cc => k_is)
    (case l_cc => k_is)
    (case c_cc => k_is)
    (case k_cc => k_is)
    (case a_wt => k_is)
    (case l_wt => k_is)
    (case c_wt => k_is)
    (case k_wt => k_is)
    (case a_wk => k_is)
    (case l_wk => k_is)
    (case c_wk => k_is)
    (case k_wk => k_is)
    (case a_cs => k_is)
    (case l_cs => k_is)
    (case c_cs => k_is)
    (case k_cs => k_is)
    (case a_fb => k_is)
    (case l_fb => k_is)
    (case c_fb => k_is)
    (case k_fb => k_is)
    (case a_isp => k_is)
    (case l_isp => k_is)
    (case c_isp => k_is)
    (case k_isp => k_is)
    (case a_law => k_is)
    (case l_law => k_is)
    (case c_law => k_is)
    (case k_law => k_is)
end
section
namespace Lw
def sm : Nat → (Nat → Nat) → Nat
  | 0, _ => 0
  | n + 1, f => sm n f + f n
theorem sm_congr {n : Nat} {f g : Nat → Nat} (h : ∀ k, k < n → f k = g k) : sm n f = sm n g := by
  induction n with
  | zero => rfl
  | succ n ih =>
    show sm n f + f n = sm n g + g n
    rw [ih fun k hk => h k (Nat.lt_succ_of_lt hk), h n (Nat.lt_succ_self n)]
theorem sm_add (n : Nat) (f g : Nat → Nat) : sm n (fun k => f k + g k) = sm n f + sm n g := by
  induction n with
  | zero => rfl
  | succ n ih =>
    show sm n (fun k => f k + g k) + (f n + g n) = sm n f + f n + (sm n g + g n)
    rw [ih]
    omega
theorem sm_mulr (n : Nat) (f : Nat → Nat) (c : Nat) : sm n (fun k => f k * c) = sm n f * c := by
  induction n with
  | zero => exact (Nat.zero_mul c).symm
  | succ n ih =>
    show sm n (fun k => f k * c) + f n * c = (sm n f + f n) * c
    rw [ih, Nat.add_mul]
theorem sm_mull (n : Nat) (f : Nat → Nat) (c : Nat) : sm n (fun k => c * f k) = c * sm n f := by
  rw [Nat.mul_comm c, ← sm_mulr]
  exact sm_congr fun k _ => Nat.mul_comm _ _
theorem sm_zero (n : Nat) : sm n (fun _ => 0) = 0 := by
  induction n with
  | zero => rfl
  | succ n ih => exact ih
theorem sm_comm (n m : Nat) (f : Nat → Nat → Nat) : sm n (fun i => sm m (fun j => f i j)) = sm m (fun j => sm n (fun i => f i j)) := by
  induction n with
  | zero => exact (sm_zero m).symm
  | succ n ih =>
    show sm n (fun i => sm m (fun j => f i j)) + sm m (fun j => f n j) = sm m (fun j => sm n (fun i => f i j) + f n j)
    rw [ih, sm_add]
theorem sm_one {n b : Nat} (x : Nat → Nat) (h : b < n) : sm n (fun k => (if k = b then 1 else 0) * x k) = x b := by
  induction n with
  | zero => exact absurd h (Nat.not_lt_zero b)
  | succ n ih =>
    show sm n (fun k => (if k = b then 1 else 0) * x k) + (if n = b then 1 else 0) * x n = x b
    by_cases e : n = b
    · subst e
      rw [if_pos rfl, Nat.one_mul]
      have : sm n (fun k => (if k = n then 1 else 0) * x k) = 0 := by
        refine (sm_congr (g := fun _ => 0) fun k hk => ?_).trans (sm_zero n)
        rw [if_neg (Nat.ne_of_lt hk), Nat.zero_mul]
      rw [this, Nat.zero_add]
    · rw [if_neg e, Nat.zero_mul, Nat.add_zero]
      exact ih (by omega)
theorem sm_int (n : Nat) (f : Nat → Nat) : ((List.range n).map fun k => ((f k : Nat) : Int)).sum = ((sm n f : Nat) : Int) := by
  induction n with
  | zero => rfl
  | succ n ih =>
    rw [List.range_succ, List.map_append, List.sum_append, ih]
    show ((sm n f : Nat) : Int) + (((f n : Nat) : Int) + 0) = ((sm n f + f n : Nat) : Int)
    omega
theorem sm_le {n : Nat} {f : Nat → Nat} {c : Nat} (h : ∀ k, k < n → f k ≤ c) : sm n f ≤ n * c := by
  induction n with
  | zero => exact Nat.zero_le _
  | succ n ih =>
    show sm n f + f n ≤ (n + 1) * c
    rw [Nat.add_mul, Nat.one_mul]
    exact Nat.add_le_add (ih fun k hk => h k (Nat.lt_succ_of_lt hk)) (h n (Nat.lt_succ_self n))
abbrev Mx := Nat → Nat → Nat
def mul (n : Nat) (A B : Mx) : Mx := fun i j => sm n fun k => A i k * B k j
def pw (n : Nat) (A : Mx) : Nat → Mx
  | 0 => fun i j => if i = j then 1 else 0
  | k + 1 => mul n (pw n A k) A
theorem mul_congr {n : Nat} {A A' B B' : Mx} {i j : Nat} (h1 : ∀ k, k < n → A i k = A' i k) (h2 : ∀ k, k < n → B k j = B' k j) : mul n A B i j = mul n A' B' i j := sm_congr fun k hk => by rw [h1 k hk, h2 k hk]
theorem mul_assoc (n : Nat) (A B C : Mx) (i j : Nat) : mul n (mul n A B) C i j = mul n A (mul n B C) i j := by
  show sm n (fun k => sm n (fun l => A i l * B l k) * C k j) = sm n (fun l => A i l * sm n (fun k => B l k * C k j))
  rw [show (fun k => sm n (fun l => A i l * B l k) * C k j) = fun k => sm n (fun l => A i l * B l k * C k j) from funext fun k => (sm_mulr n _ _).symm, sm_comm]
  refine sm_congr fun l _ => ?_
  rw [← sm_mull]
  exact sm_congr fun k _ => Nat.mul_assoc _ _ _
theorem one_mul {n : Nat} (A : Mx) {i j : Nat} (h : i < n) : mul n (pw n A 0) A i j = A i j := by
  show sm n (fun k => (if i = k then 1 else 0) * A k j) = A i j
  rw [← sm_one (fun k => A k j) h]
  exact sm_congr fun k _ => by
    by_cases e : k = i
    · rw [if_pos e, if_pos e.symm]
    · rw [if_neg e, if_neg (Ne.symm e)]
theorem mul_one {n : Nat} (A B : Mx) {i j : Nat} (h : j < n) : mul n A (pw n B 0) i j = A i j := by
  show sm n (fun k => A i k * (if k = j then 1 else 0)) = A i j
  rw [← sm_one (fun k => A i k) h]
  exact sm_congr fun k _ => Nat.mul_comm _ _
theorem pw_one {n : Nat} (A : Mx) {i j : Nat} (h : i < n) : pw n A 1 i j = A i j := one_mul A h
theorem pw_add {n : Nat} (A : Mx) (a b : Nat) {i j : Nat} (hj : j < n) : pw n A (a + b) i j = mul n (pw n A a) (pw n A b) i j := by
  induction b generalizing j with
  | zero => exact (mul_one (pw n A a) A hj).symm
  | succ b ih =>
    show mul n (pw n A (a + b)) A i j = mul n (pw n A a) (mul n (pw n A b) A) i j
    rw [← mul_assoc]
    exact mul_congr (fun k hk => ih hk) fun _ _ => rfl
theorem mul_le {n : Nat} {A B : Mx} {c d : Nat} {i j : Nat} (h1 : ∀ k, k < n → A i k ≤ c) (h2 : ∀ k, k < n → B k j ≤ d) : mul n A B i j ≤ n * (c * d) := sm_le fun k hk => Nat.mul_le_mul (h1 k hk) (h2 k hk)
theorem pw_le {n : Nat} {A : Mx} (h8 : n ≤ 8) (h : ∀ i j, A i j ≤ 31) (k i j : Nat) : pw n A k i j ≤ 2 ^ (8 * k) := by
  induction k generalizing i j with
  | zero =>
    show (if i = j then 1 else 0) ≤ 1
    split <;> omega
  | succ k ih =>
    refine Nat.le_trans (mul_le (fun k _ => ih i k) fun k _ => h k j) ?_
    have e : 2 ^ (8 * (k + 1)) = 2 ^ (8 * k) * 256 := by
      rw [Nat.mul_add, Nat.pow_add]
    rw [e]
    calc n * (2 ^ (8 * k) * 31) ≤ 8 * (2 ^ (8 * k) * 31) := Nat.mul_le_mul_right _ h8
      _ = 2 ^ (8 * k) * 248 := by rw [← Nat.mul_assoc, Nat.mul_comm 8, Nat.mul_assoc]
      _ ≤ 2 ^ (8 * k) * 256 := Nat.mul_le_mul_left _ (by decide)
theorem pw_log {n : Nat} {A : Mx} (h8 : n ≤ 8) (h : ∀ i j, A i j ≤ 31) (k i j : Nat) : (pw n A k i j).log2 ≤ 8 * k := by
  by_cases z : pw n A k i j = 0
  · rw [z]
    exact Nat.zero_le _
  · have := pw_le h8 h k i j
    exact Nat.le_of_lt_succ ((Nat.log2_lt z).mpr (Nat.lt_of_le_of_lt this (Nat.pow_lt_pow_right (by decide) (Nat.lt_succ_self _))))
theorem vec_step {n : Nat} (A : Mx) (k : Nat) {i : Nat} (h : i < n) : sm n (fun t => A i t * sm n (fun j => pw n A k t j)) = sm n (fun j => pw n A (k + 1) i j) := by
  rw [show (fun t => A i t * sm n (fun j => pw n A k t j)) = fun t => sm n (fun j => A i t * pw n A k t j) from funext fun t => (sm_mull n _ _).symm, sm_comm]
  refine sm_congr fun j hj => ?_
  rw [Nat.add_comm k 1, pw_add A 1 k hj]
  exact sm_congr fun t _ => by rw [pw_one A h]
theorem pw_bit {n : Nat} (A : Mx) (e s : Nat) {i j : Nat} (hj : j < n) : (if (e >>> s) % 2 = 1 then mul n (mul n (pw n A (e >>> (s + 1))) (pw n A (e >>> (s + 1)))) A i j else mul n (pw n A (e >>> (s + 1))) (pw n A (e >>> (s + 1))) i j) = pw n A (e >>> s) i j := by
  have h1 : e >>> (s + 1) = (e >>> s) / 2 := by rw [Nat.shiftRight_succ]
  rw [h1]
  generalize e >>> s = q
  by_cases o : q % 2 = 1
  · rw [if_pos o]
    have : q = (q / 2 + q / 2) + 1 := by omega
    conv => rhs; rw [this]
    show _ = mul n (pw n A (q / 2 + q / 2)) A i j
    exact mul_congr (fun k hk => (pw_add A _ _ hk).symm) fun _ _ => rfl
  · rw [if_neg o]
    have : q = q / 2 + q / 2 := by omega
    conv => rhs; rw [this]
    exact (pw_add A _ _ hj).symm
def cntN (ps : List (Int × Int)) (a b : Nat) : Nat := (ps.filter fun p => decide (p = ((a : Int), (b : Int)))).length
theorem cntN_snoc (ps : List (Int × Int)) (p : Int × Int) (a b : Nat) : cntN (ps ++ [p]) a b = cntN ps a b + (if p = ((a : Int), (b : Int)) then 1 else 0) := by
  unfold cntN
  rw [List.filter_append, List.length_append]
  by_cases h : p = ((a : Int), (b : Int))
  · rw [if_pos h, List.filter_cons_of_pos (by rw [decide_eq_true h])]
    rfl
  · rw [if_neg h, List.filter_cons_of_neg (by rw [decide_eq_false h]; exact Bool.false_ne_true)]
    simp
theorem cntN_le (ps : List (Int × Int)) (a b : Nat) : cntN ps a b ≤ ps.length := List.length_filter_le _ _
theorem out_snoc {n s t : Nat} (ps : List (Int × Int)) (x : Nat → Nat) (ht : t < n) (i : Nat) : sm n (fun j => cntN (ps ++ [((s : Int), (t : Int))]) i j * x j) = sm n (fun j => cntN ps i j * x j) + (if i = s then x t else 0) := by
  have e : sm n (fun j => cntN (ps ++ [((s : Int), (t : Int))]) i j * x j) = sm n (fun j => cntN ps i j * x j + (if i = s then (if j = t then 1 else 0) else 0) * x j) := sm_congr fun j _ => by
    rw [cntN_snoc, Nat.add_mul]
    congr 2
    by_cases h1 : i = s
    · subst h1
      rw [if_pos rfl]
      by_cases h2 : j = t
      · subst h2
        rw [if_pos rfl, if_pos rfl]
      · rw [if_neg h2, if_neg fun z => h2 (by have : (t : Int) = (j : Int) := congrArg Prod.snd z; omega)]
    · rw [if_neg h1, if_neg fun z => h1 (by have : (s : Int) = (i : Int) := congrArg Prod.fst z; omega)]
  rw [e, sm_add]
  congr 1
  by_cases h1 : i = s
  · rw [if_pos h1]
    simp only [if_pos h1]
    exact sm_one x ht
  · rw [if_neg h1]
    simp only [if_neg h1, Nat.zero_mul]
    exact sm_zero n
theorem sm_none {n : Nat} (x : Nat → Nat) (i : Nat) : sm n (fun j => cntN [] i j * x j) = 0 := by
  rw [← sm_zero n]
  exact sm_congr fun j _ => Nat.zero_mul _
end Lw
end
section
namespace Lw
open PySem L2
theorem same_upd {H : Hp} {p : Addr} {o : HO} (h : H p = none) : Same H (upd H p o) := fun b x e => by
  rw [upd_ne (ne_of_none e h)]
  exact e
theorem upd_upd {H : Hp} {p : Addr} {o o' : HO} : upd (upd H p o) p o' = upd H p o' := by
  funext c
  by_cases e : c = p
  · subst e
    rw [upd_same, upd_same]
  · rw [upd_ne e, upd_ne e, upd_ne e]
theorem upd_self {H : Hp} {p : Addr} {o : HO} (h : H p = some o) : upd H p o = H := by
  funext c
  by_cases e : c = p
  · subst e
    rw [upd_same, h]
  · rw [upd_ne e]
def BagO (l : Addr) (ns : List Int) (o : HO) : Prop := ∃ (i : Nat) (r s : Int), o = .lst [.ref l, .int (i : Int), .int r, .int s] ∧ i ≤ ns.length ∧ 0 ≤ r ∧ 0 ≤ s ∧ s < 2147483563
structure BagAt (H : Hp) (b l : Addr) (ns : List Int) : Prop where
  ob : ∃ o, H b = some o ∧ BagO l ns o
  sc : H l = some (.lst (ns.map V.int))
  ln : ns.length ≤ 63
theorem BagAt.ne {H : Hp} {b l : Addr} {ns : List Int} (h : BagAt H b l ns) : l ≠ b := fun e => by
  obtain ⟨o, ho, i, r, s, rfl, _⟩ := h.ob
  have h2 := h.sc
  rw [e, ho] at h2
  cases ns with
  | nil => cases h2
  | cons x r => cases h2
theorem BagAt.upd {H : Hp} {b l : Addr} {ns : List Int} {o : HO} (h : BagAt H b l ns) (ho : BagO l ns o) : BagAt (upd H b o) b l ns :=
  ⟨⟨o, upd_same, ho⟩, by rw [upd_ne h.ne]; exact h.sc, h.ln⟩
theorem BagAt.same {H H' : Hp} {b l : Addr} {ns : List Int} (h : BagAt H b l ns) (e : Same H H') : BagAt H' b l ns :=
  ⟨h.ob.imp fun _ z => ⟨e _ _ z.1, z.2⟩, e _ _ h.sc, h.ln⟩
def spPull : Sp := fun vs H Q _ => ∃ (b l : Addr) (ns : List Int) (m : Int), vs = [.ref b, .int m] ∧ BagAt H b l ns ∧ 0 < m ∧ m < 2 ^ 100 ∧
  ∀ (v : Int) (o : HO), 0 ≤ v → v < m → BagO l ns o → Q (.int v) (upd H b o)
def spBag (K : PySem.W.Frag) : Sp := fun vs H Q _ => ∃ (a : Addr) (ns : List Int), vs = [.ref a] ∧ SqL K H a (ns.map V.int) ∧ ns.length ≤ 63 ∧
  ∀ (b l : Addr) (H' : Hp), Same H H' → H b = none → H l = none → BagAt H' b l ns → Q (.ref b) H'
section
variable {P : Program} {w : World} {K : PySem.W.Frag} {mg : Str → Option Value} {base : Heap}
theorem scPull : FnScope ["_law_bag_here", "_law_many", "_law_cell", "_law_got", "_law_seed"] ["_law_bag_here", "_law_many"] (defScope sPull) := ⟨rfl, rfl, rfl, by decide +kernel, rfl, by decide +kernel, by decide +kernel⟩
theorem at0 {x : V} {r : List V} : atI (x :: r) 0 = some x := by
  have h := atI_nat (xs := x :: r) (j := 0) (v := x) rfl
  exact h
theorem at1 {x y : V} {r : List V} : atI (x :: y :: r) 1 = some y := by
  have h := atI_nat (xs := x :: y :: r) (j := 1) (v := y) rfl
  exact h
theorem at2 {x y z : V} {r : List V} : atI (x :: y :: z :: r) 2 = some z := by
  have h := atI_nat (xs := x :: y :: z :: r) (j := 2) (v := z) rfl
  exact h
theorem at3 {x y z u : V} {r : List V} : atI (x :: y :: z :: u :: r) 3 = some u := by
  have h := atI_nat (xs := x :: y :: z :: u :: r) (j := 3) (v := u) rfl
  exact h
set_option maxHeartbeats 4000000 in
theorem ok_pull {f : Addr} {fd : FuncData} {k : Nat} (F : Fun K "_law_pull" "_law_pull" sPull f fd) (mlen : mg "len" = none) : FnOk P w K mg base CX0 (k + 1) f fd ["_law_bag_here", "_law_many"] spPull := by
  refine F.ok scPull (fun vs H Q E h => ?_) (fun cdv A outer s H vs Q E hr h => ?_)
  · obtain ⟨b, l, ns, m, rfl, _⟩ := h
    rfl
  · obtain ⟨b, l, ns, m, rfl, B, hm, hm2, q⟩ := h
    refine ⟨_, C8.pss_cut (ps_if (PW.pt (pw_and (pt_cmpR op_eq (pe_ix ix_list (pv 0) pe_int (fun _ _ => rfl)) pe_int (nomark _))
        (pw_and1 (pt_cmpR op_lt (pe_ix ix_list (pv 0) pe_int (fun _ _ => rfl)) (pe_callB call_len_seq (by rfl) mlen PySem.boot_len (pa_cons (pe_ix ix_list (pv 0) pe_int (fun _ _ => rfl)) pa_nil)) (nomark _)))))
        (pss_cons (ps_set (i := 2) scPull.nd rfl (Or.inl rfl) (pe_ix ix_list (pe_ix ix_list (pv 0) pe_int (fun _ _ => rfl)) (pe_ix ix_list (pv 0) pe_int (fun _ _ => rfl)) (fun _ _ => rfl)))
        (pss_cons (ps_asg (pe_op op_add (pe_ix ix_list (pv 0) pe_int (fun _ _ => rfl)) pe_int) (pg_sub (pv 0) pe_int set_list))
        (pss_one (ps_if (pt_cmpR op_ge (pv 2) (pe_op op_pow pe_int pe_int) (nomark _))
          (pss_one (ps_asg (pe_op op_sub (pv 2) (pe_op op_pow pe_int pe_int)) (pg_sub (pv 0) pe_int set_list)))
          (pss_one (ps_asg (pe_op op_mod (pe_op op_add (pe_op op_add (pe_op op_mul (pe_ix ix_list (pv 0) pe_int (fun _ _ => rfl)) pe_int) (pe_op op_mul (pe_op op_mod (pv 2) pe_int) pe_int)) pe_int) pe_int) (pg_sub (pv 0) pe_int set_list)))))))
        pss_nil)
      (pss_cons (ps_if (pt_cmpR op_gt (pe_ix ix_list (pv 0) pe_int (fun _ _ => rfl)) pe_int (nomark _))
        (pss_cons (ps_set (i := 3) scPull.nd rfl (Or.inl rfl) (pe_op op_mod (pe_ix ix_list (pv 0) pe_int (fun _ _ => rfl)) (pv 1)))
        (pss_cons (ps_asg (pe_op op_fdivW (pe_ix ix_list (pv 0) pe_int (fun _ _ => rfl)) (pv 1)) (pg_sub (pv 0) pe_int set_list))
        (pss_one (ps_ret (pv 3))))) pss_nil)
      (pss_cons (ps_set (i := 4) scPull.nd rfl (Or.inl rfl) (pe_ix ix_list (pv 0) pe_int (fun _ _ => rfl)))
      (pss_cons (ps_asg (pe_op op_mod (pe_op op_add (pe_op op_add (pe_op op_mul (pe_op op_mul (pv 4) (pv 4)) pe_int) (pe_op op_mul (pv 4) pe_int)) pe_int) pe_int) (pg_sub (pv 0) pe_int set_list))
      (pss_one (ps_ret (pe_op op_mod (pe_op op_add (pe_op op_fdiv (pe_ix ix_list (pv 0) pe_int (fun _ _ => rfl)) pe_int) (pe_op op_mul (pe_op op_mod (pe_ix ix_list (pv 0) pe_int (fun _ _ => rfl)) pe_int) pe_int)) (pv 1))))))), ?_⟩
    obtain ⟨o, ho, i, r, sa, rfl, hi, hr0, hs0, hs1⟩ := B.ob
    refine ⟨fun σ H' => ∃ (v2 : Option V) (o : HO), σ = [some (.ref b), some (.int m), v2, none, none] ∧ H' = upd H b o ∧ BagO l ns o, ?_, ?_⟩
    · refine ⟨_, rfl, b, _, _, _, rfl, rfl, SqL.of ho, at2, rfl, _, rfl, ?_⟩
      have stay : H = upd H b (.lst [.ref l, .int (i : Int), .int r, .int sa]) := (upd_self ho).symm
      refine ite2 (fun c => ?_) (fun c => ?_)
      · have c0 : r = 0 := by
          have c1 := of_decide_eq_true c
          injection c1
        subst c0
        refine ⟨_, rfl, b, _, _, _, rfl, rfl, SqL.of ho, at1, _, rfl, b, _, _, _, rfl, rfl, SqL.of ho, at0, l, _, rfl, .inl (SqL.of B.sc), _, _, rfl, rfl, _, rfl, ?_⟩
        rw [List.length_map]
        refine ite2 (fun c => ?_) (fun c => ?_)
        · have c1 : (i : Int) < (ns.length : Int) := of_decide_eq_true c
          have c2 : i < ns.length := by omega
          have g1 : (ns.map V.int)[i]? = some (.int ns[i]) := by
            rw [List.getElem?_map, List.getElem?_eq_getElem c2]
            rfl
          refine ⟨_, rfl, b, _, _, _, rfl, rfl, SqL.of ho, at0, _, rfl, b, _, _, _, rfl, rfl, SqL.of ho, at1, l, _, _, _, rfl, rfl, SqL.of B.sc, atI_nat g1, ?_⟩
          refine ⟨_, rfl, b, _, _, _, rfl, rfl, SqL.of ho, at1, _, _, rfl, rfl, _, rfl, b, _, _, 1, rfl, rfl, ho, rfl, ?_⟩
          refine ⟨_, rfl, _, _, rfl, rfl, ⟨by decide, by decide, by decide⟩, _, _, rfl, rfl, _, rfl, ?_⟩
          refine ite2 (fun c => ?_) (fun c => ?_)
          · have c3 : (10 : Int) ^ (18 : Int).toNat ≤ ns[i] := of_decide_eq_true c
            refine ⟨_, rfl, _, _, rfl, rfl, ⟨by decide, by decide, by decide⟩, _, _, rfl, rfl, _, rfl, b, _, _, 2, rfl, rfl, upd_same, rfl, ?_⟩
            refine ⟨_, _, rfl, upd_upd, i + 1, ns[i] - 10 ^ (18 : Int).toNat, sa, by rfl, by omega, by omega, hs0, hs1⟩
          · refine ⟨_, rfl, b, _, _, _, rfl, rfl, SqL.of upd_same, at3, _, _, rfl, rfl, .inl ⟨by omega, by omega⟩, _, rfl, _, _, rfl, rfl, (by show (0 : Int) < 2147483563; decide), _, _, rfl, rfl, .inl ⟨by omega, by omega⟩, _, _, rfl, rfl, _, _, rfl, rfl, _, _, rfl, rfl, (by show (0 : Int) < 2147483563; decide), _, rfl, b, _, _, 3, rfl, rfl, upd_same, rfl, ?_⟩
            refine ⟨_, _, rfl, upd_upd, i + 1, 0, _, by rfl, by omega, by omega, ?_, ?_⟩
            · exact Int.emod_nonneg _ (by decide)
            · exact Int.emod_lt_of_pos _ (by decide)
        · refine ⟨none, _, rfl, stay, i, 0, sa, rfl, hi, by omega, hs0, hs1⟩
      · refine iteF ?_
        exact ⟨none, _, rfl, stay, i, r, sa, rfl, hi, hr0, hs0, hs1⟩
    · rintro σ H' ⟨v2, o, rfl, rfl, i, r, sa, rfl, hi, hr0, hs0, hs1⟩
      refine ⟨_, rfl, b, _, _, _, rfl, rfl, SqL.of upd_same, at2, _, _, rfl, rfl, _, rfl, ?_⟩
      refine ite2 (fun c => ?_) (fun c => ?_)
      · have c1 : 0 < r := of_decide_eq_true c
        refine ⟨_, rfl, b, _, _, _, rfl, rfl, SqL.of upd_same, at2, _, rfl, _, _, rfl, rfl, hm, ?_⟩
        refine ⟨_, rfl, b, _, _, _, rfl, rfl, SqL.of upd_same, at2, _, rfl, _, _, rfl, rfl, wide_div hm (b := 100) (by omega) (by decide) (by decide), _, rfl, b, _, _, 2, rfl, rfl, upd_same, rfl, ?_⟩
        refine ⟨_, rfl, ?_⟩
        rw [upd_upd]
        refine q _ _ (Int.emod_nonneg _ (by omega)) (Int.emod_lt_of_pos _ hm) ⟨i, r / m, sa, rfl, hi, Int.ediv_nonneg hr0 (by omega), hs0, hs1⟩
      · refine ⟨_, rfl, b, _, _, _, rfl, rfl, SqL.of upd_same, at3, ?_⟩
        have hq : sa * sa < 2 ^ 64 := by
          have : sa * sa ≤ sa * 2147483563 := Int.mul_le_mul_of_nonneg_left (by omega) hs0
          omega
        have hq0 : 0 ≤ sa * sa := Int.mul_nonneg hs0 hs0
        refine ⟨_, rfl, _, rfl, _, _, rfl, rfl, .inl ⟨by omega, by omega⟩, _, _, rfl, rfl, .inl ⟨by omega, by omega⟩, _, rfl, _, _, rfl, rfl, .inl ⟨by omega, by omega⟩, _, _, rfl, rfl, _, _, rfl, rfl, _, _, rfl, rfl, (by show (0 : Int) < 2147483563; decide), _, rfl, b, _, _, 3, rfl, rfl, upd_same, rfl, ?_⟩
        rw [upd_upd]
        obtain ⟨x, hx⟩ : ∃ x : Int, (sa * sa * 3 + sa * 16807 + 1013904223) % 2147483563 = x := ⟨_, rfl⟩
        have x0 : 0 ≤ x := hx ▸ Int.emod_nonneg _ (by decide)
        have x1 : x < 2147483563 := hx ▸ Int.emod_lt_of_pos _ (by decide)
        refine ⟨_, rfl, b, _, _, _, rfl, rfl, SqL.of upd_same, at3, _, _, rfl, rfl, ⟨by decide, by decide⟩, _, rfl, b, _, _, _, rfl, rfl, SqL.of upd_same, at3, _, _, rfl, rfl, (by show (0 : Int) < 8191; decide), _, _, rfl, rfl, .inl ⟨by omega, by omega⟩, _, _, rfl, rfl, _, rfl, _, _, rfl, rfl, hm, ?_⟩
        exact q _ _ (Int.emod_nonneg _ (by omega)) (Int.emod_lt_of_pos _ hm) ⟨i, r, x, by rw [← hx]; rfl, hi, hr0, x0, x1⟩
end
end Lw
end
section
namespace Lw
open PySem L2
structure Bi (mg : Str → Option Value) : Prop where
  len : mg "len" = none
  list : mg "list" = none
  tuple : mg "tuple" = none
  bool : mg "bool" = none
  int : mg "int" = none
  str : mg "str" = none
  isi : mg "isinstance" = none
  all : mg "all" = none
  zip : mg "zip" = none
  range : mg "range" = none
def spOf (K : PySem.W.Frag) : Sp := fun vs H Q _ => ∃ (b l t : Addr) (ns : List Int) (xs : List V), vs = [.ref b, .ref t] ∧ BagAt H b l ns ∧ SqL K H t xs ∧ t ≠ b ∧ xs ≠ [] ∧ xs.length ≤ 1000 ∧
  ∀ (i : Nat) (v : V) (o : HO), xs[i]? = some v → BagO l ns o → Q v (upd H b o)
theorem if_t {c : Bool} {A B : Prop} (hc : c = true) (h : A) : if c = true then A else B := by
  rw [if_pos hc]
  exact h
theorem if_f {c : Bool} {A B : Prop} (hc : c = false) (h : B) : if c = true then A else B := by
  rw [hc, if_neg Bool.false_ne_true]
  exact h
theorem cut_all {xs : List V} (h : xs.length ≤ 63) : cutV xs none (some 63) = xs := by
  unfold cutV
  rw [HT.sIx_none, show HT.sIx xs.length xs.length (some 63) = min 63 xs.length from HT.sIx_nat xs.length xs.length 63, Nat.min_eq_right h]
  simp
section
variable {P : Program} {w : World} {K : PySem.W.Frag} {mg : Str → Option Value} {base : Heap}
theorem SqL.upd_ne {H : Hp} {a b : Addr} {xs : List V} {o : HO} (h : SqL K H a xs) (e : a ≠ b) : SqL K (upd H b o) a xs := by
  unfold SqL Rd at h ⊢
  rw [L2.upd_ne e]
  exact h
theorem scBag : FnScope ["_law_script", "_law_salt", "_law_cell"] ["_law_script"] (defScope sBag) := ⟨rfl, rfl, rfl, by decide +kernel, rfl, by decide +kernel, by decide +kernel⟩
set_option maxHeartbeats 4000000 in
theorem ok_bag {f : Addr} {fd : FuncData} {k : Nat} (F : Fun K "_law_bag" "_law_bag" sBag f fd) (T : Bi mg) : FnOk P w K mg base CX0 (k + 1) f fd ["_law_script"] (spBag K) := by
  refine F.ok scBag (fun vs H Q E h => ?_) (fun cdv A outer s H vs Q E hr h => ?_)
  · obtain ⟨b, ns, rfl, _⟩ := h
    rfl
  · obtain ⟨a, ns, rfl, hS, hl, q⟩ := h
    refine ⟨_, pss_cons (ps_set (i := 1) scBag.nd rfl (Or.inl rfl) pe_int)
      (pss_cons (ps_for PassesOwn.never rfl (pi_list (pe_slice sl_list (pv 0) po_none (po_some pe_int))) (pg_name (i := 2) scBag.nd rfl (Or.inl rfl))
        (pss_one (ps_set (i := 1) scBag.nd rfl (Or.inl rfl) (pe_op op_mod (pe_op op_add (pe_op op_add (pe_op op_mul (pv 1) pe_int) (pe_op op_mod (pv 2) pe_int)) pe_int) pe_int))))
      (pss_one (ps_ret (pe_lst (pa_cons (pe_callTy call_list_of (by rfl) T.list (by decide +kernel) (pa_cons (pe_slice sl_list (pv 0) po_none (po_some pe_int)) pa_nil)) (pa_cons pe_int (pa_cons pe_int (pa_cons (pv 1) pa_nil)))))))), ?_⟩
    have hl' : (ns.map V.int).length ≤ 63 := by rw [List.length_map]; exact hl
    refine ⟨_, rfl, _, rfl, a, _, rfl, hS, fun p hp => ?_⟩
    rw [cut_all hl']
    have s1 : Same H (upd H p (.lst (ns.map V.int))) := same_upd hp
    refine ⟨p, rfl, ⟨_, SqL.of upd_same⟩, for_list (K := K) (a := p) (xs := ns.map V.int) (fun i σ H' => ∃ (v : Option V) (sa : Int), σ = [some (.ref a), some (.int sa), v] ∧ H' = upd H p (.lst (ns.map V.int)) ∧ 0 ≤ sa ∧ sa < 2147483563)
      ⟨none, 3803, rfl, rfl, by decide, by decide⟩ (fun i σ H' _ ⟨_, _, _, e, _⟩ => by subst e; exact SqL.of upd_same) ?_ ?_⟩
    · rintro i y σ H' hi ⟨v, sa, rfl, rfl, h0, h1⟩
      obtain ⟨z, rfl⟩ : ∃ z, y = V.int z := by
        rw [List.getElem?_map] at hi
        cases e : ns[i]? with
        | none =>
          rw [e] at hi
          cases hi
        | some z =>
          rw [e] at hi
          exact ⟨z, (Option.some.inj hi).symm⟩
      refine ⟨_, rfl, _, _, rfl, rfl, .inl ⟨by omega, by omega⟩, _, rfl, _, _, rfl, rfl, (by show (0 : Int) < 2147483563; decide), _, _, rfl, rfl, _, _, rfl, rfl, _, _, rfl, rfl, (by show (0 : Int) < 2147483563; decide), ?_⟩
      exact ⟨_, _, rfl, rfl, Int.emod_nonneg _ (by decide), Int.emod_lt_of_pos _ (by decide)⟩
    · rintro σ H' ⟨v, sa, rfl, rfl, h0, h1⟩
      refine ⟨_, rfl, _, rfl, a, _, rfl, s1.seq hS, fun p2 hp2 => ?_⟩
      rw [cut_all hl']
      refine ⟨p2, _, rfl, .inl (SqL.of upd_same), fun l hl2 => ?_⟩
      have s2 := s1.trans (same_upd (o := .lst (ns.map V.int)) hp2)
      have s3 := s2.trans (same_upd (o := .lst (ns.map V.int)) hl2)
      refine ⟨_, rfl, (by show 4 ≤ sizeLine; decide), fun b hb => ?_⟩
      have nl : H l = none := s2.free hl2
      have nb : H b = none := s3.free hb
      have lb : l ≠ b := fun e => by
        rw [← e, upd_same] at hb
        cases hb
      refine q b l _ (s3.trans (same_upd hb)) nb nl ⟨⟨_, upd_same, 0, 0, sa, rfl, Nat.zero_le _, by decide, h0, h1⟩, ?_, hl⟩
      rw [upd_ne lb, upd_same]
theorem scOf : FnScope ["_law_bag_here", "_law_things"] ["_law_bag_here", "_law_things"] (defScope sOf) := ⟨rfl, rfl, rfl, by decide +kernel, rfl, by decide +kernel, by decide +kernel⟩
set_option maxHeartbeats 4000000 in
theorem ok_of {f : Addr} {fd : FuncData} {k : Nat} (F : Fun K "_law_of" "_law_of" sOf f fd) (T : Bi mg) (cP : C8.Cal P w K mg base 1 "_law_pull" spPull []) : FnOk P w K mg base CX0 (k + 2) f fd ["_law_bag_here", "_law_things"] (spOf K) := by
  refine F.ok scOf (fun vs H Q E h => ?_) (fun cdv A outer s H vs Q E hr h => ?_)
  · obtain ⟨b, l, t, ns, xs, rfl, _⟩ := h
    rfl
  · obtain ⟨b, l, t, ns, xs, rfl, B, hS, ne, nn, hl, q⟩ := h
    refine ⟨_, pss_one (ps_ret (pe_ix ix_list (pv 1) (C8.pe_c cP hr (Nat.le_add_left 1 k) (by rfl) (pa_cons (pv 0) (pa_cons (pe_callB call_len_seq (by rfl) T.len PySem.boot_len (pa_cons (pv 1) pa_nil)) pa_nil))) (fun _ _ => rfl))), ?_⟩
    have l0 : 0 < xs.length := List.length_pos_iff.mpr nn
    refine ⟨_, rfl, _, rfl, _, rfl, t, xs, rfl, .inl hS, b, l, ns, _, rfl, B, by omega, by omega, fun v o v0 v1 BO => ?_⟩
    have hv : v.toNat < xs.length := by omega
    have hvv : ((v.toNat : Nat) : Int) = v := Int.toNat_of_nonneg v0
    have g : atI xs v = some xs[v.toNat] := by
      have := atI_nat (xs := xs) (j := v.toNat) (v := xs[v.toNat]) (List.getElem?_eq_getElem hv)
      rw [hvv] at this
      exact this
    exact ⟨t, xs, v, _, rfl, rfl, SqL.upd_ne hS ne, g, q v.toNat _ o (List.getElem?_eq_getElem hv) BO⟩
def atomV : V → Bool
  | .non => true
  | .bl _ => true
  | .int _ => true
  | .str _ => true
  | _ => false
def Lk (H : Hp) : Nat → V → V → Prop
  | 0, _, _ => False
  | n + 1, x, y => (x = y ∧ atomV x = true) ∨
    (∃ (a b : Addr) (xs ys : List V), x = .ref a ∧ y = .ref b ∧ H a = some (.lst xs) ∧ H b = some (.lst ys) ∧ xs.length = ys.length ∧ xs.length ≤ 1000 ∧ ∀ (i : Nat) u v, xs[i]? = some u → ys[i]? = some v → Lk H n u v) ∨
    (∃ (a b : Addr) (xs ys : List V), x = .ref a ∧ y = .ref b ∧ H a = some (.tup xs) ∧ H b = some (.tup ys) ∧ xs.length = ys.length ∧ xs.length ≤ 1000 ∧ ∀ (i : Nat) u v, xs[i]? = some u → ys[i]? = some v → Lk H n u v)
theorem Lk.same {H H' : Hp} (s : Same H H') : ∀ (n : Nat) (x y : V), Lk H n x y → Lk H' n x y
  | 0, _, _, h => h
  | n + 1, x, y, h => by
    rcases h with h | ⟨a, b, xs, ys, e1, e2, e3, e4, e5, e6, h⟩ | ⟨a, b, xs, ys, e1, e2, e3, e4, e5, e6, h⟩
    · exact .inl h
    · exact .inr (.inl ⟨a, b, xs, ys, e1, e2, s _ _ e3, s _ _ e4, e5, e6, fun i u v h1 h2 => Lk.same s n u v (h i u v h1 h2)⟩)
    · exact .inr (.inr ⟨a, b, xs, ys, e1, e2, s _ _ e3, s _ _ e4, e5, e6, fun i u v h1 h2 => Lk.same s n u v (h i u v h1 h2)⟩)
def spLike (n : Nat) : Sp := fun vs H Q _ => ∃ x y, vs = [x, y] ∧ Lk H n x y ∧ ∀ H', Same H H' → Q (.bl true) H'
theorem scLike : FnScope ["_law_found", "_law_due", "_law_one", "_law_other"] ["_law_found", "_law_due"] (defScope sLike) := ⟨rfl, rfl, rfl, by decide +kernel, rfl, by decide +kernel, by decide +kernel⟩
theorem walk_zipT {a b : Addr} {xs ys : List V} {n : Nat} (hn : n = min xs.length ys.length) : Walk (RZ.ItzT K a b) n (fun H => SqT K H a xs ∧ SqT K H b ys) (YPair (fun i => xs[i]?) (fun i => ys[i]?)) := by
  subst hn
  refine ⟨fun i H hi q => ?_, fun H q => ?_, fun i H x H' hi q y => ?_⟩
  · have h1 : i < xs.length := by omega
    have h2 : i < ys.length := by omega
    exact ⟨xs, ys, xs[i], ys[i], q.1, q.2, by simp [h1], by simp [h2]⟩
  · exact ⟨xs, ys, q.1, q.2, by omega⟩
  · obtain ⟨T, u, v, e1, e2, e3, g1, g2⟩ := y
    exact ⟨T, u, v, e1, e2, e3, g1 xs q.1, g2 ys q.2⟩
def tyV : V → String
  | .non => "NoneType"
  | .bl _ => "bool"
  | .int _ => "int"
  | .str _ => "str"
  | _ => "none"
theorem tyV_of {H : Hp} {x : V} (h : atomV x = true) : TyX K H x (.type (tyV x)) := by
  cases x with
  | non => exact .base .non
  | bl b => exact .base (.bl b)
  | int i => exact .base (.int i)
  | str z => exact .base (.str z)
  | _ => cases h
theorem tyV_cases {x : V} (h : atomV x = true) : tyV x = "NoneType" ∨ tyV x = "bool" ∨ tyV x = "int" ∨ tyV x = "str" := by
  cases x with
  | non => exact .inl rfl
  | bl b => exact .inr (.inl rfl)
  | int i => exact .inr (.inr (.inl rfl))
  | str z => exact .inr (.inr (.inr rfl))
  | _ => cases h
def isB (x : V) (T : String) : Bool := (kitB (tyV x) T).getD false
theorem isB_of {x : V} {T : String} (h : atomV x = true) (hT : T = "list" ∨ T = "tuple" ∨ T = "bool" ∨ T = "int" ∨ T = "str") : PySem.W.kitOne K (.type (tyV x)) (.type T) = some (isB x T) := by
  refine kit_ty ?_
  unfold isB
  rcases tyV_cases h with e | e | e | e <;> rw [e] <;> rcases hT with e | e | e | e | e <;> rw [e] <;> decide +kernel
theorem isB_no {x : V} (h : atomV x = true) : PySem.W.kitAny K (.type (tyV x)) [.type "list", .type "tuple"] = some false := by
  rcases tyV_cases h with e | e | e | e <;> rw [e]
  all_goals
    refine kitAny_cons (b := false) (kit_ty (by decide +kernel)) (fun _ => ?_) (fun z => by cases z)
    refine kitAny_cons (b := false) (kit_ty (by decide +kernel)) (fun _ => rfl) (fun z => by cases z)
theorem all_true (n : Nat) : (List.replicate n true).all id = true := by
  rw [List.all_replicate]
  simp
theorem like0 {f : Addr} {fd : FuncData} {k : Nat} (F : Fun K "_law_like" "_law_like" sLike f fd) : FnOk P w K mg base CX0 (k + 1) f fd ["_law_found", "_law_due"] (spLike 0) := by
  refine F.ok scLike (fun vs H Q E h => ?_) (fun cdv A outer s H vs Q E hr h => ?_)
  · obtain ⟨x, y, rfl, _⟩ := h
    rfl
  · obtain ⟨x, y, rfl, L, q⟩ := h
    exact L.elim
set_option maxHeartbeats 8000000 in
theorem ok_like {f : Addr} {fd : FuncData} {n k : Nat} (F : Fun K "_law_like" "_law_like" sLike f fd) (T : Bi mg) (c : 0 < n → C8.Cal P w K mg base (k + 1) "_law_like" (spLike (n - 1)) []) : FnOk P w K mg base CX0 (k + 2) f fd ["_law_found", "_law_due"] (spLike n) := by
  refine F.ok scLike (fun vs H Q E h => ?_) (fun cdv A outer s H vs Q E hr h => ?_)
  · obtain ⟨x, y, rfl, _⟩ := h
    rfl
  · obtain ⟨x, y, rfl, L, q⟩ := h
    cases n with
    | zero => exact L.elim
    | succ n =>
      have cc := c (Nat.succ_pos n)
      refine ⟨_, pss_cons (ps_if (pt_val (pe_callB call_isiT (by rfl) T.isi (by decide +kernel) (pa_cons (pv 1) (pa_cons (pe_tup (pa_cons (pe_bltn (v := .ty "list") (by rfl) T.list (by decide +kernel) rfl) (pa_cons (pe_bltn (v := .ty "tuple") (by rfl) T.tuple (by decide +kernel) rfl) pa_nil))) pa_nil))))
          (pss_cons (ps_if (PW.pt (pw_or (pt_cmpR op_ne (pe_callB call_isi (by rfl) T.isi (by decide +kernel) (pa_cons (pv 0) (pa_cons (pe_bltn (v := .ty "list") (by rfl) T.list (by decide +kernel) rfl) pa_nil))) (pe_callB call_isi (by rfl) T.isi (by decide +kernel) (pa_cons (pv 1) (pa_cons (pe_bltn (v := .ty "list") (by rfl) T.list (by decide +kernel) rfl) pa_nil))) (nomark _))
              (pw_or1 (pt_cmpR op_ne (pe_callB call_isi (by rfl) T.isi (by decide +kernel) (pa_cons (pv 0) (pa_cons (pe_bltn (v := .ty "tuple") (by rfl) T.tuple (by decide +kernel) rfl) pa_nil))) (pe_callB call_isi (by rfl) T.isi (by decide +kernel) (pa_cons (pv 1) (pa_cons (pe_bltn (v := .ty "tuple") (by rfl) T.tuple (by decide +kernel) rfl) pa_nil))) (nomark _))))) (pss_one (ps_ret pe_bl)) pss_nil)
          (pss_one (ps_ret (pe_and (pe_cmpR op_eq (pe_callB call_len_seq (by rfl) T.len PySem.boot_len (pa_cons (pv 0) pa_nil)) (pe_callB call_len_seq (by rfl) T.len PySem.boot_len (pa_cons (pv 1) pa_nil)) (nomark _))
            (pe_one (pe_callB (cr_all rfl) (by rfl) T.all (by decide +kernel) (pa_cons
              (pe_lc (own := [("_law_one", 2), ("_law_other", 3)]) (g := gTup K 2 (gCons (gName 2) (gCons (gName 3) gNil))) (tt := tYes) (te := tCall (spLike n) [] E0 (tCons (tVar 2) (tCons (tVar 3) tNil))) rfl scLike.nd (RZ.pi_zipA (by rfl) T.zip (pa_cons (pv 0) (pa_cons (pv 1) pa_nil)))
                (blkOk_by (N := ["_law_found", "_law_due", "_law_one", "_law_other"]) (sc := defScope sLike) (by decide +kernel))
                (fun _ _ _ _ _ => by exact pg_tup rfl (pgs_cons (pg_name (i := 2) scLike.nd rfl (Or.inl rfl)) (pgs_cons (pg_name (i := 3) scLike.nd rfl (Or.inl rfl)) pgs_nil)))
                (fun _ _ _ _ _ => pts_nil)
                (fun _ _ _ _ _ => by exact C8.pe_c cc hr (Nat.le_refl _) (by rfl) (pa_cons (pv 2) (pa_cons (pv 3) pa_nil)))) pa_nil))))))) pss_nil)
        (pss_cons (ps_if (PW.pt (pw_or (pt_cmpR op_isN (pv 0) pe_non (nomark _)) (pw_or1 (pt_cmpR op_isN (pv 1) pe_non (nomark _))))) (pss_one (ps_ret (pe_and (pe_cmpR op_isN (pv 0) pe_non (nomark _)) (pe_one (pe_cmpR op_isN (pv 1) pe_non (nomark _)))))) pss_nil)
        (pss_cons (ps_if (PW.pt (pw_or (pt_cmpR op_ne (pe_callB call_isi (by rfl) T.isi (by decide +kernel) (pa_cons (pv 0) (pa_cons (pe_bltn (v := .ty "bool") (by rfl) T.bool (by decide +kernel) rfl) pa_nil))) (pe_callB call_isi (by rfl) T.isi (by decide +kernel) (pa_cons (pv 1) (pa_cons (pe_bltn (v := .ty "bool") (by rfl) T.bool (by decide +kernel) rfl) pa_nil))) (nomark _))
              (pw_or1 (pt_cmpR op_ne (pe_callB call_isi (by rfl) T.isi (by decide +kernel) (pa_cons (pv 0) (pa_cons (pe_bltn (v := .ty "int") (by rfl) T.int (by decide +kernel) rfl) pa_nil))) (pe_callB call_isi (by rfl) T.isi (by decide +kernel) (pa_cons (pv 1) (pa_cons (pe_bltn (v := .ty "int") (by rfl) T.int (by decide +kernel) rfl) pa_nil))) (nomark _))))) (pss_one (ps_ret pe_bl)) pss_nil)
        (pss_one (ps_ret (pe_and (pe_cmpR op_eq (pe_callB call_isi (by rfl) T.isi (by decide +kernel) (pa_cons (pv 0) (pa_cons (pe_bltn (v := .ty "str") (by rfl) T.str (by decide +kernel) rfl) pa_nil))) (pe_callB call_isi (by rfl) T.isi (by decide +kernel) (pa_cons (pv 1) (pa_cons (pe_bltn (v := .ty "str") (by rfl) T.str (by decide +kernel) rfl) pa_nil))) (nomark _)) (pe_one (pe_cmpR op_eq (pv 0) (pv 1) (nomark _)))))))), ?_⟩
      rcases L with ⟨rfl, ha⟩ | ⟨a, b, xs, ys, rfl, rfl, ea, eb, hl, h1000, hp⟩ | ⟨a, b, xs, ys, rfl, rfl, ea, eb, hl, h1000, hp⟩
      · refine ⟨_, rfl, (by show 2 ≤ sizeLine; decide), fun t ht => ?_⟩
        have s1 := same_upd (o := .tup [.ty "list", .ty "tuple"]) ht
        refine ⟨x, t, _, _, _, _, rfl, upd_same, .cons (.ty _) (.cons (.ty _) .nil), tyV_of ha, isB_no ha, false, rfl, ?_⟩
        refine iteF ?_
        refine ⟨_, rfl, rfl, _, rfl, ?_⟩
        by_cases hx : x = .non
        · subst hx
          refine if_t (decide_eq_true rfl) (iteT ?_)
          exact ⟨_, rfl, rfl, _, rfl, if_t (decide_eq_true rfl) ⟨_, rfl, rfl, q _ s1⟩⟩
        · refine if_f (decide_eq_false hx) ⟨_, rfl, rfl, _, rfl, if_f (decide_eq_false hx) ?_⟩
          refine ⟨_, rfl, x, _, _, _, _, rfl, .ty _, tyV_of ha, isB_of ha (by simp), _, rfl, x, _, _, _, _, rfl, .ty _, tyV_of ha, isB_of ha (by simp), rfl, _, rfl, ?_⟩
          refine if_f (by simp) ?_
          refine ⟨_, rfl, x, _, _, _, _, rfl, .ty _, tyV_of ha, isB_of ha (by simp), _, rfl, x, _, _, _, _, rfl, .ty _, tyV_of ha, isB_of ha (by simp), rfl, _, rfl, ?_⟩
          refine if_f (by simp) ?_
          refine ⟨_, rfl, x, _, _, _, _, rfl, .ty _, tyV_of ha, isB_of ha (by simp), _, rfl, x, _, _, _, _, rfl, .ty _, tyV_of ha, isB_of ha (by simp), rfl, _, rfl, ?_⟩
          refine if_t (by simp) ?_
          refine ⟨_, rfl, _, rfl, ?_, ?_⟩
          · cases x <;> first | rfl | (cases ha)
          · rw [decide_eq_true rfl]
            exact q _ s1
      · refine ⟨_, rfl, (by show 2 ≤ sizeLine; decide), fun t ht => ?_⟩
        have s1 := same_upd (o := .tup [.ty "list", .ty "tuple"]) ht
        have ea1 := s1 _ _ ea
        have eb1 := s1 _ _ eb
        refine ⟨.ref b, t, _, _, _, _, rfl, upd_same, .cons (.ty _) (.cons (.ty _) .nil), .base (.lst eb1), kitAny_cons (b := true) (kit_ty (by decide +kernel)) (fun z => by cases z) (fun _ => rfl), true, rfl, ?_⟩
        refine iteT ?_
        refine ⟨_, rfl, _, _, _, _, true, rfl, .ty _, .base (.lst ea1), kit_ty (by decide +kernel), _, rfl, _, _, _, _, true, rfl, .ty _, .base (.lst eb1), kit_ty (by decide +kernel), rfl, _, rfl, ?_⟩
        refine if_f (by simp) ?_
        refine ⟨_, rfl, _, _, _, _, false, rfl, .ty _, .base (.lst ea1), kit_ty (by decide +kernel), _, rfl, _, _, _, _, false, rfl, .ty _, .base (.lst eb1), kit_ty (by decide +kernel), rfl, _, rfl, ?_⟩
        refine if_f (by simp) ?_
        refine ⟨_, rfl, a, xs, rfl, .inl (SqL.of ea1), _, rfl, b, ys, rfl, .inl (SqL.of eb1), rfl, _, rfl, ?_⟩
        refine if_t (by rw [hl]; exact decide_eq_true rfl) ?_
        refine ⟨_, rfl, _, rfl, a, b, xs, ys, rfl, .inl ⟨SqL.of ea1, SqL.of eb1, fun D hD => ?_⟩⟩
        have s2 := s1.trans (same_upd (o := .lst []) hD)
        refine lc_it (walk_zip (K := K) (a := a) (b := b) (xs := xs) (ys := ys) (n := xs.length) (by omega)) (fun i H' => Same H H' ∧ H' D = some (.lst ((List.replicate i true).map V.bl))) ⟨s2, upd_same⟩ (fun i H' _ p => ⟨SqL.of (p.1 _ _ ea), SqL.of (p.1 _ _ eb)⟩) ?_ ?_
        · rintro i v H1 H' hi ⟨sm, eD⟩ ⟨T, x, y, rfl, hT, rfl, gx, gy⟩
          have s3 := sm.trans (same_upd (o := .tup [x, y]) hT)
          refine ⟨T, _, rfl, SqT.of upd_same, rfl, _, _, rfl, _, _, rfl, rfl, rfl, ?_⟩
          refine ⟨_, rfl, _, rfl, x, y, rfl, Lk.same s3 n _ _ (hp i x y gx gy), fun H4 s4 => ?_⟩
          have eD4 : H4 D = some (.lst ((List.replicate i true).map V.bl)) := s4 _ _ (by rw [upd_ne (ne_of_none eD hT)]; exact eD)
          have nD : H D = none := s1.free hD
          refine ⟨_, eD4, ?_, ?_, ?_⟩
          · rw [List.length_map, List.length_replicate]
            exact small1000 (by omega)
          · intro c o ec
            rw [upd_ne (ne_of_none ec nD)]
            exact s4 _ _ (s3 _ _ ec)
          · rw [upd_same, List.replicate_succ', List.map_append]
            rfl
        · rintro H' ⟨sm, eD⟩
          refine ⟨D, List.replicate xs.length true, rfl, SqL.of eD, ?_⟩
          rw [all_true]
          exact q H' sm
      · refine ⟨_, rfl, (by show 2 ≤ sizeLine; decide), fun t ht => ?_⟩
        have s1 := same_upd (o := .tup [.ty "list", .ty "tuple"]) ht
        have ea1 := s1 _ _ ea
        have eb1 := s1 _ _ eb
        refine ⟨.ref b, t, _, _, _, _, rfl, upd_same, .cons (.ty _) (.cons (.ty _) .nil), .base (.tup eb1), kitAny_cons (b := false) (kit_ty (by decide +kernel)) (fun _ => kitAny_cons (b := true) (kit_ty (by decide +kernel)) (fun z => by cases z) (fun _ => rfl)) (fun z => by cases z), true, rfl, ?_⟩
        refine iteT ?_
        refine ⟨_, rfl, _, _, _, _, false, rfl, .ty _, .base (.tup ea1), kit_ty (by decide +kernel), _, rfl, _, _, _, _, false, rfl, .ty _, .base (.tup eb1), kit_ty (by decide +kernel), rfl, _, rfl, ?_⟩
        refine if_f (by simp) ?_
        refine ⟨_, rfl, _, _, _, _, true, rfl, .ty _, .base (.tup ea1), kit_ty (by decide +kernel), _, rfl, _, _, _, _, true, rfl, .ty _, .base (.tup eb1), kit_ty (by decide +kernel), rfl, _, rfl, ?_⟩
        refine if_f (by simp) ?_
        refine ⟨_, rfl, a, xs, rfl, .inr (SqT.of ea1), _, rfl, b, ys, rfl, .inr (SqT.of eb1), rfl, _, rfl, ?_⟩
        refine if_t (by rw [hl]; exact decide_eq_true rfl) ?_
        refine ⟨_, rfl, _, rfl, a, b, xs, ys, rfl, .inr ⟨SqT.of ea1, SqT.of eb1, fun D hD => ?_⟩⟩
        have s2 := s1.trans (same_upd (o := .lst []) hD)
        refine lc_it (walk_zipT (K := K) (a := a) (b := b) (xs := xs) (ys := ys) (n := xs.length) (by omega)) (fun i H' => Same H H' ∧ H' D = some (.lst ((List.replicate i true).map V.bl))) ⟨s2, upd_same⟩ (fun i H' _ p => ⟨SqT.of (p.1 _ _ ea), SqT.of (p.1 _ _ eb)⟩) ?_ ?_
        · rintro i v H1 H' hi ⟨sm, eD⟩ ⟨T, x, y, rfl, hT, rfl, gx, gy⟩
          have s3 := sm.trans (same_upd (o := .tup [x, y]) hT)
          refine ⟨T, _, rfl, SqT.of upd_same, rfl, _, _, rfl, _, _, rfl, rfl, rfl, ?_⟩
          refine ⟨_, rfl, _, rfl, x, y, rfl, Lk.same s3 n _ _ (hp i x y gx gy), fun H4 s4 => ?_⟩
          have eD4 : H4 D = some (.lst ((List.replicate i true).map V.bl)) := s4 _ _ (by rw [upd_ne (ne_of_none eD hT)]; exact eD)
          have nD : H D = none := s1.free hD
          refine ⟨_, eD4, ?_, ?_, ?_⟩
          · rw [List.length_map, List.length_replicate]
            exact small1000 (by omega)
          · intro c o ec
            rw [upd_ne (ne_of_none ec nD)]
            exact s4 _ _ (s3 _ _ ec)
          · rw [upd_same, List.replicate_succ', List.map_append]
            rfl
        · rintro H' ⟨sm, eD⟩
          refine ⟨D, List.replicate xs.length true, rfl, SqL.of eD, ?_⟩
          rw [all_true]
          exact q H' sm
end
end Lw
end
section
namespace Lw
open PySem L2
abbrev Es := List (Addr × Int × Int)
def Ed (H : Hp) (ts : Es) : Prop := ∀ e ∈ ts, H e.1 = some (.tup [.int e.2.1, .int e.2.2])
def vsOf (ts : Es) : List V := ts.map fun e => .ref e.1
def psOf (ts : Es) : List (Int × Int) := ts.map (·.2)
def KeepB (b : Addr) (H H' : Hp) : Prop := ∀ c o, c ≠ b → H c = some o → H' c = some o
theorem KeepB.trans {b : Addr} {H H1 H2 : Hp} (x : KeepB b H H1) (y : KeepB b H1 H2) : KeepB b H H2 := fun c o n e => y c o n (x c o n e)
theorem KeepB.of_same {b : Addr} {H H' : Hp} (s : Same H H') : KeepB b H H' := fun c o _ e => s c o e
theorem KeepB.updb {b : Addr} {H : Hp} {o : HO} : KeepB b H (upd H b o) := fun c o n e => by
  rw [upd_ne n]
  exact e
theorem KeepB.new {b p : Addr} {H H' : Hp} {o : HO} (x : KeepB b H H') (n : H' p = none) : KeepB b H (upd H' p o) := x.trans (.of_same (same_upd n))
theorem KeepB.at {b p : Addr} {H H' : Hp} {o : HO} (x : KeepB b H H') (n : H p = none) : KeepB b H (upd H' p o) := fun c o' nb e => by
  rw [upd_ne (ne_of_none e n)]
  exact x c o' nb e
theorem KeepB.free {b p : Addr} {H H' : Hp} {ob : HO} (x : KeepB b H H') (hb : H' b = some ob) (n : H' p = none) : H p = none := by
  cases e : H p with
  | none => rfl
  | some o =>
    have np : p ≠ b := fun z => by
      rw [z, hb] at n
      cases n
    rw [x p o np e] at n
    cases n
theorem BagAt.at_b {H : Hp} {b l : Addr} {ns : List Int} (B : BagAt H b l ns) : ∃ xs, H b = some (.lst xs) := by
  obtain ⟨o, ho, i, r, s, rfl, _⟩ := B.ob
  exact ⟨_, ho⟩
theorem BagAt.ne_tup {H : Hp} {b l c : Addr} {ns : List Int} {xs : List V} (B : BagAt H b l ns) (h : H c = some (.tup xs)) : c ≠ b := fun e => by
  obtain ⟨ys, hb⟩ := B.at_b
  rw [e, hb] at h
  cases h
theorem BagAt.ne_new {H : Hp} {b l c : Addr} {ns : List Int} (B : BagAt H b l ns) (h : H c = none) : c ≠ b := fun e => by
  obtain ⟨ys, hb⟩ := B.at_b
  rw [e, hb] at h
  cases h
theorem vsOf_cons_ne {l : Addr} {ts : Es} {i : Nat} {r s : Int} : vsOf ts ≠ [.ref l, .int (i : Int), .int r, .int s] := fun e => by
  have h : (vsOf ts)[1]? = some (V.int (i : Int)) := by rw [e]; rfl
  unfold vsOf at h
  rw [List.getElem?_map] at h
  cases g : ts[1]? with
  | none => rw [g] at h; cases h
  | some x => rw [g] at h; cases h
theorem BagAt.ne_vs {H : Hp} {b l c : Addr} {ns : List Int} {ts : Es} (B : BagAt H b l ns) (h : H c = some (.lst (vsOf ts))) : c ≠ b := fun e => by
  obtain ⟨o, ho, i, r, s, rfl, _⟩ := B.ob
  rw [e, ho] at h
  injection h with h
  injection h with h
  exact vsOf_cons_ne h.symm
theorem Ed.keep {H H' : Hp} {b l : Addr} {ns : List Int} {ts : Es} (h : Ed H ts) (B : BagAt H b l ns) (k : KeepB b H H') : Ed H' ts := fun e he => k _ _ (B.ne_tup (h e he)) (h e he)
theorem Ed.same {H H' : Hp} {ts : Es} (h : Ed H ts) (k : Same H H') : Ed H' ts := fun e he => k _ _ (h e he)
theorem Ed.app {H : Hp} {ts us : Es} (h : Ed H ts) (h2 : Ed H us) : Ed H (ts ++ us) := fun e he => (List.mem_append.mp he).elim (h e) (h2 e)
theorem Ed.nil {H : Hp} : Ed H [] := fun e he => nomatch he
theorem Ed.one {H : Hp} {t : Addr} {x y : Int} (h : H t = some (.tup [.int x, .int y])) : Ed H [(t, x, y)] := fun e he => by
  have z := List.mem_singleton.mp he
  subst z
  exact h
theorem BagAt.new {H : Hp} {b l p : Addr} {ns : List Int} {o : HO} (B : BagAt H b l ns) (n : H p = none) : BagAt (L2.upd H p o) b l ns := B.same (same_upd n)
theorem BagAt.off {H : Hp} {b l p : Addr} {ns : List Int} {o : HO} (B : BagAt H b l ns) (nb : p ≠ b) (nl : p ≠ l) : BagAt (L2.upd H p o) b l ns := by
  obtain ⟨ob, hob, hB⟩ := B.ob
  exact ⟨⟨ob, by rw [upd_ne nb.symm]; exact hob, hB⟩, by rw [upd_ne nl.symm]; exact B.sc, B.ln⟩
structure Valid (n : Int) (ts : Es) : Prop where
  rg : ∀ e ∈ ts, 0 ≤ e.2.1 ∧ e.2.1 < n ∧ 0 ≤ e.2.2 ∧ e.2.2 < n
  sr : ∀ k : Int, 0 ≤ k → k < n → ∃ e ∈ ts, e.2.1 = k
structure PlanAt (H : Hp) (p q : Addr) (n : Int) (ts : Es) : Prop where
  tp : H p = some (.tup [.int n, .ref q])
  ls : H q = some (.lst (vsOf ts))
  ed : Ed H ts
  va : Valid n ts
  n1 : 1 ≤ n
def spPlan : Sp := fun vs H Q _ => ∃ (b l : Addr) (ns : List Int) (most many : Int), vs = [.ref b, .int most, .int many] ∧ BagAt H b l ns ∧ 1 ≤ most ∧ most ≤ many ∧ many ≤ 100 ∧
  ∀ (p q : Addr) (n : Int) (ts : Es) (H' : Hp), KeepB b H H' → BagAt H' b l ns → H p = none → H q = none → PlanAt H' p q n ts → n ≤ most → (ts.length : Int) ≤ many → Q (.ref p) H'
theorem cut_lo {xs : List V} {k : Nat} (h : k ≤ xs.length) : cutV xs none (some (k : Int)) = xs.take k := by
  unfold cutV
  rw [HT.sIx_none, HT.sIx_nat, Nat.min_eq_left h]
  simp
theorem cut_hi {xs : List V} {k : Nat} (h : k ≤ xs.length) : cutV xs (some (k : Int)) none = xs.drop k := by
  unfold cutV
  rw [HT.sIx_none, HT.sIx_nat, Nat.min_eq_left h]
  rw [List.take_of_length_le]
  rw [List.length_drop]
  exact Nat.le_refl _
section
variable {P : Program} {w : World} {K : PySem.W.Frag} {mg : Str → Option Value} {base : Heap}
theorem scPlan : FnScope ["_law_bag_here", "_law_most", "_law_many", "_law_size", "_law_pairs", "_law_k", "_law_at", "_law_state"] ["_law_bag_here", "_law_most", "_law_many"] (defScope sPlan) := ⟨rfl, rfl, rfl, by decide +kernel, rfl, by decide +kernel, by decide +kernel⟩
set_option maxHeartbeats 8000000 in
theorem ok_plan {f : Addr} {fd : FuncData} {k : Nat} (F : Fun K "_law_plan" "_law_plan" sPlan f fd) (T : Bi mg) (cP : C8.Cal P w K mg base 1 "_law_pull" spPull []) : FnOk P w K mg base CX0 (k + 2) f fd ["_law_bag_here", "_law_most", "_law_many"] spPlan := by
  refine F.ok scPlan (fun vs H Q E h => ?_) (fun cdv A outer s H vs Q E hr h => ?_)
  · obtain ⟨b, l, ns, m1, m2, rfl, _⟩ := h
    rfl
  · obtain ⟨b, l, ns, most, many, rfl, B, hm1, hm2, hm3, q⟩ := h
    have hk : 1 ≤ k + 1 := Nat.le_add_left 1 k
    refine ⟨_, pss_cons (ps_set (i := 3) scPlan.nd rfl (Or.inr rfl) (pe_op op_add pe_int (C8.pe_c cP hr hk (by rfl) (pa_cons (pv 0) (pa_cons (pv 1) pa_nil)))))
      (pss_cons (ps_setLc (i := 4) (own := [("_law_state", 7)]) (g := gName 7) (tt := tYes) (te := tTup (tCons (tVar 7) (tCons (tCall spPull [] E0 (tCons (tVar 0) (tCons (tVar 3) tNil))) tNil))) rfl scPlan.nd rfl rfl (sw_true rfl rfl rfl (by decide +kernel))
          (pi_range1 (by rfl) T.range (pa_cons (pv 3) pa_nil))
          (blkOk_by (N := ["_law_bag_here", "_law_most", "_law_many", "_law_size", "_law_pairs", "_law_k", "_law_at", "_law_state"]) (sc := defScope sPlan) (by decide +kernel))
          (fun _ _ _ _ _ => by exact pg_name (i := 7) scPlan.nd rfl (Or.inl rfl))
          (fun _ _ _ _ _ => pts_nil)
          (fun _ _ _ _ _ => by exact pe_tup (pa_cons (pv 7) (pa_cons (C8.pe_c cP hr hk (by rfl) (pa_cons (pv 0) (pa_cons (pv 3) pa_nil))) pa_nil))))
      (pss_cons (ps_for PassesOwn.never rfl (pi_range1 (by rfl) T.range (pa_cons (C8.pe_c cP hr hk (by rfl) (pa_cons (pv 0) (pa_cons (pe_op op_add (pe_op op_sub (pv 2) (pv 3)) pe_int) pa_nil))) pa_nil)) (pg_name (i := 5) scPlan.nd rfl (Or.inl rfl))
        (pss_cons (ps_set (i := 6) scPlan.nd rfl (Or.inl rfl) (C8.pe_c cP hr hk (by rfl) (pa_cons (pv 0) (pa_cons (pe_op op_add (pe_callB call_len_seq (by rfl) T.len PySem.boot_len (pa_cons (pv 4) pa_nil)) pe_int) pa_nil))))
        (pss_one (ps_set (i := 4) scPlan.nd rfl (Or.inl rfl) (pe_op op_cat (pe_op op_cat (pe_slice sl_list (pv 4) po_none (po_some (pv 6)))
          (pe_lst (pa_cons (pe_tup (pa_cons (C8.pe_c cP hr hk (by rfl) (pa_cons (pv 0) (pa_cons (pv 3) pa_nil))) (pa_cons (C8.pe_c cP hr hk (by rfl) (pa_cons (pv 0) (pa_cons (pv 3) pa_nil))) pa_nil))) pa_nil)))
          (pe_slice sl_list (pv 4) (po_some (pv 6)) po_none))))))
      (pss_one (ps_ret (pe_tup (pa_cons (pv 3) (pa_cons (pv 4) pa_nil))))))), ?_⟩
    -- size
    refine ⟨_, rfl, _, rfl, b, l, ns, most, rfl, B, by omega, by omega, fun v o v0 v1 BO => ?_⟩
    refine ⟨_, _, rfl, rfl, ?_⟩
    have B1 := B.upd BO
    have k1 : KeepB b H (upd H b o) := .updb
    have hv0 : 0 ≤ 1 + v := by omega
    -- pairs: the comprehension
    refine ⟨_, rfl, 1 + v, rfl, by omega, by omega, fun D hD => ?_⟩
    have hbD : D ≠ b := B1.ne_new hD
    have nD : H D = none := by
      rw [upd_ne hbD] at hD
      exact hD
    refine lc_it (walk_range (lo := 0) (n := (1 + v).toNat)) (fun i H' => ∃ ts : Es, ts.length = i ∧ KeepB b H H' ∧ BagAt H' b l ns ∧ H' D = some (.lst (vsOf ts)) ∧ Ed H' ts ∧ ∀ (j : Nat) (e : Addr × Int × Int), ts[j]? = some e → e.2.1 = (j : Int) ∧ 0 ≤ e.2.2 ∧ e.2.2 < 1 + v)
      ⟨[], rfl, k1.new hD, B1.new hD, upd_same, .nil, fun j e he => by simp at he⟩ (fun _ _ _ _ => True.intro) ?_ ?_
    · rintro i x H1 H' hi ⟨ts, hts, kp, Bi, eD, ed, hj⟩ ⟨rfl, rfl⟩
      refine ⟨rfl, ?_⟩
      refine ⟨_, rfl, _, rfl, _, rfl, b, l, ns, _, rfl, Bi, by omega, by omega, fun v2 o2 v20 v21 BO2 => ?_⟩
      refine ⟨(by show 2 ≤ sizeLine; decide), fun t ht => ?_⟩
      have B2 := Bi.upd BO2
      have B3 := B2.new (o := .tup [.int (0 + (i : Int)), .int v2]) ht
      have ed3 : Ed (upd (upd H' b o2) t (.tup [.int (0 + (i : Int)), .int v2])) ts := (ed.keep Bi .updb).same (same_upd ht)
      have eD2 : upd H' b o2 D = some (.lst (vsOf ts)) := by
        rw [upd_ne hbD]
        exact eD
      have tD : D ≠ t := ne_of_none eD2 ht
      refine ⟨vsOf ts, by rw [upd_ne tD]; exact eD2, ?_, ts ++ [(t, (i : Int), v2)], by simp [hts], ?_, ?_, ?_, ?_, ?_⟩
      · unfold vsOf
        rw [List.length_map]
        exact small1000 (by omega)
      · exact ((kp.trans .updb).new ht).at nD
      · exact B3.off hbD (ne_of_none B.sc nD).symm
      · rw [upd_same]
        unfold vsOf
        rw [List.map_append]
        rfl
      · refine Ed.app (fun e he => ?_) (.one ?_)
        · have h1 := ed3 e he
          rw [upd_ne (fun z => ?_)]
          · exact h1
          · rw [z, upd_ne tD, eD2] at h1
            cases h1
        · rw [upd_ne (Ne.symm tD), upd_same]
          show some (HO.tup [V.int (0 + (i : Int)), V.int v2]) = _
          rw [Int.zero_add]
      · intro j e he
        by_cases hlt : j < ts.length
        · rw [List.getElem?_append_left hlt] at he
          exact hj j e he
        · rw [List.getElem?_append_right (by omega)] at he
          cases hz : j - ts.length with
          | zero =>
            rw [hz] at he
            have z : (t, (i : Int), v2) = e := Option.some.inj he
            subst z
            exact ⟨by show (i : Int) = (j : Int); omega, v20, v21⟩
          | succ m =>
            rw [hz] at he
            cases he
    · rintro H1 ⟨ts, hts, kp, Bi, eD, ed, hj⟩
      have va : Valid (1 + v) ts := by
        refine ⟨fun e he => ?_, fun k k0 k1 => ?_⟩
        · obtain ⟨j, hjl, hje⟩ := List.getElem_of_mem he
          have h1 := hj j e (by rw [List.getElem?_eq_getElem hjl, hje])
          exact ⟨by omega, by omega, h1.2.1, h1.2.2⟩
        · have hk' : k.toNat < ts.length := by omega
          have h1 := hj k.toNat ts[k.toNat] (List.getElem?_eq_getElem hk')
          exact ⟨ts[k.toNat], List.getElem_mem hk', by rw [h1.1]; omega⟩
      -- the loop
      have ln1 : (ts.length : Int) = 1 + v := by omega
      refine ⟨_, rfl, _, rfl, _, rfl, _, _, rfl, rfl, _, _, rfl, rfl, b, l, ns, _, rfl, Bi, by omega, by omega, fun r o2 r0 r1 BO2 => ?_⟩
      refine ⟨r, rfl, by omega, by omega, ?_⟩
      refine for_it (walk_range (lo := 0) (n := r.toNat)) (fun i σ H' => ∃ (us : Es) (qa : Addr) (v5 v6 v7 : Option V), σ = [some (.ref b), some (.int most), some (.int many), some (.int (1 + v)), some (.ref qa), v5, v6, v7] ∧
          (us.length : Int) = 1 + v + (i : Int) ∧ KeepB b H H' ∧ BagAt H' b l ns ∧ H qa = none ∧ H' qa = some (.lst (vsOf us)) ∧ Ed H' us ∧ Valid (1 + v) us)
        ⟨ts, D, none, none, none, rfl, by omega, kp.trans .updb, Bi.upd BO2, nD, by rw [upd_ne hbD]; exact eD, ed.keep Bi .updb, va⟩ (fun _ _ _ _ _ => True.intro) ?_ ?_
      · rintro i x σ H2 H' hi ⟨us, qa, v5, v6, v7, rfl, hus, kp2, B2, nq, eq, ed2, va2⟩ ⟨rfl, rfl⟩
        have qb : qa ≠ b := B2.ne_vs eq
        -- at = pull(bag, len(pairs) + 1)
        refine ⟨_, rfl, _, rfl, qa, _, rfl, .inl (SqL.of eq), _, _, rfl, rfl, b, l, ns, _, rfl, B2, ?_, ?_, fun at_ o3 a0 a1 BO3 => ?_⟩
        · show (0 : Int) < ((vsOf us).length : Int) + 1
          omega
        · show ((vsOf us).length : Int) + 1 < 2 ^ 100
          unfold vsOf
          rw [List.length_map]
          omega
        have a1' : at_ < (us.length : Int) + 1 := by
          have z : at_ < ((vsOf us).length : Int) + 1 := a1
          unfold vsOf at z
          rw [List.length_map] at z
          exact z
        have hat : ((at_.toNat : Nat) : Int) = at_ := Int.toNat_of_nonneg a0
        have hatl : at_.toNat ≤ (vsOf us).length := by
          unfold vsOf
          rw [List.length_map]
          omega
        have B3 := B2.upd BO3
        have eq3 : upd H' b o3 qa = some (.lst (vsOf us)) := by
          rw [upd_ne qb]
          exact eq
        have ed3 : Ed (upd H' b o3) us := ed2.keep B2 .updb
        have kp3 : KeepB b H (upd H' b o3) := kp2.trans .updb
        generalize upd H' b o3 = H3 at *
        -- pairs[:at]
        refine ⟨_, rfl, _, rfl, at_, rfl, qa, _, rfl, SqL.of eq3, fun p1 hp1 => ?_⟩
        rw [← hat, cut_lo hatl]
        have B4 := B3.new (o := .lst ((vsOf us).take at_.toNat)) hp1
        have kp4 := kp3.new (o := .lst ((vsOf us).take at_.toNat)) hp1
        have s4 := same_upd (o := .lst ((vsOf us).take at_.toNat)) hp1
        have eq4 := s4 _ _ eq3
        have ed4 := ed3.same s4
        have e14 : upd H3 p1 (.lst ((vsOf us).take at_.toNat)) p1 = some (.lst ((vsOf us).take at_.toNat)) := upd_same
        generalize upd H3 p1 (.lst ((vsOf us).take at_.toNat)) = H4 at *
        -- the new edge
        refine ⟨_, rfl, _, rfl, b, l, ns, _, rfl, B4, by omega, by omega, fun x1 o5 x10 x11 BO5 => ?_⟩
        have B5 := B4.upd BO5
        have p1b : p1 ≠ b := B3.ne_new hp1
        refine ⟨_, rfl, _, rfl, b, l, ns, _, rfl, B5, by omega, by omega, fun x2 o6 x20 x21 BO6 => ?_⟩
        have B6 := B5.upd BO6
        have kp6 : KeepB b H4 (upd (upd H4 b o5) b o6) := KeepB.updb.trans .updb
        have ed6 := ed4.keep B4 kp6
        have eq6 := kp6 _ _ qb eq4
        have e16 := kp6 _ _ p1b e14
        have kp6' := kp4.trans kp6
        generalize upd (upd H4 b o5) b o6 = H6 at *
        refine ⟨(by show 2 ≤ sizeLine; decide), fun t ht => ?_⟩
        have s7 := same_upd (o := .tup [.int x1, .int x2]) ht
        have B7 := B6.same s7
        have e7 : upd H6 t (.tup [.int x1, .int x2]) t = some (.tup [.int x1, .int x2]) := upd_same
        have kp7 := kp6'.trans (.of_same s7)
        have eq7 := s7 _ _ eq6
        have e17 := s7 _ _ e16
        have ed7 := ed6.same s7
        generalize upd H6 t (.tup [.int x1, .int x2]) = H7 at *
        refine ⟨(by show 1 ≤ sizeLine; decide), fun p2 hp2 => ?_⟩
        have s8 := same_upd (o := .lst [.ref t]) hp2
        have e8 : upd H7 p2 (.lst [.ref t]) p2 = some (.lst [.ref t]) := upd_same
        have B8 := B7.same s8
        have kp8 := kp7.trans (.of_same s8)
        have eq8 := s8 _ _ eq7
        have e18 := s8 _ _ e17
        have et8 := s8 _ _ e7
        have ed8 := ed7.same s8
        generalize upd H7 p2 (.lst [.ref t]) = H8 at *
        have hsz : ∀ m : Nat, m ≤ 1000 → m ≤ sizeLine := fun m h => Nat.le_of_lt (small1000 h)
        have lus : us.length ≤ 200 := by omega
        have lvs : (vsOf us).length = us.length := by
          unfold vsOf
          rw [List.length_map]
        refine ⟨p1, p2, _, _, rfl, rfl, e18, e8, hsz _ (by simp; omega), fun p3 hp3 => ?_⟩
        have s9 := same_upd (o := .lst ((vsOf us).take at_.toNat ++ [.ref t])) hp3
        have e9 : upd H8 p3 (.lst ((vsOf us).take at_.toNat ++ [.ref t])) p3 = some (.lst ((vsOf us).take at_.toNat ++ [.ref t])) := upd_same
        have B9 := B8.same s9
        have kp9 := kp8.trans (.of_same s9)
        have eq9 := s9 _ _ eq8
        have et9 := s9 _ _ et8
        have ed9 := ed8.same s9
        generalize upd H8 p3 (.lst ((vsOf us).take at_.toNat ++ [.ref t])) = H9 at *
        refine ⟨_, rfl, _, rfl, _, rfl, qa, _, rfl, SqL.of eq9, fun p4 hp4 => ?_⟩
        rw [cut_hi hatl]
        have s10 := same_upd (o := .lst ((vsOf us).drop at_.toNat)) hp4
        have e10 : upd H9 p4 (.lst ((vsOf us).drop at_.toNat)) p4 = some (.lst ((vsOf us).drop at_.toNat)) := upd_same
        have B10 := B9.same s10
        have kp10 := kp9.trans (.of_same s10)
        have e910 := s10 _ _ e9
        have et10 := s10 _ _ et9
        have ed10 := ed9.same s10
        generalize upd H9 p4 (.lst ((vsOf us).drop at_.toNat)) = H10 at *
        refine ⟨p3, p4, _, _, rfl, rfl, e910, e10, hsz _ (by simp; omega), fun p5 hp5 => ?_⟩
        have s11 := same_upd (o := .lst ((vsOf us).take at_.toNat ++ [.ref t] ++ (vsOf us).drop at_.toNat)) hp5
        obtain ⟨yb, hyb⟩ := B10.at_b
        refine ⟨us.take at_.toNat ++ [(t, x1, x2)] ++ us.drop at_.toNat, p5, _, _, _, rfl, ?_, kp10.trans (.of_same s11), B10.same s11, kp10.free hyb hp5, ?_, ?_, ?_⟩
        · simp
          omega
        · rw [upd_same]
          unfold vsOf
          rw [List.map_append, List.map_append, List.map_take, List.map_drop]
          rfl
        · have f1 : Ed H10 (us.take at_.toNat) := fun e he => ed10 e (List.mem_of_mem_take he)
          have f2 : Ed H10 (us.drop at_.toNat) := fun e he => ed10 e (List.mem_of_mem_drop he)
          exact Ed.same (Ed.app (Ed.app f1 (.one et10)) f2) s11
        · refine ⟨fun e he => ?_, fun kk k0 k1 => ?_⟩
          · rw [List.mem_append, List.mem_append] at he
            rcases he with (he | he) | he
            · exact va2.rg e (List.mem_of_mem_take he)
            · have z := List.mem_singleton.mp he
              subst z
              exact ⟨x10, x11, x20, x21⟩
            · exact va2.rg e (List.mem_of_mem_drop he)
          · obtain ⟨e, he, hk2⟩ := va2.sr kk k0 k1
            refine ⟨e, ?_, hk2⟩
            rw [← List.take_append_drop at_.toNat us, List.mem_append] at he
            rw [List.mem_append, List.mem_append]
            exact he.elim (fun z => .inl (.inl z)) .inr
      · rintro σ H2 ⟨us, qa, v5, v6, v7, rfl, hus, kp2, B2, nq, eq, ed2, va2⟩
        refine ⟨_, rfl, _, rfl, (by show 2 ≤ sizeLine; decide), fun p hp => ?_⟩
        obtain ⟨yb, hyb⟩ := B2.at_b
        have s1 := same_upd (o := .tup [.int (1 + v), .ref qa]) hp
        exact q p qa (1 + v) us _ (kp2.trans (.of_same s1)) (B2.same s1) (kp2.free hyb hp) nq ⟨upd_same, s1 _ _ eq, ed2.same s1, va2, by omega⟩ (by omega) (by omega)
end
end Lw
end
section
namespace Lw
open PySem PySem.Spec PyProof.Rows L2
abbrev itO (l : Addr) : Obj := { cls := .type "tuple_iterator", data := .fields #[.ref l, .int 0 0] }
abbrev enO (i : Addr) : Obj := { cls := .type "enumerate", data := .fields #[.none, .bool false, .ref i, rawInt 0, .none, .none] }
theorem enumT_new (l : Addr) (o : Obj) (items : Array Value) (n : Nat) (hc : o.cls = .type "tuple") (hd : o.data = .seq items n) :
    Meets (Builtin.«enumerate.__new__» ⟨[.type "enumerate", .ref l], []⟩) (fun _ R s => s.heap.get? l = some o ∧
      R (.ok (.ret (.ref (s.heap.push (itO l)).objs.size))) { s with heap := (s.heap.push (itO l)).push (enO s.heap.objs.size) }) := by
  obtain ⟨oc, dct, dt, sl⟩ := o
  dsimp only at hc hd
  subst hc hd
  refine .of_wp fun P w A R s hyp => ?_
  rcases s with ⟨h, gn, dr, tk, os⟩
  rcases hyp with ⟨hl, fin⟩
  have sub := sub_enumerate
  have isT : Heap.IsTuple (Shared.heap ⟨h, gn, dr, tk, os⟩) l items := ⟨_, hl, rfl, n, rfl⟩
  wp_walk using AutoSeq1.wpAny_loadPart' hl
  refine wpAny_stack_any fun st => wpAny_pure ?_
  split
  next c _ _ _ _ _ => cases (c == Value.type "enumerate") <;> (wp_walk using AutoSeq1.wpAny_loadPart' hl, wpAny_pyIter_tuple isT) <;> exact ⟨_, rfl, fin⟩
  next => (wp_walk using AutoSeq1.wpAny_loadPart' hl, wpAny_pyIter_tuple isT) <;> exact ⟨_, rfl, fin⟩
theorem enumT_call {P : Program} {w : World} {A : Around} {E : Value → Shared → Prop} {s : Shared} {l : Addr} {items : Array Value} {Q : Value → Shared → Prop} (hL : s.heap.IsTuple l items)
    (h : IsEnum ((s.heap.push (itO l)).push (enO s.heap.objs.size)) (s.heap.objs.size + 1) s.heap.objs.size 0 .none → Heap.IsTupleIter ((s.heap.push (itO l)).push (enO s.heap.objs.size)) s.heap.objs.size l 0 →
      Q (.ref (s.heap.objs.size + 1)) { s with heap := (s.heap.push (itO l)).push (enO s.heap.objs.size) }) :
    wpAny (model P w) A (call (.type "enumerate") [.ref l]) Q E s := by
  obtain ⟨o, get, cls, n, dat⟩ := hL
  have size1 : (s.heap.push (itO l)).objs.size = s.heap.objs.size + 1 := Heap.size_push ..
  have en : IsEnum ((s.heap.push (itO l)).push (enO s.heap.objs.size)) (s.heap.objs.size + 1) s.heap.objs.size 0 .none := by
    rw [← size1]
    exact Heap.get?_push_size _ rfl
  have it : Heap.IsTupleIter ((s.heap.push (itO l)).push (enO s.heap.objs.size)) s.heap.objs.size l 0 := ⟨itO l, Heap.get?_push_of_some _ (Heap.get?_push_size _ rfl), rfl, rfl⟩
  refine callType_new F.called_enumerate (by decide) (F.typeCall_enumerate_1 _) (F.newCall_enumerate_1 _) (F.args_object_init_2 · _) F.entry_enumerate_new (enumT_new l o items n cls dat) ⟨get, ?_⟩
  rw [size1]
  exact ⟨⟨_, en, rfl⟩, h en it⟩
def IteT (K : PySem.W.Frag) (a : Addr) : It where
  go i H := ∃ (xs : List V) (x : V), SqT K H a xs ∧ xs[i]? = some x
  yld i H v H' := ∃ T x, v = .ref T ∧ H T = none ∧ H' = upd H T (.tup [.int (i : Nat), x]) ∧ ∀ xs, SqT K H a xs → xs[i]? = some x
  stop i H := ∃ xs : List V, SqT K H a xs ∧ xs.length ≤ i
structure EnAt (a e it : Addr) (i : Nat) (h : Heap) : Prop where
  en : ∃ old, IsEnum h e it ((i : Nat) : Int) old
  itr : h.IsTupleIter it a i
  ne : e ≠ it ∧ e ≠ a
theorem two {e it b : Addr} (h : b ∈ [e, it]) : b = e ∨ b = it := by
  simp only [List.mem_cons, List.not_mem_nil, or_false] at h
  exact h
theorem EnAt.keep {a e it : Addr} {i : Nat} {h h' : Heap} (z : EnAt a e it i h) (k : ∀ b ∈ [e, it], ∀ o, h.get? b = some o → h'.get? b = some o) : EnAt a e it i h' := by
  obtain ⟨old, he⟩ := z.en
  exact ⟨⟨old, k e (.head _) _ he⟩, z.itr.at (k it (.tail _ (.head _))), z.ne⟩
theorem enumT_item {X : Cx} {elts : List Expr} {kk : Nat} {tpos : Pos} {a e it : Addr} (ai : a ≠ it) (calm : X.calm = true) {i : Nat} {pins : List (Addr × Obj)} {s : Shared} {σ : L2.St} {H : Hp} {E : Value → Shared → Prop} (I : Inv X pins σ H s)
    (off : ∀ b ∈ [e, it], FpOk X pins H b) (z : EnAt a e it i s.heap) {xs : List V} {x : V} (hq : SqT X.K H a xs) (hx : xs[i]? = some x) :
    wpAny (model X.prog X.w) X.A (pyNext (.ref e)) (fun r s1 => ∃ u, r = some u ∧ wpAny (model X.prog X.w) X.A (letOwnedTupleGo (.Tuple elts kk tpos) (.ref e) u)
      (fun _ s2 => ∃ y H', Inv X pins σ H' s2 ∧ RelV y u ∧ (IteT X.K a).yld i H y H' ∧ EnAt a e it (i + 1) s2.heap ∧ ∀ b ∈ [e, it], H' b = none) E s1) E s := by
  obtain ⟨old, he⟩ := z.en
  obtain ⟨its, vals, tup, _⟩ := I.tuple hq
  obtain ⟨u, hu, ru⟩ := vals.get hx
  have eb := Heap.lt_size he
  have ib : it < s.heap.objs.size := z.itr.elim fun _ q => Heap.lt_size q.1
  have hi : i < its.toArray.size := by
    rw [List.size_toArray]
    exact (List.getElem?_eq_some_iff.mp hu).1
  have out : e ∉ [it, a] := fun m => (two m).elim z.ne.1 z.ne.2
  refine wpAny_pyNext_enum_itemD (Draws.tuple (A := X.A.in1) (show X.A.in1.handled = none from I.ok.hd calm) it a ai its.toArray) he ⟨z.itr, tup⟩ hi z.ne.1 out ?_
  intro y h' tk hy eo st new _ stay
  obtain rfl : y = u := by
    rw [List.getElem?_toArray, hu] at hy
    exact (Option.some.inj hy).symm
  refine ⟨_, rfl, wpAny_letOwnedTupleGo_enum (s := { s with heap := h', toks := tk + 1 }) eo fun h2 en2 sb => ?_⟩
  have new2 : h2.get? s.heap.objs.size = some { cls := .type "tuple", data := .seq #[.int i tk, y] } := by
    rw [sb.2 _ (Nat.ne_of_gt eb)]
    exact new
  have okN : ObjOk X.prog X.w (upd H s.heap.objs.size (.tup [.int (i : Nat), x])) h2 s.heap.objs.size (.tup [.int (i : Nat), x]) := ⟨by show 2 ≤ sizeLine; decide, _, .cons ⟨_, rfl⟩ (.cons ru .nil), _, new2, rfl, _, rfl⟩
  have rest : ∀ b o, b ∉ [e, it] → s.heap.get? b = some o → h2.get? b = some o := by
    intro b o nb hb
    have be : b ≠ e := fun q => nb (q ▸ .head _)
    have bi : b ≠ it := fun q => nb (q ▸ .tail _ (.head _))
    rw [sb.2 b be]
    exact stay b o be bi hb
  refine ⟨.ref s.heap.objs.size, _, I.turnedNew (ch := [e, it]) rest off (Nat.le_refl _) okN, rfl, ⟨_, x, rfl, I.hok.fresh (Nat.le_refl _), rfl, fun ys hys => I.tuple_inj hys hq ▸ hx⟩, ⟨⟨y, ?_⟩, ?_, z.ne⟩, ?_⟩
  · rw [Int.natCast_succ]
    exact en2
  · exact st.1.at fun o q => by rw [sb.2 it z.ne.1.symm]; exact q
  · intro b hb
    have lt : b < s.heap.objs.size := (two hb).elim (fun q => q ▸ eb) (fun q => q ▸ ib)
    rw [upd_ne (Nat.ne_of_lt lt)]
    exact (off b hb).1
theorem over {P : Program} {w : World} {A : Around} (calm : A.handled = none) {it a : Addr} {items : Array Value} {i : Nat} (hi : items.size ≤ i) : Draws P w A it [it, a] i (fun _ _ => True) (fun j h => j = i ∧ h.IsTupleIter it a i ∧ h.IsTuple a items) where
  live _ _ z := z.2.1.elim fun o q => ⟨o, q.1⟩
  frame _ _ _ z k := ⟨z.1, z.2.1.at (k it (.head _)), z.2.2.at (k a (.tail _ (.head _)))⟩
  item j _ _ _ lt z _ := absurd z.1 (Nat.ne_of_lt lt)
  done _ _ _ z h := wpAny_nextOf_tuple_end calm z.2.1 z.2.2 (Array.getElem?_eq_none hi) h
theorem enumT_turn {P : Program} {w : World} {K : PySem.W.Frag} {elts : List Expr} {kk : Nat} {tpos : Pos} {a e it : Addr} (ai : a ≠ it) : Turn P w K (.Tuple elts kk tpos) (IteT K a) [e, it] e (EnAt a e it) where
  mem := .head _
  obj i h z b hb := by
    obtain ⟨old, he⟩ := z.en
    obtain ⟨o, ho, _, hd⟩ := z.itr
    rcases two hb with rfl | rfl
    · exact ⟨_, he, nofun⟩
    · exact ⟨o, ho, by rw [hd]; nofun⟩
  keep i h h' z k := z.keep k
  item := by
    rintro X rfl rfl rfl calm i pins s σ H E I off z ⟨xs, x, hq, hx⟩
    exact enumT_item ai calm I off z hq hx
  done := by
    rintro X rfl rfl rfl calm i pins s σ H E I off z ⟨xs, hq, hx⟩
    obtain ⟨old, he⟩ := z.en
    obtain ⟨its, vals, tup, _⟩ := I.tuple hq
    obtain ⟨f0, f1, _, f3, f4, f5⟩ := off it (.tail _ (.head _))
    have len := vals.length
    refine wpAny_pyNext_enum_endD (over (A := X.A.in1) (show X.A.in1.handled = none from I.ok.hd calm) (items := its.toArray) (by rw [List.size_toArray]; omega)) he ⟨rfl, z.itr, tup⟩ fun h' up => ⟨rfl, I.turned (t' := s.toks) (fun b o hb q => up b o hb q) f0 f1 f3 f4 f5⟩
  self A i s Q E z h := z.en.elim fun _ he => wpAny_pyIter_enum he h
theorem walk_enumT {K : PySem.W.Frag} {a : Addr} {xs : List V} : Walk (IteT K a) xs.length (fun H => SqT K H a xs) (YPair (fun i => some (.int (i : Nat))) (fun i => xs[i]?)) := by
  constructor
  · intro i H hi hq
    exact ⟨xs, xs[i], hq, List.getElem?_eq_getElem hi⟩
  · intro H hq
    exact ⟨xs, hq, Nat.le_refl _⟩
  · rintro i H _ _ hi hq ⟨T, x, rfl, nT, rfl, at_⟩
    exact ⟨T, _, x, rfl, nT, rfl, rfl, at_ xs hq⟩
abbrev SqF := PySem.W.Frag → Hp → Addr → List V → Prop
def iEnumA (K : PySem.W.Frag) (ta : TA) : TI := fun σ H R => ta σ H fun vs H1 => ∃ (a : Addr) (xs : List V) (S : SqF), vs = [.ref a] ∧ (S = SqL ∨ S = SqT) ∧ S K H1 a xs ∧
  ∀ J, Walk J xs.length (fun H => S K H a xs) (YPair (fun i => some (.int (i : Nat))) (fun i => xs[i]?)) → R J H1
def iSeqA (K : PySem.W.Frag) (tl : TE) : TI := fun σ H R => tl σ H fun x H1 => ∃ (a : Addr) (xs : List V) (S : SqF), x = .ref a ∧ (S = SqL ∨ S = SqT) ∧ S K H1 a xs ∧ ∀ J, Walk J xs.length (fun H => S K H a xs) (YAt xs) → R J H1
section
variable {X : Cx}
theorem new_ok {pins : List (Addr × Obj)} {s : Shared} {σ : L2.St} {H : Hp} {b : Addr} (I : Inv X pins σ H s) (h : s.heap.objs.size ≤ b) : FpOk X pins H b := I.fpOk h (I.hok.fresh h)
theorem pi_enumA {e : Expr} {ta : TA} {p pos tpos : Pos} {elts : List Expr} {kk : Nat} (hg : Gl X "enumerate") (hm : X.mg "enumerate" = none) (ha : PA X [e] ta) (hs : starEach [e] X.env = [(false, eval e X.env)] := by rfl) :
    PI X (.Tuple elts kk tpos) (.Call (.Name "enumerate" p) [e] [] pos) (iEnumA X.K ta) := by
  constructor
  intro pins s σ H R I h
  refine Call_ (ld_blt I hg hm boot_enumerate (PyProof.Rows.callWith_type1 (wpAny_mono (ha.run pos pins s σ H _ I h) ?_ fun _ _ z => z) hs rfl))
  rintro us s1 ⟨_, H1, I1, vals, a, xs, S, rfl, hS, hq, go⟩
  obtain ⟨_, rfl, rfl⟩ : ∃ u, us = [u] ∧ u = Value.ref a := by
    match us, vals with
    | [u], .cons r .nil => exact ⟨u, rfl, r⟩
  have free : ∀ b ∈ [s1.heap.objs.size + 1, s1.heap.objs.size], FpOk X pins H1 b := fun b hb => new_ok I1 ((two hb).elim (fun q => q ▸ Nat.le_succ _) (fun q => q ▸ Nat.le_refl _))
  rcases hS with rfl | rfl
  · obtain ⟨its, rv, lst, _⟩ := I1.list hq
    refine call_enumerate_list lst.isList fun g en it _ up => wpAny_pyIter_enum en ?_
    exact ⟨_, [s1.heap.objs.size + 1, s1.heap.objs.size], _, Ite X.K a, H1, rfl, I1.kept (t' := s1.toks) up, turn_enum a _ _, ⟨⟨.none, en⟩, it, Nat.succ_ne_self _⟩, free, go _ walk_enum⟩
  · obtain ⟨its, rv, tup, _⟩ := I1.tuple hq
    have old : a < s1.heap.objs.size := tup.elim fun _ q => Heap.lt_size q.1
    refine enumT_call (items := its.toArray) tup fun en it => wpAny_pyIter_enum en ?_
    refine ⟨_, [s1.heap.objs.size + 1, s1.heap.objs.size], _, IteT X.K a, H1, rfl, I1.kept (t' := s1.toks) fun b o q => Heap.get?_push_of_some _ (Heap.get?_push_of_some _ q), enumT_turn (Nat.ne_of_lt old), ⟨⟨.none, en⟩, it, Nat.succ_ne_self _, ?_⟩, free, go _ walk_enumT⟩
    exact fun q => absurd old (Nat.not_lt.mpr (q ▸ Nat.le_succ _))
theorem pi_seqA {tg l : Expr} {tl : TE} (hl : PE X l tl) : PI X tg l (iSeqA X.K tl) := by
  constructor
  intro pins s σ H R I h
  refine wpAny_mono (hl.run pins s σ H _ I h) ?_ fun _ _ z => z
  rintro v s1 ⟨_, H1, I1, rv, a, xs, S, rfl, hS, hq, go⟩
  cases rv
  have free : ∀ b ∈ [s1.heap.objs.size], FpOk X pins H1 b := fun b hb => new_ok I1 (List.mem_singleton.mp hb ▸ Nat.le_refl _)
  have keep : ∀ o : Obj, Inv X pins σ H1 { s1 with heap := s1.heap.push o } := fun o => I1.kept (t' := s1.toks) fun b o' q => Heap.get?_push_of_some _ q
  rcases hS with rfl | rfl
  · obtain ⟨its, r, lst, _⟩ := I1.list hq
    exact wpAny_pyIter_list lst.isList ⟨_, _, _, Itl X.K a, H1, rfl, keep _, turn_list a _, ⟨_, Heap.get?_push_size _ rfl, rfl, rfl⟩, free, go _ walk_list⟩
  · obtain ⟨its, r, tup, _⟩ := I1.tuple hq
    exact wpAny_pyIter_tuple (items := its.toArray) tup ⟨_, _, _, Itt X.K a, H1, rfl, keep _, turn_tuple a _, ⟨_, Heap.get?_push_size _ rfl, rfl, rfl⟩, free, go _ walk_tup⟩
end
end Lw
end
section
namespace Lw
open PySem L2
structure GTxt (K : PySem.W.Frag) (mg : Str → Option Value) (C : Addr) (mc : Value) : Prop where
  cl : Cls K C
  nS : NoAttr K C "state_count"
  nE : NoAttr K C "edge_pairs"
  mgG : mg "Graph" = some (.ref C)
  rd : ClX.CRead K C mc
  v8 : ∃ u, ClX.CVal K C mc "MAX_STATES" (.int 8) u
  v24 : ∃ u, ClX.CVal K C mc "MAX_EDGES" (.int 24) u
  enum : mg "enumerate" = none
def flds (n : Int) (t : Addr) : List (Str × V) := [("state_count", V.int n), ("edge_pairs", V.ref t)]
def spCheck (K : PySem.W.Frag) : Sp := fun vs H Q _ => ∃ (n : Int) (e : Addr) (ts : Es) (S : SqF), vs = [.int n, .ref e] ∧ (S = SqL ∨ S = SqT) ∧ S K H e (vsOf ts) ∧ Ed H ts ∧ Valid n ts ∧ 1 ≤ n ∧ n ≤ 100 ∧ ts.length ≤ 100 ∧ ∀ H', Same H H' → Q .non H'
structure GraphAt (C : Addr) (H : Hp) (g : Addr) (n : Int) (us : Es) : Prop where
  ob : ∃ dx t, H g = some (.ins C dx (flds n t)) ∧ H t = some (.tup (vsOf us))
  ed : Ed H us
def spInit (C : Addr) : Sp := fun vs H Q _ => ∃ (g dx e : Addr) (n : Int) (ts : Es) (mk : List V → HO), vs = [.ref g, .int n, .ref e] ∧ H g = some (.ins C dx []) ∧ (mk = HO.lst ∨ mk = HO.tup) ∧ H e = some (mk (vsOf ts)) ∧ Ed H ts ∧ Valid n ts ∧ 1 ≤ n ∧ n ≤ 8 ∧ ts.length ≤ 24 ∧
  ∀ (us : Es) (H' : Hp), psOf us = psOf ts → KeepB g H H' → GraphAt C H' g n us → Q .non H'
theorem sq_same {K : PySem.W.Frag} {S : SqF} {H H' : Hp} {e : Addr} {xs : List V} (hS : S = SqL ∨ S = SqT) (h : S K H e xs) (s : Same H H') : S K H' e xs := by
  rcases hS with rfl | rfl
  · exact s.seq h
  · rcases h with (h | ⟨o, h⟩) | h
    · exact .inl (.inl (s _ _ h))
    · exact .inl (.inr ⟨o, s _ _ h⟩)
    · exact .inr h
theorem vsOf_len (ts : Es) : (vsOf ts).length = ts.length := by
  unfold vsOf
  rw [List.length_map]
theorem vsOf_at {ts : Es} {i : Nat} {v : V} (h : (vsOf ts)[i]? = some v) : ∃ e, ts[i]? = some e ∧ v = .ref e.1 := by
  unfold vsOf at h
  rw [List.getElem?_map] at h
  cases g : ts[i]? with
  | none =>
    rw [g] at h
    cases h
  | some e =>
    rw [g] at h
    exact ⟨e, rfl, (Option.some.inj h).symm⟩
section
variable {P : Program} {w : World} {K : PySem.W.Frag} {mg : Str → Option Value} {base : Heap}
theorem scCheck : FnScope ["states", "edges", "place", "source", "target", "sources", "state"] ["states", "edges"] (defScope sCheck) := ⟨rfl, rfl, rfl, by decide +kernel, rfl, by decide +kernel, by decide +kernel⟩
theorem inV_yes {k : Int} {ks : List Int} (h : k ∈ ks) : inV (.int k) (ks.map V.int) = true := by
  unfold inV
  rw [List.any_map, List.any_eq_true]
  exact ⟨k, h, by simp [eqV]⟩
theorem flat_ints (ks : List Int) : (ks.map V.int).all flatV = true := by
  rw [List.all_map, List.all_eq_true]
  intro x _
  rfl
set_option maxHeartbeats 8000000 in
theorem ok_check {f C : Addr} {mc : Value} {fd : FuncData} {k : Nat} (F : Fun K "check_edges" "check_edges" sCheck f fd) (T : Bi mg) (G : GTxt K mg C mc) : FnOk P w K mg base CX0 (k + 1) f fd ["states", "edges"] (spCheck K) := by
  refine F.ok scCheck (fun vs H Q E h => ?_) (fun cdv A outer s H vs Q E hr h => ?_)
  · obtain ⟨n, e, ts, S, rfl, _⟩ := h
    rfl
  · obtain ⟨n, e, ts, S, rfl, hS, hq, ed, va, n1, n8, hl, q⟩ := h
    refine ⟨_, pss_cons (ps_for PassesOwn.never rfl (pi_enumA (by rfl) G.enum (pa_cons (pv 1) pa_nil))
          (pg_tup rfl (pgs_cons (pg_name (i := 2) scCheck.nd rfl (.inl rfl)) (pgs_cons (pg_tup rfl (pgs_cons (pg_name (i := 3) scCheck.nd rfl (.inl rfl)) (pgs_cons (pg_name (i := 4) scCheck.nd rfl (.inl rfl)) pgs_nil))) pgs_nil)))
        (pss_one (ps_if (pt_not (PW.pt (pw_and (pt_chain op_le op_lt pe_int (pv 3) (pv 0)) (pw_and1 (pt_chain op_le op_lt pe_int (pv 4) (pv 0)))))) (pss_one ps_never) pss_nil)))
      (pss_cons (ps_setLc (i := 5) (own := [("source", 3), ("target", 4)]) (g := gTup K 2 (gCons (gName 3) (gCons (gName 4) gNil))) (tt := tYes) (te := tVar 3) rfl scCheck.nd rfl rfl (sw_true rfl rfl rfl (by decide +kernel))
          (pi_seqA (pv 1))
          (blkOk_by (N := ["states", "edges", "place", "source", "target", "sources", "state"]) (sc := defScope sCheck) (by decide +kernel))
          (fun _ _ _ _ _ => by exact pg_tup rfl (pgs_cons (pg_name (i := 3) scCheck.nd rfl (Or.inl rfl)) (pgs_cons (pg_name (i := 4) scCheck.nd rfl (Or.inl rfl)) pgs_nil)))
          (fun _ _ _ _ _ => pts_nil)
          (fun _ _ _ _ _ => by exact pv 3))
      (pss_one (ps_for PassesOwn.never rfl (pi_range1 (by rfl) T.range (pa_cons (pv 0) pa_nil)) (pg_name (i := 6) scCheck.nd rfl (Or.inl rfl))
        (pss_one (ps_if (pt_cmpR op_notIn_seq (pv 6) (pv 5) (by rfl)) (pss_one ps_never) pss_nil))))), ?_⟩
    have gsz : ∀ m : Nat, m ≤ 1000 → m < sizeLine := fun m h => small1000 h
    -- for place, (source, target) in enumerate(edges)
    refine ⟨_, rfl, e, vsOf ts, S, rfl, hS, hq, fun J w => ?_⟩
    refine for_it w (fun i σ H' => ∃ v2 v3 v4 : Option V, σ = [some (.int n), some (.ref e), v2, v3, v4, none, none] ∧ Same H H') ⟨none, none, none, rfl, fun _ _ z => z⟩ (fun i σ H' _ p => by obtain ⟨_, _, _, _, s⟩ := p; exact sq_same hS hq s) ?_ ?_
    · rintro i x σ H1 H' hi ⟨v2, v3, v4, rfl, sm⟩ ⟨Ta, x, y, rfl, hT, rfl, gx, gy⟩
      obtain ⟨ee, hee, rfl⟩ := vsOf_at gy
      have ex : x = .int (i : Nat) := (Option.some.inj gx).symm
      subst ex
      have s1 := sm.trans (same_upd (o := .tup [.int (i : Nat), .ref ee.1]) hT)
      have mem : ee ∈ ts := List.mem_of_getElem? hee
      have r := va.rg ee mem
      refine ⟨Ta, _, rfl, SqT.of upd_same, rfl, _, _, rfl, _, _, rfl, ⟨ee.1, _, rfl, SqT.of (s1 _ _ (ed ee mem)), rfl, _, _, rfl, _, _, rfl, rfl, ?_⟩⟩
      refine ⟨rfl, ?_⟩
      refine ⟨_, rfl, _, _, rfl, rfl, _, rfl, if_t (decide_eq_true r.1) ⟨_, rfl, _, _, rfl, rfl, ?_⟩⟩
      refine ⟨_, rfl, if_t (decide_eq_true r.2.1) ?_⟩
      refine ⟨_, rfl, _, _, rfl, rfl, _, rfl, if_t (decide_eq_true r.2.2.1) ⟨_, rfl, _, _, rfl, rfl, ?_⟩⟩
      refine ⟨_, rfl, ?_⟩
      refine if_f (by rw [decide_eq_true r.2.2.2]; rfl) ?_
      exact ⟨_, _, _, rfl, s1⟩
    · rintro σ H1 ⟨v2, v3, v4, rfl, sm⟩
      -- sources
      refine ⟨_, rfl, e, vsOf ts, S, rfl, hS, sq_same hS hq sm, fun J w => fun D hD => ?_⟩
      have nD : H D = none := sm.free hD
      refine lc_it w (fun i H' => Same H H' ∧ H' D = some (.lst ((ts.take i).map fun e => V.int e.2.1))) ⟨sm.trans (same_upd hD), upd_same⟩ (fun i H' _ p => sq_same hS hq p.1) ?_ ?_
      · rintro i x H2 H' hi ⟨sm2, eD⟩ ⟨rfl, gx⟩
        obtain ⟨ee, hee, rfl⟩ := vsOf_at gx
        have mem : ee ∈ ts := List.mem_of_getElem? hee
        refine ⟨ee.1, _, rfl, SqT.of (sm2 _ _ (ed ee mem)), rfl, _, _, rfl, _, _, rfl, rfl, rfl, ?_⟩
        refine ⟨_, rfl, _, eD, ?_, ?_, ?_⟩
        · rw [List.length_map, List.length_take]
          exact gsz _ (by omega)
        · intro c o ec
          rw [upd_ne (ne_of_none ec nD)]
          exact sm2 _ _ ec
        · rw [upd_same, List.take_add_one, hee, List.map_append]
          rfl
      · rintro H2 ⟨sm2, eD⟩
        rw [vsOf_len, List.take_length] at eD
        refine ⟨_, rfl, n, rfl, by omega, by omega, ?_⟩
        refine for_it (walk_range (lo := 0) (n := n.toNat)) (fun i σ H' => ∃ v2 v3 v4 v6 : Option V, σ = [some (.int n), some (.ref e), v2, v3, v4, some (.ref D), v6] ∧ Same H H' ∧ H' D = some (.lst (ts.map fun e => V.int e.2.1))) ⟨_, _, _, _, rfl, sm2, eD⟩ (fun _ _ _ _ _ => True.intro) ?_ ?_
        · rintro i x σ H3 H' hi ⟨v2, v3, v4, v6, rfl, sm3, eD3⟩ ⟨rfl, rfl⟩
          obtain ⟨ee, hee, hk⟩ := va.sr (i : Int) (by omega) (by omega)
          have e1 : (ts.map fun e => V.int e.2.1) = (ts.map fun e => e.2.1).map V.int := by
            rw [List.map_map]
            rfl
          have e2 : inV (.int (0 + (i : Int))) (ts.map fun e => V.int e.2.1) = true := by
            rw [e1, Int.zero_add, ← hk]
            exact inV_yes (List.mem_map_of_mem (f := fun e : Addr × Int × Int => e.2.1) hee)
          refine ⟨_, rfl, _, rfl, D, _, rfl, .inl (SqL.of eD3), rfl, by rw [e1]; exact flat_ints _, _, rfl, ?_⟩
          refine if_f (by rw [e2]; rfl) ?_
          exact ⟨_, _, _, _, rfl, sm3, eD3⟩
        · rintro σ H3 ⟨v2, v3, v4, v6, rfl, sm3, eD3⟩
          exact q H3 sm3
end
end Lw
end
section
namespace Lw
open PySem L2
theorem ks : ¬ (("state_count" : Str) = "edge_pairs") := by decide +kernel
theorem flds_put1 (n : Int) : putF "state_count" (.int n) [] = ([("state_count", V.int n)] : List (Str × V)) := rfl
theorem flds_put2 (n : Int) (t : Addr) : putF "edge_pairs" (.ref t) ([("state_count", V.int n)] : List (Str × V)) = flds n t := by
  show (if ("state_count" : Str) = "edge_pairs" then _ else (("state_count" : Str), V.int n) :: putF "edge_pairs" (.ref t) []) = flds n t
  rw [if_neg ks]
  rfl
theorem look_s (n : Int) (t : Addr) : (flds n t).lookup ("state_count" : Str) = some (.int n) := by
  unfold flds
  simp [List.lookup]
theorem look_e (n : Int) (t : Addr) : (flds n t).lookup ("edge_pairs" : Str) = some (.ref t) := by
  unfold flds
  have h : (("edge_pairs" : Str) == ("state_count" : Str)) = false := by decide +kernel
  simp [List.lookup, h]
theorem look_no (n : Int) (t : Addr) {m : Str} (h1 : (m == ("state_count" : Str)) = false) (h2 : (m == ("edge_pairs" : Str)) = false) : (flds n t).lookup m = none := by
  unfold flds
  simp [List.lookup, h1, h2]
theorem sq_or {K : PySem.W.Frag} {S : SqF} {H : Hp} {e : Addr} {xs : List V} (hS : S = SqL ∨ S = SqT) (h : S K H e xs) : SqL K H e xs ∨ SqT K H e xs := by
  rcases hS with rfl | rfl
  · exact .inl h
  · exact .inr h
def spStates (C : Addr) : Sp := fun vs H Q _ => ∃ (g : Addr) (n : Int) (us : Es), vs = [.ref g] ∧ GraphAt C H g n us ∧ Q (.int n) H
def spEdges (C : Addr) : Sp := fun vs H Q _ => ∃ (g : Addr) (n : Int) (us : Es), vs = [.ref g] ∧ GraphAt C H g n us ∧ ∀ p, H p = none → Q (.ref p) (upd H p (.lst (vsOf us)))
section
variable {P : Program} {w : World} {K : PySem.W.Frag} {mg : Str → Option Value} {base : Heap}
theorem scInit : FnScope ["self", "states", "edges", "source", "target"] ["self", "states", "edges"] (defScope sInit) := ⟨rfl, rfl, rfl, by decide +kernel, rfl, by decide +kernel, by decide +kernel⟩
set_option maxHeartbeats 8000000 in
theorem ok_init {f C : Addr} {mc : Value} {fd : FuncData} {k : Nat} (F : Fun K "__init__" "Graph.__init__" sInit f fd) (T : Bi mg) (G : GTxt K mg C mc) (cC : C8.Cal P w K mg base 1 "check_edges" (spCheck K) []) : FnOk P w K mg base CX0 (k + 2) f fd ["self", "states", "edges"] (spInit C) := by
  refine F.ok scInit (fun vs H Q E h => ?_) (fun cdv A outer s H vs Q E hr h => ?_)
  · obtain ⟨g, dx, e, n, ts, mk, rfl, _⟩ := h
    rfl
  · obtain ⟨g, dx, e, n, ts, mk, rfl, hg, hmk, he, ed, va, n1, n8, hl, q⟩ := h
    have ge : e ≠ g := by
      rintro rfl
      rw [hg] at he
      rcases hmk with rfl | rfl <;> cases he
    obtain ⟨S, hS, hq0⟩ : ∃ S : SqF, (S = SqL ∨ S = SqT) ∧ ∀ H', H' e = some (mk (vsOf ts)) → S K H' e (vsOf ts) := by
      rcases hmk with rfl | rfl
      · exact ⟨SqL, .inl rfl, fun H' h => SqL.of h⟩
      · exact ⟨SqT, .inr rfl, fun H' h => SqT.of h⟩
    have hq := hq0 H he
    have hk : 1 ≤ k + 1 := Nat.le_add_left 1 k
    refine ⟨_, pss_cons (ps_if (pt_cmpR op_lt (pv 1) pe_int (nomark _)) (pss_one ps_never) pss_nil)
      (pss_cons (ps_if (pt_cmpR op_gt (pv 1) (ClX.pe_cval (pe_glob (v := .ref C) (by rfl) G.mgG rfl)) (nomark _)) (pss_one ps_never) pss_nil)
      (pss_cons (ps_if (pt_cmpR op_gt (pe_callB call_len_seq (by rfl) T.len PySem.boot_len (pa_cons (pv 2) pa_nil)) (ClX.pe_cval (pe_glob (v := .ref C) (by rfl) G.mgG rfl)) (nomark _)) (pss_one ps_never) pss_nil)
      (pss_cons (ps_expr (C8.pe_c cC hr hk (by rfl) (pa_cons (pv 1) (pa_cons (pv 2) pa_nil))))
      (pss_cons (ps_fld (pv 0) (pv 1) rfl)
      (pss_one (ps_fld (pv 0) (pe_callTy call_tuple_of (by rfl) T.tuple (by decide +kernel) (pa_cons
        (pe_lc (own := [("source", 3), ("target", 4)]) (g := gTup K 2 (gCons (gName 3) (gCons (gName 4) gNil))) (tt := tYes) (te := tTup (tCons (tVar 3) (tCons (tVar 4) tNil))) rfl scInit.nd (pi_seqA (pv 2))
          (blkOk_by (N := ["self", "states", "edges", "source", "target"]) (sc := defScope sInit) (by decide +kernel))
          (fun _ _ _ _ _ => by exact pg_tup rfl (pgs_cons (pg_name (i := 3) scInit.nd rfl (Or.inl rfl)) (pgs_cons (pg_name (i := 4) scInit.nd rfl (Or.inl rfl)) pgs_nil)))
          (fun _ _ _ _ _ => pts_nil)
          (fun _ _ _ _ _ => by exact pe_tup (pa_cons (pv 3) (pa_cons (pv 4) pa_nil)))) pa_nil)) rfl)))))), ?_⟩
    obtain ⟨u8, hv8⟩ := G.v8
    obtain ⟨u24, hv24⟩ := G.v24
    refine ⟨_, rfl, _, _, rfl, rfl, _, rfl, if_f (decide_eq_false (by omega)) ?_⟩
    refine ⟨_, rfl, C, mc, _, _, rfl, G.rd, hv8, _, _, rfl, rfl, _, rfl, if_f (decide_eq_false (by omega)) ?_⟩
    refine ⟨_, rfl, e, _, rfl, sq_or hS hq, C, mc, _, _, rfl, G.rd, hv24, _, _, rfl, rfl, _, rfl, if_f (decide_eq_false (by rw [vsOf_len]; omega)) ?_⟩
    refine ⟨_, rfl, _, rfl, n, e, ts, S, rfl, hS, hq, ed, va, n1, by omega, by omega, fun H1 s1 => ?_⟩
    refine ⟨_, rfl, _, rfl, g, C, dx, [], rfl, s1 _ _ hg, G.cl, G.nS, (by show 0 < 1000; decide), ?_⟩
    rw [flds_put1]
    have k2 : KeepB g H (upd H1 g (.ins C dx [("state_count", V.int n)])) := KeepB.trans (.of_same s1) .updb
    have g2 : upd H1 g (.ins C dx [("state_count", V.int n)]) g = some (.ins C dx [("state_count", V.int n)]) := upd_same
    generalize upd H1 g (.ins C dx [("state_count", V.int n)]) = H2 at *
    refine ⟨_, rfl, e, vsOf ts, S, rfl, hS, hq0 _ (k2 _ _ ge he), fun J w => fun D hD => ?_⟩
    have nDg : D ≠ g := fun z => by
      rw [z, g2] at hD
      cases hD
    have nD : H D = none := k2.free g2 hD
    refine lc_it w (fun i H' => ∃ us : Es, psOf us = psOf (ts.take i) ∧ KeepB g H H' ∧ H' g = some (.ins C dx [("state_count", V.int n)]) ∧ H' D = some (.lst (vsOf us)) ∧ Ed H' us)
      ⟨[], rfl, k2.new hD, by rw [upd_ne nDg.symm]; exact g2, upd_same, .nil⟩ (fun i H' _ p => by obtain ⟨us, _, k3, _⟩ := p; exact hq0 _ (k3 _ _ ge he)) ?_ ?_
    · rintro i x H3 H' hi ⟨us, hus, k3, g3, eD, ed3⟩ ⟨rfl, gx⟩
      obtain ⟨ee, hee, rfl⟩ := vsOf_at gx
      have mem : ee ∈ ts := List.mem_of_getElem? hee
      have eg : ee.1 ≠ g := fun z => by
        have h := ed ee mem
        rw [z, hg] at h
        cases h
      refine ⟨ee.1, _, rfl, SqT.of (k3 _ _ eg (ed ee mem)), rfl, _, _, rfl, _, _, rfl, rfl, rfl, ?_⟩
      refine ⟨_, rfl, _, rfl, (by show 2 ≤ sizeLine; decide), fun t ht => ?_⟩
      have s4 := same_upd (o := .tup [.int ee.2.1, .int ee.2.2]) ht
      have tD : D ≠ t := ne_of_none eD ht
      refine ⟨_, s4 _ _ eD, ?_, us ++ [(t, ee.2)], ?_, ?_, ?_, ?_, ?_⟩
      · have h1 : us.length = (ts.take i).length := by
          have := congrArg List.length hus
          unfold psOf at this
          simpa using this
        rw [vsOf_len, h1, List.length_take]
        exact small1000 (by omega)
      · unfold psOf at hus ⊢
        rw [List.map_append, hus, List.take_add_one, hee, List.map_append]
        rfl
      · exact (k3.new ht).at nD
      · rw [upd_ne nDg.symm]
        exact s4 _ _ g3
      · rw [upd_same]
        unfold vsOf
        rw [List.map_append]
        rfl
      · refine Ed.app (fun x hx => ?_) (.one ?_)
        · have h := s4 _ _ (ed3 x hx)
          rw [upd_ne (fun z => ?_)]
          · exact h
          · rw [z, s4 _ _ eD] at h
            cases h
        · rw [upd_ne (Ne.symm tD), upd_same]
    · rintro H3 ⟨us, hus, k3, g3, eD, ed3⟩
      rw [vsOf_len, List.take_length] at hus
      refine ⟨D, _, rfl, .inl ⟨SqL.of eD, fun t ht => ?_⟩⟩
      have s4 := same_upd (o := .tup (vsOf us)) ht
      have tg : t ≠ g := (ne_of_none g3 ht).symm
      refine ⟨_, rfl, g, C, dx, _, rfl, s4 _ _ g3, G.cl, G.nE, (by show 1 < 1000; decide), ?_⟩
      rw [flds_put2]
      refine q us _ hus ((k3.trans (.of_same s4)).trans .updb) ⟨⟨dx, t, upd_same, by rw [upd_ne tg]; exact upd_same⟩, fun x hx => ?_⟩
      have h := s4 _ _ (ed3 x hx)
      rw [upd_ne (fun z => ?_)]
      · exact h
      · rw [z, s4 _ _ g3] at h
        cases h
theorem scLen : FnScope ["self"] ["self"] (defScope sLen) := ⟨rfl, rfl, rfl, by decide +kernel, rfl, by decide +kernel, by decide +kernel⟩
theorem scStates : FnScope ["self"] ["self"] (defScope sStates) := ⟨rfl, rfl, rfl, by decide +kernel, rfl, by decide +kernel, by decide +kernel⟩
theorem ok_states {f C : Addr} {mc : Value} {fd : FuncData} {k : Nat} (F : Fun K "states" "Graph.states" sStates f fd) (G : GTxt K mg C mc) : FnOk P w K mg base CX0 (k + 1) f fd ["self"] (spStates C) := by
  refine F.ok scStates (fun vs H Q E h => ?_) (fun cdv A outer s H vs Q E hr h => ?_)
  · obtain ⟨g, n, us, rfl, _⟩ := h
    rfl
  · obtain ⟨g, n, us, rfl, ⟨⟨dx, t, h1, h2⟩, ed⟩, q⟩ := h
    exact ⟨_, pss_one (ps_ret (pe_fld (pv 0) rfl)), _, rfl, g, C, dx, _, _, rfl, h1, G.cl, G.nS, look_s _ _, q⟩
theorem scEdges : FnScope ["self"] ["self"] (defScope sEdges) := ⟨rfl, rfl, rfl, by decide +kernel, rfl, by decide +kernel, by decide +kernel⟩
theorem ok_edges {f C : Addr} {mc : Value} {fd : FuncData} {k : Nat} (F : Fun K "edges" "Graph.edges" sEdges f fd) (T : Bi mg) (G : GTxt K mg C mc) : FnOk P w K mg base CX0 (k + 1) f fd ["self"] (spEdges C) := by
  refine F.ok scEdges (fun vs H Q E h => ?_) (fun cdv A outer s H vs Q E hr h => ?_)
  · obtain ⟨g, n, us, rfl, _⟩ := h
    rfl
  · obtain ⟨g, n, us, rfl, ⟨⟨dx, t, h1, h2⟩, ed⟩, q⟩ := h
    exact ⟨_, pss_one (ps_ret (pe_callTy call_list_of (by rfl) T.list (by decide +kernel) (pa_cons (pe_fld (pv 0) rfl) pa_nil))), _, rfl, g, C, dx, _, _, rfl, h1, G.cl, G.nE, look_e _ _, t, _, rfl, .inr (SqT.of h2), q⟩
end
end Lw
end
section
namespace Lw
open PySem L2
theorem PlanAt.same {H H' : Hp} {p q : Addr} {n : Int} {ts : Es} (h : PlanAt H p q n ts) (s : Same H H') : PlanAt H' p q n ts := ⟨s _ _ h.tp, s _ _ h.ls, h.ed.same s, h.va, h.n1⟩
end Lw
end
section
namespace Lw
open PySem L2
def spGraph (C : Addr) : Sp := fun vs H Q _ => ∃ (p q : Addr) (n : Int) (ts : Es), vs = [.ref p] ∧ PlanAt H p q n ts ∧ n ≤ 8 ∧ ts.length ≤ 24 ∧ ∀ (g : Addr) (us : Es) (H' : Hp), psOf us = psOf ts → Same H H' → H g = none → GraphAt C H' g n us → Q (.ref g) H'
section
variable {P : Program} {w : World} {K : PySem.W.Frag} {mg : Str → Option Value} {base : Heap}
theorem scGraph : FnScope ["_law_plan_here"] ["_law_plan_here"] (defScope sGraph) := ⟨rfl, rfl, rfl, by decide +kernel, rfl, by decide +kernel, by decide +kernel⟩
set_option maxHeartbeats 4000000 in
theorem ok_graph {f C : Addr} {fd : FuncData} {k : Nat} (F : Fun K "_law_graph" "_law_graph" sGraph f fd) (T : Bi mg) (cG : C8.Mak P w K mg base 2 "Graph" C (spInit C) []) : FnOk P w K mg base CX0 (k + 4) f fd ["_law_plan_here"] (spGraph C) := by
  refine F.ok scGraph (fun vs H Q E h => ?_) (fun cdv A outer s H vs Q E hr h => ?_)
  · obtain ⟨p, q, n, ts, rfl, _⟩ := h
    rfl
  · obtain ⟨p, q0, n, ts, rfl, PA, n8, l24, q⟩ := h
    refine ⟨_, pss_one (ps_ret (C8.pe_mk cG hr (by omega) (by rfl) (pa_cons (pe_ix ix_tup (pv 0) pe_int (fun _ _ => rfl)) (pa_cons (pe_callTy call_list_of (by rfl) T.list (by decide +kernel) (pa_cons (pe_ix ix_tup (pv 0) pe_int (fun _ _ => rfl)) pa_nil)) pa_nil)))), ?_⟩
    refine ⟨_, rfl, p, _, _, _, rfl, rfl, SqT.of PA.tp, at0, _, rfl, p, _, _, _, rfl, rfl, SqT.of PA.tp, at1, q0, _, rfl, .inl (SqL.of PA.ls), fun e he => ?_⟩
    have s1 := same_upd (o := .lst (vsOf ts)) he
    intro g dx hg hdx nex
    have s2 := s1.trans ((same_upd (o := .own g) hdx))
    have hg2 : upd (upd H e (.lst (vsOf ts))) dx (.own g) g = none := by
      rw [upd_ne (Ne.symm nex)]
      exact hg
    have s3 := s2.trans (same_upd (o := .ins C dx []) hg2)
    have ng : H g = none := s1.free hg
    have e3 : upd (upd (upd H e (.lst (vsOf ts))) dx (.own g)) g (.ins C dx []) e = some (.lst (vsOf ts)) := same_upd hg2 _ _ (same_upd hdx _ _ upd_same)
    refine ⟨g, dx, e, n, ts, HO.lst, rfl, upd_same, .inl rfl, e3, PA.ed.same s3, PA.va, PA.n1, n8, l24, fun us H' hus kp G => ⟨rfl, ?_⟩⟩
    exact q g us H' hus (fun c o ec => kp c o (ne_of_none ec ng) (s3 c o ec)) ng G
end
end Lw
end
section
namespace Lw
open PySem L2
theorem psOf_at {us : Es} {i : Nat} {e : Addr × Int × Int} (h : us[i]? = some e) : (psOf us)[i]? = some e.2 := by
  unfold psOf
  rw [List.getElem?_map, h]
  rfl
theorem get_list {X : Cx} : PGet X (fun o y H Q => ∃ (p : Addr) (xs : List V) (i : Int) (v : V), o = .ref p ∧ y = .int i ∧ SqL X.K H p xs ∧ 0 ≤ i ∧ xs[i.toNat]? = some v ∧ Q v H) := by
  intro pins s σ H o y ov iv Q I ro ri h
  obtain ⟨p, xs, i, v, rfl, rfl, hq, h0, hv, q⟩ := h
  cases ro
  obtain ⟨t, rfl⟩ := ri
  obtain ⟨its, r, pl, hz⟩ := I.list hq
  obtain ⟨u, hu, ru⟩ := r.get hv
  have hl := r.length
  have hn := line63
  have hi : i.toNat < xs.length := (List.getElem?_eq_some_iff.mp hv).1
  refine wpAny_getItem_list pl.isList h0 (by omega) (by simpa using hu) ⟨v, H, I, ru, q⟩
def cnt (ps : List (Int × Int)) (a b : Nat) : Int := ((ps.filter fun p => decide (p = ((a : Int), (b : Int)))).length : Int)
theorem cnt_snoc (ps : List (Int × Int)) (p : Int × Int) (a b : Nat) : cnt (ps ++ [p]) a b = cnt ps a b + (if p = ((a : Int), (b : Int)) then 1 else 0) := by
  unfold cnt
  rw [List.filter_append, List.length_append]
  by_cases h : p = ((a : Int), (b : Int))
  · rw [if_pos h, List.filter_cons_of_pos (by rw [decide_eq_true h])]
    rfl
  · rw [if_neg h, List.filter_cons_of_neg (by rw [decide_eq_false h]; exact Bool.false_ne_true)]
    simp
def cntRow (ps : List (Int × Int)) (m a : Nat) : List V := (List.range m).map fun b => V.int (cnt ps a b)
theorem cntRow_len (ps : List (Int × Int)) (m a : Nat) : (cntRow ps m a).length = m := by
  unfold cntRow
  simp
theorem cntRow_at (ps : List (Int × Int)) {m a b : Nat} (h : b < m) : (cntRow ps m a)[b]? = some (V.int (cnt ps a b)) := by
  unfold cntRow
  rw [List.getElem?_map, List.getElem?_range h]
  rfl
theorem cntRow_set (ps : List (Int × Int)) {m a t : Nat} (h : t < m) : (cntRow ps m a).set t (V.int (cnt ps a t + 1)) = cntRow (ps ++ [((a : Int), (t : Int))]) m a := by
  apply List.ext_getElem?
  intro b
  by_cases hb : b < m
  · rw [cntRow_at _ hb, cnt_snoc]
    by_cases e : t = b
    · subst e
      rw [List.getElem?_set_self (by rw [cntRow_len]; exact h), if_pos rfl]
    · rw [List.getElem?_set_ne e, cntRow_at _ hb, if_neg (fun z => e (by have h2 : (t : Int) = (b : Int) := congrArg Prod.snd z; omega)), Int.add_zero]
  · rw [List.getElem?_eq_none (by rw [List.length_set, cntRow_len]; omega), List.getElem?_eq_none (by rw [cntRow_len]; omega)]
theorem cntRow_other (ps : List (Int × Int)) {m a s t : Nat} (h : a ≠ s) : cntRow (ps ++ [((s : Int), (t : Int))]) m a = cntRow ps m a := by
  unfold cntRow
  refine List.map_congr_left fun b _ => ?_
  rw [cnt_snoc, if_neg (fun z => h (by have h2 : (s : Int) = (a : Int) := congrArg Prod.fst z; omega)), Int.add_zero]
theorem cntRow_nil (m a : Nat) : cntRow [] m a = List.replicate m (V.int 0) := by
  unfold cntRow
  rw [show (fun b => V.int (cnt [] a b)) = fun _ => V.int 0 from rfl, List.map_const', List.length_range]
theorem nodup_at {rs : List Addr} (nd : rs.Nodup) {a b : Nat} {r : Addr} (h1 : rs[a]? = some r) (h2 : rs[b]? = some r) : a = b := by
  obtain ⟨l1, e1⟩ := List.getElem?_eq_some_iff.mp h1
  obtain ⟨l2, e2⟩ := List.getElem?_eq_some_iff.mp h2
  rcases Nat.lt_trichotomy a b with h | h | h
  · exact absurd (e1.trans e2.symm) (List.pairwise_iff_getElem.mp nd a b l1 l2 h)
  · exact h
  · exact absurd (e2.trans e1.symm) (List.pairwise_iff_getElem.mp nd b a l2 l1 h)
theorem ixN_of {n : Nat} {i : Int} (h0 : 0 ≤ i) (h : i.toNat < n) : ixN n i = some i.toNat := by
  unfold ixN
  rw [if_pos h0, if_pos (by omega)]
structure CntAt (H : Hp) (p : Addr) (rs : List Addr) (m : Nat) (ps : List (Int × Int)) : Prop where
  ls : H p = some (.lst (rs.map V.ref))
  len : rs.length = m
  row : ∀ (a : Nat) (r : Addr), rs[a]? = some r → H r = some (.lst (cntRow ps m a))
def spCounts (C : Addr) : Sp := fun vs H Q _ => ∃ (g : Addr) (n : Int) (us : Es), vs = [.ref g] ∧ GraphAt C H g n us ∧ 0 ≤ n ∧ n ≤ 100 ∧ us.length ≤ 1000 ∧ (∀ e ∈ us, 0 ≤ e.2.1 ∧ e.2.1 < n ∧ 0 ≤ e.2.2 ∧ e.2.2 < n) ∧
  ∀ p rs H', Same H H' → H p = none → (∀ r ∈ rs, H r = none) → CntAt H' p rs n.toNat (psOf us) → Q (.ref p) H'
section
variable {P : Program} {w : World} {K : PySem.W.Frag} {mg : Str → Option Value} {base : Heap}
theorem scCounts : FnScope ["self", "table", "source", "target"] ["self"] (defScope sCounts) := ⟨rfl, rfl, rfl, by decide +kernel, rfl, by decide +kernel, by decide +kernel⟩
set_option maxHeartbeats 8000000 in
theorem ok_counts {f C : Addr} {mc : Value} {fd : FuncData} {k : Nat} (F : Fun K "counts" "Graph.counts" sCounts f fd) (T : Bi mg) (G : GTxt K mg C mc) : FnOk P w K mg base CX0 (k + 1) f fd ["self"] (spCounts C) := by
  refine F.ok scCounts (fun vs H Q E h => ?_) (fun cdv A outer s H vs Q E hr h => ?_)
  · obtain ⟨g, n, us, rfl, _⟩ := h
    rfl
  · obtain ⟨g, n, us, rfl, ⟨⟨dx, t, h1, h2⟩, ed⟩, n0, n1, hl, rg, q⟩ := h
    refine ⟨_, pss_cons (ps_setLc (i := 1) (own := [("source", 2)]) (g := gName 2) (tt := tYes) (te := tOp rRep (tLst (tCons (tC (.int 0)) tNil)) (tFld K (tVar 0) "state_count")) rfl scCounts.nd rfl rfl (sw_true rfl rfl rfl (by decide +kernel))
          (pi_range1 (by rfl) T.range (pa_cons (pe_fld (pv 0) rfl) pa_nil))
          (blkOk_by (N := ["self", "table", "source", "target"]) (sc := defScope sCounts) (by decide +kernel))
          (fun _ _ _ _ _ => by exact pg_name (i := 2) scCounts.nd rfl (Or.inl rfl))
          (fun _ _ _ _ _ => pts_nil)
          (fun _ _ _ _ _ => by exact pe_op op_rep (pe_lst (pa_cons pe_int pa_nil)) (pe_fld (pv 0) rfl)))
      (pss_cons (ps_for PassesOwn.never rfl (pi_seqA (pe_fld (pv 0) rfl)) (pg_tup rfl (pgs_cons (pg_name (i := 2) scCounts.nd rfl (.inl rfl)) (pgs_cons (pg_name (i := 3) scCounts.nd rfl (.inl rfl)) pgs_nil)))
        (pss_one (ps_augS (pe_ix ix_list (pv 1) (pv 2) (fun _ _ => rfl)) (pv 3) get_list pe_int ip_add set_list)))
      (pss_one (ps_ret (pv 1)))), ?_⟩
    refine ⟨_, rfl, g, C, dx, _, _, rfl, h1, G.cl, G.nS, look_s _ _, n, rfl, by omega, by omega, fun D hD => ?_⟩
    refine lc_it (walk_range (lo := 0) (n := n.toNat)) (fun i H' => ∃ rs : List Addr, rs.length = i ∧ rs.Nodup ∧ Same H H' ∧ H' D = some (.lst (rs.map V.ref)) ∧ ∀ r ∈ rs, H r = none ∧ r ≠ D ∧ H' r = some (.lst (List.replicate n.toNat (V.int 0))))
      ⟨[], rfl, List.nodup_nil, same_upd hD, upd_same, fun r hr => by cases hr⟩ (fun _ _ _ _ => True.intro) ?_ ?_
    · rintro i x H1 H' hi ⟨rs, hrs, nd, sm, eD, hh⟩ ⟨rfl, rfl⟩
      refine ⟨rfl, ?_⟩
      refine ⟨(by show 1 ≤ sizeLine; decide), fun l hl => ?_⟩
      have s1 := same_upd (o := .lst [.int 0]) hl
      refine ⟨_, rfl, g, C, dx, _, _, rfl, s1 _ _ (sm _ _ h1), G.cl, G.nS, look_s _ _, l, n, _, rfl, rfl, upd_same, by omega, by omega, ?_, fun p hp => ?_⟩
      · show 1 * n.toNat ≤ sizeLine
        exact Nat.le_of_lt (small1000 (by omega))
      have s2 := s1.trans (same_upd (o := .lst (List.replicate n.toNat [V.int 0]).flatten) hp)
      have e0 : (List.replicate n.toNat [V.int 0]).flatten = List.replicate n.toNat (V.int 0) := by
        rw [List.flatten_replicate_singleton]
      have eD2 := s2 _ _ eD
      have pD : p ≠ D := fun z => by
        rw [z, s1 _ _ eD] at hp
        cases hp
      refine ⟨_, eD2, ?_, rs ++ [p], by simp [hrs], ?_, ?_, ?_, ?_⟩
      · rw [List.length_map]
        exact small1000 (by omega)
      · rw [List.nodup_append]
        refine ⟨nd, (by simp), fun a ha b hb => ?_⟩
        rw [List.mem_singleton.mp hb]
        intro z
        have := s1 _ _ (hh a ha).2.2
        rw [z, hp] at this
        cases this
      · intro c o ec
        rw [upd_ne (ne_of_none ec hD)]
        exact s2 _ _ (sm _ _ ec)
      · rw [upd_same, List.map_append]
        rfl
      · intro r hr
        rcases List.mem_append.mp hr with hr | hr
        · obtain ⟨a1, a2, a3⟩ := hh r hr
          exact ⟨a1, a2, by rw [upd_ne a2]; exact s2 _ _ a3⟩
        · rw [List.mem_singleton.mp hr]
          refine ⟨(sm.trans s1).free hp, pD, ?_⟩
          rw [upd_ne pD, upd_same, e0]
    · rintro H1 ⟨rs, hrs, nd, sm, eD, hh⟩
      refine ⟨_, rfl, g, C, dx, _, _, rfl, sm _ _ h1, G.cl, G.nE, look_e _ _, t, vsOf us, SqT, rfl, .inr rfl, SqT.of (sm _ _ h2), fun J w => ?_⟩
      have start : CntAt H1 D rs n.toNat ((psOf us).take 0) := ⟨eD, hrs, fun a r e => by
        rw [List.take_zero, cntRow_nil]
        exact (hh r (List.mem_of_getElem? e)).2.2⟩
      refine for_it w (fun i σ H' => ∃ v2 v3 : Option V, σ = [some (.ref g), some (.ref D), v2, v3] ∧ Same H H' ∧ CntAt H' D rs n.toNat ((psOf us).take i)) ⟨_, _, rfl, sm, start⟩ (fun i σ H' _ p => by obtain ⟨_, _, _, s, _⟩ := p; exact SqT.of (s _ _ h2)) ?_ ?_
      · rintro i x σ H2 H' hi ⟨v2, v3, rfl, sm2, ct⟩ ⟨rfl, gx⟩
        obtain ⟨e, he, rfl⟩ := vsOf_at gx
        have mem : e ∈ us := List.mem_of_getElem? he
        obtain ⟨r1, r2, r3, r4⟩ := rg e mem
        have ha : e.2.1.toNat < rs.length := by rw [ct.len]; omega
        obtain ⟨ra, hrr⟩ : ∃ ra, rs[e.2.1.toNat]? = some ra := ⟨_, List.getElem?_eq_getElem ha⟩
        have hmem : ra ∈ rs := List.mem_of_getElem? hrr
        have ea : e.2.1 = ((e.2.1.toNat : Nat) : Int) := (Int.toNat_of_nonneg r1).symm
        have eb : e.2.2 = ((e.2.2.toNat : Nat) : Int) := (Int.toNat_of_nonneg r3).symm
        have hb : e.2.2.toNat < n.toNat := by omega
        have ro := ct.row _ _ hrr
        refine ⟨e.1, _, rfl, SqT.of (sm2 _ _ (ed e mem)), rfl, _, _, rfl, _, _, rfl, rfl, ?_⟩
        refine ⟨_, rfl, _, rfl, D, _, _, .ref ra, rfl, rfl, SqL.of ct.ls, ?_, ?_⟩
        · rw [ea]
          refine atI_nat ?_
          rw [List.getElem?_map, hrr]
          rfl
        refine ⟨_, rfl, _, _, _, _, rfl, rfl, SqL.of ro, r3, cntRow_at _ hb, _, _, rfl, rfl, _, _, _, e.2.2.toNat, rfl, rfl, ro, ?_, ?_⟩
        · rw [cntRow_len]
          exact ixN_of r3 hb
        refine ⟨_, _, rfl, ?_, ?_⟩
        · intro c o ec
          rw [upd_ne (fun z => ?_)]
          · exact sm2 _ _ ec
          · rw [z, (hh _ hmem).1] at ec
            cases ec
        · have et : (psOf us).take (i + 1) = (psOf us).take i ++ [((e.2.1.toNat : Int), (e.2.2.toNat : Int))] := by
            rw [List.take_add_one, psOf_at he, ← ea, ← eb]
            rfl
          have nD : ra ≠ D := (hh _ hmem).2.1
          refine ⟨by rw [upd_ne nD.symm]; exact ct.ls, ct.len, fun a r hr => ?_⟩
          rw [et]
          by_cases hs : a = e.2.1.toNat
          · subst hs
            have : r = ra := by
              rw [hrr] at hr
              exact (Option.some.inj hr).symm
            subst this
            rw [upd_same, cntRow_set _ hb]
          · have hne : r ≠ ra := fun z => by
              rw [z] at hr
              exact hs (nodup_at nd hr hrr)
            rw [upd_ne hne, cntRow_other _ hs]
            exact ct.row a r hr
      · rintro σ H2 ⟨v2, v3, rfl, sm2, ct⟩
        rw [vsOf_len, show us.length = (psOf us).length by unfold psOf; rw [List.length_map], List.take_length] at ct
        exact ⟨_, rfl, q D rs H2 sm2 hD (fun r hr => (hh r hr).1) ct⟩
end
end Lw
end
section
namespace ZN
open PySem
section
variable {M : Model} {A : Around} {E : Value → Shared → Prop}
theorem loop {α β : Type} {f : α → β → Sem (ForInStep β)} {l : List α} (g : Nat → β) (Inv : Nat → Shared → Prop) {Q : β → Shared → Prop}
    (step : ∀ (j : Nat) (a : α) (s : Shared), l[j]? = some a → Inv j s → wpAny M A (f a (g j)) (fun r s' => r = .yield (g (j + 1)) ∧ Inv (j + 1) s') E s)
    (fin : ∀ s', Inv l.length s' → Q (g l.length) s') : ∀ (post : List α) (j : Nat) (s : Shared), l.drop j = post → j ≤ l.length → Inv j s → wpAny M A (forIn post (g j) f) Q E s := by
  intro post
  induction post with
  | nil =>
    intro j s hd hj inv
    have e : j = l.length := Nat.le_antisymm hj (List.drop_eq_nil_iff.mp hd)
    subst e
    exact wpAny_pure (fin s inv)
  | cons a post ih =>
    intro j s hd hj inv
    have hlt : j < l.length := by
      refine Nat.lt_of_le_of_ne hj fun z => ?_
      rw [z, List.drop_length] at hd
      cases hd
    have ha : l[j]? = some a := by
      have := List.getElem?_drop (xs := l) (i := j) (j := 0)
      rw [hd] at this
      simpa using this.symm
    have hn : l.drop (j + 1) = post := by
      have := congrArg (List.drop 1) hd
      simpa [List.drop_drop] using this
    rw [List.forIn_cons]
    refine wpAny_bind (wpAny_mono (step j a s ha inv) (fun r s' h => ?_) fun _ _ e => e)
    obtain ⟨rfl, inv'⟩ := h
    exact ih (j + 1) s' hn hlt inv'
theorem loopE {α β : Type} {f : α → β → Sem (ForInStep β)} {l : List α} (g : Nat → β) (Inv : Nat → Shared → Prop) {Q : β → Shared → Prop} {n : Nat} (hn : n < l.length)
    (step : ∀ (j : Nat) (a : α) (s : Shared), j < n → l[j]? = some a → Inv j s → wpAny M A (f a (g j)) (fun r s' => r = .yield (g (j + 1)) ∧ Inv (j + 1) s') E s)
    (last : ∀ (a : α) (s : Shared), l[n]? = some a → Inv n s → wpAny M A (f a (g n)) (fun _ _ => False) E s) : ∀ (post : List α) (j : Nat) (s : Shared), l.drop j = post → j ≤ n → Inv j s → wpAny M A (forIn post (g j) f) Q E s := by
  intro post
  induction post with
  | nil =>
    intro j s hd hj inv
    have := List.drop_eq_nil_iff.mp hd
    omega
  | cons a post ih =>
    intro j s hd hj inv
    have ha : l[j]? = some a := by
      have := List.getElem?_drop (xs := l) (i := j) (j := 0)
      rw [hd] at this
      simpa using this.symm
    have hp : l.drop (j + 1) = post := by
      have := congrArg (List.drop 1) hd
      simpa [List.drop_drop] using this
    rw [List.forIn_cons]
    by_cases c : j = n
    · subst c
      exact wpAny_bind (wpAny_mono (last a s ha inv) (fun _ _ h => h.elim) fun _ _ e => e)
    · refine wpAny_bind (wpAny_mono (step j a s (by omega) ha inv) (fun r s' h => ?_) fun _ _ e => e)
      obtain ⟨rfl, inv'⟩ := h
      exact ih (j + 1) s' hp (by omega) inv'
end
def ZipAt (h : Heap) (z TI TO : Addr) (own : Value) (b : Bool) : Prop := h.get? z = some { cls := .type "zip", dict := none, data := .fields #[own, .bool b, .bool false, .ref TI, .ref TO], slots := #[] }
def TupAt (h : Heap) (T : Addr) (vs : Array Value) : Prop := h.get? T = some { cls := .type "tuple", data := .seq vs }
abbrev Rw := Addr × Addr × Array Value
def refs (qs : List Rw) : Array Value := (qs.map fun q => Value.ref q.1).toArray
def Rws (h : Heap) (qs : List Rw) (k j : Nat) : Prop := ∀ (i : Nat) (q : Rw), qs[i]? = some q → h.IsListIter q.1 q.2.1 (if i < j then k + 1 else k) ∧ h.IsList q.2.1 q.2.2
structure Apart (z TI TO : Addr) (qs : List Rw) : Prop where
  zT : z ≠ TO
  iz : z ≠ TI
  iT : TO ≠ TI
  q1 : ∀ q ∈ qs, q.1 ≠ z ∧ q.1 ≠ TO ∧ q.1 ≠ TI
  q2 : ∀ q ∈ qs, q.2.1 ≠ z ∧ q.2.1 ≠ TO
  nd : ∀ (i j : Nat) (p q : Rw), qs[i]? = some p → qs[j]? = some q → i ≠ j → p.1 ≠ q.1
  nl : ∀ p ∈ qs, ∀ q ∈ qs, q.2.1 ≠ p.1
def Col (qs : List Rw) (k : Nat) (xs : List Value) : Prop := xs.length = qs.length ∧ ∀ (i : Nat) (q : Rw) (x : Value), qs[i]? = some q → xs[i]? = some x → q.2.2[k]? = some x
theorem Rws.ext {h h' : Heap} {qs : List Rw} {k j : Nat} (r : Rws h qs k j) (e : ∀ q ∈ qs, ∀ o, h.get? q.1 = some o → h'.get? q.1 = some o) (e2 : ∀ q ∈ qs, ∀ o, h.get? q.2.1 = some o → h'.get? q.2.1 = some o) : Rws h' qs k j := fun i q hq => by
  have m := List.mem_of_getElem? hq
  obtain ⟨⟨o, h1, h2⟩, ⟨ol, h3, h4⟩⟩ := r i q hq
  exact ⟨⟨o, e q m _ h1, h2⟩, ⟨ol, e2 q m _ h3, h4⟩⟩
section
variable {prog : Program} {w : World} {A : Around} {E : Value → Shared → Prop} {s : Shared} {z TI TO : Addr} {qs : List Rw} {k : Nat} {own : Value} {b : Bool}
theorem put {T : Addr} {vs : Array Value} {x : Value} {i : Nat} {Q : Unit → Shared → Prop} (hT : TupAt s.heap T vs) (hz : vs.size ≤ sizeLine)
    (h : ∀ h', TupAt h' T (vs.setIfInBounds i x) → Heap.SameBut T s.heap h' → Q () { s with heap := h' }) : wpAny (model prog w) A (updateSeq T (·.setIfInBounds i x)) Q E s := by
  refine wpAny_updateSeq hT rfl (h _ ?_ (Heap.SameBut.update ..)) (by simpa using hz) (by simp; omega)
  unfold TupAt
  rw [Heap.get?_update_self _ hT rfl]
  simp [Obj.mapSeq]
theorem Rws.step {h h' : Heap} {j : Nat} {q : Rw} (S : Apart z TI TO qs) (r : Rws h qs k j) (hq : qs[j]? = some q) (it : h'.IsListIter q.1 q.2.1 (k + 1)) (sb : Heap.SameBut q.1 h h') : Rws h' qs k (j + 1) := fun i p hp => by
  have mq := List.mem_of_getElem? hq
  have mp := List.mem_of_getElem? hp
  obtain ⟨h1, ⟨ol, h3, h4⟩⟩ := r i p hp
  refine ⟨?_, ⟨ol, sb.extBut _ _ (S.nl q mq p mp) h3, h4⟩⟩
  by_cases e : i = j
  · subst e
    rw [hq] at hp
    cases hp
    rw [if_pos (Nat.lt_succ_self _)]
    exact it
  · obtain ⟨o, g1, g2⟩ := h1
    have e2 : (if i < j + 1 then k + 1 else k) = (if i < j then k + 1 else k) := by
      by_cases l : i < j
      · rw [if_pos l, if_pos (by omega)]
      · rw [if_neg l, if_neg (by omega)]
    rw [e2]
    exact ⟨o, sb.extBut _ _ (S.nd i j p q hp hq e) g1, g2⟩
def Out (z TO : Addr) (qs : List Rw) (c : Addr) : Prop := c ≠ z ∧ c ≠ TO ∧ ∀ q ∈ qs, c ≠ q.1
theorem col_at {xs : List Value} {q : Rw} {j : Nat} (C : Col qs k xs) (hq : qs[j]? = some q) : ∃ x, xs[j]? = some x ∧ q.2.2[k]? = some x := by
  have hj : j < xs.length := by
    rw [C.1]
    exact (List.getElem?_eq_some_iff.mp hq).1
  exact ⟨xs[j], List.getElem?_eq_getElem hj, C.2 j q _ hq (List.getElem?_eq_getElem hj)⟩
theorem Rws.done {h : Heap} (r : Rws h qs k qs.length) : Rws h qs (k + 1) 0 := fun i q hq => by
  have hi := (List.getElem?_eq_some_iff.mp hq).1
  have := r i q hq
  rw [if_pos hi] at this
  rw [if_neg (Nat.not_lt_zero i)]
  exact this
theorem refs_at {j : Nat} {v : Value} (h : (refs qs).toList[j]? = some v) : ∃ q, qs[j]? = some q ∧ v = .ref q.1 := by
  unfold refs at h
  simp only [List.toList_toArray, List.getElem?_map] at h
  obtain ⟨q, hq, rfl⟩ := Option.map_eq_some_iff.mp h
  exact ⟨q, hq, rfl⟩
theorem refs_len : (refs qs).toList.length = qs.length := by
  unfold refs
  simp
set_option maxHeartbeats 3200000 in
theorem next_free {xs : List Value} {vs : Array Value} {Q : Value → Shared → Prop} (S : Apart z TI TO qs) (hz : ZipAt s.heap z TI TO .none b) (hn : qs ≠ []) (h64 : qs.length ≤ 64)
    (hTI : TupAt s.heap TI (refs qs)) (hTO : TupAt s.heap TO vs) (hv : vs.size = qs.length) (R : Rws s.heap qs k 0) (C : Col qs k xs)
    (hQ : ∀ h', ZipAt h' z TI TO (rawInt s.heap.objs.size) false → TupAt h' TI (refs qs) → Rws h' qs (k + 1) 0 → TupAt h' s.heap.objs.size xs.toArray → h'.objs.size = s.heap.objs.size + 1 →
      (∀ c o, Out z TO qs c → s.heap.get? c = some o → h'.get? c = some o) → Q (.ref s.heap.objs.size) { s with heap := h' }) :
    wpAny (model prog w) A (Builtin.«zip.__next__» ⟨[.ref z], []⟩) (fun fin s' => ∃ v, fin = .done (.ret v) ∧ Q v s') E s := by
  show wpAny _ _ (field (.ref z) 2 >>= _) _ _ _
  refine wpAny_bind (wpAny_field hz rfl (x := .bool false) rfl ?_)
  show wpAny _ _ (field (.ref z) 3 >>= _) _ _ _
  refine wpAny_bind (wpAny_field hz rfl (x := .ref TI) rfl ?_)
  refine wpAny_bind (wpAny_seqItems hTI rfl ?_)
  have ne : (refs qs).isEmpty = false := by
    unfold refs
    cases qs with
    | nil => exact absurd rfl hn
    | cons => rfl
  dsimp only
  rw [ne, if_neg Bool.false_ne_true]
  refine wpAny_bind ?_
  unfold Builtin.SmallTypes.ownedTupleIsFree
  refine wpAny_bind (wpAny_field hz rfl (x := .none) rfl (wpAny_pure ?_))
  rw [if_pos rfl]
  refine wpAny_bind (wpAny_rule (wpAny_bind (wpAny_field hz rfl (x := .ref TO) rfl ?_)))
  refine wpAny_bind (wpAny_setField_rec hz (by simp) fun h1 hz1 sb1 => ?_)
  replace hz1 : ZipAt h1 z TI TO .ellipsis b := hz1
  replace sb1 : Heap.SameBut z s.heap h1 := sb1
  refine wpAny_bind ?_
  refine loop (l := (refs qs).toList.zipIdx) (fun _ => (none, ())) (fun j s' => ∃ h' ys, s' = { s with heap := h' } ∧ ZipAt h' z TI TO .ellipsis b ∧ TupAt h' TI (refs qs) ∧ TupAt h' TO ys ∧ ys.size = qs.length ∧ (∀ i x, i < j → xs[i]? = some x → ys[i]? = some x) ∧ Rws h' qs k j ∧ h'.objs.size = s.heap.objs.size ∧ ∀ c o, Out z TO qs c → s.heap.get? c = some o → h'.get? c = some o) ?_ ?_ _ 0 _ rfl (Nat.zero_le _) ?_
  · rintro j ⟨v, j2⟩ s' hj ⟨h2, ys, rfl, z2, t2, o2, sz, low, r2, sz2, out2⟩
    obtain ⟨e1, e2⟩ : (refs qs).toList[j]? = some v ∧ j2 = j := by
      rw [List.getElem?_zipIdx] at hj
      cases g : (refs qs).toList[j]? with
      | none =>
        rw [g] at hj
        cases hj
      | some u =>
        rw [g] at hj
        have := Option.some.inj hj
        simp only [Prod.mk.injEq] at this
        exact ⟨congrArg some this.1, by omega⟩
    subst e2
    obtain ⟨q, hq, rfl⟩ := refs_at e1
    have mq := List.mem_of_getElem? hq
    obtain ⟨x, hx, hxk⟩ := col_at C hq
    have hjl := (List.getElem?_eq_some_iff.mp hq).1
    obtain ⟨it, ls⟩ := r2 j2 q hq
    rw [if_neg (Nat.lt_irrefl _)] at it
    refine wpAny_bind (wpAny_onRaise ?_)
    show wpAny _ _ (Builtin.SmallTypes.nextOf (.ref q.1) >>= _) _ _ _
    refine wpAny_bind (wpAny_nextOf_list_item (s := { s with heap := h2 }) it ls hxk fun h3 it3 sb3 => wpAny_pure ?_)
    replace sb3 : Heap.SameBut q.1 h2 h3 := sb3
    obtain ⟨nz, nT, nI⟩ := S.q1 q mq
    have o3 : TupAt h3 TO ys := sb3.extBut _ _ (Ne.symm nT) o2
    dsimp only
    refine wpAny_bind (wpAny_seqItems (s := { s with heap := h3 }) o3 rfl ?_)
    dsimp only
    refine wpAny_bind (put (s := { s with heap := h3 }) o3 (by rw [sz]; exact Nat.le_trans h64 (by decide)) fun h4 o4 sb4 => ?_)
    replace sb4 : Heap.SameBut TO h3 h4 := sb4
    refine wpAny_bind (wpAny_letGo (wpAny_pure ⟨rfl, h4, _, rfl, ?_, ?_, o4, ?_, ?_, ?_, ?_, ?_⟩))
    · exact sb4.extBut _ _ S.zT (sb3.extBut _ _ (Ne.symm nz) z2)
    · exact sb4.extBut _ _ (Ne.symm S.iT) (sb3.extBut _ _ (Ne.symm nI) t2)
    · rw [Array.size_setIfInBounds]
      exact sz
    · intro i y hi hy
      by_cases e : i = j2
      · subst e
        rw [hx] at hy
        cases hy
        rw [Array.getElem?_setIfInBounds_self_of_lt (by omega)]
      · rw [Array.getElem?_setIfInBounds_ne (Ne.symm e)]
        exact low i y (by omega) hy
    · refine (r2.step S hq it3 sb3).ext (fun p mp o e => ?_) (fun p mp o e => ?_)
      · exact sb4.extBut _ _ (S.q1 p mp).2.1 e
      · exact sb4.extBut _ _ (S.q2 p mp).2 e
    · rw [sb4.1, sb3.1, sz2]
    · intro c o hc e
      exact sb4.extBut _ _ hc.2.1 (sb3.extBut _ _ (hc.2.2 q mq) (out2 c o hc e))
  · rintro s' ⟨h2, ys, rfl, z2, t2, o2, sz, low, r2, sz2, out2⟩
    rw [List.length_zipIdx, refs_len] at low r2
    have ey : ys = xs.toArray := by
      apply Array.ext_getElem?
      intro i
      by_cases hi : i < qs.length
      · have hx : i < xs.length := by rw [C.1]; exact hi
        have := low i xs[i] hi (List.getElem?_eq_getElem hx)
        rw [this]
        simp [hx]
      · rw [Array.getElem?_eq_none (by omega), Array.getElem?_eq_none (by simp [C.1]; omega)]
    subst ey
    dsimp only
    refine wpAny_bind (wpAny_seqItems (s := { s with heap := h2 }) o2 rfl ?_)
    dsimp only
    refine wpAny_bind (wpAny_newTuple ?_)
    refine wpAny_bind ?_
    unfold Builtin.SmallTypes.ownedTupleHandOut
    have z3 : ZipAt (h2.push { cls := .type "tuple", data := .seq xs.toArray.toList.toArray }) z TI TO .ellipsis b := Heap.get?_push_of_some _ z2
    refine wpAny_bind (wpAny_setField_rec (s := { s with heap := h2.push { cls := .type "tuple", data := .seq xs.toArray.toList.toArray } }) z3 (by simp) fun h4 z4 sb4 => ?_)
    replace z4 : ZipAt h4 z TI TO (rawInt h2.objs.size) b := z4
    replace sb4 : Heap.SameBut z (h2.push { cls := .type "tuple", data := .seq xs.toArray.toList.toArray }) h4 := sb4
    refine wpAny_setField_rec (s := { s with heap := h4 }) z4 (by simp) fun h5 z5 sb5 => ?_
    replace z5 : ZipAt h5 z TI TO (rawInt h2.objs.size) false := z5
    replace sb5 : Heap.SameBut z h4 h5 := sb5
    have zlt : z < h2.objs.size := Heap.lt_size z2
    have up : ∀ c o, c ≠ z → h2.get? c = some o → h5.get? c = some o := fun c o n e => sb5.extBut _ _ n (sb4.extBut _ _ n (Heap.get?_push_of_some _ e))
    have tn : TupAt h5 h2.objs.size xs.toArray := by
      have : TupAt (h2.push { cls := .type "tuple", data := .seq xs.toArray.toList.toArray }) h2.objs.size xs.toArray := Heap.get?_push_size _ rfl
      exact sb5.extBut _ _ (Nat.ne_of_gt zlt) (sb4.extBut _ _ (Nat.ne_of_gt zlt) this)
    have s5 : h5.objs.size = h2.objs.size + 1 := by rw [sb5.1, sb4.1, Heap.size_push]
    rw [sz2] at z5 tn s5
    refine wpAny_pure ⟨_, rfl, ?_⟩
    show Q (.ref h2.objs.size) _
    rw [sz2]
    refine hQ h5 z5 (up _ _ (Ne.symm S.iz) t2) (r2.done.ext (fun p mp o e => up _ _ (S.q1 p mp).1 e) fun p mp o e => up _ _ (S.q2 p mp).1 e) tn s5 fun c o hc e => up c o hc.1 (out2 c o hc e)
  · refine ⟨h1, vs, rfl, hz1, sb1.extBut _ _ (Ne.symm S.iz) hTI, sb1.extBut _ _ (Ne.symm S.zT) hTO, hv, fun i x hi => absurd hi (Nat.not_lt_zero i), ?_, sb1.1, fun c o hc e => sb1.extBut _ _ hc.1 e⟩
    exact R.ext (fun p mp o e => sb1.extBut _ _ (S.q1 p mp).1 e) fun p mp o e => sb1.extBut _ _ (S.q2 p mp).1 e
end
end ZN
end
section
namespace ZN
open PySem
section
variable {prog : Program} {w : World} {A : Around} {E : Value → Shared → Prop} {s : Shared} {z TI TO T : Addr} {qs : List Rw} {k : Nat} {b : Bool} {oT : Obj}
set_option maxHeartbeats 3200000 in
theorem next_held {xs : List Value} {Q : Value → Shared → Prop} (S : Apart z TI TO qs) (hz : ZipAt s.heap z TI TO (rawInt T) b) (hT : s.heap.get? T = some oT) (hn : qs ≠ []) (h64 : qs.length ≤ 64)
    (hTI : TupAt s.heap TI (refs qs)) (R : Rws s.heap qs k 0) (C : Col qs k xs)
    (hQ : ∀ h', ZipAt h' z TI TO (rawInt T) true → TupAt h' TI (refs qs) → Rws h' qs (k + 1) 0 → TupAt h' s.heap.objs.size xs.toArray → h'.objs.size = s.heap.objs.size + 1 →
      (∀ c o, Out z TO qs c → s.heap.get? c = some o → h'.get? c = some o) → Q (.ref s.heap.objs.size) { s with heap := h' }) :
    wpAny (model prog w) A (Builtin.«zip.__next__» ⟨[.ref z], []⟩) (fun fin s' => ∃ v, fin = .done (.ret v) ∧ Q v s') E s := by
  show wpAny _ _ (field (.ref z) 2 >>= _) _ _ _
  refine wpAny_bind (wpAny_field hz rfl (x := .bool false) rfl ?_)
  show wpAny _ _ (field (.ref z) 3 >>= _) _ _ _
  refine wpAny_bind (wpAny_field hz rfl (x := .ref TI) rfl ?_)
  refine wpAny_bind (wpAny_seqItems hTI rfl ?_)
  have ne : (refs qs).isEmpty = false := by
    unfold refs
    cases qs with
    | nil => exact absurd rfl hn
    | cons => rfl
  dsimp only
  rw [ne, if_neg Bool.false_ne_true]
  refine wpAny_bind (wpAny_tupleHeld_zip hz hT fun h1 hz1 sb1 => ?_)
  replace hz1 : ZipAt h1 z TI TO (rawInt T) true := hz1
  replace sb1 : Heap.SameBut z s.heap h1 := sb1
  rw [if_neg Bool.false_ne_true]
  refine wpAny_bind ?_
  rw [← Array.forIn_toList]
  refine loop (l := (refs qs).toList) (fun j => (none, (xs.take j).toArray)) (fun j s' => ∃ h', s' = { s with heap := h' } ∧ ZipAt h' z TI TO (rawInt T) true ∧ TupAt h' TI (refs qs) ∧ Rws h' qs k j ∧ h'.objs.size = s.heap.objs.size ∧ ∀ c o, Out z TO qs c → s.heap.get? c = some o → h'.get? c = some o) ?_ ?_ _ 0 _ rfl (Nat.zero_le _) ?_
  · rintro j v s' hj ⟨h2, rfl, z2, t2, r2, sz2, out2⟩
    obtain ⟨q, hq, rfl⟩ := refs_at hj
    have mq := List.mem_of_getElem? hq
    obtain ⟨x, hx, hxk⟩ := col_at C hq
    obtain ⟨it, ls⟩ := r2 j q hq
    rw [if_neg (Nat.lt_irrefl _)] at it
    refine wpAny_bind (wpAny_holding ?_)
    show wpAny _ _ (Builtin.SmallTypes.nextOf (.ref q.1) >>= _) _ _ _
    refine wpAny_bind (wpAny_nextOf_list_item (s := { s with heap := h2 }) it ls hxk fun h3 it3 sb3 => wpAny_pure ?_)
    replace sb3 : Heap.SameBut q.1 h2 h3 := sb3
    obtain ⟨nz, nT, nI⟩ := S.q1 q mq
    refine wpAny_pure ⟨?_, h3, rfl, ?_, ?_, r2.step S hq it3 sb3, ?_, ?_⟩
    · rw [List.take_add_one, hx]
      simp
    · exact sb3.extBut _ _ (Ne.symm nz) z2
    · exact sb3.extBut _ _ (Ne.symm nI) t2
    · rw [sb3.1, sz2]
    · intro c o hc e
      exact sb3.extBut _ _ (hc.2.2 q mq) (out2 c o hc e)
  · rintro s' ⟨h2, rfl, z2, t2, r2, sz2, out2⟩
    rw [refs_len] at r2
    rw [refs_len, ← C.1, List.take_length]
    dsimp only
    have hs : xs.length ≤ sizeLine := by
      rw [C.1]
      exact Nat.le_trans h64 (by decide)
    refine wpAny_bind (wpAny_newTuple ?_ (by simpa using hs))
    refine wpAny_pure ⟨_, rfl, ?_⟩
    show Q (.ref h2.objs.size) { s with heap := h2.push { cls := .type "tuple", data := .seq xs.toArray.toList.toArray } }
    have tn : TupAt (h2.push { cls := .type "tuple", data := .seq xs.toArray.toList.toArray }) h2.objs.size xs.toArray := Heap.get?_push_size _ rfl
    have s5 : (h2.push { cls := .type "tuple", data := .seq xs.toArray.toList.toArray }).objs.size = h2.objs.size + 1 := Heap.size_push ..
    rw [sz2] at tn s5
    rw [sz2]
    exact hQ _ (Heap.get?_push_of_some _ z2) (Heap.get?_push_of_some _ t2) (r2.done.ext (fun p mp o e => Heap.get?_push_of_some _ e) fun p mp o e => Heap.get?_push_of_some _ e) tn s5 fun c o hc e => Heap.get?_push_of_some _ (out2 c o hc e)
  · refine ⟨h1, rfl, hz1, sb1.extBut _ _ (Ne.symm S.iz) hTI, ?_, sb1.1, fun c o hc e => sb1.extBut _ _ hc.1 e⟩
    exact R.ext (fun p mp o e => sb1.extBut _ _ (S.q1 p mp).1 e) fun p mp o e => sb1.extBut _ _ (S.q2 p mp).1 e
def EndsAt (qs : List Rw) (k : Nat) : Prop := ∃ (n : Nat) (q : Rw), qs[n]? = some q ∧ q.2.2[k]? = none ∧ ∀ (i : Nat) (p : Rw), i < n → qs[i]? = some p → ∃ x, p.2.2[k]? = some x
set_option maxHeartbeats 3200000 in
theorem end_held {Q : Fin → Shared → Prop} (hh : A.handled = none) (S : Apart z TI TO qs) (hz : ZipAt s.heap z TI TO (rawInt T) b) (hT : s.heap.get? T = some oT) (hn : qs ≠ [])
    (hTI : TupAt s.heap TI (refs qs)) (R : Rws s.heap qs k 0) (hk : EndsAt qs k)
    (hE : ∀ h' e, (∀ c o, Out z TO qs c → s.heap.get? c = some o → h'.get? c = some o) → (∃ o, h'.get? e = some o ∧ o.cls = .type "StopIteration") → E (.ref e) { s with heap := h' }) :
    wpAny (model prog w) A (Builtin.«zip.__next__» ⟨[.ref z], []⟩) Q E s := by
  obtain ⟨n, qn, hqn, hnone, hsome⟩ := hk
  show wpAny _ _ (field (.ref z) 2 >>= _) _ _ _
  refine wpAny_bind (wpAny_field hz rfl (x := .bool false) rfl ?_)
  show wpAny _ _ (field (.ref z) 3 >>= _) _ _ _
  refine wpAny_bind (wpAny_field hz rfl (x := .ref TI) rfl ?_)
  refine wpAny_bind (wpAny_seqItems hTI rfl ?_)
  have ne : (refs qs).isEmpty = false := by
    unfold refs
    cases qs with
    | nil => exact absurd rfl hn
    | cons => rfl
  dsimp only
  rw [ne, if_neg Bool.false_ne_true]
  refine wpAny_bind (wpAny_tupleHeld_zip hz hT fun h1 hz1 sb1 => ?_)
  replace sb1 : Heap.SameBut z s.heap h1 := sb1
  rw [if_neg Bool.false_ne_true]
  refine wpAny_bind ?_
  rw [← Array.forIn_toList]
  have nl : n < (refs qs).toList.length := by
    rw [refs_len]
    exact (List.getElem?_eq_some_iff.mp hqn).1
  refine loopE (l := (refs qs).toList) (n := n) (fun j => (none, ((qs.take j).map fun p => p.2.2.getD k .none).toArray)) (fun j s' => ∃ h', s' = { s with heap := h' } ∧ Rws h' qs k j ∧ ∀ c o, Out z TO qs c → s.heap.get? c = some o → h'.get? c = some o) nl ?_ ?_ _ 0 _ rfl (Nat.zero_le _) ?_
  · rintro j v s' hjn hj ⟨h2, rfl, r2, out2⟩
    obtain ⟨q, hq, rfl⟩ := refs_at hj
    have mq := List.mem_of_getElem? hq
    obtain ⟨x, hxk⟩ := hsome j q hjn hq
    obtain ⟨it, ls⟩ := r2 j q hq
    rw [if_neg (Nat.lt_irrefl _)] at it
    refine wpAny_bind (wpAny_holding ?_)
    show wpAny _ _ (Builtin.SmallTypes.nextOf (.ref q.1) >>= _) _ _ _
    refine wpAny_bind (wpAny_nextOf_list_item (s := { s with heap := h2 }) it ls hxk fun h3 it3 sb3 => wpAny_pure ?_)
    replace sb3 : Heap.SameBut q.1 h2 h3 := sb3
    refine wpAny_pure ⟨?_, h3, rfl, r2.step S hq it3 sb3, fun c o hc e => sb3.extBut _ _ (hc.2.2 q mq) (out2 c o hc e)⟩
    rw [List.take_add_one, hq]
    simp [hxk]
  · rintro v s' hj ⟨h2, rfl, r2, out2⟩
    obtain ⟨q, hq, rfl⟩ := refs_at hj
    rw [hqn] at hq
    cases hq
    have mq := List.mem_of_getElem? hqn
    obtain ⟨it, ls⟩ := r2 n qn hqn
    rw [if_neg (Nat.lt_irrefl _)] at it
    refine wpAny_bind (wpAny_holding ?_)
    show wpAny _ _ (Builtin.SmallTypes.nextOf (.ref qn.1) >>= _) _ _ _
    refine wpAny_bind (wpAny_nextOf_list_end (s := { s with heap := h2 }) hh it ls hnone fun h3 e ex he => ?_)
    replace ex : Heap.ExtBut qn.1 h2 h3 := ex
    exact hE h3 e (fun c o hc x => ex _ _ (hc.2.2 qn mq) (out2 c o hc x)) he
  · refine ⟨h1, rfl, ?_, fun c o hc e => sb1.extBut _ _ hc.1 e⟩
    exact R.ext (fun p mp o e => sb1.extBut _ _ (S.q1 p mp).1 e) fun p mp o e => sb1.extBut _ _ (S.q2 p mp).1 e
set_option maxHeartbeats 3200000 in
theorem end_free {vs : Array Value} {Q : Fin → Shared → Prop} (hh : A.handled = none) (S : Apart z TI TO qs) (hz : ZipAt s.heap z TI TO .none b) (hn : qs ≠ []) (h64 : qs.length ≤ 64)
    (hTI : TupAt s.heap TI (refs qs)) (hTO : TupAt s.heap TO vs) (hv : vs.size = qs.length) (R : Rws s.heap qs k 0) (hk : EndsAt qs k)
    (hE : ∀ h' e, (∀ c o, Out z TO qs c → s.heap.get? c = some o → h'.get? c = some o) → (∃ o, h'.get? e = some o ∧ o.cls = .type "StopIteration") → E (.ref e) { s with heap := h' }) :
    wpAny (model prog w) A (Builtin.«zip.__next__» ⟨[.ref z], []⟩) Q E s := by
  obtain ⟨n, qn, hqn, hnone, hsome⟩ := hk
  show wpAny _ _ (field (.ref z) 2 >>= _) _ _ _
  refine wpAny_bind (wpAny_field hz rfl (x := .bool false) rfl ?_)
  show wpAny _ _ (field (.ref z) 3 >>= _) _ _ _
  refine wpAny_bind (wpAny_field hz rfl (x := .ref TI) rfl ?_)
  refine wpAny_bind (wpAny_seqItems hTI rfl ?_)
  have ne : (refs qs).isEmpty = false := by
    unfold refs
    cases qs with
    | nil => exact absurd rfl hn
    | cons => rfl
  dsimp only
  rw [ne, if_neg Bool.false_ne_true]
  refine wpAny_bind ?_
  unfold Builtin.SmallTypes.ownedTupleIsFree
  refine wpAny_bind (wpAny_field hz rfl (x := .none) rfl (wpAny_pure ?_))
  rw [if_pos rfl]
  refine wpAny_bind (wpAny_rule (wpAny_bind (wpAny_field hz rfl (x := .ref TO) rfl ?_)))
  refine wpAny_bind (wpAny_setField_rec hz (by simp) fun h1 hz1 sb1 => ?_)
  replace hz1 : ZipAt h1 z TI TO .ellipsis b := hz1
  replace sb1 : Heap.SameBut z s.heap h1 := sb1
  refine wpAny_bind ?_
  have nl : n < (refs qs).toList.zipIdx.length := by
    rw [List.length_zipIdx, refs_len]
    exact (List.getElem?_eq_some_iff.mp hqn).1
  have split : ∀ {j : Nat} {v : Value} {j2 : Nat}, (refs qs).toList.zipIdx[j]? = some (v, j2) → (refs qs).toList[j]? = some v ∧ j2 = j := fun {j v j2} hj => by
    rw [List.getElem?_zipIdx] at hj
    cases g : (refs qs).toList[j]? with
    | none =>
      rw [g] at hj
      cases hj
    | some u =>
      rw [g] at hj
      have := Option.some.inj hj
      simp only [Prod.mk.injEq] at this
      exact ⟨congrArg some this.1, by omega⟩
  refine loopE (l := (refs qs).toList.zipIdx) (n := n) (fun _ => (none, ())) (fun j s' => ∃ h' ys, s' = { s with heap := h' } ∧ ZipAt h' z TI TO .ellipsis b ∧ TupAt h' TO ys ∧ ys.size = qs.length ∧ Rws h' qs k j ∧ ∀ c o, Out z TO qs c → s.heap.get? c = some o → h'.get? c = some o) nl ?_ ?_ _ 0 _ rfl (Nat.zero_le _) ?_
  · rintro j ⟨v, j2⟩ s' hjn hj ⟨h2, ys, rfl, z2, o2, sz, r2, out2⟩
    obtain ⟨e1, e2⟩ := split hj
    subst e2
    obtain ⟨q, hq, rfl⟩ := refs_at e1
    have mq := List.mem_of_getElem? hq
    obtain ⟨x, hxk⟩ := hsome j2 q hjn hq
    obtain ⟨it, ls⟩ := r2 j2 q hq
    rw [if_neg (Nat.lt_irrefl _)] at it
    refine wpAny_bind (wpAny_onRaise ?_)
    show wpAny _ _ (Builtin.SmallTypes.nextOf (.ref q.1) >>= _) _ _ _
    refine wpAny_bind (wpAny_nextOf_list_item (s := { s with heap := h2 }) it ls hxk fun h3 it3 sb3 => wpAny_pure ?_)
    replace sb3 : Heap.SameBut q.1 h2 h3 := sb3
    obtain ⟨nz, nT, nI⟩ := S.q1 q mq
    have o3 : TupAt h3 TO ys := sb3.extBut _ _ (Ne.symm nT) o2
    dsimp only
    refine wpAny_bind (wpAny_seqItems (s := { s with heap := h3 }) o3 rfl ?_)
    dsimp only
    refine wpAny_bind (put (s := { s with heap := h3 }) o3 (by rw [sz]; exact Nat.le_trans h64 (by decide)) fun h4 o4 sb4 => ?_)
    replace sb4 : Heap.SameBut TO h3 h4 := sb4
    refine wpAny_bind (wpAny_letGo (wpAny_pure ⟨rfl, h4, _, rfl, ?_, o4, ?_, ?_, ?_⟩))
    · exact sb4.extBut _ _ S.zT (sb3.extBut _ _ (Ne.symm nz) z2)
    · rw [Array.size_setIfInBounds]
      exact sz
    · refine (r2.step S hq it3 sb3).ext (fun p mp o e => ?_) (fun p mp o e => ?_)
      · exact sb4.extBut _ _ (S.q1 p mp).2.1 e
      · exact sb4.extBut _ _ (S.q2 p mp).2 e
    · intro c o hc e
      exact sb4.extBut _ _ hc.2.1 (sb3.extBut _ _ (hc.2.2 q mq) (out2 c o hc e))
  · rintro ⟨v, j2⟩ s' hj ⟨h2, ys, rfl, z2, o2, sz, r2, out2⟩
    obtain ⟨e1, e2⟩ := split hj
    subst e2
    obtain ⟨q, hq, rfl⟩ := refs_at e1
    rw [hqn] at hq
    cases hq
    have mq := List.mem_of_getElem? hqn
    obtain ⟨it, ls⟩ := r2 j2 qn hqn
    rw [if_neg (Nat.lt_irrefl _)] at it
    refine wpAny_bind (wpAny_onRaise ?_)
    show wpAny _ _ (Builtin.SmallTypes.nextOf (.ref qn.1) >>= _) _ _ _
    refine wpAny_bind (wpAny_nextOf_list_end (s := { s with heap := h2 }) hh it ls hnone fun h3 e ex he => ?_)
    replace ex : Heap.ExtBut qn.1 h2 h3 := ex
    have z3 : ZipAt h3 z TI TO .ellipsis b := ex _ _ (Ne.symm (S.q1 qn mq).1) z2
    obtain ⟨oe, he1, he2⟩ := he
    have nez : e ≠ z := fun w => by
      rw [w, z3] at he1
      have := Option.some.inj he1
      rw [← this] at he2
      exact absurd (show Value.type "zip" = Value.type "StopIteration" from he2) (by decide)
    refine wpAny_setField_rec (s := { s with heap := h3 }) z3 (by simp) fun h4 z4 sb4 => ?_
    replace sb4 : Heap.SameBut z h3 h4 := sb4
    exact hE h4 e (fun c o hc x => sb4.extBut _ _ hc.1 (ex _ _ (hc.2.2 qn mq) (out2 c o hc x))) ⟨oe, sb4.extBut _ _ nez he1, he2⟩
  · refine ⟨h1, vs, rfl, hz1, sb1.extBut _ _ (Ne.symm S.zT) hTO, hv, ?_, fun c o hc e => sb1.extBut _ _ hc.1 e⟩
    exact R.ext (fun p mp o e => sb1.extBut _ _ (S.q1 p mp).1 e) fun p mp o e => sb1.extBut _ _ (S.q2 p mp).1 e
theorem py_free {xs : List Value} {vs : Array Value} {Q : Option Value → Shared → Prop} (S : Apart z TI TO qs) (hz : ZipAt s.heap z TI TO .none b) (hn : qs ≠ []) (h64 : qs.length ≤ 64)
    (hTI : TupAt s.heap TI (refs qs)) (hTO : TupAt s.heap TO vs) (hv : vs.size = qs.length) (R : Rws s.heap qs k 0) (C : Col qs k xs)
    (hQ : ∀ h', ZipAt h' z TI TO (rawInt s.heap.objs.size) false → TupAt h' TI (refs qs) → Rws h' qs (k + 1) 0 → TupAt h' s.heap.objs.size xs.toArray → h'.objs.size = s.heap.objs.size + 1 →
      (∀ c o, Out z TO qs c → s.heap.get? c = some o → h'.get? c = some o) → Q (some (.ref s.heap.objs.size)) { s with heap := h' }) : wpAny (model prog w) A (pyNext (.ref z)) Q E s := by
  have ty : s.TypeIs (.ref z) "zip" := ⟨_, hz, rfl⟩
  unfold pyNext
  exact wpAny_bind (wpAny_attempt (wpAny_callSpecial?_slot (name := Str.ofString "__next__") ty F.slot_zip_next (wpAny_call_entry F.slot_zip_next ty F.entry_zip_next (next_free S hz hn h64 hTI hTO hv R C fun h' a b c d e f => wpAny_pure (hQ h' a b c d e f)) (F.args_zip_next_1 _))))
theorem py_held {xs : List Value} {Q : Option Value → Shared → Prop} (S : Apart z TI TO qs) (hz : ZipAt s.heap z TI TO (rawInt T) b) (hT : s.heap.get? T = some oT) (hn : qs ≠ []) (h64 : qs.length ≤ 64)
    (hTI : TupAt s.heap TI (refs qs)) (R : Rws s.heap qs k 0) (C : Col qs k xs)
    (hQ : ∀ h', ZipAt h' z TI TO (rawInt T) true → TupAt h' TI (refs qs) → Rws h' qs (k + 1) 0 → TupAt h' s.heap.objs.size xs.toArray → h'.objs.size = s.heap.objs.size + 1 →
      (∀ c o, Out z TO qs c → s.heap.get? c = some o → h'.get? c = some o) → Q (some (.ref s.heap.objs.size)) { s with heap := h' }) : wpAny (model prog w) A (pyNext (.ref z)) Q E s := by
  have ty : s.TypeIs (.ref z) "zip" := ⟨_, hz, rfl⟩
  unfold pyNext
  exact wpAny_bind (wpAny_attempt (wpAny_callSpecial?_slot (name := Str.ofString "__next__") ty F.slot_zip_next (wpAny_call_entry F.slot_zip_next ty F.entry_zip_next (next_held S hz hT hn h64 hTI R C fun h' a b c d e f => wpAny_pure (hQ h' a b c d e f)) (F.args_zip_next_1 _))))
theorem py_end {Q : Option Value → Shared → Prop} (hh : A.handled = none) (S : Apart z TI TO qs) (hz : ZipAt s.heap z TI TO (rawInt T) b) (hT : s.heap.get? T = some oT) (hn : qs ≠ []) (hTI : TupAt s.heap TI (refs qs)) (R : Rws s.heap qs k 0) (hk : EndsAt qs k)
    (hQ : ∀ h', (∀ c o, Out z TO qs c → s.heap.get? c = some o → h'.get? c = some o) → Q none { s with heap := h' }) : wpAny (model prog w) A (pyNext (.ref z)) Q E s := by
  have ty : s.TypeIs (.ref z) "zip" := ⟨_, hz, rfl⟩
  unfold pyNext
  refine wpAny_bind (wpAny_attempt (wpAny_callSpecial?_slot (name := Str.ofString "__next__") ty F.slot_zip_next (wpAny_call_entry F.slot_zip_next ty F.entry_zip_next (end_held hh S hz hT hn hTI R hk fun h' e ke he => ?_) (F.args_zip_next_1 _))))
  obtain ⟨o, ho, hc⟩ := he
  exact wpAny_bind (wpAny_isInstance (T := "StopIteration") (b := true) ⟨o, ho, hc⟩ isSubtype_stop (wpAny_pure (hQ _ ke)))
theorem py_end0 {vs : Array Value} {Q : Option Value → Shared → Prop} (hh : A.handled = none) (S : Apart z TI TO qs) (hz : ZipAt s.heap z TI TO .none b) (hn : qs ≠ []) (h64 : qs.length ≤ 64) (hTI : TupAt s.heap TI (refs qs)) (hTO : TupAt s.heap TO vs) (hv : vs.size = qs.length) (R : Rws s.heap qs k 0) (hk : EndsAt qs k)
    (hQ : ∀ h', (∀ c o, Out z TO qs c → s.heap.get? c = some o → h'.get? c = some o) → Q none { s with heap := h' }) : wpAny (model prog w) A (pyNext (.ref z)) Q E s := by
  have ty : s.TypeIs (.ref z) "zip" := ⟨_, hz, rfl⟩
  unfold pyNext
  refine wpAny_bind (wpAny_attempt (wpAny_callSpecial?_slot (name := Str.ofString "__next__") ty F.slot_zip_next (wpAny_call_entry F.slot_zip_next ty F.entry_zip_next (end_free hh S hz hn h64 hTI hTO hv R hk fun h' e ke he => ?_) (F.args_zip_next_1 _))))
  obtain ⟨o, ho, hc⟩ := he
  exact wpAny_bind (wpAny_isInstance (T := "StopIteration") (b := true) ⟨o, ho, hc⟩ isSubtype_stop (wpAny_pure (hQ _ ke)))
end
end ZN
end
section
namespace ZN
open PySem
structure LI (g : Heap) (S z TI TO : Addr) (qs : List Rw) (cols : List (List Value)) (h : Heap) (i : Nat) (Ts : List Addr) : Prop where
  ls : ∃ c : Nat, h.get? S = some { cls := .type "list", dict := none, data := .seq (Ts.map Value.ref).toArray c, slots := #[] }
  len : Ts.length = i
  tup : ∀ (j : Nat) (T : Addr) (xs : List Value), Ts[j]? = some T → cols[j]? = some xs → TupAt h T xs.toArray
  new : ∀ T ∈ Ts, g.objs.size ≤ T ∧ T < h.objs.size ∧ T ≠ S
  nd : Ts.Nodup
  zp : (i = 0 ∧ ZipAt h z TI TO .none false ∧ ∃ vs, TupAt h TO vs ∧ vs.size = qs.length) ∨ (0 < i ∧ ∃ (T0 : Addr) (b : Bool), Ts[0]? = some T0 ∧ ZipAt h z TI TO (rawInt T0) b)
  ti : TupAt h TI (refs qs)
  rw : Rws h qs i 0
  out : ∀ a o, Out z TO qs a → a ≠ S → g.get? a = some o → h.get? a = some o
  sz : g.objs.size ≤ h.objs.size
structure Low (g : Heap) (S z TI TO : Addr) (qs : List Rw) : Prop where
  lz : z < g.objs.size
  lI : TI < g.objs.size
  lO : TO < g.objs.size
  q1 : ∀ q ∈ qs, q.1 < g.objs.size
  Sz : S ≠ z
  ST : S ≠ TI
  SO : S ≠ TO
  S1 : ∀ q ∈ qs, S ≠ q.1
  S2 : ∀ q ∈ qs, S ≠ q.2.1
theorem Low.out {g : Heap} {S z TI TO : Addr} {qs : List Rw} (L : Low g S z TI TO qs) {T : Addr} (h : g.objs.size ≤ T) : Out z TO qs T := ⟨Nat.ne_of_gt (Nat.lt_of_lt_of_le L.lz h), Nat.ne_of_gt (Nat.lt_of_lt_of_le L.lO h), fun q mq => Nat.ne_of_gt (Nat.lt_of_lt_of_le (L.q1 q mq) h)⟩
section
variable {prog : Program} {w : World} {A : Around} {R : Result → Shared → Prop} {s0 : Shared} {g : Heap} {S z TI TO : Addr} {qs : List Rw} {cols : List (List Value)}
theorem LI.more {h h1 : Heap} {i c : Nat} {Ts : List Addr} {xs : List Value} (Ap : Apart z TI TO qs) (L : Low g S z TI TO qs) (I : LI g S z TI TO qs cols h i Ts) (hx : cols[i]? = some xs) (hS1 : h1.get? S = some { cls := .type "list", dict := none, data := .seq (Ts.map Value.ref).toArray c, slots := #[] })
    (zp : ∃ (T0 : Addr) (b : Bool), (Ts ++ [h.objs.size])[0]? = some T0 ∧ ZipAt h1 z TI TO (rawInt T0) b) (ti : TupAt h1 TI (refs qs)) (rw1 : Rws h1 qs (i + 1) 0) (tn : TupAt h1 h.objs.size xs.toArray) (s1 : h1.objs.size = h.objs.size + 1) (out : ∀ c o, Out z TO qs c → h.get? c = some o → h1.get? c = some o) :
    LI g S z TI TO qs cols (h1.update S (Obj.mapSeq (·.push (.ref h.objs.size)))) (i + 1) (Ts ++ [h.objs.size]) := by
  have Sl : S < h.objs.size := by
    obtain ⟨c0, e0⟩ := I.ls
    exact Heap.lt_size e0
  have oth : ∀ b o, b ≠ S → h1.get? b = some o → (h1.update S (Obj.mapSeq (·.push (.ref h.objs.size)))).get? b = some o := fun b o hb e => (Heap.get?_update_other _ _ (Ne.symm hb)).trans e
  have usz : (h1.update S (Obj.mapSeq (·.push (.ref h.objs.size)))).objs.size = h1.objs.size := (Heap.SameBut.update (h := h1) (a := S) (f := Obj.mapSeq (·.push (.ref h.objs.size)))).1
  refine ⟨?_, by rw [List.length_append, I.len]; rfl, ?_, ?_, ?_, .inr ⟨Nat.succ_pos i, ?_⟩, oth _ _ (Ne.symm L.ST) ti, ?_, ?_, ?_⟩
  · have ea : (Ts.map Value.ref).toArray.push (.ref h.objs.size) = ((Ts ++ [h.objs.size]).map Value.ref).toArray := by simp
    have e := Heap.get?_update_self (Obj.mapSeq (·.push (.ref h.objs.size))) hS1 rfl
    obtain ⟨c2, hc2⟩ : ∃ c2, Obj.mapSeq (·.push (.ref h.objs.size)) { cls := Value.type "list", dict := none, data := .seq (Ts.map Value.ref).toArray c, slots := #[] } = { cls := Value.type "list", dict := none, data := .seq ((Ts.map Value.ref).toArray.push (.ref h.objs.size)) c2, slots := #[] } := ⟨_, rfl⟩
    rw [hc2, ea] at e
    exact ⟨c2, e⟩
  · intro j T ys hT hy
    by_cases hj : j < Ts.length
    · rw [List.getElem?_append_left hj] at hT
      have m := I.new T (List.mem_of_getElem? hT)
      exact oth _ _ m.2.2 (out _ _ (L.out m.1) (I.tup j T ys hT hy))
    · rw [List.getElem?_append_right (by omega)] at hT
      have hj2 : j - Ts.length = 0 := by
        by_cases e : j - Ts.length = 0
        · exact e
        · obtain ⟨n, hn⟩ : ∃ n, j - Ts.length = n + 1 := ⟨j - Ts.length - 1, by omega⟩
          rw [hn] at hT
          cases hT
      rw [hj2] at hT
      have ej : j = i := by
        have := I.len
        omega
      subst ej
      rw [hx] at hy
      cases hy
      have := Option.some.inj hT
      rw [← this]
      exact oth _ _ (Nat.ne_of_gt Sl) tn
  · intro T hT
    rcases List.mem_append.mp hT with hT | hT
    · obtain ⟨n1, n2, n3⟩ := I.new T hT
      exact ⟨n1, Nat.lt_of_lt_of_eq (show T < h.objs.size + 1 by exact Nat.lt_succ_of_lt n2) (usz.trans s1).symm, n3⟩
    · rw [List.mem_singleton.mp hT]
      exact ⟨I.sz, Nat.lt_of_lt_of_eq (Nat.lt_succ_self _) (usz.trans s1).symm, Nat.ne_of_gt Sl⟩
  · refine List.nodup_append.mpr ⟨I.nd, by simp, fun a ha b hb => ?_⟩
    rw [List.mem_singleton.mp hb]
    exact Nat.ne_of_lt (I.new a ha).2.1
  · obtain ⟨T0, b, e1, e2⟩ := zp
    exact ⟨T0, b, e1, oth _ _ (Ne.symm L.Sz) e2⟩
  · exact rw1.ext (fun p mp o e => oth _ _ (Ne.symm (L.S1 p mp)) e) fun p mp o e => oth _ _ (Ne.symm (L.S2 p mp)) e
  · intro a o ha hs e
    exact oth _ _ hs (out _ _ ha (I.out a o ha hs e))
  · rw [usz, s1]
    have := I.sz
    omega
set_option maxHeartbeats 3200000 in
theorem fill_loop (hh : A.handled = none) (Ap : Apart z TI TO qs) (L : Low g S z TI TO qs) (hn : qs ≠ []) (h64 : qs.length ≤ 64) (hm : cols.length ≤ 64) (HC : ∀ (i : Nat) (xs : List Value), cols[i]? = some xs → Col qs i xs) (HE : EndsAt qs cols.length) (res : Value)
    (fin : ∀ h' Ts, LI g S z TI TO qs cols h' cols.length Ts → ∀ h2, (∀ a o, Out z TO qs a → h'.get? a = some o → h2.get? a = some o) → R (.ok (.ret res)) { s0 with heap := h2 }) :
    ∀ (r i : Nat) (h : Heap) (Ts : List Addr), cols.length - i = r → i ≤ cols.length → LI g S z TI TO qs cols h i Ts → codeAny (model prog w) A (.builtin "list.extend.loop" ⟨[.ref S, .ref z, res], []⟩) R { s0 with heap := h } := by
  intro r
  induction r with
  | zero =>
    intro i h Ts hr hi I
    have e : i = cols.length := by omega
    subst e
    refine codeAny_builtin F.entry_extend_loop ?_
    rw [Around.under_plainId F.plain_extend_loop _]
    show wpAny _ A.in1 (pyNext (.ref z) >>= _) _ _ _
    rcases I.zp with ⟨e, z0, vs, o0, v0⟩ | ⟨pos, T0, b, e1, e2⟩
    · exact wpAny_bind (py_end0 (s := { s0 with heap := h }) (A := A.in1) hh Ap z0 hn h64 I.ti o0 v0 I.rw HE fun h2 out => wpAny_pure (fin h Ts I h2 out))
    have hx0 : ∃ xs, cols[0]? = some xs := ⟨_, List.getElem?_eq_getElem (by omega)⟩
    obtain ⟨xs0, hx0⟩ := hx0
    refine wpAny_bind (py_end (s := { s0 with heap := h }) (A := A.in1) hh Ap e2 (I.tup 0 T0 xs0 e1 hx0) hn I.ti I.rw HE fun h2 out => ?_)
    exact wpAny_pure (fin h Ts I h2 out)
  | succ r ih =>
    intro i h Ts hr hi I
    have hlt : i < cols.length := by omega
    obtain ⟨xs, hx⟩ : ∃ xs, cols[i]? = some xs := ⟨_, List.getElem?_eq_getElem hlt⟩
    refine codeAny_builtin F.entry_extend_loop ?_
    rw [Around.under_plainId F.plain_extend_loop _]
    show wpAny _ A.in1 (pyNext (.ref z) >>= _) _ _ _
    have SO : Out z TO qs S := ⟨L.Sz, L.SO, L.S1⟩
    have go : ∀ h1, (∃ (T0 : Addr) (b : Bool), (Ts ++ [h.objs.size])[0]? = some T0 ∧ ZipAt h1 z TI TO (rawInt T0) b) → TupAt h1 TI (refs qs) → Rws h1 qs (i + 1) 0 → TupAt h1 h.objs.size xs.toArray → h1.objs.size = h.objs.size + 1 → (∀ c o, Out z TO qs c → h.get? c = some o → h1.get? c = some o) →
        wpAny (model prog w) A.in1 (updateSeq S (·.push (.ref h.objs.size)) >>= fun _ => again (.builtin "list.extend.loop" ⟨[.ref S, .ref z, res], []⟩)) (fun fin s' => match fin with | .done f => R (.ok f) s' | .again c' => c'.quiet = true ∧ codeAny (model prog w) A c' R s') (fun e s' => R (.error e) s') { s0 with heap := h1 } := by
      intro h1 zp ti rw1 tn s1 out
      obtain ⟨c0, hS0⟩ := I.ls
      have hS1 := out _ _ SO hS0
      refine wpAny_bind (wpAny_updateSeq (s := { s0 with heap := h1 }) hS1 rfl (wpAny_pure ⟨plainId_quiet F.plain_extend_loop _, ?_⟩) ?_ ?_)
      · exact ih (i + 1) _ _ (by omega) hlt (I.more Ap L hx hS1 zp ti rw1 tn s1 out)
      · have := I.len
        simp only [List.size_toArray, List.length_map]
        exact Nat.le_trans (show Ts.length ≤ 64 by omega) (by decide)
      · have := I.len
        simp only [List.size_toArray, List.length_map, Array.size_push]
        exact Nat.le_trans (show Ts.length + 1 ≤ 65 by omega) (by decide)
    rcases I.zp with ⟨e, z0, vs, o0, v0⟩ | ⟨_, T0, b, e1, e2⟩
    · refine wpAny_bind (py_free (s := { s0 with heap := h }) (A := A.in1) Ap z0 hn h64 I.ti o0 v0 I.rw (HC i xs hx) fun h1 a1 a2 a3 a4 a5 a6 => ?_)
      refine go h1 ⟨h.objs.size, false, ?_, a1⟩ a2 a3 a4 a5 a6
      have : Ts = [] := List.length_eq_zero_iff.mp (I.len.trans e)
      rw [this]
      rfl
    · have hx0 : ∃ xs, cols[0]? = some xs := ⟨_, List.getElem?_eq_getElem (by omega)⟩
      obtain ⟨xs0, hx0⟩ := hx0
      refine wpAny_bind (py_held (s := { s0 with heap := h }) (A := A.in1) Ap e2 (I.tup 0 T0 xs0 e1 hx0) hn h64 I.ti I.rw (HC i xs hx) fun h1 a1 a2 a3 a4 a5 a6 => ?_)
      refine go h1 ⟨T0, true, ?_, a1⟩ a2 a3 a4 a5 a6
      rw [List.getElem?_append_left (List.getElem?_eq_some_iff.mp e1).1]
      exact e1
end
end ZN
end
section
namespace ZN
open PySem
theorem tc_zip {us : List Value} (h1 : us ≠ []) (h8 : us.length ≤ 8) : checkTypeCall "zip" ⟨us, []⟩ = pure () := by
  match us, h1, h8 with
  | [_], _, _ => kernel_rfl
  | [_, _], _, _ => kernel_rfl
  | [_, _, _], _, _ => kernel_rfl
  | [_, _, _, _], _, _ => kernel_rfl
  | [_, _, _, _, _], _, _ => kernel_rfl
  | [_, _, _, _, _, _], _, _ => kernel_rfl
  | [_, _, _, _, _, _, _], _, _ => kernel_rfl
  | [_, _, _, _, _, _, _, _], _, _ => kernel_rfl
  | _ :: _ :: _ :: _ :: _ :: _ :: _ :: _ :: _ :: _, _, h => simp at h
theorem tn_zip {us : List Value} (h1 : us ≠ []) (h8 : us.length ≤ 8) : checkBuiltinCall "zip.__new__" ⟨.type "zip" :: us, []⟩ = pure () := by
  match us, h1, h8 with
  | [_], _, _ => kernel_rfl
  | [_, _], _, _ => kernel_rfl
  | [_, _, _], _, _ => kernel_rfl
  | [_, _, _, _], _, _ => kernel_rfl
  | [_, _, _, _, _], _, _ => kernel_rfl
  | [_, _, _, _, _, _], _, _ => kernel_rfl
  | [_, _, _, _, _, _, _], _, _ => kernel_rfl
  | [_, _, _, _, _, _, _, _], _, _ => kernel_rfl
  | _ :: _ :: _ :: _ :: _ :: _ :: _ :: _ :: _ :: _, _, h => simp at h
theorem ti_zip {obj : Value} {us : List Value} (h1 : us ≠ []) (h8 : us.length ≤ 8) : argsOk "object.__init__" ⟨obj :: us, []⟩ := by
  unfold argsOk
  match us, h1, h8 with
  | [_], _, _ => kernel_rfl
  | [_, _], _, _ => kernel_rfl
  | [_, _, _], _, _ => kernel_rfl
  | [_, _, _, _], _, _ => kernel_rfl
  | [_, _, _, _, _], _, _ => kernel_rfl
  | [_, _, _, _, _, _], _, _ => kernel_rfl
  | [_, _, _, _, _, _, _], _, _ => kernel_rfl
  | [_, _, _, _, _, _, _, _], _, _ => kernel_rfl
  | _ :: _ :: _ :: _ :: _ :: _ :: _ :: _ :: _ :: _, _, h => simp at h
section
variable {prog : Program} {w : World} {A : Around} {E : Value → Shared → Prop} {s : Shared}
def made (n0 n : Nat) : Array Value := ((List.range n).map fun i => Value.ref (n0 + i)).toArray
set_option maxHeartbeats 1600000 in
theorem iters {ls : List Addr} {Q : List Value → Shared → Prop} (hl : ∀ l ∈ ls, ∃ items, s.heap.IsList l items)
    (hQ : ∀ h', h'.objs.size = s.heap.objs.size + ls.length → (∀ (i : Nat) (l : Addr), ls[i]? = some l → h'.IsListIter (s.heap.objs.size + i) l 0) → (∀ c o, s.heap.get? c = some o → h'.get? c = some o) → Q (made s.heap.objs.size ls.length).toList { s with heap := h' }) :
    wpAny (model prog w) A (Builtin.SmallTypes.iterAll (ls.map Value.ref)) Q E s := by
  unfold Builtin.SmallTypes.iterAll
  refine wpAny_bind ?_
  refine loop (l := ls.map Value.ref) (fun j => made s.heap.objs.size j) (fun j s' => ∃ h', s' = { s with heap := h' } ∧ h'.objs.size = s.heap.objs.size + j ∧ (∀ (i : Nat) (l : Addr), i < j → ls[i]? = some l → h'.IsListIter (s.heap.objs.size + i) l 0) ∧ ∀ c o, s.heap.get? c = some o → h'.get? c = some o) ?_ ?_ _ 0 _ rfl (Nat.zero_le _) ⟨s.heap, rfl, rfl, fun i l h => absurd h (Nat.not_lt_zero i), fun c o e => e⟩
  · rintro j v s' hj ⟨h1, rfl, z1, i1, k1⟩
    rw [List.getElem?_map] at hj
    obtain ⟨l, hlj, rfl⟩ := Option.map_eq_some_iff.mp hj
    obtain ⟨items, ⟨ol, hol, hc, hd⟩⟩ := hl l (List.mem_of_getElem? hlj)
    refine wpAny_bind (wpAny_holding (wpAny_pyIter_list (s := { s with heap := h1 }) ⟨ol, k1 _ _ hol, hc, hd⟩ ?_))
    refine wpAny_pure ⟨?_, _, rfl, ?_, ?_, ?_⟩
    · show ForInStep.yield ((made s.heap.objs.size j).push (.ref h1.objs.size)) = .yield (made s.heap.objs.size (j + 1))
      rw [z1]
      unfold made
      rw [List.range_succ, List.map_append]
      simp
    · show (h1.push _).objs.size = _
      rw [Heap.size_push, z1]
      omega
    · intro i l2 hi hl2
      by_cases e : i = j
      · subst e
        rw [hlj] at hl2
        cases hl2
        rw [← z1]
        exact ⟨_, Heap.get?_push_size _ rfl, rfl, rfl⟩
      · obtain ⟨o, a1, a2⟩ := i1 i l2 (by omega) hl2
        exact ⟨o, Heap.get?_push_of_some _ a1, a2⟩
    · intro c o e
      exact Heap.get?_push_of_some _ (k1 c o e)
  · rintro s' ⟨h1, rfl, z1, i1, k1⟩
    rw [List.length_map] at z1 i1 ⊢
    refine wpAny_pure (hQ h1 z1 (fun i l h => i1 i l (List.getElem?_eq_some_iff.mp h).1 h) k1)
set_option maxHeartbeats 1600000 in
theorem new_zip {ls : List Addr} (h8 : ls.length ≤ 8) : Meets (Builtin.«zip.__new__» ⟨.type "zip" :: ls.map Value.ref, []⟩) (fun _ R s => (∀ l ∈ ls, ∃ items, s.heap.IsList l items) ∧
      ∀ h', ZipAt h' (s.heap.objs.size + ls.length + 2) (s.heap.objs.size + ls.length) (s.heap.objs.size + ls.length + 1) .none false → TupAt h' (s.heap.objs.size + ls.length) (made s.heap.objs.size ls.length) → (∃ vs, TupAt h' (s.heap.objs.size + ls.length + 1) vs ∧ vs.size = ls.length) →
        (∀ (i : Nat) (l : Addr), ls[i]? = some l → h'.IsListIter (s.heap.objs.size + i) l 0) → h'.objs.size = s.heap.objs.size + ls.length + 3 → (∀ c o, s.heap.get? c = some o → h'.get? c = some o) →
        R (.ok (.ret (.ref (s.heap.objs.size + ls.length + 2)))) { s with heap := h' }) :=
  .of_wp fun prog w A R s h => by
    obtain ⟨hl, h⟩ := h
    have hsub := sub_zip
    unfold Builtin.«zip.__new__»
    generalize hI : Builtin.SmallTypes.iterAll = IA
    wp_walk
    subst hI
    refine iters hl fun h1 z1 i1 k1 => ?_
    have ml : (made s.heap.objs.size ls.length).toList.length = ls.length := by
      unfold made
      simp
    have b1 : (made s.heap.objs.size ls.length).toList.length ≤ sizeLine := by
      rw [ml]
      exact Nat.le_trans h8 (by decide)
    refine wpAny_bind (wpAny_newTuple ?_ b1)
    refine wpAny_bind (wpAny_newTuple ?_ (by rw [List.length_map]; exact b1))
    refine wpAny_bind ?_
    unfold Builtin.SmallTypes.newRecord
    refine wpAny_newObj_type ?_ (by unfold Builtin.SmallTypes.ownedTupleFields; first | size_fits | (simp [sizeOk]; done) | (unfold sizeOk; simp))
    refine wpAny_pure ⟨_, rfl, ?_⟩
    have e2 : (h1.push { cls := .type "tuple", data := .seq (made s.heap.objs.size ls.length).toList.toArray }).objs.size = s.heap.objs.size + ls.length + 1 := by rw [Heap.size_push, z1]
    have t2 : (h1.push { cls := .type "tuple", data := .seq (made s.heap.objs.size ls.length).toList.toArray }).get? h1.objs.size = some { cls := .type "tuple", data := .seq (made s.heap.objs.size ls.length) } := Heap.get?_push_size _ rfl
    rw [z1] at t2
    have k2 : ∀ c o, s.heap.get? c = some o → (h1.push { cls := .type "tuple", data := .seq (made s.heap.objs.size ls.length).toList.toArray }).get? c = some o := fun c o e => Heap.get?_push_of_some _ (k1 c o e)
    have i2 : ∀ (i : Nat) (l : Addr), ls[i]? = some l → (h1.push { cls := .type "tuple", data := .seq (made s.heap.objs.size ls.length).toList.toArray }).IsListIter (s.heap.objs.size + i) l 0 := fun i l e => by
      obtain ⟨o, a1, a2⟩ := i1 i l e
      exact ⟨o, Heap.get?_push_of_some _ a1, a2⟩
    show R (.ok (.ret (.ref ((h1.push { cls := .type "tuple", data := .seq (made s.heap.objs.size ls.length).toList.toArray }).push { cls := .type "tuple", data := .seq ((made s.heap.objs.size ls.length).toList.map fun _ => Value.none).toArray }).objs.size))) { s with heap := ((h1.push { cls := .type "tuple", data := .seq (made s.heap.objs.size ls.length).toList.toArray }).push { cls := .type "tuple", data := .seq ((made s.heap.objs.size ls.length).toList.map fun _ => Value.none).toArray }).push { cls := .type "zip", data := .fields #[.none, .bool false, .bool false, .ref h1.objs.size, .ref (h1.push { cls := .type "tuple", data := .seq (made s.heap.objs.size ls.length).toList.toArray }).objs.size] } }
    rw [z1]
    generalize h1.push { cls := .type "tuple", data := .seq (made s.heap.objs.size ls.length).toList.toArray } = h2 at *
    have e3 : (h2.push { cls := .type "tuple", data := .seq ((made s.heap.objs.size ls.length).toList.map fun _ => Value.none).toArray }).objs.size = s.heap.objs.size + ls.length + 2 := by rw [Heap.size_push, e2]
    have t3 : (h2.push { cls := .type "tuple", data := .seq ((made s.heap.objs.size ls.length).toList.map fun _ => Value.none).toArray }).get? h2.objs.size = some { cls := .type "tuple", data := .seq ((made s.heap.objs.size ls.length).toList.map fun _ => Value.none).toArray } := Heap.get?_push_size _ rfl
    rw [e2] at t3
    rw [e2]
    have k3 : ∀ c o, h2.get? c = some o → (h2.push { cls := .type "tuple", data := .seq ((made s.heap.objs.size ls.length).toList.map fun _ => Value.none).toArray }).get? c = some o := fun c o e => Heap.get?_push_of_some _ e
    generalize h2.push { cls := .type "tuple", data := .seq ((made s.heap.objs.size ls.length).toList.map fun _ => Value.none).toArray } = h3 at *
    have z4 : (h3.push { cls := .type "zip", data := .fields #[.none, .bool false, .bool false, .ref (s.heap.objs.size + ls.length), .ref (s.heap.objs.size + ls.length + 1)] }).get? h3.objs.size = some { cls := .type "zip", data := .fields #[.none, .bool false, .bool false, .ref (s.heap.objs.size + ls.length), .ref (s.heap.objs.size + ls.length + 1)] } := Heap.get?_push_size _ rfl
    rw [e3] at z4
    rw [e3]
    refine h _ z4 (Heap.get?_push_of_some _ (k3 _ _ t2)) ⟨_, Heap.get?_push_of_some _ t3, ?_⟩ (fun i l e => ?_) (by rw [Heap.size_push, e3]) fun c o e => Heap.get?_push_of_some _ (k3 _ _ (k2 c o e))
    · rw [List.size_toArray, List.length_map, ml]
    · obtain ⟨o, a1, a2⟩ := i2 i l e
      exact ⟨o, Heap.get?_push_of_some _ (k3 _ _ a1), a2⟩
theorem call_zip {ls : List Addr} {Q : Value → Shared → Prop} (hn : ls ≠ []) (h8 : ls.length ≤ 8) (hl : ∀ l ∈ ls, ∃ items, s.heap.IsList l items)
    (h : ∀ h', ZipAt h' (s.heap.objs.size + ls.length + 2) (s.heap.objs.size + ls.length) (s.heap.objs.size + ls.length + 1) .none false → TupAt h' (s.heap.objs.size + ls.length) (made s.heap.objs.size ls.length) → (∃ vs, TupAt h' (s.heap.objs.size + ls.length + 1) vs ∧ vs.size = ls.length) →
        (∀ (i : Nat) (l : Addr), ls[i]? = some l → h'.IsListIter (s.heap.objs.size + i) l 0) → h'.objs.size = s.heap.objs.size + ls.length + 3 → (∀ c o, s.heap.get? c = some o → h'.get? c = some o) →
        Q (.ref (s.heap.objs.size + ls.length + 2)) { s with heap := h' }) : wpAny (model prog w) A (call (.type "zip") (ls.map Value.ref)) Q E s := by
  have h1 : ls.map Value.ref ≠ [] := by simpa using hn
  have h2 : (ls.map Value.ref).length ≤ 8 := by rw [List.length_map]; exact h8
  refine callType_new F.called_zip (by decide) (tc_zip h1 h2) (tn_zip h1 h2) (fun obj => ti_zip h1 h2) F.entry_zip_new (new_zip h8) ⟨hl, fun h' a b c d e f => ?_⟩
  exact ⟨⟨_, a, rfl⟩, h h' a b c d e f⟩
end
end ZN
end
section
namespace ZN
open PySem
theorem zip_no_len : typeLookup (.type "zip") "__len__" = pure none := by rw [typeLookup_type, builtinLookup_eq_fast]; kernel_rfl
theorem zip_no_hint : typeLookup (.type "zip") "__length_hint__" = pure none := by rw [typeLookup_type, builtinLookup_eq_fast]; kernel_rfl
structure Tab (qs : List Rw) (cols : List (List Value)) : Prop where
  n1 : qs ≠ []
  n64 : qs.length ≤ 64
  m64 : cols.length ≤ 64
  col : ∀ (i : Nat) (xs : List Value), cols[i]? = some xs → Col qs i xs
  fin : EndsAt qs cols.length
section
variable {prog : Program} {w : World} {A : Around} {R : Result → Shared → Prop} {s0 : Shared} {g : Heap} {S z TI TO : Addr} {qs : List Rw} {cols : List (List Value)}
set_option maxHeartbeats 3200000 in
theorem extend (hh : A.handled = none) (Ap : Apart z TI TO qs) (L : Low g S z TI TO qs) (t : Tab qs cols) {h : Heap} {c0 : Nat} (hS : h.get? S = some { cls := .type "list", data := .seq #[] c0 }) (hz : ZipAt h z TI TO .none false) (hO : ∃ vs, TupAt h TO vs ∧ vs.size = qs.length) (hI : TupAt h TI (refs qs)) (hR : Rws h qs 0 0)
    (out : ∀ a o, Out z TO qs a → a ≠ S → g.get? a = some o → h.get? a = some o) (sz : g.objs.size ≤ h.objs.size)
    (fin : ∀ h' Ts, LI g S z TI TO qs cols h' cols.length Ts → ∀ h2, (∀ a o, Out z TO qs a → h'.get? a = some o → h2.get? a = some o) → R (.ok (.ret .none)) { s0 with heap := h2 }) :
    wpAny (model prog w) A.in1 (Builtin.List.listExtendWith (.ref S) (.ref z) .none) (fun fin s' => match fin with | .done f => R (.ok f) s' | .again c' => c'.quiet = true ∧ codeAny (model prog w) A c' R s') (fun e s' => R (.error e) s') { s0 with heap := h } := by
  have ty : Shared.TypeIs { s0 with heap := h } (.ref z) "zip" := ⟨_, hz, rfl⟩
  unfold Builtin.List.listExtendWith
  refine wpAny_bind (wpAny_typeOf ty ?_)
  have d1 : Builtin.List.listSameRef (.ref S) (.ref z) = false := by simp [Builtin.List.listSameRef, L.Sz]
  have d2 : (Value.type "zip" == Value.type "list") = false := by decide
  have d3 : (Value.type "zip" == Value.type "tuple") = false := by decide
  simp only [d1, d2, d3, Bool.or_false, Bool.false_eq_true, if_false]
  refine wpAny_bind (wpAny_pyIter_zip (s := { s0 with heap := h }) hz ?_)
  refine wpAny_bind (wpAny_holding ?_)
  unfold Builtin.List.listLengthHint
  refine wpAny_bind (wpAny_specialOf ty zip_no_len ?_)
  show wpAny _ A.in1 (specialOf (Value.ref z) (Str.ofString "__length_hint__") >>= _) _ _ _
  refine wpAny_bind (wpAny_specialOf ty zip_no_hint (wpAny_pure ?_))
  show wpAny _ A.in1 (rule "list.extend.makes-room" >>= fun _ => Builtin.List.listTouch (.ref S) >>= fun _ => again (.builtin "list.extend.loop" ⟨[.ref S, .ref z, .none], []⟩)) _ _ _
  refine wpAny_bind (wpAny_rule (wpAny_bind ?_))
  show wpAny _ A.in1 (updateSeq S (·.push .none) >>= fun _ => updateSeq S (·.pop)) _ _ _
  refine wpAny_bind (wpAny_updateSeq (s := { s0 with heap := h }) hS rfl ?_)
  have hS2 := Heap.get?_update_self (Obj.mapSeq (·.push Value.none)) hS rfl
  refine wpAny_updateSeq (hz := by seq_fits) hS2 rfl ?_
  have hS3 := Heap.get?_update_self (Obj.mapSeq (·.pop)) hS2 rfl
  have oth : ∀ b o, b ≠ S → h.get? b = some o → ((h.update S (Obj.mapSeq (·.push Value.none))).update S (Obj.mapSeq (·.pop))).get? b = some o := fun b o hb e => (Heap.get?_update_other _ _ (Ne.symm hb)).trans ((Heap.get?_update_other _ _ (Ne.symm hb)).trans e)
  have usz : ((h.update S (Obj.mapSeq (·.push Value.none))).update S (Obj.mapSeq (·.pop))).objs.size = h.objs.size := ((Heap.SameBut.update (h := h.update S (Obj.mapSeq (·.push Value.none))) (a := S) (f := Obj.mapSeq (·.pop))).1).trans (Heap.SameBut.update (h := h) (a := S) (f := Obj.mapSeq (·.push Value.none))).1
  refine wpAny_pure ⟨plainId_quiet F.plain_extend_loop _, ?_⟩
  refine fill_loop hh Ap L t.n1 t.n64 t.m64 t.col t.fin .none fin cols.length 0 _ [] rfl (Nat.zero_le _) ?_
  obtain ⟨vs, o1, o2⟩ := hO
  refine ⟨⟨_, hS3⟩, rfl, fun j T xs hT => (by cases hT), fun T hT => (by cases hT), List.nodup_nil, .inl ⟨rfl, oth _ _ (Ne.symm L.Sz) hz, vs, oth _ _ (Ne.symm L.SO) o1, o2⟩, oth _ _ (Ne.symm L.ST) hI, ?_, fun a o ha hs e => oth _ _ hs (out a o ha hs e), by rw [usz]; exact sz⟩
  exact hR.ext (fun p mp o e => oth _ _ (Ne.symm (L.S1 p mp)) e) fun p mp o e => oth _ _ (Ne.symm (L.S2 p mp)) e
end
section
variable {prog : Program} {w : World} {A : Around} {E : Value → Shared → Prop} {s : Shared} {z TI TO : Addr} {qs : List Rw} {cols : List (List Value)}
set_option maxHeartbeats 3200000 in
theorem call_list {Q : Value → Shared → Prop} (hh : A.handled = none) (Ap : Apart z TI TO qs) (t : Tab qs cols) (hz : ZipAt s.heap z TI TO .none false) (hO : ∃ vs, TupAt s.heap TO vs ∧ vs.size = qs.length) (hI : TupAt s.heap TI (refs qs)) (hR : Rws s.heap qs 0 0)
    (hQ : ∀ (h' : Heap) (Ts : List Addr) (c : Nat), h'.get? s.heap.objs.size = some { cls := .type "list", dict := none, data := .seq (Ts.map Value.ref).toArray c, slots := #[] } → Ts.length = cols.length → (∀ (j : Nat) (T : Addr) (xs : List Value), Ts[j]? = some T → cols[j]? = some xs → TupAt h' T xs.toArray) →
      (∀ T ∈ Ts, s.heap.objs.size < T) → Ts.Nodup → (∀ a o, Out z TO qs a → s.heap.get? a = some o → h'.get? a = some o) → Q (.ref s.heap.objs.size) { s with heap := h' }) :
    wpAny (model prog w) A (call (.type "list") [.ref z]) Q E s := by
  have lt : ∀ {a o}, s.heap.get? a = some o → a < s.heap.objs.size := fun e => Heap.lt_size e
  obtain ⟨vs, o1, o2⟩ := hO
  have q1 : ∀ q ∈ qs, q.1 < s.heap.objs.size ∧ q.2.1 < s.heap.objs.size := fun q mq => by
    obtain ⟨i, hi, e⟩ := List.getElem_of_mem mq
    obtain ⟨⟨o, a1, _⟩, ⟨ol, b1, _⟩⟩ := hR i q (by rw [List.getElem?_eq_getElem hi, e])
    exact ⟨lt a1, lt b1⟩
  have L : Low s.heap s.heap.objs.size z TI TO qs := ⟨lt hz, lt hI, lt o1, fun q mq => (q1 q mq).1, Nat.ne_of_gt (lt hz), Nat.ne_of_gt (lt hI), Nat.ne_of_gt (lt o1), fun q mq => Nat.ne_of_gt (q1 q mq).1, fun q mq => Nat.ne_of_gt (q1 q mq).2⟩
  refine callType_codes (Q₁ := fun obj s₁ => obj = .ref s.heap.objs.size ∧ s₁ = { s with heap := s.heap.push { cls := .type "list", data := .seq #[] } }) F.called_list (F.typeCall_list_1 _) F.entry_list_init (code_list_new _ ⟨rfl, rfl⟩) fun obj s1 e1 => ?_
  obtain ⟨rfl, rfl⟩ := e1
  have hS : (s.heap.push { cls := .type "list", data := .seq #[] }).get? s.heap.objs.size = some { cls := .type "list", data := .seq #[] } := Heap.get?_push_size _ rfl
  have up : ∀ b o, s.heap.get? b = some o → (s.heap.push { cls := .type "list", data := .seq #[] }).get? b = some o := fun b o e => Heap.get?_push_of_some _ e
  have s1 : s.heap.objs.size ≤ (s.heap.push { cls := .type "list", data := .seq #[] }).objs.size := by
    rw [Heap.size_push]
    exact Nat.le_succ _
  refine ⟨⟨_, hS, rfl⟩, F.args_list_init_2 _ _, ?_⟩
  generalize s.heap.push { cls := .type "list", data := .seq #[] } = h1 at *
  show wpAny _ A.in1.in1 (do let old ← Builtin.List.listItems (.ref s.heap.objs.size); Builtin.List.listUpdate (.ref s.heap.objs.size) (fun _ => #[]); letGo old.toList.reverse; Builtin.List.listExtendWith (.ref s.heap.objs.size) (.ref z) .none) _ _ _
  refine wpAny_bind ?_
  unfold Builtin.List.listItems
  refine wpAny_bind (wpAny_seqItems (s := { s with heap := h1 }) hS rfl (wpAny_pure ?_))
  show wpAny _ A.in1.in1 (updateSeq s.heap.objs.size (fun _ => #[]) >>= fun _ => letGo (#[] : Array Value).toList.reverse >>= fun _ => Builtin.List.listExtendWith (.ref s.heap.objs.size) (.ref z) .none) _ _ _
  refine wpAny_bind (wpAny_updateSeq (s := { s with heap := h1 }) hS rfl ?_)
  have hS2 := Heap.get?_update_self (Obj.mapSeq (fun _ => (#[] : Array Value))) hS rfl
  have oth : ∀ b o, b ≠ s.heap.objs.size → h1.get? b = some o → (h1.update s.heap.objs.size (Obj.mapSeq (fun _ => (#[] : Array Value)))).get? b = some o := fun b o hb e => (Heap.get?_update_other _ _ (Ne.symm hb)).trans e
  have usz : (h1.update s.heap.objs.size (Obj.mapSeq (fun _ => (#[] : Array Value)))).objs.size = h1.objs.size := (Heap.SameBut.update (h := h1) (a := s.heap.objs.size) (f := Obj.mapSeq (fun _ => (#[] : Array Value)))).1
  refine wpAny_bind (wpAny_letGo ?_)
  refine extend (A := A.in1) (s0 := s) hh Ap L t hS2 (oth _ _ (Ne.symm L.Sz) (up _ _ hz)) ⟨vs, oth _ _ (Ne.symm L.SO) (up _ _ o1), o2⟩ (oth _ _ (Ne.symm L.ST) (up _ _ hI)) ?_ (fun a o ha hs e => oth _ _ hs (up _ _ e)) (by rw [usz]; exact s1) fun h' Ts li h2 k2 => ?_
  · exact hR.ext (fun p mp o e => oth _ _ (Ne.symm (L.S1 p mp)) (up _ _ e)) fun p mp o e => oth _ _ (Ne.symm (L.S2 p mp)) (up _ _ e)
  · have SO : Out z TO qs s.heap.objs.size := ⟨L.Sz, L.SO, L.S1⟩
    obtain ⟨c, e⟩ := li.ls
    refine ⟨rfl, hQ h2 Ts c (k2 _ _ SO e) li.len (fun j T xs hT hx => ?_) (fun T hT => ?_) li.nd fun a o ha e => ?_⟩
    · exact k2 _ _ (L.out (li.new T (List.mem_of_getElem? hT)).1) (li.tup j T xs hT hx)
    · obtain ⟨n1, _, n3⟩ := li.new T hT
      exact Nat.lt_of_le_of_ne n1 (Ne.symm n3)
    · have hs : a ≠ s.heap.objs.size := Nat.ne_of_lt (lt e)
      exact k2 _ _ ha (li.out a o ha hs e)
end
end ZN
end
section
namespace ZN
open PySem PySem.Spec PyProof.Rows L2
section
variable {X : Cx} {pins : List (Addr × Obj)} {σ : L2.St} {H H2 : Hp} {s : Shared} {h' : Heap}
theorem un_all {fs ex : List Addr} {g : Heap} (k : ∀ b u, g.get? b = some u → h'.get? b = some u) (sm : ∀ b o, H b = some o → H2 b = some o) (hi : ∀ b o, H b = none → H2 b = some o → g.objs.size ≤ b) : Un fs ex H H2 g h' where
  keep := fun b u q _ _ _ => k b u q
  slot := fun b u q _ _ _ => ⟨u.slots, k b u q⟩
  free := fun b u q n _ => by
    cases e : H2 b with
    | none => rfl
    | some o => exact absurd (hi b o n e) (Nat.not_le_of_lt (Heap.lt_size q))
  there := fun b u q _ => ⟨u, k b u q⟩
  tups := fun b xs q => sm _ _ q
  frzs := fun b u xs q => sm _ _ q
  tbls := fun b ps q => ⟨#[], by rw [sm _ _ q]; simp⟩
theorem hok_all {P : Program} {w : World} {g : Heap} (x : HOk P w H g) (k : ∀ b u, g.get? b = some u → h'.get? b = some u) (sm : ∀ b o, H b = some o → H2 b = some o) (new : ∀ b o, H b = none → H2 b = some o → ObjOk P w H2 h' b o) : HOk P w H2 h' := fun b o e => by
  cases q : H b with
  | none => exact new b o q e
  | some u =>
    have : u = o := by
      have := sm _ _ q
      rw [e] at this
      exact (Option.some.inj this).symm
    subst this
    exact (x b u q).stay (fun c v _ z => k c v z) (fun c z => sm _ _ z) fun c xs z => sm _ _ z
theorem laidAll (I : Inv X pins σ H s) (k : ∀ b u, s.heap.get? b = some u → h'.get? b = some u) (sm : ∀ b o, H b = some o → H2 b = some o) (hi : ∀ b o, H b = none → H2 b = some o → s.heap.objs.size ≤ b) (new : ∀ b o, H b = none → H2 b = some o → ObjOk X.prog X.w H2 h' b o) : Inv X pins σ H2 { s with heap := h' } :=
  I.call (ch := []) (g' := s.gens) (t' := s.toks) (d' := s.drawn) (un_all k sm hi) (hok_all I.hok k sm new) I.bare fun _ z => nomatch z
end
def mkq : Nat → List Addr → List (Array Value) → List Rw
  | n, l :: ls, a :: as => (n, l, a) :: mkq (n + 1) ls as
  | _, _, _ => []
theorem mkq_len : ∀ (n : Nat) (ls : List Addr) (as : List (Array Value)), as.length = ls.length → (mkq n ls as).length = ls.length
  | _, [], [], _ => rfl
  | n, l :: ls, a :: as, h => by
    show (mkq (n + 1) ls as).length + 1 = ls.length + 1
    rw [mkq_len (n + 1) ls as (by simpa using h)]
theorem mkq_at : ∀ (n : Nat) (ls : List Addr) (as : List (Array Value)) (i : Nat) (q : Rw), (mkq n ls as)[i]? = some q → @Eq Nat q.1 (n + i) ∧ ls[i]? = some q.2.1 ∧ as[i]? = some q.2.2
  | n, l :: ls, a :: as, 0, q, h => by
    have := Option.some.inj h
    rw [← this]
    exact ⟨rfl, rfl, rfl⟩
  | n, l :: ls, a :: as, i + 1, q, h => by
    obtain ⟨h1, h2, h3⟩ := mkq_at (n + 1) ls as i q h
    exact ⟨h1.trans (by rw [Nat.add_assoc, Nat.add_comm 1 i]), h2, h3⟩
  | _, [], _, _, _, h => by simp [mkq] at h
  | _, _ :: _, [], _, _, h => by simp [mkq] at h
theorem refs_mkq (n : Nat) (ls : List Addr) (as : List (Array Value)) (h : as.length = ls.length) : refs (mkq n ls as) = made n ls.length := by
  unfold refs made
  congr 1
  apply List.ext_getElem?
  intro i
  rw [List.getElem?_map, List.getElem?_map]
  by_cases hi : i < ls.length
  · obtain ⟨q, hq⟩ : ∃ q, (mkq n ls as)[i]? = some q := ⟨_, List.getElem?_eq_getElem (by rw [mkq_len n ls as h]; exact hi)⟩
    rw [hq, List.getElem?_range hi]
    show some (Value.ref q.1) = some (Value.ref (n + i))
    rw [(mkq_at n ls as i q hq).1]
  · rw [List.getElem?_eq_none (by rw [mkq_len n ls as h]; omega), List.getElem?_eq_none (by rw [List.length_range]; omega)]
    rfl
theorem arrs {X : Cx} {pins : List (Addr × Obj)} {σ : L2.St} {H : Hp} {s : Shared} (I : Inv X pins σ H s) : ∀ (ls : List Addr) (rows : List (List V)), rows.length = ls.length → (∀ (i : Nat) (l : Addr) (r : List V), ls[i]? = some l → rows[i]? = some r → SqL X.K H l r) →
    ∃ as : List (Array Value), as.length = ls.length ∧ ∀ (i : Nat) (l : Addr) (r : List V) (a : Array Value), ls[i]? = some l → rows[i]? = some r → as[i]? = some a → s.heap.IsList l a ∧ Vals r a.toList
  | [], [], _, _ => ⟨[], rfl, fun i l r a h => by cases h⟩
  | l :: ls, r :: rows, h, hs => by
    obtain ⟨as, e, k⟩ := arrs I ls rows (by simpa using h) fun i l r h1 h2 => hs (i + 1) l r h1 h2
    obtain ⟨its, rv, pl, _⟩ := I.list (hs 0 l r rfl rfl)
    refine ⟨its.toArray :: as, by simp [e], fun i l2 r2 a h1 h2 h3 => ?_⟩
    cases i with
    | zero =>
      cases h1
      cases h2
      cases h3
      exact ⟨pl.isList, by simpa using rv⟩
    | succ i => exact k i l2 r2 a h1 h2 h3
theorem vals_refs : ∀ (ls : List Addr) (us : List Value), Vals (ls.map V.ref) us → us = ls.map Value.ref
  | [], us, h => by
    cases h
    rfl
  | l :: ls, us, h => by
    cases h with
    | cons h1 h2 =>
      have e1 : _ = Value.ref l := h1
      rw [e1, vals_refs ls _ h2]
      rfl
theorem vals_of : ∀ (xs : List V) (us : List Value), xs.length = us.length → (∀ (i : Nat) (x : V) (u : Value), xs[i]? = some x → us[i]? = some u → RelV x u) → Vals xs us
  | [], [], _, _ => .nil
  | x :: xs, u :: us, h, k => .cons (k 0 x u rfl rfl) (vals_of xs us (by simpa using h) fun i y v h1 h2 => k (i + 1) y v h1 h2)
theorem vals_get {r : List V} {us : List Value} (h : Vals r us) : ∀ (k : Nat) (x : V), r[k]? = some x → ∃ u, us[k]? = some u ∧ RelV x u := by
  induction h with
  | nil =>
    intro k x e
    cases e
  | cons h1 h2 ih =>
    intro k x e
    cases k with
    | zero =>
      cases e
      exact ⟨_, rfl, h1⟩
    | succ k => exact ih k x e
def tZipS (K : PySem.W.Frag) (te : TE) : TE := fun σ H Q => te σ H fun x H1 => ∃ (a : Addr) (ls : List Addr) (rows : List (List V)) (m : Nat), x = .ref a ∧ SqL K H1 a (ls.map V.ref) ∧ rows.length = ls.length ∧ (∀ (i : Nat) (l : Addr) (r : List V), ls[i]? = some l → rows[i]? = some r → SqL K H1 l r) ∧ (∀ r ∈ rows, r.length = m) ∧
  ls ≠ [] ∧ ls.length ≤ 8 ∧ 1 ≤ m ∧ m ≤ 64 ∧ ∀ (p : Addr) (Ts : List Addr) (H2 : Hp), (∀ b o, H1 b = some o → H2 b = some o) → H1 p = none → H2 p = some (.lst (Ts.map V.ref)) → Ts.length = m → (∀ (j : Nat) (T : Addr), Ts[j]? = some T → H1 T = none ∧ H2 T = some (.tup (rows.map fun r => r.getD j .non))) → Q (.ref p) H2
def putAll (H : Hp) (p : Addr) (o : HO) (ks : List (Addr × HO)) : Hp := fun b => if b = p then some o else match ks.lookup b with | some u => some u | none => H b
theorem lookup_zip : ∀ (Ts : List Addr) (os : List HO) (j : Nat) (T : Addr) (o : HO), Ts.Nodup → Ts[j]? = some T → os[j]? = some o → (Ts.zip os).lookup T = some o
  | t :: Ts, u :: os, 0, T, o, nd, h1, h2 => by
    cases h1
    cases h2
    simp
  | t :: Ts, u :: os, j + 1, T, o, nd, h1, h2 => by
    have ne : T ≠ t := fun z => (List.nodup_cons.mp nd).1 (z ▸ List.mem_of_getElem? h1)
    show (match T == t with | true => some u | false => (Ts.zip os).lookup T) = some o
    rw [beq_eq_false_iff_ne.mpr ne]
    exact lookup_zip Ts os j T o (List.nodup_cons.mp nd).2 h1 h2
theorem lookup_in : ∀ (Ts : List Addr) (os : List HO) (b : Addr) (o : HO), (Ts.zip os).lookup b = some o → ∃ j : Nat, Ts[j]? = some b ∧ os[j]? = some o
  | [], _, b, o, h => by simp at h
  | _ :: _, [], b, o, h => by simp at h
  | t :: Ts, u :: os, b, o, h => by
    have h : (match b == t with | true => some u | false => (Ts.zip os).lookup b) = some o := h
    cases e : b == t with
    | true =>
      rw [e] at h
      cases h
      exact ⟨0, by rw [eq_of_beq e]; rfl, rfl⟩
    | false =>
      rw [e] at h
      obtain ⟨j, h1, h2⟩ := lookup_in Ts os b o h
      exact ⟨j + 1, h1, h2⟩
section
variable {X : Cx} {e : Expr} {te : TE} {p1 p2 p3 p4 p5 : Pos}
set_option maxHeartbeats 6400000 in
theorem pe_listZip (hc : X.calm = true) (hgl : Gl X "list") (hml : X.mg "list" = none) (hgz : Gl X "zip") (hmz : X.mg "zip" = none) (he : PE X e te)
    (h1 : starEach [.Call (.Name "zip" p2) [.Starred e p3] [] p4] X.env = [(false, eval (.Call (.Name "zip" p2) [.Starred e p3] [] p4) X.env)] := by rfl) (h2 : starEach [.Starred e p3] X.env = [(true, eval e X.env)] := by rfl) :
    PE X (.Call (.Name "list" p1) [.Call (.Name "zip" p2) [.Starred e p3] [] p4] [] p5) (tZipS X.K te) := by
  refine ⟨fun pins s σ H Q I h => ?_⟩
  refine wpAny_Call_Name_kw (ld_blt I hgl hml (u := .type "list") (by decide +kernel) ?_)
  refine PyProof.Rows.callWith_type1 ?_ h1 rfl
  rw [h1]
  show wpAny _ _ (spliced ((false, eval (.Call (.Name "zip" p2) [.Starred e p3] [] p4) X.env) :: backTo p5 (starEach [] X.env))) _ _ s
  refine Calls.spliced_cons ?_
  refine wpAny_Call_Name_kw (ld_blt I hgz hmz (u := .type "zip") (by decide +kernel) ?_)
  rw [h2]
  refine PySem.W.ks_call (P := fun _ => True) rfl (fun _ _ => ⟨.machine, .inr (.inl rfl), PySem.W.Looks.of_pure rfl⟩) (PySem.W.ks_lone ?_)
  refine thn (he.run pins s σ H _ I h) fun v s1 hv => ?_
  obtain ⟨y, H1, I1, ry, a, ls, rows, m, ey, hx, rl, rs, rm, n0, n8, m1, m64, q⟩ := hv
  subst ey
  obtain rfl : v = Value.ref a := ry
  refine StX.star_any I1 (.inr hx) fun us s2 I2 rv => ⟨True.intro, ?_⟩
  rw [vals_refs ls us rv]
  show wpAny _ _ (call (.type "zip") (ls.map Value.ref)) _ _ s2
  obtain ⟨as, al, ai⟩ := arrs I2 ls rows rl rs
  have rat : ∀ (i : Nat) (l : Addr), ls[i]? = some l → ∃ r a, rows[i]? = some r ∧ as[i]? = some a := fun i l hl => by
    have hi := (List.getElem?_eq_some_iff.mp hl).1
    exact ⟨_, _, List.getElem?_eq_getElem (by omega), List.getElem?_eq_getElem (by omega)⟩
  refine call_zip n0 n8 (fun l hl => ?_) fun h' zz zI zO it sz k => ?_
  · obtain ⟨i, hi, e⟩ := List.getElem_of_mem hl
    obtain ⟨r, a2, hr, ha⟩ := rat i l (by rw [List.getElem?_eq_getElem hi, e])
    exact ⟨_, (ai i l r a2 (by rw [List.getElem?_eq_getElem hi, e]) hr ha).1⟩
  -- the list of it
  refine PyProof.Rows.spliced_none ?_
  have hq : ∀ (i : Nat) (q : Rw), (mkq s2.heap.objs.size ls as)[i]? = some q → @Eq Nat q.1 (s2.heap.objs.size + i) ∧ ls[i]? = some q.2.1 ∧ as[i]? = some q.2.2 := mkq_at _ ls as
  have low : ∀ l ∈ ls, l < s2.heap.objs.size := fun l hl => by
    obtain ⟨i, hi, e⟩ := List.getElem_of_mem hl
    have e2 : ls[i]? = some l := by rw [List.getElem?_eq_getElem hi, e]
    obtain ⟨r, a2, hr, ha⟩ := rat i l e2
    obtain ⟨o, ho, _⟩ := (ai i l r a2 e2 hr ha).1
    exact Heap.lt_size ho
  have qm : ∀ q ∈ mkq s2.heap.objs.size ls as, ∃ i : Nat, i < ls.length ∧ @Eq Nat q.1 (s2.heap.objs.size + i) ∧ @LT.lt Nat _ q.2.1 s2.heap.objs.size := fun q mq => by
    obtain ⟨i, hi, e⟩ := List.getElem_of_mem mq
    obtain ⟨e1, e2, e3⟩ := hq i q (by rw [List.getElem?_eq_getElem hi, e])
    exact ⟨i, (List.getElem?_eq_some_iff.mp e2).1, e1, low _ (List.mem_of_getElem? e2)⟩
  have Ap : Apart (s2.heap.objs.size + ls.length + 2) (s2.heap.objs.size + ls.length) (s2.heap.objs.size + ls.length + 1) (mkq s2.heap.objs.size ls as) := by
    refine ⟨by change @Ne Nat _ _; omega, by change @Ne Nat _ _; omega, by change @Ne Nat _ _; omega, fun q mq => ?_, fun q mq => ?_, fun i j p q hp hq2 ne => ?_, fun p mp q mq => ?_⟩
    · obtain ⟨i, i1, i2, i3⟩ := qm q mq
      refine ⟨?_, ?_, ?_⟩ <;> (change @Ne Nat _ _; omega)
    · obtain ⟨i, i1, i2, i3⟩ := qm q mq
      refine ⟨?_, ?_⟩ <;> (change @Ne Nat _ _; omega)
    · have a1 := (hq i p hp).1
      have a2 := (hq j q hq2).1
      change @Ne Nat _ _
      omega
    · obtain ⟨i, i1, i2, i3⟩ := qm p mp
      obtain ⟨j, j1, j2, j3⟩ := qm q mq
      change @Ne Nat _ _
      omega
  have vk : ∀ (i : Nat) (l : Addr) (r : List V) (a : Array Value), ls[i]? = some l → rows[i]? = some r → as[i]? = some a → Vals r a.toList ∧ a.size = m := fun i l r a2 x1 x2 x3 => by
    obtain ⟨_, v⟩ := ai i l r a2 x1 x2 x3
    refine ⟨v, ?_⟩
    have := v.length
    rw [rm r (List.mem_of_getElem? x2)] at this
    simpa using this.symm
  have asz : ∀ (i : Nat) (a : Array Value), as[i]? = some a → a.size = m := fun i a2 x3 => by
    have hi := (List.getElem?_eq_some_iff.mp x3).1
    exact (vk i _ _ a2 (List.getElem?_eq_getElem (by omega)) (List.getElem?_eq_getElem (by omega)) x3).2
  have T : Tab (mkq s2.heap.objs.size ls as) ((List.range m).map fun k => as.map fun a => a.getD k .none) := by
    refine ⟨fun z => ?_, ?_, by simp; exact m64, fun i xs hx => ?_, ?_⟩
    · have := mkq_len s2.heap.objs.size ls as al
      rw [z] at this
      exact n0 (List.length_eq_zero_iff.mp this.symm)
    · rw [mkq_len _ _ _ al]
      omega
    · rw [List.getElem?_map] at hx
      obtain ⟨k2, hk2, rfl⟩ := Option.map_eq_some_iff.mp hx
      have hk : i < m := by
        have := (List.getElem?_eq_some_iff.mp hk2).1
        simpa using this
      rw [List.getElem?_range hk] at hk2
      cases hk2
      refine ⟨by rw [List.length_map, mkq_len _ _ _ al, al], fun j q x hj hx => ?_⟩
      obtain ⟨_, _, e3⟩ := hq j q hj
      rw [List.getElem?_map, e3] at hx
      have := Option.some.inj hx
      have sz2 := asz j _ e3
      rw [← this]
      simp [Array.getD, sz2, hk]
    · have l0 : 0 < (mkq s2.heap.objs.size ls as).length := by
        rw [mkq_len _ _ _ al]
        exact List.length_pos_iff.mpr n0
      refine ⟨0, _, List.getElem?_eq_getElem l0, ?_, fun i p hi => absurd hi (Nat.not_lt_zero i)⟩
      obtain ⟨_, _, e3⟩ := hq 0 _ (List.getElem?_eq_getElem l0)
      have := asz 0 _ e3
      simp [this]
  have R0 : Rws h' (mkq s2.heap.objs.size ls as) 0 0 := fun i q hi => by
    obtain ⟨e1, e2, e3⟩ := hq i q hi
    obtain ⟨r, a2, hr, ha⟩ := rat i _ e2
    rw [if_neg (Nat.not_lt_zero i), e1]
    refine ⟨it i _ e2, ?_⟩
    rw [ha] at e3
    cases e3
    obtain ⟨o, ho, hh⟩ := (ai i _ r _ e2 hr ha).1
    exact ⟨o, k _ _ ho, hh⟩
  refine call_list (s := { s2 with heap := h' }) (I2.ok.hd hc) Ap T zz ?_ ?_ R0 fun h3 Ts c e1 e2 e3 e4 e5 e6 => ?_
  · obtain ⟨vs, v1, v2⟩ := zO
    exact ⟨vs, v1, by rw [v2, mkq_len _ _ _ al]⟩
  · rw [refs_mkq _ _ _ al]
    exact zI
  -- the tracked heap
  rw [List.length_map, List.length_range] at e2
  have hsz : h'.objs.size = s2.heap.objs.size + ls.length + 3 := sz
  have kk : ∀ b u, s2.heap.get? b = some u → h3.get? b = some u := fun b u eb => by
    have lt : @LT.lt Nat _ b s2.heap.objs.size := Heap.lt_size eb
    refine e6 b u ⟨by change @Ne Nat _ _; omega, by change @Ne Nat _ _; omega, fun q mq => ?_⟩ (k b u eb)
    obtain ⟨i, _, i2, _⟩ := qm q mq
    change @Ne Nat _ _
    omega
  have fresh : ∀ b, s2.heap.objs.size ≤ b → H1 b = none := fun b hb => I2.hok.fresh hb
  have nS : h'.objs.size ∉ Ts := fun z => Nat.lt_irrefl _ (e4 _ z)
  have in3 : ∀ (j : Nat) (T : Addr), Ts[j]? = some T → ∃ hj : j < m, TupAt h3 T (as.map fun a => a.getD j .none).toArray := fun j T hT => by
    have hj : j < m := by
      have := (List.getElem?_eq_some_iff.mp hT).1
      omega
    refine ⟨hj, e3 j T _ hT ?_⟩
    rw [List.getElem?_map, List.getElem?_range hj]
    rfl
  have vcol : ∀ j, j < m → Vals (rows.map fun r => r.getD j .non) (as.map fun a => a.getD j .none) := fun j hj => by
    refine vals_of _ _ (by rw [List.length_map, List.length_map, rl, al]) fun i x u hx hu => ?_
    rw [List.getElem?_map] at hx hu
    obtain ⟨r, hr, rfl⟩ := Option.map_eq_some_iff.mp hx
    obtain ⟨a2, ha, rfl⟩ := Option.map_eq_some_iff.mp hu
    have hi := (List.getElem?_eq_some_iff.mp hr).1
    obtain ⟨v, sz2⟩ := vk i _ r a2 (List.getElem?_eq_getElem (by omega)) hr ha
    have hl := rm r (List.mem_of_getElem? hr)
    obtain ⟨u, hu2, ru⟩ := vals_get v j r[j] (List.getElem?_eq_getElem (by omega))
    have g1 : r.getD j .non = r[j] := by simp [List.getD, show j < r.length by omega]
    have g2 : a2.getD j .none = u := by
      rw [Array.getElem?_toList] at hu2
      simp [Array.getD, show j < a2.size by omega]
      rw [Array.getElem?_eq_getElem (by omega)] at hu2
      exact Option.some.inj hu2
    rw [g1, g2]
    exact ru
  refine ⟨.ref h'.objs.size, putAll H1 h'.objs.size (.lst (Ts.map V.ref)) (Ts.zip ((List.range m).map fun j => HO.tup (rows.map fun r => r.getD j .non))), ?_, rfl, ?_⟩
  · have base : ∀ b o, H1 b = none → putAll H1 h'.objs.size (.lst (Ts.map V.ref)) (Ts.zip ((List.range m).map fun j => HO.tup (rows.map fun r => r.getD j .non))) b = some o → (b = h'.objs.size ∧ o = .lst (Ts.map V.ref)) ∨ ∃ j, j < m ∧ Ts[j]? = some b ∧ o = .tup (rows.map fun r => r.getD j .non) := fun b o hb e => by
      unfold putAll at e
      by_cases eb : b = h'.objs.size
      · rw [if_pos eb] at e
        exact .inl ⟨eb, (Option.some.inj e).symm⟩
      · rw [if_neg eb] at e
        cases lk : (Ts.zip ((List.range m).map fun j => HO.tup (rows.map fun r => r.getD j .non))).lookup b with
        | none =>
          rw [lk, hb] at e
          cases e
        | some u =>
          rw [lk] at e
          obtain ⟨j, j1, j2⟩ := lookup_in _ _ _ _ lk
          rw [List.getElem?_map] at j2
          obtain ⟨k2, hk2, rfl⟩ := Option.map_eq_some_iff.mp j2
          have hj : j < m := by
            have := (List.getElem?_eq_some_iff.mp hk2).1
            simpa using this
          rw [List.getElem?_range hj] at hk2
          cases hk2
          exact .inr ⟨j, hj, j1, (Option.some.inj e).symm⟩
    refine laidAll (s := s2) (h' := h3) I2 kk (fun b o eb => ?_) (fun b o hb e => ?_) fun b o hb e => ?_
    · unfold putAll
      have lt : b < s2.heap.objs.size := Nat.lt_of_not_le fun z => by
        rw [fresh b z] at eb
        cases eb
      rw [if_neg (show ¬ b = h'.objs.size from fun z => by have z : @Eq Nat b h'.objs.size := z; have lt : @LT.lt Nat _ b s2.heap.objs.size := lt; omega)]
      cases lk : (Ts.zip ((List.range m).map fun j => HO.tup (rows.map fun r => r.getD j .non))).lookup b with
      | none => exact eb
      | some u =>
        obtain ⟨j, j1, _⟩ := lookup_in _ _ _ _ lk
        have g4 : @LT.lt Nat _ h'.objs.size b := e4 b (List.mem_of_getElem? j1)
        have lt : @LT.lt Nat _ b s2.heap.objs.size := lt
        omega
    · rcases base b o hb e with ⟨z, _⟩ | ⟨j, _, z, _⟩
      · have z : @Eq Nat b h'.objs.size := z
        show @LE.le Nat _ _ _
        omega
      · have g4 : @LT.lt Nat _ h'.objs.size b := e4 b (List.mem_of_getElem? z)
        show @LE.le Nat _ _ _
        omega
    · rcases base b o hb e with ⟨z, zo⟩ | ⟨j, hj, z, zo⟩
      · rw [z, zo]
        refine ⟨?_, Ts.map Value.ref, c, ?_, e1⟩
        · rw [List.length_map, e2]
          exact Nat.le_trans m64 (by decide)
        · refine vals_of _ _ (by rw [List.length_map, List.length_map]) fun i x u hx hu => ?_
          rw [List.getElem?_map] at hx hu
          obtain ⟨t1, ht1, rfl⟩ := Option.map_eq_some_iff.mp hx
          obtain ⟨t2, ht2, rfl⟩ := Option.map_eq_some_iff.mp hu
          rw [ht1] at ht2
          cases ht2
          exact rfl
      · rw [zo]
        obtain ⟨_, tt⟩ := in3 j b z
        refine ⟨?_, as.map fun a => a.getD j .none, vcol j hj, ⟨_, tt, rfl, _, rfl⟩⟩
        rw [List.length_map, rl]
        exact Nat.le_trans n8 (by decide)
  · refine q _ Ts _ (fun b o eb => ?_) (fresh _ (by omega)) (by unfold putAll; rw [if_pos rfl]) e2 fun j T hT => ?_
    · unfold putAll
      have lt : b < s2.heap.objs.size := Nat.lt_of_not_le fun z => by
        rw [fresh b z] at eb
        cases eb
      rw [if_neg (show ¬ b = h'.objs.size from fun z => by have z : @Eq Nat b h'.objs.size := z; have lt : @LT.lt Nat _ b s2.heap.objs.size := lt; omega)]
      cases lk : (Ts.zip ((List.range m).map fun j => HO.tup (rows.map fun r => r.getD j .non))).lookup b with
      | none => exact eb
      | some u =>
        obtain ⟨j, j1, _⟩ := lookup_in _ _ _ _ lk
        have g4 : @LT.lt Nat _ h'.objs.size b := e4 b (List.mem_of_getElem? j1)
        have lt : @LT.lt Nat _ b s2.heap.objs.size := lt
        omega
    · have lt : @LT.lt Nat _ h'.objs.size T := e4 T (List.mem_of_getElem? hT)
      obtain ⟨hj, _⟩ := in3 j T hT
      refine ⟨fresh _ (by omega), ?_⟩
      unfold putAll
      rw [if_neg (show ¬ T = h'.objs.size from fun z => by have z : @Eq Nat T h'.objs.size := z; omega), lookup_zip Ts _ j T (.tup (rows.map fun r => r.getD j .non)) e5 hT (by rw [List.getElem?_map, List.getElem?_range hj]; rfl)]
end
end ZN
end
section
namespace ZM
open PySem PySem.Spec PyProof.Rows L2 Lw
def ItM (K : PySem.W.Frag) (a b : Addr) : It where
  go i H := ∃ (xs ys : List V) (x y : V), SqL K H a xs ∧ SqT K H b ys ∧ xs[i]? = some x ∧ ys[i]? = some y
  yld i H v H' := ∃ T x y, v = .ref T ∧ H T = none ∧ H' = upd H T (.tup [x, y]) ∧ (∀ xs, SqL K H a xs → xs[i]? = some x) ∧ ∀ ys, SqT K H b ys → ys[i]? = some y
  stop i H := ∃ xs ys : List V, SqL K H a xs ∧ SqT K H b ys ∧ xs.length = i ∧ ys.length = i
theorem walk_mix {K : PySem.W.Frag} {a b : Addr} {xs ys : List V} {n : Nat} (h1 : xs.length = n) (h2 : ys.length = n) : Walk (ItM K a b) n (fun H => SqL K H a xs ∧ SqT K H b ys) (YPair (fun i => xs[i]?) (fun i => ys[i]?)) := by
  constructor
  · rintro i H hi ⟨q1, q2⟩
    exact ⟨xs, ys, xs[i], ys[i], q1, q2, List.getElem?_eq_getElem (by omega), List.getElem?_eq_getElem (by omega)⟩
  · rintro H ⟨q1, q2⟩
    exact ⟨xs, ys, q1, q2, h1, h2⟩
  · rintro i H _ _ hi ⟨q1, q2⟩ ⟨T, x, y, rfl, nT, rfl, g1, g2⟩
    exact ⟨T, x, y, rfl, nT, rfl, g1 xs q1, g2 ys q2⟩
structure At (z TI TO i1 i2 a b : Addr) (i : Nat) (h : Heap) : Prop where
  zp : IsZip h z TI TO .none
  ti : IsTupOf2 h TI (.ref i1) (.ref i2)
  to : ∃ x y, IsTupOf2 h TO x y
  l : h.IsListIter i1 a i
  t : h.IsTupleIter i2 b i
theorem five {z TI TO i1 i2 c : Addr} (h : c ∈ [z, TI, TO, i1, i2]) : c = z ∨ c = TI ∨ c = TO ∨ c = i1 ∨ c = i2 := by
  simpa using h
theorem turn_mix {P : Program} {w : World} {K : PySem.W.Frag} {elts : List Expr} {kk : Nat} {tpos : Pos} {a b z TI TO i1 i2 : Addr} (S : ZipSep2 z TI TO i1 i2 [i1, a] [i2, b]) (n1 : a ≠ i1) (n2 : b ≠ i2) :
    Turn P w K (.Tuple elts kk tpos) (ItM K a b) [z, TI, TO, i1, i2] z (At z TI TO i1 i2 a b) where
  mem := .head _
  obj i h st c hc := by
    obtain ⟨o1, e1, _, d1⟩ := st.l
    obtain ⟨o2, e2, _, d2⟩ := st.t
    obtain ⟨x, y, eO⟩ := st.to
    rcases five hc with rfl | rfl | rfl | rfl | rfl
    · exact ⟨_, st.zp, nofun⟩
    · exact ⟨_, st.ti, nofun⟩
    · exact ⟨_, eO, nofun⟩
    · exact ⟨o1, e1, by rw [d1]; nofun⟩
    · exact ⟨o2, e2, by rw [d2]; nofun⟩
  keep i h h' st k := by
    obtain ⟨x, y, eO⟩ := st.to
    exact ⟨k z (by simp) _ st.zp, k TI (by simp) _ st.ti, ⟨x, y, k TO (by simp) _ eO⟩, st.l.at fun o q => k i1 (by simp) o q, st.t.at fun o q => k i2 (by simp) o q⟩
  item := by
    rintro X rfl rfl rfl calm i pins s σ H E I off st ⟨xs, ys, x, y, hx, hy, gx, gy⟩
    obtain ⟨us, r1, pl, _⟩ := I.list hx
    obtain ⟨vs, r2, pt, _⟩ := I.tuple hy
    obtain ⟨u, hu, ru⟩ := r1.get gx
    obtain ⟨v, hv, rv⟩ := r2.get gy
    obtain ⟨x0, y0, eO⟩ := st.to
    have hh : X.A.in1.handled = none := I.ok.hd calm
    have l1 : i < us.toArray.size := by rw [List.size_toArray]; exact (List.getElem?_eq_some_iff.mp hu).1
    have l2 : i < vs.toArray.size := by rw [List.size_toArray]; exact (List.getElem?_eq_some_iff.mp hv).1
    have zl : z < s.heap.objs.size := Heap.lt_size st.zp
    refine wpAny_pyNext_zipD2_item S (Draws.list hh i1 a n1 us.toArray) (Draws.tuple hh i2 b n2 vs.toArray) st.zp st.ti eO ⟨st.l, pl.isList⟩ ⟨st.t, pt⟩ l1 l2 fun u' v' h' tk hu' hv' z' O' s1 s2 new _ keep => ?_
    obtain rfl : u' = u := by
      rw [List.getElem?_toArray, hu] at hu'
      exact (Option.some.inj hu').symm
    obtain rfl : v' = v := by
      rw [List.getElem?_toArray, hv] at hv'
      exact (Option.some.inj hv').symm
    refine ⟨_, rfl, wpAny_letOwnedTupleGo_zip (s := { s with heap := h', toks := tk }) z' fun h2 z2 sb => ?_⟩
    have new2 : h2.get? s.heap.objs.size = some { cls := .type "tuple", data := .seq #[u', v'] } := (sb.2 _ (Nat.ne_of_gt zl)).trans new
    have okN : ObjOk X.prog X.w (upd H s.heap.objs.size (.tup [x, y])) h2 s.heap.objs.size (.tup [x, y]) := ⟨by show 2 ≤ sizeLine; decide, _, .cons ru (.cons rv .nil), _, new2, rfl, _, rfl⟩
    have rest : ∀ c o, c ∉ [z, TI, TO, i1, i2] → s.heap.get? c = some o → h2.get? c = some o := fun c o nc e => by
      have c1 : c ≠ z := fun q => nc (by simp [q])
      rw [sb.2 c c1]
      exact keep c o c1 (fun q => nc (by simp [q])) (fun q => nc (by simp [q])) (fun q => nc (by simp [q])) e
    refine ⟨.ref s.heap.objs.size, _, I.turnedNew (ch := [z, TI, TO, i1, i2]) rest off (Nat.le_refl _) okN, rfl, ⟨_, x, y, rfl, I.hok.fresh (Nat.le_refl _), rfl, fun ys hys => I.list_inj hys hx ▸ gx, fun ys hys => I.tuple_inj hys hy ▸ gy⟩, ⟨z2, ?_, ⟨u', v', ?_⟩, ?_, ?_⟩, fun c hc => ?_⟩
    · exact (sb.2 _ S.TIz).trans (keep _ _ S.TIz S.TITO S.TIi1 S.TIi2 st.ti)
    · exact (sb.2 _ S.TOz).trans O'
    · exact s1.1.at fun o q => (sb.2 _ (Ne.symm S.zi1)).trans q
    · exact s2.1.at fun o q => (sb.2 _ (Ne.symm S.zi2)).trans q
    · have lt : c < s.heap.objs.size := by
        obtain ⟨o1, e1, _⟩ := st.l
        obtain ⟨o2, e2, _⟩ := st.t
        rcases five hc with rfl | rfl | rfl | rfl | rfl
        · exact zl
        · exact Heap.lt_size st.ti
        · exact Heap.lt_size eO
        · exact Heap.lt_size e1
        · exact Heap.lt_size e2
      rw [upd_ne (Nat.ne_of_lt lt)]
      exact (off c hc).1
  done := by
    rintro X rfl rfl rfl calm i pins s σ H E I off st ⟨xs, ys, hx, hy, e1, e2⟩
    obtain ⟨us, r1, pl, _⟩ := I.list hx
    obtain ⟨vs, r2, pt, _⟩ := I.tuple hy
    obtain ⟨x0, y0, eO⟩ := st.to
    have hh : X.A.in1.handled = none := I.ok.hd calm
    have l1 := r1.length
    have l2 := r2.length
    have m1 : us.toArray.size = i := by rw [List.size_toArray]; omega
    have m2 : vs.toArray.size = i := by rw [List.size_toArray]; omega
    refine wpAny_pyNext_zipD2_end S (Draws.list hh i1 a n1 us.toArray) (Draws.tuple hh i2 b n2 vs.toArray) st.zp st.ti eO ⟨st.l, pl.isList⟩ ⟨st.t, pt⟩ (by omega) (by omega) (.inl m1.symm) fun h' tk keep => ⟨rfl, ?_⟩
    exact I.turnedL (t' := tk) (ch := [z, TI, TO, i1, i2]) (fun c o nc e => keep c o (fun q => nc (by simp [q])) (fun q => nc (by simp [q])) (fun q => nc (by simp [q])) (fun q => nc (by simp [q])) e) off
  self A i s Q E st h := wpAny_pyIter_zip st.zp h
def iZipM (K : PySem.W.Frag) (ta : TA) : TI := fun σ H R => ta σ H fun vs H1 => ∃ (a b : Addr) (xs ys : List V), vs = [.ref a, .ref b] ∧ SqL K H1 a xs ∧ SqT K H1 b ys ∧ R (ItM K a b) H1
theorem pi_zipM {X : Cx} {e e2 : Expr} {ta : TA} {p pos tpos : Pos} {elts : List Expr} {kk : Nat} (hg : Gl X "zip") (hm : X.mg "zip" = none) (ha : PA X [e, e2] ta)
    (hs : starEach [e, e2] X.env = (false, eval e X.env) :: starEach [e2] X.env := by rfl) (hpl : (backTo pos (starEach [e2] X.env)).any (·.1) = false := by rfl) :
    PI X (.Tuple elts kk tpos) (.Call (.Name "zip" p) [e, e2] [] pos) (iZipM X.K ta) := by
  constructor
  intro pins s σ H R I h
  refine Call_ (ld_blt I hg hm PyProof.Rows.boot_zip (PyProof.Rows.callWith_type1 (wpAny_mono (ha.run pos pins s σ H _ I h) ?_ fun _ _ z => z) hs hpl))
  rintro us s1 ⟨_, H1, I1, vals, a, b, xs, ys, rfl, hx, hy, go⟩
  obtain rfl : us = [.ref a, .ref b] := by
    match us, vals with
    | [u, v], .cons r1 (.cons r2 .nil) =>
      have e1 : u = .ref a := r1
      have e2 : v = .ref b := r2
      rw [e1, e2]
  obtain ⟨ws, r1, pl, _⟩ := I1.list hx
  obtain ⟨vs, r2, pt, _⟩ := I1.tuple hy
  have la : a < s1.heap.objs.size := pl.lt
  have lb : b < s1.heap.objs.size := by
    obtain ⟨o, ho, _⟩ := id pt
    exact Heap.lt_size ho
  refine zip_begins2 (begins_list a ws.toArray) (begins_tuple b vs.toArray) pl.isList pt fun h' z tI tO g1 g2 _ up => wpAny_pyIter_zip z ?_
  have S : ZipSep2 (s1.heap.objs.size + 4) (s1.heap.objs.size + 2) (s1.heap.objs.size + 3) s1.heap.objs.size (s1.heap.objs.size + 1) [s1.heap.objs.size, a] [s1.heap.objs.size + 1, b] := zip_sep2 (fun c hc => by rw [List.mem_singleton.mp hc]; exact la) (fun c hc => by rw [List.mem_singleton.mp hc]; exact lb)
  refine ⟨s1.heap.objs.size + 4, [s1.heap.objs.size + 4, s1.heap.objs.size + 2, s1.heap.objs.size + 3, s1.heap.objs.size, s1.heap.objs.size + 1], _, ItM X.K a b, H1, rfl, I1.kept (t' := s1.toks) up, turn_mix S (Nat.ne_of_lt la) (Nat.ne_of_lt (Nat.lt_succ_of_lt lb)), ⟨z, tI, ⟨_, _, tO⟩, ⟨_, g1, rfl, rfl⟩, ⟨_, g2, rfl, rfl⟩⟩, fun c hc => ?_, go⟩
  have le : s1.heap.objs.size ≤ c := by
    rcases five hc with rfl | rfl | rfl | rfl | rfl
    · exact Nat.le_add_right _ _
    · exact Nat.le_add_right _ _
    · exact Nat.le_add_right _ _
    · exact Nat.le_refl _
    · exact Nat.le_add_right _ _
  exact new_ok I1 le
end ZM
end
section
namespace Lw
open PySem L2
def rowM (n : Nat) (M : Mx) (a : Nat) : List V := (List.range n).map fun b => V.int ((M a b : Nat) : Int)
theorem rowM_len (n : Nat) (M : Mx) (a : Nat) : (rowM n M a).length = n := by
  unfold rowM
  simp
theorem rowM_at {n : Nat} (M : Mx) (a : Nat) {b : Nat} (h : b < n) : (rowM n M a)[b]? = some (V.int ((M a b : Nat) : Int)) := by
  unfold rowM
  rw [List.getElem?_map, List.getElem?_range h]
  rfl
theorem rowM_congr {n : Nat} {M M' : Mx} {a : Nat} (h : ∀ b, b < n → M a b = M' a b) : rowM n M a = rowM n M' a := by
  unfold rowM
  refine List.map_congr_left fun b hb => ?_
  rw [h b (List.mem_range.mp hb)]
structure TabM (H : Hp) (p : Addr) (rs : List Addr) (n : Nat) (M : Mx) : Prop where
  ls : H p = some (.lst (rs.map V.ref))
  len : rs.length = n
  row : ∀ (a : Nat) (r : Addr), rs[a]? = some r → H r = some (.lst (rowM n M a))
theorem TabM.same {H H' : Hp} {p : Addr} {rs : List Addr} {n : Nat} {M : Mx} (h : TabM H p rs n M) (s : Same H H') : TabM H' p rs n M := ⟨s _ _ h.ls, h.len, fun a r e => s _ _ (h.row a r e)⟩
theorem TabM.congr {H : Hp} {p : Addr} {rs : List Addr} {n : Nat} {M M' : Mx} (h : TabM H p rs n M) (e : ∀ i j, i < n → j < n → M i j = M' i j) : TabM H p rs n M' := ⟨h.ls, h.len, fun a r ha => by
  have hl := h.len
  have hi := (List.getElem?_eq_some_iff.mp ha).1
  rw [h.row a r ha, rowM_congr fun b hb => e a b (by omega) hb]⟩
def spProd : Sp := fun vs H Q _ => ∃ (p q : Addr) (rs qs : List Addr) (n : Nat) (A B : Mx), vs = [.ref p, .ref q] ∧ TabM H p rs n A ∧ TabM H q qs n B ∧ 1 ≤ n ∧ n ≤ 8 ∧ (∀ i j, i < n → j < n → (A i j).log2 < 400000) ∧ (∀ i j, i < n → j < n → (B i j).log2 < 400000) ∧
  ∀ (D : Addr) (ts : List Addr) (H' : Hp), Same H H' → TabM H' D ts n (mul n A B) → Q (.ref D) H'
def spPow : Sp := fun vs H Q _ => ∃ (p : Addr) (rs : List Addr) (n e : Nat) (A : Mx), vs = [.ref p, .int (e : Int)] ∧ TabM H p rs n A ∧ 1 ≤ n ∧ n ≤ 8 ∧ 1 ≤ e ∧ e ≤ 2000 ∧ (∀ i j, A i j ≤ 31) ∧
  ∀ (D : Addr) (ts : List Addr) (H' : Hp), Same H H' → TabM H' D ts n (pw n A e) → Q (.ref D) H'
abbrev NPd : List Str := ["one", "other", "columns", "line", "column", "a", "b"]
abbrev scP1 : Scope := { kind := .function, names := [(".0", .local), ("line", .cell), ("columns", .cell)], isGenerator := false, isCoroutine := false }
abbrev scP2 : Scope := { kind := .function, names := [(".0", .local), ("column", .local), ("sum", .globalImplicit), ("zip", .globalImplicit), ("line", .cell)], isGenerator := false, isCoroutine := false }
abbrev tDot (K : PySem.W.Frag) : TE := tCB (rSum K) (tCons (tLc (ZM.iZipM K (tCons (tVar 3) (tCons (tVar 4) tNil))) (gTup K 2 (gCons (gName 5) (gCons (gName 6) gNil))) tYes (tOp (rI CMulW fun i j => .int (i * j)) (tVar 5) (tVar 6)) [5, 6]) tNil)
abbrev tLine (K : PySem.W.Frag) : TE := tLc (iSeqA K (tVar 2)) (gName 4) tYes (tDot K) [4]
theorem yes_if' {σ : St} {H : Hp} {A B : Hp → Prop} (h : A H) : tYes σ H (fun b H => if b = true then A H else B H) := by
  show (if true = true then A H else B H)
  exact if_t rfl h
section
variable {P : Program} {w : World} {K : PySem.W.Frag} {mg : Str → Option Value} {base : Heap} {f : Addr} {fd : FuncData} {k : Nat}
theorem scProd : FnScope NPd ["one", "other"] (defScope sProd) := ⟨rfl, rfl, rfl, by decide +kernel, rfl, by decide +kernel, by decide +kernel⟩
theorem scPow : FnScope ["table", "exponent", "result", "shift"] ["table", "exponent"] (defScope sPow) := ⟨rfl, rfl, rfl, by decide +kernel, rfl, by decide +kernel, by decide +kernel⟩
theorem dot {H : Hp} {r t : Addr} {n i j : Nat} {A B : Mx} {v0 v1 v2 v5 v6 : Option V} {Q : VK} (hr : H r = some (.lst (rowM n A i))) (ht : H t = some (.tup ((List.range n).map fun k => V.int ((B k j : Nat) : Int)))) (h8 : n ≤ 8) (hA : ∀ k, k < n → (A i k).log2 < 400000) (hB : ∀ k, k < n → (B k j).log2 < 400000)
    (q : ∀ H', Same H H' → Q (.int ((mul n A B i j : Nat) : Int)) H') : tDot K [v0, v1, v2, some (.ref r), some (.ref t), v5, v6] H Q := by
  refine ⟨_, rfl, _, rfl, r, t, _, _, rfl, SqL.of hr, SqT.of ht, fun D hD => ?_⟩
  refine lc_it (ZM.walk_mix (n := n) (rowM_len n A i) (by simp)) (fun m H' => Same H H' ∧ H' D = some (.lst ((((List.range n).map fun k => ((A i k * B k j : Nat) : Int)).take m).map V.int))) ⟨same_upd hD, by rw [upd_same]; rfl⟩ (fun m H' _ p => ⟨SqL.of (p.1 _ _ hr), SqT.of (p.1 _ _ ht)⟩) ?_ ?_
  · rintro m x H1 H2 hm ⟨sm1, eD⟩ ⟨Tp, u, v, rfl, nT, rfl, gu, gv⟩
    have eu : u = .int ((A i m : Nat) : Int) := by
      have := rowM_at A i hm
      rw [show (rowM n A i)[m]? = some u from gu] at this
      exact Option.some.inj this
    have ev : v = .int ((B m j : Nat) : Int) := by
      have gv : ((List.range n).map fun k => V.int ((B k j : Nat) : Int))[m]? = some v := gv
      rw [List.getElem?_map, List.getElem?_range hm] at gv
      exact (Option.some.inj gv).symm
    subst eu ev
    have s2 := same_upd (o := .tup [.int ((A i m : Nat) : Int), .int ((B m j : Nat) : Int)]) nT
    refine ⟨Tp, _, rfl, SqT.of upd_same, rfl, _, _, rfl, _, _, rfl, rfl, rfl, ?_⟩
    refine ⟨_, rfl, _, rfl, _, _, rfl, rfl, ?_, _, s2 _ _ eD, ?_, ?_, ?_⟩
    · show ((A i m : Nat) : Int).natAbs.log2 + ((B m j : Nat) : Int).natAbs.log2 < 1000000
      rw [Int.natAbs_natCast, Int.natAbs_natCast]
      have := hA m hm
      have := hB m hm
      omega
    · rw [List.length_map, List.length_take, List.length_map, List.length_range]
      exact small1000 (by omega)
    · intro c o ec
      rw [upd_ne (ne_of_none ec hD)]
      exact s2 _ _ (sm1 _ _ ec)
    · rw [upd_same, List.take_add_one, List.getElem?_map, List.getElem?_range hm, List.map_append]
      show _ = some (HO.lst (_ ++ [V.int ((A i m * B m j : Nat) : Int)]))
      rw [Int.natCast_mul]
  · rintro H1 ⟨sm1, eD⟩
    have e : (((List.range n).map fun k => ((A i k * B k j : Nat) : Int)).take n) = (List.range n).map fun k => ((A i k * B k j : Nat) : Int) := List.take_of_length_le (by simp)
    rw [e] at eD
    refine ⟨D, _, rfl, SqL.of eD, ?_⟩
    rw [sm_int]
    exact q H1 sm1
set_option maxHeartbeats 8000000 in
theorem line {H : Hp} {c r : Addr} {Ts : List Addr} {n i : Nat} {A B : Mx} {v0 v1 v4 v5 v6 : Option V} {Q : VK} (hc : H c = some (.lst (Ts.map V.ref))) (hl : Ts.length = n) (hT : ∀ (j : Nat) (T : Addr), Ts[j]? = some T → H T = some (.tup ((List.range n).map fun k => V.int ((B k j : Nat) : Int))))
    (hr : H r = some (.lst (rowM n A i))) (h8 : n ≤ 8) (hA : ∀ k, k < n → (A i k).log2 < 400000) (hB : ∀ k j, k < n → j < n → (B k j).log2 < 400000)
    (q : ∀ (D : Addr) (H' : Hp), Same H H' → H' D = some (.lst (rowM n (mul n A B) i)) → Q (.ref D) H') : tLine K [v0, v1, some (.ref c), some (.ref r), v4, v5, v6] H Q := by
  refine ⟨_, rfl, c, _, SqL, rfl, .inl rfl, SqL.of hc, fun J w D hD => ?_⟩
  refine lc_it w (fun m H' => Same H H' ∧ H' D = some (.lst ((rowM n (mul n A B) i).take m))) ⟨same_upd hD, by rw [upd_same]; rfl⟩ (fun m H' _ p => SqL.of (p.1 _ _ hc)) ?_ ?_
  · rintro m x H1 H2 hm ⟨sm1, eD⟩ ⟨rfl, gx⟩
    rw [List.length_map, hl] at hm
    rw [List.getElem?_map] at gx
    obtain ⟨T, hTm, rfl⟩ := Option.map_eq_some_iff.mp gx
    refine ⟨rfl, yes_if' ?_⟩
    show tDot K [v0, v1, some (.ref c), some (.ref r), some (.ref T), v5, v6] H2 _
    refine dot (sm1 _ _ hr) (sm1 _ _ (hT m T hTm)) h8 hA (fun k hk => hB k m hk hm) fun H3 s3 => ?_
    refine ⟨_, s3 _ _ eD, ?_, ?_, ?_⟩
    · rw [List.length_take, rowM_len]
      exact small1000 (by omega)
    · intro b o e
      rw [upd_ne (ne_of_none e hD)]
      exact s3 _ _ (sm1 _ _ e)
    · rw [upd_same, List.take_add_one, rowM_at _ i hm]
      rfl
  · rintro H1 ⟨sm1, eD⟩
    rw [List.length_map, hl, List.take_of_length_le (by rw [rowM_len]; exact Nat.le_refl _)] at eD
    exact q D H1 sm1 eD
set_option maxHeartbeats 8000000 in
theorem ok_prod (F : Fun K "product" "product" sProd f fd) (T : Bi mg) (tS : mg "sum" = none) : FnOk P w K mg base CX0 (k + 1) f fd ["one", "other"] spProd := by
  refine F.ok scProd (fun vs H Q E h => ?_) (fun cdv A outer s H vs Q E hr h => ?_)
  · obtain ⟨p, q, rs, qs, n, A, B, rfl, _⟩ := h
    rfl
  · obtain ⟨p, q, rs, qs, n, A, B, rfl, tp, tq, n1, n8, hA, hB, qq⟩ := h
    refine ⟨_, pss_cons (ps_set (i := 2) scProd.nd rfl (.inr rfl) (ZN.pe_listZip rfl (by rfl) T.list (by rfl) T.zip (pv 1)))
      (pss_one (ps_ret (pe_lc (own := [("line", 3)]) (g := gName 3) (tt := tYes) (te := tLine K) rfl scProd.nd (pi_seqA (pv 0)) (blkOk_by (N := NPd) (sc := defScope sProd) (by decide +kernel))
        (fun _ _ _ _ _ => by exact pg_name (i := 3) scProd.nd rfl (Or.inr rfl)) (fun _ _ _ _ _ => pts_nil)
        (fun _ _ _ _ _ => by exact (pe_lc (own := [("column", 4)]) (g := gName 4) (tt := tYes) (te := tDot K) rfl scProd.nd (pi_seqA (pv 2)) (blkOk_by (N := NPd) (sc := scP1) (by decide +kernel))
          (fun _ _ _ _ _ => by exact pg_name (i := 4) scProd.nd rfl (Or.inl rfl)) (fun _ _ _ _ _ => pts_nil)
          (fun _ _ _ _ _ => by exact (pe_callB (cr_sum rfl) (by rfl) tS (by decide +kernel) (pa_cons
            (pe_lc (own := [("a", 5), ("b", 6)]) (g := gTup K 2 (gCons (gName 5) (gCons (gName 6) gNil))) (tt := tYes) (te := tOp (rI CMulW fun i j => .int (i * j)) (tVar 5) (tVar 6)) rfl scProd.nd (ZM.pi_zipM (by rfl) T.zip (pa_cons (pv 3) (pa_cons (pv 4) pa_nil))) (blkOk_by (N := NPd) (sc := scP2) (by decide +kernel))
              (fun _ _ _ _ _ => by exact pg_tup rfl (pgs_cons (pg_name (i := 5) scProd.nd rfl (Or.inl rfl)) (pgs_cons (pg_name (i := 6) scProd.nd rfl (Or.inl rfl)) pgs_nil))) (fun _ _ _ _ _ => pts_nil)
              (fun _ _ _ _ _ => by exact pe_op op_mulW (pv 5) (pv 6))) pa_nil)))))))), ?_⟩
    refine ⟨_, rfl, q, qs, (List.range n).map fun i => rowM n B i, n, rfl, SqL.of tq.ls, by rw [List.length_map, List.length_range, tq.len], fun i l r hl hrr => ?_, fun r hrr => ?_, fun z => ?_, by rw [tq.len]; exact n8, n1, by omega, fun c Ts H1 s1 nc ec lT hT => ?_⟩
    · rw [List.getElem?_map] at hrr
      obtain ⟨i2, hi2, rfl⟩ := Option.map_eq_some_iff.mp hrr
      have hi : i < n := by
        have := (List.getElem?_eq_some_iff.mp hi2).1
        simpa using this
      rw [List.getElem?_range hi] at hi2
      cases hi2
      exact SqL.of (tq.row i l hl)
    · obtain ⟨i, _, rfl⟩ := List.mem_map.mp hrr
      exact rowM_len n B i
    · have := tq.len
      rw [z] at this
      simp at this
      omega
    have hT' : ∀ (j : Nat) (T : Addr), Ts[j]? = some T → H1 T = some (.tup ((List.range n).map fun k => V.int ((B k j : Nat) : Int))) := fun j T e => by
      have hj : j < n := by
        have := (List.getElem?_eq_some_iff.mp e).1
        omega
      rw [(hT j T e).2, List.map_map]
      congr 2
      refine List.map_congr_left fun i hi => ?_
      show (rowM n B i).getD j .non = _
      simp [List.getD, rowM_at B i hj]
    have s1 : Same H H1 := s1
    refine ⟨_, rfl, p, _, SqL, rfl, .inl rfl, SqL.of (s1 _ _ tp.ls), fun J w D hD => ?_⟩
    refine lc_it w (fun m H' => ∃ ts : List Addr, ts.length = m ∧ Same H1 H' ∧ H' D = some (.lst (ts.map V.ref)) ∧ ∀ (a : Nat) (r : Addr), ts[a]? = some r → H' r = some (.lst (rowM n (mul n A B) a)) ∧ r ≠ D) ⟨[], rfl, same_upd hD, upd_same, fun a r e => by cases e⟩ (fun m H' _ p => by obtain ⟨ts, _, s, _⟩ := p; exact SqL.of (s _ _ (s1 _ _ tp.ls))) ?_ ?_
    · rintro m x H2 H3 hm ⟨ts, hts, s2, eD, hh⟩ ⟨rfl, gx⟩
      rw [List.length_map, tp.len] at hm
      rw [List.getElem?_map] at gx
      obtain ⟨r, hrm, rfl⟩ := Option.map_eq_some_iff.mp gx
      refine ⟨rfl, yes_if' ?_⟩
      show tLine K [some (.ref p), some (.ref q), some (.ref c), some (.ref r), none, none, none] H3 _
      refine line (s2 _ _ ec) lT (fun j T e => s2 _ _ (hT' j T e)) (s2 _ _ (s1 _ _ (tp.row m r hrm))) n8 (fun k hk => hA m k hm hk) hB fun D2 H4 s4 e4 => ?_
      have D2D : D2 ≠ D ∨ D2 = D := by
        by_cases h : D2 = D
        · exact .inr h
        · exact .inl h
      have eD4 := s4 _ _ eD
      have ne : D2 ≠ D := fun z => by
        rw [z, eD4] at e4
        injection e4 with e4
        injection e4 with e4
        have lq := congrArg List.length e4
        rw [List.length_map, rowM_len, hts] at lq
        omega
      refine ⟨_, eD4, ?_, ts ++ [D2], by simp [hts], ?_, ?_, ?_⟩
      · rw [List.length_map]
        exact small1000 (by omega)
      · intro b o e
        rw [upd_ne (ne_of_none e hD)]
        exact s4 _ _ (s2 _ _ e)
      · rw [upd_same, List.map_append]
        rfl
      · intro a r2 e
        by_cases ha : a < ts.length
        · rw [List.getElem?_append_left ha] at e
          obtain ⟨h1, h2⟩ := hh a r2 e
          exact ⟨by rw [upd_ne h2]; exact s4 _ _ h1, h2⟩
        · rw [List.getElem?_append_right (by omega)] at e
          have ea : a - ts.length = 0 := by
            by_cases z : a - ts.length = 0
            · exact z
            · obtain ⟨y, hy⟩ : ∃ y, a - ts.length = y + 1 := ⟨a - ts.length - 1, by omega⟩
              rw [hy] at e
              cases e
          rw [ea] at e
          have e := Option.some.inj e
          rw [← e, upd_ne ne]
          have : a = m := by omega
          rw [this]
          exact ⟨e4, ne⟩
    · rintro H2 ⟨ts, hts, s2, eD, hh⟩
      rw [List.length_map, tp.len] at hts
      exact qq D ts H2 (s1.trans s2) ⟨eD, hts, fun a r e => (hh a r e).1⟩
end
end Lw
end
section
namespace Lw
open PySem L2
abbrev pwE (n : Int) (us : Es) (e : Nat) : Mx := pw n.toNat (cntN (psOf us)) e
def spCl : Sp := fun vs H Q _ => ∃ e lim : Int, vs = [.int e, .int lim] ∧ 1 ≤ e ∧ e ≤ lim ∧ Q .non H
structure GrOk (C : Addr) (H : Hp) (g : Addr) (n : Int) (us : Es) : Prop where
  gr : GraphAt C H g n us
  n1 : 1 ≤ n
  n8 : n ≤ 8
  l24 : us.length ≤ 24
  rg : ∀ e ∈ us, 0 ≤ e.2.1 ∧ e.2.1 < n ∧ 0 ≤ e.2.2 ∧ e.2.2 < n
def spCC (C : Addr) : Sp := fun vs H Q _ => ∃ (g : Addr) (n : Int) (us : Es) (e : Nat), vs = [.ref g, .int (e : Int)] ∧ GrOk C H g n us ∧ 1 ≤ e ∧ e ≤ 2000 ∧ ∀ H', Same H H' → Q (.int ((sm n.toNat (fun i => pwE n us e i i) : Nat) : Int)) H'
theorem bits_nat {e : Nat} (h : 1 ≤ e) : Builtin.Int.intBits ((e : Nat) : Int) = e.log2 + 1 := by
  unfold Builtin.Int.intBits
  rw [if_neg (show ¬ (((e : Nat) : Int) == 0) = true by simpa using (show e ≠ 0 by omega)), Int.natAbs_natCast]
theorem shr_top {e : Nat} (h : 1 ≤ e) : e >>> e.log2 = 1 := by
  rw [Nat.shiftRight_eq_div_pow]
  have h1 : 2 ^ e.log2 ≤ e := Nat.log2_self_le (by omega)
  have h2 : e < 2 ^ (e.log2 + 1) := (Nat.log2_lt (by omega)).mp (Nat.lt_succ_self _)
  rw [Nat.pow_succ] at h2
  have pos : 0 < 2 ^ e.log2 := Nat.pow_pos (by decide)
  refine Nat.le_antisymm (Nat.le_of_lt_succ ((Nat.div_lt_iff_lt_mul pos).mpr ?_)) ((Nat.le_div_iff_mul_le pos).mpr ?_)
  · rw [Nat.mul_comm]
    exact h2
  · omega
theorem shr_le (e s : Nat) : e >>> s ≤ e := by
  rw [Nat.shiftRight_eq_div_pow]
  exact Nat.div_le_self _ _
section
variable {P : Program} {w : World} {K : PySem.W.Frag} {mg : Str → Option Value} {base : Heap} {f C : Addr} {fd : FuncData} {k : Nat}
set_option maxHeartbeats 8000000 in
theorem ok_pow (F : Fun K "power" "power" sPow f fd) (T : Bi mg) (tR : mg "reversed" = none) (cP : C8.Cal P w K mg base 1 "product" spProd []) : FnOk P w K mg base CX0 (k + 2) f fd ["table", "exponent"] spPow := by
  refine F.ok scPow (fun vs H Q E h => ?_) (fun cdv A outer s H vs Q E hr h => ?_)
  · obtain ⟨p, rs, n, e, A, rfl, _⟩ := h
    rfl
  · obtain ⟨p, rs, n, e, A, rfl, tp, n1, n8, e1, e2, hA, qq⟩ := h
    refine ⟨_, pss_cons (ps_set (i := 2) scPow.nd rfl (.inl rfl) (pv 0))
      (pss_cons (ps_for PassesOwn.never rfl (pi_revR (by rfl) tR (prg_1 (by rfl) T.range (pe_op op_sub (pe_bits (pv 1)) pe_int))) (pg_name (i := 3) scPow.nd rfl (.inl rfl))
        (pss_cons (ps_set (i := 2) scPow.nd rfl (.inl rfl) (C8.pe_c cP hr (by omega) (by rfl) (pa_cons (pv 2) (pa_cons (pv 2) pa_nil))))
        (pss_one (ps_if (pt_truth (pe_op op_odd (pe_op op_shrN (pv 1) (pv 3)) pe_int) (fun _ => rfl)) (pss_one (ps_set (i := 2) scPow.nd rfl (.inl rfl) (C8.pe_c cP hr (by omega) (by rfl) (pa_cons (pv 2) (pa_cons (pv 0) pa_nil))))) pss_nil))))
      (pss_one (ps_ret (pv 2)))), ?_⟩
    have hlog : ∀ q i j, q ≤ 4000 → (pw n A q i j).log2 < 400000 := fun q i j hq => by
      have := pw_log n8 hA q i j
      omega
    have hm : ((Builtin.Int.intBits ((e : Nat) : Int) : Nat) : Int) - 1 = ((e.log2 : Nat) : Int) := by
      rw [bits_nat e1]
      omega
    have hl2 : e.log2 < 11 := (Nat.log2_lt (by omega)).mpr (by omega)
    refine ⟨_, rfl, _, rfl, _, rfl, _, _, rfl, rfl, ((e.log2 : Nat) : Int), congrArg V.int hm, by decide, by decide, by omega, by omega, ?_⟩
    have en : (((e.log2 : Nat) : Int) - 0).toNat = e.log2 := by omega
    rw [en]
    refine for_it (walk_rangeC (lo := 0 + ((e.log2 : Nat) : Int) - 1) (c := -1) (n := e.log2)) (fun i σ H' => ∃ (v3 : Option V) (R : Addr) (ts : List Addr), σ = [some (.ref p), some (.int (e : Int)), some (.ref R), v3] ∧ Same H H' ∧ TabM H' R ts n (pw n A (e >>> (e.log2 - i)))) ⟨none, p, rs, rfl, fun _ _ z => z, ?_⟩ (fun _ _ _ _ _ => True.intro) ?_ ?_
    · refine tp.congr fun i j hi hj => ?_
      rw [Nat.sub_zero, shr_top e1, pw_one A hi]
    · rintro i x σ H1 H2 hi ⟨v3, R, ts, rfl, s1, tR⟩ ⟨rfl, hx⟩
      have hs : e.log2 - i = (e.log2 - 1 - i) + 1 := by omega
      have hx : x = .int ((e.log2 - 1 - i : Nat) : Int) := by
        rw [hx]
        show V.int (0 + ((e.log2 : Nat) : Int) - 1 + ((i : Nat) : Int) * -1) = _
        congr 1
        omega
      subst hx
      rw [hs] at tR
      have q1 : e >>> (e.log2 - 1 - i + 1) ≤ 2000 := Nat.le_trans (shr_le _ _) e2
      refine ⟨_, rfl, _, rfl, R, R, ts, ts, n, _, _, rfl, tR, tR, n1, n8, fun i j _ _ => hlog _ i j (by omega), fun i j _ _ => hlog _ i j (by omega), fun R2 ts2 H3 s3 t2 => ?_⟩
      have sq : ((e : Int) / 2 ^ (e.log2 - 1 - i)) = ((e >>> (e.log2 - 1 - i) : Nat) : Int) := by
        rw [Nat.shiftRight_eq_div_pow]
        norm_cast
      have hb := fun (i2 j2 : Nat) (hj : j2 < n) => pw_bit (n := n) A e (e.log2 - 1 - i) (i := i2) hj
      have es : e.log2 - (i + 1) = e.log2 - 1 - i := by omega
      refine ⟨_, rfl, _, rfl, _, _, rfl, rfl, e >>> (e.log2 - 1 - i), congrArg V.int sq, rfl, _, rfl, ite2 (fun h => ?_) (fun h => ?_)⟩
      · have ho : (e >>> (e.log2 - 1 - i)) % 2 = 1 := by
          have h : ((((e >>> (e.log2 - 1 - i)) % 2 : Nat) : Int) != 0) = true := h
          have h := bne_iff_ne.mp h
          omega
        refine ⟨_, rfl, _, rfl, R2, p, ts2, rs, n, _, _, rfl, t2, tp.same (s1.trans s3), n1, n8, fun i j _ hj => ?_, fun i j _ _ => ?_, fun R4 ts4 H4 s4 t4 => ⟨_, R4, ts4, rfl, (s1.trans s3).trans s4, ?_⟩⟩
        · rw [← pw_add A _ _ hj]
          exact hlog _ i j (by omega)
        · have := hA i j
          by_cases z : A i j = 0
          · rw [z]
            decide
          · exact Nat.lt_trans ((Nat.log2_lt z).mpr (show A i j < 2 ^ 5 by omega)) (by decide)
        · rw [es]
          refine t4.congr fun i2 j2 _ hj => ?_
          have := hb i2 j2 hj
          rw [if_pos ho] at this
          exact this
      · have ho : ¬ (e >>> (e.log2 - 1 - i)) % 2 = 1 := fun z => h (by
          show ((((e >>> (e.log2 - 1 - i)) % 2 : Nat) : Int) != 0) = true
          rw [z]
          rfl)
        refine ⟨_, R2, ts2, rfl, s1.trans s3, ?_⟩
        rw [es]
        refine t2.congr fun i2 j2 _ hj => ?_
        have := hb i2 j2 hj
        rw [if_neg ho] at this
        exact this
    · rintro σ H1 ⟨v3, R, ts, rfl, s1, tR⟩
      rw [Nat.sub_self, Nat.shiftRight_zero] at tR
      exact ⟨_, rfl, qq R ts H1 s1 tR⟩
theorem scCl : FnScope ["length", "limit"] ["length", "limit"] (defScope sCl) := ⟨rfl, rfl, rfl, by decide +kernel, rfl, by decide +kernel, by decide +kernel⟩
theorem scCC : FnScope ["graph", "length", "state", "line"] ["graph", "length"] (defScope sCC) := ⟨rfl, rfl, rfl, by decide +kernel, rfl, by decide +kernel, by decide +kernel⟩
theorem ok_cl (F : Fun K "check_length" "check_length" sCl f fd) : FnOk P w K mg base CX0 (k + 1) f fd ["length", "limit"] spCl := by
  refine F.ok scCl (fun vs H Q E h => ?_) (fun cdv A outer s H vs Q E hr h => ?_)
  · obtain ⟨e, l, rfl, _⟩ := h
    rfl
  · obtain ⟨e, l, rfl, h1, h2, q⟩ := h
    refine ⟨_, pss_one (ps_if (pt_not (pt_chain op_le op_le pe_int (pv 0) (pv 1))) (pss_one ps_never) pss_nil), ?_⟩
    refine ⟨_, rfl, _, _, rfl, rfl, _, rfl, if_t (decide_eq_true h1) ⟨_, rfl, _, _, rfl, rfl, _, rfl, ?_⟩⟩
    exact if_f (by rw [decide_eq_true h2]; rfl) q
theorem tab_cnt {H : Hp} {p : Addr} {rs : List Addr} {m : Nat} {ps : List (Int × Int)} (h : CntAt H p rs m ps) : TabM H p rs m (cntN ps) := ⟨h.ls, h.len, fun a r e => h.row a r e⟩
set_option maxHeartbeats 8000000 in
theorem ok_cc (F : Fun K "count_closed" "count_closed" sCC f fd) {tk : Tok} (mx : mg "MAX_COUNTED" = some (.int 2000 tk)) (tS : mg "sum" = none) (tE : mg "enumerate" = none) (cL : C8.Cal P w K mg base 1 "check_length" spCl []) (cW : C8.Cal P w K mg base 2 "power" spPow []) (mC : C8.Met P w K mg base 1 C "counts" (spCounts C) []) : FnOk P w K mg base CX0 (k + 3) f fd ["graph", "length"] (spCC C) := by
  refine F.ok scCC (fun vs H Q E h => ?_) (fun cdv A outer s H vs Q E hr h => ?_)
  · obtain ⟨g, n, us, e, rfl, _⟩ := h
    rfl
  · obtain ⟨g, n, us, e, rfl, G, e1, e2, q⟩ := h
    obtain ⟨⟨dx, t, h1, h2⟩, ed⟩ := id G.gr
    refine ⟨_, pss_cons (ps_expr (C8.pe_c cL hr (by omega) (by rfl) (pa_cons (pv 1) (pa_cons (pe_glob (v := .int 2000) (by rfl) mx ⟨_, rfl⟩) pa_nil))))
      (pss_one (ps_ret (pe_callB (cr_sum rfl) (by rfl) tS (by decide +kernel) (pa_cons
        (pe_lc (own := [("state", 2), ("line", 3)]) (g := gTup K 2 (gCons (gName 2) (gCons (gName 3) gNil))) (tt := tYes) (te := tOp (rIxL K) (tVar 3) (tVar 2)) rfl scCC.nd (pi_enumA (by rfl) tE (pa_cons (C8.pe_c cW hr (by omega) (by rfl) (pa_cons (C8.pe_mt0 mC hr (by omega) (pv 0)) (pa_cons (pv 1) pa_nil))) pa_nil)) (blkOk_by (N := ["graph", "length", "state", "line"]) (sc := defScope sCC) (by decide +kernel))
          (fun _ _ _ _ _ => by exact pg_tup rfl (pgs_cons (pg_name (i := 2) scCC.nd rfl (Or.inl rfl)) (pgs_cons (pg_name (i := 3) scCC.nd rfl (Or.inl rfl)) pgs_nil))) (fun _ _ _ _ _ => pts_nil)
          (fun _ _ _ _ _ => by exact pe_ix ix_list (pv 3) (pv 2) (fun _ _ => rfl))) pa_nil)))), ?_⟩
    have n1 := G.n1
    have n8 := G.n8
    refine ⟨_, rfl, _, _, rfl, by omega, by omega, ?_⟩
    refine ⟨_, rfl, g, dx, _, rfl, h1, look_no _ _ (by decide +kernel) (by decide +kernel), g, n, us, rfl, G.gr, by omega, by omega, Nat.le_trans G.l24 (by decide), G.rg, fun p rs H1 s1 np nr ca => ?_⟩
    refine ⟨_, rfl, p, rs, n.toNat, e, _, rfl, tab_cnt ca, by omega, by omega, e1, e2, fun i j => Nat.le_trans (cntN_le _ _ _) (by unfold psOf; rw [List.length_map]; exact Nat.le_trans G.l24 (by decide)), fun D ts H2 s2 tD => ?_⟩
    refine ⟨D, _, SqL, rfl, .inl rfl, SqL.of tD.ls, fun J w L hL => ?_⟩
    refine lc_it w (fun m H' => Same H2 H' ∧ H' L = some (.lst ((((List.range n.toNat).map fun i => ((pwE n us e i i : Nat) : Int)).take m).map V.int))) ⟨same_upd hL, by rw [upd_same]; rfl⟩ (fun m H' _ p => SqL.of (p.1 _ _ tD.ls)) ?_ ?_
    · rintro m x H3 H4 hm ⟨s3, eL⟩ ⟨Tp, u, v, rfl, nT, rfl, gu, gv⟩
      rw [List.length_map, tD.len] at hm
      have eu : u = .int ((m : Nat) : Int) := (Option.some.inj gu).symm
      subst eu
      have gv : (ts.map V.ref)[m]? = some v := gv
      rw [List.getElem?_map] at gv
      obtain ⟨r, hrr, rfl⟩ := Option.map_eq_some_iff.mp gv
      have s4 := same_upd (o := .tup [.int ((m : Nat) : Int), .ref r]) nT
      have er := s4 _ _ (s3 _ _ (tD.row m r hrr))
      refine ⟨Tp, _, rfl, SqT.of upd_same, rfl, _, _, rfl, _, _, rfl, rfl, rfl, ?_⟩
      refine ⟨_, rfl, _, rfl, r, _, _, .int ((pwE n us e m m : Nat) : Int), rfl, rfl, SqL.of er, atI_nat (rowM_at _ m hm), _, s4 _ _ eL, ?_, ?_, ?_⟩
      · rw [List.length_map, List.length_take, List.length_map, List.length_range]
        exact small1000 (by omega)
      · intro b o ec
        rw [upd_ne (ne_of_none ec hL)]
        exact s4 _ _ (s3 _ _ ec)
      · rw [upd_same, List.take_add_one, List.getElem?_map, List.getElem?_range hm, List.map_append]
        rfl
    · rintro H3 ⟨s3, eL⟩
      rw [List.length_map, tD.len, List.take_of_length_le (by simp)] at eL
      refine ⟨L, _, rfl, SqL.of eL, ?_⟩
      rw [sm_int]
      exact q H3 ((s1.trans s2).trans s3)
end
end Lw
end
section
namespace Lw
open PySem L2
def wx (wy : Nat → Nat → List Nat) (tg : Nat → Nat) : Nat → List Nat → List (List Nat)
  | 0, p => [p]
  | r + 1, p => (wy r (tg (p.getLastD 0))).flatMap fun m => wx wy tg r (p ++ [m])
def wn (wy : Nat → Nat → List Nat) (tg : Nat → Nat) : Nat → List Nat → Nat
  | 0, _ => 1
  | r + 1, p => 1 + ((wy r (tg (p.getLastD 0))).map fun m => wn wy tg r (p ++ [m])).sum
def wvals (wy : Nat → Nat → List Nat) (tg : Nat → Nat) (L : Nat) (st : List (List Nat)) : List (List Nat) := st.flatMap fun p => wx wy tg (L - p.length) p
def wwt (wy : Nat → Nat → List Nat) (tg : Nat → Nat) (L : Nat) (st : List (List Nat)) : Nat := (st.map fun p => wn wy tg (L - p.length) p).sum
section
variable {wy : Nat → Nat → List Nat} {tg : Nat → Nat} {L : Nat}
theorem wn_pos : ∀ (r : Nat) (p : List Nat), 0 < wn wy tg r p
  | 0, _ => Nat.one_pos
  | r + 1, p => by unfold wn; omega
theorem wvals_nil : wvals wy tg L [] = [] := rfl
theorem wvals_full {p : List Nat} {st : List (List Nat)} (h : p.length = L) : wvals wy tg L (p :: st) = p :: wvals wy tg L st := by
  unfold wvals
  rw [List.flatMap_cons, h, Nat.sub_self]
  rfl
theorem wvals_step {p : List Nat} {st : List (List Nat)} (h : p.length < L) : wvals wy tg L (p :: st) = wvals wy tg L ((wy (L - p.length - 1) (tg (p.getLastD 0))).map (fun m => p ++ [m]) ++ st) := by
  unfold wvals
  rw [List.flatMap_cons, List.flatMap_append, List.flatMap_map]
  congr 1
  obtain ⟨r, hr⟩ : ∃ r, L - p.length = r + 1 := ⟨L - p.length - 1, by omega⟩
  rw [hr, show r + 1 - 1 = r from rfl]
  show (wy r (tg (p.getLastD 0))).flatMap _ = _
  congr 1
  funext m
  rw [List.length_append, List.length_singleton, show L - (p.length + 1) = r by omega]
theorem wwt_pop {p : List Nat} {st : List (List Nat)} : wwt wy tg L st < wwt wy tg L (p :: st) := by
  unfold wwt
  rw [List.map_cons, List.sum_cons]
  have := wn_pos (wy := wy) (tg := tg) (L - p.length) p
  omega
theorem wwt_step {p : List Nat} {st : List (List Nat)} (h : p.length < L) : wwt wy tg L ((wy (L - p.length - 1) (tg (p.getLastD 0))).map (fun m => p ++ [m]) ++ st) < wwt wy tg L (p :: st) := by
  unfold wwt
  rw [List.map_cons, List.sum_cons, List.map_append, List.sum_append, List.map_map]
  obtain ⟨r, hr⟩ : ∃ r, L - p.length = r + 1 := ⟨L - p.length - 1, by omega⟩
  rw [hr, show r + 1 - 1 = r from rfl]
  have e : ((wy r (tg (p.getLastD 0))).map ((fun q => wn wy tg (L - q.length) q) ∘ fun m => p ++ [m])) = (wy r (tg (p.getLastD 0))).map fun m => wn wy tg r (p ++ [m]) := by
    congr 1
    funext m
    show wn wy tg (L - (p ++ [m]).length) (p ++ [m]) = _
    rw [List.length_append, List.length_singleton, show L - (p.length + 1) = r by omega]
  rw [e]
  show _ < 1 + _ + _
  omega
end
def walksL (wy : Nat → Nat → List Nat) (sr tg : Nat → Nat) (L first : Nat) : List (List Nat) := if first ∈ wy (L - 1) (sr first) then wvals wy tg L [[first]] else []
end Lw
end
section
namespace Lw
open PySem L2 Sf PyProof.Rows GenW
abbrev NWk : List Str := ["edges", "ways", "first", "length", "waiting", "path", "numbers", "number"]
def nW (s : List Nat) : List V := s.map fun k => V.int ((k : Nat) : Int)
theorem nW_len (s : List Nat) : (nW s).length = s.length := by
  unfold nW
  simp
theorem nW_at {s : List Nat} {i : Nat} (h : i < s.length) : (nW s)[i]? = some (.int ((s.getD i 0 : Nat) : Int)) := by
  unfold nW
  simp [List.getD, h]
theorem nW_snoc (s : List Nat) (k : Nat) : nW (s ++ [k]) = nW s ++ [.int (k : Int)] := by
  unfold nW
  rw [List.map_append]
  rfl
theorem in_nW (k : Nat) (s : List Nat) : inV (.int (k : Int)) (nW s) = decide (k ∈ s) := by
  unfold inV nW
  rw [List.any_map, Bool.eq_iff_iff, List.any_eq_true, decide_eq_true_iff]
  constructor
  · rintro ⟨x, hx, e⟩
    have e : eqV (V.int ((x : Nat) : Int)) (V.int ((k : Nat) : Int)) = true := e
    have : x = k := by
      simp [eqV] at e
      omega
    rw [← this]
    exact hx
  · intro h
    exact ⟨k, h, by simp [eqV]⟩
theorem flat_nW (s : List Nat) : (nW s).all flatV = true := by
  unfold nW
  rw [List.all_map]
  simp [flatV]
def TW (H : Hp) : List Addr → List (List Nat) → Prop
  | [], [] => True
  | a :: as, s :: st => H a = some (.tup (nW s)) ∧ TW H as st
  | _, _ => False
theorem TW.len {H : Hp} : ∀ {as : List Addr} {st : List (List Nat)}, TW H as st → as.length = st.length
  | [], [], _ => rfl
  | a :: as, s :: st, h => congrArg (· + 1) (TW.len h.2)
theorem TW.same {H H' : Hp} (s : Same H H') : ∀ {as : List Addr} {st : List (List Nat)}, TW H as st → TW H' as st
  | [], [], _ => True.intro
  | a :: as, _ :: st, h => ⟨s _ _ h.1, TW.same s h.2⟩
theorem TW.off {H : Hp} {W : Addr} {xs : List V} {o : HO} (e : H W = some (.lst xs)) : ∀ {as : List Addr} {st : List (List Nat)}, TW H as st → TW (upd H W o) as st
  | [], [], _ => True.intro
  | a :: as, _ :: st, h => by
    refine ⟨?_, TW.off e h.2⟩
    rw [upd_ne fun z => ?_]
    · exact h.1
    · have := h.1
      rw [z, e] at this
      cases this
theorem TW.app {H : Hp} : ∀ {as bs : List Addr} {st rt : List (List Nat)}, TW H as st → TW H bs rt → TW H (as ++ bs) (st ++ rt)
  | [], _, [], _, _, h => h
  | _ :: _, _, _ :: _, _, h, g => ⟨h.1, TW.app h.2 g⟩
structure WaysAt (H : Hp) (wa : Addr) (L n : Nat) (wy : Nat → Nat → List Nat) : Prop where
  ex : ∃ rs : List Addr, H wa = some (.lst (rs.map V.ref)) ∧ rs.length = L ∧ ∀ (r : Nat) (a : Addr), rs[r]? = some a → ∃ qs : List Addr, H a = some (.lst (qs.map V.ref)) ∧ qs.length = n ∧ ∀ (s : Nat) (b : Addr), qs[s]? = some b → H b = some (.lst (nW (wy r s)))
theorem WaysAt.same {H H' : Hp} {wa : Addr} {L n : Nat} {wy : Nat → Nat → List Nat} (h : WaysAt H wa L n wy) (s : Same H H') : WaysAt H' wa L n wy := by
  obtain ⟨rs, h1, h2, h3⟩ := h.ex
  refine ⟨rs, s _ _ h1, h2, fun r a e => ?_⟩
  obtain ⟨qs, g1, g2, g3⟩ := h3 r a e
  exact ⟨qs, s _ _ g1, g2, fun st b e => s _ _ (g3 st b e)⟩
theorem WaysAt.read {H : Hp} {wa : Addr} {L n : Nat} {wy : Nat → Nat → List Nat} (h : WaysAt H wa L n wy) {r s : Nat} (hr : r < L) (hs : s < n) :
    ∃ (xs : List V) (a : Addr) (ys : List V) (b : Addr), H wa = some (.lst xs) ∧ atI xs (r : Int) = some (.ref a) ∧ H a = some (.lst ys) ∧ atI ys (s : Int) = some (.ref b) ∧ H b = some (.lst (nW (wy r s))) := by
  obtain ⟨rs, h1, h2, h3⟩ := h.ex
  obtain ⟨a, ha⟩ : ∃ a, rs[r]? = some a := ⟨_, List.getElem?_eq_getElem (by omega)⟩
  obtain ⟨qs, g1, g2, g3⟩ := h3 r a ha
  obtain ⟨b, hb⟩ : ∃ b, qs[s]? = some b := ⟨_, List.getElem?_eq_getElem (by omega)⟩
  exact ⟨_, a, _, b, h1, atI_nat (by rw [List.getElem?_map, ha]; rfl), g1, atI_nat (by rw [List.getElem?_map, hb]; rfl), g3 s b hb⟩
def srcE (us : Es) (i : Nat) : Nat := ((us[i]?.map fun (e : Addr × Int × Int) => e.2.1).getD 0).toNat
def tgtE (us : Es) (i : Nat) : Nat := ((us[i]?.map fun (e : Addr × Int × Int) => e.2.2).getD 0).toNat
structure EdL (H : Hp) (ed : Addr) (n : Nat) (us : Es) : Prop where
  ls : H ed = some (.lst (vsOf us))
  ok : Ed H us
  rg : ∀ e ∈ us, 0 ≤ e.2.1 ∧ e.2.1 < n ∧ 0 ≤ e.2.2 ∧ e.2.2 < n
theorem EdL.same {H H' : Hp} {ed : Addr} {n : Nat} {us : Es} (h : EdL H ed n us) (s : Same H H') : EdL H' ed n us := ⟨s _ _ h.ls, fun e he => s _ _ (h.ok e he), h.rg⟩
theorem EdL.read {H : Hp} {ed : Addr} {n : Nat} {us : Es} (h : EdL H ed n us) {i : Nat} (hi : i < us.length) :
    ∃ t : Addr, atI (vsOf us) (i : Int) = some (.ref t) ∧ H t = some (.tup [.int ((srcE us i : Nat) : Int), .int ((tgtE us i : Nat) : Int)]) ∧ srcE us i < n ∧ tgtE us i < n := by
  have e : us[i]? = some us[i] := List.getElem?_eq_getElem hi
  have hm : us[i] ∈ us := List.getElem_mem hi
  obtain ⟨h1, h2, h3, h4⟩ := h.rg _ hm
  have hs : srcE us i = (us[i].2.1).toNat := by unfold srcE; rw [e]; rfl
  have ht : tgtE us i = (us[i].2.2).toNat := by unfold tgtE; rw [e]; rfl
  refine ⟨us[i].1, atI_nat (by unfold vsOf; rw [List.getElem?_map, e]; rfl), ?_, by omega, by omega⟩
  rw [hs, ht, Int.toNat_of_nonneg h1, Int.toNat_of_nonneg h3]
  exact h.ok _ hm
def SW (m : Nat) : List (List Nat) → Prop
  | [] => True
  | s :: r => r.length ≤ m * s.length ∧ SW m r
theorem SW.more {m : Nat} {s : List Nat} {r : List (List Nat)} (h : SW m (s :: r)) : ∀ ks : List Nat, ks.length ≤ m → SW m (ks.map (fun k => s ++ [k]) ++ r)
  | [], _ => h.2
  | k :: ks, hl => by
    have hl : ks.length + 1 ≤ m := hl
    have h1 := h.1
    refine ⟨?_, SW.more h ks (by omega)⟩
    have e1 : (ks.map (fun k => s ++ [k]) ++ r).length = ks.length + r.length := by rw [List.length_append, List.length_map]
    have e2 : m * (s ++ [k]).length = m * s.length + m := by rw [List.length_append, List.length_singleton, Nat.mul_add, Nat.mul_one]
    show (ks.map (fun k => s ++ [k]) ++ r).length ≤ m * (s ++ [k]).length
    omega
def AllW (m L : Nat) (st : List (List Nat)) : Prop := ∀ s ∈ st, s ≠ [] ∧ s.length ≤ L ∧ ∀ x ∈ s, x < m
theorem AllW.more {m L : Nat} {s : List Nat} {r : List (List Nat)} {ks : List Nat} (h : AllW m L (s :: r)) (hl : s.length < L) (hk : ∀ x ∈ ks, x < m) : AllW m L (ks.map (fun k => s ++ [k]) ++ r) := by
  intro z hz
  rcases List.mem_append.mp hz with hz | hz
  · obtain ⟨k, hk', rfl⟩ := List.mem_map.mp hz
    refine ⟨by simp, by rw [List.length_append, List.length_singleton]; omega, fun x hx => ?_⟩
    rcases List.mem_append.mp hx with hx | hx
    · exact (h s List.mem_cons_self).2.2 x hx
    · rw [List.mem_singleton.mp hx]
      exact hk k hk'
  · exact h z (List.mem_cons_of_mem _ hz)
def spWalks : SpGS := fun pl vs H Q => ∃ (ed wa : Addr) (us : Es) (n L first : Nat) (wy : Nat → Nat → List Nat), vs = [.ref ed, .ref wa, .int (first : Int)] ∧ EdL H ed n us ∧ us.length ≤ 24 ∧ WaysAt H wa L n wy ∧ (∀ r s, ∀ x ∈ wy r s, x < us.length) ∧ (∀ r s, (wy r s).length ≤ us.length) ∧
  1 ≤ L ∧ L ≤ 40 ∧ first < us.length ∧ pl + (walksL wy (srcE us) (tgtE us) L first).length ≤ sizeLine ∧ ∀ (H' : Hp) (as : List Addr), Same H H' → TW H' as (walksL wy (srcE us) (tgtE us) L first) → Q (as.map V.ref) H'
theorem scWk : GScope NWk ["edges", "ways", "first"] (defScope sWalks) := ⟨rfl, rfl, rfl, by decide +kernel, rfl, by decide +kernel, by decide +kernel⟩
theorem Fun.gen {mk : Prop} {P : Program} {w : World} {K : PySem.W.Frag} {mg : Str → Option Value} {base : Heap} {x qual : Str} {st : Stmt} {f : Addr} {fd : FuncData} {N ps : List Str} {k : Nat} {sp : SpGS} (F : Fun K x qual st f fd) (S : GScope N ps (defScope st)) (len : ∀ pl vs H Q, sp pl vs H Q → vs.length = ps.length)
    (hbody : ∀ (cdv : Value) (A : Around) (outer : List Env) (s : Shared) (H : Hp) (vs : List V) (S : Addr) (pre : List V) (Q : List V → Hp → Prop), Room k (A.deeper (envOfC qual (defScope st) s.heap.objs.size f cdv)) → sp pre.length vs H Q →
      ∃ t, GBs mk (gX P w K mg base N qual (defScope st) f cdv A outer s H S) (defBody st) t ∧ t { nx := fun ys _ H' => ∃ out, ys = pre ++ out ∧ Q out H', rt := fun ys v H' => v = .non ∧ ∃ out, ys = pre ++ out ∧ Q out H' } pre (start N vs) H) :
    GFnS P w K mg base (k + 1) mk f fd ps sp := by
  obtain ⟨oc, od, kV, doc, pm, an, cdv, ct, osl, rfl, lk, hcd⟩ := F.ex
  exact gfnS_of lk hcd S len fun A outer s H vs Sx pre Q hr hsp => hbody cdv A outer s H vs Sx pre Q hr hsp
end Lw
end
section
namespace Lw
open PySem L2 Sf PyProof.Rows GenW
abbrev tLenK (K : PySem.W.Frag) (i : Nat) : TE := tCB (fun xs H Q => ∃ (p : Addr) (ys : List V), xs = [V.ref p] ∧ (SqL K H p ys ∨ SqT K H p ys) ∧ Q (V.int ys.length) H) (tCons (tVar i) tNil)
abbrev tSubN (a b : TE) : TE := tOp (fun x y H Q => ∃ n m : Nat, x = V.int n ∧ y = V.int m ∧ m ≤ n ∧ Q (V.int ((n - m : Nat) : Int)) H) a b
abbrev tTruL (K : PySem.W.Frag) (i : Nat) : TT := fun σ H Q => tVar i σ H fun x H' => ∃ k, TruV K x H' k ∧ Q k H'
abbrev tWay (K : PySem.W.Frag) (tr tn : TE) (c : Int) : TE := tOp (rIxL K) (tOp (rIxL K) (tVar 1) tr) (tOp (rIxT K) (tOp (rIxL K) (tVar 0) tn) (tC (.int c)))
abbrev tWk (K : PySem.W.Frag) : TGn := tGThen (tGWhile (tTruL K 4) (tGThen (tPlain (tAsg (tBM0 K "list" rPop (tVar 4)) (gName 5)))
  (tGThen (tGIf (tTest (tOp rEq (tLenK K 5) (tVar 3))) (tGThen (tGYield (tVar 5)) tG0)
    (tGThen (tPlain (tAsg (tWay K (tSubN (tSubN (tVar 3) (tLenK K 5)) (tC (.int 1))) (tOp (rIxT K) (tVar 5) (tUn (rU fun i => .int (-i)) (tC (.int 1)))) 1) (gName 6)))
      (tGThen (tPlain (tDrop (tBM K "list" rExtend (tVar 4) (tCons (tLc (RT.iRevA K (tVar 6)) (gName 7) tYes (tOp (rCatA K) (tVar 5) (tTup (tCons (tVar 7) tNil))) [7]) tNil)))) tG0))) tG0))) tG0
section
variable {P : Program} {w : World} {K : PySem.W.Frag} {mg : Str → Option Value} {base : Heap} {f : Addr} {fd : FuncData} {k : Nat}
set_option maxHeartbeats 8000000 in
theorem wk_while {pre : List V} {Q : List V → Hp → Prop} {ed wa Wt : Addr} {us : Es} {n L first : Nat} {wy : Nat → Nat → List Nat} {H0 Hb : Hp} {v5 v6 v7 : Option V} {as : List Addr} {st : List (List Nat)} (eE : EdL H0 ed n us) (m24 : us.length ≤ 24) (wW : WaysAt H0 wa L n wy)
    (wlt : ∀ r s, ∀ x ∈ wy r s, x < us.length) (wle : ∀ r s, (wy r s).length ≤ us.length) (L40 : L ≤ 40) (room : pre.length + (walksL wy (srcE us) (tgtE us) L first).length ≤ sizeLine)
    (q : ∀ (H' : Hp) (as : List Addr), Same H0 H' → TW H' as (walksL wy (srcE us) (tgtE us) L first) → Q (as.map V.ref) H') (s0 : Same H0 Hb) (hW : H0 Wt = none) (eW : Hb Wt = some (.lst (as.reverse.map V.ref))) (ta : TW Hb as st) (an : AllW us.length L st) (sb : SW us.length st)
    (vl : wvals wy (tgtE us) L st = walksL wy (srcE us) (tgtE us) L first) {rt : List V → V → Hp → Prop} :
    tWk K { nx := fun ys _ H' => ∃ out, ys = pre ++ out ∧ Q out H', rt := rt } pre [some (.ref ed), some (.ref wa), some (.int (first : Int)), some (.int (L : Int)), some (.ref Wt), v5, v6, v7] Hb := by
  refine ⟨fun m ys σ H' => ∃ (v5 v6 v7 : Option V) (as : List Addr) (st : List (List Nat)) (bs : List Addr) (dn : List (List Nat)), σ = [some (.ref ed), some (.ref wa), some (.int (first : Int)), some (.int (L : Int)), some (.ref Wt), v5, v6, v7] ∧ Same H0 H' ∧ H' Wt = some (.lst (as.reverse.map V.ref)) ∧
      TW H' as st ∧ AllW us.length L st ∧ SW us.length st ∧ ys = pre ++ bs.map V.ref ∧ TW H' bs dn ∧ dn ++ wvals wy (tgtE us) L st = walksL wy (srcE us) (tgtE us) L first ∧ wwt wy (tgtE us) L st = m,
    ⟨_, v5, v6, v7, as, st, [], [], rfl, s0, eW, ta, an, sb, by simp, True.intro, vl, rfl⟩, ?_⟩
  rintro m ys σ H3 ⟨v5, v6, v7, as, st, bs, dn, rfl, s4, eW, ta, an, sb, rfl, td, vl, wt⟩
  refine ⟨_, rfl, _, .inl ⟨_, SqL.of eW, rfl⟩, ?_⟩
  match as, st, ta with
  | [], [], _ =>
    refine if_f rfl ⟨bs.map V.ref, rfl, q H3 bs s4 ?_⟩
    rw [← vl, wvals_nil, List.append_nil]
    exact td
  | a :: as, p :: r, ta =>
    obtain ⟨ea, ta⟩ := ta
    have eW : H3 Wt = some (.lst (as.reverse.map V.ref ++ [.ref a])) := by
      rw [eW, List.reverse_cons, List.map_append]
      rfl
    obtain ⟨pne, sl, sx⟩ := an p List.mem_cons_self
    have la := ta.len
    refine if_t (by simp) ⟨_, fun _ _ _ z => z, ?_⟩
    refine ⟨_, rfl, .inl ⟨rfl, _, SqL.of eW⟩, Wt, _, .ref a, rfl, rfl, eW, ?_, ?_⟩
    · rw [List.length_append, List.length_singleton, Nat.add_sub_cancel]
      exact List.getElem?_concat_length
    rw [List.dropLast_concat]
    have aW : a ≠ Wt := fun z => by
      rw [z, eW] at ea
      cases ea
    have ea : upd H3 Wt (.lst (as.reverse.map V.ref)) a = some (.tup (nW p)) := by
      rw [upd_ne aW]
      exact ea
    have ta := TW.off (o := .lst (as.reverse.map V.ref)) eW ta
    have td := TW.off (o := .lst (as.reverse.map V.ref)) eW td
    have s4 : Same H0 (upd H3 Wt (.lst (as.reverse.map V.ref))) := fun b o e => by
      rw [upd_ne (ne_of_none e hW)]
      exact s4 _ _ e
    have eW : upd H3 Wt (.lst (as.reverse.map V.ref)) Wt = some (.lst (as.reverse.map V.ref)) := upd_same
    generalize upd H3 Wt (.lst (as.reverse.map V.ref)) = H4 at *
    refine ⟨_, rfl, a, _, rfl, .inr (SqT.of ea), ?_⟩
    rw [nW_len]
    refine ⟨_, rfl, rfl, _, rfl, ?_⟩
    by_cases hl : p.length = L
    · refine if_t (decide_eq_true (by rw [hl])) ⟨?_, _, rfl, ?_⟩
      · have e := congrArg List.length vl
        rw [wvals_full hl, List.length_append, List.length_cons] at e
        have e2 := td.len
        rw [List.length_append, List.length_map]
        omega
      · refine ⟨_, ?_, _, _, _, as, r, bs ++ [a], dn ++ [p], rfl, s4, eW, ta, fun z hz => an z (List.mem_cons_of_mem _ hz), sb.2, ?_, td.app ⟨ea, True.intro⟩, ?_, rfl⟩
        · rw [← wt]; exact wwt_pop
        · rw [List.map_append, List.append_assoc]; rfl
        · rw [← vl, wvals_full hl, List.append_assoc]; rfl
    · refine if_f (decide_eq_false fun z => hl (by have := V.int.inj z; omega)) ?_
      have hl : p.length < L := by omega
      obtain ⟨pp, x, rfl⟩ : ∃ pp x, p = pp ++ [x] := ⟨p.dropLast, p.getLast pne, (List.dropLast_concat_getLast pne).symm⟩
      have xm : x < us.length := sx x (by simp)
      have gl : (pp ++ [x]).getLastD 0 = x := by simp
      have eE := eE.same s4
      have wW := wW.same s4
      obtain ⟨t, at2, et, hs, ht⟩ := eE.read xm
      obtain ⟨xs, a1, ys1, F, w1, at1, w2, at4, eF⟩ := wW.read (r := L - (pp ++ [x]).length - 1) (by omega) ht
      have ex := ea
      rw [nW_snoc] at ex
      refine ⟨_, rfl, _, rfl, _, rfl, a, _, rfl, .inr (SqT.of ea), L, (pp ++ [x]).length, rfl, by rw [nW_len], Nat.le_of_lt hl, L - (pp ++ [x]).length, 1, rfl, rfl, by omega, wa, xs, _, _, rfl, rfl, SqL.of w1, at1, _, rfl, _, rfl, 1, rfl, a, _, -1, _, rfl, rfl, SqT.of ex, atI_last _ _, ed, _, _, _, rfl, rfl, SqL.of eE.ls, at2, t, _, 1, _, rfl, rfl, SqT.of et, rfl,
        a1, ys1, _, _, rfl, rfl, SqL.of w2, at4, ?_⟩
      have step := wvals_step (wy := wy) (tg := tgtE us) (L := L) (st := r) hl
      have wst := wwt_step (wy := wy) (tg := tgtE us) (L := L) (st := r) hl
      rw [gl] at step wst
      rw [step] at vl
      rw [wt] at wst
      have lc := wle (L - (pp ++ [x]).length - 1) (tgtE us x)
      have cl := wlt (L - (pp ++ [x]).length - 1) (tgtE us x)
      generalize wy (L - (pp ++ [x]).length - 1) (tgtE us x) = cs at *
      generalize pp ++ [x] = p at *
      have an2 := an.more hl cl
      have sb2 := sb.more cs lc
      refine ⟨_, rfl, .inl ⟨rfl, _, SqL.of eW⟩, _, rfl, F, _, rfl, .inl ⟨SqL.of eF, fun E hE => ?_⟩⟩
      have nE : E ≠ Wt := (ne_of_none eW hE).symm
      refine lc_it (walk_rev (K := K) (a := F) (xs := nW cs)) (fun i H' => ∃ rs : List Addr, Same H4 H' ∧ H' E = some (.lst (rs.reverse.map V.ref)) ∧ TW H' rs ((cs.drop (cs.length - i)).map fun k => p ++ [k])) ⟨[], same_upd hE, upd_same, by rw [Nat.sub_zero, List.drop_length]; exact True.intro⟩ (fun i H' _ p => by obtain ⟨rs, s, _⟩ := p; exact SqL.of (s _ _ eF)) ?_ ?_
      · rintro i v H6 H7 hi ⟨rs, s6, eX, tr⟩ ⟨rfl, gx⟩
        rw [nW_len] at hi gx
        rw [nW_at (by omega)] at gx
        cases gx
        have ea := s6 _ _ ea
        have dr : cs.drop (cs.length - (i + 1)) = cs.getD (cs.length - 1 - i) 0 :: cs.drop (cs.length - i) := by
          rw [List.drop_eq_getElem_cons (by omega), show cs.length - (i + 1) + 1 = cs.length - i by omega]
          congr 1
          simp [List.getD, show cs.length - 1 - i < cs.length by omega, show cs.length - (i + 1) = cs.length - 1 - i by omega]
        rw [dr]
        generalize cs.getD (cs.length - 1 - i) 0 = kk at *
        have lrs := tr.len
        rw [List.length_map, List.length_drop] at lrs
        have out : ∀ (y : Addr) (H8 : Hp), Same H7 H8 → H8 y = some (.tup (nW (p ++ [kk]))) → ∃ xs, H8 E = some (.lst xs) ∧ xs.length < sizeLine ∧ ∃ rs : List Addr, Same H4 (upd H8 E (.lst (xs ++ [.ref y]))) ∧ upd H8 E (.lst (xs ++ [.ref y])) E = some (.lst (rs.reverse.map V.ref)) ∧ TW (upd H8 E (.lst (xs ++ [.ref y]))) rs ((kk :: cs.drop (cs.length - i)).map fun k => p ++ [k]) := fun y H8 s8 ey => by
          have eX := s8 _ _ eX
          refine ⟨_, eX, ?_, y :: rs, ?_, ?_, ?_⟩
          · rw [List.length_map, List.length_reverse]
            exact small1000 (by omega)
          · intro b o e
            rw [upd_ne (ne_of_none e hE)]
            exact s8 _ _ (s6 _ _ e)
          · rw [upd_same, List.reverse_cons, List.map_append]
            rfl
          · exact TW.off eX (as := y :: rs) ⟨ey, tr.same s8⟩
        refine ⟨rfl, ?_⟩
        refine ⟨_, rfl, _, rfl, (by show 1 ≤ sizeLine; decide), fun u hu => ?_⟩
        have s8 := same_upd (o := .tup [.int (kk : Int)]) hu
        have eu : upd H7 u (.tup [.int (kk : Int)]) u = some (.tup [.int (kk : Int)]) := upd_same
        generalize upd H7 u (.tup [.int (kk : Int)]) = H8 at *
        have ea := s8 _ _ ea
        refine ⟨a, u, nW p, [.int (kk : Int)], rfl, rfl, SqT.of ea, SqT.of eu, ?_, fun z => ?_, fun _ z => absurd z (List.cons_ne_nil _ _), fun _ _ p hp => ?_⟩
        · rw [nW_len]
          show p.length + 1 ≤ sizeLine
          exact Nat.le_of_lt (small1000 (by omega))
        · refine out u H8 s8 ?_
          rw [nW_snoc, z]
          exact eu
        · refine out p _ (s8.trans (same_upd hp)) ?_
          rw [upd_same, nW_snoc]
      · rintro H6 ⟨rs, s6, eX, tr⟩
        rw [nW_len, Nat.sub_self, List.drop_zero] at tr
        have lrs := tr.len
        rw [List.length_map] at lrs
        have eW := s6 _ _ eW
        have lr := sb.1
        have lr2 : us.length * p.length ≤ 24 * 40 := Nat.mul_le_mul m24 (by omega)
        refine ⟨Wt, E, _, _, rfl, rfl, eW, eX, ?_, ?_⟩
        · rw [List.length_map, List.length_map, List.length_reverse, List.length_reverse]
          exact Nat.le_of_lt (small1000 (by omega))
        refine ⟨_, wst, _, _, _, rs ++ as, (cs.map fun k => p ++ [k]) ++ r, bs, dn, rfl, ?_, ?_, TW.off eW (tr.app (ta.same s6)), an2, sb2, rfl, TW.off eW (td.same s6), vl, rfl⟩
        · intro b o e
          rw [upd_ne (ne_of_none e hW)]
          exact s6 _ _ (s4 _ _ e)
        · rw [upd_same, List.reverse_append, List.map_append]
end
end Lw
end
section
namespace Lw
open PySem L2 Sf PyProof.Rows GenW
section
variable {P : Program} {w : World} {K : PySem.W.Frag} {mg : Str → Option Value} {base : Heap} {f : Addr} {fd : FuncData} {k : Nat} {mk : Prop}
set_option maxHeartbeats 8000000 in
theorem ok_walks (F : Fun K "walks" "walks" sWalks f fd) (T : Bi mg) (hv : mg "reversed" = none) : GFnS P w K mg base (k + 1) mk f fd ["edges", "ways", "first"] spWalks := by
  refine Fun.gen F scWk (fun pl vs H Q h => ?_) (fun cdv A outer s H vs Sx pre Q hr h => ?_)
  · obtain ⟨ed, wa, us, n, L, first, wy, rfl, _⟩ := h
    rfl
  · obtain ⟨ed, wa, us, n, L, first, wy, rfl, eE, m24, wW, wlt, wle, L1, L40, fl, room, q⟩ := h
    refine ⟨_, gbs_cons (gb_plain (PS.up (ps_set (i := 3) scWk.nd rfl (.inl rfl) (pe_callB call_len_seq (by rfl) T.len PySem.boot_len (pa_cons (pv 1) pa_nil)))))
      (gbs_cons (gb_plain (PS.up (ps_set (i := 4) scWk.nd rfl (.inl rfl) (pe_ifExp (pt_cmpR op_in_seq (pv 2) (pe_ix ix_list (pe_ix ix_list (pv 1) (pe_op op_subN (pv 3) pe_int) (fun _ _ => rfl)) (pe_ix ix_tup (pe_ix ix_list (pv 0) (pv 2) (fun _ _ => rfl)) pe_int (fun _ _ => rfl)) (fun _ _ => rfl)) (by rfl))
        (pe_lst (pa_cons (pe_tup (pa_cons (pv 2) pa_nil)) pa_nil)) (pe_lst pa_nil)))))
      (gbs_one (gb_while (PT.up (pt_truth (pv 4) (fun _ => rfl)))
        (gbs_cons (gb_plain (PS.up (ps_set (i := 5) scWk.nd rfl (.inr rfl) (pe_bm0 PySem.F.plainAttrs_list PySem.F.slot_list_pop PySem.F.type_list_pop mt_pop (pv 4)))))
        (gbs_one (gb_if (PT.up (pt_cmpR op_eq (pe_callB call_len_seq (by rfl) T.len PySem.boot_len (pa_cons (pv 5) pa_nil)) (pv 3) (nomark _)))
          (gbs_one (gb_yield (PE.up (pv 5))))
          (gbs_cons (gb_plain (PS.up (ps_set (i := 6) scWk.nd rfl (.inl rfl) (pe_ix ix_list (pe_ix ix_list (pv 1) (pe_op op_subN (pe_op op_subN (pv 3) (pe_callB call_len_seq (by rfl) T.len PySem.boot_len (pa_cons (pv 5) pa_nil))) pe_int) (fun _ _ => rfl)) (pe_ix ix_tup (pe_ix ix_list (pv 0) (pe_ix ix_tup (pv 5) (pe_un un_neg pe_int) (fun _ _ => rfl)) (fun _ _ => rfl)) pe_int (fun _ _ => rfl)) (fun _ _ => rfl)))))
          (gbs_one (gb_plain (PS.up (ps_expr (pe_bm PySem.F.plainAttrs_list PySem.F.slot_list_extend PySem.F.type_list_extend mt_extend (pv 4) (pa_cons
            (pe_lc (own := [("number", 7)]) (g := gName 7) (tt := tYes) (te := tOp (rCatA K) (tVar 5) (tTup (tCons (tVar 7) tNil))) rfl scWk.nd (RT.pi_revA (by rfl) hv (pv 6)) (blkOk_by (N := NWk) (sc := defScope sWalks) (by decide +kernel))
              (fun _ _ _ _ _ => by exact pg_name (i := 7) scWk.nd rfl (Or.inl rfl)) (fun _ _ _ _ _ => pts_nil)
              (fun _ _ _ _ _ => by exact pe_op op_catA (pv 5) (pe_tup (pa_cons (pv 7) pa_nil)))) pa_nil))))))))))))), ?_⟩
    have wW' := wW
    obtain ⟨rs, r1, r2, r3⟩ := wW'.ex
    have r4 : (((rs.map V.ref).length : Nat) : Int) = (L : Int) := by rw [List.length_map, r2]
    refine ⟨_, rfl, wa, _, rfl, .inl (SqL.of r1), ?_⟩
    rw [r4]
    obtain ⟨t, at2, et, hs, ht⟩ := eE.read fl
    obtain ⟨xs, a1, ys1, b1, w1, at1, w2, at4, w3⟩ := wW.read (r := L - 1) (by omega) hs
    refine ⟨_, rfl, _, rfl, _, rfl, L, 1, rfl, rfl, L1, wa, xs, _, _, rfl, rfl, SqL.of w1, at1, _, rfl, _, rfl, ed, _, _, _, rfl, rfl, SqL.of eE.ls, at2, t, _, 0, _, rfl, rfl, SqT.of et, rfl, a1, ys1, _, _, rfl, rfl, SqL.of w2, at4, b1, _, rfl, .inl (SqL.of w3), rfl, flat_nW _, _, rfl, ?_⟩
    rw [in_nW]
    by_cases hm : first ∈ wy (L - 1) (srcE us first)
    · refine if_t (by rw [decide_eq_true hm]; rfl) ?_
      refine ⟨_, rfl, (by show 1 ≤ sizeLine; decide), fun u hu => ?_⟩
      have s1 := same_upd (o := .tup [.int (first : Int)]) hu
      have eu : upd H u (.tup [.int (first : Int)]) u = some (.tup (nW [first])) := upd_same
      have hW0 : ∀ Wt, upd H u (.tup [.int (first : Int)]) Wt = none → H Wt = none := fun Wt h => by
        by_cases e : Wt = u
        · rw [e]; exact hu
        · rw [upd_ne e] at h; exact h
      generalize upd H u (.tup [.int (first : Int)]) = H1 at *
      refine ⟨(by show 1 ≤ sizeLine; decide), fun Wt hW => ?_⟩
      have uW : u ≠ Wt := ne_of_none eu hW
      refine wk_while (as := [u]) (st := [[first]]) eE m24 wW wlt wle L40 room q (s1.trans (same_upd hW)) (hW0 _ hW) upd_same ⟨by rw [upd_ne uW]; exact eu, True.intro⟩ (fun z hz => ?_) ⟨Nat.zero_le _, True.intro⟩ ?_
      · rw [List.mem_singleton.mp hz]
        exact ⟨by simp, L1, fun x hx => by rw [List.mem_singleton.mp hx]; exact fl⟩
      · unfold walksL
        rw [if_pos hm]
    · refine if_f (by rw [decide_eq_false hm]; rfl) ?_
      refine ⟨Nat.zero_le _, fun Wt hW => ?_⟩
      refine wk_while (as := []) (st := []) eE m24 wW wlt wle L40 room q (same_upd hW) hW upd_same True.intro (fun z hz => absurd hz List.not_mem_nil) True.intro ?_
      unfold walksL
      rw [if_neg hm]
      rfl
end
end Lw
end
section
namespace Lw
open PySem PySem.Spec PyProof.Rows L2
structure Prp (P : Program) (w : World) (K : PySem.W.Frag) (mg : Str → Option Value) (base : Heap) (k : Nat) (C : Addr) (f : Str) (sp : Sp) : Prop where
  ex : ∃ (p g : Addr) (fd : FuncData), Cls K C ∧ PropOf K C f p g ∧ FnOk P w K mg base CX0 k g fd ["self"] sp ∧ Binds K fd ["self"] []
theorem pe_pr {X : Cx} {k j : Nat} {C : Addr} {f : Str} {sp : Sp} {e : Expr} {ta : TE} {pos : Pos} (h : Prp X.prog X.w X.K X.mg X.base k C f sp) (hr : Room j X.A) (hk : k + 1 ≤ j) (he : PE X e ta) (hab : attributeBase e f X.env (eval e X.env) = eval e X.env := by rfl) : PE X (.Attribute e f pos) (tProp C sp [] E0 ta) := by
  obtain ⟨p, g, fd, c, hp, F, b⟩ := h.ex
  exact pe_prop he c hp F (hr.mono hk) b .nil pass0 hab
end Lw
end
section
namespace Lw
open PySem L2 Sf PyProof.Rows GenW
def spLenIn : Sp := fun vs H Q _ => ∃ e lim : Int, vs = [.int e, .int lim] ∧ 1 ≤ e ∧ e ≤ lim ∧ Q .non H
def hopF (us : Es) (ends : List Nat) : Nat → Nat → Bool
  | 0, s => decide (s ∈ ends)
  | r + 1, s => !((List.range us.length).filter fun e => srcE us e == s && hopF us ends r (tgtE us e)).isEmpty
def wyF (us : Es) (ends : List Nat) (r s : Nat) : List Nat := (List.range us.length).filter fun e => srcE us e == s && hopF us ends r (tgtE us e)
theorem wyF_lt {us : Es} {ends : List Nat} {r s x : Nat} (h : x ∈ wyF us ends r s) : x < us.length := List.mem_range.mp (List.mem_filter.mp h).1
theorem wyF_len (us : Es) (ends : List Nat) (r s : Nat) : (wyF us ends r s).length ≤ us.length := by
  have := List.length_filter_le (fun e => srcE us e == s && hopF us ends r (tgtE us e)) (List.range us.length)
  unfold wyF
  simpa using this
structure GrN (C : Addr) (H : Hp) (g : Addr) (n : Nat) (us : Es) : Prop where
  gr : GraphAt C H g (n : Int) us
  n1 : 1 ≤ n
  n8 : n ≤ 8
  m24 : us.length ≤ 24
  rg : ∀ e ∈ us, 0 ≤ e.2.1 ∧ e.2.1 < n ∧ 0 ≤ e.2.2 ∧ e.2.2 < n
theorem GrN.same {C : Addr} {H H' : Hp} {g : Addr} {n : Nat} {us : Es} (h : GrN C H g n us) (s : Same H H') : GrN C H' g n us := by
  obtain ⟨⟨⟨dx, t, h1, h2⟩, ed⟩, a, b, c, d⟩ := h
  exact ⟨⟨⟨dx, t, s _ _ h1, s _ _ h2⟩, fun e he => s _ _ (ed e he)⟩, a, b, c, d⟩
structure WaysN (H0 H : Hp) (wa : Addr) (L n : Nat) (wy : Nat → Nat → List Nat) : Prop where
  ex : H0 wa = none ∧ ∃ rs : List Addr, H wa = some (.lst (rs.map V.ref)) ∧ rs.length = L ∧ ∀ (r : Nat) (a : Addr), rs[r]? = some a → H0 a = none ∧ ∃ qs : List Addr, H a = some (.lst (qs.map V.ref)) ∧ qs.length = n ∧ ∀ (s : Nat) (b : Addr), qs[s]? = some b → H0 b = none ∧ H b = some (.lst (nW (wy r s)))
theorem WaysN.off {H0 H : Hp} {wa W : Addr} {o o' : HO} {L n : Nat} {wy : Nat → Nat → List Nat} (h : WaysN H0 H wa L n wy) (hW : H0 W = some o') : WaysAt (upd H W o) wa L n wy := by
  have ne : ∀ {b}, H0 b = none → b ≠ W := fun hb => (ne_of_none hW hb).symm
  obtain ⟨nw, rs, h1, h2, h3⟩ := h.ex
  refine ⟨rs, by rw [upd_ne (ne nw)]; exact h1, h2, fun r a e => ?_⟩
  obtain ⟨na, qs, g1, g2, g3⟩ := h3 r a e
  refine ⟨qs, by rw [upd_ne (ne na)]; exact g1, g2, fun s b eb => ?_⟩
  obtain ⟨nb, g4⟩ := g3 s b eb
  rw [upd_ne (ne nb)]; exact g4
def spWaysTo (C : Addr) : Sp := fun vs H Q _ => ∃ (g en : Addr) (n : Nat) (us : Es) (L : Nat) (ends : List Nat), vs = [.ref g, .int (L : Int), .ref en] ∧ GrN C H g n us ∧ H en = some (.lst (nW ends)) ∧ 1 ≤ L ∧ L ≤ 40 ∧ ∀ wa H', Same H H' → WaysN H H' wa L n (wyF us ends) → Q (.ref wa) H'
def CalG (P : Program) (w : World) (K : PySem.W.Frag) (mg : Str → Option Value) (base : Heap) (k : Nat) (mk : Prop) (name : Str) (sp : SpGS) : Prop := ∃ f fd ps, GFnS P w K mg base k mk f fd ps sp ∧ mg name = some (.ref f) ∧ PySem.W.keepIn K (.ref f) = true ∧ Binds K fd ps []
section
variable {J : It} {n : Nat} {G : Hp → Prop} {Y : Nat → Hp → V → Hp → Prop}
theorem gfor_it (wk : Walk J n G Y) {g : TG} {tb : TGn} {D : GEnds} {ys : List V} {σ : L2.St} {H : Hp} (Pv : Nat → List V → L2.St → Hp → Prop) (h0 : Pv 0 ys σ H) (hG : ∀ i ys σ H, i ≤ n → Pv i ys σ H → G H)
    (hs : ∀ i x ys σ H H', i < n → Pv i ys σ H → Y i H x H' → g x σ H' fun σ2 H2 => tb { D with nx := Pv (i + 1), ct := Pv (i + 1), bk := D.nx } ys σ2 H2) (hd : ∀ ys σ H, Pv n ys σ H → D.nx ys σ H) :
    ∃ W : Nat → Nat → List V → L2.St → Hp → Prop, (∃ m, W 0 m ys σ H) ∧ ∀ i m ys σ H, W i m ys σ H →
      (J.stop i H ∧ D.nx ys σ H) ∨ (J.go i H ∧ ∃ N : List V → L2.St → Hp → Prop, (∀ ys' σ' H', N ys' σ' H' → ∃ m', m' < m ∧ W (i + 1) m' ys' σ' H') ∧ ∀ x H', J.yld i H x H' → g x σ H' fun σ2 H2 => tb { D with nx := N, ct := N, bk := D.nx } ys σ2 H2) := by
  refine ⟨fun i m ys σ H => m + i = n ∧ Pv i ys σ H, ⟨n, rfl, h0⟩, fun i m ys σ H ⟨hm, p⟩ => ?_⟩
  have q := hG i ys σ H (by omega) p
  rcases Nat.lt_or_ge i n with hlt | hge
  · exact .inr ⟨wk.goes i H hlt q, Pv (i + 1), fun ys' σ' H' p' => ⟨m - 1, by omega, by omega, p'⟩, fun x H' y => hs i x ys σ H H' hlt p (wk.yields i H x H' hlt q y)⟩
  · obtain rfl : i = n := by omega
    exact .inl ⟨wk.stops H q, hd ys σ H p⟩
end
end Lw
end
section
namespace Lw
open PySem L2
abbrev NWt : List Str := ["graph", "length", "ends", "edges", "leaving", "hopeful", "ways", "more", "state", "numbers", "number"]
abbrev scWt1 : Scope := { kind := .function, names := [(".0", .local), ("numbers", .local), ("edges", .cell), ("hopeful", .cell)], isGenerator := false, isCoroutine := false }
def lvF (us : Es) (s : Nat) : List Nat := (List.range us.length).filter fun e => srcE us e == s
def spLv (C : Addr) : Sp := fun vs H Q _ => ∃ (g : Addr) (n : Nat) (us : Es) (i : Nat), vs = [.ref g, .int (i : Int)] ∧ GrN C H g n us ∧ i < n ∧ ∀ p H', Same H H' → H p = none → H' p = some (.lst (nW (lvF us i))) → Q (.ref p) H'
abbrev tHop (K : PySem.W.Frag) : TT := tB (tOp (rIxL K) (tVar 5) (tOp (rIxT K) (tOp (rIxL K) (tVar 3) (tVar 10)) (tC (.int 1))))
abbrev tRowW (K : PySem.W.Frag) : TE := tLc (iSeqA K (tVar 9)) (gName 10) (tHop K) (tVar 10) [10]
abbrev tGt0 (K : PySem.W.Frag) (i : Nat) : TE := tOp (rI0 fun i j => .bl (decide (j < i))) (tCB (fun xs H Q => ∃ (p : Addr) (ys : List V), xs = [V.ref p] ∧ (SqL K H p ys ∨ SqT K H p ys) ∧ Q (V.int ys.length) H) (tCons (tVar i) tNil)) (tC (.int 0))
theorem wyF_lv (us : Es) (ends : List Nat) (r s : Nat) : (lvF us s).filter (fun e => hopF us ends r (tgtE us e)) = wyF us ends r s := by
  unfold lvF wyF
  rw [List.filter_filter]
  congr 1
  funext e
  rw [Bool.and_comm]
theorem hopF_succ (us : Es) (ends : List Nat) (r s : Nat) : hopF us ends (r + 1) s = !(wyF us ends r s).isEmpty := rfl
theorem lvF_lt {us : Es} {s x : Nat} (h : x ∈ lvF us s) : x < us.length := List.mem_range.mp (List.mem_filter.mp h).1
theorem lvF_len (us : Es) (s : Nat) : (lvF us s).length ≤ us.length := by
  have := List.length_filter_le (fun e => srcE us e == s) (List.range us.length)
  unfold lvF
  simpa using this
theorem gt0_len {α : Type} (xs : List α) : decide ((0 : Int) < (xs.length : Int)) = !xs.isEmpty := by
  cases xs with
  | nil => rfl
  | cons a r =>
    rw [List.length_cons]
    exact decide_eq_true (by omega)
section
variable {P : Program} {w : World} {K : PySem.W.Frag} {mg : Str → Option Value} {base : Heap} {f : Addr} {fd : FuncData} {k : Nat} {C : Addr}
theorem scWt : FnScope NWt ["graph", "length", "ends"] (defScope sWaysTo) := ⟨rfl, rfl, rfl, by decide +kernel, rfl, by decide +kernel, by decide +kernel⟩
set_option maxHeartbeats 8000000 in
theorem ok_waysTo (F : Fun K "ways_to" "ways_to" sWaysTo f fd) (T : Bi mg) (mE : C8.Met P w K mg base 1 C "edges" (spEdges C) []) (pS : Prp P w K mg base 1 C "states" (spStates C)) (mL : C8.Met P w K mg base 2 C "leaving" (spLv C) []) : FnOk P w K mg base CX0 (k + 3) f fd ["graph", "length", "ends"] (spWaysTo C) := by
  refine F.ok scWt (fun vs H Q E h => ?_) (fun cdv A outer s H vs Q E hr h => ?_)
  · obtain ⟨g, en, n, us, L, ends, rfl, _⟩ := h
    rfl
  · obtain ⟨g, en, n, us, L, ends, rfl, G, eN, L1, L40, q⟩ := h
    refine ⟨_, pss_cons (ps_set (i := 3) scWt.nd rfl (.inr rfl) (C8.pe_mt0 mE hr (by omega) (pv 0)))
      (pss_cons (ps_setLc (i := 4) (own := [("state", 8)]) (g := gName 8) (tt := tYes) (te := tMeth C "leaving" (spLv C) [] C8.E0 (tVar 0) (tCons (tVar 8) tNil)) rfl scWt.nd rfl rfl (sw_true rfl rfl rfl (by decide +kernel)) (pi_range1 (by rfl) T.range (pa_cons (pe_pr pS hr (by omega) (pv 0)) pa_nil)) (blkOk_by (N := NWt) (sc := defScope sWaysTo) (by decide +kernel))
        (fun _ _ _ _ _ => by exact pg_name (i := 8) scWt.nd rfl (Or.inl rfl)) (fun _ _ _ _ _ => pts_nil) (fun _ _ _ _ _ => by exact C8.pe_mt mL hr (by omega) (pv 0) (pa_cons (pv 8) pa_nil)))
      (pss_cons (ps_set (i := 5) scWt.nd rfl (.inr rfl) (pe_lc (own := [("state", 8)]) (g := gName 8) (tt := tYes) (te := tOp (rIn K false) (tVar 8) (tVar 2)) rfl scWt.nd (pi_range1 (by rfl) T.range (pa_cons (pe_pr pS hr (by omega) (pv 0)) pa_nil)) (blkOk_by (N := NWt) (sc := defScope sWaysTo) (by decide +kernel))
        (fun _ _ _ _ _ => by exact pg_name (i := 8) scWt.nd rfl (Or.inl rfl)) (fun _ _ _ _ _ => pts_nil) (fun _ _ _ _ _ => by exact pe_cmpR op_in_seq (pv 8) (pv 2) (by rfl))))
      (pss_cons (ps_set (i := 6) scWt.nd rfl (.inl rfl) (pe_lst pa_nil))
      (pss_cons (ps_for PassesOwn.never rfl (pi_range1 (by rfl) T.range (pa_cons (pv 1) pa_nil)) (pg_name (i := 7) scWt.nd rfl (.inl rfl))
        (pss_cons (ps_expr (pe_bm PySem.F.plainAttrs_list PySem.F.slot_list_append PySem.F.type_list_append mt_append (pv 6) (pa_cons
          (pe_lc (own := [("numbers", 9)]) (g := gName 9) (tt := tYes) (te := tRowW K) rfl scWt.nd (pi_seqA (pv 4)) (blkOk_by (N := NWt) (sc := defScope sWaysTo) (by decide +kernel))
            (fun _ _ _ _ _ => by exact pg_name (i := 9) scWt.nd rfl (Or.inl rfl)) (fun _ _ _ _ _ => pts_nil)
            (fun _ _ _ _ _ => by exact (pe_lc (own := [("number", 10)]) (g := gName 10) (tt := tHop K) (te := tVar 10) rfl scWt.nd (pi_seqA (pv 9)) (blkOk_by (N := NWt) (sc := scWt1) (by decide +kernel))
              (fun _ _ _ _ _ => by exact pg_name (i := 10) scWt.nd rfl (Or.inl rfl)) (fun _ _ _ _ _ => by exact pts_one (pt_val (pe_ix ix_list (pv 5) (pe_ix ix_tup (pe_ix ix_list (pv 3) (pv 10) (fun _ _ => rfl)) pe_int (fun _ _ => rfl)) (fun _ _ => rfl))))
              (fun _ _ _ _ _ => by exact pv 10)))) pa_nil)))
        (pss_one (ps_set (i := 5) scWt.nd rfl (.inr rfl) (pe_lc (own := [("numbers", 9)]) (g := gName 9) (tt := tYes) (te := tGt0 K 9) rfl scWt.nd (pi_seqA (pe_ix ix_list (pv 6) (pv 7) (fun _ _ => rfl))) (blkOk_by (N := NWt) (sc := defScope sWaysTo) (by decide +kernel))
          (fun _ _ _ _ _ => by exact pg_name (i := 9) scWt.nd rfl (Or.inl rfl)) (fun _ _ _ _ _ => pts_nil) (fun _ _ _ _ _ => by exact pe_cmpR op_gt (pe_callB call_len_seq (by rfl) T.len PySem.boot_len (pa_cons (pv 9) pa_nil)) pe_int (nomark _)))))))
      (pss_one (ps_ret (pv 6))))))), ?_⟩
    obtain ⟨⟨dx, t0, h1, h2⟩, ed⟩ := id G.gr
    have n8 := G.n8
    have m24 := G.m24
    refine ⟨_, rfl, g, dx, _, rfl, h1, look_no _ _ (by decide +kernel) (by decide +kernel), g, n, us, rfl, G.gr, fun p hp => ?_⟩
    have s1 := same_upd (o := .lst (vsOf us)) hp
    have e1 : upd H p (.lst (vsOf us)) p = some (.lst (vsOf us)) := upd_same
    generalize upd H p (.lst (vsOf us)) = H1 at *
    have G1 := G.same s1
    have h1 := s1 _ _ h1
    have eN := s1 _ _ eN
    refine ⟨_, rfl, g, dx, _, rfl, h1, g, n, us, rfl, G1.gr, _, rfl, by omega, by omega, fun LV hLV => ?_⟩
    refine lc_it (walk_range (lo := 0) (n := ((n : Nat) : Int).toNat)) (fun i H' => ∃ qs : List Addr, Same H1 H' ∧ H' LV = some (.lst (qs.map V.ref)) ∧ qs.length = i ∧ ∀ (s : Nat) (b : Addr), qs[s]? = some b → b ≠ LV ∧ H' b = some (.lst (nW (lvF us s)))) ⟨[], same_upd hLV, upd_same, rfl, fun s b e => by simp at e⟩ (fun _ _ _ _ => True.intro) ?_ ?_
    · rintro i x H2 H3 hi ⟨qs, s2, e2, ql, qv⟩ ⟨rfl, hx⟩
      have hx : x = .int (i : Int) := by
        rw [hx]
        show V.int (0 + (i : Int)) = _
        rw [Int.zero_add]
      subst hx
      have hi : i < n := by omega
      refine ⟨rfl, ?_⟩
      refine ⟨_, rfl, g, dx, _, rfl, s2 _ _ h1, look_no _ _ (by decide +kernel) (by decide +kernel), _, rfl, g, n, us, i, rfl, G1.same s2, hi, fun b H4 s4 nb eb => ?_⟩
      have bL : b ≠ LV := (ne_of_none e2 nb).symm
      refine ⟨_, s4 _ _ e2, by rw [List.length_map, ql]; exact small1000 (by omega), qs ++ [b], fun c o e => ?_, ?_, by rw [List.length_append, ql]; rfl, fun s c e => ?_⟩
      · rw [upd_ne (ne_of_none e hLV)]
        exact s4 _ _ (s2 _ _ e)
      · rw [upd_same, List.map_append]; rfl
      · by_cases hs : s < qs.length
        · rw [List.getElem?_append_left hs] at e
          obtain ⟨v1, v2⟩ := qv s c e
          exact ⟨v1, by rw [upd_ne v1]; exact s4 _ _ v2⟩
        · rw [List.getElem?_append_right (by omega)] at e
          have h0 : s = qs.length := by
            have := (List.getElem?_eq_some_iff.mp e).1
            simp at this
            omega
          subst h0
          rw [Nat.sub_self] at e
          cases e
          exact ⟨bL, by rw [upd_ne bL, ql]; exact eb⟩
    rintro H2 ⟨lq, s2, eLV, lql, lqv⟩
    rw [Int.toNat_natCast] at lql
    refine ⟨_, rfl, g, dx, _, rfl, s2 _ _ h1, g, n, us, rfl, (G1.same s2).gr, _, rfl, by omega, by omega, fun HP hHP => ?_⟩
    refine lc_it (walk_range (lo := 0) (n := ((n : Nat) : Int).toNat)) (fun i H' => Same H2 H' ∧ H' HP = some (.lst ((List.range i).map fun s => V.bl (hopF us ends 0 s)))) ⟨same_upd hHP, upd_same⟩ (fun _ _ _ _ => True.intro) ?_ ?_
    · rintro i x H3 H4 hi ⟨s3, e3⟩ ⟨rfl, hx⟩
      have hx : x = .int (i : Int) := by
        rw [hx]
        show V.int (0 + (i : Int)) = _
        rw [Int.zero_add]
      subst hx
      have hi : i < n := by omega
      refine ⟨rfl, ?_⟩
      refine ⟨_, rfl, _, rfl, en, _, rfl, .inl (SqL.of (s3 _ _ (s2 _ _ eN))), rfl, flat_nW _, _, e3, ?_, ?_, ?_⟩
      · rw [List.length_map, List.length_range]
        exact small1000 (by omega)
      · exact fun c o e => by
          rw [upd_ne (ne_of_none e hHP)]
          exact s3 _ _ e
      · rw [upd_same, List.range_succ, List.map_append]
        show some (HO.lst (_ ++ [V.bl (inV (.int (i : Int)) (nW ends))])) = _
        rw [in_nW]
        rfl
    rintro H3 ⟨s3, eHP⟩
    rw [Int.toNat_natCast] at eHP
    refine ⟨Nat.zero_le _, fun WA hWA => ?_⟩
    have hpW : HP ≠ WA := ne_of_none eHP hWA
    refine ⟨_, rfl, _, rfl, by omega, by omega, ?_⟩
    rw [Int.toNat_natCast]
    refine for_it walk_range (fun i σ H' => ∃ (v7 : Option V) (HQ : Addr) (rs : List Addr), σ = [some (.ref g), some (.int (L : Int)), some (.ref en), some (.ref p), some (.ref LV), some (.ref HQ), some (.ref WA), v7, none, none, none] ∧ Same H3 H' ∧ H' WA = some (.lst (rs.map V.ref)) ∧ rs.length = i ∧
      (∀ (r : Nat) (a : Addr), rs[r]? = some a → (a ≠ WA ∧ H a = none) ∧ ∃ qs : List Addr, H' a = some (.lst (qs.map V.ref)) ∧ qs.length = n ∧ ∀ (s : Nat) (b : Addr), qs[s]? = some b → (b ≠ WA ∧ H b = none) ∧ H' b = some (.lst (nW (wyF us ends r s)))) ∧ HQ ≠ WA ∧ H' HQ = some (.lst ((List.range n).map fun s => V.bl (hopF us ends i s))))
      ⟨none, HP, [], rfl, same_upd hWA, upd_same, rfl, fun r a e => by simp at e, hpW, by rw [upd_ne hpW]; exact eHP⟩ (fun _ _ _ _ _ => True.intro) ?_ ?_
    · rintro i x σ H4 H5 hi ⟨v7, HQ, rs, rfl, s4, eW, rl, rv, hqW, eHQ⟩ ⟨rfl, hx⟩
      have hx : x = .int (i : Int) := by
        rw [hx]
        show V.int (0 + (i : Int)) = _
        rw [Int.zero_add]
      subst hx
      have sH := s1.trans (s2.trans (s3.trans s4))
      have eP := s4 _ _ (s3 _ _ (s2 _ _ e1))
      have eLV := s4 _ _ (s3 _ _ eLV)
      have lqv : ∀ (s : Nat) (b : Addr), lq[s]? = some b → H5 b = some (.lst (nW (lvF us s))) := fun s b e => s4 _ _ (s3 _ _ (lqv s b e).2)
      have eE : EdL H5 p n us := ⟨eP, (G.same sH).gr.ed, G.rg⟩
      refine ⟨_, rfl, .inl ⟨rfl, _, SqL.of eW⟩, _, rfl, LV, _, SqL, rfl, .inl rfl, SqL.of eLV, fun J w D hD => ?_⟩
      have hDW : D ≠ WA := (ne_of_none eW hD).symm
      refine lc_it w (fun j H' => ∃ qs : List Addr, Same H5 H' ∧ H' D = some (.lst (qs.map V.ref)) ∧ qs.length = j ∧ ∀ (s : Nat) (b : Addr), qs[s]? = some b → (b ≠ WA ∧ H b = none) ∧ b ≠ D ∧ H' b = some (.lst (nW (wyF us ends i s)))) ⟨[], same_upd hD, upd_same, rfl, fun s b e => by simp at e⟩ (fun j H' _ pp => by obtain ⟨_, z, _⟩ := pp; exact SqL.of (z _ _ eLV)) ?_ ?_
      · rintro j x H6 H7 hj ⟨qs, s6, eD, ql, qv⟩ ⟨rfl, gx⟩
        rw [List.length_map, lql] at hj
        obtain ⟨b0, hb0⟩ : ∃ b, lq[j]? = some b := ⟨_, List.getElem?_eq_getElem (by omega)⟩
        rw [List.getElem?_map, hb0] at gx
        cases gx
        have eb0 := s6 _ _ (lqv j b0 hb0)
        refine ⟨rfl, ?_⟩
        refine ⟨_, rfl, b0, _, SqL, rfl, .inl rfl, SqL.of eb0, fun J2 w2 R hR => ?_⟩
        have hRD : R ≠ D := (ne_of_none eD hR).symm
        have hRW : R ≠ WA := (ne_of_none (s6 _ _ eW) hR).symm
        refine lc_it w2 (fun k H' => Same H7 H' ∧ H' R = some (.lst (nW (((lvF us j).take k).filter fun e => hopF us ends i (tgtE us e))))) ⟨same_upd hR, by rw [List.take_zero]; exact upd_same⟩ (fun k H' _ pp => SqL.of (pp.1 _ _ eb0)) ?_ ?_
        · rintro k x H8 H9 hk ⟨s8, eR⟩ ⟨rfl, gx⟩
          rw [nW_len] at hk
          rw [nW_at hk] at gx
          cases gx
          have tk : (lvF us j).take (k + 1) = (lvF us j).take k ++ [(lvF us j).getD k 0] := by
            rw [List.take_add_one, List.getElem?_eq_getElem hk]
            simp [List.getD, hk]
          have em : (lvF us j).getD k 0 < us.length := by
            have : (lvF us j).getD k 0 ∈ lvF us j := by simp [List.getD, hk]
            exact lvF_lt this
          have bnd : (((lvF us j).take k).filter fun e => hopF us ends i (tgtE us e)).length ≤ 24 := by
            have z1 := List.length_filter_le (fun e => hopF us ends i (tgtE us e)) ((lvF us j).take k)
            have z2 := lvF_len us j
            rw [List.length_take] at z1
            omega
          rw [tk]
          generalize (lvF us j).getD k 0 = e0 at *
          have ss := s6.trans s8
          obtain ⟨t, at2, et, hs, ht⟩ := (eE.same ss).read em
          refine ⟨rfl, ?_⟩
          refine ⟨_, rfl, _, rfl, _, rfl, p, _, _, _, rfl, rfl, SqL.of (ss _ _ eP), at2, t, _, 1, _, rfl, rfl, SqT.of et, rfl, HQ, _, _, .bl (hopF us ends i (tgtE us e0)), rfl, rfl, SqL.of (ss _ _ eHQ), atI_nat (by rw [List.getElem?_map, List.getElem?_range ht]; rfl), _, rfl, ?_⟩
          by_cases hp : hopF us ends i (tgtE us e0) = true
          · refine if_t hp ⟨_, rfl, _, eR, ?_, ?_, ?_⟩
            · rw [nW_len]; exact small1000 (by omega)
            · exact fun c o e => by
                rw [upd_ne (ne_of_none e hR)]
                exact s8 _ _ e
            · rw [upd_same, List.filter_append, show [e0].filter (fun e => hopF us ends i (tgtE us e)) = [e0] by simp [hp], nW_snoc]
          · refine if_f (by simpa using hp) ⟨s8, ?_⟩
            rw [List.filter_append, show [e0].filter (fun e => hopF us ends i (tgtE us e)) = [] by simp [hp], List.append_nil]
            exact eR
        · rintro H8 ⟨s8, eR⟩
          rw [nW_len, List.take_length, wyF_lv] at eR
          refine ⟨_, s8 _ _ eD, by rw [List.length_map, ql]; exact small1000 (by omega), qs ++ [R], fun c o e => ?_, ?_, by rw [List.length_append, ql]; rfl, fun s c e => ?_⟩
          · rw [upd_ne (ne_of_none e hD)]
            exact s8 _ _ (s6 _ _ e)
          · rw [upd_same, List.map_append]; rfl
          · by_cases hs : s < qs.length
            · rw [List.getElem?_append_left hs] at e
              obtain ⟨y1, y2, y3⟩ := qv s c e
              exact ⟨y1, y2, by rw [upd_ne y2]; exact s8 _ _ y3⟩
            · rw [List.getElem?_append_right (by omega)] at e
              have h0 : s = qs.length := by
                have := (List.getElem?_eq_some_iff.mp e).1
                simp at this
                omega
              subst h0
              rw [Nat.sub_self] at e
              cases e
              exact ⟨⟨hRW, (sH.trans s6).free hR⟩, hRD, by rw [upd_ne hRD, ql]; exact eR⟩
      · rintro H6 ⟨qs, s6, eD, ql, qv⟩
        rw [List.length_map, lql] at ql
        refine ⟨WA, _, .ref D, rfl, rfl, s6 _ _ eW, by rw [List.length_map, rl]; exact small1000 (by omega), ?_⟩
        have eD : upd H6 WA (.lst (rs.map V.ref ++ [.ref D])) D = some (.lst (qs.map V.ref)) := by rw [upd_ne hDW]; exact eD
        have qv : ∀ (s : Nat) (b : Addr), qs[s]? = some b → (b ≠ WA ∧ H b = none) ∧ upd H6 WA (.lst (rs.map V.ref ++ [.ref D])) b = some (.lst (nW (wyF us ends i s))) := fun s b e => by
          obtain ⟨y1, _, y3⟩ := qv s b e
          exact ⟨y1, by rw [upd_ne y1.1]; exact y3⟩
        have rv : ∀ (r : Nat) (a : Addr), rs[r]? = some a → (a ≠ WA ∧ H a = none) ∧ ∃ qs : List Addr, upd H6 WA (.lst (rs.map V.ref ++ [.ref D])) a = some (.lst (qs.map V.ref)) ∧ qs.length = n ∧ ∀ (s : Nat) (b : Addr), qs[s]? = some b → (b ≠ WA ∧ H b = none) ∧ upd H6 WA (.lst (rs.map V.ref ++ [.ref D])) b = some (.lst (nW (wyF us ends r s))) := fun r a e => by
          obtain ⟨y1, qs', y2, y3, y4⟩ := rv r a e
          refine ⟨y1, qs', by rw [upd_ne y1.1]; exact s6 _ _ y2, y3, fun s b eb => ?_⟩
          obtain ⟨y5, y6⟩ := y4 s b eb
          exact ⟨y5, by rw [upd_ne y5.1]; exact s6 _ _ y6⟩
        have s7 : Same H3 (upd H6 WA (.lst (rs.map V.ref ++ [.ref D]))) := fun c o e => by
          rw [upd_ne (ne_of_none e hWA)]
          exact s6 _ _ (s4 _ _ e)
        have eW : upd H6 WA (.lst (rs.map V.ref ++ [.ref D])) WA = some (.lst ((rs ++ [D]).map V.ref)) := by rw [upd_same, List.map_append]; rfl
        generalize upd H6 WA (.lst (rs.map V.ref ++ [.ref D])) = H7 at *
        have atD : (rs ++ [D])[i]? = some D := by rw [← rl]; exact List.getElem?_concat_length
        refine ⟨_, rfl, _, rfl, WA, _, _, .ref D, rfl, rfl, SqL.of eW, atI_nat (by rw [List.getElem?_map, atD]; rfl), D, _, SqL, rfl, .inl rfl, SqL.of eD, fun J w HN hHN => ?_⟩
        have hnW : HN ≠ WA := (ne_of_none eW hHN).symm
        refine lc_it w (fun j H' => Same H7 H' ∧ H' HN = some (.lst ((List.range j).map fun s => V.bl (hopF us ends (i + 1) s)))) ⟨same_upd hHN, upd_same⟩ (fun j H' _ pp => SqL.of (pp.1 _ _ eD)) ?_ ?_
        · rintro j x H8 H9 hj ⟨s8, e8⟩ ⟨rfl, gx⟩
          rw [List.length_map, ql] at hj
          obtain ⟨b0, hb0⟩ : ∃ b, qs[j]? = some b := ⟨_, List.getElem?_eq_getElem (by omega)⟩
          rw [List.getElem?_map, hb0] at gx
          cases gx
          have eb0 := s8 _ _ (qv j b0 hb0).2
          refine ⟨rfl, ?_⟩
          refine ⟨_, rfl, b0, _, rfl, .inl (SqL.of eb0), _, _, rfl, rfl, _, e8, ?_, ?_, ?_⟩
          · rw [List.length_map, List.length_range]
            exact small1000 (by omega)
          · exact fun c o e => by
              rw [upd_ne (ne_of_none e hHN)]
              exact s8 _ _ e
          · rw [upd_same, List.range_succ, List.map_append, nW_len]
            show some (HO.lst (_ ++ [V.bl (decide ((0 : Int) < ((wyF us ends i j).length : Int)))])) = _
            rw [gt0_len]
            rfl
        · rintro H8 ⟨s8, e8⟩
          rw [List.length_map, ql] at e8
          refine ⟨_, HN, rs ++ [D], rfl, s7.trans s8, s8 _ _ eW, by rw [List.length_append, rl]; rfl, fun r a e => ?_, hnW, e8⟩
          by_cases hs : r < rs.length
          · rw [List.getElem?_append_left hs] at e
            obtain ⟨y1, qs', y2, y3, y4⟩ := rv r a e
            exact ⟨y1, qs', s8 _ _ y2, y3, fun s b eb => ⟨(y4 s b eb).1, s8 _ _ (y4 s b eb).2⟩⟩
          · rw [List.getElem?_append_right (by omega)] at e
            have h0 : r = rs.length := by
              have := (List.getElem?_eq_some_iff.mp e).1
              simp at this
              omega
            subst h0
            rw [Nat.sub_self] at e
            cases e
            exact ⟨⟨hDW, sH.free hD⟩, qs, s8 _ _ eD, ql, fun s b eb => ⟨(qv s b eb).1, by rw [rl]; exact s8 _ _ (qv s b eb).2⟩⟩
    · rintro σ H4 ⟨v7, HQ, rs, rfl, s4, eW, rl, rv, _, _⟩
      refine ⟨_, rfl, q WA H4 (s1.trans (s2.trans (s3.trans s4))) ⟨(s1.trans (s2.trans s3)).free hWA, rs, eW, rl, fun r a e => ?_⟩⟩
      obtain ⟨⟨_, nA⟩, qs, x1, x2, x3⟩ := rv r a e
      exact ⟨nA, qs, x1, x2, fun s b eb => ⟨(x3 s b eb).1.2, (x3 s b eb).2⟩⟩
end
end Lw
end
section
namespace Lw
open PySem L2
def extP (lv : Nat → List Nat) (tg : Nat → Nat) (q : List Nat) : List (List Nat) := (lv (tg (q.getLastD 0))).map fun m => q ++ [m]
def levP (lv : Nat → List Nat) (tg : Nat → Nat) (m : Nat) : Nat → List (List Nat)
  | 0 => (List.range m).map fun e => [e]
  | r + 1 => (levP lv tg m r).flatMap (extP lv tg)
theorem wx_last (lv : Nat → List Nat) (tg : Nat → Nat) : ∀ (r : Nat) (p : List Nat), wx (fun _ => lv) tg (r + 1) p = (wx (fun _ => lv) tg r p).flatMap (extP lv tg)
  | 0, p => by
    show (lv (tg (p.getLastD 0))).flatMap (fun m => [p ++ [m]]) = [p].flatMap (extP lv tg)
    rw [List.flatMap_singleton]
    unfold extP
    generalize lv (tg (p.getLastD 0)) = xs
    induction xs with
    | nil => rfl
    | cons x xs ih => rw [List.flatMap_cons, ih]; rfl
  | r + 1, p => by
    show (lv (tg (p.getLastD 0))).flatMap (fun m => wx (fun _ => lv) tg (r + 1) (p ++ [m])) = ((lv (tg (p.getLastD 0))).flatMap fun m => wx (fun _ => lv) tg r (p ++ [m])).flatMap (extP lv tg)
    rw [List.flatMap_assoc]
    congr 1
    funext m
    exact wx_last lv tg r (p ++ [m])
theorem lev_wx (lv : Nat → List Nat) (tg : Nat → Nat) (m : Nat) : ∀ r, levP lv tg m r = (List.range m).flatMap fun e => wx (fun _ => lv) tg r [e]
  | 0 => by
    show (List.range m).map (fun e => [e]) = (List.range m).flatMap fun e => [[e]]
    generalize List.range m = xs
    induction xs with
    | nil => rfl
    | cons x xs ih => rw [List.flatMap_cons, ← ih]; rfl
  | r + 1 => by
    show (levP lv tg m r).flatMap (extP lv tg) = _
    rw [lev_wx lv tg m r, List.flatMap_assoc]
    congr 1
    funext e
    exact (wx_last lv tg r [e]).symm
theorem flat_congr {α β : Type} {f g : α → List β} : ∀ {xs : List α}, (∀ x ∈ xs, f x = g x) → xs.flatMap f = xs.flatMap g
  | [], _ => rfl
  | x :: xs, h => by
    rw [List.flatMap_cons, List.flatMap_cons, h x List.mem_cons_self, flat_congr fun y hy => h y (List.mem_cons_of_mem _ hy)]
end Lw
end
section
namespace Lw
open PySem L2
def win (us : Es) (L : Nat) : List (List Nat) := levP (lvF us) (tgtE us) us.length (L - 1)
def Lnk (us : Es) : List Nat → Prop
  | [] => True
  | [a] => a < us.length
  | a :: b :: r => a < us.length ∧ srcE us b = tgtE us a ∧ Lnk us (b :: r)
section
variable {us : Es}
theorem lnk_app : ∀ {q r : List Nat}, Lnk us (q ++ r) → Lnk us q ∧ Lnk us r
  | [], r, h => ⟨True.intro, h⟩
  | [a], [], h => ⟨h, True.intro⟩
  | [a], b :: r, h => ⟨h.1, h.2.2⟩
  | a :: b :: q, r, h => by
    have h2 := lnk_app (q := b :: q) (r := r) h.2.2
    exact ⟨⟨h.1, h.2.1, h2.1⟩, h2.2⟩
theorem lnk_snoc : ∀ {q : List Nat} {m : Nat}, Lnk us (q ++ [m]) ↔ Lnk us q ∧ m < us.length ∧ (q ≠ [] → srcE us m = tgtE us (q.getLastD 0))
  | [], m => ⟨fun h => ⟨True.intro, h, fun z => (z rfl).elim⟩, fun h => h.2.1⟩
  | [a], m => ⟨fun h => ⟨h.1, h.2.2, fun _ => h.2.1⟩, fun h => ⟨h.1, h.2.2 (by simp), h.2.1⟩⟩
  | a :: b :: q, m => by
    have ih := lnk_snoc (q := b :: q) (m := m)
    constructor
    · intro h
      obtain ⟨h1, h2, h3⟩ := ih.mp h.2.2
      exact ⟨⟨h.1, h.2.1, h1⟩, h2, fun _ => h3 (by simp)⟩
    · intro h
      exact ⟨h.1.1, h.1.2.1, ih.mpr ⟨h.1.2.2, h.2.1, fun _ => h.2.2 (by simp)⟩⟩
theorem lnk_lt : ∀ {q : List Nat}, Lnk us q → ∀ x ∈ q, x < us.length
  | [], _, x, hx => nomatch hx
  | [a], h, x, hx => by rw [List.mem_singleton.mp hx]; exact h
  | a :: b :: q, h, x, hx => by
    rcases List.mem_cons.mp hx with rfl | hx
    · exact h.1
    · exact lnk_lt h.2.2 x hx
theorem mem_lvF {s e : Nat} : e ∈ lvF us s ↔ e < us.length ∧ srcE us e = s := by
  unfold lvF
  rw [List.mem_filter, List.mem_range, beq_iff_eq]
theorem mem_lev : ∀ (r : Nat) (p : List Nat), p ∈ levP (lvF us) (tgtE us) us.length r ↔ p.length = r + 1 ∧ Lnk us p
  | 0, p => by
    show p ∈ (List.range us.length).map (fun e => [e]) ↔ _
    rw [List.mem_map]
    constructor
    · rintro ⟨e, he, rfl⟩
      exact ⟨rfl, List.mem_range.mp he⟩
    · rintro ⟨hl, hk⟩
      match p, hl, hk with
      | [a], _, hk => exact ⟨a, List.mem_range.mpr hk, rfl⟩
  | r + 1, p => by
    show p ∈ (levP (lvF us) (tgtE us) us.length r).flatMap (extP (lvF us) (tgtE us)) ↔ _
    rw [List.mem_flatMap]
    constructor
    · rintro ⟨q, hq, hp⟩
      obtain ⟨m, hm, rfl⟩ := List.mem_map.mp hp
      obtain ⟨h1, h2⟩ := (mem_lev r q).mp hq
      obtain ⟨m1, m2⟩ := mem_lvF.mp hm
      exact ⟨by rw [List.length_append, h1]; rfl, lnk_snoc.mpr ⟨h2, m1, fun _ => m2⟩⟩
    · rintro ⟨hl, hk⟩
      have ne : p ≠ [] := fun z => by rw [z] at hl; cases hl
      have e := List.dropLast_concat_getLast ne
      rw [← e] at hk
      obtain ⟨h1, h2, h3⟩ := lnk_snoc.mp hk
      have l1 : p.dropLast.length = r + 1 := by rw [List.length_dropLast, hl]; rfl
      refine ⟨p.dropLast, (mem_lev r _).mpr ⟨l1, h1⟩, ?_⟩
      refine List.mem_map.mpr ⟨p.getLast ne, mem_lvF.mpr ⟨h2, h3 (fun z => by rw [z] at l1; cases l1)⟩, e⟩
theorem mem_win {L : Nat} (h : 1 ≤ L) {p : List Nat} : p ∈ win us L ↔ p.length = L ∧ Lnk us p := by
  have q := mem_lev (us := us) (L - 1) p
  rw [show L - 1 + 1 = L by omega] at q
  exact q
theorem lev_nodup : ∀ r : Nat, (levP (lvF us) (tgtE us) us.length r).Nodup
  | 0 => by
    show ((List.range us.length).map fun e => [e]).Nodup
    rw [List.nodup_iff_pairwise_ne, List.pairwise_map]
    exact (List.nodup_iff_pairwise_ne.mp List.nodup_range).imp fun h z => h (by injection z)
  | r + 1 => by
    show ((levP (lvF us) (tgtE us) us.length r).flatMap (extP (lvF us) (tgtE us))).Nodup
    rw [List.nodup_iff_pairwise_ne, List.pairwise_flatMap]
    constructor
    · intro q _
      unfold extP
      rw [List.pairwise_map]
      have nl : (lvF us (tgtE us (q.getLastD 0))).Nodup := List.Nodup.sublist List.filter_sublist List.nodup_range
      exact (List.nodup_iff_pairwise_ne.mp nl).imp fun h z => h (by have := List.append_cancel_left z; injection this)
    · refine (List.nodup_iff_pairwise_ne.mp (lev_nodup r)).imp fun {a b} hab x hx y hy z => hab ?_
      obtain ⟨m, _, rfl⟩ := List.mem_map.mp hx
      obtain ⟨k, _, rfl⟩ := List.mem_map.mp hy
      have := congrArg List.dropLast z
      rwa [List.dropLast_concat, List.dropLast_concat] at this
theorem win_nodup (L : Nat) : (win us L).Nodup := lev_nodup _
end
section
variable {us ts : Es}
theorem srcE_ps (i : Nat) : srcE us i = (((psOf us)[i]?.map fun p : Int × Int => p.1).getD 0).toNat := by
  unfold srcE psOf
  rw [List.getElem?_map, Option.map_map]
  rfl
theorem tgtE_ps (i : Nat) : tgtE us i = (((psOf us)[i]?.map fun p : Int × Int => p.2).getD 0).toNat := by
  unfold tgtE psOf
  rw [List.getElem?_map, Option.map_map]
  rfl
theorem ps_len (h : psOf us = psOf ts) : us.length = ts.length := by
  have := congrArg List.length h
  unfold psOf at this
  rwa [List.length_map, List.length_map] at this
theorem ps_src (h : psOf us = psOf ts) : srcE us = srcE ts := funext fun i => by rw [srcE_ps, srcE_ps, h]
theorem ps_tgt (h : psOf us = psOf ts) : tgtE us = tgtE ts := funext fun i => by rw [tgtE_ps, tgtE_ps, h]
theorem ps_lv (h : psOf us = psOf ts) : lvF us = lvF ts := funext fun s => by
  unfold lvF
  rw [ps_len h, ps_src h]
theorem ps_win (h : psOf us = psOf ts) (L : Nat) : win us L = win ts L := by
  unfold win
  rw [ps_lv h, ps_tgt h, ps_len h]
end
end Lw
end
section
namespace Lw
open PySem L2
theorem ps_take {n : Nat} {us : Es} (rg : ∀ e ∈ us, 0 ≤ e.2.1 ∧ e.2.1 < n ∧ 0 ≤ e.2.2 ∧ e.2.2 < n) {m : Nat} (h : m < us.length) : (psOf us).take (m + 1) = (psOf us).take m ++ [(((srcE us m : Nat) : Int), ((tgtE us m : Nat) : Int))] := by
  obtain ⟨h1, _, h3, _⟩ := rg us[m] (List.getElem_mem h)
  have e : us[m]? = some us[m] := List.getElem?_eq_getElem h
  have s : ((srcE us m : Nat) : Int) = us[m].2.1 := by
    unfold srcE
    rw [e]
    exact Int.toNat_of_nonneg h1
  have t : ((tgtE us m : Nat) : Int) = us[m].2.2 := by
    unfold tgtE
    rw [e]
    exact Int.toNat_of_nonneg h3
  rw [List.take_add_one, s, t]
  unfold psOf
  rw [List.getElem?_map, e]
  rfl
theorem src_lt {n : Nat} {us : Es} (rg : ∀ e ∈ us, 0 ≤ e.2.1 ∧ e.2.1 < n ∧ 0 ≤ e.2.2 ∧ e.2.2 < n) {m : Nat} (h : m < us.length) : srcE us m < n := by
  obtain ⟨h1, h2, _, _⟩ := rg us[m] (List.getElem_mem h)
  unfold srcE
  rw [List.getElem?_eq_getElem h]
  show (us[m].2.1).toNat < n
  omega
theorem tgt_lt {n : Nat} {us : Es} (rg : ∀ e ∈ us, 0 ≤ e.2.1 ∧ e.2.1 < n ∧ 0 ≤ e.2.2 ∧ e.2.2 < n) {m : Nat} (h : m < us.length) : tgtE us m < n := by
  obtain ⟨_, _, h1, h2⟩ := rg us[m] (List.getElem_mem h)
  unfold tgtE
  rw [List.getElem?_eq_getElem h]
  show (us[m].2.2).toNat < n
  omega
def lvM (us : Es) (m s : Nat) : List Nat := (List.range m).filter fun e => srcE us e == s
theorem lvM_succ (us : Es) (m s : Nat) : lvM us (m + 1) s = lvM us m s ++ (if srcE us m = s then [m] else []) := by
  unfold lvM
  rw [List.range_succ, List.filter_append]
  congr 1
  by_cases h : srcE us m = s
  · rw [if_pos h, List.filter_cons_of_pos (by simpa using h)]
    rfl
  · rw [if_neg h, List.filter_cons_of_neg (by simpa using h)]
    rfl
section
variable {n : Nat} {us : Es} (rg : ∀ e ∈ us, 0 ≤ e.2.1 ∧ e.2.1 < n ∧ 0 ≤ e.2.2 ∧ e.2.2 < n)
include rg
theorem lv_sum (f : Nat → Nat) (s : Nat) : ∀ m, m ≤ us.length → ((lvM us m s).map fun e => f (tgtE us e)).sum = sm n fun j => cntN ((psOf us).take m) s j * f j
  | 0, _ => (sm_none f s).symm
  | m + 1, h => by
    rw [lvM_succ, List.map_append, List.sum_append, lv_sum f s m (by omega), ps_take rg h, out_snoc _ _ (tgt_lt rg h)]
    congr 1
    by_cases c : srcE us m = s
    · rw [if_pos c, if_pos c.symm]
      simp
    · rw [if_neg c, if_neg (Ne.symm c)]
      simp
theorem all_sum (g : Nat → Nat) : ∀ m, m ≤ us.length → sm n (fun i => ((lvM us m i).map g).sum) = ((List.range m).map g).sum
  | 0, _ => sm_zero n
  | m + 1, h => by
    rw [List.range_succ, List.map_append, List.sum_append, ← all_sum g m (by omega)]
    have e : sm n (fun i => ((lvM us (m + 1) i).map g).sum) = sm n (fun i => ((lvM us m i).map g).sum + (if i = srcE us m then 1 else 0) * g m) := sm_congr fun i _ => by
      rw [lvM_succ, List.map_append, List.sum_append]
      congr 1
      by_cases c : srcE us m = i
      · rw [if_pos c, if_pos c.symm]
        simp
      · rw [if_neg c, if_neg (Ne.symm c)]
        simp
    rw [e, sm_add, sm_one (fun _ => g m) (src_lt rg h)]
    simp
abbrev wayN (n : Nat) (us : Es) (r s : Nat) : Nat := sm n fun j => pwE (n : Int) us r s j
theorem wx_len : ∀ (r : Nat) (p : List Nat), tgtE us (p.getLastD 0) < n → (wx (fun _ => lvF us) (tgtE us) r p).length = wayN n us r (tgtE us (p.getLastD 0))
  | 0, p, h => by
    show 1 = sm n fun j => if tgtE us (p.getLastD 0) = j then 1 else 0
    have := sm_one (n := n) (b := tgtE us (p.getLastD 0)) (fun _ => 1) h
    refine this.symm.trans (sm_congr fun j _ => ?_)
    by_cases z : j = tgtE us (p.getLastD 0)
    · rw [if_pos z, if_pos z.symm]
    · rw [if_neg z, if_neg (Ne.symm z)]
  | r + 1, p, h => by
    show ((lvF us (tgtE us (p.getLastD 0))).flatMap fun m => wx (fun _ => lvF us) (tgtE us) r (p ++ [m])).length = _
    generalize hs : tgtE us (p.getLastD 0) = s at *
    rw [List.length_flatMap]
    have e : (lvF us s).map (fun m => (wx (fun _ => lvF us) (tgtE us) r (p ++ [m])).length) = (lvM us us.length s).map fun m => wayN n us r (tgtE us m) := by
      refine List.map_congr_left fun m hm => ?_
      have lt := lvF_lt hm
      have l := wx_len r (p ++ [m]) (by rw [List.getLastD_concat]; exact tgt_lt rg lt)
      rw [List.getLastD_concat] at l
      exact l
    rw [e, lv_sum rg _ s us.length (Nat.le_refl _), show (psOf us).take us.length = psOf us from List.take_of_length_le (by unfold psOf; rw [List.length_map]; exact Nat.le_refl _)]
    exact vec_step _ r h
theorem win_cnt {L : Nat} (h : 1 ≤ L) : (win us L).length = sm n fun i => sm n fun j => pwE (n : Int) us L i j := by
  obtain ⟨r, rfl⟩ : ∃ r, L = r + 1 := ⟨L - 1, by omega⟩
  unfold win
  rw [lev_wx, List.length_flatMap]
  have e : (List.range us.length).map (fun e => (wx (fun _ => lvF us) (tgtE us) (r + 1 - 1) [e]).length) = (List.range us.length).map fun e => wayN n us r (tgtE us e) :=
    List.map_congr_left fun e he => wx_len rg r [e] (tgt_lt rg (List.mem_range.mp he))
  rw [e, ← all_sum rg _ us.length (Nat.le_refl _)]
  refine sm_congr fun i hi => ?_
  rw [lv_sum rg _ i us.length (Nat.le_refl _), show (psOf us).take us.length = psOf us from List.take_of_length_le (by unfold psOf; rw [List.length_map]; exact Nat.le_refl _)]
  exact vec_step _ r hi
end
end Lw
end
section
namespace EnI
open PySem PySem.Spec PyProof.Rows L2
abbrev obI (x0 x1 : Value) (d : Addr) (i n ep : Nat) (ok ov : Value) : Obj := { cls := .type "dict_itemiterator", data := .fields #[x0, x1, .ref d, .int i 0, .int n 0, .int ep 0, ok, ov] }
structure At (h : Heap) (it d : Addr) (i n ep : Nat) : Prop where
  ex : ∃ x0 x1 ok ov : Value, (x0 = .none ∨ ∃ a : Addr, x0 = rawInt a) ∧ h.get? it = some (obI x0 x1 d i n ep ok ov)
theorem At.lt {h : Heap} {it d : Addr} {i n ep : Nat} (x : At h it d i n ep) : it < h.objs.size := let ⟨_, _, _, _, _, e⟩ := x.ex; Heap.lt_size e
theorem At.keep {h h' : Heap} {it d : Addr} {i n ep : Nat} (x : At h it d i n ep) (k : ∀ o, h.get? it = some o → h'.get? it = some o) : At h' it d i n ep := let ⟨a, b, c, f, q, e⟩ := x.ex; ⟨a, b, c, f, q, k _ e⟩
theorem At.type {s : Shared} {it d : Addr} {i n ep : Nat} (x : At s.heap it d i n ep) : s.TypeIs (.ref it) "dict_itemiterator" := let ⟨_, _, _, _, _, e⟩ := x.ex; ⟨_, e, rfl⟩
section
variable {P : Program} {w : World} {A : Around} {E : Value → Shared → Prop} {s : Shared} {it d : Addr} {i ep : Nat} {es : Array DictEntry}
theorem free_or {x0 x1 ok ov : Value} {n : Nat} {Q : Bool → Shared → Prop} (hx : x0 = .none ∨ ∃ a : Addr, x0 = rawInt a) (e : s.heap.get? it = some (obI x0 x1 d i n ep ok ov))
    (h : ∀ b y1 h', h'.get? it = some (obI x0 y1 d i n ep ok ov) → Heap.SameBut it s.heap h' → Q b { s with heap := h' }) : wpAny (model P w) A (Builtin.Dict_items.ownedTupleIsFree (.ref it)) Q E s := by
  obtain ⟨hp, gs, dr, tk, os⟩ := s
  have still : ∀ b, Q b ⟨hp, gs, dr, tk, os⟩ := fun b => h b x1 hp e (Heap.SameBut.refl _ _)
  unfold Builtin.Dict_items.ownedTupleIsFree
  refine wpAny_bind (wpAny_field e rfl (x := x0) rfl ?_)
  rcases hx with rfl | ⟨a, rfl⟩
  · exact wpAny_pure (still true)
  · show wpAny _ _ (loadIfAlive ((a : Int).toNat) >>= _) _ _ _
    rw [Int.toNat_natCast]
    refine wpAny_bind (show wpAny (model P w) A (loadIfAlive a) _ E _ from fun Γ p hΓ => ?_)
    show wpAny (model P w) A _ Q E ⟨hp, gs, dr, tk, os⟩
    cases hp.get? a with
    | none => exact wpAny_pure (still true)
    | some oa =>
      simp only [Option.isNone_some, Bool.false_eq_true, if_false]
      refine wpAny_bind (wpAny_field e rfl (x := x1) rfl ?_)
      split
      · refine wpAny_bind (wpAny_setField_rec e (by simp) fun h2 e2 k2 => wpAny_pure (h false _ h2 e2 k2))
      · exact wpAny_pure (still false)
theorem draw {Q : Value → Shared → Prop} (x : At s.heap it d i es.size ep) (hm : DT.Raw s.heap d es ep) (hi : i < es.size)
    (h : ∀ h', At h' it d (i + 1) es.size ep → h'.get? s.heap.objs.size = some { cls := .type "tuple", data := .seq #[es[i].key, es[i].val] } → h'.objs.size = s.heap.objs.size + 1 →
      (∀ b o, b ≠ it → s.heap.get? b = some o → h'.get? b = some o) → Q (.ref s.heap.objs.size) { s with heap := h' }) :
    wpAny (model P w) A (Builtin.«dict_itemiterator.__next__» ⟨[.ref it], []⟩) (fun fin s' => ∃ v, fin = .done (.ret v) ∧ Q v s') E s := by
  obtain ⟨hp, gs, dr, tk, os⟩ := s
  have below := x.lt
  have kind := x.type
  obtain ⟨x0, x1, ok, ov, hx, e⟩ := x.ex
  obtain ⟨od, hod, _, hdd⟩ := id hm
  have own : Builtin.Dict_items.ownsTuple "dict_itemiterator" = true := by decide
  refine wpAny_bind (wpAny_pure ?_)
  refine wpAny_bind ?_
  refine wpAny_bind (wpAny_bind (wpAny_typeNameOfWhole_itemiter kind (wpAny_pure ?_)))
  refine wpAny_bind (wpAny_fieldsOf e rfl ?_)
  simp only [own, if_true]
  show wpAny _ _ (if (Value.ref d == Value.none) = true then _ else _) _ _ _
  rw [if_neg (show ¬ ((Value.ref d == Value.none) = true) from Bool.false_ne_true)]
  refine wpAny_bind (wpAny_pure (wpAny_bind (wpAny_dictEntries hod hdd ?_)))
  rw [if_neg (by simp)]
  refine wpAny_bind (wpAny_pure (wpAny_bind (wpAny_dictEpoch hod hdd ?_)))
  rw [if_neg (by simp)]
  refine wpAny_pure ?_
  simp only [show ¬ ((i : Int) < 0) from by omega, if_false, Int.toNat_natCast, Array.getElem?_eq_getElem hi]
  refine wpAny_bind (wpAny_bind (wpAny_typeNameOfWhole_itemiter kind (wpAny_pure ?_)))
  refine wpAny_bind (wpAny_isOneOf_itemiter kind ?_)
  show wpAny _ _ (setField (.ref it) 3 (rawInt ((i : Int) + 1)) >>= _) _ _ ⟨hp, gs, dr, tk, os⟩
  refine wpAny_bind (wpAny_setField_rec e (by simp) fun h1 e1 k1 => ?_)
  replace e1 : h1.get? it = some (obI x0 x1 d (i + 1) es.size ep ok ov) := by
    have z : ((i + 1 : Nat) : Int) = (i : Int) + 1 := by omega
    unfold obI; rw [z]; simpa [rawInt] using e1
  have kind1 : Shared.TypeIs ⟨h1, gs, dr, tk, os⟩ (.ref it) "dict_itemiterator" := ⟨_, e1, rfl⟩
  have l1 : h1.objs.size = hp.objs.size := k1.1
  refine wpAny_bind (wpAny_holding (wpAny_bind (wpAny_isOneOf_itemiter kind1 (wpAny_bind (wpAny_isOneOf_itemiter kind1 ?_)))))
  show wpAny _ _ (Builtin.Dict_items.pairFromOwner (.ref it) 6 es[i].key es[i].val) _ _ ⟨h1, gs, dr, tk, os⟩
  unfold Builtin.Dict_items.pairFromOwner
  refine wpAny_bind (wpAny_newTuple ?_)
  obtain ⟨h2, eh⟩ : ∃ h2, h1.push { cls := .type "tuple", data := .seq #[es[i].key, es[i].val] } = h2 := ⟨_, rfl⟩
  have e2 : h2.get? it = some (obI x0 x1 d (i + 1) es.size ep ok ov) := by rw [← eh]; exact Heap.get?_push_of_some _ e1
  have t2 : h2.get? hp.objs.size = some { cls := .type "tuple", data := .seq #[es[i].key, es[i].val] } := by rw [← eh, ← l1]; exact Heap.get?_push_size _ rfl
  have l2 : h2.objs.size = hp.objs.size + 1 := by rw [← eh, Heap.size_push, l1]
  have up2 : ∀ b o, b ≠ it → hp.get? b = some o → h2.get? b = some o := fun b o hb q => by rw [← eh]; exact Heap.get?_push_of_some _ (k1.extBut b o hb q)
  have above : hp.objs.size ≠ it := Nat.ne_of_gt below
  have all : ∀ (h' : Heap) (y0 y1 ok' ov' : Value), (y0 = .none ∨ ∃ a : Addr, y0 = rawInt a) → h'.get? it = some (obI y0 y1 d (i + 1) es.size ep ok' ov') → Heap.SameBut it h2 h' → Q (.ref hp.objs.size) ⟨h', gs, dr, tk, os⟩ := fun h' y0 y1 ok' ov' hy q k =>
    h h' ⟨y0, y1, ok', ov', hy, q⟩ (k.extBut _ _ above t2) (by show h'.objs.size = _; rw [k.1, l2]) fun b o hb q => k.extBut b o hb (up2 b o hb q)
  show wpAny _ _ (Builtin.Dict_items.ownedTupleIsFree (.ref it) >>= _) _ _ ⟨h1.push _, gs, dr, tk, os⟩
  rw [eh, l1]
  refine wpAny_bind (free_or hx e2 fun b y1 h3 e3 k3 => ?_)
  cases b with
  | false =>
    rw [if_neg Bool.false_ne_true]
    exact wpAny_pure (wpAny_pure ⟨_, rfl, all h3 _ _ _ _ hx e3 k3⟩)
  | true =>
    rw [if_pos rfl]
    refine wpAny_bind (wpAny_field e3 rfl (x := ok) rfl (wpAny_bind (wpAny_field e3 rfl (x := ov) rfl ?_)))
    refine wpAny_bind (wpAny_setField_rec e3 (by simp) fun h4 e4 k4 => ?_)
    replace e4 : h4.get? it = some (obI x0 y1 d (i + 1) es.size ep es[i].key ov) := e4
    refine wpAny_bind (wpAny_setField_rec e4 (by simp) fun h5 e5 k5 => ?_)
    replace e5 : h5.get? it = some (obI x0 y1 d (i + 1) es.size ep es[i].key es[i].val) := e5
    refine wpAny_bind (wpAny_setField_rec e5 (by simp) fun h6 e6 k6 => ?_)
    replace e6 : h6.get? it = some (obI (rawInt hp.objs.size) y1 d (i + 1) es.size ep es[i].key es[i].val) := e6
    refine wpAny_bind (wpAny_setField_rec e6 (by simp) fun h7 e7 k7 => ?_)
    replace e7 : h7.get? it = some (obI (rawInt hp.objs.size) (.bool false) d (i + 1) es.size ep es[i].key es[i].val) := e7
    refine wpAny_bind (wpAny_letGo (wpAny_pure (wpAny_pure ⟨_, rfl, all h7 _ _ _ _ (.inr ⟨_, rfl⟩) e7 ?_⟩)))
    exact (((k3.trans k4).trans k5).trans k6).trans k7
theorem dry {Q : PySem.Fin → Shared → Prop} (calm : A.handled = none) (x : At s.heap it d i es.size ep) (hm : DT.Raw s.heap d es ep) (hi : es.size ≤ i)
    (h : ∀ h' e, Heap.ExtBut it s.heap h' → (∃ o, h'.get? e = some o ∧ o.cls = .type "StopIteration") → E (.ref e) { s with heap := h' }) : wpAny (model P w) A (Builtin.«dict_itemiterator.__next__» ⟨[.ref it], []⟩) Q E s := by
  have kind := x.type
  obtain ⟨x0, x1, ok, ov, _, e⟩ := x.ex
  obtain ⟨od, hod, _, hdd⟩ := id hm
  have own : Builtin.Dict_items.ownsTuple "dict_itemiterator" = true := by decide
  refine wpAny_bind (wpAny_pure ?_)
  refine wpAny_bind ?_
  refine wpAny_bind (wpAny_bind (wpAny_typeNameOfWhole_itemiter kind (wpAny_pure ?_)))
  refine wpAny_bind (wpAny_fieldsOf e rfl ?_)
  simp only [own, if_true]
  show wpAny _ _ (if (Value.ref d == Value.none) = true then _ else _) _ _ s
  rw [if_neg (show ¬ ((Value.ref d == Value.none) = true) from Bool.false_ne_true)]
  refine wpAny_bind (wpAny_pure (wpAny_bind (wpAny_dictEntries hod hdd ?_)))
  rw [if_neg (by simp)]
  refine wpAny_bind (wpAny_pure (wpAny_bind (wpAny_dictEpoch hod hdd ?_)))
  rw [if_neg (by simp)]
  refine wpAny_pure ?_
  simp only [show ¬ ((i : Int) < 0) from by omega, if_false, Int.toNat_natCast, Array.getElem?_eq_none hi]
  refine wpAny_bind (wpAny_bind (wpAny_typeNameOfWhole_itemiter kind (wpAny_pure ?_)))
  show wpAny _ _ (setField (.ref it) 2 .none >>= _) _ _ s
  refine wpAny_bind (wpAny_setField e rfl (by simp) ?_)
  show wpAny _ _ (newExc (.type "StopIteration") [] >>= _) _ _ _
  refine wpAny_bind ?_
  simp only [newExc, newTuple]
  refine wpAny_bind (wpAny_newObj_type ?_ (by size_fits))
  refine wpAny_bind (m := firstArgMember _ _) (wpAny_of_eq (a := Value.none) (by first | rfl | (simp only [firstArgMember]; rfl)) ?_)
  refine wpAny_newObj_type ?_ (by size_fits)
  simp only [raiseNew]
  refine wpAny_bind (wpAny_handled ?_)
  rw [calm]
  refine wpAny_bind (wpAny_pure (wpAny_throw ?_))
  exact h _ _ (((Heap.SameBut.update ..).extBut.push _).push _) ⟨_, Heap.get?_push_size _ rfl, rfl⟩
theorem draw_of {Q : Value → Shared → Prop} (x : At s.heap it d i es.size ep) (hm : DT.Raw s.heap d es ep) (hi : i < es.size)
    (h : ∀ h', At h' it d (i + 1) es.size ep → h'.get? s.heap.objs.size = some { cls := .type "tuple", data := .seq #[es[i].key, es[i].val] } → h'.objs.size = s.heap.objs.size + 1 →
      (∀ b o, b ≠ it → s.heap.get? b = some o → h'.get? b = some o) → Q (.ref s.heap.objs.size) { s with heap := h' }) : wpAny (model P w) A (Builtin.SmallTypes.nextOf (.ref it)) Q E s := by
  unfold Builtin.SmallTypes.nextOf
  refine wpAny_bind (wpAny_callSpecial?_slot (name := Str.ofString "__next__") x.type F.slot_dict_itemiterator_next (wpAny_call_entry F.slot_dict_itemiterator_next x.type F.entry_dict_itemiterator_next ?_ (F.args_dict_itemiterator_next_1 _)))
  exact draw x hm hi fun h' a b c d => wpAny_pure (h h' a b c d)
theorem dry_of {Q : Value → Shared → Prop} (calm : A.handled = none) (x : At s.heap it d i es.size ep) (hm : DT.Raw s.heap d es ep) (hi : es.size ≤ i)
    (h : ∀ h' e, Heap.ExtBut it s.heap h' → (∃ o, h'.get? e = some o ∧ o.cls = .type "StopIteration") → E (.ref e) { s with heap := h' }) : wpAny (model P w) A (Builtin.SmallTypes.nextOf (.ref it)) Q E s := by
  unfold Builtin.SmallTypes.nextOf
  refine wpAny_bind (wpAny_callSpecial?_slot (name := Str.ofString "__next__") x.type F.slot_dict_itemiterator_next (wpAny_call_entry F.slot_dict_itemiterator_next x.type F.entry_dict_itemiterator_next ?_ (F.args_dict_itemiterator_next_1 _)))
  exact dry (show A.in1.handled = none from calm) x hm hi h
end
end EnI
end
section
namespace EnI
open PySem PySem.Spec PyProof.Rows L2
section
variable {P : Program} {w : World} {A : Around} {E : Value → Shared → Prop} {s : Shared} {e it d : Addr} {i ep : Nat} {es : Array DictEntry} {old : Value}
abbrev pairO (en : DictEntry) : Obj := { cls := .type "tuple", data := .seq #[en.key, en.val] }
abbrev numO (i : Nat) (tk : Tok) (u : Addr) : Obj := { cls := .type "tuple", data := .seq #[.int i tk, .ref u] }
theorem turn {Q : Option Value → Shared → Prop} (he : IsEnum s.heap e it ((i : Nat) : Int) old) (x : At s.heap it d i es.size ep) (hm : DT.Raw s.heap d es ep) (hi : i < es.size) (ne : e ≠ it)
    (h : ∀ h' tk, IsEnumOut h' e it (((i + 1 : Nat) : Nat) : Int) (.ref s.heap.objs.size) (s.heap.objs.size + 1) → At h' it d (i + 1) es.size ep → h'.get? s.heap.objs.size = some (pairO es[i]) → h'.get? (s.heap.objs.size + 1) = some (numO i tk s.heap.objs.size) →
      h'.objs.size = s.heap.objs.size + 2 → (∀ b o, b ≠ e → b ≠ it → s.heap.get? b = some o → h'.get? b = some o) → Q (some (.ref (s.heap.objs.size + 1))) { s with heap := h', toks := tk + 1 }) :
    wpAny (model P w) A (pyNext (.ref e)) Q E s := by
  have kind : s.TypeIs (.ref e) "enumerate" := ⟨_, he, rfl⟩
  obtain ⟨hp, gs, dr, tk, os⟩ := s
  have below : e < hp.objs.size := Heap.lt_size he
  unfold pyNext
  refine wpAny_bind (wpAny_attempt (wpAny_callSpecial?_slot (name := Str.ofString "__next__") kind F.slot_enumerate_next (wpAny_call_entry F.slot_enumerate_next kind F.entry_enumerate_next ?_ (F.args_enumerate_next_1 _))))
  show wpAny _ _ (field (.ref e) 2 >>= _) _ _ ⟨hp, gs, dr, tk, os⟩
  refine wpAny_bind (wpAny_field he rfl (x := .ref it) rfl (wpAny_bind (draw_of x hm hi fun h1 x1 p1 l1 up1 => ?_)))
  replace l1 : h1.objs.size = hp.objs.size + 1 := l1
  have e1 : IsEnum h1 e it ((i : Nat) : Int) old := up1 e _ ne he
  show wpAny _ _ (field (.ref e) 3 >>= _) _ _ ⟨h1, gs, dr, tk, os⟩
  refine wpAny_bind (wpAny_field e1 rfl (x := rawInt i) rfl ?_)
  show wpAny _ _ (field (.ref e) 4 >>= _) _ _ ⟨h1, gs, dr, tk, os⟩
  refine wpAny_bind (wpAny_field e1 rfl (x := .none) rfl ?_)
  show wpAny _ _ (mkInt i >>= _) _ _ ⟨h1, gs, dr, tk, os⟩
  refine wpAny_bind (wpAny_mkInt ?_)
  show wpAny _ _ (setField (.ref e) 3 (rawInt ((i : Int) + 1)) >>= _) _ _ ⟨h1, gs, dr, tk + 1, os⟩
  refine wpAny_bind (wpAny_setField_rec e1 (by simp) fun h2 e2 k2 => ?_)
  replace e2 : IsEnum h2 e it (((i + 1 : Nat) : Nat) : Int) old := by
    have z : ((i + 1 : Nat) : Int) = (i : Int) + 1 := by omega
    unfold IsEnum; rw [z]; exact e2
  show wpAny _ _ (setField (.ref e) 4 .none >>= _) _ _ ⟨h2, gs, dr, tk + 1, os⟩
  refine wpAny_bind (wpAny_setField_rec e2 (by simp) fun h3 e3 k3 => ?_)
  replace e3 : IsEnum h3 e it (((i + 1 : Nat) : Nat) : Int) old := e3
  show wpAny _ _ (newTuple [.int i tk, .ref hp.objs.size] >>= _) _ _ ⟨h3, gs, dr, tk + 1, os⟩
  refine wpAny_bind (wpAny_newTuple ?_)
  have l3 : h3.objs.size = hp.objs.size + 1 := by rw [k3.1, k2.1, l1]
  obtain ⟨h4, eh⟩ : ∃ h4, h3.push (numO i tk hp.objs.size) = h4 := ⟨_, rfl⟩
  have e4 : IsEnum h4 e it (((i + 1 : Nat) : Nat) : Int) old := by rw [← eh]; exact Heap.get?_push_of_some _ e3
  have t4 : h4.get? (hp.objs.size + 1) = some (numO i tk hp.objs.size) := by rw [← eh, ← l3]; exact Heap.get?_push_size _ rfl
  have l4 : h4.objs.size = hp.objs.size + 2 := by rw [← eh, Heap.size_push, l3]
  have up4 : ∀ b o, b ≠ e → h1.get? b = some o → h4.get? b = some o := fun b o hb q => by rw [← eh]; exact Heap.get?_push_of_some _ (k3.extBut b o hb (k2.extBut b o hb q))
  show wpAny _ _ (Builtin.SmallTypes.ownedTupleIsFree (.ref e) >>= _) _ _ ⟨h3.push (numO i tk hp.objs.size), gs, dr, tk + 1, os⟩
  rw [eh, l3]
  refine wpAny_bind ?_
  unfold Builtin.SmallTypes.ownedTupleIsFree
  refine wpAny_bind (wpAny_field e4 rfl (x := .none) rfl (wpAny_pure ?_))
  rw [if_pos rfl]
  refine wpAny_bind (wpAny_rule (wpAny_bind (wpAny_field e4 rfl (x := old) rfl ?_)))
  refine wpAny_bind (wpAny_setField_rec e4 (by simp) fun h5 e5 k5 => ?_)
  replace e5 : IsEnum h5 e it (((i + 1 : Nat) : Nat) : Int) (.ref hp.objs.size) := e5
  show wpAny _ _ (Builtin.SmallTypes.ownedTupleHandOut (.ref e) (.ref (hp.objs.size + 1)) >>= _) _ _ ⟨h5, gs, dr, tk + 1, os⟩
  refine wpAny_bind ?_
  unfold Builtin.SmallTypes.ownedTupleHandOut
  refine wpAny_bind (wpAny_setField_rec e5 (by simp) fun h6 e6 k6 => ?_)
  replace e6 : IsEnumOut h6 e it (((i + 1 : Nat) : Nat) : Int) (.ref hp.objs.size) (hp.objs.size + 1) := e6
  refine wpAny_setField_rec e6 (by simp) fun h7 e7 k7 => ?_
  replace e7 : IsEnumOut h7 e it (((i + 1 : Nat) : Nat) : Int) (.ref hp.objs.size) (hp.objs.size + 1) := e7
  have up7 : ∀ b o, b ≠ e → h4.get? b = some o → h7.get? b = some o := fun b o hb q => k7.extBut b o hb (k6.extBut b o hb (k5.extBut b o hb q))
  have ne1 : hp.objs.size + 1 ≠ e := Nat.ne_of_gt (Nat.lt_succ_of_lt below)
  refine wpAny_bind (wpAny_letGo (wpAny_pure ⟨_, rfl, wpAny_pure (h h7 tk e7 (x1.keep fun o q => up7 _ o ne.symm (up4 _ o ne.symm q)) (up7 _ _ (Nat.ne_of_gt below) (up4 _ _ (Nat.ne_of_gt below) p1)) (up7 _ _ ne1 t4) ?_ fun b o hb hb2 q => up7 b o hb (up4 b o hb (up1 b o hb2 q)))⟩))
  show h7.objs.size = _
  rw [k7.1, k6.1, k5.1, l4]
theorem last {Q : Option Value → Shared → Prop} (calm : A.in1.handled = none) (he : IsEnum s.heap e it ((i : Nat) : Int) old) (x : At s.heap it d i es.size ep) (hm : DT.Raw s.heap d es ep) (hi : es.size ≤ i)
    (h : ∀ h', Heap.ExtBut it s.heap h' → Q none { s with heap := h' }) : wpAny (model P w) A (pyNext (.ref e)) Q E s := by
  have kind : s.TypeIs (.ref e) "enumerate" := ⟨_, he, rfl⟩
  unfold pyNext
  refine wpAny_bind (wpAny_attempt (wpAny_callSpecial?_slot (name := Str.ofString "__next__") kind F.slot_enumerate_next (wpAny_call_entry F.slot_enumerate_next kind F.entry_enumerate_next ?_ (F.args_enumerate_next_1 _))))
  show wpAny _ _ (field (.ref e) 2 >>= _) _ _ s
  refine wpAny_bind (wpAny_field he rfl (x := .ref it) rfl (wpAny_bind (dry_of calm x hm hi fun h' b up ⟨o, ho, hc⟩ => ?_)))
  exact wpAny_bind (wpAny_isInstance (T := "StopIteration") (b := true) ⟨o, ho, hc⟩ isSubtype_stop (wpAny_pure (h h' up)))
end
end EnI
end
section
namespace EnI
open PySem PySem.Spec PyProof.Rows L2
structure St (d e it : Addr) (n ep : Nat) (i : Nat) (h : Heap) : Prop where
  en : ∃ old, IsEnum h e it ((i : Nat) : Int) old
  itr : At h it d i n ep
  ne : e ≠ it
theorem two {e it b : Addr} (h : b ∈ [e, it]) : b = e ∨ b = it := by
  simp only [List.mem_cons, List.not_mem_nil, or_false] at h
  exact h
end EnI
end
section
namespace Lw
open PySem L2
def sel (f : Int × Int → Bool) (ps : List (Int × Int)) (i : Nat) : List Int := ((List.range i).filter fun j => (ps[j]?.map f).getD false).map fun j : Nat => (j : Int)
theorem sel_succ {f : Int × Int → Bool} {ps : List (Int × Int)} {i : Nat} {p : Int × Int} (h : ps[i]? = some p) : sel f ps (i + 1) = if f p = true then sel f ps i ++ [(i : Int)] else sel f ps i := by
  unfold sel
  rw [List.range_succ, List.filter_append, List.map_append]
  by_cases hf : f p = true
  · rw [if_pos hf]
    simp [h, hf]
  · rw [if_neg hf]
    simp [h, hf]
theorem sel_len (f : Int × Int → Bool) (ps : List (Int × Int)) (i : Nat) : (sel f ps i).length ≤ i := by
  unfold sel
  rw [List.length_map]
  refine Nat.le_trans (List.length_filter_le _ _) ?_
  simp
def spState0 (C : Addr) : Sp := fun vs H Q _ => ∃ (g : Addr) (n : Int) (us : Es) (i : Int), vs = [.ref g, .int i] ∧ GraphAt C H g n us ∧ 0 ≤ i ∧ i < n ∧ Q .non H
def spAll (C : Addr) (f : Int → Int × Int → Bool) : Sp := fun vs H Q _ => ∃ (g : Addr) (n : Int) (us : Es) (i : Int), vs = [.ref g, .int i] ∧ GraphAt C H g n us ∧ 0 ≤ i ∧ i < n ∧ us.length ≤ 1000 ∧
  ∀ p H', Same H H' → H p = none → H' p = some (.lst ((sel (f i) (psOf us) us.length).map V.int)) → Q (.ref p) H'
abbrev fstIs (i : Int) (p : Int × Int) : Bool := decide (p.1 = i)
section
variable {P : Program} {w : World} {K : PySem.W.Frag} {mg : Str → Option Value} {base : Heap}
theorem scCheckState : FnScope ["self", "state"] ["self", "state"] (defScope sCheckState) := ⟨rfl, rfl, rfl, by decide +kernel, rfl, by decide +kernel, by decide +kernel⟩
theorem ok_state0 {f C : Addr} {mc : Value} {fd : FuncData} {k : Nat} (F : Fun K "check_state" "Graph.check_state" sCheckState f fd) (G : GTxt K mg C mc) : FnOk P w K mg base CX0 (k + 1) f fd ["self", "state"] (spState0 C) := by
  refine F.ok scCheckState (fun vs H Q E h => ?_) (fun cdv A outer s H vs Q E hr h => ?_)
  · obtain ⟨g, n, us, i, rfl, _⟩ := h
    rfl
  · obtain ⟨g, n, us, i, rfl, ⟨⟨dx, t, h1, h2⟩, ed⟩, h0, hn, q⟩ := h
    refine ⟨_, pss_one (ps_if (pt_not (pt_chain op_le op_lt pe_int (pv 1) (pe_fld (pv 0) rfl))) (pss_one ps_never) pss_nil), ?_⟩
    refine ⟨_, rfl, _, _, rfl, rfl, _, rfl, if_t (decide_eq_true h0) ⟨_, rfl, g, C, dx, _, _, rfl, h1, G.cl, G.nS, look_s _ _, _, _, rfl, rfl, _, rfl, if_f (by rw [decide_eq_true hn]; rfl) q⟩⟩
theorem scLeaving : FnScope ["self", "state", "number", "edge"] ["self", "state"] (defScope sLeaving) := ⟨rfl, rfl, rfl, by decide +kernel, rfl, by decide +kernel, by decide +kernel⟩
theorem dec_of_int {i j : Int} : decide (V.int i = V.int j) = decide (i = j) := by
  by_cases h : i = j
  · rw [h, decide_eq_true rfl, decide_eq_true rfl]
  · rw [decide_eq_false h, decide_eq_false (fun z => h (by injection z))]
set_option maxHeartbeats 4000000 in
theorem ok_leaving0 {f C : Addr} {mc : Value} {fd : FuncData} {k : Nat} (F : Fun K "leaving" "Graph.leaving" sLeaving f fd) (G : GTxt K mg C mc) (cS : C8.Met P w K mg base 1 C "check_state" (spState0 C) []) : FnOk P w K mg base CX0 (k + 2) f fd ["self", "state"] (spAll C fstIs) := by
  refine F.ok scLeaving (fun vs H Q E h => ?_) (fun cdv A outer s H vs Q E hr h => ?_)
  · obtain ⟨g, n, us, i, rfl, _⟩ := h
    rfl
  · obtain ⟨g, n, us, i, rfl, GA, h0, hn, hl, q⟩ := h
    obtain ⟨⟨dx, t, h1, h2⟩, ed⟩ := id GA
    refine ⟨_, pss_cons (ps_expr (C8.pe_mt cS hr (Nat.le_add_left 1 k) (pv 0) (pa_cons (pv 1) pa_nil)))
      (pss_one (ps_ret (pe_lc (own := [("number", 2), ("edge", 3)]) (g := gTup K 2 (gCons (gName 2) (gCons (gName 3) gNil))) (tt := tTest (tOp rEq (tOp (rIxT K) (tVar 3) (tC (.int 0))) (tVar 1))) (te := tVar 2) rfl scLeaving.nd (pi_enumA (by rfl) G.enum (pa_cons (pe_fld (pv 0) rfl) pa_nil))
          (blkOk_by (N := ["self", "state", "number", "edge"]) (sc := defScope sLeaving) (by decide +kernel))
          (fun _ _ _ _ _ => by exact pg_tup rfl (pgs_cons (pg_name (i := 2) scLeaving.nd rfl (Or.inl rfl)) (pgs_cons (pg_name (i := 3) scLeaving.nd rfl (Or.inl rfl)) pgs_nil)))
          (fun _ _ _ _ _ => by exact pts_one (pt_cmpR op_eq (pe_ix ix_tup (pv 3) pe_int (fun _ _ => rfl)) (pv 1) (nomark _)))
          (fun _ _ _ _ _ => by exact pv 2)))), ?_⟩
    refine ⟨_, rfl, g, dx, _, rfl, h1, look_no _ _ (by decide +kernel) (by decide +kernel), _, rfl, g, n, us, i, rfl, GA, h0, hn, ?_⟩
    refine ⟨_, rfl, g, C, dx, _, _, rfl, h1, G.cl, G.nE, look_e _ _, t, vsOf us, SqT, rfl, .inr rfl, SqT.of h2, fun J w D hD => ?_⟩
    refine lc_it w (fun j H' => Same H H' ∧ H' D = some (.lst ((sel (fstIs i) (psOf us) j).map V.int))) ⟨same_upd hD, upd_same⟩ (fun j H' _ p => SqT.of (p.1 _ _ h2)) ?_ ?_
    · rintro j x H1 H' hj ⟨sm, eD⟩ ⟨Ta, x, y, rfl, hT, rfl, gx, gy⟩
      obtain ⟨e, he, rfl⟩ := vsOf_at gy
      have ex : x = .int (j : Nat) := (Option.some.inj gx).symm
      subst ex
      have s1 := sm.trans (same_upd (o := .tup [.int (j : Nat), .ref e.1]) hT)
      have mem : e ∈ us := List.mem_of_getElem? he
      have eD1 := same_upd (o := .tup [.int (j : Nat), .ref e.1]) hT _ _ eD
      refine ⟨Ta, _, rfl, SqT.of upd_same, rfl, _, _, rfl, _, _, rfl, rfl, rfl, ?_⟩
      refine ⟨_, rfl, e.1, _, _, _, rfl, rfl, SqT.of (s1 _ _ (ed e mem)), at0, _, rfl, rfl, _, rfl, ?_⟩
      rw [dec_of_int, sel_succ (psOf_at he)]
      by_cases hc : e.2.1 = i
      · refine if_t (decide_eq_true hc) ?_
        rw [if_pos (decide_eq_true hc)]
        refine ⟨_, rfl, _, eD1, ?_, ?_, ?_⟩
        · rw [List.length_map]
          exact small1000 (Nat.le_trans (sel_len _ _ _) (by rw [vsOf_len] at hj; omega))
        · intro c o ec
          rw [upd_ne (ne_of_none ec hD)]
          exact s1 _ _ ec
        · rw [upd_same, List.map_append]
          rfl
      · refine if_f (decide_eq_false hc) ?_
        rw [if_neg (fun z => hc (of_decide_eq_true z))]
        exact ⟨s1, eD1⟩
    · rintro H1 ⟨sm, eD⟩
      rw [vsOf_len] at eD
      exact q D H1 sm hD eD
end
end Lw
end
section
namespace Lw
def sq (xs ys : List Int) (i : Nat) : Int := if i < xs.length then xs.getD i 0 else ys.getD ((i - xs.length) % ys.length) 0
end Lw
end
section
namespace Lw
open PySem L2
def TI (H : Hp) (a : Addr) (xs : List Int) : Prop := H a = some (.tup (xs.map V.int))
theorem TI.same {H H' : Hp} {a : Addr} {xs : List Int} (h : TI H a xs) (s : Same H H') : TI H' a xs := s _ _ h
section
variable {K : PySem.W.Frag}
theorem catA {H : Hp} {a b : Addr} {xs ys : List V} {Q : VK} (h : H a = some (.tup xs)) (h2 : H b = some (.tup ys)) (hl : xs.length + ys.length ≤ 1000) (q : ∀ r H', Same H H' → H' r = some (.tup (xs ++ ys)) → Q (.ref r) H') : rCatA K (.ref a) (.ref b) H Q := by
  refine ⟨a, b, xs, ys, rfl, rfl, SqT.of h, SqT.of h2, Nat.le_of_lt (small1000 hl), fun z => q b H (fun _ _ e => e) ?_, fun _ z => q a H (fun _ _ e => e) ?_, fun _ _ p hp => q p _ (same_upd hp) upd_same⟩
  · rw [h2, z]
    rfl
  · rw [h, z, List.append_nil]
end
theorem dp_ints {K : PySem.W.Frag} {H : Hp} : ∀ xs : List Int, DpAll K H (xs.map V.int) (xs.map PyData.int)
  | [] => .nil
  | x :: xs => .cons (.int x) (dp_ints xs)
end Lw
end
section
namespace Lw
open PySem L2
theorem GrN.ok {C : Addr} {H : Hp} {g : Addr} {n : Nat} {us : Es} (h : GrN C H g n us) : GrOk C H g (n : Int) us := ⟨h.gr, by have := h.n1; omega, by have := h.n8; omega, h.m24, h.rg⟩
end Lw
end
section
namespace Lw
open PySem L2
theorem nodup_sub {α : Type} [BEq α] [LawfulBEq α] : ∀ {xs ys : List α}, xs.Nodup → (∀ x ∈ xs, x ∈ ys) → xs.length ≤ ys.length
  | [], _, _, _ => Nat.zero_le _
  | x :: xs, ys, h, s => by
    obtain ⟨h1, h2⟩ := List.nodup_cons.mp h
    have m := s x List.mem_cons_self
    have := nodup_sub (ys := ys.erase x) h2 fun y hy => (List.mem_erase_of_ne (fun e => by subst e; exact h1 hy)).mpr (s y (List.mem_cons_of_mem _ hy))
    rw [List.length_erase_of_mem m] at this
    have pos := List.length_pos_of_mem m
    rw [List.length_cons]
    omega
end Lw
end
section
namespace Lw
open PySem L2 Sf PyProof.Rows GenW
abbrev NCl : List Str := ["graph", "length", "edges", "homeward", "first", "source", "target", "ways", "state"]
def closedTo (us : Es) (L m : Nat) : List (List Nat) := (List.range m).flatMap fun first => walksL (wyF us [srcE us first]) (srcE us) (tgtE us) L first
theorem closedTo_succ (us : Es) (L m : Nat) : closedTo us L (m + 1) = closedTo us L m ++ walksL (wyF us [srcE us m]) (srcE us) (tgtE us) L m := by
  unfold closedTo
  rw [List.range_succ, List.flatMap_append]
  simp
theorem closedTo_le (us : Es) (L : Nat) : ∀ {i m : Nat}, i ≤ m → (closedTo us L i).length ≤ (closedTo us L m).length := by
  intro i m h
  induction m with
  | zero => rw [Nat.le_zero.mp h]; exact Nat.le_refl _
  | succ m ih =>
    by_cases e : i = m + 1
    · rw [e]; exact Nat.le_refl _
    · rw [closedTo_succ, List.length_append]
      exact Nat.le_trans (ih (by omega)) (Nat.le_add_right _ _)
def spClosed (C : Addr) : SpGS := fun pl vs H Q => ∃ (g : Addr) (n : Nat) (us : Es) (L : Nat), vs = [.ref g, .int (L : Int)] ∧ GrN C H g n us ∧ 1 ≤ L ∧ L ≤ 40 ∧ pl + (closedTo us L us.length).length ≤ sizeLine ∧
  ∀ (H' : Hp) (as : List Addr), Same H H' → TW H' as (closedTo us L us.length) → Q (as.map V.ref) H'
theorem upd_two {H : Hp} {a : Addr} {o o' : HO} : upd (upd H a o) a o' = upd H a o' := by
  funext b
  by_cases h : b = a
  · rw [h, upd_same, upd_same]
  · rw [upd_ne h, upd_ne h, upd_ne h]
theorem upd_own {H : Hp} {a : Addr} {o : HO} (h : H a = some o) : upd H a o = H := by
  funext b
  by_cases e : b = a
  · rw [e, upd_same, h]
  · rw [upd_ne e]
theorem same_off {H H' : Hp} (s : Same H H') (a : Addr) (o : HO) : Same (upd H a o) (upd H' a o) := fun b x e => by
  by_cases h : b = a
  · rw [h, upd_same] at e ⊢; exact e
  · rw [upd_ne h] at e ⊢; exact s _ _ e
theorem scCl9 : GScope NCl ["graph", "length"] (defScope sClosed) := ⟨rfl, rfl, rfl, by decide +kernel, rfl, by decide +kernel, by decide +kernel⟩
section
variable {P : Program} {w : World} {K : PySem.W.Frag} {mg : Str → Option Value} {base : Heap} {f : Addr} {fd : FuncData} {k : Nat} {C : Addr}
set_option maxHeartbeats 8000000 in
theorem ok_closed (F : Fun K "closed_paths" "closed_paths" sClosed f fd) (T : Bi mg) (te : mg "enumerate" = none) {tk : Tok} (mx : mg "MAX_LENGTH" = some (.int 40 tk)) (cL : C8.Cal P w K mg base 1 "check_length" spLenIn []) (mE : C8.Met P w K mg base 1 C "edges" (spEdges C) []) (pS : Prp P w K mg base 1 C "states" (spStates C))
    (cW : C8.Cal P w K mg base 5 "ways_to" (spWaysTo C) []) (cG : CalG P w K mg base 1 True "walks" spWalks) : GFnS P w K mg base (k + 6) False f fd ["graph", "length"] (spClosed C) := by
  obtain ⟨fw, fdw, psw, Fw, mw, kw, bw⟩ := cG
  refine Fun.gen F scCl9 (fun pl vs H Q h => ?_) (fun cdv A outer s H vs Sx pre Q hr h => ?_)
  · obtain ⟨g, n, us, L, rfl, _⟩ := h
    rfl
  · obtain ⟨g, n, us, L, rfl, G, L1, L40, room, q⟩ := h
    refine ⟨_, gbs_cons (gb_plain (PS.up (ps_expr (C8.pe_c cL hr (by omega) (by rfl) (pa_cons (pv 1) (pa_cons (pe_glob (v := .int 40) (by rfl) mx ⟨_, rfl⟩) pa_nil))))))
      (gbs_cons (gb_plain (PS.up (ps_set (i := 2) scCl9.nd rfl (.inl rfl) (C8.pe_mt0 mE hr (by omega) (pv 0)))))
      (gbs_cons (gb_plain (PS.up (ps_setLc (i := 3) (own := [("state", 8)]) (g := gName 8) (tt := tYes) (te := tCall (spWaysTo C) [] C8.E0 (tCons (tVar 0) (tCons (tVar 1) (tCons (tLst (tCons (tVar 8) tNil)) tNil)))) rfl scCl9.nd rfl rfl (sw_true rfl rfl rfl (by decide +kernel)) (pi_range1 (by rfl) T.range (pa_cons (pe_pr pS hr (by omega) (pv 0)) pa_nil))
        (blkOk_by (N := NCl) (sc := defScope sClosed) (by decide +kernel)) (fun _ _ _ _ _ => by exact pg_name (i := 8) scCl9.nd rfl (Or.inl rfl)) (fun _ _ _ _ _ => pts_nil)
        (fun _ _ _ _ _ => by exact C8.pe_c cW hr (by omega) (by rfl) (pa_cons (pv 0) (pa_cons (pv 1) (pa_cons (pe_lst (pa_cons (pv 8) pa_nil)) pa_nil)))))))
      (gbs_one (gb_for (fun _ _ z => z) rfl (pi_enumA (by rfl) te (pa_cons (pv 2) pa_nil)) (pg_tup rfl (pgs_cons (pg_name (i := 4) scCl9.nd rfl (.inl rfl)) (pgs_cons (pg_tup rfl (pgs_cons (pg_name (i := 5) scCl9.nd rfl (.inl rfl)) (pgs_cons (pg_name (i := 6) scCl9.nd rfl (.inl rfl)) pgs_nil))) pgs_nil)))
        (gbs_cons (gb_plain (PS.up (ps_set (i := 7) scCl9.nd rfl (.inl rfl) (pe_ix ix_list (pv 3) (pv 5) (fun _ _ => rfl)))))
        (gbs_one (gb_yf (pgs_call Fw (hr.mono (by omega)) (by rfl) mw kw bw .nil (pa_cons (pv 2) (pa_cons (pv 7) (pa_cons (pv 4) pa_nil)))) rfl (hr.mono (by omega))))))))), ?_⟩
    obtain ⟨⟨dx, t0, h1, h2⟩, ed⟩ := id G.gr
    have n8 := G.n8
    refine ⟨_, rfl, (L : Int), 40, rfl, by omega, by omega, ?_⟩
    refine ⟨_, rfl, g, dx, _, rfl, h1, look_no _ _ (by decide +kernel) (by decide +kernel), g, n, us, rfl, G.gr, fun p hp => ?_⟩
    have s1 := same_upd (o := .lst (vsOf us)) hp
    have e1 : upd H p (.lst (vsOf us)) p = some (.lst (vsOf us)) := upd_same
    generalize upd H p (.lst (vsOf us)) = H1 at *
    have G1 := G.same s1
    refine ⟨_, rfl, g, dx, _, rfl, s1 _ _ h1, g, n, us, rfl, G1.gr, _, rfl, by omega, by omega, fun HM hHM => ?_⟩
    refine lc_it (walk_range (lo := 0) (n := ((n : Nat) : Int).toNat)) (fun i H' => ∃ ts : List Addr, Same H1 H' ∧ H' HM = some (.lst (ts.map V.ref)) ∧ ts.length = i ∧ ∀ (s : Nat) (wa : Addr), ts[s]? = some wa → ∀ o : HO, WaysAt (upd H' HM o) wa L n (wyF us [s])) ⟨[], same_upd hHM, upd_same, rfl, fun s b e => by simp at e⟩ (fun _ _ _ _ => True.intro) ?_ ?_
    · rintro i x H2 H3 hi ⟨ts, s2, e2, tl, tv⟩ ⟨rfl, hx⟩
      have hx : x = .int (i : Int) := by
        rw [hx]
        show V.int (0 + (i : Int)) = _
        rw [Int.zero_add]
      subst hx
      have hi : i < n := by omega
      refine ⟨rfl, ?_⟩
      refine ⟨_, rfl, _, rfl, _, rfl, (by show 1 ≤ sizeLine; decide), fun u hu => ?_⟩
      have s3 := same_upd (o := .lst [.int (i : Int)]) hu
      have eu : upd H3 u (.lst [.int (i : Int)]) u = some (.lst (nW [i])) := upd_same
      generalize upd H3 u (.lst [.int (i : Int)]) = H4 at *
      refine ⟨g, u, n, us, L, [i], rfl, G1.same (s2.trans s3), eu, L1, L40, fun wa H5 s5 wW => ?_⟩
      have e5 := s5 _ _ (s3 _ _ e2)
      refine ⟨_, e5, by rw [List.length_map, tl]; exact small1000 (by omega), ts ++ [wa], fun c o e => ?_, ?_, by rw [List.length_append, tl]; rfl, fun s c e => ?_⟩
      · rw [upd_ne (ne_of_none e hHM)]
        exact s5 _ _ (s3 _ _ (s2 _ _ e))
      · rw [upd_same, List.map_append]; rfl
      · intro o
        rw [upd_two]
        by_cases hs : s < ts.length
        · rw [List.getElem?_append_left hs] at e
          exact (tv s c e o).same (same_off (s3.trans s5) HM o)
        · rw [List.getElem?_append_right (by omega)] at e
          have h0 : s = ts.length := by
            have := (List.getElem?_eq_some_iff.mp e).1
            simp at this
            omega
          subst h0
          rw [Nat.sub_self] at e
          cases e
          rw [tl]
          exact wW.off (s3 _ _ e2)
    rintro H2 ⟨ts, s2, eHM, tl, tv⟩
    rw [Int.toNat_natCast] at tl
    have G2 := G1.same s2
    have tv' : ∀ (s : Nat) (wa : Addr), ts[s]? = some wa → WaysAt H2 wa L n (wyF us [s]) := fun s wa e => by
      have z := tv s wa e (.lst (ts.map V.ref))
      rw [upd_own eHM] at z
      exact z
    have eE : EdL H2 p n us := ⟨s2 _ _ e1, G2.gr.ed, G.rg⟩
    refine ⟨_, rfl, p, vsOf us, SqL, rfl, .inl rfl, SqL.of eE.ls, fun J wk => ?_⟩
    have lv : (vsOf us).length = us.length := by unfold vsOf; rw [List.length_map]
    refine gfor_it wk (fun i ys σ H' => ∃ (v4 v5 v6 v7 : Option V) (as : List Addr), σ = [some (.ref g), some (.int (L : Int)), some (.ref p), some (.ref HM), v4, v5, v6, v7, none] ∧ Same H2 H' ∧ ys = pre ++ as.map V.ref ∧ TW H' as (closedTo us L i)) ⟨none, none, none, none, [], rfl, fun _ _ z => z, by simp, True.intro⟩ (fun i ys σ H' _ pp => by obtain ⟨_, _, _, _, _, _, z, _⟩ := pp; exact SqL.of (z _ _ eE.ls)) ?_ ?_
    · rintro i x ys σ H3 H' hi ⟨v4, v5, v6, v7, as, rfl, s3, rfl, tw⟩ ⟨Ta, x, y, rfl, hT, rfl, gx, gy⟩
      obtain ⟨ee, hee, rfl⟩ := vsOf_at gy
      have ex : x = .int (i : Nat) := (Option.some.inj gx).symm
      subst ex
      rw [lv] at hi
      have s4 := s3.trans (same_upd (o := .tup [.int (i : Nat), .ref ee.1]) hT)
      have tw := tw.same (same_upd (o := .tup [.int (i : Nat), .ref ee.1]) hT)
      obtain ⟨t, at2, et, hs, ht⟩ := (eE.same s4).read hi
      have ht1 : t = ee.1 := by
        have z : atI (vsOf us) (i : Int) = some (.ref ee.1) := atI_nat (by unfold vsOf; rw [List.getElem?_map, hee]; rfl)
        rw [z] at at2
        cases at2
        rfl
      subst ht1
      refine ⟨Ta, _, rfl, SqT.of upd_same, rfl, _, _, rfl, _, _, rfl, ⟨ee.1, _, rfl, SqT.of et, rfl, _, _, rfl, _, _, rfl, rfl, ?_⟩⟩
      refine ⟨rfl, ?_⟩
      generalize upd H3 Ta (.tup [.int (i : Nat), .ref ee.1]) = H4 at *
      obtain ⟨wa, hwa⟩ : ∃ wa, ts[srcE us i]? = some wa := ⟨_, List.getElem?_eq_getElem (by omega)⟩
      refine ⟨_, rfl, _, rfl, HM, _, _, .ref wa, rfl, rfl, SqL.of (s4 _ _ eHM), atI_nat (by rw [List.getElem?_map, hwa]; rfl), ?_⟩
      have le := closedTo_le us L (i := i + 1) (m := us.length) hi
      rw [closedTo_succ, List.length_append] at le
      have tl' := tw.len
      refine ⟨_, rfl, _, rfl, _, rfl, p, wa, us, n, L, i, _, rfl, eE.same s4, G.m24, (tv' _ _ hwa).same s4, fun r s x hx => wyF_lt hx, fun r s => wyF_len us _ r s, L1, L40, hi, ?_, fun H6 bs s6 tb => ?_⟩
      · rw [List.length_append, List.length_map]
        omega
      · refine ⟨_, _, _, _, as ++ bs, rfl, s4.trans s6, ?_, ?_⟩
        · rw [List.map_append, List.append_assoc]
        · rw [closedTo_succ]
          exact (tw.same s6).app tb
    · rintro ys σ H4 ⟨v4, v5, v6, v7, as, rfl, s4, rfl, tw⟩
      rw [lv] at tw
      exact ⟨_, rfl, q H4 as (s1.trans (s2.trans s4)) tw⟩
end
end Lw
end
section
namespace Lw
open PySem L2
section
variable {us : Es} {s : Nat}
abbrev endsIn (us : Es) (s : Nat) (q : List Nat) : Bool := tgtE us (q.getLastD 0) == s
theorem last_snoc (p : List Nat) (m : Nat) : (p ++ [m]).getLastD 0 = m := by simp
theorem filter_flat {α β : Type} (f : α → List β) (c : β → Bool) : ∀ xs : List α, (xs.flatMap f).filter c = xs.flatMap fun x => (f x).filter c
  | [] => rfl
  | x :: xs => by rw [List.flatMap_cons, List.flatMap_cons, List.filter_append, filter_flat f c xs]
theorem flat_filter {α β : Type} (f g : α → List β) (h : α → Bool) : ∀ xs : List α, (∀ x ∈ xs, h x = true → f x = g x) → (∀ x ∈ xs, h x = false → g x = []) → (xs.filter h).flatMap f = xs.flatMap g
  | [], _, _ => rfl
  | x :: xs, h1, h2 => by
    have ih := flat_filter f g h xs (fun y hy => h1 y (List.mem_cons_of_mem _ hy)) fun y hy => h2 y (List.mem_cons_of_mem _ hy)
    cases hx : h x with
    | true => rw [List.filter_cons_of_pos hx, List.flatMap_cons, List.flatMap_cons, ih, h1 x List.mem_cons_self hx]
    | false => rw [List.filter_cons_of_neg (by rw [hx]; exact Bool.false_ne_true), List.flatMap_cons, ih, h2 x List.mem_cons_self hx]; rfl
theorem wx_ends : ∀ (r : Nat) (p : List Nat), (hopF us [s] r (tgtE us (p.getLastD 0)) = true → wx (wyF us [s]) (tgtE us) r p = (wx (fun _ => lvF us) (tgtE us) r p).filter (endsIn us s)) ∧
    (hopF us [s] r (tgtE us (p.getLastD 0)) = false → (wx (fun _ => lvF us) (tgtE us) r p).filter (endsIn us s) = [])
  | 0, p => by
    have e : hopF us [s] 0 (tgtE us (p.getLastD 0)) = endsIn us s p := by
      show decide (tgtE us (p.getLastD 0) ∈ [s]) = (tgtE us (p.getLastD 0) == s)
      rw [Bool.eq_iff_iff, decide_eq_true_iff, List.mem_singleton, beq_iff_eq]
    rw [e]
    constructor
    · intro h
      show [p] = [p].filter _
      rw [List.filter_cons_of_pos h]
      rfl
    · intro h
      show [p].filter _ = []
      rw [List.filter_cons_of_neg (by rw [h]; exact Bool.false_ne_true)]
      rfl
  | r + 1, p => by
    have main : wx (wyF us [s]) (tgtE us) (r + 1) p = (wx (fun _ => lvF us) (tgtE us) (r + 1) p).filter (endsIn us s) := by
      show (wyF us [s] r (tgtE us (p.getLastD 0))).flatMap (fun m => wx (wyF us [s]) (tgtE us) r (p ++ [m])) = ((lvF us (tgtE us (p.getLastD 0))).flatMap fun m => wx (fun _ => lvF us) (tgtE us) r (p ++ [m])).filter (endsIn us s)
      rw [filter_flat, ← wyF_lv]
      refine flat_filter _ _ _ _ (fun m _ hm => ?_) fun m _ hm => ?_
      · have ih := (wx_ends r (p ++ [m])).1
        rw [last_snoc] at ih
        exact ih hm
      · have ih := (wx_ends r (p ++ [m])).2
        rw [last_snoc] at ih
        exact ih hm
    refine ⟨fun _ => main, fun h => ?_⟩
    rw [← main]
    rw [hopF_succ] at h
    show (wyF us [s] r (tgtE us (p.getLastD 0))).flatMap _ = []
    cases hw : wyF us [s] r (tgtE us (p.getLastD 0)) with
    | nil => rfl
    | cons a t => rw [hw] at h; cases h
theorem walks_ends {L e : Nat} (h : 1 ≤ L) (he : e < us.length) : walksL (wyF us [srcE us e]) (srcE us) (tgtE us) L e = (wx (fun _ => lvF us) (tgtE us) (L - 1) [e]).filter (endsIn us (srcE us e)) := by
  obtain ⟨h1, h2⟩ := wx_ends (us := us) (s := srcE us e) (L - 1) [e]
  have hl : [e].getLastD 0 = e := rfl
  rw [hl] at h1 h2
  unfold walksL
  cases hp : hopF us [srcE us e] (L - 1) (tgtE us e) with
  | true =>
    have hm : e ∈ wyF us [srcE us e] (L - 1) (srcE us e) := List.mem_filter.mpr ⟨List.mem_range.mpr he, by rw [hp]; simp⟩
    rw [if_pos hm, ← h1 hp]
    show List.flatMap _ [[e]] = _
    rw [List.flatMap_singleton]
    rfl
  | false =>
    have hm : ¬ e ∈ wyF us [srcE us e] (L - 1) (srcE us e) := fun z => by
      have := (List.mem_filter.mp z).2
      rw [hp] at this
      simp at this
    rw [if_neg hm, h2 hp]
theorem wx_head (lv : Nat → List Nat) (tg : Nat → Nat) : ∀ (r : Nat) (p q : List Nat), p ≠ [] → q ∈ wx (fun _ => lv) tg r p → q.headD 0 = p.headD 0
  | 0, p, q, _, h => by rw [List.mem_singleton.mp h]
  | r + 1, p, q, hp, h => by
    obtain ⟨m, _, hm⟩ := List.mem_flatMap.mp h
    rw [wx_head lv tg r (p ++ [m]) q (by simp) hm]
    cases p with
    | nil => exact absurd rfl hp
    | cons a t => rfl
def closedP (us : Es) (q : List Nat) : Bool := tgtE us (q.getLastD 0) == srcE us (q.headD 0)
theorem closed_all {L : Nat} (h : 1 ≤ L) : closedTo us L us.length = (levP (lvF us) (tgtE us) us.length (L - 1)).filter (closedP us) := by
  rw [lev_wx, filter_flat]
  unfold closedTo
  refine flat_congr fun e he => ?_
  rw [walks_ends h (List.mem_range.mp he)]
  refine List.filter_congr fun q hq => ?_
  unfold closedP
  rw [wx_head _ _ _ _ _ (by simp) hq]
  rfl
end
end Lw
end
section
set_option autoImplicit false
namespace Lw
open PySem L2
section
variable {n : Nat} {us : Es}
theorem pwE_left {r i j : Nat} (hi : i < n) (hj : j < n) : sm n (fun t => cntN (psOf us) i t * pwE (n : Int) us r t j) = pwE (n : Int) us (r + 1) i j := by
  have e := pw_add (n := n) (fun a b => cntN (psOf us) a b) 1 r (i := i) (j := j) hj
  show sm n (fun t => cntN (psOf us) i t * pw n (fun a b => cntN (psOf us) a b) r t j) = pw n (fun a b => cntN (psOf us) a b) (r + 1) i j
  rw [Nat.add_comm r 1, e]
  exact sm_congr fun t _ => by rw [pw_one _ hi]
variable (rg : ∀ e ∈ us, 0 ≤ e.2.1 ∧ e.2.1 < n ∧ 0 ≤ e.2.2 ∧ e.2.2 < n)
include rg
theorem wx_cnt {s : Nat} (hs : s < n) : ∀ (r : Nat) (p : List Nat), tgtE us (p.getLastD 0) < n → ((wx (fun _ => lvF us) (tgtE us) r p).filter (endsIn us s)).length = pwE (n : Int) us r (tgtE us (p.getLastD 0)) s
  | 0, p, h => by
    show ([p].filter (endsIn us s)).length = if tgtE us (p.getLastD 0) = s then 1 else 0
    by_cases c : tgtE us (p.getLastD 0) = s
    · rw [if_pos c, List.filter_cons_of_pos (by simpa using c)]
      rfl
    · rw [if_neg c, List.filter_cons_of_neg (by simpa using c)]
      rfl
  | r + 1, p, h => by
    show (((lvF us (tgtE us (p.getLastD 0))).flatMap fun m => wx (fun _ => lvF us) (tgtE us) r (p ++ [m])).filter (endsIn us s)).length = _
    generalize ht : tgtE us (p.getLastD 0) = t at *
    rw [filter_flat, List.length_flatMap]
    have e : (lvF us t).map (fun m => ((wx (fun _ => lvF us) (tgtE us) r (p ++ [m])).filter (endsIn us s)).length) = (lvM us us.length t).map fun m => pwE (n : Int) us r (tgtE us m) s := by
      refine List.map_congr_left fun m hm => ?_
      have lt := lvF_lt hm
      have l := wx_cnt hs r (p ++ [m]) (by rw [List.getLastD_concat]; exact tgt_lt rg lt)
      rw [List.getLastD_concat] at l
      exact l
    rw [e, lv_sum rg (fun j => pwE (n : Int) us r j s) t us.length (Nat.le_refl _), show (psOf us).take us.length = psOf us from List.take_of_length_le (by unfold psOf; rw [List.length_map]; exact Nat.le_refl _)]
    exact pwE_left h hs
theorem closed_cnt {L : Nat} (h : 1 ≤ L) : (closedTo us L us.length).length = sm n fun i => pwE (n : Int) us L i i := by
  obtain ⟨r, rfl⟩ : ∃ r, L = r + 1 := ⟨L - 1, by omega⟩
  unfold closedTo
  rw [List.length_flatMap]
  have e : (List.range us.length).map (fun first => (walksL (wyF us [srcE us first]) (srcE us) (tgtE us) (r + 1) first).length) = (List.range us.length).map fun e => pwE (n : Int) us r (tgtE us e) (srcE us e) := by
    refine List.map_congr_left fun e he => ?_
    have he := List.mem_range.mp he
    rw [walks_ends h he]
    exact wx_cnt rg (src_lt rg he) r [e] (tgt_lt rg he)
  rw [e, ← all_sum rg _ us.length (Nat.le_refl _)]
  refine sm_congr fun i hi => ?_
  have e2 : (lvM us us.length i).map (fun e => pwE (n : Int) us r (tgtE us e) (srcE us e)) = (lvM us us.length i).map fun e => pwE (n : Int) us r (tgtE us e) i := by
    refine List.map_congr_left fun e he => ?_
    rw [show srcE us e = i from by simpa using (List.mem_filter.mp he).2]
  rw [e2, lv_sum rg (fun j => pwE (n : Int) us r j i) i us.length (Nat.le_refl _), show (psOf us).take us.length = psOf us from List.take_of_length_le (by unfold psOf; rw [List.length_map]; exact Nat.le_refl _)]
  exact pwE_left hi hi
end
def cdI (B : Int) (p : List Nat) : Int := TS.code B (p.map fun k => ((k : Nat) : Int))
theorem code_snoc (B : Int) : ∀ (xs : List Int) (a : Int), TS.code B (xs ++ [a]) = TS.code B xs * B + a
  | [], a => by
    show a * B ^ 0 + 0 = 0 * B + a
    simp
  | x :: xs, a => by
    have ih := code_snoc B xs a
    show x * B ^ (xs ++ [a]).length + TS.code B (xs ++ [a]) = (x * B ^ xs.length + TS.code B xs) * B + a
    rw [ih, List.length_append, List.length_singleton, Int.pow_succ, Int.add_mul, Int.mul_assoc]
    omega
theorem cdI_snoc (B : Int) (p : List Nat) (a : Nat) : cdI B (p ++ [a]) = cdI B p * B + (a : Int) := by
  unfold cdI
  rw [List.map_append]
  exact code_snoc B _ _
theorem lt_mul {B x y a b : Int} (hB : 0 < B) (h : x < y) (ha : a < B) (hb : 0 ≤ b) : x * B + a < y * B + b := by
  have h2 : (x + 1) * B ≤ y * B := Int.mul_le_mul_of_nonneg_right (by omega) (by omega)
  rw [Int.add_mul, Int.one_mul] at h2
  omega
theorem lev_asc {us : Es} {B : Int} (hB : 0 < B) (hm : (us.length : Int) ≤ B) : ∀ r : Nat, (levP (lvF us) (tgtE us) us.length r).Pairwise fun p q => cdI B p < cdI B q
  | 0 => by
    show ((List.range us.length).map fun e => [e]).Pairwise _
    rw [List.pairwise_map]
    refine (List.pairwise_lt_range (n := us.length)).imp fun {a b} h => ?_
    have e : ∀ k : Nat, cdI B [k] = (k : Int) := fun k => by
      show (k : Int) * B ^ 0 + 0 = k
      simp
    rw [e, e]
    omega
  | r + 1 => by
    show ((levP (lvF us) (tgtE us) us.length r).flatMap (extP (lvF us) (tgtE us))).Pairwise _
    rw [List.pairwise_flatMap]
    constructor
    · intro q _
      unfold extP
      rw [List.pairwise_map]
      have nl : (lvF us (tgtE us (q.getLastD 0))).Pairwise (· < ·) := (List.pairwise_lt_range (n := us.length)).sublist List.filter_sublist
      refine nl.imp fun {a b} h => ?_
      rw [cdI_snoc, cdI_snoc]
      omega
    · refine (lev_asc hB hm r).imp fun {p q} h x hx y hy => ?_
      obtain ⟨a, ha, rfl⟩ := List.mem_map.mp hx
      obtain ⟨b, hb, rfl⟩ := List.mem_map.mp hy
      have la := lvF_lt ha
      rw [cdI_snoc, cdI_snoc]
      exact lt_mul hB h (by omega) (by omega)
def rotP (p : List Nat) : List Nat := p.drop 1 ++ p.take 1
theorem rotP_len (p : List Nat) : (rotP p).length = p.length := by
  unfold rotP
  rw [List.length_append, List.length_drop, List.length_take]
  omega
theorem rotP_inj {p q : List Nat} (h : rotP p = rotP q) : p = q := by
  match p, q, h with
  | [], [], _ => rfl
  | [], b :: q, h => exact absurd (congrArg List.length h) (by rw [rotP_len, rotP_len]; simp)
  | a :: p, [], h => exact absurd (congrArg List.length h) (by rw [rotP_len, rotP_len]; simp)
  | a :: p, b :: q, h =>
    have h : p ++ [a] = q ++ [b] := h
    have h2 := congrArg List.dropLast h
    rw [List.dropLast_concat, List.dropLast_concat] at h2
    subst h2
    have h3 := List.append_cancel_left h
    injection h3 with h3
    rw [h3]
def clsL (us : Es) (L : Nat) : List (List Nat) := (win us L).filter (closedP us)
theorem closed_win {us : Es} {L : Nat} (h : 1 ≤ L) : closedTo us L us.length = clsL us L := closed_all h
theorem mem_cls {us : Es} {L : Nat} (h : 1 ≤ L) {p : List Nat} : p ∈ clsL us L ↔ p.length = L ∧ Lnk us p ∧ tgtE us (p.getLastD 0) = srcE us (p.headD 0) := by
  unfold clsL closedP
  rw [List.mem_filter, mem_win h, beq_iff_eq, and_assoc]
theorem rot_cls {us : Es} {L : Nat} (h : 1 ≤ L) {p : List Nat} (hp : p ∈ clsL us L) : rotP p ∈ clsL us L := by
  obtain ⟨h1, h2, h3⟩ := (mem_cls h).mp hp
  match p, h1, h2, h3 with
  | [], h1, _, _ => exact absurd h1 (by show ¬ 0 = L; omega)
  | a :: p, h1, h2, h3 =>
    have e : rotP (a :: p) = p ++ [a] := rfl
    refine (mem_cls h).mpr ⟨by rw [rotP_len, h1], ?_, ?_⟩
    · rw [e]
      refine lnk_snoc.mpr ⟨(lnk_app (q := [a]) (r := p) h2).2, lnk_lt h2 a List.mem_cons_self, fun ne => ?_⟩
      have h3 : tgtE us ((a :: p).getLastD 0) = srcE us a := h3
      rw [← h3]
      obtain ⟨b, q, rfl⟩ : ∃ b q, p = b :: q := by
        cases p with
        | nil => exact absurd rfl ne
        | cons b q => exact ⟨b, q, rfl⟩
      rfl
    · rw [e, List.getLastD_concat]
      match p, h2, h3 with
      | [], _, h3 => exact h3
      | b :: q, h2, _ => exact h2.2.1.symm
theorem cls_nodup {us : Es} {L : Nat} : (clsL us L).Nodup := (win_nodup (us := us) L).sublist List.filter_sublist
theorem rot_perm {us : Es} {L : Nat} (h : 1 ≤ L) : ((clsL us L).map rotP).Perm (clsL us L) := by
  have nd : ((clsL us L).map rotP).Nodup := by
    rw [List.nodup_iff_pairwise_ne, List.pairwise_map]
    exact (List.nodup_iff_pairwise_ne.mp cls_nodup).imp fun h z => h (rotP_inj z)
  have sub : ∀ x ∈ (clsL us L).map rotP, x ∈ clsL us L := fun x hx => by
    obtain ⟨p, hp, rfl⟩ := List.mem_map.mp hx
    exact rot_cls h hp
  refine (List.perm_ext_iff_of_nodup nd cls_nodup).mpr fun x => ⟨sub x, fun hx => ?_⟩
  by_cases c : x ∈ (clsL us L).map rotP
  · exact c
  · have := nodup_sub (xs := x :: (clsL us L).map rotP) (ys := clsL us L) (List.nodup_cons.mpr ⟨c, nd⟩) fun y hy => by
      rcases List.mem_cons.mp hy with rfl | hy
      · exact hx
      · exact sub y hy
    rw [List.length_cons, List.length_map] at this
    omega
theorem cls_asc {us : Es} {L : Nat} {B : Int} (hB : 0 < B) (hm : (us.length : Int) ≤ B) : (clsL us L).Pairwise fun p q => cdI B p < cdI B q := (lev_asc hB hm (L - 1)).sublist List.filter_sublist
theorem sort_uniq {B : Int} : ∀ {xs ys : List (List Nat)}, xs.Pairwise (fun p q => cdI B p < cdI B q) → ys.Perm xs → ys.Pairwise (fun p q => cdI B p ≤ cdI B q) → ys = xs
  | [], ys, _, pm, _ => pm.eq_nil
  | x :: xs, [], _, pm, _ => absurd pm.length_eq (by simp)
  | x :: xs, y :: ys, ax, pm, ay => by
    have e : y = x := by
      rcases List.mem_cons.mp (pm.mem_iff.mp List.mem_cons_self) with z | z
      · exact z
      · have l1 := (List.pairwise_cons.mp ax).1 y z
        rcases List.mem_cons.mp (pm.mem_iff.mpr (List.mem_cons_self (a := x) (l := xs))) with w | w
        · exact w.symm
        · have l2 := (List.pairwise_cons.mp ay).1 x w
          omega
    subst e
    rw [sort_uniq (List.pairwise_cons.mp ax).2 (pm.cons_inv) (List.pairwise_cons.mp ay).2]
end Lw
end
section
set_option maxHeartbeats 1000000
namespace Sg
open PySem L2 PyProof.Rows GenW Sf
open Sem (wp)
def Dead (N : Addr → Prop) (h : Heap) : Prop := ∀ b, N b → b < h.objs.size ∧ h.get? b = none
section
variable {N : Addr → Prop}
theorem Dead.update {h : Heap} {a : Addr} {f : Obj → Obj} (d : Dead N h) (ha : (h.get? a).isSome) : Dead N (h.update a f) := fun b hb => by
  obtain ⟨d1, d2⟩ := d b hb
  refine ⟨by rw [Heap.size_update]; exact d1, ?_⟩
  rw [Heap.get?_update_other _ _ (fun q => by rw [q, d2] at ha; cases ha)]
  exact d2
theorem Dead.push {h : Heap} {o : Obj} (d : Dead N h) : Dead N (h.push o) := fun b hb => by
  obtain ⟨d1, d2⟩ := d b hb
  refine ⟨by rw [Heap.size_push]; exact Nat.lt_succ_of_lt d1, ?_⟩
  cases e : (h.push o).get? b with
  | none => rfl
  | some q =>
    obtain ⟨e1, e2⟩ := Heap.get?_some_iff.mp e
    have e1 : (h.objs.push o)[b]? = some q := e1
    rw [Array.getElem?_push, if_neg (Nat.ne_of_lt d1)] at e1
    have := Heap.get?_some_iff.mpr ⟨e1, e2⟩
    rw [d2] at this
    cases this
variable {M : Model}
theorem runs_dead {Γ : Ctx} {p : Pos} {t : Sem PySem.Fin} {fs : List Frame} {s s' : Shared} {e : End} (h : Runs M Γ p t fs s e s') : Dead N s.heap → Dead N s'.heap := by
  induction h with
  | done => exact fun d => d
  | raise => exact fun d => d
  | «yield» => exact fun d => d
  | update ho h ih => exact fun d => ih (d.update ho)
  | alloc h ih => exact fun d => ih d.push
  | call h hk i1 i2 => exact fun d => i2 (i1 d)
  | resumeFresh hg h hq hk i1 i2 => exact fun d => i2 (i1 d)
  | resumeSuspended hg h hq hk i1 i2 => exact fun d => i2 (i1 d)
  | segRet h hk i1 i2 => exact fun d => i2 (i1 d)
  | segGen h hk i1 i2 => exact fun d => i2 (i1 d)
  | segSuspGen hsp h hq hk i1 i2 => exact fun d => i2 (i1 d)
  | _ =>
    rename_i ih
    exact fun d => ih d
theorem wakes_dead {Γ : Ctx} {p : Pos} {g : Nat} {r : Resume} {s s' : Shared} {res : GenResult} (h : Wakes M Γ p g r s res s') (d : Dead N s.heap) : Dead N s'.heap := by
  unfold Wakes at h
  split at h
  · exact h.elim
  · split at h
    · obtain ⟨e₁, s₁, hr, _, _, rfl⟩ := h
      exact (runs_dead hr d : Dead N s₁.heap)
    · rw [h.2]; exact d
    · rw [h.2]; exact d
  · obtain ⟨e₁, s₁, hr, _, _, rfl⟩ := h
    exact (runs_dead hr d : Dead N s₁.heap)
  · rw [h.2]; exact d
  · rw [h.2]; exact d
theorem wp_dead {α : Type} (Γ : Ctx) (t : Sem α) : ∀ {Q : α → Pos → Shared → Prop} {E : Value → Pos → Shared → Prop} {p : Pos} {s : Shared}, Dead N s.heap → wp M Γ t Q E p s →
    wp M Γ t (fun a p' s' => Dead N s'.heap ∧ Q a p' s') (fun e p' s' => Dead N s'.heap ∧ E e p' s') p s := by
  induction t with
  | pure a => exact fun d h => ⟨d, h⟩
  | raise e => exact fun d h => ⟨d, h⟩
  | load a _ k ih => exact fun d ⟨o, ho, h⟩ => ⟨o, ho, ih o d h⟩
  | update a _ f k ih => exact fun d h => ⟨h.1, ih () (d.update h.1) h.2⟩
  | alloc o k ih => exact fun d h => ih _ d.push h
  | choose src m k ih => exact fun d h => ⟨h.1, ih _ d h.2⟩
  | call c hd _ _ k ih => exact fun d ⟨r, s', hr, h⟩ => ⟨r, s', hr, ih r (runs_dead hr d) h⟩
  | genState g k ih => exact fun d ⟨st, hs, h⟩ => ⟨st, hs, ih _ d h⟩
  | resume g r _ k ih => exact fun d ⟨res, s', hw, h⟩ => ⟨res, s', hw, ih res (wakes_dead hw d) h⟩
  | unsupported _ => exact fun _ h => h
  | finish _ => exact fun _ h => h
  | register _ _ => exact fun _ h => h
  | «yield» _ _ _ _ => exact fun _ h => h
  | fork _ _ => exact fun _ h => h
  | await _ _ _ _ _ => exact fun _ h => h
  | _ =>
    rename_i ih
    exact fun d h => ih _ d h
theorem wpAny_dead {α : Type} {A : Around} {s : Shared} {t : Sem α} {Q : α → Shared → Prop} {E : Value → Shared → Prop} (d : Dead N s.heap) (h : wpAny M A t (fun a s' => Dead N s'.heap → Q a s') (fun e s' => Dead N s'.heap → E e s') s) : wpAny M A t Q E s :=
  wpAny_mono (fun Γ p hΓ => wp_dead Γ t d (h Γ p hΓ) : wpAny M A t (fun a s' => Dead N s'.heap ∧ (Dead N s'.heap → Q a s')) (fun e s' => Dead N s'.heap ∧ (Dead N s'.heap → E e s')) s) (fun _ _ x => x.2 x.1) fun _ _ x => x.2 x.1
theorem wpAny_gd {α : Type} {A : Around} {s : Shared} {t : Sem α} {Q : α → Shared → Prop} {E : Value → Shared → Prop} {n : Nat} (hn : n ≤ s.gens.size) (d : Dead N s.heap) (h : wpAny M A t (fun a s' => n ≤ s'.gens.size → Dead N s'.heap → Q a s') (fun e s' => n ≤ s'.gens.size → Dead N s'.heap → E e s') s) : wpAny M A t Q E s :=
  wpAny_gsz hn (wpAny_dead d (wpAny_mono h (fun _ _ q d' n' => q n' d') fun _ _ q d' n' => q n' d'))
end
end Sg
end
section
set_option maxHeartbeats 1000000
namespace Sg
open PySem L2 PyProof.Rows GenW Sf
def trunc (n : Nat) (h : Heap) : Heap := { h with objs := Array.ofFn (n := n) fun i => match h.get? i with | some o => o | none => { cls := .none, data := .freed } }
theorem trunc_size (n : Nat) (h : Heap) : (trunc n h).objs.size = n := by
  unfold trunc
  simp
theorem trunc_get {n : Nat} {h : Heap} {b : Addr} (hb : b < n) : (trunc n h).get? b = h.get? b := by
  cases e : h.get? b with
  | some o =>
    refine Heap.get?_some_iff.mpr ⟨?_, (Heap.get?_some_iff.mp e).2⟩
    unfold trunc
    simp [hb, e]
  | none =>
    cases q : (trunc n h).get? b with
    | none => rfl
    | some o =>
      obtain ⟨q1, q2⟩ := Heap.get?_some_iff.mp q
      unfold trunc at q1
      simp [hb, e] at q1
      rw [← q1] at q2
      simp [Obj.isFreed] at q2
theorem trunc_some {n : Nat} {h : Heap} {b : Addr} {o : Obj} (e : (trunc n h).get? b = some o) : b < n ∧ h.get? b = some o := by
  have l := Heap.lt_size e
  rw [trunc_size] at l
  exact ⟨l, by rw [← trunc_get l]; exact e⟩
def dz (sz : Nat) (h : Heap) : Addr → Prop := fun b => b < sz ∧ h.get? b = none
structure Rn (P : Program) (w : World) (base : Heap) (outer : List Env) (sz : Nat) (xw : Shared) (Hw : Hp) (cp : List (Addr × Obj)) (x : Shared) (H : Hp) : Prop where
  os : x.os = xw.os
  bare : AllBare x.gens
  lim : x.heap.NoLimit
  un : Un (frs outer) [] Hw H (trunc sz xw.heap) x.heap
  hok : HOk P w H x.heap
  pin : ∀ p ∈ cp, x.heap.get? p.1 = some p.2 ∧ H p.1 = none
  same : Same Hw H
  bs : ∀ b o, base.get? b = some o → x.heap.get? b = some o ∧ H b = none
  funs : x.heap.FunFrames base outer
  frf : ∀ b ∈ frs outer, H b = none
  dd : Dead (dz sz xw.heap) x.heap
structure Wk (P : Program) (w : World) (base : Heap) (outer : List Env) (Pv : Addr → Prop) (ad : Addr) (g : Nat) (x : Shared) (H : Hp) (x' : Shared) (H' : Hp) (cp : List (Addr × Obj)) : Prop where
  os : x'.os = x.os
  bare : AllBare x'.gens
  hok : HOk P w H' x'.heap
  same : Same H H'
  bs : ∀ b o, base.get? b = some o → x'.heap.get? b = some o ∧ H' b = none
  funs : x'.heap.FunFrames base outer
  frf : ∀ b ∈ frs outer, H' b = none
  priv : ∀ b o, Pv b → x.heap.get? b = some o → x'.heap.get? b = some o ∧ H' b = none
  slf : H' ad = none ∧ ∃ o, x'.heap.get? ad = some o ∧ GenO g o
  pin : ∀ p ∈ cp, x'.heap.get? p.1 = some p.2 ∧ H' p.1 = none ∧ ¬ Pv p.1 ∧ p.1 ≠ ad ∧ p.1 ∉ frs outer ∧ ∀ v, p.2.data ≠ .cell v
def IsSu : GenState → Prop
  | .suspended .. => True
  | _ => False
def YM (Z : Nat → Prop) (P : Program) (w : World) (base : Heap) (outer : List Env) (sz : Nat) (ad : Addr) (g : Nat) (B : Prop) (J : Nat → Shared → Hp → List (Addr × Obj) → Prop) (it : Nat → V → Hp → Prop) : Protocol := fun n _ u s kap =>
  ∃ (Hs : Nat → Prop) (i : Nat) (xw : Shared) (Hw : Hp) (cp : List (Addr × Obj)) (x : Shared) (H : Hp) (Pv : Addr → Prop) (v : V),
    n + 1 + i = sizeLine ∧ SH Z Hs x s ∧ ¬ Hs g ∧ (B → ∀ k, ¬ Hs k) ∧ (∀ k, Hs k → ∃ st, s.gens[k]? = some st ∧ IsSu st ∧ st.bare = true) ∧ J i xw Hw cp ∧ Rn P w base outer sz xw Hw cp x H ∧
    (∀ b, Pv b → sz ≤ b ∧ H b = none ∧ (∃ o, x.heap.get? b = some o) ∧ ∀ p ∈ cp, p.1 ≠ b) ∧ (sz ≤ ad ∧ H ad = none ∧ (∃ o, x.heap.get? ad = some o ∧ GenO g o) ∧ (∀ p ∈ cp, p.1 ≠ ad) ∧ ¬ Pv ad) ∧ RelV v u ∧ it i v H ∧
    ∀ (x' : Shared) (H' : Hp) (cp' : List (Addr × Obj)), Wk P w base outer Pv ad g x H x' H' cp' → (i + 1 < sizeLine → J (i + 1) x' H' cp') → ∀ s', SH Z Hs x' s' → Bk Hs s s' → kap (.send .none) s'
theorem Wk.idle {P : Program} {w : World} {base : Heap} {outer : List Env} {sz : Nat} {xw x : Shared} {Hw H : Hp} {cp : List (Addr × Obj)} {Pv : Addr → Prop} {ad : Addr} {g : Nat} (R : Rn P w base outer sz xw Hw cp x H) (hp : ∀ b, Pv b → H b = none) (hs : H ad = none ∧ ∃ o, x.heap.get? ad = some o ∧ GenO g o) : Wk P w base outer Pv ad g x H x H [] :=
  ⟨rfl, R.bare, R.hok, fun _ _ e => e, R.bs, R.funs, R.frf, fun b o h e => ⟨e, hp b h⟩, hs, fun p hp => by simp at hp⟩
theorem Wk.mono {P : Program} {w : World} {base : Heap} {outer : List Env} {Pv Pv' : Addr → Prop} {ad : Addr} {g : Nat} {x x' : Shared} {H H' : Hp} {cp : List (Addr × Obj)} (k : Wk P w base outer Pv ad g x H x' H' cp) (h : ∀ b, Pv' b → Pv b) : Wk P w base outer Pv' ad g x H x' H' cp :=
  ⟨k.os, k.bare, k.hok, k.same, k.bs, k.funs, k.frf, fun b o q => k.priv b o (h b q), k.slf, fun p hp => let ⟨a, b, c, d⟩ := k.pin p hp; ⟨a, b, fun q => c (h _ q), d⟩⟩
def RM (Z : Nat → Prop) (P : Program) (w : World) (base : Heap) (outer : List Env) (sz : Nat) (ad : Addr) (g : Nat) (J : Nat → Shared → Hp → List (Addr × Obj) → Prop) (dn : Nat → Hp → Prop) : GenEnd := fun n _ r s => r = .ok (.ret .none) ∧
  ∃ (i : Nat) (xw : Shared) (Hw : Hp) (cp : List (Addr × Obj)) (y : Shared) (H : Hp), n + i = sizeLine ∧ SR Z y s ∧ (i < sizeLine → J i xw Hw cp) ∧ Rn P w base outer sz xw Hw cp y H ∧ dn i H ∧ H ad = none ∧ ∃ o, y.heap.get? ad = some o ∧ GenO g o
abbrev re (X : Cx) (h : Heap) (H : Hp) : Cx := { X with s_0 := { X.s_0 with heap := h }, H_0 := H }
noncomputable def dl (H : Hp) (Dp : Addr → Prop) : Hp := fun b => by
  classical
  exact if Dp b then none else H b
theorem dl_yes {H : Hp} {Dp : Addr → Prop} {b : Addr} (q : Dp b) : dl H Dp b = none := if_pos q
theorem dl_no {H : Hp} {Dp : Addr → Prop} {b : Addr} (q : ¬ Dp b) : dl H Dp b = H b := if_neg q
section
variable {X : Cx} {pins : List (Addr × Obj)} {σ : L2.St} {H : Hp} {s : Shared} {Dp : Addr → Prop}
theorem Inv.dropped (I : Inv X pins σ H s) (hd : ∀ b, Dp b → (∃ xs, H b = some (.lst xs)) ∨ ∃ φ, H b = some (.ext φ)) : Inv X pins σ (dl H Dp) s := by
  have no : ∀ b u, H b = some u → (∀ xs, u ≠ .lst xs) → (∀ φ, u ≠ .ext φ) → dl H Dp b = some u := fun b u e h1 h2 => by
    rw [dl_no fun q => by
      rcases hd b q with ⟨xs, z⟩ | ⟨φ, z⟩
      · rw [e] at z; cases z; exact h1 _ rfl
      · rw [e] at z; cases z; exact h2 _ rfl]
    exact e
  have none' : ∀ b, H b = none → dl H Dp b = none := fun b e => by
    by_cases q : Dp b
    · exact dl_yes q
    · rw [dl_no q]; exact e
  refine ⟨I.ok, I.os, I.bare, ⟨I.base.keep, I.base.slot, fun b o e n hx => none' b (I.base.free b o e n hx), I.base.there, fun b xs e => no _ _ (I.base.tups b xs e) (fun _ z => by cases z) (fun _ z => by cases z), fun b o u e => no _ _ (I.base.frzs b o u e) (fun _ z => by cases z) (fun _ z => by cases z), fun b ps e => let ⟨m, q⟩ := I.base.tbls b ps e; ⟨m, no _ _ q (fun _ z => by cases z) (fun _ z => by cases z)⟩⟩, I.loc, I.cell, none' _ I.free, fun y c e => none' _ (I.freeC y c e), fun p hq => ?_, fun a o e => ?_, I.len⟩
  · obtain ⟨p1, p2, p3⟩ := I.pin p hq
    exact ⟨p1, none' _ p2, p3⟩
  · by_cases q : Dp a
    · rw [dl_yes q] at e; cases e
    · rw [dl_no q] at e
      exact (I.hok a o e).stay (fun _ _ _ z => z) (fun b z => no _ _ z (fun _ z => by cases z) (fun _ z => by cases z)) fun b xs z => no _ _ z (fun _ z => by cases z) (fun _ z => by cases z)
end
theorem Inv.ran {X : Cx} {pins cp : List (Addr × Obj)} {σ : L2.St} {Hw H : Hp} {xw x : Shared} {sz : Nat} (I : Inv X pins σ Hw xw) (R : Rn X.prog X.w X.base X.stack sz xw Hw cp x H) (h0 : X.s_0.heap.objs.size ≤ sz) (hL : X.env.locals < sz) (hc : ∀ y c, X.env.cells.lookup y = some c → c < sz)
    (hp : ∀ p ∈ X.pn ++ pins, p ∈ cp ∨ p.1 < sz) : Inv X pins σ H x := by
  have key : ∀ b o, b < sz → xw.heap.get? b = some o → Hw b = none → b ∉ frs X.stack → x.heap.get? b = some o := fun b o hb e n hf => R.un.keep b o (by rw [trunc_get hb]; exact e) n hf (by simp)
  have fr : ∀ b o, b < sz → xw.heap.get? b = some o → Hw b = none → H b = none := fun b o hb e n => R.un.free b o (by rw [trunc_get hb]; exact e) n (by simp)
  obtain ⟨hh, gg, d, t, os⟩ := x
  have eos : os = xw.os := R.os
  subst eos
  have sc : ∀ b ∈ (List.range xw.heap.objs.size).filter (fun b => decide (sz ≤ b) && decide (∀ p ∈ X.pn ++ pins, p.1 ≠ b)), sz ≤ b ∧ ∀ p ∈ X.pn ++ pins, p.1 ≠ b := fun b hb => by
    obtain ⟨_, h⟩ := List.mem_filter.mp hb
    rw [Bool.and_eq_true, decide_eq_true_iff, decide_eq_true_iff] at h
    exact h
  have out : ∀ b o, xw.heap.get? b = some o → b ∉ (List.range xw.heap.objs.size).filter (fun b => decide (sz ≤ b) && decide (∀ p ∈ X.pn ++ pins, p.1 ≠ b)) → b < sz ∨ ∃ p ∈ X.pn ++ pins, p.1 = b := fun b o e hb => by
    by_cases h : b < sz
    · exact .inl h
    · refine .inr (Classical.byContradiction fun hn => hb (List.mem_filter.mpr ⟨List.mem_range.mpr (Heap.lt_size e), ?_⟩))
      rw [Bool.and_eq_true, decide_eq_true_iff, decide_eq_true_iff]
      exact ⟨Nat.le_of_not_lt h, fun p hp q => hn ⟨p, hp, q⟩⟩
  have pk : ∀ p ∈ X.pn ++ pins, hh.get? p.1 = some p.2 ∧ H p.1 = none := fun p hp' => by
    rcases hp p hp' with h | h
    · exact R.pin p h
    · obtain ⟨e, n, ne, nf, _⟩ := I.pin p hp'
      refine ⟨key p.1 p.2 h e n fun hm => ?_, fr p.1 p.2 h e n⟩
      exact (List.mem_cons.mp (I.stkSub _ hm)).elim ne nf
  have pk2 : ∀ b o, xw.heap.get? b = some o → (∃ p ∈ X.pn ++ pins, p.1 = b) → hh.get? b = some o ∧ H b = none := fun b o e ⟨p, hp', q⟩ => by
    subst q
    have := (I.pin p hp').1
    rw [e] at this
    cases this
    exact pk p hp'
  refine Inv.call (ch := (List.range xw.heap.objs.size).filter (fun b => decide (sz ≤ b) && decide (∀ p ∈ X.pn ++ pins, p.1 ≠ b))) I ⟨fun b o e n hf hx => ?_, fun b o e n hf hx => ?_, fun b o e n hx => ?_, fun b o e hx => ?_, R.un.tups, R.un.frzs, R.un.tbls⟩ R.hok R.bare fun b hb => ?_
  · rcases out b o e hx with h | h
    · exact key b o h e n hf
    · exact (pk2 b o e h).1
  · rcases out b o e hx with h | h
    · exact R.un.slot b o (by rw [trunc_get h]; exact e) n hf (by simp)
    · exact ⟨o.slots, (pk2 b o e h).1⟩
  · rcases out b o e hx with h | h
    · exact fr b o h e n
    · exact (pk2 b o e h).2
  · rcases out b o e hx with h | h
    · exact R.un.there b o (by rw [trunc_get h]; exact e) (by simp)
    · exact ⟨o, (pk2 b o e h).1⟩
  · obtain ⟨h1, h2⟩ := sc b hb
    exact ⟨.inr (Nat.le_trans h0 h1), Nat.ne_of_gt (Nat.lt_of_lt_of_le hL h1), fun y c e => Nat.ne_of_lt (Nat.lt_of_lt_of_le (hc y c e) h1), h2⟩
def Own (X : Cx) (ip : List (Addr × Obj)) : Addr → Prop := fun b => b = X.env.locals ∨ (∃ y, X.env.cells.lookup y = some b) ∨ ∃ p ∈ ip, p.1 = b
def GV (X : Cx) (ad : Addr) (g : Nat) (cp ip : List (Addr × Obj)) (σ : L2.St) (H : Hp) (x : Shared) : Prop := ∃ o, GenO g o ∧ Inv X ((ad, o) :: (cp ++ ip)) σ H x
theorem GV.woken {X : Cx} {h0 : Heap} {H0 : Hp} {ad : Addr} {g sz : Nat} {cp cp' ip : List (Addr × Obj)} {σ : L2.St} {H H' : Hp} {x x' : Shared} (hsz : X.env.locals = sz) (hpn : X.pn = []) (hex : X.ex = []) (hfn : ∀ y c, X.env.cells.lookup y = some c → sz ≤ c) (hfr : ∀ b ∈ frs X.outer, b < sz) (hbz : X.base.objs.size ≤ sz) (hos : X.s_0.os = x.os)
    (h : GV (re X h0 H0) ad g cp ip σ H x) (k : Wk X.prog X.w X.base X.outer (Own X ip) ad g x H x' H' cp') : GV (re X (trunc sz x'.heap) H') ad g cp' ip σ H' x' := by
  obtain ⟨o, go, I⟩ := h
  have priv := k.priv
  have own : ∀ b ob, Own X ip b → x.heap.get? b = some ob → x'.heap.get? b = some ob ∧ H' b = none := priv
  obtain ⟨m, ⟨oL, es, ep, hoL, dL, rL⟩, hl⟩ := id I.loc
  have hoL : x.heap.get? X.env.locals = some oL := hoL
  have kL := own X.env.locals oL (.inl rfl) hoL
  have cell : ∀ y c v, X.env.cells.lookup y = some c → x.heap.IsCell c v → x'.heap.IsCell c v ∧ H' c = none := fun y c v e ⟨ob, ho, hd⟩ => by
    have q := own c ob (.inr (.inl ⟨y, e⟩)) ho
    exact ⟨⟨ob, q.1, hd⟩, q.2⟩
  obtain ⟨sl, o', eo', go'⟩ := k.slf
  have fq : ∀ b o, (trunc sz x'.heap).get? b = some o → x'.heap.get? b = some o := fun b o e => (trunc_some e).2
  have okX : (re X (trunc sz x'.heap) H').Ok := by
    refine ⟨I.ok.mod, I.ok.kind, I.ok.glob, I.ok.blt, ?_, I.ok.inj, I.ok.has, fun y c _ e => ?_, I.ok.hd, I.ok.frames, I.ok.stk, fun b hb => ?_, fun b ob e => ?_, ?_, fun b ob e hb => ?_, fun b hb => ?_, ?_, fun b hb => ?_⟩
    · show (trunc sz x'.heap).objs.size ≤ X.env.locals
      rw [trunc_size, hsz]
      exact Nat.le_refl _
    · show (trunc sz x'.heap).objs.size ≤ c
      rw [trunc_size]
      exact hfn y c e
    · have hb : b ∈ X.ex := hb
      rw [hex] at hb; simp at hb
    · have e : X.base.get? b = some ob := e
      have lt : b < sz := Nat.lt_of_lt_of_le (Heap.lt_size e) hbz
      exact ⟨by show (trunc sz x'.heap).get? b = _; rw [trunc_get lt]; exact (k.bs b ob e).1, (k.bs b ob e).2⟩
    · show X.base.objs.size ≤ (trunc sz x'.heap).objs.size
      rw [trunc_size]
      exact hbz
    · have hb : b ∈ X.ex := hb
      rw [hex] at hb; simp at hb
    · have hb : b ∈ X.ex := hb
      rw [hex] at hb; simp at hb
    · show (trunc sz x'.heap).FunFrames X.base X.outer
      have all : ∀ l : List Env, (∀ b ∈ frs l, b < sz) → x'.heap.FunFrames X.base l → (trunc sz x'.heap).FunFrames X.base l := by
        intro l
        induction l with
        | nil => intro _ _; trivial
        | cons env r ih =>
          intro hs hl
          obtain ⟨hk, ⟨L, ob, hf, hn, ho, hd⟩, hr⟩ := hl
          have hL : L < sz := hs L (by unfold frs; rw [List.filterMap_cons, hf]; exact List.mem_cons_self)
          exact ⟨hk, ⟨L, ob, hf, hn, by rw [trunc_get hL]; exact ho, hd⟩, ih (fun b hb => hs b (by unfold frs; rw [List.filterMap_cons, hf]; exact List.mem_cons_of_mem _ hb)) hr⟩
      exact all X.outer hfr k.funs
    · exact k.frf b hb
  refine ⟨o', go', okX, ?_, k.bare, ⟨fun b ob e _ _ _ => fq b ob e, fun b ob e _ _ _ => ⟨ob.slots, fq b ob e⟩, fun _ _ _ n _ => n, fun b ob e _ => ⟨ob, fq b ob e⟩, fun _ _ q => q, fun _ _ _ q => q, fun b ps q => ⟨#[], by have q : H' b = some (.tbl ps) := q; rw [q]; simp⟩⟩, ⟨m, ⟨oL, es, ep, kL.1, dL, rL⟩, fun i y v e1 e2 e3 => ?_⟩, fun y c e => ?_, kL.2, fun y c e => ?_, fun p hp => ?_, k.hok, I.len⟩
  · show x'.os = X.s_0.os
    rw [hos]
    exact k.os
  · obtain ⟨u, r, l⟩ := hl i y v e1 e2 e3
    refine ⟨u, r, ?_⟩
    rcases l with l | ⟨kk, c, e, z⟩
    · exact .inl l
    · exact .inr ⟨kk, c, e, (cell y c _ e z).1⟩
  · obtain ⟨v, z⟩ := I.cell y c e
    exact ⟨v, (cell y c v e z).1⟩
  · obtain ⟨v, z⟩ := I.cell y c e
    exact (cell y c v e z).2
  · have hp : p ∈ X.pn ++ ((ad, o') :: (cp' ++ ip)) := hp
    rw [hpn, List.nil_append] at hp
    have adp := I.pin (ad, o) (List.mem_append_right _ List.mem_cons_self)
    rcases List.mem_cons.mp hp with e | hp
    · rw [e]
      refine ⟨eo', sl, adp.2.2.1, adp.2.2.2.1, fun v q => ?_⟩
      obtain ⟨_, ⟨nm, qn, hd⟩, _⟩ := go'
      have q : o'.data = .cell v := q
      rw [hd] at q; cases q
    · rcases List.mem_append.mp hp with hp | hp
      · obtain ⟨p1, p2, p3, p4, p5, p6⟩ := k.pin p hp
        exact ⟨p1, p2, fun e => p3 (.inl e), p5, p6⟩
      · obtain ⟨p1, p2, p3, p4, p5⟩ := I.pin p (List.mem_append_right _ (List.mem_cons_of_mem _ (List.mem_append_right _ hp)))
        have q := own p.1 p.2 (.inr (.inr ⟨p, hp, rfl⟩)) p1
        exact ⟨q.1, q.2, p3, p4, p5⟩
end Sg
end
section
set_option maxHeartbeats 1000000
namespace Sg
open PySem L2 PyProof.Rows GenW Sf
structure GE where
  nx : Nat → Hp → L2.St → Hp → Prop
  bk : Nat → Hp → L2.St → Hp → Prop := fun _ _ _ _ => False
  ct : Nat → Hp → L2.St → Hp → Prop := fun _ _ _ _ => False
  rt : Nat → Hp → V → Hp → Prop
  it : Nat → V → Hp → Prop
def GE.at (D : GE) (i : Nat) (hw : Hp) : Ends := { nx := D.nx i hw, bk := D.bk i hw, ct := D.ct i hw, rt := D.rt i hw }
abbrev TGm := GE → Nat → Hp → L2.St → Hp → Prop
structure Wm where
  xw : Shared
  Hw : Hp
  cp : List (Addr × Obj)
structure GS (X : Cx) (ad : Addr) (g sz : Nat) (J : Nat → Shared → Hp → List (Addr × Obj) → Prop) (i : Nat) (m : Wm) (ip : List (Addr × Obj)) (σ : L2.St) (H : Hp) (x : Shared) : Prop where
  j : i < sizeLine → J i m.xw m.Hw m.cp
  v : GV (re X (trunc sz m.xw.heap) m.Hw) ad g m.cp ip σ H x
  os : m.xw.os = X.s_0.os
  dj : ∀ p ∈ m.cp, p.1 ≠ ad ∧ ∀ q ∈ ip, p.1 ≠ q.1
  dd : Dead (dz sz m.xw.heap) x.heap
structure Sd (mk : Prop) (X : Cx) (ad : Addr) (g sz : Nat) (B : Prop) (ip : List (Addr × Obj)) (A : Around) (c : Code) (fs : List Frame) (gd : Bool → Bool) : Prop where
  pn : X.pn = []
  ex : X.ex = []
  lo : X.env.locals = sz
  fn : ∀ y c, X.env.cells.lookup y = some c → sz ≤ c
  fr : ∀ b ∈ frs X.outer, b < sz
  bz : X.base.objs.size ≤ sz
  aO : sz ≤ ad ∧ ad ≠ X.env.locals ∧ ∀ y c, X.env.cells.lookup y = some c → c ≠ ad
  ip : ∀ p ∈ ip, sz ≤ p.1 ∧ p.1 ≠ ad
  over : A.over c fs = X.A
  split : splitAtGen fs = none
  guard : fs.any Frame.guarded = false
  gd : gd false = false
  nx : ∀ e s, ¬ X.xe e s
  mkd : B → mk
def GP (X : Cx) (ad : Addr) (g sz : Nat) (J : Nat → Shared → Hp → List (Addr × Obj) → Prop) (ip : List (Addr × Obj)) (D : GE) (i : Nat) (m : Wm) (f : Flow) (x : Shared) : Prop :=
  match f with
  | .next => ∃ σ H, GS X ad g sz J i m ip σ H x ∧ D.nx i m.Hw σ H
  | .brk => ∃ σ H, GS X ad g sz J i m ip σ H x ∧ D.bk i m.Hw σ H
  | .cont => ∃ σ H, GS X ad g sz J i m ip σ H x ∧ D.ct i m.Hw σ H
  | .ret u => ∃ v σ H, GS X ad g sz J i m ip σ H x ∧ RelV v u ∧ D.rt i m.Hw v H
abbrev Gt (Z : Nat → Prop) (X : Cx) (ad : Addr) (g sz : Nat) (B : Prop) (J : Nat → Shared → Hp → List (Addr × Obj) → Prop) (it : Nat → V → Hp → Prop) (R : GenEnd) (A : Around) (n : Nat) (c : Code) (fs : List Frame) (t : Sem PySem.Fin) (x : Shared) : Prop :=
  ∀ s₀ s, SR Z x s → g < s.gens.size → Seg (mp X.prog X.w) A R (YM Z X.prog X.w X.base X.outer sz ad g B J it) n s₀ c t fs s
structure GB (mk : Prop) (X : Cx) (st : Stmt) (t : TGm) : Prop where
  run : ∀ (Z : Nat → Prop) (A : Around) (ad : Addr) (g sz : Nat) (B : Prop) (J : Nat → Shared → Hp → List (Addr × Obj) → Prop) (R : GenEnd) (n i : Nat) (m : Wm) (ip : List (Addr × Obj)) (x : Shared) (σ : L2.St) (H : Hp) (D : GE) (c : Code) (fs : List Frame) (K : Flow → Sem PySem.Fin) (Jx : Value → Sem PySem.Fin) (gd : Bool → Bool) (lv : List Value → List Value),
    Sd mk X ad g sz B ip A c fs gd → n + i = sizeLine → (∀ n i m y f, n + i = sizeLine → GP X ad g sz J ip D i m f y → Gt Z X ad g sz B J D.it R A n c fs (K f) y) → GS X ad g sz J i m ip σ H x → t D i m.Hw σ H → Gt Z X ad g sz B J D.it R A n c fs ((exec st X.env).wrap K Jx gd lv) x
structure GBs (mk : Prop) (X : Cx) (st : List Stmt) (t : TGm) : Prop where
  run : ∀ (Z : Nat → Prop) (A : Around) (ad : Addr) (g sz : Nat) (B : Prop) (J : Nat → Shared → Hp → List (Addr × Obj) → Prop) (R : GenEnd) (n i : Nat) (m : Wm) (ip : List (Addr × Obj)) (x : Shared) (σ : L2.St) (H : Hp) (D : GE) (c : Code) (fs : List Frame) (K : Flow → Sem PySem.Fin) (Jx : Value → Sem PySem.Fin) (gd : Bool → Bool) (lv : List Value → List Value),
    Sd mk X ad g sz B ip A c fs gd → n + i = sizeLine → (∀ n i m y f, n + i = sizeLine → GP X ad g sz J ip D i m f y → Gt Z X ad g sz B J D.it R A n c fs (K f) y) → GS X ad g sz J i m ip σ H x → t D i m.Hw σ H → Gt Z X ad g sz B J D.it R A n c fs ((execs st X.env).wrap K Jx gd lv) x
def tPl (tt : Heap → Hp → TS) : TGm := fun D i hw σ H => ∀ h0 H0, tt h0 H0 (D.at i hw) σ H
def tG0 : TGm := fun D i hw σ H => D.nx i hw σ H
def tGc (t u : TGm) : TGm := fun D i hw σ H => t { D with nx := fun i hw σ H => u D i hw σ H } i hw σ H
def tIf (c : Heap → Hp → TT) (t u : TGm) : TGm := fun D i hw σ H => ∀ h0 H0, c h0 H0 σ H fun b H1 => if b = true then t D i hw σ H1 else u D i hw σ H1
noncomputable def rs (H' H1 : Hp) (M : Addr → Prop) : Hp := fun b => by
  classical
  exact if M b then H1 b else H' b
theorem rs_yes {H' H1 : Hp} {M : Addr → Prop} {b : Addr} (q : M b) : rs H' H1 M b = H1 b := if_pos q
theorem rs_no {H' H1 : Hp} {M : Addr → Prop} {b : Addr} (q : ¬ M b) : rs H' H1 M b = H' b := if_neg q
def tYd (te : Heap → Hp → TE) : TGm := fun D i hw σ H => i < sizeLine ∧ ∀ h0 H0, te h0 H0 σ H fun z H1 => ∃ M : Addr → Prop, (∀ b, M b → hw b = none ∧ ∃ xs, H1 b = some (.lst xs)) ∧ Same hw (dl H1 M) ∧ D.it i z (dl H1 M) ∧ ∀ H', Same (dl H1 M) H' → (∀ b, M b → H' b = none) → D.nx (i + 1) H' σ (rs H' H1 M)
section
variable {mk : Prop} {X : Cx} {st : Stmt} {rest : List Stmt} {t u : TGm} {pos : Pos}
theorem GS.inv {ad : Addr} {g sz : Nat} {J : Nat → Shared → Hp → List (Addr × Obj) → Prop} {i : Nat} {m : Wm} {ip : List (Addr × Obj)} {σ : L2.St} {H : Hp} {x : Shared} (h : GS X ad g sz J i m ip σ H x) : ∃ o, GenO g o ∧ Inv (re X (trunc sz m.xw.heap) m.Hw) ((ad, o) :: (m.cp ++ ip)) σ H x := h.v
theorem sp_gp {ad : Addr} {g sz : Nat} {J : Nat → Shared → Hp → List (Addr × Obj) → Prop} {i : Nat} {m : Wm} {ip : List (Addr × Obj)} {σ : L2.St} {H : Hp} {x y : Shared} {o : Obj} {D : GE} {f : Flow} (hs : GS X ad g sz J i m ip σ H x) (go : GenO g o) (dd : Dead (dz sz m.xw.heap) y.heap)
    (h : SP (re X (trunc sz m.xw.heap) m.Hw) ((ad, o) :: (m.cp ++ ip)) (D.at i m.Hw) f y) : GP X ad g sz J ip D i m f y := by
  cases f with
  | next => obtain ⟨σ, H, I, q⟩ := h; exact ⟨σ, H, ⟨hs.j, ⟨o, go, I⟩, hs.os, hs.dj, dd⟩, q⟩
  | brk => obtain ⟨σ, H, I, q⟩ := h; exact ⟨σ, H, ⟨hs.j, ⟨o, go, I⟩, hs.os, hs.dj, dd⟩, q⟩
  | cont => obtain ⟨σ, H, I, q⟩ := h; exact ⟨σ, H, ⟨hs.j, ⟨o, go, I⟩, hs.os, hs.dj, dd⟩, q⟩
  | ret v => obtain ⟨z, σ, H, I, r1, q⟩ := h; exact ⟨z, σ, H, ⟨hs.j, ⟨o, go, I⟩, hs.os, hs.dj, dd⟩, r1, q⟩
theorem gb_plain {tt : Heap → Hp → TS} (h : ∀ h0 H0, QS (re X h0 H0) st (tt h0 H0)) : GB mk X st (tPl tt) := by
  refine ⟨fun Z A ad g sz B J R n i m ip x σ H D c fs K Jx gd lv sd hn k hV ht s₀ s hs hg => ?_⟩
  obtain ⟨o, go, I⟩ := hV.inv
  refine seg_wrap ?_
  rw [sd.over]
  exact wpAny_gd (n := g + 1) (N := dz sz m.xw.heap) hg (by rw [hs.heap]; exact hV.dd) (wpAny_mono ((h _ _).run Z _ x σ H (D.at i m.Hw) I (ht _ _) s hs) (fun f s' ⟨y, hy, q⟩ hg' dd => k n i m y f hn (sp_gp hV go (by rw [← hy.heap]; exact dd) q) s₀ s' hy hg') fun e s' ⟨y, _, q⟩ => (sd.nx e y q).elim)
theorem gbs_nil : GBs mk X [] tG0 := ⟨fun Z A ad g sz B J R n i m ip x σ H D c fs K Jx gd lv sd hn k hV ht s₀ s hs hg => seg_execs_nil (k n i m x .next hn ⟨σ, H, hV, ht⟩ s₀ s hs hg)⟩
theorem gbs_cons (a : GB mk X st t) (b : GBs mk X rest u) : GBs mk X (st :: rest) (tGc t u) := by
  refine ⟨fun Z A ad g sz B J R n i m ip x σ H D c fs K Jx gd lv sd hn k hV ht s₀ s hs hg => seg_execs_cons ?_⟩
  refine a.run Z A ad g sz B J R n i m ip x σ H { D with nx := fun i hw σ' H' => u D i hw σ' H' } c fs _ Jx gd lv sd hn (fun n' i' m' y f hn' q => ?_) hV ht s₀ s hs hg
  cases f with
  | next =>
    obtain ⟨σ', H', V', q⟩ := q
    exact b.run Z A ad g sz B J R n' i' m' ip y σ' H' D c fs K Jx gd lv sd hn' k V' q
  | brk => exact k n' i' m' y .brk hn' q
  | cont => exact k n' i' m' y .cont hn' q
  | ret v => exact k n' i' m' y (.ret v) hn' q
theorem gbs_one (a : GB mk X st t) : GBs mk X [st] (tGc t tG0) := gbs_cons a gbs_nil
theorem gb_if {e : Expr} {a b : List Stmt} {tc : Heap → Hp → TT} (hc : ∀ h0 H0, QT (re X h0 H0) e (tc h0 H0)) (ha : GBs mk X a t) (hb : GBs mk X b u) : GB mk X (.If e a b pos) (tIf tc t u) := by
  refine ⟨fun Z A ad g sz B J R n i m ip x σ H D c fs K Jx gd lv sd hn k hV ht s₀ s hs hg => seg_if ?_⟩
  obtain ⟨o, go, I⟩ := hV.inv
  rw [sd.over]
  refine wpAny_gd (n := g + 1) (N := dz sz m.xw.heap) hg (by rw [hs.heap]; exact hV.dd) (wpAny_mono ((hc _ _).run Z _ x σ H _ I (ht _ _) s hs) (fun d s' ⟨y, hy, H1, I1, q⟩ hg' dd => ?_) fun e s' ⟨y, _, q⟩ => (sd.nx e y q).elim)
  cases d with
  | true => exact ha.run Z A ad g sz B J R n i m ip y σ H1 D c fs K Jx gd lv sd hn k ⟨hV.j, ⟨o, go, I1⟩, hV.os, hV.dj, by rw [← hy.heap]; exact dd⟩ q s₀ s' hy hg'
  | false => exact hb.run Z A ad g sz B J R n i m ip y σ H1 D c fs K Jx gd lv sd hn k ⟨hV.j, ⟨o, go, I1⟩, hV.os, hV.dj, by rw [← hy.heap]; exact dd⟩ q s₀ s' hy hg'
theorem GS.rn {ad : Addr} {g sz : Nat} {J : Nat → Shared → Hp → List (Addr × Obj) → Prop} {i : Nat} {m : Wm} {ip : List (Addr × Obj)} {σ : L2.St} {H : Hp} {x : Shared} (h : GS X ad g sz J i m ip σ H x) (ex : X.ex = []) (sm : Same m.Hw H) : Rn X.prog X.w X.base X.outer sz m.xw m.Hw m.cp x H := by
  obtain ⟨o, go, I⟩ := h.inv
  have b := I.base
  have e1 : (re X (trunc sz m.xw.heap) m.Hw).ex = [] := ex
  rw [e1] at b
  have b' : ∀ c ∈ frs X.outer, ∀ ob, (trunc sz m.xw.heap).get? c = some ob → H c = none := fun c hc ob e => b.free c ob e (I.ok.frf c hc) (by simp)
  exact ⟨I.os.trans h.os.symm, I.bare, I.nolimit, b, I.hok, fun p hp => let z := I.pin p (List.mem_append_right _ (List.mem_cons_of_mem _ (List.mem_append_left _ hp))); ⟨z.1, z.2.1⟩, sm, I.bs, I.funs, fun b hb => by
    obtain ⟨_, ob, ho, _⟩ := I.ok.funs.mem hb
    exact b' b hb ob ho, h.dd⟩
theorem GS.own {ad : Addr} {g sz : Nat} {B : Prop} {A : Around} {c : Code} {fs : List Frame} {gd : Bool → Bool} {J : Nat → Shared → Hp → List (Addr × Obj) → Prop} {i : Nat} {m : Wm} {ip : List (Addr × Obj)} {σ : L2.St} {H : Hp} {x : Shared} (h : GS X ad g sz J i m ip σ H x) (sd : Sd mk X ad g sz B ip A c fs gd) :
    (∀ b, Own X ip b → sz ≤ b ∧ H b = none ∧ (∃ o, x.heap.get? b = some o) ∧ ∀ p ∈ m.cp, p.1 ≠ b) ∧ (sz ≤ ad ∧ H ad = none ∧ (∃ o, x.heap.get? ad = some o ∧ GenO g o) ∧ (∀ p ∈ m.cp, p.1 ≠ ad) ∧ ¬ Own X ip ad) := by
  obtain ⟨o, go, I⟩ := h.inv
  have po := I.pin (ad, o) (List.mem_append_right _ List.mem_cons_self)
  have pc : ∀ p ∈ m.cp, _ := fun p hp => I.pin p (List.mem_append_right _ (List.mem_cons_of_mem _ (List.mem_append_left _ hp)))
  refine ⟨fun b hb => ?_, sd.aO.1, po.2.1, ⟨o, po.1, go⟩, fun p hp => (h.dj p hp).1, fun q => ?_⟩
  · rcases hb with e | ⟨y, e⟩ | ⟨q, hq, e⟩
    · subst e
      obtain ⟨mm, ⟨oL, _, _, hoL, _⟩, _⟩ := I.loc
      exact ⟨Nat.le_of_eq sd.lo.symm, I.free, ⟨oL, hoL⟩, fun p hp => (pc p hp).2.2.1⟩
    · obtain ⟨v, oc, hoc, dc⟩ := I.cell y b e
      refine ⟨sd.fn y b e, I.freeC y b e, ⟨oc, hoc⟩, fun p hp z => ?_⟩
      have p1 := (pc p hp).1
      rw [z, hoc] at p1
      cases p1
      exact (pc p hp).2.2.2.2 v dc
    · subst e
      have z := I.pin q (List.mem_append_right _ (List.mem_cons_of_mem _ (List.mem_append_right _ hq)))
      exact ⟨(sd.ip q hq).1, z.2.1, ⟨_, z.1⟩, fun p hp => (h.dj p hp).2 q hq⟩
  · rcases q with e | ⟨y, e⟩ | ⟨q, hq, e⟩
    · exact sd.aO.2.1 e
    · exact sd.aO.2.2 y ad e rfl
    · exact (sd.ip q hq).2 e
theorem GS.woken {ad : Addr} {g sz : Nat} {B : Prop} {A : Around} {c : Code} {fs : List Frame} {gd : Bool → Bool} {J : Nat → Shared → Hp → List (Addr × Obj) → Prop} {i : Nat} {m : Wm} {ip cp' : List (Addr × Obj)} {σ : L2.St} {H H' : Hp} {x x' : Shared} (h : GS X ad g sz J i m ip σ H x) (sd : Sd mk X ad g sz B ip A c fs gd)
    (k : Wk X.prog X.w X.base X.outer (Own X ip) ad g x H x' H' cp') (hj : i + 1 < sizeLine → J (i + 1) x' H' cp') (hz : sz ≤ x'.heap.objs.size) : GS X ad g sz J (i + 1) ⟨x', H', cp'⟩ ip σ H' x' := by
  obtain ⟨o, go, I⟩ := h.inv
  have eo : x.os = X.s_0.os := I.os
  exact ⟨hj, GV.woken sd.lo sd.pn sd.ex sd.fn sd.fr sd.bz eo.symm h.v k, k.os.trans eo, fun p hp => ⟨(k.pin p hp).2.2.2.1, fun q hq z => (k.pin p hp).2.2.1 (.inr (.inr ⟨q, hq, z.symm⟩))⟩, fun b hb => ⟨Nat.lt_of_lt_of_le hb.1 hz, hb.2⟩⟩
theorem GS.retrack {ad : Addr} {g sz : Nat} {J : Nat → Shared → Hp → List (Addr × Obj) → Prop} {i : Nat} {m : Wm} {ip : List (Addr × Obj)} {σ : L2.St} {H H1 : Hp} {x : Shared} {M : Addr → Prop} (h : GS X ad g sz J i m ip σ H x) (pn : X.pn = []) (hM : ∀ b, M b → sz ≤ b ∧ ∃ xs, H1 b = some (.lst xs) ∧ ObjOk X.prog X.w H1 x.heap b (.lst xs)) (hn : ∀ b, M b → H b = none)
    (hL : ¬ M X.env.locals) (hc : ∀ y c, X.env.cells.lookup y = some c → ¬ M c) (hp : ∀ p ∈ m.cp ++ ip, ¬ M p.1) (ha : ¬ M ad) : GS X ad g sz J i m ip σ (rs H H1 M) x := by
  obtain ⟨o, go, I⟩ := h.inv
  have sm : Same H (rs H H1 M) := fun b u e => by
    rw [rs_no fun q => by rw [hn b q] at e; cases e]
    exact e
  refine ⟨h.j, ⟨o, go, ⟨I.ok, I.os, I.bare, ⟨I.base.keep, I.base.slot, fun b o e n hx => ?_, I.base.there, fun b xs e => sm _ _ (I.base.tups b xs e), fun b o u e => sm _ _ (I.base.frzs b o u e), fun b ps e => let ⟨mm, q⟩ := I.base.tbls b ps e; ⟨mm, sm _ _ q⟩⟩, I.loc, I.cell, (rs_no hL).trans I.free, fun y c e => (rs_no (hc y c e)).trans (I.freeC y c e), fun p hq => ?_, fun a o e => ?_, I.len⟩⟩, h.os, h.dj, h.dd⟩
  · have e : (trunc sz m.xw.heap).get? b = some o := e
    rw [rs_no fun q => absurd (trunc_some e).1 (Nat.not_lt.mpr (hM b q).1)]
    exact I.base.free b o e n hx
  · obtain ⟨p1, p2, p3, p4, p5⟩ := I.pin p hq
    refine ⟨p1, (rs_no fun q => ?_).trans p2, p3, p4, p5⟩
    have hq : p ∈ X.pn ++ ((ad, o) :: (m.cp ++ ip)) := hq
    rw [pn, List.nil_append] at hq
    rcases List.mem_cons.mp hq with z | z
    · rw [z] at q; exact ha q
    · exact hp p z q
  · by_cases q : M a
    · rw [rs_yes q] at e
      obtain ⟨_, xs, e1, ok⟩ := hM a q
      rw [e1] at e
      cases e
      exact ok
    · rw [rs_no q] at e
      exact (I.hok a o e).stay (fun _ _ _ z => z) (fun b z => sm _ _ z) fun b xs z => sm _ _ z
theorem gb_yield {e : Expr} {yp : Pos} {te : Heap → Hp → TE} (he : ∀ h0 H0, QE (re X h0 H0) e (te h0 H0)) (hco : X.env.scope.isCoroutine = false := by rfl) (hi : interactive X.env = false := by rfl) : GB mk X (.Expr (.Yield (some e) yp) pos) (tYd te) := by
  refine ⟨fun Z A ad g sz B J R n i m ip x σ H D c fs K Jx gd lv sd hn k hV ht s₀ s hs hg => ?_⟩
  obtain ⟨o, go, I⟩ := hV.inv
  obtain ⟨hlt, ht⟩ := ht
  obtain ⟨n, rfl⟩ : ∃ m, n = m + 1 := ⟨n - 1, by omega⟩
  refine seg_Expr_Yield sd.split sd.gd sd.guard ?_ hco hi
  rw [sd.over]
  refine wpAny_gd (n := g + 1) (N := dz sz m.xw.heap) hg (by rw [hs.heap]; exact hV.dd) (wpAny_mono ((he _ _).run Z _ x σ H _ I (ht _ _) s hs) (fun v s' ⟨y, hy, z, H1, I1, rv, M, hM, sm, hit, q⟩ hg' dd => ?_) fun e s' ⟨y, _, q⟩ => (sd.nx e y q).elim)
  have dd : Dead (dz sz m.xw.heap) y.heap := by rw [← hy.heap]; exact dd
  intro kap hk
  have V1 : GS X ad g sz J i m ip σ (dl H1 M) y := ⟨hV.j, ⟨o, go, Sg.Inv.dropped I1 fun b hb => .inl (hM b hb).2⟩, hV.os, hV.dj, dd⟩
  obtain ⟨w1, w2, w3, w4, w5, w6⟩ := V1.own sd
  have notM : ∀ b, H1 b = none → ¬ M b := fun b e q => by
    obtain ⟨_, xs, e2⟩ := hM b q
    rw [e] at e2; cases e2
  have there : ∀ b, M b → ∃ ob, y.heap.get? b = some ob := fun b hb => by
    obtain ⟨_, xs, e2⟩ := hM b hb
    obtain ⟨_, its, nn, _, e3⟩ := I1.hok b _ e2
    exact ⟨_, e3⟩
  have szM : ∀ b, M b → sz ≤ b := fun b hb => Nat.le_of_not_lt fun hlt => by
    obtain ⟨h1, xs, e2⟩ := hM b hb
    obtain ⟨ob, e3⟩ := there b hb
    cases e4 : (trunc sz m.xw.heap).get? b with
    | some o' =>
      have ex : (re X (trunc sz m.xw.heap) m.Hw).ex = [] := sd.ex
      have z := I1.base.free b o' e4 h1 (by rw [ex]; simp)
      rw [e2] at z; cases z
    | none =>
      rw [trunc_get hlt] at e4
      have z := (dd b ⟨hlt, e4⟩).2
      rw [e3] at z; cases z
  have pinM : ∀ p ∈ (ad, o) :: (m.cp ++ ip), ¬ M p.1 := fun p hp => notM _ (I1.pin p (List.mem_append_right _ hp)).2.1
  refine ⟨N0, i, m.xw, m.Hw, m.cp, y, dl H1 M, fun b => Own X ip b ∨ M b, z, hn, hy.hole, (fun z => z), (fun _ _ z => z), (fun _ z => z.elim), hV.j hlt, V1.rn sd.ex sm, fun b hb => ?_, ⟨w2, w3, w4, w5, fun q => q.elim w6 (pinM _ List.mem_cons_self)⟩, rv, hit, fun x' H' cp' wk hj s'' hs'' bk => hk .none s'' ?_⟩
  · rcases hb with hb | hb
    · exact w1 b hb
    · exact ⟨szM b hb, dl_yes hb, there b hb, fun p hp e => pinM p (List.mem_cons_of_mem _ (List.mem_append_left _ hp)) (by rw [e]; exact hb)⟩
  · have hz : sz ≤ x'.heap.objs.size := by
      obtain ⟨_, _, ⟨oL, eL⟩, _⟩ := w1 X.env.locals (.inl rfl)
      have z := Heap.lt_size (wk.priv X.env.locals oL (.inl (.inl rfl)) eL).1
      rw [sd.lo] at z
      exact Nat.le_of_lt z
    have S3 := V1.woken sd (wk.mono fun b hb => .inl hb) hj hz
    have S4 := S3.retrack (H1 := H1) (M := M) sd.pn (fun b hb => by
      obtain ⟨_, xs, e2⟩ := hM b hb
      obtain ⟨q1, its, nn, q2, q3⟩ := I1.hok b _ e2
      exact ⟨szM b hb, xs, e2, q1, its, nn, q2, (wk.priv b _ (.inr hb) q3).1⟩) (fun b hb => by
      obtain ⟨ob, e3⟩ := there b hb
      exact (wk.priv b ob (.inr hb) e3).2) (notM _ I1.free) (fun y c e => notM _ (I1.freeC y c e)) (fun p hp q => by
      rcases List.mem_append.mp hp with hp | hp
      · exact (wk.pin p hp).2.2.1 (.inr q)
      · exact pinM p (List.mem_cons_of_mem _ (List.mem_append_right _ hp)) q) (pinM _ List.mem_cons_self)
    refine k n (i + 1) ⟨x', H', cp'⟩ x' .next (by omega) ⟨σ, rs H' H1 M, S4, q H' wk.same fun b hb => ?_⟩ s'' s'' hs''.none (Nat.lt_of_lt_of_le hg' bk.size)
    obtain ⟨ob, e3⟩ := there b hb
    exact (wk.priv b ob (.inr hb) e3).2
end
end Sg
end
section
set_option maxHeartbeats 1000000
namespace Sg
open PySem L2 PyProof.Rows GenW Sf
def tWh (c : Heap → Hp → TT) (tb : TGm) : TGm := fun D i hw σ H => ∃ W : Nat → Nat → Hp → L2.St → Hp → Prop, (∃ m, W m i hw σ H) ∧ ∀ m i hw σ H, W m i hw σ H → ∀ h0 H0, c h0 H0 σ H fun b H1 =>
  if b = true then ∃ N : Nat → Hp → L2.St → Hp → Prop, (∀ i' hw' σ' H', N i' hw' σ' H' → ∃ m', m' < m ∧ W m' i' hw' σ' H') ∧ tb { D with nx := N, ct := N, bk := D.nx } i hw σ H1 else D.nx i hw σ H1
def tFr (wi : Heap → Hp → TI) (g : Heap → Hp → TG) (tb : TGm) : TGm := fun D i hw σ H => ∀ h0 H0, wi h0 H0 σ H fun J H1 => ∃ W : Nat → Nat → Nat → Hp → L2.St → Hp → Prop, (∃ m, W 0 m i hw σ H1) ∧ ∀ k m i hw σ H, W k m i hw σ H →
  (J.stop k H ∧ D.nx i hw σ H) ∨ (J.go k H ∧ ∃ N : Nat → Hp → L2.St → Hp → Prop, (∀ i' hw' σ' H', N i' hw' σ' H' → ∃ m', m' < m ∧ W (k + 1) m' i' hw' σ' H') ∧ ∀ v H', J.yld k H v H' → ∀ h1 H1', g h1 H1' v σ H' fun σ2 H2 => tb { D with nx := N, ct := N, bk := D.nx } i hw σ2 H2)
section
variable {Z : Nat → Prop} {mk : Prop} {X : Cx} {ad : Addr} {g sz : Nat} {B : Prop} {J : Nat → Shared → Hp → List (Addr × Obj) → Prop} {it : Nat → V → Hp → Prop} {R : GenEnd} {A : Around} {c c' : Code} {fs : List Frame} {K : Flow → Sem PySem.Fin} {Jx : Value → Sem PySem.Fin} {gd : Bool → Bool} {lv : List Value → List Value} {n : Nat} {x : Shared} {pos : Pos}
theorem Sd.loop {ip : List (Addr × Obj)} {p : Pos} (sd : Sd mk X ad g sz B ip A c fs gd) (hw : c'.weight = 0) (hu : c'.cUnits = 0) (kk : Result → Sem PySem.Fin) : Sd mk X ad g sz B ip A c' (.ret kk none (gd false) (lv []) c p [] :: fs) id where
  pn := sd.pn
  ex := sd.ex
  lo := sd.lo
  fn := sd.fn
  fr := sd.fr
  bz := sd.bz
  aO := sd.aO
  ip := sd.ip
  over := (over_loop hw hu).trans sd.over
  split := by rw [splitAtGen_ret, sd.split]; rfl
  guard := by
    show (gd false || fs.any Frame.guarded) = false
    rw [sd.gd, sd.guard]; rfl
  gd := rfl
  nx := sd.nx
  mkd := sd.mkd
theorem Sd.more {ip ip' : List (Addr × Obj)} (sd : Sd mk X ad g sz B ip A c fs gd) (h : ∀ p ∈ ip', sz ≤ p.1 ∧ p.1 ≠ ad) : Sd mk X ad g sz B (ip ++ ip') A c fs gd :=
  { sd with ip := fun p hp => (List.mem_append.mp hp).elim (sd.ip p) (h p) }
theorem gt_leave {p : Pos} (f : Flow) (h : Gt Z X ad g sz B J it R A n c fs (K f) x) : Gt Z X ad g sz B J it R A n c' (.ret (came X.env K Jx gd lv) none (gd false) (lv []) c p [] :: fs) (.pure (.done f)) x :=
  fun s₀ s hs hg => seg_leaf (.ok f) (h s₀ s hs hg)
end
section
variable {mk : Prop} {X : Cx} {pos : Pos}
theorem gb_while {test : Expr} {body : List Stmt} {tc : Heap → Hp → TT} {tb : TGm} (hc : ∀ h0 H0, QT (re X h0 H0) test (tc h0 H0)) (hb : GBs mk X body tb) : GB mk X (.While test body [] pos) (tWh tc tb) := by
  refine ⟨fun Z A ad g sz B J R n i m ip x σ H D c fs K Jx gd lv sd hn k hV ht => ?_⟩
  obtain ⟨W, ⟨m0, w0⟩, turn⟩ := ht
  intro s₀ s hs hg
  refine seg_While fun p => ?_
  have sl := fun kk => Sd.loop (lv := lv) (p := p) (c' := .whileLoop test body [] X.env) sd rfl rfl kk
  have loop : ∀ (r n i : Nat) (m : Wm) (x : Shared) (σ : L2.St) (H : Hp), n + i = sizeLine → W r i m.Hw σ H → GS X ad g sz J i m ip σ H x →
      Gt Z X ad g sz B J D.it R A n (.whileLoop test body [] X.env) (.ret (came X.env K Jx gd lv) none (gd false) (lv []) c p [] :: fs) ((mp X.prog X.w).den (.whileLoop test body [] X.env)) x := by
    intro r
    induction r using Nat.strongRecOn with
    | ind r ih =>
      intro n i m x σ H hn wm hV s₀ s hs hg
      obtain ⟨o, go, I⟩ := hV.inv
      refine seg_wturn rfl ?_
      rw [(sl (came X.env K Jx gd lv)).over]
      refine wpAny_gd (n := g + 1) (N := dz sz m.xw.heap) hg (by rw [hs.heap]; exact hV.dd) (wpAny_mono ((hc _ _).run Z _ x σ H _ I (turn r i m.Hw σ H wm _ _) s hs) (fun b s1 ⟨y, hy, H1, I1, q⟩ hg1 dd => ?_) fun e s' ⟨y, _, q⟩ => (sd.nx e y q).elim)
      have V1 : GS X ad g sz J i m ip σ H1 y := ⟨hV.j, ⟨o, go, I1⟩, hV.os, hV.dj, by rw [← hy.heap]; exact dd⟩
      cases b with
      | true =>
        obtain ⟨N, hN, q⟩ := q
        rw [if_pos rfl]
        refine hb.run Z A ad g sz B J R n i m ip y σ H1 { D with nx := N, ct := N, bk := D.nx } _ _ _ _ id id (sl _) hn (fun n' i' m' y' f hn' q' => ?_) V1 q s₀ s1 hy hg1
        cases f with
        | next => obtain ⟨σ', H', V', q2⟩ := q'; obtain ⟨r', hr, w'⟩ := hN i' m'.Hw σ' H' q2; exact fun s₀ s hs hg => seg_again rfl (ih r' hr n' i' m' y' σ' H' hn' w' V' s₀ s hs hg)
        | cont => obtain ⟨σ', H', V', q2⟩ := q'; obtain ⟨r', hr, w'⟩ := hN i' m'.Hw σ' H' q2; exact fun s₀ s hs hg => seg_again rfl (ih r' hr n' i' m' y' σ' H' hn' w' V' s₀ s hs hg)
        | brk => exact gt_leave .next (k n' i' m' y' .next hn' q')
        | ret v => exact gt_leave (.ret v) (k n' i' m' y' (.ret v) hn' q')
      | false =>
        rw [if_neg Bool.false_ne_true]
        exact gt_leave .next (k n i m y .next hn ⟨σ, H1, V1, q⟩) s₀ s1 hy hg1
  exact loop m0 n i m x σ H hn w0 hV s₀ s hs hg
theorem gb_for {tg iter : Expr} {body : List Stmt} {wi : Heap → Hp → TI} {gg : Heap → Hp → TG} {tb : TGm} (hx : ∀ e s, ¬ X.xe e s) (hc : X.calm = true) (hi : ∀ h0 H0, PI (re X h0 H0) tg iter (wi h0 H0)) (hg : ∀ h0 H0, PG (re X h0 H0) tg (gg h0 H0)) (hb : GBs mk X body tb) (hw : ∀ z, foldedSetIterable iter X.env z = pure z := by intro _; rfl) :
    GB mk X (.For tg iter body [] pos) (tFr wi gg tb) := by
  have nx : ∀ {Z : Nat → Prop} {N : Addr → Prop} {α : Type} {t : Sem α} {Q : α → Shared → Prop} {x s : Shared}, SR Z x s → ∀ {g : Nat}, g < s.gens.size → Dead N x.heap → wpAny (model X.prog X.w) X.A t Q X.xe x → wpAny (mp X.prog X.w) X.A t (fun a s' => g < s'.gens.size ∧ lo Z (fun a y => Q a y ∧ Dead N y.heap) a s') (fun _ _ => False) s := fun {Z N α t Q x s} hs {g} hg d h =>
    wpAny_gd (n := g + 1) (N := N) hg (by rw [hs.heap]; exact d) (wpAny_mono (wpAny_up hs h) (fun _ _ ⟨y, hy, q⟩ hg' d' => ⟨hg', y, hy, q, by rw [← hy.heap]; exact d'⟩) fun e _ ⟨y, _, q⟩ => (hx e y q).elim)
  refine ⟨fun Z A ad g sz B J R n i m ip x σ H D c fs K Jx gd lv sd hn k hV ht s₀ s hs hg0 => ?_⟩
  obtain ⟨o, go, I⟩ := hV.inv
  refine seg_for hw ?_
  rw [sd.over]
  refine wpAny_mono (nx hs hg0 hV.dd ((hi (trunc sz m.xw.heap) m.Hw).run _ x σ H _ I (ht (trunc sz m.xw.heap) m.Hw))) (fun v s1 ⟨g1, x1, h1, q1, d1⟩ => wpAny_mono (nx h1 g1 d1 q1) (fun itv s2 ⟨g2, x2, h2, q2, d2⟩ p => ?_) fun _ _ e => e) fun _ _ e => e
  obtain ⟨it, fp, tn, JJ, H2, e, I2, TT, st2, f2, W, ⟨m0, w0⟩, turn⟩ := q2
  subst e
  have sl := fun kk => Sd.loop (lv := lv) (p := p) (c' := .forLoop tg (.ref it) body [] X.env) sd rfl rfl kk
  have stat : ∀ b ∈ fp, b ≠ X.env.locals ∧ b ∉ X.fs ∧ sz ≤ b ∧ (∀ y c, X.env.cells.lookup y = some c → c ≠ b) ∧ b ≠ ad ∧ ∀ q ∈ ip, q.1 ≠ b := fun b hb => by
    obtain ⟨_, y2, y3, y4, y5, y6⟩ := f2 b hb
    refine ⟨y2, y3, ?_, y5, fun z => y6 (ad, o) (List.mem_append_right _ List.mem_cons_self) z.symm, fun q hq => y6 q (List.mem_append_right _ (List.mem_cons_of_mem _ (List.mem_append_right _ hq)))⟩
    rcases y4 with z | z
    · have z : b ∈ X.ex := z
      rw [sd.ex] at z; simp at z
    · have z : (trunc sz m.xw.heap).objs.size ≤ b := z
      rwa [trunc_size] at z
  have fok : ∀ {o' : Obj} {m' : Wm} {H' : Hp}, (∀ b ∈ fp, H' b = none) → (∀ p ∈ m'.cp, ∀ b ∈ fp, p.1 ≠ b) → ∀ b ∈ fp, FpOk (re X (trunc sz m'.xw.heap) m'.Hw) ((ad, o') :: (m'.cp ++ ip)) H' b := fun {o' m' H'} hn hd b hb => by
    obtain ⟨y2, y3, y4, y5, y6, y7⟩ := stat b hb
    refine ⟨hn b hb, y2, y3, .inr ?_, y5, fun q hq => ?_⟩
    · show (trunc sz m'.xw.heap).objs.size ≤ b
      rwa [trunc_size]
    · have hq : q ∈ X.pn ++ ((ad, o') :: (m'.cp ++ ip)) := hq
      rw [sd.pn, List.nil_append] at hq
      rcases List.mem_cons.mp hq with z | z
      · rw [z]; exact fun e => y6 e.symm
      · rcases List.mem_append.mp z with z | z
        · exact hd q z b hb
        · exact y7 q z
  have loop : ∀ (r n j i : Nat) (m : Wm) (x : Shared) (σ : L2.St) (H : Hp), n + i = sizeLine → W j r i m.Hw σ H → GS X ad g sz J i m ip σ H x → tn j x.heap → (∀ b ∈ fp, H b = none) → (∀ p ∈ m.cp, ∀ b ∈ fp, p.1 ≠ b) →
      Gt Z X ad g sz B J D.it R A n (.forLoop tg (.ref it) body [] X.env) (.ret (came X.env K Jx gd lv) none (gd false) (lv []) c p [] :: fs) ((mp X.prog X.w).den (.forLoop tg (.ref it) body [] X.env)) x := by
    intro r
    induction r using Nat.strongRecOn with
    | ind r ih =>
      intro n j i m x3 σ3 H3 hn wm hV st3 fr3 dj3 s₀ s3 hs3 g3
      obtain ⟨o, go, I3⟩ := hV.inv
      refine seg_turn rfl ?_
      rw [(sl (came X.env K Jx gd lv)).over]
      rcases turn j r i m.Hw σ3 H3 wm with ⟨stop, qn⟩ | ⟨goes, N, hN, step⟩
      · refine wpAny_mono (nx hs3 g3 hV.dd (TT.done (re X (trunc sz m.xw.heap) m.Hw) rfl rfl rfl hc j _ x3 σ3 H3 X.xe I3 (fok fr3 dj3) st3 stop)) (fun rr s4 ⟨g4, x4, h4, ⟨er, I4⟩, d4⟩ => ?_) fun _ _ e => e
        subst er
        exact gt_leave (c' := .block [] X.env) .next (k n i m x4 .next hn ⟨σ3, H3, ⟨hV.j, ⟨o, go, I4⟩, hV.os, hV.dj, d4⟩, qn⟩) s₀ s4 h4 g4
      · refine wpAny_mono (nx hs3 g3 hV.dd (TT.item (re X (trunc sz m.xw.heap) m.Hw) rfl rfl rfl hc j _ x3 σ3 H3 X.xe I3 (fok fr3 dj3) st3 goes)) (fun rr s4 ⟨g4, x4, h4, ⟨u, er, q4⟩, d4⟩ => ?_) fun _ _ e => e
        subst er
        refine wpAny_mono (nx h4 g4 d4 q4) (fun _ s5 ⟨g5, x5, h5, ⟨v5, H5, I5, r5, y5, st5, fr5⟩, d5⟩ => ?_) fun _ _ e => e
        have I5' := I5.pinned (fok fr5 dj3) (TT.obj _ _ st5)
        rw [List.cons_append, List.append_assoc] at I5'
        refine wpAny_mono (nx h5 g5 d5 ((hg (trunc sz m.xw.heap) m.Hw).run _ x5 σ3 H5 v5 u _ I5' r5 (step v5 H5 y5 (trunc sz m.xw.heap) m.Hw))) (fun _ s6 ⟨g6, x6, h6, ⟨σ6, H6, I6, q6⟩, d6⟩ => ?_) fun _ _ e => e
        have sd' : Sd mk X ad g sz B (ip ++ pinsAt fp x5.heap) A (.forLoop tg (.ref it) body [] X.env) (.ret (came X.env K Jx gd lv) none (gd false) (lv []) c p [] :: fs) id := (sl _).more fun q hq => ⟨(stat q.1 (of_pinsAt hq).1).2.2.1, (stat q.1 (of_pinsAt hq).1).2.2.2.2.1⟩
        have dj6 : ∀ p ∈ m.cp, p.1 ≠ ad ∧ ∀ q ∈ ip ++ pinsAt fp x5.heap, p.1 ≠ q.1 := fun p hp => ⟨(hV.dj p hp).1, fun q hq => (List.mem_append.mp hq).elim ((hV.dj p hp).2 q) fun z => dj3 p hp q.1 (of_pinsAt z).1⟩
        refine hb.run Z A ad g sz B J R n i m (ip ++ pinsAt fp x5.heap) x6 σ6 H6 { D with nx := N, ct := N, bk := D.nx } _ _ _ _ id id sd' hn (fun n' i' m' x7 f hn' q7 => ?_) ⟨hV.j, ⟨o, go, I6⟩, hV.os, dj6, d6⟩ q6 s₀ s6 h6 g6
        have drop : ∀ {σ7 : L2.St} {H7 : Hp}, GS X ad g sz J i' m' (ip ++ pinsAt fp x5.heap) σ7 H7 x7 → GS X ad g sz J i' m' ip σ7 H7 x7 ∧ tn (j + 1) x7.heap ∧ (∀ b ∈ fp, H7 b = none) ∧ ∀ p ∈ m'.cp, ∀ b ∈ fp, p.1 ≠ b := fun {σ7 H7} V7 => by
          obtain ⟨o7, go7, I7⟩ := V7.inv
          have at7 : ∀ b ∈ fp, ∀ ob, x5.heap.get? b = some ob → x7.heap.get? b = some ob ∧ H7 b = none := fun b hb ob e =>
            let z := I7.pin (b, ob) (List.mem_append_right _ (List.mem_cons_of_mem _ (List.mem_append_right _ (List.mem_append_right _ (mem_pinsAt hb e)))))
            ⟨z.1, z.2.1⟩
          refine ⟨⟨V7.j, ⟨o7, go7, I7.pins_of fun q hq => I7.pin q (List.mem_append_right _ ?_)⟩, V7.os, fun p hp => ⟨(V7.dj p hp).1, fun q hq => (V7.dj p hp).2 q (List.mem_append_left _ hq)⟩, V7.dd⟩, TT.keep _ _ _ st5 fun b hb ob e => (at7 b hb ob e).1, fun b hb => ?_, fun p hp b hb => ?_⟩
          · rcases List.mem_cons.mp hq with z | z
            · rw [z]; exact List.mem_cons_self
            · refine List.mem_cons_of_mem _ ((List.mem_append.mp z).elim (fun y => List.mem_append_left _ y) fun y => List.mem_append_right _ (List.mem_append_left _ y))
          · obtain ⟨ob, e, _⟩ := TT.obj _ _ st5 b hb
            exact (at7 b hb ob e).2
          · obtain ⟨ob, e, _⟩ := TT.obj _ _ st5 b hb
            exact (V7.dj p hp).2 (b, ob) (List.mem_append_right _ (mem_pinsAt hb e))
        cases f with
        | next => obtain ⟨σ7, H7, V7, n7⟩ := q7; obtain ⟨r', hr, w'⟩ := hN i' m'.Hw σ7 H7 n7; obtain ⟨d1, d2, d3, d4⟩ := drop V7; exact fun s₀ s hs hg => seg_again rfl (ih r' hr n' (j + 1) i' m' x7 σ7 H7 hn' w' d1 d2 d3 d4 s₀ s hs hg)
        | cont => obtain ⟨σ7, H7, V7, n7⟩ := q7; obtain ⟨r', hr, w'⟩ := hN i' m'.Hw σ7 H7 n7; obtain ⟨d1, d2, d3, d4⟩ := drop V7; exact fun s₀ s hs hg => seg_again rfl (ih r' hr n' (j + 1) i' m' x7 σ7 H7 hn' w' d1 d2 d3 d4 s₀ s hs hg)
        | brk => obtain ⟨σ7, H7, V7, q7⟩ := q7; exact gt_leave .next (k n' i' m' x7 .next hn' ⟨σ7, H7, (drop V7).1, q7⟩)
        | ret v => obtain ⟨z7, σ7, H7, V7, r7, q7⟩ := q7; exact gt_leave (.ret v) (k n' i' m' x7 (.ret v) hn' ⟨z7, σ7, H7, (drop V7).1, r7, q7⟩)
  exact loop m0 n 0 i m x2 σ H2 hn w0 ⟨hV.j, ⟨o, go, I2⟩, hV.os, hV.dj, d2⟩ st2 (fun b hb => (f2 b hb).1) (fun p hp b hb => (f2 b hb).2.2.2.2.2 p (List.mem_append_right _ (List.mem_cons_of_mem _ (List.mem_append_left _ hp)))) s₀ s2 h2 g2
end
end Sg
end
section
set_option maxHeartbeats 1000000
namespace Sg
open PySem L2 PyProof.Rows GenW Sf
def gXm (P : Program) (w : World) (K : PySem.W.Frag) (mg : Str → Option Value) (base : Heap) (N : List Str) (qual : Str) (scope : Scope) (f : Addr) (cd : Value) (A : Around) (outer : List Env) (x : Shared) (H : Hp) : Cx :=
  { cxOf CX0 P w K mg base N qual scope f cd A outer x H (fun _ _ _ => False) with ex := [], pn := [], xe := fun _ _ => False }
structure W1 (P : Program) (w : World) (base : Heap) (outer : List Env) (x : Shared) (H : Hp) (x' yw : Shared) (Hw : Hp) (cp : List (Addr × Obj)) : Prop where
  os : yw.os = x.os
  bare : AllBare yw.gens
  hok : HOk P w Hw yw.heap
  same : Same H Hw
  bs : ∀ b o, base.get? b = some o → yw.heap.get? b = some o ∧ Hw b = none
  funs : yw.heap.FunFrames base outer
  frf : ∀ b ∈ frs outer, Hw b = none
  priv : ∀ b o, x.heap.objs.size ≤ b → x'.heap.get? b = some o → yw.heap.get? b = some o ∧ Hw b = none
  pin : ∀ p ∈ cp, yw.heap.get? p.1 = some p.2 ∧ Hw p.1 = none ∧ (p.1 < x.heap.objs.size ∨ x'.heap.objs.size ≤ p.1) ∧ p.1 ∉ frs outer ∧ ∀ v, p.2.data ≠ .cell v
abbrev It := Nat → V → Hp → Prop
abbrev Dn := Nat → Hp → Prop
def itF (i0 : Nat) (it : It) : It := fun i v H => i0 ≤ i ∧ it (i - i0) v H
def dnF (i0 : Nat) (dn : Dn) : Dn := fun i H => i0 ≤ i ∧ dn (i - i0) H
def Made (P : Program) (w : World) (base : Heap) (k : Nat) (mk : Prop) (outer : List Env) (H : Hp) (x : Shared) (it : It) (dn : Dn) (rm : Nat) (u : Value) (x' : Shared) : Prop :=
  ∃ (a : Addr) (g : Nat) (c : Code), u = .ref a ∧ x.heap.objs.size ≤ a ∧ a < x'.heap.objs.size ∧ x'.heap.IsGen a g ∧ x'.gens[g]? = some (.fresh c) ∧ x.gens.size ≤ g ∧ x'.os = x.os ∧ AllBare x'.gens ∧ x'.heap.NoLimit ∧ (∀ b o, x.heap.get? b = some o → x'.heap.get? b = some o) ∧
    ∀ (Z : Nat → Prop) (B : Prop) (A : Around) (J : Nat → Shared → Hp → List (Addr × Obj) → Prop) (i0 n : Nat) (yw : Shared) (Hw : Hp) (cp : List (Addr × Obj)), (B → mk) → Room k A → A.frames = some outer → n + i0 = sizeLine → i0 + rm ≤ sizeLine → W1 P w base outer x H x' yw Hw cp → J i0 yw Hw cp →
      ∀ s₀ s, SR Z yw s → g < s.gens.size → Seg (mp P w) A (RM Z P w base outer x.heap.objs.size a g J (dnF i0 dn)) (YM Z P w base outer x.heap.objs.size a g B J (itF i0 it)) n s₀ c ((mp P w).den c) [] s
abbrev SpM := List V → Hp → It → Dn → Nat → Prop
structure GFnM (P : Program) (w : World) (K : PySem.W.Frag) (mg : Str → Option Value) (base : Heap) (k : Nat) (mk : Prop) (f : Addr) (fd : FuncData) (ps : List Str) (sp : SpM) : Prop where
  len : ∀ vs H it dn rm, sp vs H it dn rm → vs.length = ps.length
  run : ∀ (A : Around) (outer : List Env) (x : Shared) (H : Hp) (args : Args) (us : List Value) (vs : List V) (it : It) (dn : Dn) (rm : Nat), Room k A → Env0 P w K mg base A outer x H → BindsTo x fd args (ps.zip us) → Vals vs us → sp vs H it dn rm →
    codeAny (model P w) A (.call (.ref f) args) (fun r y => match r with | .ok (.ret u) => Made P w base k mk outer H x it dn rm u y | _ => False) x
theorem gfnM_of {mk : Prop} {P : Program} {w : World} {K : PySem.W.Frag} {mg : Str → Option Value} {base : Heap} {k : Nat} {f : Addr} {name qual : Str} {params : Arguments} {body : List Stmt} {scope : Scope} {dV kV doc pm cdv ct oc : Value} {an od : Option Addr}
    {osl : Array (Option Value)} {N ps : List Str} {sp : SpM} (lk : K.lookup f = some ⟨oc, od, .func (PySem.W.fnOf name qual params body scope dV kV doc pm an cdv ct), osl⟩) (hcd : PySem.W.codeIn K cdv qual = true) (sc : GScope N ps scope)
    (len : ∀ vs H it dn rm, sp vs H it dn rm → vs.length = ps.length)
    (hbody : ∀ (A : Around) (outer : List Env) (x : Shared) (H Hw : Hp) (vs : List V) (i0 : Nat) (it : It) (dn : Dn) (rm : Nat), Room k (A.deeper (envOfC qual scope x.heap.objs.size f cdv)) → sp vs H it dn rm → Same H Hw → i0 + rm ≤ sizeLine →
      ∃ t, GBs mk (gXm P w K mg base N qual scope f cdv A outer x H) body t ∧ t { nx := fun i hw _ H' => Same hw H' ∧ dnF i0 dn i H', rt := fun i hw v H' => v = .non ∧ Same hw H' ∧ dnF i0 dn i H', it := itF i0 it } i0 Hw (start N vs) Hw) :
    GFnM P w K mg base (k + 1) mk f (PySem.W.fnOf name qual params body scope dV kV doc pm an cdv ct) ps sp := by
  refine ⟨len, fun A outer x H args us vs it dn rm hr e0 hb rv hsp => ?_⟩
  have hl := len _ _ _ _ _ hsp
  have KX : K.In x.heap := e0.mod.kin.keeps fun b o e => (e0.bs b o e).1
  have lim : x.heap.NoLimit := e0.mod.nolimit.keeps fun b o e => (e0.bs b o e).1
  have hkind : ∀ z ∈ ps.zip us, scope.names.lookup z.1 = some .local ∨ (scope.names.lookup z.1 = some .cell ∧ ((cellsFrom (x.heap.objs.size + 1) scope.names []).lookup z.1).isSome = true) := by
    rintro ⟨n, v⟩ hz
    exact (sc.par n (List.of_mem_zip hz).1).imp (fun q => q) fun q => ⟨q, PySem.W.cellsFrom_some _ _ _ (.inl q)⟩
  refine codeAny_call_generator hr.depth (KX _ _ lk) rfl sc.co sc.gen rfl (PySem.W.codeRec_of KX hcd) (hb _ _ _ _ (wpAny_newFunctionEnv_cells sc.kind hkind ?_))
  rintro env rfl x1 z
  have lim1 : x1.heap.NoLimit := lim.keeps z.toInCall.keep
  refine ⟨lim1, ?_⟩
  have lt1 : x.heap.objs.size < x1.heap.objs.size := z.toInCall.ns.lt
  have kp1 : ∀ b o, x.heap.get? b = some o → x1.heap.get? b = some o := z.toInCall.keep
  obtain ⟨os1, gen1⟩ : x1.os = x.os ∧ x1.gens = x.gens := by
    obtain ⟨h1, tk, rfl, _⟩ := z.done
    exact ⟨rfl, rfl⟩
  have cells1 : ∀ y c, (cellsFrom (x.heap.objs.size + 1) scope.names []).lookup y = some c → x.heap.objs.size < c ∧ x1.heap.objs.size > c := fun y c e => by
    obtain ⟨ob, ho, _⟩ := z.cell y c e
    exact ⟨z.above y c (PySem.mem_of_lookup e), Heap.lt_size ho⟩
  have main : ∀ (go : Obj) (nm qn : Value) (tk2 : Nat), go.cls = .type "generator" → go.data = .fields #[.int x1.gens.size 0, nm, qn] → go.slots = #[] → (∀ h : Heap, (h.push go).get? h.objs.size = some go) →
      Made P w base (k + 1) mk outer H x it dn rm (.ref x1.heap.objs.size) { x1 with gens := x1.gens.push (.fresh (.func body (envOfC qual scope x.heap.objs.size f cdv))), toks := tk2, heap := x1.heap.push go } := by
    intro go nm qn tk2 hgc hgd hgs hgp
    have hgO : GenO x1.gens.size go := ⟨hgc, ⟨nm, qn, hgd⟩, .inl hgs⟩
    have hpush : ∀ b o, x1.heap.get? b = some o → (x1.heap.push go).get? b = some o := fun b o e => Heap.get?_push_of_some _ e
    have hbare : AllBare (x1.gens.push (.fresh (.func body (envOfC qual scope x.heap.objs.size f cdv)))) := AllBare.push (by rw [gen1]; exact e0.bare) rfl
    refine ⟨x1.heap.objs.size, x1.gens.size, _, rfl, Nat.le_of_lt lt1, ?_, ⟨go, nm, qn, hgp _, hgc, hgd, hgs⟩, Array.getElem?_push_size .., Nat.le_of_eq (by rw [gen1]), os1, hbare, lim1.keeps hpush, fun b o e => hpush b o (kp1 b o e), ?_⟩
    · show _ < (x1.heap.push _).objs.size
      rw [Heap.size_push]; exact Nat.lt_succ_self _
    intro Z B Aw J i0 n yw Hw cp hB hrw hfr hn hrm w1 hj s₀ s hs hgl
    have e0w : Env0 P w K mg base Aw outer x H := ⟨hfr, e0.mod, e0.bs, e0.bsz, e0.funs, e0.frf, e0.hok, e0.bare⟩
    obtain ⟨t, ht, hq⟩ := hbody Aw outer x H Hw vs i0 it dn rm (hrw.deeper _) hsp w1.same hrm
    have I1 := inv_startG (E := fun _ _ _ => False) sc hrw.hd e0w hl rv z
    have I1' : Inv (gXm P w K mg base N qual scope f cdv Aw outer x H) [] (start N vs) H x1 :=
      ⟨⟨I1.ok.mod, I1.ok.kind, I1.ok.glob, I1.ok.blt, I1.ok.above, I1.ok.inj, I1.ok.has, I1.ok.cab, I1.ok.hd, I1.ok.frames, I1.ok.stk, I1.ok.exf, I1.ok.bs, I1.ok.bsz, I1.ok.noex, I1.ok.exfs, I1.ok.funs, I1.ok.frf⟩, I1.os, I1.bare, I1.base, I1.loc, I1.cell, I1.free, I1.freeC, fun p hp => absurd (show p ∈ ([] : List (Addr × Obj)) from hp) (by simp), I1.hok, I1.len⟩
    have I2 : Inv (gXm P w K mg base N qual scope f cdv Aw outer x H) [] (start N vs) H { x1 with gens := x1.gens.push (.fresh (.func body (envOfC qual scope x.heap.objs.size f cdv))), toks := tk2, heap := x1.heap.push go } :=
      I1'.call' (ch := []) rfl (Un.kept hpush) (I1'.hok.kept hpush) hbare fun b hb => absurd hb (by simp)
    have aO : x.heap.objs.size ≤ x1.heap.objs.size ∧ x1.heap.objs.size ≠ x.heap.objs.size ∧ ∀ y c, (cellsFrom (x.heap.objs.size + 1) scope.names []).lookup y = some c → c ≠ x1.heap.objs.size := ⟨Nat.le_of_lt lt1, Nat.ne_of_gt lt1, fun y c e => Nat.ne_of_lt (cells1 y c e).2⟩
    have V0 : GV (re (gXm P w K mg base N qual scope f cdv Aw outer x H) x.heap H) x1.heap.objs.size x1.gens.size [] [] (start N vs) H { x1 with gens := x1.gens.push (.fresh (.func body (envOfC qual scope x.heap.objs.size f cdv))), toks := tk2, heap := x1.heap.push go } := by
      refine ⟨go, hgO, I2.pins_of fun p hp => ?_⟩
      rw [List.mem_singleton.mp hp]
      exact ⟨hgp _, I1'.hok.fresh (Nat.le_refl _), aO.2.1, I1'.nofs (Nat.le_refl _), fun v q => by
        have q : go.data = .cell v := q
        rw [hgd] at q; cases q⟩
    have frl : ∀ b ∈ frs outer, b < x.heap.objs.size := fun b hb => by
      obtain ⟨_, o, ho, _⟩ := e0.funs.mem hb
      exact Heap.lt_size ho
    have own1 : ∀ b, Own (gXm P w K mg base N qual scope f cdv Aw outer x H) [] b → x.heap.objs.size ≤ b ∧ b < x1.heap.objs.size := fun b hb => by
      rcases hb with e | ⟨y, e⟩ | ⟨q, hq, _⟩
      · rw [show b = x.heap.objs.size from e]
        exact ⟨Nat.le_refl _, lt1⟩
      · obtain ⟨h1, h2⟩ := cells1 y b e
        exact ⟨Nat.le_of_lt h1, h2⟩
      · simp at hq
    have szp : (x1.heap.push go).objs.size = x1.heap.objs.size + 1 := Heap.size_push _ _
    have szyw : x.heap.objs.size ≤ yw.heap.objs.size := by
      have z := Heap.lt_size (w1.priv x1.heap.objs.size go (Nat.le_of_lt lt1) (hgp _)).1
      exact Nat.le_of_lt (Nat.lt_trans lt1 z)
    have gself := w1.priv x1.heap.objs.size go (Nat.le_of_lt lt1) (hgp _)
    have V1 := GV.woken (sz := x.heap.objs.size) (cp' := cp) (H' := Hw) (x' := yw) rfl rfl rfl (fun y c e => Nat.le_of_lt (cells1 y c e).1) frl e0.bsz os1.symm V0
      ⟨w1.os.trans os1.symm, w1.bare, w1.hok, w1.same, w1.bs, w1.funs, w1.frf, fun b o hb e => w1.priv b o (own1 b hb).1 e, ⟨gself.2, go, gself.1, hgO⟩, fun p hp => by
        obtain ⟨p1, p2, p3, p4, p5⟩ := w1.pin p hp
        have p3 : p.1 < x.heap.objs.size ∨ (x1.heap.push go).objs.size ≤ p.1 := p3
        rw [szp] at p3
        exact ⟨p1, p2, fun q => p3.elim (fun h => Nat.not_lt.mpr (own1 p.1 q).1 h) fun h => Nat.not_lt.mpr (Nat.le_of_succ_le h) (own1 p.1 q).2, p3.elim (fun h => Nat.ne_of_lt (Nat.lt_trans h lt1)) fun h => Nat.ne_of_gt h, p4, p5⟩⟩
    have S1 : GS (gXm P w K mg base N qual scope f cdv Aw outer x H) x1.heap.objs.size x1.gens.size x.heap.objs.size J i0 ⟨yw, Hw, cp⟩ [] (start N vs) Hw yw := ⟨fun _ => hj, V1, w1.os, fun p hp => ⟨by
        obtain ⟨_, _, p3, _⟩ := w1.pin p hp
        have p3 : p.1 < x.heap.objs.size ∨ (x1.heap.push go).objs.size ≤ p.1 := p3
        rw [szp] at p3
        exact p3.elim (fun h => Nat.ne_of_lt (Nat.lt_trans h lt1)) fun h => Nat.ne_of_gt h, fun q hq => by simp at hq⟩, fun b hb => ⟨Nat.lt_of_lt_of_le hb.1 szyw, hb.2⟩⟩
    refine seg_fun rfl ?_
    refine ht.run Z Aw x1.heap.objs.size x1.gens.size x.heap.objs.size B J _ n i0 ⟨yw, Hw, cp⟩ [] yw (start N vs) Hw _ (.func body (envOfC qual scope x.heap.objs.size f cdv)) [] _ _ id id
      ⟨rfl, rfl, rfl, fun y c e => Nat.le_of_lt (cells1 y c e).1, frl, e0.bsz, aO, fun p hp => by simp at hp, over_func, rfl, rfl, rfl, fun _ _ q => q, hB⟩ hn (fun n' i' m' y' fl hn' q => ?_) S1 hq s₀ s hs hgl
    have done : ∀ {σ' : L2.St} {H' : Hp}, GS (gXm P w K mg base N qual scope f cdv Aw outer x H) x1.heap.objs.size x1.gens.size x.heap.objs.size J i' m' [] σ' H' y' → Same m'.Hw H' ∧ dnF i0 dn i' H' → ∀ s, SR Z y' s → RM Z P w base outer x.heap.objs.size x1.heap.objs.size x1.gens.size J (dnF i0 dn) n' s₀ (.ok (.ret .none)) s := by
      rintro σ' H' V' ⟨sm, hd⟩ s hs
      obtain ⟨o', go', I'⟩ := V'.inv
      have pp := I'.pin (x1.heap.objs.size, o') (List.mem_append_right _ List.mem_cons_self)
      exact ⟨rfl, i', m'.xw, m'.Hw, m'.cp, y', H', hn', hs, V'.j, V'.rn rfl sm, hd, pp.2.1, o', pp.1, go'⟩
    intro s1' s1 hs1 _
    cases fl with
    | next =>
      obtain ⟨σ', H', V', q⟩ := q
      exact seg_end (.ok (.ret .none)) (by obtain ⟨h1, h2⟩ := done V' q s1 hs1; exact ⟨h1, h2⟩)
    | brk => obtain ⟨_, _, _, q⟩ := q; exact q.elim
    | cont => obtain ⟨_, _, _, q⟩ := q; exact q.elim
    | ret u =>
      obtain ⟨v, σ', H', V', r1, ev, q⟩ := q
      subst ev
      have eu : u = Value.none := r1
      subst eu
      exact seg_end (.ok (.ret .none)) (by obtain ⟨h1, h2⟩ := done V' q s1 hs1; exact ⟨h1, h2⟩)
  exact main _ _ _ _ rfl rfl rfl fun h => Heap.get?_push_size _ rfl
end Sg
end
section
set_option maxHeartbeats 1000000
namespace Sg
open PySem L2 PyProof.Rows GenW Sf
open Sem (wp)
section
variable {M : Model} {A : Around} {E : Value → Shared → Prop} {s : Shared}
theorem resume_su {R : GenEnd} {Y : Protocol} {n g : Nat} {gs : GenState} {l : List Value} {α : Type} {r : Resume} {k : GenResult → Sem α} {Q : α → Shared → Prop} (hg : s.gens[g]? = some gs) (hgo : gs.Goes M A R Y n r (s.setGen g .running))
    (hR : ∀ x s₁, R n (s.setGen g .running) x s₁ → wpAny M A (k (End.ret x).result) Q E (s₁.setGen g .finished))
    (hY : ∀ v s₁ gs', IsSu gs' → gs'.bare = true → Y (n - 1) (s.setGen g .running) v s₁ (fun r' s'' => match (generalizing := false) n with | 0 => False | m + 1 => gs'.Goes M A R Y m r' s'') → wpAny M A (k (.yielded v)) Q E (s₁.setGen g gs')) :
    wpAny M A (.resume g r l k) Q E s := by
  intro Γ p hΓ
  have ends : ∀ {e s₁}, SegEnd R Y n (Seg.next M A R Y n) (s.setGen g .running) e s₁ → e.quiet = true ∧ wp M Γ (k e.result) (fun a _ s' => Q a s') (fun e _ s' => E e s') p (s₁.setGen g e.genState) := fun {e s₁} he => by
    cases e with
    | ret x => exact ⟨rfl, hR x s₁ he Γ p hΓ⟩
    | susp v gd lv kk c q fs => exact ⟨he.1, hY v s₁ (End.susp v gd lv kk c q fs).genState trivial (End.bare_of_quiet he.1) (by cases n <;> exact he.2) Γ p hΓ⟩
  have key : ∀ {c t fs q}, Seg M A R Y n (s.setGen g .running) c t fs (s.setGen g .running) → ∃ e s₁, Runs M (Γ.wake c p) q t fs (s.setGen g .running) e s₁ ∧ e.quiet = true ∧ wp M Γ (k e.result) (fun a _ s' => Q a s') (fun e _ s' => E e s') p (s₁.setGen g e.genState) := fun {c t fs q} hs => by
    obtain ⟨e, s₁, hr, he⟩ := seg_iff.mp hs (Γ.wake c p) q rfl (hΓ.wake c p)
    exact ⟨e, s₁, hr, ends he⟩
  rw [Sem.wp_resume]
  match gs, hg, hgo with
  | .fresh c, hg, hgo =>
    obtain ⟨er, hs⟩ := hgo
    subst er
    obtain ⟨e, s₁, hr, hq, hw⟩ := key (q := p) hs
    exact ⟨_, _, by unfold Wakes; rw [hg]; exact ⟨e, s₁, hr, hq, rfl, rfl⟩, hw⟩
  | .suspended k₀ l₀ c₀ p₀ fs₀ cl, hg, hgo =>
    obtain ⟨e, s₁, hr, hq, hw⟩ := key (q := p₀) hgo
    exact ⟨_, _, by unfold Wakes; rw [hg]; exact ⟨e, s₁, hr, hq, rfl, rfl⟩, hw⟩
  | .running, _, hgo => exact hgo.elim
  | .finished, _, hgo => exact hgo.elim
end
section
variable {P : Program} {w : World} {A : Around} {E : Value → Shared → Prop} {s : Shared}
theorem wake_I {a : Addr} {g n : Nat} {o : Obj} {gs : GenState} {R : GenEnd} {Y : Protocol} {Q : Option Value → Shared → Prop} {F : Shared → Prop} (hh : A.handled = none) (hl : s.heap.NoLimit) (hroom : A.depth < recursionLimit) (ho : s.heap.get? a = some o) (go : GenO g o)
    (hgs : s.gens[g]? = some gs) (hgo : gs.Goes (mp P w) A.in1 R Y n (.send .none) (s.setGen g .running)) (hR : ∀ r s₁, R n (s.setGen g .running) r s₁ → r = .ok (.ret .none) ∧ F s₁)
    (hY : ∀ v s₁ gs', IsSu gs' → gs'.bare = true → Y (n - 1) (s.setGen g .running) v s₁ (fun r' s'' => match (generalizing := false) n with | 0 => False | m + 1 => gs'.Goes (mp P w) A.in1 R Y m r' s'') → Q (some v) (s₁.setGen g gs'))
    (hE : ∀ s₁, F s₁ → ∀ e h', StopX e h' → (∀ b o, s₁.heap.get? b = some o → h'.get? b = some o) → (∀ N, Dead N s₁.heap → Dead N h') → E e { s₁.setGen g .finished with heap := h' }) :
    wpAny (mp P w) A (callSpecial? (.ref a) "__next__") Q E s := by
  refine wpAny_callSpecial?_slot (name := Str.ofString "__next__") (go.ty ho) slot_gen_next (next_call (go.ty ho) ?_)
  unfold Builtin.Generator.genWake
  refine wpAny_bind (wpAny_holding (genNum ho go (wpAny_bind (wpAny_genState hgs ?_))))
  cases gs with
  | running => exact hgo.elim
  | finished => exact hgo.elim
  | _ =>
    refine wpAny_bind (wpAny_roomToWake hl hroom ?_)
    show wpAny _ A.in1 (.resume g (.send .none) [] _) _ _ s
    refine resume_su hgs hgo (fun r s₁ hr => ?_) (fun v s₁ gs' hi hb hv => wpAny_pure ⟨v, rfl, hY v s₁ gs' hi hb hv⟩)
    obtain ⟨rfl, hF⟩ := hR r s₁ hr
    show wpAny _ A.in1 (newExc (.type "StopIteration") [] >>= _) _ _ _
    refine wpAny_bind ?_
    simp only [newExc, newTuple]
    refine wpAny_bind (wpAny_newObj_type ?_ (by size_fits))
    refine wpAny_bind (m := firstArgMember _ _) (wpAny_of_eq (a := Value.none) (by first | rfl | (simp only [firstArgMember]; rfl)) ?_)
    refine wpAny_newObj_type ?_ (by size_fits)
    simp only [raiseNew]
    refine wpAny_bind (wpAny_bind (wpAny_handled ?_))
    first | rw [show A.in1.handled = none from hh] | rw [hh]
    refine wpAny_throw ?_
    refine hE s₁ hF _ _ ⟨_, _, _, rfl, Heap.get?_push_size _ rfl, rfl, rfl, ?_⟩ (fun b o e => Heap.get?_push_of_some _ (Heap.get?_push_of_some _ e)) fun N d => d.push.push
    first
      | rfl
      | (rw [Array.getElem?_append_left (by decide)]; rfl)
      | kernel_rfl
theorem next_I {a : Addr} {g n : Nat} {o : Obj} {gs : GenState} {R : GenEnd} {Y : Protocol} {Q : Option Value → Shared → Prop} {F : Shared → Prop} (hh : A.handled = none) (hl : s.heap.NoLimit) (hroom : A.depth < recursionLimit) (ho : s.heap.get? a = some o) (go : GenO g o)
    (hgs : s.gens[g]? = some gs) (hgo : gs.Goes (mp P w) A.in1 R Y n (.send .none) (s.setGen g .running)) (hR : ∀ r s₁, R n (s.setGen g .running) r s₁ → r = .ok (.ret .none) ∧ F s₁)
    (hY : ∀ v s₁ gs', IsSu gs' → gs'.bare = true → Y (n - 1) (s.setGen g .running) v s₁ (fun r' s'' => match (generalizing := false) n with | 0 => False | m + 1 => gs'.Goes (mp P w) A.in1 R Y m r' s'') → Q (some v) (s₁.setGen g gs'))
    (hN : ∀ s₁, F s₁ → ∀ h', (∀ b o, s₁.heap.get? b = some o → h'.get? b = some o) → Q none { s₁.setGen g .finished with heap := h' }) : wpAny (mp P w) A (pyNext (.ref a)) Q E s := by
  unfold pyNext
  refine wpAny_bind (wpAny_attempt (wake_I hh hl hroom ho go hgs hgo hR (fun v s₁ gs' hi hb hv => wpAny_pure (hY v s₁ gs' hi hb hv)) fun s₁ hF e h' hx hk _ => ?_))
  obtain ⟨b, ob, vs, rfl, hob, hcb, hdb, h5⟩ := hx
  exact wpAny_bind (wpAny_isInstance (T := "StopIteration") (b := true) ⟨ob, hob, hcb⟩ isSubtype_stop (wpAny_pure (hN s₁ hF h' hk)))
end
end Sg
end
section
set_option maxHeartbeats 2000000
namespace Sg
open PySem L2 PyProof.Rows GenW Sf
def JJ (X : Cx) (ad : Addr) (g sz : Nat) (J : Nat → Shared → Hp → List (Addr × Obj) → Prop) (ip : List (Addr × Obj)) (σ : L2.St) (H1 hw0 : Hp) : Nat → Shared → Hp → List (Addr × Obj) → Prop := fun i xw Hw cp => ∃ (m : Wm) (o : Obj),
  (i < sizeLine → J i m.xw m.Hw m.cp) ∧ GenO g o ∧ Inv (re X (trunc sz m.xw.heap) m.Hw) ((ad, o) :: (m.cp ++ ip)) σ Hw xw ∧ m.xw.os = X.s_0.os ∧ (∀ p ∈ m.cp, p.1 ≠ ad ∧ ∀ q ∈ ip, p.1 ≠ q.1) ∧ Same m.Hw Hw ∧ Same H1 Hw ∧ Same hw0 m.Hw ∧ Dead (dz sz m.xw.heap) xw.heap ∧ cp = (ad, o) :: (m.cp ++ ip)
section
variable {X : Cx} {e : Expr} {yp pos : Pos} {k : Nat}
theorem JJ.ran {ad : Addr} {g sz sz2 : Nat} {J : Nat → Shared → Hp → List (Addr × Obj) → Prop} {ip cp : List (Addr × Obj)} {σ : L2.St} {H1 hw0 Hw H : Hp} {i : Nat} {xw x : Shared} (h : JJ X ad g sz J ip σ H1 hw0 i xw Hw cp) (R : Rn X.prog X.w X.base X.stack sz2 xw Hw cp x H) (hsz : sz ≤ sz2) (hlo : X.env.locals < sz2) (hcl : ∀ y c, X.env.cells.lookup y = some c → c < sz2) (hpn : X.pn = []) :
    JJ X ad g sz J ip σ H1 hw0 i x H cp := by
  obtain ⟨m, o, j, go, I, os, dj, s1, s2, s3, d1, rfl⟩ := h
  refine ⟨m, o, j, go, Inv.ran (X := re X (trunc sz m.xw.heap) m.Hw) I R (by show (trunc sz m.xw.heap).objs.size ≤ sz2; rw [trunc_size]; exact hsz) hlo hcl fun p hp => ?_, os, dj, fun _ _ z => R.same _ _ (s1 _ _ z), fun _ _ z => R.same _ _ (s2 _ _ z), s3, fun b hb => R.dd b ⟨Nat.lt_of_lt_of_le hb.1 hsz, (d1 b hb).2⟩, rfl⟩
  have hp : p ∈ X.pn ++ ((ad, o) :: (m.cp ++ ip)) := hp
  rw [hpn, List.nil_append] at hp
  exact .inl hp
theorem yf_loop {Z : Nat → Prop} {mk : Prop} {ad a2 : Addr} {g g2 sz sz2 i0 : Nat} {B : Prop} {J : Nat → Shared → Hp → List (Addr × Obj) → Prop} {R : GenEnd} {A A0 : Around} {c0 : Code} {fs fs0 : List Frame} {gd0 : Bool → Bool} {ip : List (Addr × Obj)} {σ : L2.St} {H1 hw0 : Hp} {it ito : It} {dn : Dn}
    (sd : Sd mk X ad g sz B ip A0 c0 fs0 gd0) (hh : (A.over (yfC a2) fs).handled = none) (hroom : (A.over (yfC a2) fs).depth < recursionLimit) (hsp : splitAtGen fs = none) (hgd : fs.any Frame.guarded = false)
    (hB : ¬ B) (hgg : g ≠ g2) (hsz : sz ≤ sz2) (hlo : X.env.locals < sz2) (hcl : ∀ y c, X.env.cells.lookup y = some c → c < sz2) (hads : ad < sz2) (hips : ∀ p ∈ ip, p.1 < sz2) (ha2 : sz2 ≤ a2)
    (hit : ∀ i v G, itF i0 it i v G → Same H1 G → ito i v G)
    (hend : ∀ n s₀ s' s₁, g < s₁.gens.size → RM Z X.prog X.w X.base X.stack sz2 a2 g2 (JJ X ad g sz J ip σ H1 hw0) (dnF i0 dn) n s' (.ok (.ret .none)) s₁ → ∀ h', (∀ b o, s₁.heap.get? b = some o → h'.get? b = some o) → (∀ N, Dead N s₁.heap → Dead N h') →
      Seg (mp X.prog X.w) A R (YM Z X.prog X.w X.base X.outer sz ad g B J ito) n s₀ (yfC a2) (.pure (.done (.ret .none))) fs { s₁.setGen g2 .finished with heap := h' }) :
    ∀ (n : Nat) (s₀ s : Shared) (gs : GenState), g < s.gens.size → s.gens[g2]? = some gs →
      gs.Goes (mp X.prog X.w) (A.over (yfC a2) fs).in1 (RM Z X.prog X.w X.base X.stack sz2 a2 g2 (JJ X ad g sz J ip σ H1 hw0) (dnF i0 dn)) (YM Z X.prog X.w X.base X.stack sz2 a2 g2 True (JJ X ad g sz J ip σ H1 hw0) (itF i0 it)) n (.send .none) (s.setGen g2 .running) →
      (∃ o2, s.heap.get? a2 = some o2 ∧ GenO g2 o2) → s.heap.NoLimit → Seg (mp X.prog X.w) A R (YM Z X.prog X.w X.base X.outer sz ad g B J ito) n s₀ (yfC a2) ((mp X.prog X.w).den (yfC a2)) fs s := by
  have up : ∀ {s₁ : Shared} {x : GenState} {h : Heap} {j : Nat}, j + 1 ≤ ({ s₁.setGen g2 x with heap := h } : Shared).gens.size → j < s₁.gens.size := fun {s₁ x h j} q => by
    have q : j + 1 ≤ (s₁.setGen g2 x).gens.size := q
    rw [setGen_size] at q
    exact q
  intro n
  induction n with
  | zero =>
    intro s₀ s gs hgs hg2 hgo ⟨o2, ho2, go2⟩ hl
    refine seg_yfturn (g := g2) (wpAny_gsz (n := g + 1) hgs (wake_I (F := fun s₁ => RM Z X.prog X.w X.base X.stack sz2 a2 g2 (JJ X ad g sz J ip σ H1 hw0) (dnF i0 dn) 0 s (.ok (.ret .none)) s₁) hh hl hroom ho2 go2 hg2 hgo (fun r s₁ hr => ?_) (fun v s₁ gs' hsu hb hv hz1 => ?_) fun s₁ hF e h' hx hk hd hz1 => ⟨hx, hend 0 s₀ s s₁ (up hz1) hF h' hk hd⟩))
    · obtain ⟨rfl, q⟩ := hr
      exact ⟨rfl, rfl, q⟩
    · obtain ⟨Hs, i, xw, Hw, cp, x, H, Pv, vv, hn, sh, _, _, _, hj, rn, hpv, ⟨_, hn2, ⟨o1, ho1, go1⟩, _⟩, rv, hitv, wake⟩ := hv
      have hn : 0 + 1 + i = sizeLine := hn
      exact (wake x H [] (Wk.idle rn (fun b hb => (hpv b hb).2.1) ⟨hn2, o1, ho1, go1⟩) (fun z => by omega) s₁ sh ⟨Nat.le_refl _, fun _ _ => rfl⟩).elim
  | succ m ih =>
    intro s₀ s gs hgs hg2 hgo ⟨o2, ho2, go2⟩ hl
    have hg2l : g2 < s.gens.size := (Array.getElem?_eq_some_iff.mp hg2).1
    refine seg_yfturn (g := g2) (wpAny_gsz (n := g + 1) hgs (wpAny_gsz (n := g2 + 1) hg2l (wake_I (F := fun s₁ => RM Z X.prog X.w X.base X.stack sz2 a2 g2 (JJ X ad g sz J ip σ H1 hw0) (dnF i0 dn) (m + 1) s (.ok (.ret .none)) s₁) hh hl hroom ho2 go2 hg2 hgo (fun r s₁ hr => ?_) (fun v s₁ gs' hsu hb hv hz2 hz1 => ?_)
      fun s₁ hF e h' hx hk hd hz2 hz1 => ⟨hx, hend (m + 1) s₀ s s₁ (up hz1) hF h' hk hd⟩)))
    · obtain ⟨rfl, q⟩ := hr
      exact ⟨rfl, rfl, q⟩
    · obtain ⟨Hs, i, xw, Hw, cp, x, H, Pv, vv, hn, sh, _, hno, _, hj, rn, hpv, ⟨_, hn2, ⟨o1, ho1, go1⟩, hcp2, hpa⟩, rv, hitv, wake⟩ := hv
      have hn : m + 1 + i = sizeLine := hn
      have hH : ∀ i, ¬ Hs i := hno trivial
      have z1 : g < s₁.gens.size := up (h := s₁.heap) hz1
      have z2 : g2 < s₁.gens.size := up (h := s₁.heap) hz2
      obtain ⟨mm, oo, hJ, goo, I, osm, djm, sm1, sm2, sm3, ddm, ecp⟩ := JJ.ran hj rn hsz hlo hcl sd.pn
      subst ecp
      refine ⟨v, rfl, o1, ?_, go1, fun h2 e2 k2 => ?_⟩
      · show s₁.heap.get? a2 = _
        rw [sh.heap]; exact ho1
      have k2' : ∀ c oc, c ≠ a2 → x.heap.get? c = some oc → h2.get? c = some oc := fun c oc hc e => (k2.1 c hc).trans (by
        show s₁.heap.get? c = _
        rw [sh.heap]; exact e)
      have i_lo : a2 ≠ X.env.locals := Nat.ne_of_gt (Nat.lt_of_lt_of_le hlo ha2)
      have i_ex : ∀ {h : Heap}, a2 ∈ (re X (trunc sz mm.xw.heap) mm.Hw).ex ∨ (trunc sz h).objs.size ≤ a2 := fun {h} => .inr (by rw [trunc_size]; exact Nat.le_trans hsz ha2)
      have i_cl : ∀ y c, X.env.cells.lookup y = some c → c ≠ a2 := fun y c e => Nat.ne_of_lt (Nat.lt_of_lt_of_le (hcl y c e) ha2)
      have I2 : Inv (re X (trunc sz mm.xw.heap) mm.Hw) ((ad, oo) :: (mm.cp ++ ip)) σ H { x with heap := h2 } := I.turned (t' := x.toks) (it := a2) (fun b o hb e => k2' b o hb e) hn2 i_lo i_ex i_cl (fun p hp => by
        have hp : p ∈ X.pn ++ ((ad, oo) :: (mm.cp ++ ip)) := hp
        rw [sd.pn, List.nil_append] at hp
        exact hcp2 p hp)
      have S2 : GS X ad g sz J i mm ip σ H { x with heap := h2 } := ⟨hJ, ⟨oo, goo, I2⟩, osm, djm, fun b hb => by
        obtain ⟨d1, d2⟩ := ddm b hb
        have ha : b ≠ a2 := fun q => by rw [q, ho1] at d2; cases d2
        refine ⟨?_, ?_⟩
        · show b < h2.objs.size
          rw [k2.2]
          show b < s₁.heap.objs.size
          rw [sh.heap]; exact d1
        · show h2.get? b = none
          rw [k2.1 b ha]
          show s₁.heap.get? b = none
          rw [sh.heap]; exact d2⟩
      obtain ⟨ow1, ow2, ow3, ow4, ow6, ow5⟩ := S2.own sd
      have hai : i < sizeLine := by omega
      refine seg_yield hsp rfl hgd ?_
      refine ⟨fun i => i = g2, i, mm.xw, mm.Hw, mm.cp, { x with heap := h2 }, H, fun b => Own X ip b ∨ Pv b ∨ b = a2, vv, hn, ⟨rfl, sh.drawn, sh.toks, sh.os, ?_, fun i hi => ?_⟩, hgg, fun hb => (hB hb).elim, (fun k hk => ⟨gs', by rw [show k = g2 from hk]; exact setGen_at z2, hsu, hb⟩), hJ hai, S2.rn sd.ex sm1, fun b hb => ?_, ⟨ow2, ow3, ow4, ow6, fun q => ?_⟩, rv, hit i vv H hitv sm2, fun x' H' cp' wk hj' s' hs' bk => ?_⟩
      · show (s₁.setGen g2 gs').gens.size = x.gens.size
        rw [setGen_size]; exact sh.size
      · show OR (Z i) (x.gens[i]?) ((s₁.gens.setIfInBounds g2 gs')[i]?)
        rw [Array.getElem?_setIfInBounds_ne (Ne.symm hi)]
        exact sh.gens i (hH i)
      · have e2x : h2.get? a2 = some { o1 with slots := #[some (.int 1 0)] } := e2
        rcases hb with hb | hb | hb
        · exact ow1 b hb
        · obtain ⟨q1, q2, ⟨ob, q3⟩, q4⟩ := hpv b hb
          refine ⟨Nat.le_trans hsz q1, q2, ?_, fun p hp => q4 p (List.mem_cons_of_mem _ (List.mem_append_left _ hp))⟩
          by_cases hba : b = a2
          · rw [hba]; exact ⟨_, e2x⟩
          · exact ⟨ob, k2' b ob hba q3⟩
        · rw [hb]
          exact ⟨Nat.le_trans hsz ha2, hn2, ⟨_, e2x⟩, fun p hp => hcp2 p (List.mem_cons_of_mem _ (List.mem_append_left _ hp))⟩
      · rcases q with q | q | q
        · exact ow5 q
        · exact absurd (hpv ad q).1 (Nat.not_le.mpr hads)
        · exact Nat.ne_of_lt (Nat.lt_of_lt_of_le hads ha2) q
      have e2x : ({ x with heap := h2 } : Shared).heap.get? a2 = some { o1 with slots := #[some (.int 1 0)] } := e2
      have pa2 := wk.priv a2 _ (.inr (.inr rfl)) e2x
      have ea : s'.heap.get? a2 = some { o1 with slots := #[some (.int 1 0)] } := by
        rw [hs'.heap]; exact pa2.1
      obtain ⟨gc, ⟨nm, qn, gd'⟩, gsl⟩ := go1
      show Seg _ A R _ m s' (yfC a2) (T0 (Builtin.Generator.sleptOver (.ref a2) false >>= fun _ => _)) fs s'
      refine seg_T0 (slept (m := 1) ea gc gd' (.inr ⟨0, rfl⟩) fun h3 e3 k3 => ?_)
      have e3 : h3.get? a2 = some { o1 with slots := #[some (.int 0 0)] } := e3
      have k3' : ∀ b o, b ≠ a2 → x'.heap.get? b = some o → h3.get? b = some o := fun b o hb e => (k3.1 b hb).trans (by rw [hs'.heap]; exact e)
      have go3 : GenO g2 { o1 with slots := #[some (.int 0 0)] } := ⟨gc, ⟨nm, qn, gd'⟩, .inr ⟨0, rfl⟩⟩
      -- the outer one is woken
      have hzx : sz ≤ x'.heap.objs.size := by
        obtain ⟨_, _, ⟨oL, eL⟩, _⟩ := ow1 X.env.locals (.inl rfl)
        have z := Heap.lt_size (wk.priv X.env.locals oL (.inl (.inl rfl)) eL).1
        rw [sd.lo] at z
        exact Nat.le_of_lt z
      have S3 := S2.woken sd (wk.mono fun b hb => .inl hb) hj' hzx
      obtain ⟨o3, go3', I3⟩ := S3.inv
      have I4 : Inv (re X (trunc sz x'.heap) H') ((ad, o3) :: (cp' ++ ip)) σ H' { x' with heap := h3 } := I3.turned (t' := x'.toks) (it := a2) (fun b o hb e => k3' b o hb e) pa2.2 i_lo (.inr (by show (trunc sz x'.heap).objs.size ≤ a2; rw [trunc_size]; exact Nat.le_trans hsz ha2)) i_cl (fun p hp => by
        have hp : p ∈ X.pn ++ ((ad, o3) :: (cp' ++ ip)) := hp
        rw [sd.pn, List.nil_append] at hp
        rcases List.mem_cons.mp hp with z | z
        · rw [z]; exact Nat.ne_of_lt (Nat.lt_of_lt_of_le hads ha2)
        · rcases List.mem_append.mp z with z | z
          · exact fun q => (wk.pin p z).2.2.1 (.inr (.inr q))
          · exact Nat.ne_of_lt (Nat.lt_of_lt_of_le (hips p z) ha2))
      have I5 : Inv (re X (trunc sz x'.heap) H') ((ad, o3) :: (cp' ++ ip)) σ H' (({ x' with heap := h3 } : Shared).setGen g2 .running) :=
        I4.call' (ch := []) rfl (Un.kept fun _ _ q => q) I4.hok (allBare_setGen (s := { x' with heap := h3 }) wk.bare rfl) fun b hb => absurd hb (by simp)
      show Seg _ A R _ m s' (yfC a2) (T0 (pure Value.none >>= fun v => again (.builtin "proto.yield_from" ⟨[.ref a2, .bool false, v], []⟩))) fs { s' with heap := h3 }
      refine seg_T0 (wpAny_pure ?_)
      show Seg _ A R _ m s' (yfC a2) (.pure (.again (yfC a2))) fs { s' with heap := h3 }
      refine seg_again (plainId_quiet plain_yf _) (ih s' { s' with heap := h3 } gs' ?_ ?_ ?_ ⟨_, e3, go3⟩ ?_)
      · refine Nat.lt_of_lt_of_le z1 (Nat.le_trans (Nat.le_of_eq ?_) bk.size)
        show _ = (s₁.setGen g2 gs').gens.size
        rw [setGen_size]
      · exact (bk.same g2 rfl).trans (setGen_at z2)
      · refine wake (({ x' with heap := h3 } : Shared).setGen g2 .running) H' ((ad, o3) :: (cp' ++ ip)) ⟨wk.os, allBare_setGen (s := { x' with heap := h3 }) wk.bare rfl, I4.hok, wk.same, I4.bs, I4.stack, I4.stkFree, fun b o hb e => ?_, ⟨pa2.2, _, e3, go3⟩, fun p hp => ?_⟩ (fun _ => ⟨⟨x', H', cp'⟩, o3, hj', go3', I5, S3.os, S3.dj, fun _ _ z => z, fun _ _ z => wk.same _ _ (sm2 _ _ z), fun _ _ z => wk.same _ _ (sm1 _ _ (sm3 _ _ z)), fun b hb => ?_, rfl⟩) (({ s' with heap := h3 } : Shared).setGen g2 .running) (SH.fill hs' h3) ⟨?_, fun i q => (hH i q).elim⟩
        · have hba : b ≠ a2 := fun q => hpa (by rw [← q]; exact hb)
          have q := wk.priv b o (.inr (.inl hb)) (k2' b o hba e)
          exact ⟨k3' b o hba q.1, q.2⟩
        · obtain ⟨p1, p2, p3, p4, p5⟩ := I4.pin p (List.mem_append_right _ hp)
          have nst : p.1 ∉ frs X.stack := fun hm => (List.mem_cons.mp (I4.stkSub _ hm)).elim p3 p4
          refine ⟨p1, p2, ?_, ?_, nst, p5⟩
          · rcases List.mem_cons.mp hp with z | z
            · rw [z]; exact fun q => Nat.not_le.mpr hads (hpv ad q).1
            · rcases List.mem_append.mp z with z | z
              · exact fun q => (wk.pin p z).2.2.1 (.inr (.inl q))
              · exact fun q => Nat.not_le.mpr (hips p z) (hpv p.1 q).1
          · rcases List.mem_cons.mp hp with z | z
            · rw [z]; exact Nat.ne_of_lt (Nat.lt_of_lt_of_le hads ha2)
            · rcases List.mem_append.mp z with z | z
              · exact fun q => (wk.pin p z).2.2.1 (.inr (.inr q))
              · exact Nat.ne_of_lt (Nat.lt_of_lt_of_le (hips p z) ha2)
        · have hb : b < sz ∧ x'.heap.get? b = none := hb
          have ha : b ≠ a2 := fun q => by
            have z := pa2.1
            rw [← q, hb.2] at z; cases z
          refine ⟨?_, ?_⟩
          · show b < h3.objs.size
            rw [k3.2, hs'.heap]
            exact Nat.lt_of_lt_of_le hb.1 hzx
          · show h3.get? b = none
            rw [k3.1 b ha, hs'.heap]
            exact hb.2
        · refine Nat.le_trans (Nat.le_trans (Nat.le_of_eq ?_) bk.size) (Nat.le_of_eq ?_)
          · show _ = (s₁.setGen g2 gs').gens.size
            rw [setGen_size]
          · rw [setGen_size]
      · exact I4.nolimit
end
end Sg
end
section
set_option maxHeartbeats 1000000
namespace Sg
open PySem L2 PyProof.Rows GenW Sf
abbrev TGM := L2.St → Hp → (It → Dn → Nat → Hp → Prop) → Prop
structure PGM (X : Cx) (k : Nat) (mk : Prop) (e : Expr) (t : TGM) : Prop where
  run : ∀ (pins : List (Addr × Obj)) (x : Shared) (σ : L2.St) (H : Hp) (Q : It → Dn → Nat → Hp → Prop), Inv X pins σ H x → t σ H Q →
    wpAny (model X.prog X.w) X.A (eval e X.env) (fun u y => ∃ (H1 : Hp) (xc : Shared) (it : It) (dn : Dn) (rm : Nat), x.gens.size ≤ xc.gens.size ∧ Inv X pins σ H1 xc ∧ Made X.prog X.w X.base k mk X.stack H1 xc it dn rm u y ∧ Q it dn rm H1) X.xe x
def tCallGM (sp : SpM) (dvs : List V) (t : TA) : TGM := fun σ H cont => t σ H fun vs H1 => ∃ it dn rm, sp (vs ++ dvs) H1 it dn rm ∧ cont it dn rm H1
section
variable {X : Cx} {k : Nat} {mk : Prop} {f : Addr} {fd : FuncData} {ps : List Str} {sp : SpM} {dvs : List V} {ds : List Value} {nm : Str} {p pos pos' : Pos} {e : Expr} {es : List Expr} {t : TA}
theorem pgm_call (F : GFnM X.prog X.w X.K X.mg X.base k mk f fd ps sp) (hr : Room k X.A) (hg : Gl X nm) (hm : X.mg nm = some (.ref f)) (hk : PySem.W.keepIn X.K (.ref f) = true) (hb : Binds X.K fd ps ds) (hd : Vals dvs ds)
    (ha : PA X (e :: es) t) (hdb : (nm == ("__debug__" : Str)) = false := by decide) (he : starEach (e :: es) X.env = (false, eval e X.env) :: starEach es X.env := by rfl) (hpl : (backTo pos' (starEach es X.env)).any (·.1) = false := by rfl) :
    PGM X k mk (.Call (.Name nm p) (e :: es) [] pos') (tCallGM sp dvs t) := by
  refine ⟨fun pins x σ H Q I h => ?_⟩
  refine wpAny_Call_Name_kw (ld_glob I hg hm ?_ hdb)
  refine PySem.W.callWith_K (h₀ := X.base) I.ok.mod.kin hk (wpAny_gsz (n := x.gens.size) (Nat.le_refl _) (wpAny_mono (ha.run pos' pins x σ H _ I h) (fun us s1 ⟨vs, H1, I1, r, it, dn, rm, q, q2⟩ hz => ⟨I1.kIn, ?_⟩) fun _ _ e _ => e)) he hpl
  have r2 : Vals (vs ++ dvs) (us ++ ds) := r.append hd
  have hl : (us ++ ds).length = ps.length := by rw [← r2.length]; exact F.len _ _ _ _ _ q
  refine wpAny_call (codeAny_mono (F.run X.A X.stack s1 H1 ⟨us, []⟩ (us ++ ds) (vs ++ dvs) it dn rm hr I1.env0 (hb s1 us I1.kIn hl) r2 q) fun r s' z => ?_)
  match r, z with
  | .error _, z => exact False.elim z
  | .ok .next, z => exact False.elim z
  | .ok .brk, z => exact False.elim z
  | .ok .cont, z => exact False.elim z
  | .ok (.ret u), z => exact ⟨H1, s1, it, dn, rm, hz, I1, z, q2⟩
end
def tGFrm (t : Heap → Hp → TGM) : TGm := fun D i hw σ H => ∀ h0 H0, t h0 H0 σ H fun it dn rm H1 => Same hw H1 ∧ i + rm ≤ sizeLine ∧ (∀ j v G, Same H1 G → it j v G → D.it (i + j) v G) ∧ (∀ j G, dn j G → i + j < sizeLine) ∧ ∀ j hw' G, Same hw hw' → Same hw' G → Same H1 G → dn j G → D.nx (i + j) hw' σ G
section
variable {X : Cx} {e : Expr} {yp pos : Pos} {k : Nat} {t : Heap → Hp → TGM}
theorem gb_yf (he : ∀ h0 H0, PGM (re X h0 H0) k True e (t h0 H0)) (hc : X.calm = true) (hr : Room (k + 1) X.A) (hi : interactive X.env = false := by rfl) : GB False X (.Expr (.YieldFrom e yp) pos) (tGFrm t) := by
  refine ⟨fun Z A ad g sz B J R n i m ip x σ H D c fs K Jx gd lv sd hn kk hV ht s₀ s hs hg => ?_⟩
  rw [exec_Expr X.env _ pos hi rfl]
  show Seg _ _ _ _ n s₀ c (.at pos fun _ => ((eval e X.env >>= fun v => (standAt yp >>= fun _ => yieldFrom X.env v)) >>= fun x => dropValue (.YieldFrom e yp) pos x).wrap K Jx gd lv) fs s
  refine seg_at ?_
  obtain ⟨o, go, I⟩ := hV.inv
  refine segw_bind2 ?_
  rw [sd.over]
  refine wpAny_gd (n := g + 1) (N := dz sz m.xw.heap) hg (by rw [hs.heap]; exact hV.dd) (wpAny_mono (wpAny_up hs ((he (trunc sz m.xw.heap) m.Hw).run _ x σ H _ I (ht (trunc sz m.xw.heap) m.Hw))) (fun v s1 ⟨y, hy, H1, xc, it, dn, rm, hxc, Ic, hM, sm1, hrm, hit, hdn, hq⟩ hg1 dd1 => ?_) fun e s' ⟨y, _, q⟩ => (sd.nx e y q).elim)
  obtain ⟨a2, g2, c2, rfl, ha1, ha2, hG, hgs, hxg, hos, hb, hlim, hkp, wake⟩ := hM
  have hne : ¬ ((Value.type "generator" == Value.type "coroutine") = true) := by decide
  have hG1 : s1.heap.IsGen a2 g2 := by rw [hy.heap]; exact hG
  refine seg_at ?_
  show Seg _ _ _ _ n s₀ c ((yieldFrom X.env (.ref a2)).wrap (fun b => (dropValue (.YieldFrom e yp) pos b).wrap K Jx gd lv) Jx gd lv) fs s1
  unfold yieldFrom
  refine seg_bind_wrap (wpAny_typeOf hG1.typeIs ?_)
  rw [if_neg hne]
  refine seg_bind_wrap (wpAny_holding ?_)
  rw [sd.over]
  refine wpAny_gsz (n := g + 1) hg1 (wpAny_mono (wpAny_up hy (wpAny_pyIter_gen (Q := fun u y' => u = .ref a2 ∧ y' = y) (E := fun _ _ => False) hG ⟨rfl, rfl⟩)) (fun u s2 ⟨y', hy2, eu, ey⟩ hg2 => ?_) fun e s' ⟨y, _, q⟩ => q.elim)
  subst eu ey
  refine seg_call fun p => ?_
  have hlo : X.env.locals < xc.heap.objs.size := let ⟨_, hn, _⟩ := Ic.loc; hn.lt
  have hcl : ∀ y c, X.env.cells.lookup y = some c → c < xc.heap.objs.size := fun y c e => by
    obtain ⟨v, o, ho, _⟩ := Ic.cell y c e
    exact Heap.lt_size ho
  have hsz : sz ≤ xc.heap.objs.size := by rw [← sd.lo]; exact Nat.le_of_lt hlo
  have hads : ad < xc.heap.objs.size := Heap.lt_size (Ic.pin (ad, o) (List.mem_append_right _ List.mem_cons_self)).1
  have hips : ∀ p ∈ ip, p.1 < xc.heap.objs.size := fun p hp => Heap.lt_size (Ic.pin p (List.mem_append_right _ (List.mem_cons_of_mem _ (List.mem_append_right _ hp)))).1
  have hgg : g ≠ g2 := by
    have h1 : x.gens.size = s.gens.size := hs.size.symm
    omega
  have oc : A.over c fs = X.A := sd.over
  have rmk : ∀ {kf : Result → Sem PySem.Fin} {gg : Bool} {ll : List Value}, Room k (A.over (yfC a2) (.ret kf none gg ll c p [] :: fs)).in1 := fun {kf gg ll} => by
    obtain ⟨o1, o2, o3, o4⟩ := over_bi (A := A) (c := c) (c' := yfC a2) (fs := fs) (k := kf) (g := gg) (l := ll) (p := p) (kp := []) (yfC_w a2)
    have h1 := hr.dp
    have h2 := hr.un
    have h3 := yfC_u a2
    refine ⟨by show (A.over (yfC a2) (.ret kf none gg ll c p [] :: fs)).handled = _; rw [o1, oc]; exact hr.hd, ?_, ?_⟩
    · show (A.over (yfC a2) (.ret kf none gg ll c p [] :: fs)).depth + 3 * k + 5 < _
      rw [o2, oc]; omega
    · show (A.over (yfC a2) (.ret kf none gg ll c p [] :: fs)).units + 1 + 16 * k + 200 < _
      rw [o4, oc]; omega
  have fr : ∀ {kf : Result → Sem PySem.Fin} {gg : Bool} {ll : List Value}, (A.over (yfC a2) (.ret kf none gg ll c p [] :: fs)).in1.frames = some X.stack := fun {kf gg ll} => by
    obtain ⟨o1, o2, o3, o4⟩ := over_bi (A := A) (c := c) (c' := yfC a2) (fs := fs) (k := kf) (g := gg) (l := ll) (p := p) (kp := []) (yfC_w a2)
    show (A.over (yfC a2) (.ret kf none gg ll c p [] :: fs)).frames = _
    rw [o3, oc]; exact Ic.ok.frames
  have hgl : g2 < s2.gens.size := by
    rw [hy2.size]
    exact (Array.getElem?_eq_some_iff.mp hgs).1
  have hyb : AllBare (y'.setGen g2 .running).gens := allBare_setGen hb rfl
  have Iy : Inv (re X (trunc sz m.xw.heap) m.Hw) ((ad, o) :: (m.cp ++ ip)) σ H1 (y'.setGen g2 .running) :=
    Ic.call' (s' := y'.setGen g2 .running) (ch := []) hos (Un.kept hkp) (Ic.hok.kept hkp) hyb fun b hb => absurd hb (by simp)
  have nst : ∀ p ∈ X.pn ++ ((ad, o) :: (m.cp ++ ip)), p.1 ∉ frs X.stack := fun p hp hm => by
    obtain ⟨_, _, p3, p4, _⟩ := Ic.pin p hp
    exact (List.mem_cons.mp (Ic.stkSub _ hm)).elim p3 p4
  refine yf_loop (σ := σ) (sz2 := xc.heap.objs.size) (g2 := g2) (H1 := H1) (hw0 := m.Hw) (i0 := i) (it := it) (dn := dn) sd ?_ ?_ ?_ ?_ (fun q => sd.mkd q) hgg hsz hlo hcl hads hips ha1 (fun i' v G hi' sG => by
      have := hit (i' - i) v G sG hi'.2
      rwa [show i + (i' - i) = i' by have := hi'.1; omega] at this) (fun n' s₀' s' s₁ hgz hR h' hk hdh => ?_) n s₀ s2 (.fresh c2) hg2 ?_ ⟨rfl, ?_⟩ ?_ ?_
  · exact (over_bi (yfC_w a2)).1.trans (by rw [oc]; exact hr.hd)
  · rw [(over_bi (yfC_w a2)).2.1, oc]; exact hr.depth
  · show (splitAtGen fs).map _ = none
    rw [sd.split]; rfl
  · show (gd false || fs.any Frame.guarded) = false
    rw [sd.gd, sd.guard]; rfl
  · obtain ⟨_, i', xw2, Hw2, cp2, ye, H2, hn', hye, hj, rn, hd, _, _⟩ := hR
    have hd2 := hdn (i' - i) H2 hd.2
    have ei : i + (i' - i) = i' := by have := hd.1; omega
    rw [ei] at hd2
    obtain ⟨mm, oo, hJ, goo, I2, osm, djm, t1, t2, t3, ddm, ecp⟩ := JJ.ran (hj hd2) rn hsz hlo hcl sd.pn
    refine seg_leaf (.ok (.ret .none)) ?_
    have SRe : SR Z { ye.setGen g2 .finished with heap := h' } { s₁.setGen g2 .finished with heap := h' } := (hye.setGen g2 .finished).heapTo h'
    have hk' : ∀ b o, ye.heap.get? b = some o → h'.get? b = some o := fun b o e => hk b o (by rw [hye.heap]; exact e)
    have I3 : Inv (re X (trunc sz mm.xw.heap) mm.Hw) ((ad, oo) :: (mm.cp ++ ip)) σ H2 { ye.setGen g2 .finished with heap := h' } :=
      I2.call' (ch := []) rfl (Un.kept hk') (I2.hok.kept hk') (allBare_setGen rn.bare rfl) fun b hb => absurd hb (by simp)
    have q := hq (i' - i) mm.Hw H2 t3 t1 t2 hd.2
    rw [ei] at q
    exact kk n' i' mm _ .next hn' ⟨σ, H2, ⟨hJ, ⟨oo, goo, I3⟩, osm, djm, hdh _ (by rw [hye.heap]; exact ddm)⟩, q⟩ s₀' _ SRe (by
      show g < (s₁.setGen g2 .finished).gens.size
      rw [setGen_size]; exact hgz)
  · exact gs_fresh hy2 hgs
  · refine wake Z True _ (JJ X ad g sz J ip σ H1 m.Hw) i n (y'.setGen g2 .running) H1 ((ad, o) :: (m.cp ++ ip)) (fun _ => trivial) rmk fr hn hrm ⟨hos, hyb, Iy.hok, fun _ _ z => z, Iy.bs, Iy.stack, Iy.stkFree, fun b ob hb' e => ⟨e, Ic.hok.fresh hb'⟩, fun p hp => ?_⟩ ⟨m, o, hV.j, go, Iy, hV.os, hV.dj, sm1, fun _ _ z => z, fun _ _ z => z, (by
      have z : Dead (dz sz m.xw.heap) y'.heap := by rw [← hy.heap]; exact dd1
      exact z), rfl⟩ (s2.setGen g2 .running) (s2.setGen g2 .running) (hy2.setGen g2 .running) (by rw [setGen_size]; exact hgl)
    obtain ⟨p1, p2, p3, p4, p5⟩ := Iy.pin p (List.mem_append_right _ hp)
    exact ⟨p1, p2, .inl (Heap.lt_size (Ic.pin p (List.mem_append_right _ hp)).1), nst p (List.mem_append_right _ hp), p5⟩
  · obtain ⟨ob, nm, qn, h1, h2, h3, h4⟩ := hG
    exact ⟨ob, by rw [hy2.heap]; exact h1, h2, ⟨nm, qn, h3⟩, .inl h4⟩
  · rw [hy2.heap]; exact hlim
end
end Sg
end
section
set_option maxHeartbeats 1000000
namespace Sg
open PySem L2 PyProof.Rows GenW Sf
open Sem (wp)
def blank : Frame → Frame
  | .ret _ h g l c p kp => .ret (fun _ => .unsupported "hid") h g l c p kp
  | .gen g _ l c p => .gen g (fun _ => .unsupported "hid") l c p
def hid : GenState → GenState
  | .suspended _ _ c p fs cl => .suspended (fun _ => .unsupported "hid") [] c p (fs.map blank) cl
  | .fresh c => .fresh c
  | .running => .running
  | .finished => .finished
def NoG : GenState → Prop
  | .suspended _ _ _ _ fs _ => splitAtGen fs = none
  | _ => True
def NoE : End → Prop
  | .susp _ _ _ _ _ _ fs => splitAtGen fs = none
  | .ret _ => True
theorem NoE.gen {e : End} (h : NoE e) : NoG e.genState := by cases e with
  | ret => trivial
  | susp => exact h
theorem hid_seen (x : GenState) : (hid x).seen = x.seen := by
  cases x with
  | suspended k l c p fs cl =>
    show (GenStatus.suspended, some ((c, p) :: (fs.map blank).map Frame.where_)) = (GenStatus.suspended, some ((c, p) :: fs.map Frame.where_))
    rw [List.map_map, show Frame.where_ ∘ blank = Frame.where_ from funext fun f => by cases f <;> rfl]
  | _ => rfl
theorem split_app {a b : List Frame} (h : splitAtGen a = none) (h2 : splitAtGen b = none) : splitAtGen (a ++ b) = none := by
  induction a with
  | nil => exact h2
  | cons f r ih =>
    cases f with
    | gen g k l c p => rw [splitAtGen_gen] at h; exact absurd h (by simp)
    | ret k hh g l c p kp =>
      rw [splitAtGen_ret] at h
      rw [List.cons_append, splitAtGen_ret, ih (by
        cases q : splitAtGen r with
        | none => rfl
        | some z => rw [q] at h; exact absurd h (by simp))]
      rfl
theorem split_tail {k h g l c p kp} {fs : List Frame} (q : splitAtGen (.ret k h g l c p kp :: fs) = none) : splitAtGen fs = none := by
  rw [splitAtGen_ret] at q
  cases z : splitAtGen fs with
  | none => rfl
  | some z2 => rw [z] at q; exact absurd q (by simp)
structure UR (o : Nat → Option GenState) (s r : Shared) : Prop where
  heap : r.heap = s.heap
  drawn : r.drawn = s.drawn
  toks : r.toks = s.toks
  os : r.os = s.os
  size : r.gens.size = s.gens.size
  at0 : ∀ i, o i = none → r.gens[i]? = s.gens[i]?
  at1 : ∀ i st, o i = some st → IsSu st ∧ s.gens[i]? = some (hid st) ∧ r.gens[i]? = some st
  ng : ∀ (i : Nat) st, o i = none → r.gens[i]? = some st → NoG st
section
variable {o : Nat → Option GenState} {s r : Shared}
theorem UR.heapTo (h : UR o s r) (hp : Heap) : UR o { s with heap := hp } { r with heap := hp } := ⟨rfl, h.drawn, h.toks, h.os, h.size, h.at0, h.at1, h.ng⟩
theorem UR.toksTo (h : UR o s r) (x) : UR o { s with toks := x } { r with toks := x } := ⟨h.heap, h.drawn, rfl, h.os, h.size, h.at0, h.at1, h.ng⟩
theorem UR.drawnTo (h : UR o s r) (x) : UR o { s with drawn := x } { r with drawn := x } := ⟨h.heap, rfl, h.toks, h.os, h.size, h.at0, h.at1, h.ng⟩
theorem UR.osTo (h : UR o s r) (x) : UR o { s with os := x } { r with os := x } := ⟨h.heap, h.drawn, h.toks, rfl, h.size, h.at0, h.at1, h.ng⟩
theorem UR.off {g : Nat} {st : GenState} (h : UR o s r) (e : s.gens[g]? = some st) (hs : ¬ IsSu st) : o g = none ∧ r.gens[g]? = some st := by
  cases q : o g with
  | none => exact ⟨rfl, (h.at0 g q).trans e⟩
  | some st' =>
    obtain ⟨h1, h2, _⟩ := h.at1 g st' q
    rw [e] at h2
    cases h2
    cases st' with
    | suspended => exact absurd trivial hs
    | _ => exact h1.elim
theorem UR.setGen (h : UR o s r) {g : Nat} (hg : o g = none) {x : GenState} (hx : NoG x) : UR o (s.setGen g x) (r.setGen g x) := by
  refine ⟨h.heap, h.drawn, h.toks, h.os, ?_, fun i q => ?_, fun i st q => ?_, fun i st q e => ?_⟩
  · rw [setGen_size, setGen_size]; exact h.size
  · show (r.gens.setIfInBounds g x)[i]? = (s.gens.setIfInBounds g x)[i]?
    by_cases hi : g = i
    · subst hi
      rw [Array.getElem?_setIfInBounds_self, Array.getElem?_setIfInBounds_self, h.size]
    · rw [Array.getElem?_setIfInBounds_ne hi, Array.getElem?_setIfInBounds_ne hi]
      exact h.at0 i q
  · have hi : g ≠ i := fun e => by rw [e, q] at hg; cases hg
    show IsSu st ∧ (s.gens.setIfInBounds g x)[i]? = some (hid st) ∧ (r.gens.setIfInBounds g x)[i]? = some st
    rw [Array.getElem?_setIfInBounds_ne hi, Array.getElem?_setIfInBounds_ne hi]
    exact h.at1 i st q
  · have e : (r.gens.setIfInBounds g x)[i]? = some st := e
    by_cases hi : g = i
    · subst hi
      rw [Array.getElem?_setIfInBounds_self] at e
      split at e
      · cases e; exact hx
      · cases e
    · rw [Array.getElem?_setIfInBounds_ne hi] at e
      exact h.ng i st q e
theorem UR.push (h : UR o s r) (c : Code) : UR o { s with gens := s.gens.push (.fresh c) } { r with gens := r.gens.push (.fresh c) } := by
  refine ⟨h.heap, h.drawn, h.toks, h.os, ?_, fun i q => ?_, fun i st q => ?_, fun i st q e => ?_⟩
  · show (r.gens.push _).size = (s.gens.push _).size
    rw [Array.size_push, Array.size_push, h.size]
  · show (r.gens.push _)[i]? = (s.gens.push _)[i]?
    rw [Array.getElem?_push, Array.getElem?_push, h.size]
    split
    · rfl
    · exact h.at0 i q
  · obtain ⟨h1, h2, h3⟩ := h.at1 i st q
    refine ⟨h1, ?_, ?_⟩
    · show (s.gens.push _)[i]? = _
      rw [Array.getElem?_push, if_neg (Nat.ne_of_lt (Array.getElem?_eq_some_iff.mp h2).1)]
      exact h2
    · show (r.gens.push _)[i]? = _
      rw [Array.getElem?_push, if_neg (Nat.ne_of_lt (Array.getElem?_eq_some_iff.mp h3).1)]
      exact h3
  · have e : (r.gens.push (.fresh c))[i]? = some st := e
    rw [Array.getElem?_push] at e
    split at e
    · cases e; trivial
    · exact h.ng i st q e
end
section
variable {M : Model}
theorem no_uns {Γ : Ctx} {p : Pos} {t : Sem PySem.Fin} {fs : List Frame} {s s₁ : Shared} {e : End} (h : Runs M Γ p t fs s e s₁) : ∀ {w}, t ≠ .unsupported w := by
  induction h with
  | segRet h hk ih ihk => exact ih
  | segGen h hk ih ihk => exact ih
  | segSuspOut hsp h ih => exact ih
  | segSuspGen hsp h hq hk ih ihk => exact ih
  | _ => intro w q; cases q
theorem unhide {Γ : Ctx} {p : Pos} {t : Sem PySem.Fin} {fs : List Frame} {s s₁ : Shared} {e : End} (h : Runs M Γ p t fs s e s₁) : splitAtGen fs = none → ∀ {o : Nat → Option GenState} {r : Shared}, UR o s r → (∃ r₁, Runs M Γ p t fs r e r₁ ∧ UR o s₁ r₁) ∧ NoE e := by
  induction h with
  | done => intro _ o r u; exact ⟨⟨_, .done, u⟩, trivial⟩
  | raise => intro _ o r u; exact ⟨⟨_, .raise, u⟩, trivial⟩
  | again hq h ih => intro hf o r u; obtain ⟨⟨r₁, h1, h2⟩, h3⟩ := ih hf u; exact ⟨⟨r₁, .again hq h1, h2⟩, h3⟩
  | rule h ih => intro hf o r u; obtain ⟨⟨r₁, h1, h2⟩, h3⟩ := ih hf u; exact ⟨⟨r₁, .rule h1, h2⟩, h3⟩
  | «at» h ih => intro hf o r u; obtain ⟨⟨r₁, h1, h2⟩, h3⟩ := ih hf u; exact ⟨⟨r₁, .at h1, h2⟩, h3⟩
  | load ho h ih => intro hf o r u; obtain ⟨⟨r₁, h1, h2⟩, h3⟩ := ih hf u; exact ⟨⟨r₁, .load (by rw [u.heap]; exact ho) h1, h2⟩, h3⟩
  | update ho h ih => intro hf o r u; obtain ⟨⟨r₁, h1, h2⟩, h3⟩ := ih hf (u.heapTo _); exact ⟨⟨r₁, .update (by rw [u.heap]; exact ho) (by rw [u.heap]; exact h1), h2⟩, h3⟩
  | loadIfAlive h ih => intro hf o r u; obtain ⟨⟨r₁, h1, h2⟩, h3⟩ := ih hf u; exact ⟨⟨r₁, .loadIfAlive (by rw [u.heap]; exact h1), h2⟩, h3⟩
  | point h ih => intro hf o r u; obtain ⟨⟨r₁, h1, h2⟩, h3⟩ := ih hf u; exact ⟨⟨r₁, .point h1, h2⟩, h3⟩
  | alloc h ih => intro hf o r u; obtain ⟨⟨r₁, h1, h2⟩, h3⟩ := ih hf (u.heapTo _); exact ⟨⟨r₁, .alloc (by rw [u.heap]; exact h1), h2⟩, h3⟩
  | fresh h ih => intro hf o r u; obtain ⟨⟨r₁, h1, h2⟩, h3⟩ := ih hf (u.toksTo _); exact ⟨⟨r₁, .fresh (by rw [u.toks]; exact h1), h2⟩, h3⟩
  | ask h ih => intro hf o r u; obtain ⟨⟨r₁, h1, h2⟩, h3⟩ := ih hf u; exact ⟨⟨r₁, .ask h1, h2⟩, h3⟩
  | choose hn h ih => intro hf o r u; obtain ⟨⟨r₁, h1, h2⟩, h3⟩ := ih hf (u.drawnTo _); exact ⟨⟨r₁, .choose hn (by rw [u.drawn]; exact h1), h2⟩, h3⟩
  | os h ih => intro hf o r u; obtain ⟨⟨r₁, h1, h2⟩, h3⟩ := ih hf (u.osTo _); exact ⟨⟨r₁, .os (by rw [u.os]; exact h1), h2⟩, h3⟩
  | handled h ih => intro hf o r u; obtain ⟨⟨r₁, h1, h2⟩, h3⟩ := ih hf u; exact ⟨⟨r₁, .handled h1, h2⟩, h3⟩
  | @genState g st _ _ _ _ _ _ hg h ih =>
    intro hf o r u
    obtain ⟨⟨r₁, h1, h2⟩, h3⟩ := ih hf u
    cases q : o g with
    | none => exact ⟨⟨r₁, .genState ((u.at0 g q).trans hg) h1, h2⟩, h3⟩
    | some st' =>
      obtain ⟨_, q2, q3⟩ := u.at1 g st' q
      rw [hg] at q2
      cases q2
      rw [hid_seen] at h1
      exact ⟨⟨r₁, .genState q3 h1, h2⟩, h3⟩
  | stack h ih => intro hf o r u; obtain ⟨⟨r₁, h1, h2⟩, h3⟩ := ih hf u; exact ⟨⟨r₁, .stack h1, h2⟩, h3⟩
  | thread h ih => intro hf o r u; obtain ⟨⟨r₁, h1, h2⟩, h3⟩ := ih hf u; exact ⟨⟨r₁, .thread h1, h2⟩, h3⟩
  | newGen h ih => intro hf o r u; obtain ⟨⟨r₁, h1, h2⟩, h3⟩ := ih hf (u.push _); exact ⟨⟨r₁, .newGen (by rw [u.size]; exact h1), h2⟩, h3⟩
  | call h hk ih ihk => intro hf o r u; obtain ⟨⟨r₁, h1, h2⟩, _⟩ := ih rfl u; obtain ⟨⟨r₂, h4, h5⟩, h6⟩ := ihk hf h2; exact ⟨⟨r₂, .call h1 h4, h5⟩, h6⟩
  | callSusp h ih => intro hf o r u; obtain ⟨⟨r₁, h1, h2⟩, h3⟩ := ih rfl u; exact ⟨⟨r₁, .callSusp h1, h2⟩, split_app h3 rfl⟩
  | «yield» => intro hf o r u; exact ⟨⟨_, .yield, u⟩, rfl⟩
  | resumeFresh hg h hq hk ih ihk =>
    intro hf o r u
    obtain ⟨q1, q2⟩ := u.off hg (fun z => z)
    obtain ⟨⟨r₁, h1, h2⟩, h3⟩ := ih rfl (u.setGen q1 (x := .running) trivial)
    obtain ⟨⟨r₂, h4, h5⟩, h6⟩ := ihk hf (h2.setGen q1 h3.gen)
    exact ⟨⟨r₂, .resumeFresh q2 h1 hq h4, h5⟩, h6⟩
  | @resumeSuspended _ _ g _ _ _ _ _ _ _ _ _ _ _ _ _ _ hg h hq hk ih ihk =>
    intro hf o r u
    cases q : o g with
    | none =>
      have q2 := (u.at0 g q).trans hg
      obtain ⟨⟨r₁, h1, h2⟩, h3⟩ := ih (u.ng g _ q q2) (u.setGen q (x := .running) trivial)
      obtain ⟨⟨r₂, h4, h5⟩, h6⟩ := ihk hf (h2.setGen q h3.gen)
      exact ⟨⟨r₂, .resumeSuspended q2 h1 hq h4, h5⟩, h6⟩
    | some st =>
      obtain ⟨q1, q2, q3⟩ := u.at1 g st q
      rw [hg] at q2
      cases st with
      | suspended k l c p fs cl =>
        unfold hid at q2
        cases q2
        exact (no_uns h rfl).elim
      | _ => exact q1.elim
  | resumeJustStarted hg hv h ih => intro hf o r u; obtain ⟨⟨r₁, h1, h2⟩, h3⟩ := ih hf u; exact ⟨⟨r₁, .resumeJustStarted (u.off hg (fun z => z)).2 hv h1, h2⟩, h3⟩
  | resumeThrowFresh hg h ih => intro hf o r u; obtain ⟨⟨r₁, h1, h2⟩, h3⟩ := ih hf (u.setGen (u.off hg (fun z => z)).1 (x := .finished) trivial); exact ⟨⟨r₁, .resumeThrowFresh (u.off hg (fun z => z)).2 h1, h2⟩, h3⟩
  | resumeRunning hg h ih => intro hf o r u; obtain ⟨⟨r₁, h1, h2⟩, h3⟩ := ih hf u; exact ⟨⟨r₁, .resumeRunning (u.off hg (fun z => z)).2 h1, h2⟩, h3⟩
  | resumeFinished hg h ih => intro hf o r u; obtain ⟨⟨r₁, h1, h2⟩, h3⟩ := ih hf u; exact ⟨⟨r₁, .resumeFinished (u.off hg (fun z => z)).2 h1, h2⟩, h3⟩
  | segRet h hk ih ihk =>
    intro hf o r u
    obtain ⟨⟨r₁, h1, h2⟩, _⟩ := ih rfl u
    obtain ⟨⟨r₂, h4, h5⟩, h6⟩ := ihk (split_tail hf) h2
    exact ⟨⟨r₂, .segRet h1 h4, h5⟩, h6⟩
  | segGen h hk ih ihk => intro hf; rw [splitAtGen_gen] at hf; exact absurd hf (by simp)
  | segSuspOut hsp h ih => intro hf o r u; obtain ⟨⟨r₁, h1, h2⟩, h3⟩ := ih rfl u; exact ⟨⟨r₁, .segSuspOut hsp h1, h2⟩, split_app h3 hf⟩
  | segSuspGen hsp h hq hk ih ihk => intro hf; rw [hsp] at hf; cases hf
variable {o : Nat → Option GenState}
theorem wakes_un {Γ : Ctx} {p : Pos} {g : Nat} {rs : Resume} {s r s₁ : Shared} {res : GenResult} (h : Wakes M Γ p g rs s res s₁) (u : UR o s r) : ∃ r₁, Wakes M Γ p g rs r res r₁ ∧ UR o s₁ r₁ := by
  unfold Wakes at h ⊢
  generalize hg : s.gens[g]? = x at h
  cases x with
  | none => exact h.elim
  | some x =>
    cases x with
    | fresh c =>
      obtain ⟨q1, q2⟩ := u.off hg (fun z => z)
      rw [q2]
      dsimp only at h ⊢
      cases rs with
      | send v =>
        by_cases hv : v = .none
        · subst hv
          obtain ⟨e₁, s₂, h1, h2, rfl, rfl⟩ := h
          obtain ⟨⟨r₁, h3, h4⟩, h5⟩ := unhide h1 rfl (u.setGen q1 (x := .running) trivial)
          exact ⟨_, ⟨e₁, r₁, h3, h2, rfl, rfl⟩, h4.setGen q1 h5.gen⟩
        · have hx : res = .justStarted ∧ s₁ = s := by
            cases v <;> first | exact absurd rfl hv | exact h
          obtain ⟨rfl, rfl⟩ := hx
          refine ⟨r, ?_, u⟩
          cases v <;> first | exact absurd rfl hv | exact ⟨rfl, rfl⟩
      | throw x =>
        obtain ⟨rfl, rfl⟩ := h
        exact ⟨_, ⟨rfl, rfl⟩, u.setGen q1 (x := .finished) trivial⟩
    | suspended k l c p0 fs cl =>
      dsimp only at h
      obtain ⟨e₁, s₂, h1, h2, rfl, rfl⟩ := h
      cases q : o g with
      | none =>
        have q2 := (u.at0 g q).trans hg
        rw [q2]
        dsimp only
        obtain ⟨⟨r₁, h3, h4⟩, h5⟩ := unhide h1 (u.ng g _ q q2) (u.setGen q (x := .running) trivial)
        exact ⟨_, ⟨e₁, r₁, h3, h2, rfl, rfl⟩, h4.setGen q h5.gen⟩
      | some st =>
        obtain ⟨q1, q2, q3⟩ := u.at1 g st q
        rw [hg] at q2
        cases st with
        | suspended k' l' c' p' fs' cl' =>
          unfold hid at q2
          cases q2
          exact (no_uns h1 rfl).elim
        | _ => exact q1.elim
    | running =>
      rw [(u.off hg (fun z => z)).2]
      obtain ⟨rfl, rfl⟩ := h
      exact ⟨r, ⟨rfl, rfl⟩, u⟩
    | finished =>
      rw [(u.off hg (fun z => z)).2]
      obtain ⟨rfl, rfl⟩ := h
      exact ⟨r, ⟨rfl, rfl⟩, u⟩
theorem un_wp {α : Type} (t : Sem α) : ∀ {Γ : Ctx} {Q : α → Pos → Shared → Prop} {E : Value → Pos → Shared → Prop} {p : Pos} {s s' : Shared}, UR o s s' → wp M Γ t Q E p s →
    wp M Γ t (fun a p x' => ∃ x, UR o x x' ∧ Q a p x) (fun e p x' => ∃ x, UR o x x' ∧ E e p x) p s' := by
  induction t with
  | pure a => intro Γ Q E p s s' hs h; exact ⟨s, hs, h⟩
  | raise e => intro Γ Q E p s s' hs h; exact ⟨s, hs, h⟩
  | unsupported _ => intro Γ Q E p s s' hs h; exact h.elim
  | finish _ => intro Γ Q E p s s' hs h; exact h.elim
  | rule _ k ih => intro Γ Q E p s s' hs h; exact ih () hs h
  | «at» _ k ih => intro Γ Q E p s s' hs h; exact ih () hs h
  | load a _ k ih => intro Γ Q E p s s' hs h; obtain ⟨o, ho, h⟩ := h; exact ⟨o, by rw [hs.heap]; exact ho, ih o hs h⟩
  | update a _ f k ih =>
    intro Γ Q E p s s' hs h
    obtain ⟨ho, h⟩ := h
    refine ⟨by rw [hs.heap]; exact ho, ?_⟩
    rw [hs.heap]
    exact ih () (hs.heapTo _) h
  | loadIfAlive a k ih =>
    intro Γ Q E p s s' hs h
    show wp _ Γ (k (s'.heap.get? a)) _ _ p s'
    rw [hs.heap]
    exact ih _ hs h
  | point _ k ih => intro Γ Q E p s s' hs h; exact ih () hs h
  | register _ _ => intro Γ Q E p s s' hs h; exact h.elim
  | alloc o k ih =>
    intro Γ Q E p s s' hs h
    show wp _ Γ (k s'.heap.objs.size) _ _ p { s' with heap := s'.heap.push o }
    rw [hs.heap]
    exact ih _ (hs.heapTo _) h
  | fresh k ih =>
    intro Γ Q E p s s' hs h
    show wp _ Γ (k s'.toks) _ _ p { s' with toks := s'.toks + 1 }
    rw [hs.toks]
    exact ih _ (hs.toksTo _) h
  | ask k ih => intro Γ Q E p s s' hs h; exact ih _ hs h
  | choose src n k ih =>
    intro Γ Q E p s s' hs h
    obtain ⟨h0, h⟩ := h
    refine ⟨h0, ?_⟩
    rw [hs.drawn]
    exact ih _ (hs.drawnTo _) h
  | os q _ k ih =>
    intro Γ Q E p s s' hs h
    show wp _ Γ (k (Os.step s'.os q).2) _ _ p { s' with os := (Os.step s'.os q).1 }
    rw [hs.os]
    exact ih _ (hs.osTo _) h
  | call c hd _ _ k ih =>
    intro Γ Q E p s s' hs h
    obtain ⟨r, s₁, hr, h⟩ := h
    obtain ⟨⟨s₁', q1, q2⟩, _⟩ := unhide hr rfl hs
    exact ⟨r, s₁', q1, ih r q2 h⟩
  | handled own k ih => intro Γ Q E p s s' hs h; exact ih _ hs h
  | genState g k ih =>
    intro Γ Q E p s s' hs h
    obtain ⟨x, hx, h⟩ := h
    cases q : o g with
    | none => exact ⟨x, (hs.at0 g q).trans hx, ih _ hs h⟩
    | some st =>
      obtain ⟨_, q2, q3⟩ := hs.at1 g st q
      rw [hx] at q2
      cases q2
      rw [hid_seen] at h
      exact ⟨st, q3, ih _ hs h⟩
  | newGen c k ih =>
    intro Γ Q E p s s' hs h
    show wp _ Γ (k s'.gens.size) _ _ p { s' with gens := s'.gens.push (.fresh c) }
    rw [hs.size]
    exact ih _ (hs.push c) h
  | resume g r _ k ih =>
    intro Γ Q E p s s' hs h
    obtain ⟨res, s₁, hw, h⟩ := h
    obtain ⟨s₁', q1, q2⟩ := wakes_un hw hs
    exact ⟨res, s₁', q1, ih res q2 h⟩
  | «yield» _ _ _ _ => intro Γ Q E p s s' hs h; exact h.elim
  | stack k ih => intro Γ Q E p s s' hs h; exact ih _ hs h
  | fork _ _ => intro Γ Q E p s s' hs h; exact h.elim
  | thread k ih => intro Γ Q E p s s' hs h; exact ih _ hs h
  | await _ _ _ _ _ => intro Γ Q E p s s' hs h; exact h.elim
theorem wpAny_un {α : Type} {A : Around} {t : Sem α} {Q : α → Shared → Prop} {E : Value → Shared → Prop} {s s' : Shared} (hs : UR o s s') (h : wpAny M A t Q E s) :
    wpAny M A t (fun a x' => ∃ x, UR o x x' ∧ Q a x) (fun e x' => ∃ x, UR o x x' ∧ E e x) s' := fun Γ p hΓ => un_wp t hs (h Γ p hΓ)
end
end Sg
end
section
set_option maxHeartbeats 1000000
namespace Sg
open PySem L2 PyProof.Rows GenW Sf
theorem Inv.ranB {X : Cx} {pins cp : List (Addr × Obj)} {σ : L2.St} {Hw H : Hp} {xw x : Shared} {sz : Nat} (I : Inv X pins σ Hw xw) (R : Rn X.prog X.w X.base X.stack sz xw Hw cp x H) (hcp : ∀ p ∈ cp, xw.heap.get? p.1 = some p.2 ∧ Hw p.1 = none)
    (h0 : ∀ b, sz ≤ b → b < X.s_0.heap.objs.size → b ∈ X.ex ∨ ∃ p ∈ cp, p.1 = b) (hL : X.env.locals < sz ∨ ∃ p ∈ cp, p.1 = X.env.locals) (hc : ∀ y c, X.env.cells.lookup y = some c → c < sz)
    (hp : ∀ p ∈ X.pn ++ pins, p ∈ cp ∨ p.1 < sz) : Inv X pins σ H x := by
  have eos : x.os = xw.os := R.os
  have sc : ∀ b ∈ (List.range xw.heap.objs.size).filter (fun b => decide (sz ≤ b) && decide (∀ p ∈ cp, p.1 ≠ b)), sz ≤ b ∧ ∀ p ∈ cp, p.1 ≠ b := fun b hb => by
    obtain ⟨_, h⟩ := List.mem_filter.mp hb
    rw [Bool.and_eq_true, decide_eq_true_iff, decide_eq_true_iff] at h
    exact h
  have out : ∀ b o, xw.heap.get? b = some o → b ∉ (List.range xw.heap.objs.size).filter (fun b => decide (sz ≤ b) && decide (∀ p ∈ cp, p.1 ≠ b)) → b < sz ∨ (b, o) ∈ cp := fun b o e hb => by
    by_cases h : b < sz
    · exact .inl h
    · refine .inr (Classical.byContradiction fun hn => hb (List.mem_filter.mpr ⟨List.mem_range.mpr (Heap.lt_size e), ?_⟩))
      rw [Bool.and_eq_true, decide_eq_true_iff, decide_eq_true_iff]
      refine ⟨Nat.le_of_not_lt h, fun p hp q => hn ?_⟩
      subst q
      have z := (hcp p hp).1
      rw [e] at z
      cases z
      exact hp
  refine Inv.call' (ch := (List.range xw.heap.objs.size).filter (fun b => decide (sz ≤ b) && decide (∀ p ∈ cp, p.1 ≠ b))) I eos ⟨fun b o e n hf hx => ?_, fun b o e n hf hx => ?_, fun b o e n hx => ?_, fun b o e hx => ?_, R.un.tups, R.un.frzs, R.un.tbls⟩ R.hok R.bare fun b hb => ?_
  · rcases out b o e hx with h | h
    · exact R.un.keep b o (by rw [trunc_get h]; exact e) n hf (by simp)
    · exact (R.pin _ h).1
  · rcases out b o e hx with h | h
    · exact R.un.slot b o (by rw [trunc_get h]; exact e) n hf (by simp)
    · exact ⟨o.slots, (R.pin _ h).1⟩
  · rcases out b o e hx with h | h
    · exact R.un.free b o (by rw [trunc_get h]; exact e) n (by simp)
    · exact (R.pin _ h).2
  · rcases out b o e hx with h | h
    · exact R.un.there b o (by rw [trunc_get h]; exact e) (by simp)
    · exact ⟨o, (R.pin _ h).1⟩
  · obtain ⟨h1, h2⟩ := sc b hb
    refine ⟨?_, fun q => ?_, fun y c e => Nat.ne_of_lt (Nat.lt_of_lt_of_le (hc y c e) h1), fun p hp' q => ?_⟩
    · by_cases hs : X.s_0.heap.objs.size ≤ b
      · exact .inr hs
      · rcases h0 b h1 (Nat.lt_of_not_le hs) with z | ⟨p, z, q⟩
        · exact .inl z
        · exact absurd q (h2 p z)
    · rcases hL with z | ⟨p, z, e⟩
      · exact absurd h1 (Nat.not_le.mpr (by rw [q]; exact z))
      · exact h2 p z (e.trans q.symm)
    · rcases hp p hp' with z | z
      · exact h2 p z q
      · exact absurd h1 (Nat.not_le.mpr (by rw [← q]; exact z))
noncomputable def gd (H : Hp) (Pv : Addr → Prop) (h : Heap) : Hp := fun b => by
  classical
  exact if Pv b then some (.ext fun h' => ∃ o, h.get? b = some o ∧ h'.get? b = some o) else H b
theorem gd_yes {H : Hp} {Pv : Addr → Prop} {h : Heap} {b : Addr} (q : Pv b) : gd H Pv h b = some (.ext fun h' => ∃ o, h.get? b = some o ∧ h'.get? b = some o) := if_pos q
theorem gd_no {H : Hp} {Pv : Addr → Prop} {h : Heap} {b : Addr} (q : ¬ Pv b) : gd H Pv h b = H b := if_neg q
theorem gd_some {H : Hp} {Pv : Addr → Prop} {h : Heap} (hp : ∀ b, Pv b → H b = none) : Same H (gd H Pv h) := fun b o e => by
  rw [gd_no fun q => by rw [hp b q] at e; cases e]
  exact e
section
variable {X : Cx} {pins : List (Addr × Obj)} {σ : L2.St} {H : Hp} {s : Shared} {Pv : Addr → Prop}
theorem Inv.guarded (I : Inv X pins σ H s) (hp : ∀ b, Pv b → H b = none) (ht : ∀ b, Pv b → ∃ o, s.heap.get? b = some o) (h0 : ∀ b, Pv b → b ∈ X.ex ∨ X.s_0.heap.objs.size ≤ b) (hL : ¬ Pv X.env.locals) (hc : ∀ y c, X.env.cells.lookup y = some c → ¬ Pv c) (hpn : ∀ p ∈ X.pn ++ pins, ¬ Pv p.1) :
    Inv X pins σ (gd H Pv s.heap) s := by
  have sm := gd_some (h := s.heap) hp
  refine ⟨I.ok, I.os, I.bare, ⟨I.base.keep, I.base.slot, fun b o e n hx => ?_, I.base.there, fun b xs e => sm _ _ (I.base.tups b xs e), fun b o u e => sm _ _ (I.base.frzs b o u e), fun b ps e => let ⟨m, q⟩ := I.base.tbls b ps e; ⟨m, sm _ _ q⟩⟩, I.loc, I.cell, (gd_no hL).trans I.free, fun y c e => (gd_no (hc y c e)).trans (I.freeC y c e), fun p hq => ?_, fun a o e => ?_, I.len⟩
  · rw [gd_no fun q => (h0 b q).elim hx fun z => absurd (Heap.lt_size e) (Nat.not_lt.mpr z)]
    exact I.base.free b o e n hx
  · obtain ⟨p1, p2, p3, p4, p5⟩ := I.pin p hq
    exact ⟨p1, (gd_no (hpn p hq)).trans p2, p3, p4, p5⟩
  · by_cases q : Pv a
    · rw [gd_yes q] at e
      cases e
      obtain ⟨o, ho⟩ := ht a q
      exact ⟨⟨o, ho, ho⟩, ⟨o, ho⟩, fun h1 h2 ⟨o', e1, e2⟩ k => ⟨o', e1, k o' e2⟩⟩
    · rw [gd_no q] at e
      exact (I.hok a o e).stay (fun _ _ _ z => z) (fun b z => sm _ _ z) fun b xs z => sm _ _ z
end
def lh {α : Type} (o : Nat → Option GenState) (Z : Nat → Prop) (Q : α → Shared → Prop) : α → Shared → Prop := fun a s => ∃ sh, UR o sh s ∧ lo Z Q a sh
section
variable {P : Program} {w : World} {A : Around} {Z : Nat → Prop} {o : Nat → Option GenState} {x sh s : Shared} {α : Type}
theorem lh_run {t : Sem α} {Q : α → Shared → Prop} {E : Value → Shared → Prop} (h : wS P w Z A t Q E x) (u : UR o sh s) (hs : SR Z x sh) : wpAny (mp P w) A t (lh o Z Q) (lh o Z E) s :=
  wpAny_mono (wpAny_un u (h sh hs)) (fun _ _ q => q) fun _ _ q => q
def offs (s : Shared) : Nat → Option GenState := fun i => match s.gens[i]? with
  | some (.suspended k l c p fs cl) => some (.suspended k l c p fs cl)
  | _ => none
theorem offs_some {i : Nat} {st : GenState} (h : s.gens[i]? = some st) (hs : IsSu st) : offs s i = some st := by
  unfold offs
  rw [h]
  cases st with
  | suspended => rfl
  | _ => exact hs.elim
theorem offs_su {i : Nat} {st : GenState} (h : offs s i = some st) : s.gens[i]? = some st ∧ IsSu st := by
  unfold offs at h
  cases e : s.gens[i]? with
  | none => rw [e] at h; cases h
  | some y =>
    rw [e] at h
    cases y with
    | suspended => cases h; exact ⟨rfl, trivial⟩
    | _ => cases h
theorem hid_at {i : Nat} : ({ s with gens := s.gens.map hid } : Shared).gens[i]? = (s.gens[i]?).map hid := by
  show (s.gens.map hid)[i]? = _
  rw [Array.getElem?_map]
theorem hide (s : Shared) : UR (offs s) { s with gens := s.gens.map hid } s := by
  refine ⟨rfl, rfl, rfl, rfl, by show s.gens.size = (s.gens.map hid).size; rw [Array.size_map], fun i q => ?_, fun i st q => ?_, fun i st q e => ?_⟩
  · rw [hid_at]
    unfold offs at q
    cases e : s.gens[i]? with
    | none => rfl
    | some y =>
      rw [e] at q
      cases y with
      | suspended => cases q
      | _ => rfl
  · obtain ⟨h1, h2⟩ := offs_su q
    exact ⟨h2, by rw [hid_at, h1]; rfl, h1⟩
  · unfold offs at q
    rw [e] at q
    cases st with
    | suspended => cases q
    | _ => trivial
theorem blank_fs (fs : List Frame) : FsR (fs.map blank) (fs.map blank) := by
  have un : ∀ c w, TR c (.unsupported w) (.unsupported w) := fun c w => by
    cases h : yfOf c with
    | none => exact .same h _
    | some a => exact .t0 h (.unsupported w)
  induction fs with
  | nil => exact .nil
  | cons f r ih => refine .cons ?_ ih; cases f with
    | ret k hh g l c p kp => exact .ret (fun _ => un c _) ..
    | gen g k l c p => exact .gen (fun _ => un c _) ..
theorem hid_gr {S : Prop} (y : GenState) : GR S (hid y) (hid y) := by
  cases y with
  | suspended k l c p fs cl =>
    refine .susp (fun _ => ?_) (blank_fs fs) (.inr rfl) ..
    cases h : yfOf c with
    | none => exact .same h _
    | some a => exact .t0 h (.unsupported "hid")
  | fresh c => exact .fresh c
  | running => exact .running
  | finished => exact .finished
theorem hid_sr (h1 : s.heap = x.heap) (h2 : s.drawn = x.drawn) (h3 : s.toks = x.toks) (h4 : s.os = x.os) : SR Z { x with gens := s.gens.map hid } { s with gens := s.gens.map hid } := by
  refine ⟨h1, h2, h3, h4, rfl, fun i => ?_⟩
  show OR (Z i) (s.gens.map hid)[i]? (s.gens.map hid)[i]?
  rw [Array.getElem?_map]
  cases s.gens[i]? with
  | none => exact .none
  | some y => exact .some (hid_gr y)
theorem hid_bare (hb : AllBare s.gens) : AllBare (s.gens.map hid) := fun y hy => by
  obtain ⟨i, hi, e⟩ := Array.mem_iff_getElem.mp hy
  rw [Array.getElem_map] at e
  have hi' : i < s.gens.size := by rw [Array.size_map] at hi; exact hi
  have := hb _ (Array.getElem_mem hi')
  rw [← e]
  cases q : s.gens[i] with
  | suspended k l c p fs cl => rw [q] at this; exact this
  | _ => rfl
def back (o : Nat → Option GenState) (x0 x1 : Shared) : Shared := { x1 with gens := Array.ofFn (n := x1.gens.size) fun i => if (o i).isSome then (x0.gens[i.val]?).getD .finished else x1.gens[i.val] }
theorem back_at {x0 x1 : Shared} {i : Nat} (hi : i < x1.gens.size) : (back o x0 x1).gens[i]? = some (if (o i).isSome then (x0.gens[i]?).getD .finished else x1.gens[i]) := by
  unfold back
  simp [hi]
theorem back_size {x0 x1 : Shared} : (back o x0 x1).gens.size = x1.gens.size := by
  unfold back
  simp
end
end Sg
end
section
set_option maxHeartbeats 1000000
namespace Sg
open PySem L2 PyProof.Rows GenW Sf
section
variable {P : Program} {w : World} {A : Around} {s : Shared}
theorem no_own {M : Model} {E : Value → Shared → Prop} {target : Expr} {a : Addr} {g : Nat} {o : Obj} {v : Value} {Q : Unit → Shared → Prop} (ho : s.heap.get? a = some o) (go : GenO g o) (h : Q () s) : wpAny M A (letOwnedTupleGo target (.ref a) v) Q E s := by
  obtain ⟨hc, ⟨nm, qn, hd⟩, _⟩ := go
  have key : ∀ b : Addr, wpAny M A (do
      let o ← load a
      match o.cls, o.data with
      | .type n, .fields vs =>
        if ["enumerate", "zip", "dict_itemiterator", "dict_reverseitemiterator", "odict_iterator", "itertools.zip_longest", "itertools.pairwise"].contains n && vs[0]? == some (rawInt b) then
          rule "for.unpacks-the-owned-tuple"
          updateField a 0 .none
      | _, _ => pure ()) Q E s := fun b => by
    refine wpAny_bind (wpAny_load ho ?_)
    rw [hc, hd]
    show wpAny M A (if (["enumerate", "zip", "dict_itemiterator", "dict_reverseitemiterator", "odict_iterator", "itertools.zip_longest", "itertools.pairwise"].contains "generator" && _) = true then _ else pure ()) Q E s
    rw [show (["enumerate", "zip", "dict_itemiterator", "dict_reverseitemiterator", "odict_iterator", "itertools.zip_longest", "itertools.pairwise"].contains "generator") = false from by decide, Bool.false_and, if_neg Bool.false_ne_true]
    exact wpAny_pure h
  unfold letOwnedTupleGo
  cases target with
  | Tuple e1 e2 e3 =>
    cases v with
    | ref b => exact key b
    | _ => exact wpAny_pure h
  | List e1 e2 =>
    cases v with
    | ref b => exact key b
    | _ => exact wpAny_pure h
  | _ => exact wpAny_pure h
theorem turns_lc {elt target iter : Expr} {scope : Scope} {pos : Pos} {it acc : Value} {env : Env} {R : Result → Shared → Prop} (I : Nat → Shared → Prop)
    (turn : ∀ n s, I n s → wpAny (mp P w) A (pyNext it) (fun r s₁ => match r with
      | none => R (.ok .next) s₁
      | some v => wpAny (mp P w) A (letOwnedTupleGo target it v) (fun _ s₂ => wpAny (mp P w) A (assign target env v) (fun _ s₃ => wpAny (mp P w) A (eval elt env) (fun u s₄ =>
          wpAny (mp P w) A (call (.builtin "list.append") [acc, u]) (fun _ s₅ => ∃ m, m < n ∧ I m s₅) (fun _ _ => False) s₄) (fun _ _ => False) s₃) (fun _ _ => False) s₂) (fun _ _ => False) s₁) (fun _ _ => False) s) (n : Nat) (h : I n s) :
    codeAny (mp P w) A (.compLoop (.ListComp elt [⟨target, iter, [], 0⟩] scope pos) 0 it acc env) R s := by
  refine codeAny_loop rfl I (fun n s hI => ?_) n h
  show wpAny (mp P w) A ((compTurn (.ListComp elt [⟨target, iter, [], 0⟩] scope pos) 0 it acc env).onRaise (fun x => do noteFrame x env; theTreesLotGoes x)) _ _ s
  rw [compTurn_list1]
  refine wpAny_noted (never_mono (wpAny_bind (wpAny_standAt (wpAny_bind (wpAny_mono (turn n s hI) (fun r s₁ q => ?_) fun _ _ z => z)))))
  cases r with
  | none => exact wpAny_pure q
  | some v =>
    refine wpAny_bind (wpAny_mono q (fun _ s₂ q2 => wpAny_bind (wpAny_mono q2 (fun _ s₃ q3 => wpAny_bind (wpAny_bind (wpAny_mono q3 (fun u s₄ q4 => wpAny_bind (wpAny_mono q4 (fun _ s₅ q5 => ?_) fun _ _ z => z)) fun _ _ z => z))) fun _ _ z => z)) fun _ _ z => z)
    exact wpAny_pure (wpAny_pure ⟨rfl, q5⟩)
theorem start_lc {elt target iter : Expr} {scope : Scope} {pos : Pos} {it acc : Value} {env : Env} {R : Result → Shared → Prop}
    (h0 : codeAny (mp P w) A (.compLoop (.ListComp elt [⟨target, iter, [], 0⟩] scope pos) 0 it acc env) R s)
    (h : wpAny (mp P w) A (pyIter it) (fun u s' => codeAny (mp P w) A (.compLoop (.ListComp elt [⟨target, iter, [], 0⟩] scope pos) 0 u acc env) R s') (fun _ _ => False) s) :
    codeAny (mp P w) A (.compStart (.ListComp elt [⟨target, iter, [], 0⟩] scope pos) 0 it acc env) R s := by
  refine codeAny_of_tree ?_
  show wpAny (mp P w) A ((compStart (.ListComp elt [⟨target, iter, [], 0⟩] scope pos) 0 it acc env).onRaise (fun x => do noteFrame x env; standAt theWindowsPlace)) _ _ s
  refine wpAny_notedAt (never_mono ?_)
  unfold compStart
  show wpAny (mp P w) A (ask >>= _) _ _ s
  refine wpAny_bind (wpAny_askSetting (wpAny_ite ?_))
  have e2 := wpAny_mono h (fun u s' q => (And.intro rfl q : (Code.compLoop (.ListComp elt [⟨target, iter, [], 0⟩] scope pos) 0 u acc env).quiet = true ∧ _)) fun _ _ z => z
  split
  · first
      | exact wpAny_pure ⟨rfl, h0⟩
      | exact wpAny_bind (wpAny_pure (wpAny_pure ⟨rfl, h0⟩))
  · refine wpAny_bind (wpAny_rule ?_)
    show wpAny (mp P w) A (standAt iter.pos >>= _) _ _ s
    exact wpAny_bind (wpAny_standAt (wpAny_bind (wpAny_mono e2 (fun u s' q => wpAny_pure q) fun _ _ z => z)))
end
end Sg
end
section
set_option maxHeartbeats 4000000
namespace Sg
open PySem L2 PyProof.Rows GenW Sf
def tLg (t : TGM) (g : TG) (te : TE) (vs : List Nat) : TE := fun σ H Q => t σ H fun it dn rm H1 => rm ≤ sizeLine ∧ (∀ j G, dn j G → j < sizeLine) ∧ ∃ W : Nat → List V → Hp → Prop, W 0 [] H1 ∧
  (∀ i acc G G1 z D H', W i acc G → Same G G1 → it i z G1 → G1 D = none → Same G1 H' → H' D = some (.lst acc) → g z (wipe σ vs) H' fun σ2 H2 => wipe σ2 vs = wipe σ vs ∧ te σ2 H2 fun y H4 => Same H' H4 ∧
    ∀ G', Same G1 G' → (∀ b o, b ≠ D → H' b = none → H4 b = some o → G' b = some o) → W (i + 1) (acc ++ [y]) G') ∧
  ∀ i acc G G1 D, W i acc G → Same G G1 → dn i G1 → G1 D = none → Q (.ref D) (upd G1 D (.lst acc))
abbrev lob (its : List Value) (n : Nat) : Obj := { cls := .type "list", data := .seq its.toArray n }
def CJ (Xb : Cx) (σ : L2.St) (D : Addr) (W : Nat → List V → Hp → Prop) : Nat → Shared → Hp → List (Addr × Obj) → Prop := fun i xw Hw cp =>
  ∃ (acc : List V) (its : List Value) (nn : Nat) (oL : Obj), W i acc Hw ∧ acc.length ≤ i ∧ Inv Xb [] σ Hw xw ∧ Vals acc its ∧ xw.heap.get? D = some (lob its nn) ∧ xw.heap.get? Xb.env.locals = some oL ∧ (∀ v, oL.data ≠ .cell v) ∧ Hw D = none ∧
    cp = [(D, lob its nn), (Xb.env.locals, oL)]
section
variable {X : Cx} {pins : List (Addr × Obj)} {σ : L2.St} {H : Hp} {s : Shared}
theorem Inv.listed {D : Addr} {acc : List V} {its : List Value} {nn : Nat} (I : Inv X pins σ H s) (n : H D = none) (hz : acc.length ≤ sizeLine) (r : Vals acc its) (e : s.heap.get? D = some (lob its nn)) (h0 : ∀ o, X.s_0.heap.get? D = some o → X.H_0 D = none → D ∈ X.ex)
    (hL : D ≠ X.env.locals) (hc : ∀ y c, X.env.cells.lookup y = some c → c ≠ D) (hp : ∀ p ∈ X.pn ++ pins, p.1 ≠ D) : Inv X pins σ (upd H D (.lst acc)) s := by
  have nn' : ∀ b u, H b = some u → b ≠ D := fun b u q z => by rw [z, n] at q; cases q
  refine ⟨I.ok, I.os, I.bare, ⟨I.base.keep, I.base.slot, fun b o q m hx => ?_, I.base.there, fun b xs q => ?_, fun b o u q => ?_, fun b ps q => ?_⟩, I.loc, I.cell, (upd_ne hL.symm).trans I.free, fun y c q => (upd_ne (hc y c q)).trans (I.freeC y c q), fun p q => ?_, fun a o q => ?_, I.len⟩
  · rw [upd_ne fun z => hx (by rw [z]; exact h0 o (by rw [← z]; exact q) (by rw [← z]; exact m))]
    exact I.base.free b o q m hx
  · have z := I.base.tups b xs q
    rw [upd_ne (nn' _ _ z)]; exact z
  · have z := I.base.frzs b o u q
    rw [upd_ne (nn' _ _ z)]; exact z
  · obtain ⟨m, z⟩ := I.base.tbls b ps q
    exact ⟨m, by rw [upd_ne (nn' _ _ z)]; exact z⟩
  · obtain ⟨p1, p2, p3⟩ := I.pin p q
    exact ⟨p1, (upd_ne (hp p q)).trans p2, p3⟩
  · by_cases z : a = D
    · subst z
      rw [upd_same] at q
      cases q
      exact ⟨hz, its, nn, r, e⟩
    · rw [upd_ne z] at q
      exact (I.hok a o q).stay (fun _ _ _ z => z) (fun b z => by rw [upd_ne (nn' _ _ z)]; exact z) fun b xs z => by rw [upd_ne (nn' _ _ z)]; exact z
end
structure Cn (Xb : Cx) (sz D : Addr) : Prop where
  pn : Xb.pn = []
  xe : ∀ e s, ¬ Xb.xe e s
  lo : sz ≤ Xb.env.locals
  dl : D ≠ Xb.env.locals
  dz : sz ≤ D
  h0 : ∀ b, sz ≤ b → b < Xb.s_0.heap.objs.size → b ∈ Xb.ex ∨ b = D
  hD : Xb.H_0 D ≠ none
  cl : ∀ y c, Xb.env.cells.lookup y = some c → c < sz
  fr : ∀ b ∈ frs Xb.stack, b < sz
section
variable {Xb : Cx} {sz D : Addr} {σ : L2.St} {W : Nat → List V → Hp → Prop}
theorem CJ.ran {i : Nat} {xw x : Shared} {Hw H : Hp} {cp : List (Addr × Obj)} (cn : Cn Xb sz D) (h : CJ Xb σ D W i xw Hw cp) (R : Rn Xb.prog Xb.w Xb.base Xb.stack sz xw Hw cp x H) (hi : i ≤ sizeLine) :
    ∃ acc, W i acc Hw ∧ acc.length ≤ i ∧ H D = none ∧ Inv Xb [] σ (upd H D (.lst acc)) x := by
  obtain ⟨acc, its, nn, oL, w, hl, I, r, eD, eL, nc, nD, rfl⟩ := h
  have I1 : Inv Xb [] σ H x := Inv.ranB I R (fun p hp => by
    rcases List.mem_cons.mp hp with z | z
    · rw [z]; exact ⟨eD, nD⟩
    · rw [List.mem_singleton.mp z]; exact ⟨eL, I.free⟩) (fun b h1 h2 => (cn.h0 b h1 h2).imp (fun z => z) fun z => ⟨(D, lob its nn), List.mem_cons_self, z.symm⟩) (.inr ⟨(Xb.env.locals, oL), by simp, rfl⟩) cn.cl (fun p hp => by
      have hp : p ∈ Xb.pn ++ [] := hp
      rw [cn.pn] at hp; simp at hp)
  have pD := R.pin (D, lob its nn) List.mem_cons_self
  exact ⟨acc, w, hl, pD.2, Inv.listed I1 pD.2 (Nat.le_trans hl hi) r pD.1 (fun o _ z => absurd z cn.hD) cn.dl (fun y c e => Nat.ne_of_lt (Nat.lt_of_lt_of_le (cn.cl y c e) cn.dz)) fun p hp => by
    have hp : p ∈ Xb.pn ++ [] := hp
    rw [cn.pn] at hp; simp at hp⟩
end
end Sg
end
section
set_option maxHeartbeats 4000000
namespace Sg
open PySem L2 PyProof.Rows GenW Sf
section
variable {Z Hs : Nat → Prop} {g : Nat} {x s₁ s2 x5 sh5 s5 : Shared}
theorem back_sh (sh : SH Z Hs x s₁) (e2 : ∀ i, i ≠ g → s2.gens[i]? = s₁.gens[i]?) (u5 : UR (offs s2) sh5 s5) (sr5 : SR Z x5 sh5) (hg : g < s5.gens.size) : SH Z Hs ((back (offs s2) x x5).setGen g .running) (s5.setGen g .running) := by
  have z : s5.gens.size = x5.gens.size := u5.size.trans sr5.size
  refine ⟨u5.heap.trans sr5.heap, u5.drawn.trans sr5.drawn, u5.toks.trans sr5.toks, u5.os.trans sr5.os, ?_, fun i hi => ?_⟩
  · rw [setGen_size, setGen_size, back_size]; exact z
  · show OR (Z i) ((back (offs s2) x x5).gens.setIfInBounds g .running)[i]? (s5.gens.setIfInBounds g .running)[i]?
    by_cases hgi : g = i
    · subst hgi
      rw [Array.getElem?_setIfInBounds_self_of_lt (by rw [back_size, ← z]; exact hg), Array.getElem?_setIfInBounds_self_of_lt hg]
      exact .some .running
    · rw [Array.getElem?_setIfInBounds_ne hgi, Array.getElem?_setIfInBounds_ne hgi]
      by_cases hl : i < x5.gens.size
      · rw [back_at hl]
        cases q : offs s2 i with
        | none =>
          have r := sr5.gens i
          rw [Array.getElem?_eq_getElem hl] at r
          rw [u5.at0 i q]
          exact r
        | some st =>
          rw [(u5.at1 i st q).2.2]
          have r := sh.gens i hi
          rw [← e2 i (Ne.symm hgi), (offs_su q).1] at r
          generalize x.gens[i]? = y at r
          cases r with
          | some r => exact .some r
      · rw [Array.getElem?_eq_none (by rw [back_size]; exact Nat.le_of_not_lt hl), Array.getElem?_eq_none (by rw [z]; exact Nat.le_of_not_lt hl)]
        exact .none
theorem back_bare {o : Nat → Option GenState} (h1 : AllBare x.gens) (h2 : AllBare x5.gens) : AllBare (back o x x5).gens := fun y hy => by
  obtain ⟨i, hi, e⟩ := Array.mem_iff_getElem.mp hy
  have hi' : i < x5.gens.size := by rw [back_size] at hi; exact hi
  have q := back_at (o := o) (x0 := x) hi'
  rw [Array.getElem?_eq_getElem hi, e] at q
  have q := Option.some.inj q
  subst q
  split
  · cases z : x.gens[i]? with
    | none => rfl
    | some v => exact h1 v (Array.mem_of_getElem? z)
  · exact h2 _ (Array.getElem_mem hi')
theorem lh_step {P : Program} {w : World} {A : Around} {o : Nat → Option GenState} {x sh s : Shared} {α : Type} {N : Nat} {t : Sem α} {Q : α → Shared → Prop} {E : Value → Shared → Prop} (h : wS P w Z A t Q E x) (hE : ∀ e y, ¬ E e y) (u : UR o sh s) (hs : SR Z x sh) (hN : N ≤ s.gens.size) :
    wpAny (mp P w) A t (fun r s' => N ≤ s'.gens.size ∧ lh o Z Q r s') (fun _ _ => False) s :=
  wpAny_gsz hN (wpAny_mono (lh_run h u hs) (fun _ _ q hz => ⟨hz, q⟩) fun e s' ⟨_, _, y, _, q⟩ => (hE e y q).elim)
end
section
variable {Z : Nat → Prop} {Xb : Cx} {sz D a : Addr} {g : Nat} {σ0 : L2.St} {vs : List Nat} {W : Nat → List V → Hp → Prop} {it : It} {dn : Dn} {tg elt iter : Expr} {scope : Scope} {pos : Pos} {R : Result → Shared → Prop} {gg : TG} {te : TE}
theorem lg_loop (cn : Cn Xb sz D) (hh : Xb.A.handled = none) (hd : Xb.A.depth < recursionLimit) (ha : sz ≤ a) (pg : PG Xb tg gg) (pe : QE Xb elt te) (hdn : ∀ j G, dn j G → j < sizeLine) (hex : ∀ b, sz ≤ b → b < Xb.s_0.heap.objs.size → b ≠ D → b ∈ Xb.ex)
    (turn : ∀ i acc G G1 z D H', W i acc G → Same G G1 → it i z G1 → G1 D = none → Same G1 H' → H' D = some (.lst acc) → gg z (wipe σ0 vs) H' fun σ2 H2 => wipe σ2 vs = wipe σ0 vs ∧ te σ2 H2 fun y H4 => Same H' H4 ∧
      ∀ G', Same G1 G' → (∀ b o, b ≠ D → H' b = none → H4 b = some o → G' b = some o) → W (i + 1) (acc ++ [y]) G')
    (hend : ∀ acc i G He y s', W i acc G → Same G He → dn i He → He D = none → Inv Xb [] (wipe σ0 vs) (upd He D (.lst acc)) y → SR Z y s' → R (.ok .next) s') (n : Nat) (s : Shared)
    (h : ∃ gs, s.gens[g]? = some gs ∧ gs.Goes (mp Xb.prog Xb.w) Xb.A.in1 (RM Z Xb.prog Xb.w Xb.base Xb.stack sz a g (CJ Xb (wipe σ0 vs) D W) (dnF 0 dn)) (YM Z Xb.prog Xb.w Xb.base Xb.stack sz a g False (CJ Xb (wipe σ0 vs) D W) (itF 0 it)) n (.send .none) (s.setGen g .running) ∧
      (∃ o, s.heap.get? a = some o ∧ GenO g o) ∧ s.heap.NoLimit) : codeAny (mp Xb.prog Xb.w) Xb.A (.compLoop (.ListComp elt [⟨tg, iter, [], 0⟩] scope pos) 0 (.ref a) (.ref D) Xb.env) R s := by
  refine turns_lc (fun n s => ∃ gs, s.gens[g]? = some gs ∧ gs.Goes (mp Xb.prog Xb.w) Xb.A.in1 (RM Z Xb.prog Xb.w Xb.base Xb.stack sz a g (CJ Xb (wipe σ0 vs) D W) (dnF 0 dn)) (YM Z Xb.prog Xb.w Xb.base Xb.stack sz a g False (CJ Xb (wipe σ0 vs) D W) (itF 0 it)) n (.send .none) (s.setGen g .running) ∧
      (∃ o, s.heap.get? a = some o ∧ GenO g o) ∧ s.heap.NoLimit) ?_ n h
  rintro n s ⟨gs, hgs, hgo, ⟨o, ho, go⟩, hl⟩
  have hgl : g < s.gens.size := (Array.getElem?_eq_some_iff.mp hgs).1
  refine wpAny_gsz (n := g + 1) hgl (next_I (F := fun s₁ => RM Z Xb.prog Xb.w Xb.base Xb.stack sz a g (CJ Xb (wipe σ0 vs) D W) (dnF 0 dn) n (s.setGen g .running) (.ok (.ret .none)) s₁) hh hl hd ho go hgs hgo (fun r s₁ hr => ?_) (fun v s₁ gs' hsu hb hv hz => ?_) fun s₁ hF h' hk _ => ?_)
  · obtain ⟨rfl, q⟩ := hr
    exact ⟨rfl, rfl, q⟩
  · have hz1 : g < s₁.gens.size := by
      have q : g + 1 ≤ (s₁.setGen g gs').gens.size := hz
      rw [setGen_size] at q; exact q
    obtain ⟨Hs, i, xw, Hw, cp, x, H, Pv, vv, hn, sh, hnG, _, hst, hj, rn, hpv, ⟨_, hn2, ⟨o1, ho1, go1⟩, hcp2, hpa⟩, rv, hitv, wake⟩ := hv
    cases n with
    | zero =>
      exact (wake x H [] (Wk.idle rn (fun b hb => (hpv b hb).2.1) ⟨hn2, o1, ho1, go1⟩) (fun z => by omega) s₁ sh ⟨Nat.le_refl _, fun _ _ => rfl⟩).elim
    | succ m =>
      have hn : m + 1 + i = sizeLine := hn
      have hit2 : it i vv H := hitv.2
      obtain ⟨acc, hW, hal, hD0, I2⟩ := CJ.ran cn hj rn (by omega)
      have hDcp : ∃ its nn oL, cp = [(D, lob its nn), (Xb.env.locals, oL)] := by
        obtain ⟨_, its, nn, oL, _, _, _, _, _, _, _, _, e⟩ := hj
        exact ⟨its, nn, oL, e⟩
      obtain ⟨its0, nn0, oL0, ecp⟩ := hDcp
      have hPD : ∀ b, Pv b ∨ b = a → b ≠ D := fun b hb q => by
        subst q
        rcases hb with hb | hb
        · exact (hpv _ hb).2.2.2 (b, lob its0 nn0) (by rw [ecp]; exact List.mem_cons_self) rfl
        · exact hcp2 (b, lob its0 nn0) (by rw [ecp]; exact List.mem_cons_self) hb
      have hPL : ¬ (Pv Xb.env.locals ∨ Xb.env.locals = a) := fun hb => by
        have m1 : (Xb.env.locals, oL0) ∈ cp := by rw [ecp]; simp
        rcases hb with hb | hb
        · exact (hpv _ hb).2.2.2 _ m1 rfl
        · exact hcp2 _ m1 hb
      have hPn : ∀ b, Pv b ∨ b = a → H b = none := fun b hb => by
        rcases hb with hb | hb
        · exact (hpv _ hb).2.1
        · rw [hb]; exact hn2
      have hPz : ∀ b, Pv b ∨ b = a → sz ≤ b := fun b hb => by
        rcases hb with hb | hb
        · exact (hpv _ hb).1
        · rw [hb]; exact ha
      have hPt : ∀ b, Pv b ∨ b = a → ∃ o, x.heap.get? b = some o := fun b hb => by
        rcases hb with hb | hb
        · exact (hpv _ hb).2.2.1
        · rw [hb]; exact ⟨o1, ho1⟩
      have hPcl : ∀ y c, Xb.env.cells.lookup y = some c → ¬ (Pv c ∨ c = a) := fun y c e hb => absurd (hPz c hb) (Nat.not_le.mpr (cn.cl y c e))
      have np : ∀ p ∈ Xb.pn ++ [], ¬ (Pv p.1 ∨ p.1 = a) := fun p hp => by
        have hp : p ∈ Xb.pn ++ [] := hp
        rw [cn.pn] at hp; simp at hp
      have hPu : ∀ b, Pv b ∨ b = a → (upd H D (.lst acc)) b = none := fun b hb => (upd_ne (hPD b hb)).trans (hPn b hb)
      have I3 := Sg.Inv.guarded I2 (Pv := fun b => Pv b ∨ b = a) hPu hPt (fun b hb => (Nat.lt_or_ge b Xb.s_0.heap.objs.size).imp (fun q => hex b (hPz b hb) q (hPD b hb)) fun q => q) hPL hPcl np
      have sm3 : Same (upd H D (.lst acc)) (gd (upd H D (.lst acc)) (fun b => Pv b ∨ b = a) x.heap) := gd_some hPu
      have smH : Same H (gd (upd H D (.lst acc)) (fun b => Pv b ∨ b = a) x.heap) := fun b u e => sm3 b u (by rw [upd_ne fun q => by rw [q, hD0] at e; cases e]; exact e)
      have hDg : (gd (upd H D (.lst acc)) (fun b => Pv b ∨ b = a) x.heap) D = some (.lst acc) := sm3 D _ upd_same
      have yes : ∀ b, Pv b ∨ b = a → (gd (upd H D (.lst acc)) (fun b => Pv b ∨ b = a) x.heap) b = some (.ext fun h' => ∃ o, x.heap.get? b = some o ∧ h'.get? b = some o) := fun b hb => gd_yes hb
      have nogd : ∀ b, b ≠ D → (gd (upd H D (.lst acc)) (fun b => Pv b ∨ b = a) x.heap) b = none → ¬ (Pv b ∨ b = a) := fun b _ e hb => by rw [yes b hb] at e; cases e
      generalize hGd : gd (upd H D (.lst acc)) (fun b => Pv b ∨ b = a) x.heap = Hx at I3 sm3 smH hDg yes nogd
      have b2 : AllBare (s₁.setGen g gs').gens := by
        refine allBare_setGen (s := s₁) (fun y hy => ?_) hb
        obtain ⟨k, hk, e⟩ := Array.mem_iff_getElem.mp hy
        have e2 : s₁.gens[k]? = some y := by rw [Array.getElem?_eq_getElem hk, e]
        by_cases hH : Hs k
        · obtain ⟨st, q1, _, q3⟩ := hst k hH
          rw [e2] at q1
          cases q1
          exact q3
        · have q := sh.gens k hH
          rw [e2] at q
          generalize hxy : x.gens[k]? = yx at q
          cases q with
          | some q =>
            have := rn.bare _ (Array.mem_of_getElem? hxy)
            cases q with
            | fresh => exact this
            | running => exact this
            | finished => exact this
            | susp => exact this
            | soft => exact this
      have u0 := hide (s₁.setGen g gs')
      have sr0 : SR Z { x with gens := (s₁.setGen g gs').gens.map hid } { s₁.setGen g gs' with gens := (s₁.setGen g gs').gens.map hid } := hid_sr (s := s₁.setGen g gs') sh.heap sh.drawn sh.toks sh.os
      have I4 : Inv Xb [] (wipe σ0 vs) Hx { x with gens := (s₁.setGen g gs').gens.map hid } := I3.call' (ch := []) rfl (Un.kept fun _ _ q => q) I3.hok (hid_bare b2) fun b hb => absurd hb (by simp)
      have N0 : s₁.gens.size ≤ (s₁.setGen g gs').gens.size := by rw [setGen_size]; exact Nat.le_refl _
      have og : offs (s₁.setGen g gs') g = some gs' := offs_some (setGen_at hz1) hsu
      have e2 : ∀ k, k ≠ g → (s₁.setGen g gs').gens[k]? = s₁.gens[k]? := fun k hk => by
        show (s₁.gens.setIfInBounds g gs')[k]? = _
        rw [Array.getElem?_setIfInBounds_ne (Ne.symm hk)]
      have ost : ∀ k, Hs k → ∃ st, s₁.gens[k]? = some st ∧ offs (s₁.setGen g gs') k = some st := fun k hk => by
        obtain ⟨st, q1, q2, _⟩ := hst k hk
        exact ⟨st, q1, offs_some ((e2 k fun q => hnG (by rw [← q]; exact hk)).trans q1) q2⟩
      refine no_own (o := o1) (g := g) (by show s₁.heap.get? a = _; rw [sh.heap]; exact ho1) go1 ?_
      refine wpAny_mono (lh_step (wS_up (pg.run _ _ _ Hx vv v _ I4 rv (turn i acc Hw H vv D Hx hW rn.same hit2 hD0 smH hDg))) cn.xe u0 sr0 N0) (fun _ s3 ⟨N3, sh3, u3, x3, sr3, σ8, H8, I8, hw8, q8⟩ => ?_) fun _ _ z => z
      refine wpAny_mono (lh_step (pe.run Z _ x3 σ8 H8 _ I8 q8) cn.xe u3 sr3 N3) (fun uv s4 ⟨N4, sh4, u4, x4, sr4, yv, H10, I10, r10, sm10, hW2⟩ => ?_) fun _ _ z => z
      refine wpAny_mono (lh_step (wS_up (app_ok (X := Xb) (E := Xb.xe) (Q := fun _ y => Inv Xb [] σ8 (upd H10 D (.lst (acc ++ [yv]))) y) I10 (sm10 D _ hDg) (by omega) r10 fun s11 I11 => I11)) cn.xe u4 sr4 N4) (fun _ s5 ⟨N5, sh5, u5, x5, sr5, I5⟩ => ?_) fun _ _ z => z
      have hw : (wipe σ0 vs).length = σ8.length := by rw [← hw8, wipe_length]
      have I5 : Inv Xb [] (wipe σ0 vs) (upd H10 D (.lst (acc ++ [yv]))) x5 := I5.weak hw fun j v e => by
        rw [← hw8] at e
        exact (wipe_some e).1
      have ext5 : ∀ b, Pv b ∨ b = a → (upd H10 D (.lst (acc ++ [yv]))) b = some (.ext fun h' => ∃ o, x.heap.get? b = some o ∧ h'.get? b = some o) := fun b hb => (upd_ne (hPD b hb)).trans (sm10 b _ (yes b hb))
      have I6 := Sg.Inv.dropped I5 (Dp := fun b => b = D ∨ Pv b ∨ b = a) fun b hb => by
        rcases hb with q | hb
        · rw [q]; exact .inl ⟨_, upd_same⟩
        · exact .inr ⟨_, ext5 b hb⟩
      generalize hH' : dl (upd H10 D (.lst (acc ++ [yv]))) (fun b => b = D ∨ Pv b ∨ b = a) = H' at I6
      have h'D : H' D = none := by rw [← hH']; exact dl_yes (.inl rfl)
      have h'P : ∀ b, Pv b ∨ b = a → H' b = none := fun b hb => by rw [← hH']; exact dl_yes (.inr hb)
      have h'n : ∀ b, b ≠ D → ¬ (Pv b ∨ b = a) → H' b = H10 b := fun b h1 h2 => by
        rw [← hH', dl_no fun q => q.elim h1 h2, upd_ne h1]
      have hsm : Same H H' := fun b u e => by
        have h1 : b ≠ D := fun q => by rw [q, hD0] at e; cases e
        have h2 : ¬ (Pv b ∨ b = a) := fun q => by rw [hPn b q] at e; cases e
        rw [h'n b h1 h2]
        exact sm10 b u (smH b u e)
      have keepP : ∀ b ob, Pv b ∨ b = a → x.heap.get? b = some ob → x5.heap.get? b = some ob := fun b ob hb e => by
        obtain ⟨⟨o', e1, e2⟩, _⟩ := I5.hok b _ (ext5 b hb)
        rw [e] at e1
        cases e1
        exact e2
      obtain ⟨hlen5, its5, nn5, r5, eD5⟩ := I5.hok D _ upd_same
      obtain ⟨mm, ⟨oL, es, ep, hoL, dL, rL⟩, _⟩ := id I6.loc
      have hoL : x5.heap.get? Xb.env.locals = some oL := hoL
      have z5 : s5.gens.size = x5.gens.size := u5.size.trans sr5.size
      have g5 : g < s5.gens.size := Nat.lt_of_lt_of_le hz1 N5
      have bb : AllBare ((back (offs (s₁.setGen g gs')) x x5).setGen g .running).gens := allBare_setGen (back_bare rn.bare I6.bare) rfl
      have I7 : Inv Xb [] (wipe σ0 vs) H' ((back (offs (s₁.setGen g gs')) x x5).setGen g .running) := I6.call' (ch := []) rfl (Un.kept fun _ _ q => q) I6.hok bb fun b hb => absurd hb (by simp)
      have hW3 : W (i + 1) (acc ++ [yv]) H' := hW2 H' hsm fun b ob h1 h2 h3 => by rw [h'n b h1 (nogd b h1 h2)]; exact h3
      refine ⟨m, Nat.lt_succ_self m, gs', (u5.at1 g gs' og).2.2, ?_, ⟨o1, ?_, go1⟩, ?_⟩
      · refine wake ((back (offs (s₁.setGen g gs')) x x5).setGen g .running) H' [(D, lob its5 nn5), (Xb.env.locals, oL)] ⟨?_, bb, I7.hok, hsm, I7.bs, I7.stack, I7.stkFree, fun b ob hb e => ⟨keepP b ob (.inl hb) e, h'P b (.inl hb)⟩, ⟨h'P a (.inr rfl), o1, keepP a o1 (.inr rfl) ho1, go1⟩, fun p hp => ?_⟩ (fun _ => ?_) (s5.setGen g .running) (back_sh sh e2 u5 sr5 g5) ⟨?_, fun k hk => ?_⟩
        · exact (I7.os).trans I2.os.symm
        · have nfr : ∀ b, sz ≤ b → b ∉ frs Xb.stack := fun b hb hm => absurd hb (Nat.not_le.mpr (cn.fr b hm))
          rcases List.mem_cons.mp hp with q | q
          · rw [q]
            exact ⟨eD5, h'D, fun hb => hPD D (.inl hb) rfl, fun e => hPD a (.inr rfl) e.symm, nfr D cn.dz, fun v z => by cases z⟩
          · rw [List.mem_singleton.mp q]
            exact ⟨hoL, I6.free, fun hb => hPL (.inl hb), fun e => hPL (.inr e), nfr _ cn.lo, fun v z => by
              have z : oL.data = .cell v := z
              rw [dL] at z; cases z⟩
        · exact ⟨acc ++ [yv], its5, nn5, oL, hW3, by rw [List.length_append]; exact Nat.add_le_add hal (Nat.le_refl 1), I7, r5, eD5, hoL, (fun v z => by rw [dL] at z; cases z), h'D, rfl⟩
        · rw [setGen_size]; exact N5
        · obtain ⟨st, q1, q2⟩ := ost k hk
          have kg : g ≠ k := fun q => hnG (by rw [q]; exact hk)
          show (s5.gens.setIfInBounds g .running)[k]? = _
          rw [Array.getElem?_setIfInBounds_ne kg, (u5.at1 k st q2).2.2, q1]
      · rw [u5.heap, sr5.heap]; exact keepP a o1 (.inr rfl) ho1
      · rw [u5.heap, sr5.heap]; exact I6.nolimit
  · obtain ⟨_, i, xw, Hw, cp, ye, He, hn, hye, hj, rn, hdF, hna, _⟩ := hF
    have hd2 : dn i He := hdF.2
    have hi := hdn i He hd2
    obtain ⟨acc, hW, hal, hD0, I2⟩ := CJ.ran cn (hj hi) rn (Nat.le_of_lt hi)
    have kk : ∀ b o, ye.heap.get? b = some o → h'.get? b = some o := fun b o e => hk b o (by rw [hye.heap]; exact e)
    exact hend acc i Hw He { ye.setGen g .finished with heap := h' } { s₁.setGen g .finished with heap := h' } hW rn.same hd2 hD0 (I2.call' (ch := []) rfl (Un.kept kk) (I2.hok.kept kk) (allBare_setGen rn.bare rfl) fun b hb => absurd hb (by simp)) ((hye.setGen g .finished).heapTo h')
end
end Sg
end
section
set_option maxHeartbeats 4000000
namespace Sg
open PySem L2 PyProof.Rows GenW Sf
theorem cells_no : ∀ {names : List (Str × NameKind)} {n : Nat} {acc : List (Str × Addr)}, (∀ y ∈ names, y.2 ≠ .cell) → cellsFrom n names acc = acc
  | [], _, _, _ => rfl
  | (m, k) :: r, n, acc, h => by
    unfold cellsFrom
    rw [if_neg (by
      have := h (m, k) List.mem_cons_self
      simpa using this)]
    exact cells_no fun y hy => h y (List.mem_cons_of_mem _ hy)
section
variable {X : Cx} {k : Nat} {mk : Prop} {Z : Nat → Prop}
theorem lg_core {pins : List (Addr × Obj)} {x s : Shared} {σ : L2.St} {H : Hp} {Q : VK} {elt tg iter : Expr} {scope : Scope} {own : List (Str × Nat)} {pos pos' : Pos} {t : TGM} {g : TG} {te : TE} {use : Option (Value → Sem Unit)} {Qf : Value → Shared → Prop}
    (hc : X.calm = true) (hN : X.N.Nodup) (I : Inv X pins σ H x) (hs0 : SR Z x s) (hi : PGM X k mk iter t) (hr : Room (k + 1) X.A) (ok : BlkOk X.N X.env.scope scope own) (nc : ∀ y ∈ scope.names, y.2 ≠ .cell)
    (hg : ∀ (s : Shared) (H : Hp) (C : Addr) (cl : List (Str × Addr)) (fp : List Addr), PG (X.blk s H scope (compEnvC scope cl C X.env) fp) tg g) (he : ∀ (s : Shared) (H : Hp) (C : Addr) (cl : List (Str × Addr)) (fp : List Addr), QE (X.blk s H scope (compEnvC scope cl C X.env) fp) elt te)
    (hs : ∀ x, foldedSetIterable iter X.env x = pure x) (h : tLg t g te (own.map (·.2)) σ H Q)
    (hRR : ∀ D C y s' m H', Inv X pins σ H' y → SR Z y s' → Q (.ref D) H' → y.heap.Ns C m → FpOk X pins H' C → compPost (mp X.prog X.w) X.A (lo Z X.xe) use Qf (.ref D) C (.ok .next) s') :
    wpAny (mp X.prog X.w) X.A (comprehension (.ListComp elt [⟨tg, iter, [], 0⟩] scope pos) scope X.env pos' (newList []) false (eval iter X.env) use) Qf (lo Z X.xe) s := by
  have hfree : ∀ y ∈ scope.names, y.2 = .free → ∃ c, X.env.cells.lookup y.1 = some c := fun y hy e => by
    rcases ok.free y hy e with k | k
    · exact I.ok.has _ (.inl k)
    · exact I.ok.has _ (.inr k)
  refine wpAny_comprehension_free (use := use) rfl hs (closure_ok hfree) ok.kind (fun y hy e => by rw [ok.uniq y hy, e])
    (wpAny_mono (wpAny_up hs0 (hi.run pins x σ H _ I h)) (fun xv s1 ⟨y, hy, H1, xc, it, dn, rm, hxc, Ic, hM, hrm, hdn, W, w0, turn, hQ⟩ => ?_) fun _ _ e => e)
  obtain ⟨a, g1, c1, rfl, ha1, ha2, hG, hgs, hxg, hos, hb, hlim, hkp, wake⟩ := hM
  refine wpAny_mono (wpAny_up hy (wpAny_pyIter_gen (Q := fun u y' => u = .ref a ∧ y' = y) (E := fun _ _ => False) hG ⟨rfl, rfl⟩)) (fun u s2 ⟨y', hy2, eu, ey⟩ => ?_) fun e s' ⟨_, _, q⟩ => q.elim
  subst eu ey
  refine wpAny_newObj_type (newEnv_comp ?_) (by show 0 ≤ sizeLine; decide)
  have eh : s2.heap = y'.heap := hy2.heap
  rw [eh]
  generalize hD : y'.heap.objs.size = D
  have szc : xc.heap.objs.size ≤ D := by rw [← hD]; exact Nat.le_trans ha1 (Nat.le_of_lt ha2)
  have hDn : H1 D = none := Ic.hok.fresh szc
  have Iy : Inv X pins σ H1 y' := Ic.call' (ch := []) hos (Un.kept hkp) (Ic.hok.kept hkp) hb fun b hb => absurd hb (by simp)
  -- the new list
  generalize hs3 : ({ y' with heap := y'.heap.push { cls := .type "list", data := .seq ([] : List Value).toArray } } : Shared) = y3
  have I3 : Inv X pins σ (upd H1 D (.lst [])) y3 := by
    rw [← hs3]
    refine Iy.laid (t' := y'.toks) (fun b o e => Heap.get?_push_of_some _ e) (Nat.le_of_eq hD) ⟨Nat.zero_le _, [], 0, .nil, ?_⟩
    rw [← hD]
    exact Heap.get?_push_size _ rfl
  have h3 : y3.heap = y'.heap.push { cls := .type "list", data := .seq ([] : List Value).toArray } := by rw [← hs3]
  have z3 : y3.heap.objs.size = D + 1 := by rw [h3, Heap.size_push, hD]
  have memfp : ∀ b, b ∈ (List.range D).filter (fun b => decide (xc.heap.objs.size ≤ b)) ↔ b < D ∧ xc.heap.objs.size ≤ b := fun b => by
    rw [List.mem_filter, List.mem_range, decide_eq_true_iff]
  generalize hfp : (List.range D).filter (fun b => decide (xc.heap.objs.size ≤ b)) = fp at memfp
  have f3 : ∀ b ∈ fp, FpOk X pins (upd H1 D (.lst [])) b ∧ b < y3.heap.objs.size := fun b hb => by
    obtain ⟨q1, q2⟩ := (memfp b).mp hb
    exact ⟨Ic.fpOk q2 (by rw [upd_ne (Nat.ne_of_lt q1)]; exact Ic.hok.fresh q2), by rw [z3]; exact Nat.lt_succ_of_lt q1⟩
  have I4 := block_start I3 ok hN f3
  have ecl : cellsFrom (y3.heap.objs.size + 1) scope.names (cloFrom X.env.cells scope.names []) = cloFrom X.env.cells scope.names [] := cells_no nc
  have pg := hg y3 (upd H1 D (.lst [])) y3.heap.objs.size (cloFrom X.env.cells scope.names []) fp
  have pe := he y3 (upd H1 D (.lst [])) y3.heap.objs.size (cloFrom X.env.cells scope.names []) fp
  rw [ecl] at I4
  have es3 : ({ s2 with heap := y'.heap.push { cls := .type "list", data := .seq ([] : List Value).toArray } } : Shared).heap.objs.size = y3.heap.objs.size := by rw [z3]; show (y'.heap.push _).objs.size = _; rw [Heap.size_push, hD]
  show codeAny _ _ (.compStart (.ListComp elt [⟨tg, iter, [], 0⟩] scope pos) 0 (.ref a) (.ref D) (compEnvC scope (cellsFrom ((y'.heap.push { cls := .type "list", data := .seq ([] : List Value).toArray }).objs.size + 1) scope.names (cloFrom X.env.cells scope.names [])) (y'.heap.push { cls := .type "list", data := .seq ([] : List Value).toArray }).objs.size X.env)) (compPost (mp X.prog X.w) X.A (lo Z X.xe) use Qf (.ref D) (y'.heap.push { cls := .type "list", data := .seq ([] : List Value).toArray }).objs.size)
    { s2 with heap := pushCells ((y'.heap.push { cls := .type "list", data := .seq ([] : List Value).toArray }).push { cls := .type "dict", data := .dict #[] }) scope.names }
  rw [← h3, ecl]
  have SR4 : SR Z { y3 with heap := pushCells (y3.heap.push { cls := .type "dict", data := .dict #[] }) scope.names } { s2 with heap := pushCells (y3.heap.push { cls := .type "dict", data := .dict #[] }) scope.names } := by
    rw [← hs3]
    exact hy2.heapTo _
  have kp34 : ∀ b o, y'.heap.get? b = some o → (pushCells (y3.heap.push { cls := .type "dict", data := .dict #[] }) scope.names).get? b = some o := fun b o e => pushCells_keeps _ _ _ _ (Heap.get?_push_of_some _ (by rw [h3]; exact Heap.get?_push_of_some _ e))
  have os4 : y3.os = xc.os := by rw [← hs3]; exact hos
  have ge4 : y3.gens = y'.gens := by rw [← hs3]
  generalize hce : compEnvC scope (cloFrom X.env.cells scope.names []) y3.heap.objs.size X.env = ce at I4 pg pe ⊢
  have cL : ce.locals = D + 1 := by rw [← z3]; subst hce; rfl
  have cC : ce.cells = cloFrom X.env.cells scope.names [] := by subst hce; rfl
  have eD4 : (pushCells (y3.heap.push { cls := .type "dict", data := .dict #[] }) scope.names).get? D = some (lob [] 0) := pushCells_keeps _ _ _ _ (Heap.get?_push_of_some _ (by rw [h3, ← hD]; exact Heap.get?_push_size _ rfl))
  generalize hs4 : ({ y3 with heap := pushCells (y3.heap.push { cls := .type "dict", data := .dict #[] }) scope.names } : Shared) = y4 at I4 SR4
  have hh4 : y4.heap = pushCells (y3.heap.push { cls := .type "dict", data := .dict #[] }) scope.names := by rw [← hs4]
  have hg4 : y4.gens = y'.gens := by rw [← hs4]; exact ge4
  have ho4 : y4.os = xc.os := by rw [← hs4]; exact os4
  rw [← hh4] at kp34 eD4 SR4 ⊢
  have stk : ∀ b ∈ frs X.stack, b < xc.heap.objs.size := fun b hb => by
    obtain ⟨_, o, ho, _⟩ := Ic.stack.mem hb
    exact Heap.lt_size ho
  have ccl : ∀ y c, ce.cells.lookup y = some c → c < xc.heap.objs.size := fun y c e => by
    rw [cC] at e
    rcases cloFrom_mem (PySem.mem_of_lookup e) with q | ⟨q1, q2⟩
    · cases q
    · obtain ⟨c', q3⟩ := hfree _ q1 rfl
      rw [q3] at q2
      have q2 : c = c' := q2
      subst q2
      obtain ⟨v, o, ho, _⟩ := Ic.cell _ _ q3
      exact Heap.lt_size ho
  have cn : Cn (X.blk y3 (upd H1 D (.lst [])) scope ce fp) xc.heap.objs.size D := ⟨rfl, fun _ _ q => q, by show _ ≤ ce.locals; rw [cL]; exact Nat.le_succ_of_le szc, by show D ≠ ce.locals; rw [cL]; exact Nat.ne_of_lt (Nat.lt_succ_self _), szc, fun b q1 q2 => by
    have q2 : b < y3.heap.objs.size := q2
    rw [z3] at q2
    rcases Nat.lt_or_eq_of_le (Nat.le_of_lt_succ q2) with q | q
    · exact .inl ((memfp b).mpr ⟨q, q1⟩)
    · exact .inr q, by show upd H1 D (.lst []) D ≠ none; rw [upd_same]; simp, ccl, stk⟩
  have e0 : dl (upd H1 D (.lst [])) (fun b => b = D) = H1 := funext fun b => by
    by_cases q : b = D
    · exact (dl_yes (Dp := fun b => b = D) q).trans (by rw [q]; exact hDn.symm)
    · exact (dl_no (Dp := fun b => b = D) q).trans (upd_ne q)
  have I5 : Inv (X.blk y3 (upd H1 D (.lst [])) scope ce fp) [] (wipe σ (own.map (·.2))) H1 y4 := by
    have q := Sg.Inv.dropped I4 (Dp := fun b => b = D) fun b hb => .inl ⟨[], by rw [hb]; exact upd_same⟩
    rw [e0] at q
    exact q
  have bb4 : AllBare (y4.setGen g1 .running).gens := allBare_setGen (by rw [hg4]; exact hb) rfl
  have I6 : Inv (X.blk y3 (upd H1 D (.lst [])) scope ce fp) [] (wipe σ (own.map (·.2))) H1 (y4.setGen g1 .running) := I5.call' (ch := []) rfl (Un.kept fun _ _ q => q) I5.hok bb4 fun b hb => absurd hb (by simp)
  obtain ⟨mm, ⟨oL, es, ep, hoL, dL, rL⟩, _⟩ := id I5.loc
  have hoL : y4.heap.get? ce.locals = some oL := hoL
  have ltC : D < ce.locals := by rw [cL]; exact Nat.lt_succ_self _
  have loop : ∀ s', SR Z y4 s' → codeAny (mp X.prog X.w) X.A (.compLoop (.ListComp elt [⟨tg, iter, [], 0⟩] scope pos) 0 (.ref a) (.ref D) ce) (compPost (mp X.prog X.w) X.A (lo Z X.xe) use Qf (.ref D) y3.heap.objs.size) s' := by
    intro s' SR5
    refine lg_loop (Xb := X.blk y3 (upd H1 D (.lst [])) scope ce fp) (g := g1) (sz := xc.heap.objs.size) (W := W) (it := it) (dn := dn) (σ0 := σ) (vs := own.map (·.2)) (Z := Z) cn (I.ok.hd hc) (by have := hr.dp; show X.A.depth < _; omega) ha1 pg pe hdn (fun b q1 q2 q3 => (cn.h0 b q1 q2).elim (fun q => q) fun q => absurd q q3) turn (fun acc i G He y s' w1 sm d1 nD I7 hs7 => ?_) sizeLine s' ⟨.fresh c1, ?_, ⟨rfl, ?_⟩, ?_, ?_⟩
    · have I8 : Inv X pins σ (upd He D (.lst acc)) y := I3.call' (ch := fp) I7.os I7.base I7.hok I7.bare fun b hb => ⟨(f3 b hb).1.2.2.2.1, (f3 b hb).1.2.1, (f3 b hb).1.2.2.2.2.1, (f3 b hb).1.2.2.2.2.2⟩
      have nC : (upd He D (.lst acc)) y3.heap.objs.size = none := by
        have z : (upd He D (.lst acc)) ce.locals = none := I7.free
        rw [cL, ← z3] at z
        exact z
      obtain ⟨m, hn, _⟩ := I7.loc
      have hn : y.heap.Ns ce.locals m := hn
      rw [cL, ← z3] at hn
      exact hRR D y3.heap.objs.size y s' m _ I8 hs7 (hQ i acc G He D w1 sm d1 nD) hn (I3.fpOk (Nat.le_refl _) nC)
    · exact gs_fresh SR5 (by rw [hg4]; exact hgs)
    · refine wake Z False X.A.in1 (CJ (X.blk y3 (upd H1 D (.lst [])) scope ce fp) (wipe σ (own.map (·.2))) D W) 0 sizeLine (y4.setGen g1 .running) H1 [(D, lob [] 0), (ce.locals, oL)] (fun q => q.elim) ⟨hr.hd, ?_, ?_⟩ I.ok.frames (Nat.add_zero _) (by rw [Nat.zero_add]; exact hrm) ⟨ho4, bb4, I6.hok, fun _ _ z => z, I6.bs, I6.stack, I6.stkFree, fun b o q e => ⟨kp34 b o e, Ic.hok.fresh q⟩, fun p hp => ?_⟩ ?_ _ _ (SR5.setGen g1 .running) ?_
      · have := hr.dp
        show X.A.depth + 3 * k + 5 < _
        omega
      · have := hr.un
        show X.A.units + 1 + 16 * k + 200 < _
        omega
      · rcases List.mem_cons.mp hp with q | q
        · rw [q]
          exact ⟨eD4, hDn, .inr (by rw [hD]; exact Nat.le_refl _), fun hm => absurd szc (Nat.not_le.mpr (stk D hm)), fun v z => by cases z⟩
        · rw [List.mem_singleton.mp q]
          exact ⟨hoL, I6.free, .inr (by rw [hD]; exact Nat.le_of_lt ltC), fun hm => absurd (Nat.le_trans szc (Nat.le_of_lt ltC)) (Nat.not_le.mpr (stk _ hm)), fun v z => by
            have z : oL.data = .cell v := z
            rw [dL] at z; cases z⟩
      · exact ⟨[], [], 0, oL, w0, Nat.le_refl _, I6, .nil, eD4, hoL, (fun v z => by rw [dL] at z; cases z), hDn, rfl⟩
      · rw [setGen_size, SR5.size, hg4]; exact (Array.getElem?_eq_some_iff.mp hgs).1
    · obtain ⟨ob, nm, qn, q1, q2, q3, q4⟩ := hG
      exact ⟨ob, by rw [SR5.heap]; exact kp34 a ob q1, q2, ⟨nm, qn, q3⟩, .inl q4⟩
    · rw [SR5.heap]; exact I5.nolimit
  refine start_lc (loop _ SR4) (wpAny_mono (wpAny_up SR4 (wpAny_pyIter_gen (g := g1) (Q := fun u y' => u = .ref a ∧ y' = y4) (E := fun _ _ => False) ?_ ⟨rfl, rfl⟩)) (fun u s' ⟨yy, hyy, eu, ey⟩ => ?_) fun e s' ⟨_, _, q⟩ => q.elim)
  · obtain ⟨ob, nm, qn, q1, q2, q3, q4⟩ := hG
    exact ⟨ob, nm, qn, kp34 a ob q1, q2, q3, q4⟩
  · subst eu ey
    exact loop s' hyy
theorem qe_lg {elt tg iter : Expr} {scope : Scope} {own : List (Str × Nat)} {pos : Pos} {t : TGM} {g : TG} {te : TE} (hc : X.calm = true) (hN : X.N.Nodup) (hi : PGM X k mk iter t) (hr : Room (k + 1) X.A) (ok : BlkOk X.N X.env.scope scope own) (nc : ∀ y ∈ scope.names, y.2 ≠ .cell)
    (hg : ∀ (s : Shared) (H : Hp) (C : Addr) (cl : List (Str × Addr)) (fp : List Addr), PG (X.blk s H scope (compEnvC scope cl C X.env) fp) tg g) (he : ∀ (s : Shared) (H : Hp) (C : Addr) (cl : List (Str × Addr)) (fp : List Addr), QE (X.blk s H scope (compEnvC scope cl C X.env) fp) elt te)
    (hs : ∀ x, foldedSetIterable iter X.env x = pure x := by intro _; rfl) : QE X (.ListComp elt [⟨tg, iter, [], 0⟩] scope pos) (tLg t g te (own.map (·.2))) := by
  refine ⟨fun Z pins x σ H Q I h s hs0 => ?_⟩
  rw [eval_ListComp]
  refine lg_core hc hN I hs0 hi hr ok nc hg he hs h fun D C y s' m H' I' hy q hn f => ⟨m, by rw [hy.heap]; exact hn, fun h'' sb => ?_⟩
  obtain ⟨f0, f1, f2, f3, f4, f5⟩ := f
  rw [hy.heap] at sb
  exact ⟨{ y with heap := h'' }, hy.heapTo h'', .ref D, H', I'.turned (t' := y.toks) (fun b o hb e => (sb.2 b hb).trans e) f0 f1 f3 f4 f5, rfl, q⟩
end
end Sg
end
section
namespace Lw
open PySem L2 Sf Sg PyProof.Rows GenW
def itL (l : List (List Nat)) : Sg.It := fun j v H => ∃ (a : Addr) (s : List Nat), l[j]? = some s ∧ v = .ref a ∧ H a = some (.tup (nW s))
def dnL (l : List (List Nat)) : Dn := fun j _ => j = l.length
def spWalksM : SpM := fun vs H it dn rm => ∃ (ed wa : Addr) (us : Es) (n L first : Nat) (wy : Nat → Nat → List Nat), vs = [.ref ed, .ref wa, .int (first : Int)] ∧ EdL H ed n us ∧ us.length ≤ 24 ∧ WaysAt H wa L n wy ∧ (∀ r s, ∀ x ∈ wy r s, x < us.length) ∧ (∀ r s, (wy r s).length ≤ us.length) ∧
  1 ≤ L ∧ L ≤ 40 ∧ first < us.length ∧ it = itL (walksL wy (srcE us) (tgtE us) L first) ∧ dn = dnL (walksL wy (srcE us) (tgtE us) L first) ∧ rm = (walksL wy (srcE us) (tgtE us) L first).length + 1
theorem Fun.genM {mk : Prop} {P : Program} {w : World} {K : PySem.W.Frag} {mg : Str → Option Value} {base : Heap} {x qual : Str} {st : Stmt} {f : Addr} {fd : FuncData} {N ps : List Str} {k : Nat} {sp : SpM} (F : Fun K x qual st f fd) (S : GScope N ps (defScope st)) (len : ∀ vs H it dn rm, sp vs H it dn rm → vs.length = ps.length)
    (hbody : ∀ (cdv : Value) (A : Around) (outer : List Env) (x : Shared) (H Hw : Hp) (vs : List V) (i0 : Nat) (it : Sg.It) (dn : Dn) (rm : Nat), Room k (A.deeper (envOfC qual (defScope st) x.heap.objs.size f cdv)) → sp vs H it dn rm → Same H Hw → i0 + rm ≤ sizeLine →
      ∃ t, Sg.GBs mk (gXm P w K mg base N qual (defScope st) f cdv A outer x H) (defBody st) t ∧ t { nx := fun i hw _ H' => Same hw H' ∧ dnF i0 dn i H', rt := fun i hw v H' => v = .non ∧ Same hw H' ∧ dnF i0 dn i H', it := itF i0 it } i0 Hw (start N vs) Hw) :
    GFnM P w K mg base (k + 1) mk f fd ps sp := by
  obtain ⟨oc, od, kV, doc, pm, an, cdv, ct, osl, rfl, lk, hcd⟩ := F.ex
  exact gfnM_of lk hcd S len fun A outer x H Hw vs i0 it dn rm hr hsp hs hrm => hbody cdv A outer x H Hw vs i0 it dn rm hr hsp hs hrm
def CalGM (P : Program) (w : World) (K : PySem.W.Frag) (mg : Str → Option Value) (base : Heap) (k : Nat) (mk : Prop) (name : Str) (sp : SpM) : Prop := ∃ f fd ps, GFnM P w K mg base k mk f fd ps sp ∧ mg name = some (.ref f) ∧ PySem.W.keepIn K (.ref f) = true ∧ Binds K fd ps []
section
variable {H1 H' hw : Hp} {M : Addr → Prop}
theorem rs_same (s : Same (dl H1 M) H') : Same H1 (rs H' H1 M) := fun b u e => by
  by_cases q : M b
  · rw [rs_yes q]; exact e
  · rw [rs_no q]
    exact s b u (by rw [dl_no q]; exact e)
theorem rs_hw (n : ∀ b, M b → H' b = none) : Same H' (rs H' H1 M) := fun b u e => by
  rw [rs_no fun q => by rw [n b q] at e; cases e]
  exact e
theorem hw_dl (s : Same hw H1) (n : ∀ b, M b → hw b = none) : Same hw (dl H1 M) := fun b u e => by
  rw [dl_no fun q => by rw [n b q] at e; cases e]
  exact s b u e
end
end Lw
end
section
namespace Lw
open PySem L2 Sf Sg PyProof.Rows GenW
abbrev tWkM (K : PySem.W.Frag) : TGm := tGc (tWh (fun _ _ => tTruL K 4) (tGc (tPl fun _ _ => tAsg (tBM0 K "list" rPop (tVar 4)) (gName 5))
  (tGc (tIf (fun _ _ => tTest (tOp rEq (tLenK K 5) (tVar 3))) (tGc (tYd fun _ _ => tVar 5) Sg.tG0)
    (tGc (tPl fun _ _ => (tAsg (tWay K (tSubN (tSubN (tVar 3) (tLenK K 5)) (tC (.int 1))) (tOp (rIxT K) (tVar 5) (tUn (rU fun i => .int (-i)) (tC (.int 1)))) 1) (gName 6)))
      (tGc (tPl fun _ _ => (tDrop (tBM K "list" rExtend (tVar 4) (tCons (tLc (RT.iRevA K (tVar 6)) (gName 7) tYes (tOp (rCatA K) (tVar 5) (tTup (tCons (tVar 7) tNil))) [7]) tNil)))) Sg.tG0))) Sg.tG0))) Sg.tG0
section
variable {P : Program} {w : World} {K : PySem.W.Frag} {mg : Str → Option Value} {base : Heap} {f : Addr} {fd : FuncData} {k : Nat}
set_option maxHeartbeats 8000000 in
theorem wk_whileM {i0 : Nat} {Hw : Hp} {ed wa Wt : Addr} {us : Es} {n L first : Nat} {wy : Nat → Nat → List Nat} {H0 Hb : Hp} {v5 v6 v7 : Option V} {as : List Addr} {st : List (List Nat)} (eE : EdL H0 ed n us) (m24 : us.length ≤ 24) (wW : WaysAt H0 wa L n wy)
    (wlt : ∀ r s, ∀ x ∈ wy r s, x < us.length) (wle : ∀ r s, (wy r s).length ≤ us.length) (L40 : L ≤ 40) (room : i0 + ((walksL wy (srcE us) (tgtE us) L first).length + 1) ≤ sizeLine)
    (s0 : Same H0 Hb) (s0w : Same H0 Hw) (swb : Same Hw Hb) (hW : H0 Wt = none) (hWw : Hw Wt = none) (eW : Hb Wt = some (.lst (as.reverse.map V.ref))) (ta : TW Hb as st) (an : AllW us.length L st) (sb : SW us.length st)
    (vl : wvals wy (tgtE us) L st = walksL wy (srcE us) (tgtE us) L first) {rt : Nat → Hp → V → Hp → Prop} :
    tWkM K { nx := fun i hw _ H' => Same hw H' ∧ dnF i0 (dnL (walksL wy (srcE us) (tgtE us) L first)) i H', rt := rt, it := itF i0 (itL (walksL wy (srcE us) (tgtE us) L first)) } i0 Hw [some (.ref ed), some (.ref wa), some (.int (first : Int)), some (.int (L : Int)), some (.ref Wt), v5, v6, v7] Hb := by
  refine ⟨fun m i hw σ H' => ∃ (v5 v6 v7 : Option V) (as : List Addr) (st : List (List Nat)) (dn : List (List Nat)), σ = [some (.ref ed), some (.ref wa), some (.int (first : Int)), some (.int (L : Int)), some (.ref Wt), v5, v6, v7] ∧ Same H0 H' ∧ Same hw H' ∧ hw Wt = none ∧ H' Wt = some (.lst (as.reverse.map V.ref)) ∧
      TW H' as st ∧ AllW us.length L st ∧ SW us.length st ∧ i = i0 + dn.length ∧ dn ++ wvals wy (tgtE us) L st = walksL wy (srcE us) (tgtE us) L first ∧ wwt wy (tgtE us) L st = m,
    ⟨_, v5, v6, v7, as, st, [], rfl, s0, swb, hWw, eW, ta, an, sb, rfl, vl, rfl⟩, ?_⟩
  rintro m i hw σ H3 ⟨v5, v6, v7, as, st, dn, rfl, s4, sw, nW', eW, ta, an, sb, rfl, vl, wt⟩
  intro _ _
  refine ⟨_, rfl, _, .inl ⟨_, SqL.of eW, rfl⟩, ?_⟩
  match as, st, ta with
  | [], [], _ =>
    refine if_f rfl ⟨sw, Nat.le_add_right _ _, ?_⟩
    show i0 + dn.length - i0 = _
    rw [← vl, wvals_nil, List.append_nil, Nat.add_sub_cancel_left]
  | a :: as, p :: r, ta =>
    obtain ⟨ea, ta⟩ := ta
    have eW : H3 Wt = some (.lst (as.reverse.map V.ref ++ [.ref a])) := by
      rw [eW, List.reverse_cons, List.map_append]
      rfl
    obtain ⟨pne, sl, sx⟩ := an p List.mem_cons_self
    have la := ta.len
    refine if_t (by simp) ⟨_, fun _ _ _ _ z => z, ?_⟩
    intro _ _
    refine ⟨_, rfl, .inl ⟨rfl, _, SqL.of eW⟩, Wt, _, .ref a, rfl, rfl, eW, ?_, ?_⟩
    · rw [List.length_append, List.length_singleton, Nat.add_sub_cancel]
      exact List.getElem?_concat_length
    rw [List.dropLast_concat]
    have aW : a ≠ Wt := fun z => by
      rw [z, eW] at ea
      cases ea
    have ea : upd H3 Wt (.lst (as.reverse.map V.ref)) a = some (.tup (nW p)) := by
      rw [upd_ne aW]
      exact ea
    have ta := TW.off (o := .lst (as.reverse.map V.ref)) eW ta
    have sw : Same hw (upd H3 Wt (.lst (as.reverse.map V.ref))) := fun b o e => by
      rw [upd_ne (ne_of_none e nW')]
      exact sw _ _ e
    have s4 : Same H0 (upd H3 Wt (.lst (as.reverse.map V.ref))) := fun b o e => by
      rw [upd_ne (ne_of_none e hW)]
      exact s4 _ _ e
    have eW : upd H3 Wt (.lst (as.reverse.map V.ref)) Wt = some (.lst (as.reverse.map V.ref)) := upd_same
    generalize upd H3 Wt (.lst (as.reverse.map V.ref)) = H4 at *
    intro _ _
    refine ⟨_, rfl, a, _, rfl, .inr (SqT.of ea), ?_⟩
    rw [nW_len]
    refine ⟨_, rfl, rfl, _, rfl, ?_⟩
    by_cases hl : p.length = L
    · have e1 := congrArg List.length vl
      rw [wvals_full hl, List.length_append, List.length_cons] at e1
      have eat : (walksL wy (srcE us) (tgtE us) L first)[dn.length]? = some p := by
        rw [← vl, wvals_full hl]
        simp
      refine if_t (decide_eq_true (by rw [hl])) ⟨by omega, fun _ _ => ⟨_, rfl, fun b => b = Wt, fun b hb => ?_, hw_dl sw fun b hb => ?_, ⟨Nat.le_add_right _ _, ?_⟩, fun H' sH nH => ?_⟩⟩
      · rw [hb]; exact ⟨nW', _, eW⟩
      · rw [hb]; exact nW'
      · rw [Nat.add_sub_cancel_left]
        exact ⟨a, p, eat, rfl, by rw [dl_no (Dp := fun b => b = Wt) aW]; exact ea⟩
      · have s5 := rs_same sH
        refine ⟨_, ?_, _, _, _, as, r, dn ++ [p], rfl, s4.trans s5, rs_hw nH, nH Wt rfl, s5 _ _ eW, ta.same s5, fun z hz => an z (List.mem_cons_of_mem _ hz), sb.2, ?_, ?_, rfl⟩
        · rw [← wt]; exact wwt_pop
        · rw [List.length_append]; rfl
        · rw [← vl, wvals_full hl, List.append_assoc]; rfl
    · refine if_f (decide_eq_false fun z => hl (by have := V.int.inj z; omega)) ?_
      have hl : p.length < L := by omega
      obtain ⟨pp, x, rfl⟩ : ∃ pp x, p = pp ++ [x] := ⟨p.dropLast, p.getLast pne, (List.dropLast_concat_getLast pne).symm⟩
      have xm : x < us.length := sx x (by simp)
      have gl : (pp ++ [x]).getLastD 0 = x := by simp
      have eE := eE.same s4
      have wW := wW.same s4
      obtain ⟨t, at2, et, hs, ht⟩ := eE.read xm
      obtain ⟨xs, a1, ys1, F, w1, at1, w2, at4, eF⟩ := wW.read (r := L - (pp ++ [x]).length - 1) (by omega) ht
      have ex := ea
      rw [nW_snoc] at ex
      intro _ _
      refine ⟨_, rfl, _, rfl, _, rfl, a, _, rfl, .inr (SqT.of ea), L, (pp ++ [x]).length, rfl, by rw [nW_len], Nat.le_of_lt hl, L - (pp ++ [x]).length, 1, rfl, rfl, by omega, wa, xs, _, _, rfl, rfl, SqL.of w1, at1, _, rfl, _, rfl, 1, rfl, a, _, -1, _, rfl, rfl, SqT.of ex, atI_last _ _, ed, _, _, _, rfl, rfl, SqL.of eE.ls, at2, t, _, 1, _, rfl, rfl, SqT.of et, rfl,
        a1, ys1, _, _, rfl, rfl, SqL.of w2, at4, ?_⟩
      have step := wvals_step (wy := wy) (tg := tgtE us) (L := L) (st := r) hl
      have wst := wwt_step (wy := wy) (tg := tgtE us) (L := L) (st := r) hl
      rw [gl] at step wst
      rw [step] at vl
      rw [wt] at wst
      have lc := wle (L - (pp ++ [x]).length - 1) (tgtE us x)
      have cl := wlt (L - (pp ++ [x]).length - 1) (tgtE us x)
      generalize wy (L - (pp ++ [x]).length - 1) (tgtE us x) = cs at *
      generalize pp ++ [x] = p at *
      have an2 := an.more hl cl
      have sb2 := sb.more cs lc
      intro _ _
      refine ⟨_, rfl, .inl ⟨rfl, _, SqL.of eW⟩, _, rfl, F, _, rfl, .inl ⟨SqL.of eF, fun E hE => ?_⟩⟩
      have nE : E ≠ Wt := (ne_of_none eW hE).symm
      refine lc_it (walk_rev (K := K) (a := F) (xs := nW cs)) (fun i H' => ∃ rs : List Addr, Same H4 H' ∧ H' E = some (.lst (rs.reverse.map V.ref)) ∧ TW H' rs ((cs.drop (cs.length - i)).map fun k => p ++ [k])) ⟨[], same_upd hE, upd_same, by rw [Nat.sub_zero, List.drop_length]; exact True.intro⟩ (fun i H' _ p => by obtain ⟨rs, s, _⟩ := p; exact SqL.of (s _ _ eF)) ?_ ?_
      · rintro i v H6 H7 hi ⟨rs, s6, eX, tr⟩ ⟨rfl, gx⟩
        rw [nW_len] at hi gx
        rw [nW_at (by omega)] at gx
        cases gx
        have ea := s6 _ _ ea
        have dr : cs.drop (cs.length - (i + 1)) = cs.getD (cs.length - 1 - i) 0 :: cs.drop (cs.length - i) := by
          rw [List.drop_eq_getElem_cons (by omega), show cs.length - (i + 1) + 1 = cs.length - i by omega]
          congr 1
          simp [List.getD, show cs.length - 1 - i < cs.length by omega, show cs.length - (i + 1) = cs.length - 1 - i by omega]
        rw [dr]
        generalize cs.getD (cs.length - 1 - i) 0 = kk at *
        have lrs := tr.len
        rw [List.length_map, List.length_drop] at lrs
        have out : ∀ (y : Addr) (H8 : Hp), Same H7 H8 → H8 y = some (.tup (nW (p ++ [kk]))) → ∃ xs, H8 E = some (.lst xs) ∧ xs.length < sizeLine ∧ ∃ rs : List Addr, Same H4 (upd H8 E (.lst (xs ++ [.ref y]))) ∧ upd H8 E (.lst (xs ++ [.ref y])) E = some (.lst (rs.reverse.map V.ref)) ∧ TW (upd H8 E (.lst (xs ++ [.ref y]))) rs ((kk :: cs.drop (cs.length - i)).map fun k => p ++ [k]) := fun y H8 s8 ey => by
          have eX := s8 _ _ eX
          refine ⟨_, eX, ?_, y :: rs, ?_, ?_, ?_⟩
          · rw [List.length_map, List.length_reverse]
            exact small1000 (by omega)
          · intro b o e
            rw [upd_ne (ne_of_none e hE)]
            exact s8 _ _ (s6 _ _ e)
          · rw [upd_same, List.reverse_cons, List.map_append]
            rfl
          · exact TW.off eX (as := y :: rs) ⟨ey, tr.same s8⟩
        refine ⟨rfl, ?_⟩
        refine ⟨_, rfl, _, rfl, (by show 1 ≤ sizeLine; decide), fun u hu => ?_⟩
        have s8 := same_upd (o := .tup [.int (kk : Int)]) hu
        have eu : upd H7 u (.tup [.int (kk : Int)]) u = some (.tup [.int (kk : Int)]) := upd_same
        generalize upd H7 u (.tup [.int (kk : Int)]) = H8 at *
        have ea := s8 _ _ ea
        refine ⟨a, u, nW p, [.int (kk : Int)], rfl, rfl, SqT.of ea, SqT.of eu, ?_, fun z => ?_, fun _ z => absurd z (List.cons_ne_nil _ _), fun _ _ p hp => ?_⟩
        · rw [nW_len]
          show p.length + 1 ≤ sizeLine
          exact Nat.le_of_lt (small1000 (by omega))
        · refine out u H8 s8 ?_
          rw [nW_snoc, z]
          exact eu
        · refine out p _ (s8.trans (same_upd hp)) ?_
          rw [upd_same, nW_snoc]
      · rintro H6 ⟨rs, s6, eX, tr⟩
        rw [nW_len, Nat.sub_self, List.drop_zero] at tr
        have lrs := tr.len
        rw [List.length_map] at lrs
        have eW := s6 _ _ eW
        have lr := sb.1
        have lr2 : us.length * p.length ≤ 24 * 40 := Nat.mul_le_mul m24 (by omega)
        refine ⟨Wt, E, _, _, rfl, rfl, eW, eX, ?_, ?_⟩
        · rw [List.length_map, List.length_map, List.length_reverse, List.length_reverse]
          exact Nat.le_of_lt (small1000 (by omega))
        refine ⟨_, wst, _, _, _, rs ++ as, (cs.map fun k => p ++ [k]) ++ r, dn, rfl, ?_, ?_, nW', ?_, TW.off eW (tr.app (ta.same s6)), an2, sb2, rfl, vl, rfl⟩
        · intro b o e
          rw [upd_ne (ne_of_none e hW)]
          exact s6 _ _ (s4 _ _ e)
        · intro b o e
          rw [upd_ne (ne_of_none e nW')]
          exact s6 _ _ (sw _ _ e)
        · rw [upd_same, List.reverse_append, List.map_append]
end
end Lw
end
section
namespace Lw
open PySem L2 Sf Sg PyProof.Rows GenW
section
variable {P : Program} {w : World} {K : PySem.W.Frag} {mg : Str → Option Value} {base : Heap} {f : Addr} {fd : FuncData} {k : Nat} {mk : Prop}
set_option maxHeartbeats 8000000 in
theorem ok_walksM (F : Fun K "walks" "walks" sWalks f fd) (T : Bi mg) (hv : mg "reversed" = none) : GFnM P w K mg base (k + 1) mk f fd ["edges", "ways", "first"] spWalksM := by
  refine Fun.genM F scWk (fun vs H it dn rm h => ?_) (fun cdv A outer x H Hw vs i0 it dn rm hr h sHw room => ?_)
  · obtain ⟨ed, wa, us, n, L, first, wy, rfl, _⟩ := h
    rfl
  · obtain ⟨ed, wa, us, n, L, first, wy, rfl, eE, m24, wW, wlt, wle, L1, L40, fl, rfl, rfl, rfl⟩ := h
    have eE := eE.same sHw
    have wW := wW.same sHw
    refine ⟨_, Sg.gbs_cons (Sg.gb_plain (fun _ _ => PS.up (ps_set (i := 3) scWk.nd rfl (.inl rfl) (pe_callB call_len_seq (by rfl) T.len PySem.boot_len (pa_cons (pv 1) pa_nil)))))
      (Sg.gbs_cons (Sg.gb_plain (fun _ _ => PS.up (ps_set (i := 4) scWk.nd rfl (.inl rfl) (pe_ifExp (pt_cmpR op_in_seq (pv 2) (pe_ix ix_list (pe_ix ix_list (pv 1) (pe_op op_subN (pv 3) pe_int) (fun _ _ => rfl)) (pe_ix ix_tup (pe_ix ix_list (pv 0) (pv 2) (fun _ _ => rfl)) pe_int (fun _ _ => rfl)) (fun _ _ => rfl)) (by rfl))
        (pe_lst (pa_cons (pe_tup (pa_cons (pv 2) pa_nil)) pa_nil)) (pe_lst pa_nil)))))
      (Sg.gbs_one (Sg.gb_while (fun _ _ => PT.up (pt_truth (pv 4) (fun _ => rfl)))
        (Sg.gbs_cons (Sg.gb_plain (fun _ _ => PS.up (ps_set (i := 5) scWk.nd rfl (.inr rfl) (pe_bm0 PySem.F.plainAttrs_list PySem.F.slot_list_pop PySem.F.type_list_pop mt_pop (pv 4)))))
        (Sg.gbs_one (Sg.gb_if (fun _ _ => PT.up (pt_cmpR op_eq (pe_callB call_len_seq (by rfl) T.len PySem.boot_len (pa_cons (pv 5) pa_nil)) (pv 3) (nomark _)))
          (Sg.gbs_one (Sg.gb_yield (fun _ _ => PE.up (pv 5))))
          (Sg.gbs_cons (Sg.gb_plain (fun _ _ => PS.up (ps_set (i := 6) scWk.nd rfl (.inl rfl) (pe_ix ix_list (pe_ix ix_list (pv 1) (pe_op op_subN (pe_op op_subN (pv 3) (pe_callB call_len_seq (by rfl) T.len PySem.boot_len (pa_cons (pv 5) pa_nil))) pe_int) (fun _ _ => rfl)) (pe_ix ix_tup (pe_ix ix_list (pv 0) (pe_ix ix_tup (pv 5) (pe_un un_neg pe_int) (fun _ _ => rfl)) (fun _ _ => rfl)) pe_int (fun _ _ => rfl)) (fun _ _ => rfl)))))
          (Sg.gbs_one (Sg.gb_plain (fun _ _ => PS.up (ps_expr (pe_bm PySem.F.plainAttrs_list PySem.F.slot_list_extend PySem.F.type_list_extend mt_extend (pv 4) (pa_cons
            (pe_lc (own := [("number", 7)]) (g := gName 7) (tt := tYes) (te := tOp (rCatA K) (tVar 5) (tTup (tCons (tVar 7) tNil))) rfl scWk.nd (RT.pi_revA (by rfl) hv (pv 6)) (blkOk_by (N := NWk) (sc := defScope sWalks) (by decide +kernel))
              (fun _ _ _ _ _ => by exact pg_name (i := 7) scWk.nd rfl (Or.inl rfl)) (fun _ _ _ _ _ => pts_nil)
              (fun _ _ _ _ _ => by exact pe_op op_catA (pv 5) (pe_tup (pa_cons (pv 7) pa_nil)))) pa_nil))))))))))))), ?_⟩
    have wW' := wW
    obtain ⟨rs, r1, r2, r3⟩ := wW'.ex
    have r4 : (((rs.map V.ref).length : Nat) : Int) = (L : Int) := by rw [List.length_map, r2]
    intro _ _
    refine ⟨_, rfl, wa, _, rfl, .inl (SqL.of r1), ?_⟩
    rw [r4]
    obtain ⟨t, at2, et, hs, ht⟩ := eE.read fl
    obtain ⟨xs, a1, ys1, b1, w1, at1, w2, at4, w3⟩ := wW.read (r := L - 1) (by omega) hs
    intro _ _
    refine ⟨_, rfl, _, rfl, _, rfl, L, 1, rfl, rfl, L1, wa, xs, _, _, rfl, rfl, SqL.of w1, at1, _, rfl, _, rfl, ed, _, _, _, rfl, rfl, SqL.of eE.ls, at2, t, _, 0, _, rfl, rfl, SqT.of et, rfl, a1, ys1, _, _, rfl, rfl, SqL.of w2, at4, b1, _, rfl, .inl (SqL.of w3), rfl, flat_nW _, _, rfl, ?_⟩
    rw [in_nW]
    by_cases hm : first ∈ wy (L - 1) (srcE us first)
    · refine if_t (by rw [decide_eq_true hm]; rfl) ?_
      refine ⟨_, rfl, (by show 1 ≤ sizeLine; decide), fun u hu => ?_⟩
      have s1 := same_upd (o := .tup [.int (first : Int)]) hu
      have eu : upd Hw u (.tup [.int (first : Int)]) u = some (.tup (nW [first])) := upd_same
      have hW0 : ∀ Wt, upd Hw u (.tup [.int (first : Int)]) Wt = none → Hw Wt = none := fun Wt h => by
        by_cases e : Wt = u
        · rw [e]; exact hu
        · rw [upd_ne e] at h; exact h
      generalize upd Hw u (.tup [.int (first : Int)]) = H1 at *
      refine ⟨(by show 1 ≤ sizeLine; decide), fun Wt hW => ?_⟩
      have uW : u ≠ Wt := ne_of_none eu hW
      refine wk_whileM (as := [u]) (st := [[first]]) eE m24 wW wlt wle L40 room (s1.trans (same_upd hW)) (fun _ _ z => z) (s1.trans (same_upd hW)) (hW0 _ hW) (hW0 _ hW) upd_same ⟨by rw [upd_ne uW]; exact eu, True.intro⟩ (fun z hz => ?_) ⟨Nat.zero_le _, True.intro⟩ ?_
      · rw [List.mem_singleton.mp hz]
        exact ⟨by simp, L1, fun x hx => by rw [List.mem_singleton.mp hx]; exact fl⟩
      · unfold walksL
        rw [if_pos hm]
    · refine if_f (by rw [decide_eq_false hm]; rfl) ?_
      refine ⟨Nat.zero_le _, fun Wt hW => ?_⟩
      refine wk_whileM (as := []) (st := []) eE m24 wW wlt wle L40 room (same_upd hW) (fun _ _ z => z) (same_upd hW) hW hW upd_same True.intro (fun z hz => absurd hz List.not_mem_nil) True.intro ?_
      unfold walksL
      rw [if_neg hm]
      rfl
end
end Lw
end
section
namespace Lw
open PySem L2 Sf Sg PyProof.Rows GenW
theorem flat_at {α : Type} (F : Nat → List α) {k : Nat} {j : Nat} {x : α} (h : (F k)[j]? = some x) : ∀ {m : Nat}, k < m → ((List.range m).flatMap F)[((List.range k).flatMap F).length + j]? = some x := by
  intro m hm
  induction m with
  | zero => omega
  | succ m ih =>
    have e : (List.range (m + 1)).flatMap F = (List.range m).flatMap F ++ F m := by
      rw [List.range_succ, List.flatMap_append]
      simp
    rw [e]
    by_cases q : k = m
    · rw [q] at h ⊢
      rw [List.getElem?_append_right (Nat.le_add_right _ _), Nat.add_sub_cancel_left]
      exact h
    · have z := ih (by omega)
      rw [List.getElem?_append_left (List.getElem?_eq_some_iff.mp z).1]
      exact z
section
variable {J : L2.It} {n : Nat} {G : Hp → Prop} {Y : Nat → Hp → V → Hp → Prop}
theorem gforM_it (wk : Walk J n G Y) {g : Heap → Hp → TG} {tb : TGm} {D : GE} {i : Nat} {hw : Hp} {σ : L2.St} {H : Hp} (Pv : Nat → Nat → Hp → L2.St → Hp → Prop) (h0 : Pv 0 i hw σ H) (hG : ∀ k i hw σ H, k ≤ n → Pv k i hw σ H → G H)
    (hs : ∀ k x i hw σ H H', k < n → Pv k i hw σ H → Y k H x H' → ∀ h1 H1', g h1 H1' x σ H' fun σ2 H2 => tb { D with nx := Pv (k + 1), ct := Pv (k + 1), bk := D.nx } i hw σ2 H2) (hd : ∀ i hw σ H, Pv n i hw σ H → D.nx i hw σ H) :
    ∃ W : Nat → Nat → Nat → Hp → L2.St → Hp → Prop, (∃ m, W 0 m i hw σ H) ∧ ∀ k m i hw σ H, W k m i hw σ H →
      (J.stop k H ∧ D.nx i hw σ H) ∨ (J.go k H ∧ ∃ N : Nat → Hp → L2.St → Hp → Prop, (∀ i' hw' σ' H', N i' hw' σ' H' → ∃ m', m' < m ∧ W (k + 1) m' i' hw' σ' H') ∧ ∀ v H', J.yld k H v H' → ∀ h1 H1', g h1 H1' v σ H' fun σ2 H2 => tb { D with nx := N, ct := N, bk := D.nx } i hw σ2 H2) := by
  refine ⟨fun k m i hw σ H => m + k = n ∧ Pv k i hw σ H, ⟨n, rfl, h0⟩, fun k m i hw σ H ⟨hm, p⟩ => ?_⟩
  have q := hG k i hw σ H (by omega) p
  rcases Nat.lt_or_ge k n with hlt | hge
  · exact .inr ⟨wk.goes k H hlt q, Pv (k + 1), fun i' hw' σ' H' p' => ⟨m - 1, by omega, by omega, p'⟩, fun x H' y => hs k x i hw σ H H' hlt p (wk.yields k H x H' hlt q y)⟩
  · obtain rfl : k = n := by omega
    exact .inl ⟨wk.stops H q, hd i hw σ H p⟩
end
end Lw
end
section
namespace Lw
open PySem L2 Sf Sg PyProof.Rows GenW
def spClosedM (C : Addr) : SpM := fun vs H it dn rm => ∃ (g : Addr) (n : Nat) (us : Es) (L : Nat), vs = [.ref g, .int (L : Int)] ∧ GrN C H g n us ∧ 1 ≤ L ∧ L ≤ 40 ∧ it = itL (closedTo us L us.length) ∧ dn = dnL (closedTo us L us.length) ∧ rm = (closedTo us L us.length).length + 1
section
variable {P : Program} {w : World} {K : PySem.W.Frag} {mg : Str → Option Value} {base : Heap} {f : Addr} {fd : FuncData} {k : Nat} {C : Addr}
set_option maxHeartbeats 8000000 in
theorem ok_closedM (F : Fun K "closed_paths" "closed_paths" sClosed f fd) (T : Bi mg) (te : mg "enumerate" = none) {tk : Tok} (mx : mg "MAX_LENGTH" = some (.int 40 tk)) (cL : C8.Cal P w K mg base 1 "check_length" spLenIn []) (mE : C8.Met P w K mg base 1 C "edges" (spEdges C) []) (pS : Prp P w K mg base 1 C "states" (spStates C))
    (cW : C8.Cal P w K mg base 5 "ways_to" (spWaysTo C) []) (cG : CalGM P w K mg base 1 True "walks" spWalksM) : GFnM P w K mg base (k + 6) False f fd ["graph", "length"] (spClosedM C) := by
  obtain ⟨fw, fdw, psw, Fw, mw, kw, bw⟩ := cG
  refine Fun.genM F scCl9 (fun vs H it dn rm h => ?_) (fun cdv A outer x Hc H vs i0 it dn rm hr h sHw room => ?_)
  · obtain ⟨g, n, us, L, rfl, _⟩ := h
    rfl
  · obtain ⟨g, n, us, L, rfl, G, L1, L40, rfl, rfl, rfl⟩ := h
    have G := G.same sHw
    refine ⟨_, Sg.gbs_cons (Sg.gb_plain (fun _ _ => PS.up (ps_expr (C8.pe_c cL hr (by omega) (by rfl) (pa_cons (pv 1) (pa_cons (pe_glob (v := .int 40) (by rfl) mx ⟨_, rfl⟩) pa_nil))))))
      (Sg.gbs_cons (Sg.gb_plain (fun _ _ => PS.up (ps_set (i := 2) scCl9.nd rfl (.inl rfl) (C8.pe_mt0 mE hr (by omega) (pv 0)))))
      (Sg.gbs_cons (Sg.gb_plain (fun _ _ => PS.up (ps_setLc (i := 3) (own := [("state", 8)]) (g := gName 8) (tt := tYes) (te := tCall (spWaysTo C) [] C8.E0 (tCons (tVar 0) (tCons (tVar 1) (tCons (tLst (tCons (tVar 8) tNil)) tNil)))) rfl scCl9.nd rfl rfl (sw_true rfl rfl rfl (by decide +kernel)) (pi_range1 (by rfl) T.range (pa_cons (pe_pr pS hr (by omega) (pv 0)) pa_nil))
        (blkOk_by (N := NCl) (sc := defScope sClosed) (by decide +kernel)) (fun _ _ _ _ _ => by exact pg_name (i := 8) scCl9.nd rfl (Or.inl rfl)) (fun _ _ _ _ _ => pts_nil)
        (fun _ _ _ _ _ => by exact C8.pe_c cW hr (by omega) (by rfl) (pa_cons (pv 0) (pa_cons (pv 1) (pa_cons (pe_lst (pa_cons (pv 8) pa_nil)) pa_nil)))))))
      (Sg.gbs_one (Sg.gb_for (fun _ _ z => z) rfl (fun _ _ => pi_enumA (by rfl) te (pa_cons (pv 2) pa_nil)) (fun _ _ => pg_tup rfl (pgs_cons (pg_name (i := 4) scCl9.nd rfl (.inl rfl)) (pgs_cons (pg_tup rfl (pgs_cons (pg_name (i := 5) scCl9.nd rfl (.inl rfl)) (pgs_cons (pg_name (i := 6) scCl9.nd rfl (.inl rfl)) pgs_nil))) pgs_nil)))
        (Sg.gbs_cons (Sg.gb_plain (fun _ _ => PS.up (ps_set (i := 7) scCl9.nd rfl (.inl rfl) (pe_ix ix_list (pv 3) (pv 5) (fun _ _ => rfl)))))
        (Sg.gbs_one (Sg.gb_yf (fun _ _ => pgm_call Fw (hr.mono (by omega)) (by rfl) mw kw bw .nil (pa_cons (pv 2) (pa_cons (pv 7) (pa_cons (pv 4) pa_nil)))) rfl (hr.mono (by omega))))))))), ?_⟩
    obtain ⟨⟨dx, t0, h1, h2⟩, ed⟩ := id G.gr
    have n8 := G.n8
    intro _ _
    refine ⟨_, rfl, (L : Int), 40, rfl, by omega, by omega, ?_⟩
    intro _ _
    refine ⟨_, rfl, g, dx, _, rfl, h1, look_no _ _ (by decide +kernel) (by decide +kernel), g, n, us, rfl, G.gr, fun p hp => ?_⟩
    have s1 := same_upd (o := .lst (vsOf us)) hp
    have e1 : upd H p (.lst (vsOf us)) p = some (.lst (vsOf us)) := upd_same
    generalize upd H p (.lst (vsOf us)) = H1 at *
    have G1 := G.same s1
    intro _ _
    refine ⟨_, rfl, g, dx, _, rfl, s1 _ _ h1, g, n, us, rfl, G1.gr, _, rfl, by omega, by omega, fun HM hHM => ?_⟩
    refine lc_it (walk_range (lo := 0) (n := ((n : Nat) : Int).toNat)) (fun i H' => ∃ ts : List Addr, Same H1 H' ∧ H' HM = some (.lst (ts.map V.ref)) ∧ ts.length = i ∧ ∀ (s : Nat) (wa : Addr), ts[s]? = some wa → ∀ o : HO, WaysAt (upd H' HM o) wa L n (wyF us [s])) ⟨[], same_upd hHM, upd_same, rfl, fun s b e => by simp at e⟩ (fun _ _ _ _ => True.intro) ?_ ?_
    · rintro i x H2 H3 hi ⟨ts, s2, e2, tl, tv⟩ ⟨rfl, hx⟩
      have hx : x = .int (i : Int) := by
        rw [hx]
        show V.int (0 + (i : Int)) = _
        rw [Int.zero_add]
      subst hx
      have hi : i < n := by omega
      refine ⟨rfl, ?_⟩
      refine ⟨_, rfl, _, rfl, _, rfl, (by show 1 ≤ sizeLine; decide), fun u hu => ?_⟩
      have s3 := same_upd (o := .lst [.int (i : Int)]) hu
      have eu : upd H3 u (.lst [.int (i : Int)]) u = some (.lst (nW [i])) := upd_same
      generalize upd H3 u (.lst [.int (i : Int)]) = H4 at *
      refine ⟨g, u, n, us, L, [i], rfl, G1.same (s2.trans s3), eu, L1, L40, fun wa H5 s5 wW => ?_⟩
      have e5 := s5 _ _ (s3 _ _ e2)
      refine ⟨_, e5, by rw [List.length_map, tl]; exact small1000 (by omega), ts ++ [wa], fun c o e => ?_, ?_, by rw [List.length_append, tl]; rfl, fun s c e => ?_⟩
      · rw [upd_ne (ne_of_none e hHM)]
        exact s5 _ _ (s3 _ _ (s2 _ _ e))
      · rw [upd_same, List.map_append]; rfl
      · intro o
        rw [upd_two]
        by_cases hs : s < ts.length
        · rw [List.getElem?_append_left hs] at e
          exact (tv s c e o).same (same_off (s3.trans s5) HM o)
        · rw [List.getElem?_append_right (by omega)] at e
          have h0 : s = ts.length := by
            have := (List.getElem?_eq_some_iff.mp e).1
            simp at this
            omega
          subst h0
          rw [Nat.sub_self] at e
          cases e
          rw [tl]
          exact wW.off (s3 _ _ e2)
    rintro H2 ⟨ts, s2, eHM, tl, tv⟩
    rw [Int.toNat_natCast] at tl
    have G2 := G1.same s2
    have tv' : ∀ (s : Nat) (wa : Addr), ts[s]? = some wa → WaysAt H2 wa L n (wyF us [s]) := fun s wa e => by
      have z := tv s wa e (.lst (ts.map V.ref))
      rw [upd_own eHM] at z
      exact z
    have eE : EdL H2 p n us := ⟨s2 _ _ e1, G2.gr.ed, G.rg⟩
    have s0 := s1.trans s2
    intro _ _
    refine ⟨_, rfl, p, vsOf us, SqL, rfl, .inl rfl, SqL.of eE.ls, fun J wk => ?_⟩
    have lv : (vsOf us).length = us.length := by unfold vsOf; rw [List.length_map]
    refine gforM_it wk (fun k i hw σ H' => ∃ (v4 v5 v6 v7 : Option V), σ = [some (.ref g), some (.int (L : Int)), some (.ref p), some (.ref HM), v4, v5, v6, v7, none] ∧ Same H2 H' ∧ Same hw H' ∧ i = i0 + (closedTo us L k).length) ⟨none, none, none, none, rfl, fun _ _ z => z, s0, rfl⟩ (fun k i hw σ H' _ pp => by obtain ⟨_, _, _, _, _, z, _⟩ := pp; exact SqL.of (z _ _ eE.ls)) ?_ ?_
    · rintro i x ii hw σ H3 H' hi ⟨v4, v5, v6, v7, rfl, s3, sw, rfl⟩ ⟨Ta, x, y, rfl, hT, rfl, gx, gy⟩
      obtain ⟨ee, hee, rfl⟩ := vsOf_at gy
      have ex : x = .int (i : Nat) := (Option.some.inj gx).symm
      subst ex
      rw [lv] at hi
      have sT := same_upd (o := .tup [.int (i : Nat), .ref ee.1]) hT
      have s4 := s3.trans sT
      obtain ⟨t, at2, et, hs, ht⟩ := (eE.same s4).read hi
      have ht1 : t = ee.1 := by
        have z : atI (vsOf us) (i : Int) = some (.ref ee.1) := atI_nat (by unfold vsOf; rw [List.getElem?_map, hee]; rfl)
        rw [z] at at2
        cases at2
        rfl
      subst ht1
      have sw := sw.trans sT
      intro _ _
      refine ⟨Ta, _, rfl, SqT.of upd_same, rfl, _, _, rfl, _, _, rfl, ⟨ee.1, _, rfl, SqT.of et, rfl, _, _, rfl, _, _, rfl, rfl, ?_⟩⟩
      refine ⟨rfl, ?_⟩
      generalize upd H3 Ta (.tup [.int (i : Nat), .ref ee.1]) = H4 at *
      obtain ⟨wa, hwa⟩ : ∃ wa, ts[srcE us i]? = some wa := ⟨_, List.getElem?_eq_getElem (by omega)⟩
      intro _ _
      refine ⟨_, rfl, _, rfl, HM, _, _, .ref wa, rfl, rfl, SqL.of (s4 _ _ eHM), atI_nat (by rw [List.getElem?_map, hwa]; rfl), ?_⟩
      have le := closedTo_le us L (i := i + 1) (m := us.length) hi
      rw [closedTo_succ, List.length_append] at le
      intro _ _
      refine ⟨_, rfl, _, rfl, _, rfl, _, _, _, ⟨p, wa, us, n, L, i, _, rfl, eE.same s4, G.m24, (tv' _ _ hwa).same s4, fun r s x hx => wyF_lt hx, fun r s => wyF_len us _ r s, L1, L40, hi, rfl, rfl, rfl⟩, sw, by omega, fun j v G' sG hj => ?_, fun j G' hd => ?_, fun j hw' G' s5 s6 s7 hd => ?_⟩
      · obtain ⟨a, s, q1, q2, q3⟩ := hj
        refine ⟨by omega, a, s, ?_, q2, q3⟩
        rw [show i0 + (closedTo us L i).length + j - i0 = (closedTo us L i).length + j by omega]
        exact flat_at (fun first => walksL (wyF us [srcE us first]) (srcE us) (tgtE us) L first) q1 hi
      · have hd : j = (walksL (wyF us [srcE us i]) (srcE us) (tgtE us) L i).length := hd
        omega
      · have hd : j = (walksL (wyF us [srcE us i]) (srcE us) (tgtE us) L i).length := hd
        refine ⟨_, _, _, _, rfl, s4.trans s7, s6, ?_⟩
        rw [closedTo_succ, List.length_append, hd]
        omega
    · rintro i hw σ H4 ⟨v4, v5, v6, v7, rfl, s4, sw, rfl⟩
      exact ⟨sw, Nat.le_add_right _ _, by show _ - i0 = _; rw [Nat.add_sub_cancel_left, lv]⟩
end
end Lw
end
section
namespace Lw
open PySem L2
theorem e_src {n : Nat} {us : Es} (rg : ∀ e ∈ us, 0 ≤ e.2.1 ∧ e.2.1 < n ∧ 0 ≤ e.2.2 ∧ e.2.2 < n) {i : Nat} {e : Addr × Int × Int} (h : us[i]? = some e) : e.2.1 = ((srcE us i : Nat) : Int) ∧ e.2.2 = ((tgtE us i : Nat) : Int) := by
  obtain ⟨h1, _, h3, _⟩ := rg e (List.mem_of_getElem? h)
  unfold srcE tgtE
  rw [h]
  exact ⟨(Int.toNat_of_nonneg h1).symm, (Int.toNat_of_nonneg h3).symm⟩
theorem same_at {H H1 : Hp} {a : Addr} {o : HO} (s : Same H H1) (h : H a = none) : Same H (upd H1 a o) := fun c u e => by
  rw [upd_ne (ne_of_none e h)]
  exact s c u e
theorem nW_app (p q : List Nat) : nW (p ++ q) = nW p ++ nW q := by
  unfold nW
  rw [List.map_append]
end Lw
end
section
namespace Lw
open PySem L2 PyProof.Rows
theorem PlanAt.rgN {H : Hp} {p q : Addr} {n : Nat} {ts : Es} (h : PlanAt H p q (n : Int) ts) : ∀ e ∈ ts, 0 ≤ e.2.1 ∧ e.2.1 < n ∧ 0 ≤ e.2.2 ∧ e.2.2 < n := h.va.rg
theorem PlanAt.edL {H : Hp} {p q : Addr} {n : Nat} {ts : Es} (h : PlanAt H p q (n : Int) ts) : EdL H q n ts := ⟨h.ls, h.ed, h.rgN⟩
theorem lev_le (ts : Es) : ∀ r, (levP (lvF ts) (tgtE ts) ts.length r).length ≤ ts.length ^ (r + 1)
  | 0 => by
    show ((List.range ts.length).map _).length ≤ _
    rw [List.length_map, List.length_range, Nat.pow_one]
    exact Nat.le_refl _
  | r + 1 => by
    show ((levP (lvF ts) (tgtE ts) ts.length r).flatMap (extP (lvF ts) (tgtE ts))).length ≤ _
    rw [List.length_flatMap]
    have h : ∀ ps : List (List Nat), (ps.map fun q => (extP (lvF ts) (tgtE ts) q).length).sum ≤ ps.length * ts.length := by
      intro ps
      induction ps with
      | nil => exact Nat.zero_le _
      | cons q ps ih =>
        rw [List.map_cons, List.sum_cons, List.length_cons, Nat.add_mul, Nat.one_mul]
        have : (extP (lvF ts) (tgtE ts) q).length ≤ ts.length := by
          unfold extP
          rw [List.length_map]
          exact lvF_len ts _
        omega
    refine Nat.le_trans (h _) ?_
    rw [Nat.pow_succ]
    exact Nat.mul_le_mul_right _ (lev_le ts r)
def spAft : Sp := fun vs H Q _ => ∃ (p q : Addr) (n : Nat) (ts : Es) (e : Nat), vs = [.ref p, .int (e : Int)] ∧ PlanAt H p q (n : Int) ts ∧ e < ts.length ∧ ts.length ≤ 24 ∧ ∀ D H', Same H H' → H D = none → H' D = some (.lst (nW (lvF ts (tgtE ts e)))) → Q (.ref D) H'
section
variable {P : Program} {w : World} {K : PySem.W.Frag} {mg : Str → Option Value} {base : Heap} {f CG : Addr} {fd : FuncData} {k : Nat}
theorem scAft : FnScope ["_law_plan_here", "_law_edge", "_law_number"] ["_law_plan_here", "_law_edge"] (defScope sAft) := ⟨rfl, rfl, rfl, by decide +kernel, rfl, by decide +kernel, by decide +kernel⟩
set_option maxHeartbeats 4000000 in
theorem ok_aft (F : Fun K "_law_after" "_law_after" sAft f fd) (T : Bi mg) : FnOk P w K mg base CX0 (k + 1) f fd ["_law_plan_here", "_law_edge"] spAft := by
  refine F.ok scAft (fun vs H Q E h => ?_) (fun cdv A outer s H vs Q E hr h => ?_)
  · obtain ⟨p, q0, n, ts, e, rfl, _⟩ := h
    rfl
  · obtain ⟨p, q0, n, ts, e, rfl, PA, he, hl, q⟩ := h
    refine ⟨_, pss_one (ps_ret (pe_lc (own := [("_law_number", 2)]) (g := gName 2) (tt := tTest (tOp rEq (tOp (rIxT K) (tOp (rIxL K) (tOp (rIxT K) (tVar 0) (tC (.int 1))) (tVar 2)) (tC (.int 0))) (tOp (rIxT K) (tOp (rIxL K) (tOp (rIxT K) (tVar 0) (tC (.int 1))) (tVar 1)) (tC (.int 1))))) (te := tVar 2) rfl scAft.nd
          (pi_range1 (by rfl) T.range (pa_cons (pe_callB call_len_seq (by rfl) T.len PySem.boot_len (pa_cons (pe_ix ix_tup (pv 0) pe_int (fun _ _ => rfl)) pa_nil)) pa_nil))
          (blkOk_by (N := ["_law_plan_here", "_law_edge", "_law_number"]) (sc := defScope sAft) (by decide +kernel))
          (fun _ _ _ _ _ => by exact pg_name (i := 2) scAft.nd rfl (Or.inl rfl))
          (fun _ _ _ _ _ => by exact pts_one (pt_cmpR op_eq (pe_ix ix_tup (pe_ix ix_list (pe_ix ix_tup (pv 0) pe_int (fun _ _ => rfl)) (pv 2) (fun _ _ => rfl)) pe_int (fun _ _ => rfl)) (pe_ix ix_tup (pe_ix ix_list (pe_ix ix_tup (pv 0) pe_int (fun _ _ => rfl)) (pv 1) (fun _ _ => rfl)) pe_int (fun _ _ => rfl)) (nomark _)))
          (fun _ _ _ _ _ => by exact pv 2))), ?_⟩
    refine ⟨_, rfl, p, _, _, _, rfl, rfl, SqT.of PA.tp, rfl, q0, _, rfl, .inl (SqL.of PA.ls), _, rfl, by omega, by rw [vsOf_len]; omega, fun D hD => ?_⟩
    refine lc_it (walk_range (lo := 0) (n := (((vsOf ts).length : Nat) : Int).toNat)) (fun i H' => Same H H' ∧ H' D = some (.lst (nW (lvM ts i (tgtE ts e))))) ⟨same_upd hD, upd_same⟩ (fun _ _ _ _ => True.intro) ?_ ?_
    · rintro i z H1 H' hi ⟨sm, eD⟩ ⟨rfl, hz⟩
      rw [Int.toNat_natCast, vsOf_len] at hi
      have hz : z = .int (i : Int) := by
        rw [hz]
        show V.int (0 + (i : Int)) = _
        rw [Int.zero_add]
      subst hz
      obtain ⟨t1, a1, b1, c1, d1⟩ := (PA.edL.same sm).read hi
      obtain ⟨t2, a2, b2, c2, d2⟩ := (PA.edL.same sm).read he
      refine ⟨rfl, ?_⟩
      refine ⟨_, rfl, p, _, _, _, rfl, rfl, SqT.of (sm _ _ PA.tp), rfl, _, rfl, q0, _, _, _, rfl, rfl, SqL.of (sm _ _ PA.ls), a1, t1, _, _, _, rfl, rfl, SqT.of b1, rfl, ?_⟩
      refine ⟨_, rfl, p, _, _, _, rfl, rfl, SqT.of (sm _ _ PA.tp), rfl, _, rfl, q0, _, _, _, rfl, rfl, SqL.of (sm _ _ PA.ls), a2, t2, _, _, _, rfl, rfl, SqT.of b2, rfl, ?_⟩
      refine ⟨rfl, _, rfl, ?_⟩
      rw [lvM_succ]
      by_cases hc : srcE ts i = tgtE ts e
      · rw [if_pos hc]
        refine if_t (decide_eq_true (by rw [hc])) ⟨_, rfl, _, eD, ?_, ?_, ?_⟩
        · rw [nW_len]
          refine small1000 ?_
          unfold lvM
          have := List.length_filter_le (fun x => srcE ts x == tgtE ts e) (List.range i)
          rw [List.length_range] at this
          omega
        · exact fun b o eb => by
            rw [upd_ne (ne_of_none eb hD)]
            exact sm _ _ eb
        · rw [upd_same, nW_snoc]
      · rw [if_neg hc, List.append_nil]
        exact if_f (decide_eq_false (fun z => hc (by injection z with z; omega))) ⟨sm, eD⟩
    · rintro H1 ⟨sm, eD⟩
      rw [Int.toNat_natCast, vsOf_len] at eD
      exact q D H1 sm hD eD
end
end Lw
end
section
set_option maxHeartbeats 1000000
namespace Sf
open PySem PySem.W L2 PyProof.Rows
structure Cal (P : Program) (w : World) (K : PySem.W.Frag) (mg : Str → Option Value) (base : Heap) (k : Nat) (x : Str) (sp : Sp) (dvs : List V) : Prop where
  ex : ∃ (f : Addr) (fd : FuncData) (ps : List Str) (ds : List Value), FnS P w K mg base CX0 k f fd ps sp ∧ mg x = some (.ref f) ∧ PySem.W.keepIn K (.ref f) = true ∧ Binds K fd ps ds ∧ Vals dvs ds
section
variable {X : Cx} {k j : Nat} {C : Addr} {x m : Str} {sp : Sp} {dvs : List V} {p pos apos : Pos} {e o : Expr} {es : List Expr} {ta te : TE} {t : TA}
theorem qe_c (c : Cal X.prog X.w X.K X.mg X.base k x sp dvs) (hr : Room j X.A) (hk : k ≤ j) (hg : Gl X x) (ha : QA X (e :: es) t)
    (hdb : (x == ("__debug__" : Str)) = false := by decide) (he : starEach (e :: es) X.env = (false, eval e X.env) :: starEach es X.env := by rfl) (hpl : (backTo pos (starEach es X.env)).any (·.1) = false := by rfl) :
    QE X (.Call (.Name x p) (e :: es) [] pos) (tCall sp dvs E0 t) := by
  obtain ⟨f, fd, ps, ds, F, q1, q2, q3, q4⟩ := c.ex
  exact qe_call F (hr.mono hk) hg q1 q2 q3 q4 pass0 ha hdb he hpl
end
end Sf
end
section
namespace Lw
open PySem L2 PyProof.Rows
theorem off_lst {H H' : Hp} {b c : Addr} {xs : List V} {o : HO} (hb : H b = some (.lst xs)) (k : KeepB b H H') (h : H c = some o) (ne : o ≠ .lst xs) : H' c = some o := k c o (fun z => by rw [z, hb] at h; exact ne (Option.some.inj h).symm) h
theorem GrN.off {C : Addr} {H H' : Hp} {g b : Addr} {n : Nat} {us : Es} {xs : List V} (h : GrN C H g n us) (hb : H b = some (.lst xs)) (k : KeepB b H H') : GrN C H' g n us := by
  obtain ⟨⟨⟨dx, t, h1, h2⟩, ed⟩, a, b1, c, d⟩ := h
  exact ⟨⟨⟨dx, t, off_lst hb k h1 nofun, off_lst hb k h2 nofun⟩, fun e he => off_lst hb k (ed e he) nofun⟩, a, b1, c, d⟩
theorem TW.at {H : Hp} : ∀ {as : List Addr} {st : List (List Nat)}, TW H as st → ∀ {i : Nat} {s : List Nat}, st[i]? = some s → ∃ a, as[i]? = some a ∧ H a = some (.tup (nW s))
  | [], [], _, i, s, h => by simp at h
  | a :: as, p :: st, h, 0, s, e => by
    cases e
    exact ⟨a, rfl, h.1⟩
  | a :: as, p :: st, h, i + 1, s, e => TW.at h.2 (i := i) e
theorem Fun.okS {P : Program} {w : World} {K : PySem.W.Frag} {mg : Str → Option Value} {base : Heap} {x qual : Str} {st : Stmt} {f : Addr} {fd : FuncData} {N ps : List Str} {k : Nat} {sp : Sp} (F : Fun K x qual st f fd) (S : FnScope N ps (defScope st)) (len : ∀ vs H Q E, sp vs H Q E → vs.length = ps.length)
    (hbody : ∀ (cdv : Value) (A : Around) (outer : List Env) (s : Shared) (H : Hp) (vs : List V) (Q : VK) (E : XK), Room k (A.deeper (envOfC qual (defScope st) s.heap.objs.size f cdv)) → sp vs H Q E →
      ∃ t, Sf.QSs (cxOf CX0 P w K mg base N qual (defScope st) f cdv A outer s H E).nox (defBody st) t ∧ t { nx := fun _ H' => Q .non H', rt := Q } (L2.start N vs) H) : Sf.FnS P w K mg base CX0 (k + 1) f fd ps sp := by
  obtain ⟨oc, od, kV, doc, pm, an, cdv, ct, osl, rfl, lk, hcd⟩ := F.ex
  refine Sf.fnS_of lk hcd S len fun A outer s H vs Q E hr hsp => ?_
  obtain ⟨t, h, q⟩ := hbody cdv A outer s H vs Q E hr hsp
  exact ⟨t, ⟨fun S pins x σ H D I hw => (h.run S pins x σ H D (I.wish _) hw).imp (fun _ _ q => q.unwish) fun _ _ z => False.elim z⟩, q⟩
end Lw
end
section
namespace Lw
open PySem L2 PyProof.Rows
theorem TW.snoc {H : Hp} {as : List Addr} {st : List (List Nat)} {a : Addr} {s : List Nat} (h : TW H as st) (e : H a = some (.tup (nW s))) : TW H (as ++ [a]) (st ++ [s]) := h.app ⟨e, True.intro⟩
theorem lev_five {ts : Es} (m24 : ts.length ≤ 24) {r : Nat} (h : r ≤ 4) : (levP (lvF ts) (tgtE ts) ts.length r).length ≤ 7962624 := by
  refine Nat.le_trans (lev_le ts r) (Nat.le_trans (Nat.pow_le_pow_left m24 _) ?_)
  exact Nat.le_trans (Nat.pow_le_pow_right (by decide) (show r + 1 ≤ 5 by omega)) (by decide)
def spPthsW : Sp := fun vs H Q _ => ∃ (p q : Addr) (n : Nat) (ts : Es) (L : Nat), vs = [.ref p, .int (L : Int)] ∧ PlanAt H p q (n : Int) ts ∧ ts.length ≤ 24 ∧ 1 ≤ L ∧ L ≤ 5 ∧
  ∀ D as H', Same H H' → H D = none → H' D = some (.lst (as.map V.ref)) → TW H' as (win ts L) → Q (.ref D) H'
section
variable {P : Program} {w : World} {K : PySem.W.Frag} {mg : Str → Option Value} {base : Heap} {f CG : Addr} {fd : FuncData} {k : Nat}
theorem scPths : FnScope ["_law_plan_here", "_law_size", "_law_found", "_law_turn", "_law_longer", "_law_path", "_law_number"] ["_law_plan_here", "_law_size"] (defScope sPths) := ⟨rfl, rfl, rfl, by decide +kernel, rfl, by decide +kernel, by decide +kernel⟩
set_option maxHeartbeats 8000000 in
theorem ok_pthsW (F : Fun K "_law_paths" "_law_paths" sPths f fd) (T : Bi mg) (cA : C8.Cal P w K mg base 1 "_law_after" spAft []) : FnOk P w K mg base CX0 (k + 2) f fd ["_law_plan_here", "_law_size"] spPthsW := by
  refine F.ok scPths (fun vs H Q E h => ?_) (fun cdv A outer s H vs Q E hr h => ?_)
  · obtain ⟨p, q0, n, ts, L, rfl, _⟩ := h
    rfl
  · obtain ⟨p, q0, n, ts, L, rfl, PA, m24, l1, l4, q⟩ := h
    refine ⟨_, pss_cons (ps_setLc (i := 2) (own := [("_law_number", 6)]) (g := gName 6) (tt := tYes) (te := tTup (tCons (tVar 6) tNil)) rfl scPths.nd rfl rfl (sw_true rfl rfl rfl (by decide +kernel))
          (pi_range1 (by rfl) T.range (pa_cons (pe_callB call_len_seq (by rfl) T.len PySem.boot_len (pa_cons (pe_ix ix_tup (pv 0) pe_int (fun _ _ => rfl)) pa_nil)) pa_nil)) (blkOk_by (N := ["_law_plan_here", "_law_size", "_law_found", "_law_turn", "_law_longer", "_law_path", "_law_number"]) (sc := defScope sPths) (by decide +kernel))
          (fun _ _ _ _ _ => by exact pg_name (i := 6) scPths.nd rfl (Or.inl rfl)) (fun _ _ _ _ _ => pts_nil) (fun _ _ _ _ _ => by exact pe_tup (pa_cons (pv 6) pa_nil)))
      (pss_cons (ps_for PassesOwn.never rfl (pi_range1 (by rfl) T.range (pa_cons (pe_op op_sub (pv 1) pe_int) pa_nil)) (pg_name (i := 3) scPths.nd rfl (.inl rfl))
        (pss_cons (ps_set (i := 4) scPths.nd rfl (.inl rfl) (pe_lst pa_nil))
        (pss_cons (ps_for PassesOwn.never rfl (pi_seqA (pv 2)) (pg_name (i := 5) scPths.nd rfl (.inr rfl))
          (pss_one (ps_set (i := 4) scPths.nd rfl (.inl rfl) (pe_op op_cat (pv 4) (pe_lc (own := [("_law_number", 6)]) (g := gName 6) (tt := tYes) (te := tOp (rCatA K) (tVar 5) (tTup (tCons (tVar 6) tNil))) rfl scPths.nd
              (pi_seqA (C8.pe_c cA hr (by omega) (by rfl) (pa_cons (pv 0) (pa_cons (pe_ix ix_tup (pv 5) (pe_un un_neg pe_int) (fun _ _ => rfl)) pa_nil)))) (blkOk_by (N := ["_law_plan_here", "_law_size", "_law_found", "_law_turn", "_law_longer", "_law_path", "_law_number"]) (sc := defScope sPths) (by decide +kernel))
              (fun _ _ _ _ _ => by exact pg_name (i := 6) scPths.nd rfl (Or.inl rfl)) (fun _ _ _ _ _ => pts_nil) (fun _ _ _ _ _ => by exact pe_op op_catA (pv 5) (pe_tup (pa_cons (pv 6) pa_nil))))))))
        (pss_one (ps_set (i := 2) scPths.nd rfl (.inl rfl) (pv 4))))))
      (pss_one (ps_ret (pv 2)))), ?_⟩
    refine ⟨_, rfl, p, _, _, _, rfl, rfl, SqT.of PA.tp, rfl, q0, _, rfl, .inl (SqL.of PA.ls), _, rfl, by omega, by rw [vsOf_len]; omega, fun D hD => ?_⟩
    refine lc_it (walk_range (lo := 0) (n := (((vsOf ts).length : Nat) : Int).toNat)) (fun i H' => ∃ as : List Addr, Same H H' ∧ H' D = some (.lst (as.map V.ref)) ∧ TW H' as ((List.range i).map fun e => [e])) ⟨[], same_upd hD, upd_same, True.intro⟩ (fun _ _ _ _ => True.intro) ?_ ?_
    · rintro i z H1 H2 hi ⟨as, sm, eD, tw⟩ ⟨rfl, hz⟩
      rw [Int.toNat_natCast, vsOf_len] at hi
      have hz : z = .int (i : Int) := by
        rw [hz]
        show V.int (0 + (i : Int)) = _
        rw [Int.zero_add]
      subst hz
      have al := tw.len
      rw [List.length_map, List.length_range] at al
      refine ⟨rfl, ?_⟩
      refine ⟨_, rfl, (by show 1 ≤ sizeLine; decide), fun u hu => ?_⟩
      have su := same_upd (o := .tup [.int (i : Int)]) hu
      have eD2 := su _ _ eD
      refine ⟨_, eD2, by rw [List.length_map, al]; exact small1000 (by omega), as ++ [u], same_at (sm.trans su) hD, by rw [upd_same, List.map_append]; rfl, ?_⟩
      rw [List.range_succ, List.map_append]
      exact TW.off eD2 ((tw.same su).snoc upd_same)
    · rintro H1 ⟨as, s1, eD, tw⟩
      rw [Int.toNat_natCast, vsOf_len] at tw
      have tw : TW H1 as (levP (lvF ts) (tgtE ts) ts.length 0) := tw
      refine ⟨_, rfl, _, _, rfl, rfl, (L : Int) - 1, rfl, by omega, by omega, ?_⟩
      refine for_it (walk_range (lo := 0) (n := ((L : Int) - 1).toNat)) (fun i σ H' => ∃ (v3 v4 v5 : Option V) (Fd : Addr) (as : List Addr), σ = [some (.ref p), some (.int (L : Int)), some (.ref Fd), v3, v4, v5, none] ∧ Same H H' ∧ H Fd = none ∧ H' Fd = some (.lst (as.map V.ref)) ∧ TW H' as (levP (lvF ts) (tgtE ts) ts.length i))
        ⟨none, none, none, D, as, rfl, s1, hD, eD, tw⟩ (fun _ _ _ _ _ => True.intro) ?_ ?_
      · rintro i z σ H2 H3 hi ⟨v3, v4, v5, Fd, as, rfl, s2, nF, eF, tw⟩ ⟨rfl, hz⟩
        have hi : i + 1 ≤ 4 := by omega
        refine ⟨(by show 0 ≤ sizeLine; exact Nat.zero_le _), fun G hG => ?_⟩
        have sG := same_upd (o := .lst []) hG
        have nG : H G = none := s2.free hG
        refine ⟨_, rfl, Fd, _, SqL, rfl, .inl rfl, SqL.of (sG _ _ eF), fun J wk => ?_⟩
        have eG : upd H3 G (.lst []) G = some (.lst []) := upd_same
        generalize upd H3 G (.lst []) = H4 at *
        refine for_it wk (fun j σ H' => ∃ (v5 : Option V) (G : Addr) (bs : List Addr), σ = [some (.ref p), some (.int (L : Int)), some (.ref Fd), some z, some (.ref G), v5, none] ∧ Same H4 H' ∧ H G = none ∧ H' G = some (.lst (bs.map V.ref)) ∧ TW H' bs (((levP (lvF ts) (tgtE ts) ts.length i).take j).flatMap (extP (lvF ts) (tgtE ts))))
          ⟨_, G, [], rfl, fun _ _ z => z, nG, eG, True.intro⟩ (fun j σ H' _ q => by obtain ⟨_, _, _, _, s, _⟩ := q; exact SqL.of (s _ _ (sG _ _ eF))) ?_ ?_
        · rintro j x σ H5 H6 hj ⟨v5, G, bs, rfl, s5, nG, eG, tb⟩ ⟨rfl, gx⟩
          rw [List.length_map, tw.len] at hj
          obtain ⟨a, ha, ea⟩ := TW.at (tw.same (sG.trans s5)) (List.getElem?_eq_getElem hj)
          rw [List.getElem?_map, ha] at gx
          cases gx
          have tk : (levP (lvF ts) (tgtE ts) ts.length i).take (j + 1) = (levP (lvF ts) (tgtE ts) ts.length i).take j ++ [(levP (lvF ts) (tgtE ts) ts.length i)[j]] := by
            rw [List.take_add_one, List.getElem?_eq_getElem hj]
            rfl
          obtain ⟨wl, wk2⟩ := (mem_lev i _).mp (List.getElem_mem hj)
          have room := lev_five m24 hi
          have part : (((levP (lvF ts) (tgtE ts) ts.length i).take j).flatMap (extP (lvF ts) (tgtE ts))).length + (extP (lvF ts) (tgtE ts) (levP (lvF ts) (tgtE ts) ts.length i)[j]).length ≤ 7962624 := by
            refine Nat.le_trans ?_ room
            show _ ≤ ((levP (lvF ts) (tgtE ts) ts.length i).flatMap (extP (lvF ts) (tgtE ts))).length
            conv => rhs; rw [← List.take_append_drop (j + 1) (levP (lvF ts) (tgtE ts) ts.length i), tk]
            rw [List.flatMap_append, List.flatMap_append, List.length_append, List.length_append, List.flatMap_singleton]
            omega
          rw [tk, List.flatMap_append, List.flatMap_singleton]
          generalize (levP (lvF ts) (tgtE ts) ts.length i)[j] = pth at *
          have tbl := tb.len
          generalize ((levP (lvF ts) (tgtE ts) ts.length i).take j).flatMap (extP (lvF ts) (tgtE ts)) = done at *
          obtain ⟨pp, y, rfl⟩ : ∃ pp y, pth = pp ++ [y] := ⟨pth.dropLast, pth.getLast (fun z => by rw [z] at wl; cases wl), (List.dropLast_concat_getLast _).symm⟩
          have ylt : y < ts.length := lnk_lt wk2 y (by simp)
          have gl : (pp ++ [y]).getLastD 0 = y := by simp
          have ea2 := ea
          rw [nW_snoc] at ea2
          have sH := s2.trans (sG.trans s5)
          refine ⟨_, rfl, _, rfl, _, rfl, 1, rfl, a, _, -1, _, rfl, rfl, SqT.of ea2, atI_last _ _, p, q0, n, ts, y, rfl, PA.same sH, ylt, m24, fun N H7 s7 nN eN => ?_⟩
          refine ⟨N, _, SqL, rfl, .inl rfl, SqL.of eN, fun J2 wk3 => fun B hB => ?_⟩
          refine lc_it wk3 (fun m H' => ∃ cs : List Addr, Same H7 H' ∧ H' B = some (.lst (cs.map V.ref)) ∧ TW H' cs (((lvF ts (tgtE ts y)).take m).map fun e => (pp ++ [y]) ++ [e])) ⟨[], same_upd hB, upd_same, True.intro⟩ (fun m H' _ q => by obtain ⟨_, s, _⟩ := q; exact SqL.of (s _ _ eN)) ?_ ?_
          · rintro m x H8 H9 hm ⟨cs, s8, eB, tc⟩ ⟨rfl, gx⟩
            rw [nW_len] at hm
            rw [nW_at hm] at gx
            cases gx
            have tk2 : (lvF ts (tgtE ts y)).take (m + 1) = (lvF ts (tgtE ts y)).take m ++ [(lvF ts (tgtE ts y)).getD m 0] := by
              rw [List.take_add_one, List.getElem?_eq_getElem hm]
              simp [List.getD, hm]
            have cl := tc.len
            rw [List.length_map, List.length_take] at cl
            have lvl := lvF_len ts (tgtE ts y)
            rw [tk2, List.map_append]
            generalize (lvF ts (tgtE ts y)).getD m 0 = ed at *
            refine ⟨rfl, ?_⟩
            refine ⟨_, rfl, _, rfl, (by show 1 ≤ sizeLine; decide), fun u hu => ?_⟩
            have su := same_upd (o := .tup [.int (ed : Int)]) hu
            have eu : upd H9 u (.tup [.int (ed : Int)]) u = some (.tup (nW [ed])) := upd_same
            generalize upd H9 u (.tup [.int (ed : Int)]) = H10 at *
            refine catA (su _ _ (s8 _ _ (s7 _ _ ea))) eu ?_ fun c H12 s12 ec => ?_
            · rw [nW_len, nW_len, wl]
              show i + 1 + 1 ≤ 1000
              omega
            rw [← nW_app] at ec
            have s13 := s8.trans (su.trans s12)
            have eB2 := s12 _ _ (su _ _ eB)
            refine ⟨_, eB2, by rw [List.length_map, cl]; exact small1000 (by omega), cs ++ [c], same_at s13 hB, by rw [upd_same, List.map_append]; rfl, ?_⟩
            exact TW.off eB2 ((tc.same (su.trans s12)).snoc ec)
          · rintro H8 ⟨cs, s8, eB, tc⟩
            rw [nW_len, List.take_length] at tc
            have s58 := s7.trans s8
            have cl := tc.len
            rw [List.length_map] at cl
            have xl : (extP (lvF ts) (tgtE ts) (pp ++ [y])) = (lvF ts (tgtE ts y)).map fun e => (pp ++ [y]) ++ [e] := by
              unfold extP
              rw [gl]
            rw [xl] at part ⊢
            rw [List.length_map] at part
            refine ⟨G, B, _, _, rfl, rfl, s58 _ _ eG, eB, ?_, fun R hR => ?_⟩
            · rw [List.length_map, List.length_map, tbl, cl, sizeLine_eq]
              omega
            have sR := same_upd (o := .lst (bs.map V.ref ++ cs.map V.ref)) hR
            refine ⟨_, R, bs ++ cs, rfl, s5.trans (s58.trans sR), (sH.trans s58).free hR, by rw [upd_same, List.map_append], ?_⟩
            exact ((tb.same s58).same sR).app (tc.same sR)
        · rintro σ H5 ⟨v5, G, bs, rfl, s5, nG, eG, tb⟩
          rw [List.length_map, tw.len, List.take_length] at tb
          exact ⟨_, rfl, _, _, _, G, bs, rfl, s2.trans (sG.trans s5), nG, eG, tb⟩
      · rintro σ H2 ⟨v3, v4, v5, Fd, as, rfl, s2, nF, eF, tw⟩
        have e : ((L : Int) - 1).toNat = L - 1 := by omega
        rw [e] at tw
        exact ⟨_, rfl, q Fd as H2 s2 nF eF tw⟩
end
end Lw
end
section
namespace Lw
open PySem L2
def vecL (n : Nat) (x : Nat → Nat) : List V := (List.range n).map fun i => V.int ((x i : Nat) : Int)
theorem vecL_len (n : Nat) (x : Nat → Nat) : (vecL n x).length = n := by
  unfold vecL
  simp
theorem vecL_at {n : Nat} (x : Nat → Nat) {i : Nat} (h : i < n) : (vecL n x)[i]? = some (V.int ((x i : Nat) : Int)) := by
  unfold vecL
  rw [List.getElem?_map, List.getElem?_range h]
  rfl
theorem vecL_congr {n : Nat} {x y : Nat → Nat} (h : ∀ i, i < n → x i = y i) : vecL n x = vecL n y := by
  unfold vecL
  refine List.map_congr_left fun i hi => ?_
  rw [h i (List.mem_range.mp hi)]
theorem vecL_set {n : Nat} {x y : Nat → Nat} {s c : Nat} (hs : s < n) (h : ∀ i, i < n → y i = x i + (if i = s then c else 0)) : (vecL n x).set s (V.int (((x s : Nat) : Int) + ((c : Nat) : Int))) = vecL n y := by
  apply List.ext_getElem?
  intro i
  by_cases hi : i < n
  · rw [vecL_at y hi, h i hi]
    by_cases e : s = i
    · subst e
      rw [List.getElem?_set_self (by rw [vecL_len]; exact hs), if_pos rfl]
      congr 2
    · rw [List.getElem?_set_ne e, vecL_at x hi, if_neg (Ne.symm e), Nat.add_zero]
  · rw [List.getElem?_eq_none (by rw [List.length_set, vecL_len]; omega), List.getElem?_eq_none (by rw [vecL_len]; omega)]
theorem vecL_rep (n c : Nat) : (List.replicate n [V.int ((c : Nat) : Int)]).flatten = vecL n (fun _ => c) := by
  rw [List.flatten_replicate_singleton]
  unfold vecL
  rw [List.map_const', List.length_range]
theorem vecL_ints (n : Nat) (x : Nat → Nat) : vecL n x = ((List.range n).map fun i => ((x i : Nat) : Int)).map V.int := by
  unfold vecL
  rw [List.map_map]
  rfl
def spLPC : Sp := fun vs H Q _ => ∃ (p q : Addr) (n : Int) (ts : Es) (e : Nat), vs = [.ref p, .int (e : Int)] ∧ PlanAt H p q n ts ∧ n ≤ 8 ∧ e ≤ 2000 ∧ ∀ H', Same H H' → Q (.int ((sm n.toNat (fun i => sm n.toNat (fun j => pwE n ts e i j)) : Nat) : Int)) H'
theorem psOf_take {ts : Es} {m : Nat} {e : Addr × Int × Int} {s t : Nat} (h : ts[m]? = some e) (hs : e.2.1 = (s : Int)) (ht : e.2.2 = (t : Int)) : (psOf ts).take (m + 1) = (psOf ts).take m ++ [((s : Int), (t : Int))] := by
  rw [List.take_add_one, psOf_at h]
  show _ ++ [e.2] = _
  rw [← hs, ← ht]
theorem vsOf_at' {ts : Es} {i : Nat} {v : V} (h : (vsOf ts)[i]? = some v) : ∃ e, ts[i]? = some e ∧ v = .ref e.1 := by
  unfold vsOf at h
  rw [List.getElem?_map] at h
  obtain ⟨e, he, z⟩ := Option.map_eq_some_iff.mp h
  exact ⟨e, he, z.symm⟩
section
variable {P : Program} {w : World} {K : PySem.W.Frag} {mg : Str → Option Value} {base : Heap} {f : Addr} {fd : FuncData} {k : Nat}
theorem scLPC : FnScope ["_law_plan_here", "_law_size", "_law_here", "_law_turn", "_law_later", "_law_source", "_law_target"] ["_law_plan_here", "_law_size"] (defScope sLPC) := ⟨rfl, rfl, rfl, by decide +kernel, rfl, by decide +kernel, by decide +kernel⟩
set_option maxHeartbeats 8000000 in
theorem ok_lpc (F : Fun K "_law_path_count" "_law_path_count" sLPC f fd) (T : Bi mg) (tS : mg "sum" = none) : FnOk P w K mg base CX0 (k + 1) f fd ["_law_plan_here", "_law_size"] spLPC := by
  refine F.ok scLPC (fun vs H Q E h => ?_) (fun cdv A outer s H vs Q E hr h => ?_)
  · obtain ⟨p, q, n, ts, e, rfl, _⟩ := h
    rfl
  · obtain ⟨p, q0, n, ts, e, rfl, PA, n8, e2, q⟩ := h
    have n1 := PA.n1
    refine ⟨_, pss_cons (ps_set (i := 2) scLPC.nd rfl (.inl rfl) (pe_op op_rep (pe_lst (pa_cons pe_int pa_nil)) (pe_ix ix_tup (pv 0) pe_int (fun _ _ => rfl))))
      (pss_cons (ps_for PassesOwn.never rfl (pi_range1 (by rfl) T.range (pa_cons (pv 1) pa_nil)) (pg_name (i := 3) scLPC.nd rfl (.inl rfl))
        (pss_cons (ps_set (i := 4) scLPC.nd rfl (.inl rfl) (pe_op op_rep (pe_lst (pa_cons pe_int pa_nil)) (pe_ix ix_tup (pv 0) pe_int (fun _ _ => rfl))))
        (pss_cons (ps_for PassesOwn.never rfl (pi_seqA (pe_ix ix_tup (pv 0) pe_int (fun _ _ => rfl))) (pg_tup rfl (pgs_cons (pg_name (i := 5) scLPC.nd rfl (.inl rfl)) (pgs_cons (pg_name (i := 6) scLPC.nd rfl (.inl rfl)) pgs_nil)))
          (pss_one (ps_asg (pe_op op_add (pe_ix ix_list (pv 4) (pv 5) (fun _ _ => rfl)) (pe_ix ix_list (pv 2) (pv 6) (fun _ _ => rfl))) (pg_sub (pv 4) (pv 5) set_list))))
        (pss_one (ps_set (i := 2) scLPC.nd rfl (.inl rfl) (pv 4))))))
      (pss_one (ps_ret (pe_callB (cr_sum rfl) (by rfl) tS (by decide +kernel) (pa_cons (pv 2) pa_nil))))), ?_⟩
    refine ⟨(by show 1 ≤ sizeLine; decide), fun l0 hl0 => ?_⟩
    have s0 := same_upd (o := .lst [.int 1]) hl0
    refine ⟨_, rfl, p, _, _, _, rfl, rfl, SqT.of (s0 _ _ PA.tp), rfl, l0, n, _, rfl, rfl, upd_same, by omega, by omega, ?_, fun h0 hh0 => ?_⟩
    · show 1 * n.toNat ≤ sizeLine
      exact Nat.le_of_lt (small1000 (by omega))
    have s1 := s0.trans (same_upd (o := .lst (List.replicate n.toNat [V.int 1]).flatten) hh0)
    have e1 : upd (upd H l0 (.lst [.int 1])) h0 (.lst (List.replicate n.toNat [V.int 1]).flatten) h0 = some (.lst (vecL n.toNat fun i => sm n.toNat (fun j => pwE n ts 0 i j))) := by
      rw [upd_same]
      congr 2
      refine (vecL_rep n.toNat 1).trans (vecL_congr fun i hi => ?_)
      have := sm_one (n := n.toNat) (b := i) (fun _ => 1) hi
      refine this.symm.trans (sm_congr fun j _ => ?_)
      show (if j = i then 1 else 0) * 1 = (if i = j then 1 else 0)
      by_cases z : j = i
      · rw [if_pos z, if_pos z.symm]
      · rw [if_neg z, if_neg (Ne.symm z)]
    generalize upd (upd H l0 (.lst [.int 1])) h0 (.lst (List.replicate n.toNat [V.int 1]).flatten) = H1 at *
    refine ⟨_, rfl, (e : Int), rfl, by omega, by omega, ?_⟩
    refine for_it (walk_range (lo := 0) (n := ((e : Int)).toNat)) (fun i σ H' => ∃ (v3 v4 v5 v6 : Option V) (Hh : Addr), σ = [some (.ref p), some (.int (e : Int)), some (.ref Hh), v3, v4, v5, v6] ∧ Same H H' ∧ H' Hh = some (.lst (vecL n.toNat fun a => sm n.toNat (fun j => pwE n ts i a j))))
      ⟨none, none, none, none, h0, rfl, s1, e1⟩ (fun _ _ _ _ _ => True.intro) ?_ ?_
    · rintro i x σ H2 H3 hi ⟨v3, v4, v5, v6, Hh, rfl, s2, eh⟩ ⟨rfl, rfl⟩
      refine ⟨(by show 1 ≤ sizeLine; decide), fun l1 hl1 => ?_⟩
      have s3 := same_upd (o := .lst [.int 0]) hl1
      refine ⟨_, rfl, p, _, _, _, rfl, rfl, SqT.of (s3 _ _ (s2 _ _ PA.tp)), rfl, l1, n, _, rfl, rfl, upd_same, by omega, by omega, ?_, fun L hL => ?_⟩
      · show 1 * n.toNat ≤ sizeLine
        exact Nat.le_of_lt (small1000 (by omega))
      have s4 := s3.trans (same_upd (o := .lst (List.replicate n.toNat [V.int 0]).flatten) hL)
      have nL : H3 L = none := s3.free hL
      have e4 : upd (upd H3 l1 (.lst [.int 0])) L (.lst (List.replicate n.toNat [V.int 0]).flatten) L = some (.lst (vecL n.toNat fun a => sm n.toNat (fun j => cntN ((psOf ts).take 0) a j * sm n.toNat (fun b => pwE n ts i j b)))) := by
        rw [upd_same]
        congr 2
        exact (vecL_rep n.toNat 0).trans (vecL_congr fun a _ => (sm_none _ a).symm)
      generalize upd (upd H3 l1 (.lst [.int 0])) L (.lst (List.replicate n.toNat [V.int 0]).flatten) = H4 at *
      refine ⟨_, rfl, p, _, _, _, rfl, rfl, SqT.of (s4 _ _ (s2 _ _ PA.tp)), rfl, q0, vsOf ts, SqL, rfl, .inl rfl, SqL.of (s4 _ _ (s2 _ _ PA.ls)), fun J w => ?_⟩
      refine for_it w (fun m σ H' => ∃ v5 v6 : Option V, σ = [some (.ref p), some (.int (e : Int)), some (.ref Hh), some (.int (0 + (i : Int))), some (.ref L), v5, v6] ∧ Same H3 H' ∧ H' L = some (.lst (vecL n.toNat fun a => sm n.toNat (fun j => cntN ((psOf ts).take m) a j * sm n.toNat (fun b => pwE n ts i j b))))) ⟨_, _, rfl, s4, e4⟩ (fun m σ H' _ p => by obtain ⟨_, _, _, s, _⟩ := p; exact SqL.of (s _ _ (s2 _ _ PA.ls))) ?_ ?_
      · rintro m x σ H5 H6 hm ⟨v5, v6, rfl, s5, eL⟩ ⟨rfl, gx⟩
        obtain ⟨ed, he, rfl⟩ := vsOf_at' gx
        have mem := List.mem_of_getElem? he
        obtain ⟨r1, r2, r3, r4⟩ := PA.va.rg ed mem
        have ea : ed.2.1 = ((ed.2.1.toNat : Nat) : Int) := (Int.toNat_of_nonneg r1).symm
        have eb : ed.2.2 = ((ed.2.2.toNat : Nat) : Int) := (Int.toNat_of_nonneg r3).symm
        have ha : ed.2.1.toNat < n.toNat := by omega
        have hb : ed.2.2.toNat < n.toNat := by omega
        refine ⟨ed.1, _, rfl, SqT.of (s5 _ _ (s2 _ _ (PA.ed ed mem))), rfl, _, _, rfl, _, _, rfl, rfl, ?_⟩
        have eh5 := s5 _ _ eh
        refine ⟨_, rfl, _, rfl, L, _, _, V.int ((sm n.toNat (fun j => cntN ((psOf ts).take m) ed.2.1.toNat j * sm n.toNat (fun b => pwE n ts i j b)) : Nat) : Int), rfl, rfl, SqL.of eL, ?_, _, rfl, _, rfl, Hh, _, _, V.int ((sm n.toNat (fun b => pwE n ts i ed.2.2.toNat b) : Nat) : Int), rfl, rfl, SqL.of eh5, ?_, _, _, rfl, rfl, _, rfl, _, rfl, L, _, _, ed.2.1.toNat, rfl, rfl, eL, ?_, ?_⟩
        · rw [ea]
          exact atI_nat (vecL_at _ ha)
        · rw [eb]
          exact atI_nat (vecL_at _ hb)
        · rw [vecL_len]
          exact ixN_of r1 ha
        refine ⟨_, _, rfl, ?_, ?_⟩
        · intro c o ec
          rw [upd_ne (ne_of_none ec nL)]
          exact s5 _ _ ec
        · rw [upd_same]
          congr 2
          refine vecL_set ha fun a _ => ?_
          rw [psOf_take he ea eb, out_snoc _ _ hb]
      · rintro σ H5 ⟨v5, v6, rfl, s5, eL⟩
        have lv : (vsOf ts).length = (psOf ts).length := by
          unfold vsOf psOf
          rw [List.length_map, List.length_map]
        rw [lv, List.take_length] at eL
        refine ⟨_, rfl, _, _, _, _, L, rfl, s2.trans s5, ?_⟩
        rw [eL]
        congr 2
        exact vecL_congr fun a ha => vec_step _ i ha
    · rintro σ H2 ⟨v3, v4, v5, v6, Hh, rfl, s2, eh⟩
      rw [Int.toNat_natCast, vecL_ints] at eh
      refine ⟨_, rfl, Hh, _, rfl, SqL.of eh, ?_⟩
      rw [sm_int]
      exact q H2 s2
def spPC : Sp := fun vs H Q _ => ∃ (p q : Addr) (n : Nat) (ts : Es) (L : Nat), vs = [.ref p, .int (L : Int)] ∧ PlanAt H p q (n : Int) ts ∧ n ≤ 8 ∧ 1 ≤ L ∧ L ≤ 40 ∧ ∀ H', Same H H' → Q (.int (((win ts L).length : Nat) : Int)) H'
theorem lpc_pc {P : Program} {w : World} {K : PySem.W.Frag} {mg : Str → Option Value} {base : Heap} {k : Nat} {f : Addr} {fd : FuncData} {ps : List Str} (F : FnOk P w K mg base CX0 k f fd ps spLPC) : FnOk P w K mg base CX0 k f fd ps spPC := by
  have h : ∀ vs H Q E, spPC vs H Q E → spLPC vs H Q E := by
    rintro vs H Q E ⟨p, q, n, ts, L, rfl, PA, n8, l1, l40, go⟩
    refine ⟨p, q, n, ts, L, rfl, PA, by omega, by omega, fun H' s => ?_⟩
    rw [Int.toNat_natCast, ← win_cnt PA.rgN l1]
    exact go H' s
  exact ⟨fun vs H Q E z => F.len vs H Q E (h vs H Q E z), fun A outer s H args us vs Q E hr e0 hb rv z => F.run A outer s H args us vs Q E hr e0 hb rv (h _ _ _ _ z)⟩
end
end Lw
end
section
namespace Lw
open PySem L2 PyProof.Rows
theorem nW_ints (s : List Nat) : nW s = (s.map fun k => ((k : Nat) : Int)).map V.int := by
  unfold nW
  rw [List.map_map]
  rfl
theorem dp_nW {K : PySem.W.Frag} {H : Hp} (s : List Nat) : DpAll K H (nW s) ((s.map fun k => ((k : Nat) : Int)).map PyData.int) := by
  rw [nW_ints]
  exact dp_ints _
end Lw
end
section
namespace SetL
open PySem PySem.Spec PyProof.Rows L2
abbrev bare (w : World) : Obj := { cls := .type "set", dict := none, data := .set #[] 0 (.fresh 0 0 (!w.params.followText "set-order")) }
section
variable {P : Program} {w : World} {A : Around} {E : Value → Shared → Prop} {s : Shared}
abbrev Filled (w : World) (s : Shared) (ns : List Int) : Value → Shared → Prop := fun r s2 => r = .none ∧ ∃ g tk c, s2 = { s with heap := g, toks := tk } ∧ SetR w g s.heap.objs.size (fun j => decide (j ∈ ns)) c ∧ c ≤ ns.length ∧ ∀ b o, s.heap.get? b = some o → g.get? b = some o
set_option maxHeartbeats 3200000 in
theorem fill {l : Addr} {items : Array Value} (ns : List Int) {R : Result → Shared → Prop} (calm : A.handled = none) (hl : s.heap.IsList l items) (are : IntsAre items.toList ns) (few : ns.length + 1 < scanBound)
    (fin : ∀ s2, Filled w s ns .none s2 → R (.ok (.ret .none)) s2) :
    wpAny (model P w) A.in1 (Builtin.«set.__init__» ⟨[.ref s.heap.objs.size, .ref l], []⟩) (GQ.FinOf P w A R) (fun e s' => R (.error e) s') { s with heap := s.heap.push (bare w) } := by
  have size : items.size = ns.length := by
    have q := IntsAre.length are
    rwa [Array.length_toList] at q
  have at0 : (s.heap.push (bare w)).get? s.heap.objs.size = some (bare w) := Heap.get?_push_size _ rfl
  obtain ⟨⟨cls, dic, dat, slo⟩, hol, hc, nl, hd⟩ := hl
  simp only at hc hd
  subst hc hd
  have hol2 : (s.heap.push (bare w)).get? l = some { cls := .type "list", dict := dic, data := .seq items nl, slots := slo } := Heap.get?_push_of_some _ hol
  have lst : (s.heap.push (bare w)).IsList l items := ⟨_, hol2, rfl, nl, rfl⟩
  have below : l < s.heap.objs.size := Heap.lt_size hol
  have q1 := F.sub_list_set
  have q2 := F.sub_list_frozenset
  have q3 : (Value.type "list" == Value.type "dict") = false := by decide
  unfold Builtin.«set.__init__» noKeywords Builtin.Frozenset.updateFrom
  generalize it : pyIter = PI
  wp_walk
  subst it
  refine wpAny_pyIter_list lst (wpAny_bind (wpAny_runValue ?_))
  have sz : (s.heap.push (bare w)).objs.size = s.heap.objs.size + 1 := Heap.size_push ..
  have apart : s.heap.objs.size ∉ [(s.heap.push (bare w)).objs.size, l] := by
    rw [sz]
    simp only [List.mem_cons, List.mem_singleton, List.not_mem_nil, or_false, not_or]
    exact ⟨Nat.ne_of_lt (Nat.lt_succ_self _), Nat.ne_of_gt below⟩
  have val : ∀ (i : Nat) (v : Value), items[i]? = some v → ∃ k t, ns[i]? = some k ∧ v = .int k t := by
    intro i v hv
    have hi : i < ns.length := size ▸ (Array.getElem?_eq_some_iff.mp hv).1
    obtain ⟨t, e⟩ := PyProof.Rows.IntsAre.int_at are i v (by rw [Array.getElem?_toList, hv])
    refine ⟨ns[i], t, List.getElem?_eq_getElem hi, ?_⟩
    rw [e, List.getD_eq_getElem?_getD, List.getElem?_eq_getElem hi] <;> rfl
  refine set_update_ints ((Walks.list (A := A.in1.in1) (by simp [calm]) _ l (by rw [sz]; exact Nat.ne_of_lt (Nat.lt_succ_of_lt below)) items).toS) s.heap.objs.size apart ns size few val (items.size - 0) 0 _ (by omega) (Nat.zero_le _) ?_ ?_ ?_
  · exact ⟨⟨_, Heap.get?_push_size _ rfl, rfl, rfl⟩, lst.push _⟩
  · exact ⟨0, Nat.le_refl 0, setR_new_at (Heap.get?_push_of_some _ at0)⟩
  · rintro ⟨g, g2, d2, tk2, os2⟩ c mv le full
    obtain rfl : g2 = s.gens := mv.gens
    obtain rfl : d2 = s.drawn := mv.drawn
    obtain rfl : os2 = s.os := mv.os
    refine (show wpAny _ _ _ _ _ _ from wpAny_pure (show wpAny _ _ (ret Value.none) _ _ _ from wpAny_pure (fin _ ⟨rfl, g, tk2, c, rfl, full, size ▸ le, fun b o e => ?_⟩)))
    have lb := Heap.lt_size e
    refine mv.heap b o ?_ (Heap.get?_push_of_some _ (Heap.get?_push_of_some _ e))
    rw [sz]
    simp only [List.mem_cons, List.mem_singleton, List.not_mem_nil, or_false, not_or]
    exact ⟨Nat.ne_of_lt lb, Nat.ne_of_lt (Nat.lt_succ_of_lt lb)⟩
set_option maxHeartbeats 3200000 in
theorem call_list {l : Addr} {items : Array Value} (ns : List Int) {Q : Value → Shared → Prop} (calm : A.handled = none) (hl : s.heap.IsList l items) (are : IntsAre items.toList ns) (few : ns.length + 1 < scanBound)
    (h : ∀ (g : Heap) (tk c : Nat), SetR w g s.heap.objs.size (fun j => decide (j ∈ ns)) c → c ≤ ns.length → (∀ b o, s.heap.get? b = some o → g.get? b = some o) → Q (.ref s.heap.objs.size) { s with heap := g, toks := tk }) :
    wpAny (model P w) A (call (.type "set") [.ref l]) Q E s := by
  obtain ⟨c, tl, mro⟩ := F.called_set.mro
  have a1 := F.called_set.made
  have a2 := F.called_set.sub
  have a3 := F.called_set.notType
  have a4 := F.called_set.canCreate
  have a5 := F.typeCall_set_1 (.ref l)
  refine wpAny_call (codeAny_of_tree (show wpAny _ _ (callAny (.type "set") _) _ _ _ from wpAny_pure ⟨Code.quiet_builtin _ (by decide +kernel), codeAny_builtin F.entry_type_call ?_⟩))
  rw [Around.under_plain (weight_type_call_type "set" [.ref l] []) rfl]
  repeat (any_goals (first | assumption | wp_step))
  refine codeAny_mono (code_set_led1 (.ref l) (E := E) (Q₁ := fun obj s1 => obj = .ref s.heap.objs.size ∧ s1 = { s with heap := s.heap.push (bare w) }) ⟨rfl, rfl⟩) ?_
  intro r s1 hr
  cases r with
  | error e => exact hr
  | ok fl =>
    cases fl with
    | next => exact hr.elim
    | brk => exact hr.elim
    | cont => exact hr.elim
    | ret obj =>
      obtain ⟨rfl, rfl⟩ := hr
      have isSet : Shared.TypeIs { s with heap := s.heap.push (bare w) } (.ref s.heap.objs.size) "set" := ⟨_, Heap.get?_push_size _ rfl, rfl⟩
      have b1 := F.called_set.init.lookup
      have b2 := F.called_set.init.bind (.ref s.heap.objs.size)
      repeat (any_goals (first | assumption | wp_step))
      refine codeAny_mono (codeAny_call_builtin (R := wants (Filled w s ns) E) F.called_set.init.plain F.entry_set_init (check_set_init_1 isSet (fill (R := wants (Filled w s ns) E) ns calm hl are few fun s2 z => z))) ?_
      intro r2 s2 hr2
      cases r2 with
      | error e => exact hr2
      | ok fl =>
        cases fl with
        | next => exact hr2.elim
        | brk => exact hr2.elim
        | cont => exact hr2.elim
        | ret v =>
          obtain ⟨rfl, g, tk, c', rfl, full, le, up⟩ := hr2
          repeat (any_goals (first | assumption | wp_step))
          exact h _ _ _ full le up
end
end SetL
end
section
namespace Lw
open PySem L2
theorem PlanAt.keepB {b l : Addr} {ns : List Int} {H H' : Hp} {p q : Addr} {n : Int} {ts : Es} (h : PlanAt H p q n ts) (B : BagAt H b l ns) (k : KeepB b H H') : PlanAt H' p q n ts :=
  ⟨k _ _ (B.ne_tup h.tp) h.tp, k _ _ (B.ne_vs h.ls) h.ls, h.ed.keep B k, h.va, h.n1⟩
end Lw
end
section
namespace ItT
open PySem PySem.Spec PyProof.Rows L2
def Yt (kvs : List (List Key × V)) : Nat → Hp → V → Hp → Prop := fun i H v H' => ∃ (U q : Addr) (k : List Key) (x : V), v = .ref U ∧ H U = none ∧ kvs[i]? = some (k, x) ∧ H q = some (.tup (k.map kV)) ∧ H' = upd H U (.tup [.ref q, x])
def Itt (d : Addr) (o : Obj) (kvs : List (List Key × V)) : It where
  go i H := H d = some (.frz o (.dT kvs)) ∧ i < kvs.length
  yld i H v H' := Yt kvs i H v H'
  stop i H := H d = some (.frz o (.dT kvs)) ∧ kvs.length ≤ i
end ItT
end
section
namespace Lw
open PySem L2 PyProof.Rows
theorem win_one (us : Es) : win us 1 = (List.range us.length).map fun e => [e] := rfl
end Lw
end
section
namespace LvT
open PySem PySem.Spec PyProof.Rows L2
theorem vals_of {its : List Value} : ∀ {vs : List V}, its.length = vs.length → (∀ (i : Nat) (v : V) (u : Value), vs[i]? = some v → its[i]? = some u → RelV v u) → Vals vs its := by
  induction its with
  | nil => intro vs hl _; cases vs with
    | nil => exact .nil
    | cons _ _ => cases hl
  | cons u us ih => intro vs hl h; cases vs with
    | nil => cases hl
    | cons v vs => exact .cons (h 0 v u rfl rfl) (ih (Nat.succ.inj hl) fun i a b x y => h (i + 1) a b x y)
end LvT
end
section
namespace Lw
open PySem L2 PyProof.Rows
def zI (zs : List Nat) : List PyData := (zs.map fun k => ((k : Nat) : Int)).map PyData.int
theorem zI_lay : ∀ zs : List Nat, PyData.canLayAll0 (zI zs) = true
  | [] => rfl
  | z :: zs => by
    show (true && PyData.canLayAll0 (zI zs)) = true
    rw [zI_lay zs]
    rfl
theorem zI_depth : ∀ zs : List Nat, PyData.depthAll (zI zs) ≤ 0
  | [] => Nat.le_refl _
  | z :: zs => by
    show max 0 (PyData.depthAll (zI zs)) ≤ 0
    exact Nat.max_le.mpr ⟨Nat.le_refl _, zI_depth zs⟩
end Lw
end
section
set_option autoImplicit false
namespace Lw
open PySem L2 PyProof.Rows
def tI (zs : List (List Nat)) : List PyData := zs.map fun z => PyData.tuple (zI z)
theorem tI_lay : ∀ zs : List (List Nat), PyData.canLayAll0 (tI zs) = true
  | [] => rfl
  | z :: zs => by
    show (PyData.canLayAll0 (zI z) && PyData.canLayAll0 (tI zs)) = true
    rw [zI_lay, tI_lay zs]
    rfl
theorem tI_depth : ∀ zs : List (List Nat), PyData.depthAll (tI zs) ≤ 1
  | [] => Nat.zero_le _
  | z :: zs => by
    show max (PyData.depthAll (zI z) + 1) (PyData.depthAll (tI zs)) ≤ 1
    have := zI_depth z
    have := tI_depth zs
    omega
theorem shTI (zs : List (List Nat)) : SeqAt.shaped (.list (tI zs)) = true := by
  show (PyData.canLayAll0 (tI zs) && decide (PyData.depthAll (tI zs) + 1 ≤ 64)) = true
  rw [tI_lay, decide_eq_true (by have := tI_depth zs; omega)]
  rfl
theorem dp_tw {K : PySem.W.Frag} {H : Hp} : ∀ {as : List Addr} {zs : List (List Nat)}, TW H as zs → DpAll K H (as.map V.ref) (tI zs)
  | [], [], _ => .nil
  | a :: as, z :: zs, h => .cons (.tup (SqT.of h.1) (dp_nW z)) (dp_tw h.2)
  | [], _ :: _, h => h.elim
  | _ :: _, [], h => h.elim
end Lw
end
section
namespace Lw
def Inr (ps : List (Int × Int)) (e : Int) : Prop := 0 ≤ e ∧ e < (ps.length : Int)
def prt (ps : List (Int × Int)) (e : Int) : Int × Int := ps.getD e.toNat (0, 0)
def Bad (ps : List (Int × Int)) (es : List Int) (i : Nat) : Prop := ¬ Inr ps (es.getD i 0) ∨ (0 < i ∧ (prt ps (es.getD (i - 1) 0)).2 ≠ (prt ps (es.getD i 0)).1)
def FB (ps : List (Int × Int)) (es : List Int) : Option Nat → Prop
  | none => ∀ i, i < es.length → ¬ Bad ps es i
  | some j => j < es.length ∧ Bad ps es j ∧ ∀ i, i < j → ¬ Bad ps es i
theorem FB.uniq {ps : List (Int × Int)} {es : List Int} : ∀ {r r' : Option Nat}, FB ps es r → FB ps es r' → r = r'
  | none, none, _, _ => rfl
  | none, some j, h, h' => absurd h'.2.1 (h j h'.1)
  | some j, none, h, h' => absurd h.2.1 (h' j h.1)
  | some j, some k, h, h' => by
    rcases Nat.lt_trichotomy j k with c | c | c
    · exact absurd h.2.1 (h'.2.2 j c)
    · rw [c]
    · exact absurd h'.2.1 (h.2.2 k c)
end Lw
end
section
namespace Lw
open PySem L2
def brV : Option Nat → V
  | none => .non
  | some j => .int (j : Int)
def spBreak (C : Addr) : Sp := fun vs H Q _ => ∃ (g : Addr) (n : Int) (us : Es) (p : Addr) (es : List Int), vs = [.ref g, .ref p] ∧ GraphAt C H g n us ∧ TI H p es ∧ es.length ≤ 1000 ∧
  ∀ r H', Same H H' → FB (psOf us) es r → Q (brV r) H'
theorem vsB_get {us : Es} {i : Nat} {e : Addr × Int × Int} (h : us[i]? = some e) : (vsOf us)[i]? = some (.ref e.1) := by
  unfold vsOf
  rw [List.getElem?_map, h]
  rfl
theorem psB_len (us : Es) : (psOf us).length = us.length := by
  unfold psOf
  rw [List.length_map]
theorem prt_at {us : Es} {e : Int} (h : Inr (psOf us) e) : ∃ ee, us[e.toNat]? = some ee ∧ ee.2 = prt (psOf us) e := by
  obtain ⟨h0, h1⟩ := h
  unfold psOf at h1
  rw [List.length_map] at h1
  have hlt : e.toNat < us.length := by omega
  refine ⟨us[e.toNat], List.getElem?_eq_getElem hlt, ?_⟩
  unfold prt psOf
  simp [List.getD, hlt]
theorem ints_at {es : List Int} {i : Nat} {y : V} (h : (es.map V.int)[i]? = some y) : y = .int (es.getD i 0) := by
  rw [List.getElem?_map] at h
  obtain ⟨z, hz, rfl⟩ := Option.map_eq_some_iff.mp h
  simp [List.getD, hz]
theorem dec_int' {i j : Int} : decide (V.int i = V.int j) = decide (i = j) := by
  by_cases h : i = j
  · rw [h, decide_eq_true rfl, decide_eq_true rfl]
  · rw [decide_eq_false h, decide_eq_false (fun z => h (by injection z))]
def stV (ps : List (Int × Int)) (es : List Int) (i : Nat) : V := if i = 0 then .non else .int (prt ps (es.getD (i - 1) 0)).2
section
variable {P : Program} {w : World} {K : PySem.W.Frag} {mg : Str → Option Value} {base : Heap}
theorem scBreak : FnScope ["graph", "path", "edges", "state", "place", "number", "source", "target"] ["graph", "path"] (defScope sBreak) := ⟨rfl, rfl, rfl, by decide +kernel, rfl, by decide +kernel, by decide +kernel⟩
set_option maxHeartbeats 4000000 in
theorem ok_break {f C : Addr} {mc : Value} {fd : FuncData} {k : Nat} (F : Fun K "first_break" "first_break" sBreak f fd) (T : Bi mg) (G : GTxt K mg C mc) (cE : C8.Met P w K mg base 1 C "edges" (spEdges C) []) : FnOk P w K mg base CX0 (k + 2) f fd ["graph", "path"] (spBreak C) := by
  refine F.ok scBreak (fun vs H Q E h => ?_) (fun cdv A outer s H vs Q E hr h => ?_)
  · obtain ⟨g, n, us, p, es, rfl, _⟩ := h
    rfl
  · obtain ⟨g, n, us, p, es, rfl, GA, hp, hl, q⟩ := h
    obtain ⟨⟨dx, t, h1, h2⟩, ed⟩ := id GA
    refine ⟨_, pss_cons (ps_set (i := 2) scBreak.nd rfl (Or.inl rfl) (C8.pe_mt0 cE hr (Nat.le_add_left 1 k) (pv 0)))
      (pss_cons (ps_set (i := 3) scBreak.nd rfl (Or.inl rfl) pe_non)
      (pss_cons (ps_for PassesOwn.never rfl (pi_enumA (by rfl) G.enum (pa_cons (pv 1) pa_nil)) (pg_tup rfl (pgs_cons (pg_name (i := 4) scBreak.nd rfl (.inl rfl)) (pgs_cons (pg_name (i := 5) scBreak.nd rfl (.inl rfl)) pgs_nil)))
        (pss_cons (ps_if (pt_not (pt_chain op_le op_lt pe_int (pv 5) (pe_callB call_len_seq (by rfl) T.len PySem.boot_len (pa_cons (pv 2) pa_nil)))) (pss_one (ps_ret (pv 4))) pss_nil)
        (pss_cons (ps_asg (pe_ix ix_list (pv 2) (pv 5) (fun _ _ => rfl)) (pg_tup rfl (pgs_cons (pg_name (i := 6) scBreak.nd rfl (.inl rfl)) (pgs_cons (pg_name (i := 7) scBreak.nd rfl (.inl rfl)) pgs_nil))))
        (pss_cons (ps_if (PW.pt (pw_and (pt_cmpR op_notN (pv 3) pe_non (nomark _)) (pw_and1 (pt_cmpR op_ne (pv 6) (pv 3) (nomark _))))) (pss_one (ps_ret (pv 4))) pss_nil)
        (pss_one (ps_set (i := 3) scBreak.nd rfl (Or.inl rfl) (pv 7)))))))
      (pss_one (ps_ret pe_non)))), ?_⟩
    refine ⟨_, rfl, g, dx, _, rfl, h1, look_no _ _ (by decide +kernel) (by decide +kernel), g, n, us, rfl, GA, fun e he => ?_⟩
    have s1 := same_upd (o := .lst (vsOf us)) he
    have ee : upd H e (.lst (vsOf us)) e = some (.lst (vsOf us)) := upd_same
    generalize upd H e (.lst (vsOf us)) = H1 at *
    have hp1 := hp.same s1
    refine ⟨_, rfl, p, es.map V.int, SqT, rfl, .inr rfl, SqT.of hp1, fun J w => ?_⟩
    refine for_it w (fun i σ H' => ∃ v4 v5 v6 v7 : Option V, σ = [some (.ref g), some (.ref p), some (.ref e), some (stV (psOf us) es i), v4, v5, v6, v7] ∧ Same H1 H' ∧ ∀ j, j < i → ¬ Bad (psOf us) es j) ⟨none, none, none, none, rfl, fun _ _ z => z, fun j hj => by omega⟩ (fun i σ H' _ p => by obtain ⟨_, _, _, _, _, s, _⟩ := p; exact SqT.of (hp1.same s)) ?_ ?_
    · rintro i x σ H2 H' hi ⟨v4, v5, v6, v7, rfl, sm, nb⟩ ⟨Ta, x, y, rfl, hT, rfl, gx, gy⟩
      have ey := ints_at gy
      subst ey
      have ex : x = .int (i : Nat) := (Option.some.inj gx).symm
      subst ex
      rw [List.length_map] at hi
      have s2 := same_upd (o := .tup [.int (i : Nat), .int (es.getD i 0)]) hT
      have eT : upd H2 Ta (.tup [.int (i : Nat), .int (es.getD i 0)]) Ta = some (.tup [.int (i : Nat), .int (es.getD i 0)]) := upd_same
      have sm2 := sm.trans s2
      generalize upd H2 Ta (.tup [.int (i : Nat), .int (es.getD i 0)]) = H3 at *
      obtain ⟨z, hz⟩ : ∃ z, es.getD i 0 = z := ⟨_, rfl⟩
      rw [hz] at eT
      have out : Bad (psOf us) es i → Q (.int (i : Nat)) H3 := fun b => q (some i) H3 (s1.trans sm2) ⟨hi, b, nb⟩
      refine ⟨Ta, _, rfl, SqT.of eT, rfl, _, _, rfl, _, _, rfl, rfl, ?_⟩
      refine ⟨_, rfl, _, _, rfl, rfl, _, rfl, ?_⟩
      by_cases c0 : 0 ≤ z
      · refine if_t (decide_eq_true c0) ⟨_, rfl, e, _, rfl, .inl (SqL.of (sm2 _ _ ee)), _, _, rfl, rfl, _, rfl, ?_⟩
        rw [vsOf_len]
        by_cases c1 : z < (us.length : Int)
        · refine if_f (by rw [decide_eq_true c1]; rfl) ?_
          have hin : Inr (psOf us) z := ⟨c0, by rw [psB_len]; exact c1⟩
          obtain ⟨x, hx, hx2⟩ := prt_at hin
          have ex := sm2 _ _ (s1 _ _ (ed x (List.mem_of_getElem? hx)))
          have hat : atI (vsOf us) z = some (.ref x.1) := by
            rw [show z = ((z.toNat : Nat) : Int) by omega]
            exact atI_nat (vsB_get hx)
          refine ⟨_, rfl, _, rfl, e, _, _, _, rfl, rfl, SqL.of (sm2 _ _ ee), hat, ?_⟩
          refine ⟨x.1, _, rfl, SqT.of ex, rfl, _, _, rfl, _, _, rfl, rfl, ?_⟩
          have fin : ¬ Bad (psOf us) es i → ∃ v4 v5 v6 v7 : Option V, [some (V.ref g), some (V.ref p), some (V.ref e), some (V.int x.2.2), some (V.int (i : Nat)), some (V.int z), some (V.int x.2.1), some (V.int x.2.2)] = [some (.ref g), some (.ref p), some (.ref e), some (stV (psOf us) es (i + 1)), v4, v5, v6, v7] ∧ Same H1 H3 ∧ ∀ j, j < i + 1 → ¬ Bad (psOf us) es j := fun b => by
            refine ⟨some (.int (i : Nat)), some (.int z), some (.int x.2.1), some (.int x.2.2), ?_, sm2, fun j hj => ?_⟩
            · unfold stV
              rw [if_neg (by omega), Nat.add_sub_cancel, hz, ← hx2]
            · by_cases ej : j = i
              · rw [ej]
                exact b
              · exact nb j (by omega)
          by_cases ci : i = 0
          · have e0 : stV (psOf us) es i = .non := by
              unfold stV
              rw [if_pos ci]
            rw [e0]
            refine ⟨_, rfl, rfl, _, rfl, if_f rfl (if_f rfl ⟨_, rfl, fin fun b => ?_⟩)⟩
            rcases b with b | ⟨b, _⟩
            · rw [hz] at b
              exact b hin
            · omega
          · have e0 : stV (psOf us) es i = .int (prt (psOf us) (es.getD (i - 1) 0)).2 := by
              unfold stV
              rw [if_neg ci]
            rw [e0]
            refine ⟨_, rfl, rfl, _, rfl, if_t rfl ⟨_, rfl, _, rfl, rfl, _, rfl, ?_⟩⟩
            by_cases cq : x.2.1 = (prt (psOf us) (es.getD (i - 1) 0)).2
            · refine if_f (by rw [dec_int', decide_eq_true cq]; rfl) ⟨_, rfl, fin fun b => ?_⟩
              rcases b with b | ⟨_, b⟩
              · rw [hz] at b
                exact b hin
              · rw [hz, ← hx2] at b
                exact b cq.symm
            · refine if_t (by rw [dec_int', decide_eq_false cq]; rfl) ⟨_, rfl, out (.inr ⟨by omega, ?_⟩)⟩
              rw [hz, ← hx2]
              exact fun z => cq z.symm
        · refine if_t (by rw [decide_eq_false c1]; rfl) ⟨_, rfl, out (.inl ?_)⟩
          rw [hz]
          exact fun h => c1 (by have := h.2; rw [psB_len] at this; exact this)
      · refine if_f (decide_eq_false c0) ⟨_, rfl, if_t rfl ⟨_, rfl, out (.inl ?_)⟩⟩
        rw [hz]
        exact fun h => c0 h.1
    · rintro σ H2 ⟨v4, v5, v6, v7, rfl, sm, nb⟩
      rw [List.length_map] at nb
      exact q none H2 (s1.trans sm) nb
end
end Lw
end
section
namespace Lw
open PySem PySem.Spec PyProof.Rows L2
open AutoSeq1 (wpAny_loadPart')
theorem tupMul_one (l : Addr) (items : Array Value) (n : Nat) (dd : Option Addr) (sl : Array (Option Value)) (u : Tok) :
    Meets (Builtin.«tuple.__mul__» ⟨[.ref l, .int 1 u], []⟩) (fun _ R s => s.heap.get? l = some { cls := .type "tuple", dict := dd, data := .seq items n, slots := sl } ∧ R (.ok (.ret (Value.ref l))) s) :=
  .of_wp fun prog w A R s h => by
    obtain ⟨hp, g, d, tk, os⟩ := s
    obtain ⟨hl, h⟩ := h
    have f1 := AutoSeq1.idx_int
    wp_walk using wpAny_loadPart' hl
    exact ⟨_, rfl, h⟩
section
variable {X : Cx}
def rRepA (K : PySem.W.Frag) : R2 := fun x y H Q => ∃ l k xs, x = .ref l ∧ y = .int k ∧ SqT K H l xs ∧ xs ≠ [] ∧ 1 ≤ k ∧ k ≤ 1000 ∧ xs.length ≤ 1000 ∧ (k = 1 → Q (.ref l) H) ∧ (2 ≤ k → ∀ p, H p = none → Q (.ref p) (upd H p (.tup (List.replicate k.toNat xs).flatten)))
theorem op_repA : OpR X (binaryOp .Mult) (rRepA X.K) := by
  intro pins s σ H x y v u Q I rx ry h
  obtain ⟨l, k, xs, rfl, rfl, hT, hne, h1, h2, hz, q1, q2⟩ := h
  by_cases hk : k = 1
  · subst hk
    cases rx
    obtain ⟨t, rfl⟩ := ry
    obtain ⟨its, r, ⟨⟨cls, dd, data, sl⟩, ho, hc, n, hd⟩, hs⟩ := I.tuple hT
    simp only at hc hd
    subst hc hd
    exact wpAny_binaryOp_repeat_ref (T := "tuple") (U := "int") (by decide) ⟨_, ho, rfl⟩ (fun s' => typeIs_int s' 1 t) noFill_tuple_mul PySem.F.fills_int_mul PySem.F.slot_int_rmul repeat_tuple PySem.F.slot_int_index.lookup
      (call_meets PySem.F.slot_int_rmul (typeIs_int s 1 t) PySem.F.entry_int_rmul (PySem.F.args_int_rmul_2 _ _) (int_rmul_tuple 1 t l its.toArray n dd sl)
        ⟨ho, rfl, ⟨_, ho, rfl⟩, call_meets PySem.F.slot_tuple_mul ⟨_, ho, rfl⟩ PySem.F.entry_tuple_mul (PySem.F.args_tuple_mul_2 _ _) (tupMul_one l its.toArray n dd sl t) ⟨ho, .ref l, H, I, rfl, q1 rfl⟩⟩)
  · exact op_repT pins s σ H _ _ v u Q I rx ry ⟨l, k, xs, rfl, rfl, hT, hne, by omega, h2, hz, q2 (by omega)⟩
end
end Lw
end
section
namespace Lw
open PySem L2
theorem rep_len (l : List Int) (k : Nat) : ((List.replicate k l).flatten).length = k * l.length := by
  rw [List.length_flatten, List.map_replicate, List.sum_replicate_nat]
end Lw
end
section
set_option autoImplicit false
namespace Lw
open PySem L2
def nS (s : Nat → Int) (n : Nat) : List Nat := (List.range n).map fun k => (s k).toNat
def wS (L : Nat) (s : Nat → Int) (i : Nat) : List Nat := (List.range L).map fun k => (s (i + k)).toNat
theorem inr_lt {us : Es} {e : Int} (h : Inr (psOf us) e) : e.toNat < us.length := by
  obtain ⟨h0, h1⟩ := h
  unfold psOf at h1
  rw [List.length_map] at h1
  omega
theorem src_prt {us : Es} {e : Int} (h : Inr (psOf us) e) : srcE us e.toNat = (prt (psOf us) e).1.toNat := by
  have hl : e.toNat < (psOf us).length := by unfold psOf; rw [List.length_map]; exact inr_lt h
  rw [srcE_ps, List.getElem?_eq_getElem hl]
  unfold prt
  simp [List.getD, hl]
theorem tgt_prt {us : Es} {e : Int} (h : Inr (psOf us) e) : tgtE us e.toNat = (prt (psOf us) e).2.toNat := by
  have hl : e.toNat < (psOf us).length := by unfold psOf; rw [List.length_map]; exact inr_lt h
  rw [tgtE_ps, List.getElem?_eq_getElem hl]
  unfold prt
  simp [List.getD, hl]
end Lw
end
section
set_option autoImplicit false
namespace Lw
open PySem L2
theorem lmD_app {es : List Int} {z : Int} {i : Nat} (h : i < es.length) : (es ++ [z]).getD i 0 = es.getD i 0 := by
  simp [List.getD, List.getElem?_append_left h]
theorem lmD_end {es : List Int} {z : Int} : (es ++ [z]).getD es.length 0 = z := by
  simp [List.getD]
theorem lmD_last {es : List Int} (h : es ≠ []) : es.getD (es.length - 1) 0 = es.getLastD 0 := by
  obtain ⟨d, y, rfl⟩ : ∃ d y, es = d ++ [y] := ⟨es.dropLast, es.getLast h, (List.dropLast_concat_getLast _).symm⟩
  rw [List.length_append, List.length_singleton, Nat.add_sub_cancel, List.getLastD_concat]
  simp [List.getD]
theorem fbn_snoc {ps : List (Int × Int)} {es : List Int} {z : Int} : FB ps (es ++ [z]) none ↔ FB ps es none ∧ Inr ps z ∧ (es ≠ [] → (prt ps (es.getLastD 0)).2 = (prt ps z).1) := by
  have low : ∀ i, i < es.length → (Bad ps (es ++ [z]) i ↔ Bad ps es i) := fun i hi => by
    unfold Bad
    rw [lmD_app hi, lmD_app (show i - 1 < es.length by omega)]
  have top : Bad ps (es ++ [z]) es.length ↔ ¬ Inr ps z ∨ (0 < es.length ∧ (prt ps (es.getD (es.length - 1) 0)).2 ≠ (prt ps z).1) := by
    unfold Bad
    rw [lmD_end]
    by_cases h : 0 < es.length
    · rw [lmD_app (show es.length - 1 < es.length by omega)]
    · constructor
      · rintro (a | ⟨a, _⟩)
        · exact .inl a
        · exact absurd a h
      · rintro (a | ⟨a, _⟩)
        · exact .inl a
        · exact absurd a h
  constructor
  · intro h
    have h1 : ∀ i, i < es.length → ¬ Bad ps es i := fun i hi b => h i (by rw [List.length_append]; omega) ((low i hi).mpr b)
    have h2 := h es.length (by rw [List.length_append, List.length_singleton]; omega)
    rw [top] at h2
    refine ⟨h1, Classical.byContradiction fun z => h2 (.inl z), fun ne => ?_⟩
    rw [← lmD_last ne]
    exact Classical.byContradiction fun z => h2 (.inr ⟨List.length_pos_iff.mpr ne, z⟩)
  · rintro ⟨h1, h2, h3⟩ i hi b
    rw [List.length_append, List.length_singleton] at hi
    by_cases c : i < es.length
    · exact h1 i c ((low i c).mp b)
    · obtain rfl : i = es.length := by omega
      rcases top.mp b with b | ⟨hp, b⟩
      · exact b h2
      · have ne := List.length_pos_iff.mp hp
        rw [lmD_last ne] at b
        exact b (h3 ne)
section
variable {us ws : Es} {n : Nat} {L : Nat} {im : List Nat → Nat}
theorem prt_nn (rg : ∀ e ∈ us, 0 ≤ e.2.1 ∧ e.2.1 < (n : Int) ∧ 0 ≤ e.2.2 ∧ e.2.2 < (n : Int)) {e : Int} (h : Inr (psOf us) e) : 0 ≤ (prt (psOf us) e).1 ∧ 0 ≤ (prt (psOf us) e).2 := by
  have hl := inr_lt h
  have hp : (psOf us)[e.toNat]? = some us[e.toNat].2 := by
    unfold psOf
    rw [List.getElem?_map, List.getElem?_eq_getElem hl]
    rfl
  obtain ⟨a, _, b, _⟩ := rg _ (List.getElem_mem hl)
  unfold prt
  simp only [List.getD, hp]
  exact ⟨a, b⟩
theorem inr_nat {x : Nat} : Inr (psOf us) (x : Int) ↔ x < us.length := by
  unfold Inr psOf
  rw [List.length_map]
  omega
theorem last_cast {p : List Nat} (h : p ≠ []) : (p.map fun (k : Nat) => (k : Int)).getLastD 0 = ((p.getLastD 0 : Nat) : Int) := by
  obtain ⟨d, y, rfl⟩ : ∃ d y, p = d ++ [y] := ⟨p.dropLast, p.getLast h, (List.dropLast_concat_getLast _).symm⟩
  rw [List.map_append, List.getLastD_concat]
  show (_ ++ [((y : Nat) : Int)]).getLastD 0 = _
  rw [List.getLastD_concat]
theorem lnk_iff (rg : ∀ e ∈ us, 0 ≤ e.2.1 ∧ e.2.1 < (n : Int) ∧ 0 ≤ e.2.2 ∧ e.2.2 < (n : Int)) : ∀ (m : Nat) (p : List Nat), p.length = m → (Lnk us p ↔ FB (psOf us) (p.map fun (k : Nat) => (k : Int)) none)
  | 0, p, h => by
    obtain rfl := List.eq_nil_of_length_eq_zero h
    exact ⟨fun _ i hi => absurd hi (Nat.not_lt_zero i), fun _ => True.intro⟩
  | m + 1, p, h => by
    obtain ⟨d, y, rfl⟩ : ∃ d y, p = d ++ [y] := ⟨p.dropLast, p.getLast (fun z => by rw [z] at h; cases h), (List.dropLast_concat_getLast _).symm⟩
    rw [List.length_append, List.length_singleton] at h
    have ih := lnk_iff rg m d (by omega)
    rw [List.map_append]
    show _ ↔ FB (psOf us) (_ ++ [((y : Nat) : Int)]) none
    rw [lnk_snoc, fbn_snoc, ih, inr_nat]
    refine and_congr_right fun hd => and_congr_right fun hy => ?_
    have hy2 : Inr (psOf us) (y : Int) := inr_nat.mpr hy
    have sy := src_prt hy2
    rw [Int.toNat_natCast] at sy
    have key : ∀ ne : d ≠ [], (srcE us y = tgtE us (d.getLastD 0) ↔ (prt (psOf us) ((d.map fun (k : Nat) => (k : Int)).getLastD 0)).2 = (prt (psOf us) (y : Int)).1) := fun ne => by
      rw [last_cast ne]
      have hl : d.getLastD 0 < us.length := lnk_lt (ih.mpr hd) _ (by
        obtain ⟨d0, x, rfl⟩ : ∃ d0 x, d = d0 ++ [x] := ⟨d.dropLast, d.getLast ne, (List.dropLast_concat_getLast _).symm⟩
        rw [List.getLastD_concat]
        simp)
      have hl2 : Inr (psOf us) ((d.getLastD 0 : Nat) : Int) := inr_nat.mpr hl
      have ty := tgt_prt hl2
      rw [Int.toNat_natCast] at ty
      have a := (prt_nn rg hy2).1
      have b := (prt_nn rg hl2).2
      rw [sy, ty]
      omega
    constructor
    · intro k ne
      have ne2 : d ≠ [] := fun z => ne (by rw [z]; rfl)
      exact (key ne2).mp (k ne2)
    · intro k ne
      exact (key ne).mpr (k fun z => ne (List.map_eq_nil_iff.mp z))
end
end Lw
end
section
namespace Lw
abbrev Ps := List (Int × Int)
theorem psL_len (us : Es) : (psOf us).length = us.length := by
  unfold psOf
  rw [List.length_map]
structure VaP (n : Int) (ps : Ps) : Prop where
  rg : ∀ p ∈ ps, 0 ≤ p.1 ∧ p.1 < n ∧ 0 ≤ p.2 ∧ p.2 < n
  sr : ∀ k : Int, 0 ≤ k → k < n → ∃ p ∈ ps, p.1 = k
theorem Valid.ps {n : Int} {ts : Es} (h : Valid n ts) : VaP n (psOf ts) := by
  refine ⟨fun p hp => ?_, fun k k0 k1 => ?_⟩
  · obtain ⟨e, he, rfl⟩ := List.mem_map.mp hp
    exact h.rg e he
  · obtain ⟨e, he, ek⟩ := h.sr k k0 k1
    exact ⟨e.2, List.mem_map.mpr ⟨e, he, rfl⟩, ek⟩
theorem VaP.es {n : Int} {ts : Es} (h : VaP n (psOf ts)) : Valid n ts := by
  refine ⟨fun e he => h.rg e.2 (List.mem_map.mpr ⟨e, he, rfl⟩), fun k k0 k1 => ?_⟩
  obtain ⟨p, hp, ek⟩ := h.sr k k0 k1
  obtain ⟨e, he, rfl⟩ := List.mem_map.mp hp
  exact ⟨e, he, ek⟩
def colL (n : Nat) (ps : Ps) (i : Nat) : List Int := (List.range n).map fun r => cnt ps r i
def pickd (n : Nat) (ps : Ps) (i d : Nat) : List (Int × Int) := if colL n ps i = colL n ps (i + 1 + d) then [((i : Int), ((i + 1 + d : Nat) : Int))] else []
def mrow (n : Nat) (ps : Ps) (i m : Nat) : Ps := (List.range m).flatMap (pickd n ps i)
def mrgsTo (n : Nat) (ps : Ps) (m : Nat) : Ps := (List.range m).flatMap fun i => mrow n ps i (n - (i + 1))
def mrgs (n : Nat) (ps : Ps) : Ps := mrgsTo n ps n
def nmS (a b s : Int) : Int := if s = b then a else if b < s then s - 1 else s
def mrgP (a b : Int) (ps : Ps) : Ps := (ps.filter fun p => decide (p.2 ≠ b)).map fun p => (nmS a b p.1, nmS a b p.2)
def lst : Nat → Ps → Ps × Nat × Ps
  | 0, ps => ([], 0, ps)
  | n + 1, ps => match mrgs (n + 1) ps with
    | [] => ([], n + 1, ps)
    | p :: _ => (p :: (lst n (mrgP p.1 p.2 ps)).1, (lst n (mrgP p.1 p.2 ps)).2)
end Lw
end
section
namespace Lw
open PySem L2
structure LsAt (H : Hp) (D : Addr) (us : Es) : Prop where
  ls : H D = some (.lst (vsOf us))
  ed : Ed H us
theorem LsAt.same {H H' : Hp} {D : Addr} {us : Es} (h : LsAt H D us) (s : Same H H') : LsAt H' D us := ⟨s _ _ h.ls, h.ed.same s⟩
theorem psOf_app (us vs : Es) : psOf (us ++ vs) = psOf us ++ psOf vs := by
  unfold psOf
  rw [List.map_append]
theorem LsAt.snoc {H H4 : Hp} {D tt : Addr} {us : Es} {x y : Int} (L : LsAt H4 D us) (e : H4 tt = some (.tup [.int x, .int y])) (nt : tt ≠ D) : LsAt (upd H4 D (.lst (vsOf us ++ [.ref tt]))) D (us ++ [(tt, x, y)]) := by
  refine ⟨?_, fun z hz => ?_⟩
  · rw [upd_same]
    unfold vsOf
    rw [List.map_append]
    rfl
  · rcases List.mem_append.mp hz with hz | hz
    · have := L.ed z hz
      rw [upd_ne fun w => ?_]
      · exact this
      · rw [w, L.ls] at this
        cases this
    · rw [List.mem_singleton.mp hz, upd_ne nt]
      exact e
theorem make_same {C : Addr} {H : Hp} {g dx : Addr} (hg : H g = none) (hdx : H dx = none) (ne : dx ≠ g) : Same H (upd (upd H dx (.own g)) g (.ins C dx [])) := by
  refine (same_upd hdx).trans (same_upd ?_)
  rw [upd_ne (Ne.symm ne)]
  exact hg
end Lw
end
section
namespace Lw
open PySem L2
section
variable {P : Program} {w : World} {K : PySem.W.Frag} {mg : Str → Option Value} {base : Heap} {f : Addr} {fd : FuncData} {k : Nat}
theorem es_at {ts : Es} {e : Addr × Int × Int} {j : Nat} (h : ts[j]? = some e) : atI (vsOf ts) (j : Int) = some (.ref e.1) := by
  refine atI_nat ?_
  unfold vsOf
  rw [List.getElem?_map, h]
  rfl
end
end Lw
end
section
namespace Lw
open PySem L2
def spEdge0 (C : Addr) : Sp := fun vs H Q _ => ∃ (g : Addr) (n : Int) (us : Es) (i : Nat) (e : Addr × Int × Int), vs = [.ref g, .int (i : Int)] ∧ GraphAt C H g n us ∧ us[i]? = some e ∧ Q (.ref e.1) H
section
variable {P : Program} {w : World} {K : PySem.W.Frag} {mg : Str → Option Value} {base : Heap}
theorem scEdge : FnScope ["self", "number"] ["self", "number"] (defScope sEdge) := ⟨rfl, rfl, rfl, by decide +kernel, rfl, by decide +kernel, by decide +kernel⟩
theorem ok_edge0 {f C : Addr} {mc : Value} {fd : FuncData} {k : Nat} (F : Fun K "edge" "Graph.edge" sEdge f fd) (T : Bi mg) (G : GTxt K mg C mc) : FnOk P w K mg base CX0 (k + 1) f fd ["self", "number"] (spEdge0 C) := by
  refine F.ok scEdge (fun vs H Q E h => ?_) (fun cdv A outer s H vs Q E hr h => ?_)
  · obtain ⟨g, n, us, i, e, rfl, _⟩ := h
    rfl
  · obtain ⟨g, n, us, i, e, rfl, ⟨⟨dx, t, h1, h2⟩, ed⟩, hi, q⟩ := h
    refine ⟨_, pss_cons (ps_if (pt_not (pt_chain op_le op_lt pe_int (pv 1) (pe_callB call_len_seq (by rfl) T.len PySem.boot_len (pa_cons (pe_fld (pv 0) rfl) pa_nil)))) (pss_one ps_never) pss_nil)
      (pss_one (ps_ret (pe_ix ix_tup (pe_fld (pv 0) rfl) (pv 1) (fun _ _ => rfl)))), ?_⟩
    have hlt : i < us.length := (List.getElem?_eq_some_iff.mp hi).1
    refine ⟨_, rfl, _, _, rfl, rfl, _, rfl, if_t (decide_eq_true (by omega)) ⟨_, rfl, g, C, dx, _, _, rfl, h1, G.cl, G.nE, look_e _ _, t, _, rfl, .inr (SqT.of h2), _, _, rfl, rfl, _, rfl, if_f (by rw [vsOf_len, decide_eq_true (by omega)]; rfl) ?_⟩⟩
    exact ⟨_, rfl, g, C, dx, _, _, rfl, h1, G.cl, G.nE, look_e _ _, _, rfl, t, _, _, _, rfl, rfl, SqT.of h2, es_at hi, q⟩
end
end Lw
end
section
namespace SrtO
open PySem PySem.Spec PyProof.Rows
def ltC (h : Heap) (B : Int) (v u : Value) : Bool := decide (TS.code B (TS.intsOf h v) < TS.code B (TS.intsOf h u))
theorem swo_code (h : Heap) (B : Int) : Swo (ltC h B) := by
  refine ⟨fun x y q => ?_, fun x y z q1 q2 => ?_⟩
  · have q := of_decide_eq_true (p := TS.code B (TS.intsOf h x) < TS.code B (TS.intsOf h y)) q
    exact decide_eq_false (by omega)
  · have q1 := of_decide_eq_false (p := TS.code B (TS.intsOf h y) < TS.code B (TS.intsOf h x)) q1
    have q2 := of_decide_eq_false (p := TS.code B (TS.intsOf h z) < TS.code B (TS.intsOf h y)) q2
    exact decide_eq_false (by omega)
section
variable {prog : Program} {w : World} {A : Around} {E : Value → Shared → Prop} {s : Shared}
theorem tups_cmp {vs : List Value} {d : Nat} {B : Int} {h0 : Heap} (x : TS.TupsOk s.heap d B vs) (e0 : ∀ v ∈ vs, TS.intsOf h0 v = TS.intsOf s.heap v) : Cmp prog w A s (tuples' true) (fun p => p.1 ∈ vs) (lt2 (ltC h0 B)) := by
  intro p q hm hm'
  obtain ⟨ns, tp, lp, bp⟩ := x _ hm
  obtain ⟨ms, tq, lq, bq⟩ := x _ hm'
  have ep := (e0 _ hm).trans tp.ints
  have eq := (e0 _ hm').trans tq.ints
  show wpAny (model prog w) A (keyLt' (tuples' true) p.1 q.1) (fun r s' => s' = s ∧ r = ltC h0 B p.1 q.1) (fun _ _ => False) s
  have el : ltC h0 B p.1 q.1 = decide (TS.code B ns < TS.code B ms) := by
    unfold ltC
    rw [ep, eq]
  rw [el]
  obtain ⟨a, xs, e1, ⟨o, ho, hc, n, hdt⟩, i⟩ := tp
  obtain ⟨a', ys, e2, ⟨o', ho', hc', n', hdt'⟩, i'⟩ := tq
  rw [e1, e2]
  refine PySem.W.kat_lt ho hdt ho' hdt' ?_
  have sz : decide (xs.size < ys.size) = false := by
    have l1 := i.length
    have l2 := i'.length
    rw [Array.length_toList] at l1 l2
    exact decide_eq_false (by omega)
  rw [sz]
  exact TS.lex_ints 0 i i' (by omega) bp bq ⟨rfl, rfl⟩
theorem ints_keep {h h' : Heap} {v : Value} {ns : List Int} (x : TS.TupInts h v ns) (k : ∀ b o, h.get? b = some o → o.cls = .type "tuple" → h'.get? b = some o) : TS.intsOf h v = TS.intsOf h' v := by rw [x.ints, (x.keeps k).ints]
theorem tups_sortable {a : Addr} {vs : List Value} {d : Nat} {B : Int} {h0 : Heap} (h1 : 0 < vs.length) (hd : 1 ≤ d) (x : TS.TupsOk s.heap d B vs) (e0 : ∀ v ∈ vs, TS.intsOf h0 v = TS.intsOf s.heap v) (ha : ∀ o, s.heap.get? a = some o → o.cls ≠ .type "tuple") : SortableO prog w A s a vs (ltC h0 B) := by
  intro h' keep
  have kk : ∀ b o, s.heap.get? b = some o → o.cls = .type "tuple" → h'.get? b = some o := fun b o e c => keep b o (fun z => by subst z; exact ha o e c) e
  have x' : TS.TupsOk h' d B vs := x.keeps kk
  obtain ⟨fs, g1, g2, g3⟩ := TS.firsts_of hd vs x'
  refine ⟨tuples' true, fun Q E hq => ?_, tups_cmp (s := { s with heap := h' }) x' fun v hv => ?_⟩
  · refine PySem.W.kat_kind (T := .type "int") g1 (by omega) (fun f hm => ?_) (by rfl) ?_
    · obtain ⟨y, t, rfl⟩ := g3 f hm
      exact PySem.W.Looks.now
    · have e : (Value.type "int" != Value.type "tuple") = true := by first | decide +kernel | rfl | decide
      rw [e]
      exact hq
  · obtain ⟨ns, t, _⟩ := x v hv
    exact (e0 v hv).trans (ints_keep t kk)
end
end SrtO
namespace L2
open PySem PySem.Spec PyProof.Rows
def rSortTO (K : PySem.W.Frag) (d : Nat) (B : Int) : List V → Hp → VK → Prop := fun vs H Q => ∃ (a : Addr) (xs : List V), vs = [V.ref a] ∧ SqL K H a xs ∧ (∀ x ∈ xs, ∃ ns, TupI K H x ns ∧ ns.length = d ∧ TS.Bd B ns) ∧
  ∀ (ys : List V) (p : Addr), ys.Perm xs → ys.Pairwise (fun x y => ∀ n m, TupI K H x n → TupI K H y m → TS.code B n ≤ TS.code B m) → H p = none → Q (.ref p) (upd H p (.lst ys))
section
variable {X : Cx} {pins : List (Addr × Obj)} {σ : St} {H : Hp} {s : Shared}
theorem cr_sortTO {d : Nat} {B : Int} (hd : 1 ≤ d) : CallR X (.builtin "sorted") (rSortTO X.K d B) := by
  intro pins s σ H vs us Q I r h
  obtain ⟨a, xs, rfl, hs, hx, q⟩ := h
  obtain ⟨its, rv, hl, hz⟩ := I.list hs
  rw [Vals.ref1 r]
  obtain ⟨e1, e2⟩ := bkV_refs rv fun x m => by
    obtain ⟨ns, ⟨t, e, _⟩, _⟩ := hx x m
    exact ⟨t, e⟩
  have ok : TS.TupsOk s.heap d B its := fun v hv => by
    obtain ⟨t, rfl⟩ := e2 v hv
    have hm : V.ref t ∈ xs := by
      rw [e1]
      exact List.mem_map.mpr ⟨_, hv, rfl⟩
    obtain ⟨ns, ⟨t', e, ht⟩, hn, hb⟩ := hx _ hm
    cases e
    exact ⟨ns, tupI_raw I ht, hn, hb⟩
  refine SrtO.sorted_ord (ltv := SrtO.ltC s.heap B) (SrtO.swo_code _ _) hl.isList (by rw [← rv.length]; exact hz) (fun h2 h₁ a' ha kk => ?_) fun out h1 h2 => ?_
  · refine SrtO.tups_sortable (s := { s with heap := h₁ }) (by omega) hd (ok.keeps fun b o e _ => (kk b o e).2) (fun v hv => ?_) fun o e => ?_
    · obtain ⟨ns, t, _⟩ := ok v hv
      exact SrtO.ints_keep t fun b o e _ => (kk b o e).2
    · have e' : some o = some (seqObj "list" its.toArray 0) := e.symm.trans ha
      cases e'
      intro c
      exact absurd (Value.type.inj c) (by decide)
  · obtain ⟨ep, he'⟩ := PyProof.Rows.sortedAll_at s.heap its out.toArray
    have h3 : ∀ u ∈ out, ∃ a, u = Value.ref a := fun u hu => e2 u (h2.perm.mem_iff.mp hu)
    have hp : (out.map bkV).Perm xs := by
      rw [e1]
      exact h2.perm.map bkV
    have hlen : (out.map bkV).length ≤ sizeLine := by
      rw [hp.length_eq]
      exact hz
    refine ⟨.ref _, upd H (s.heap.objs.size + 1) (.lst (out.map bkV)), I.laid (t' := s.toks) (fun _ _ => PyProof.Rows.sortedAll_old) (Nat.le_succ _) ⟨hlen, out, ep, bkV_vals h3, he'⟩, rfl, q _ _ hp ?_ (I.hok.fresh (Nat.le_succ _))⟩
    rw [List.pairwise_map]
    refine List.Pairwise.imp (fun {u v} huv n m hn hm => ?_) h1
    obtain ⟨t, et, ht⟩ := hn
    obtain ⟨t', et', ht'⟩ := hm
    have i1 : TS.intsOf s.heap u = n := by
      rw [bkV_ref et]
      exact (tupI_raw I ht).ints
    have i2 : TS.intsOf s.heap v = m := by
      rw [bkV_ref et']
      exact (tupI_raw I ht').ints
    have z := of_decide_eq_false (p := TS.code B (TS.intsOf s.heap v) < TS.code B (TS.intsOf s.heap u)) huv
    rw [i1, i2] at z
    omega
end
end L2
end
section
set_option autoImplicit false
namespace Lw
open PySem L2
theorem sel_lv {n : Nat} {us : Es} (rg : ∀ e ∈ us, 0 ≤ e.2.1 ∧ e.2.1 < n ∧ 0 ≤ e.2.2 ∧ e.2.2 < n) (i : Nat) : (sel (fstIs (i : Int)) (psOf us) us.length).map V.int = nW (lvF us i) := by
  unfold sel nW lvF
  rw [List.map_map]
  have e : ((List.range us.length).filter fun j => ((psOf us)[j]?.map (fstIs (i : Int))).getD false) = (List.range us.length).filter fun e => srcE us e == i := by
    refine List.filter_congr fun j hj => ?_
    have hj := List.mem_range.mp hj
    have hg : us[j]? = some us[j] := List.getElem?_eq_getElem hj
    have hp : (psOf us)[j]? = some us[j].2 := by unfold psOf; rw [List.getElem?_map, hg]; rfl
    rw [hp]
    show decide (us[j].2.1 = (i : Int)) = (srcE us j == i)
    rw [(e_src rg hg).1]
    by_cases h : srcE us j = i
    · rw [h]; simp
    · rw [decide_eq_false (by omega), beq_eq_false_iff_ne.mpr h]
  rw [e]
  rfl
theorem lv_of {P : Program} {w : World} {K : PySem.W.Frag} {mg : Str → Option Value} {base : Heap} {k : Nat} {f C : Addr} {fd : FuncData} {ps : List Str} (F : FnOk P w K mg base CX0 k f fd ps (spAll C fstIs)) : FnOk P w K mg base CX0 k f fd ps (spLv C) := by
  have h : ∀ vs H Q E, spLv C vs H Q E → spAll C fstIs vs H Q E := by
    rintro vs H Q E ⟨g, n, us, i, rfl, G, hi, go⟩
    refine ⟨g, n, us, i, rfl, G.gr, by omega, by omega, by have := G.m24; omega, fun p H' s np e => go p H' s np ?_⟩
    rw [e, sel_lv G.rg]
  exact ⟨fun vs H Q E z => F.len vs H Q E (h vs H Q E z), fun A outer s H args us vs Q E hr e0 hb rv z => F.run A outer s H args us vs Q E hr e0 hb rv (h _ _ _ _ z)⟩
end Lw
end
section
set_option autoImplicit false
namespace Lw
open PySem L2
def rgE (n : Nat) : Es := (List.range n).map fun (k : Nat) => ((0 : Addr), (k : Int), (((k + 1) % n : Nat) : Int))
def rgDue (n : Nat) : List (List Nat) := if 40 % n = 0 then (List.range n).map fun k => (List.range 40).map fun j => (k + j) % n else []
theorem ring_cls : ∀ n, n < 9 → 1 ≤ n → clsL (rgE n) 40 = rgDue n := by decide +kernel
def twE : Es := [(0, 0, 1), (0, 1, 2), (0, 2, 0), (0, 0, 3), (0, 3, 4), (0, 4, 5), (0, 5, 6), (0, 6, 0)]
theorem tw_8 : (clsL twE 8).length = 8 := by decide +kernel
theorem tw_11 : (clsL twE 11).length = 11 := by decide +kernel
theorem tw_15 : (clsL twE 15).length = 8 := by decide +kernel
theorem tw_16 : (clsL twE 16).length = 24 := by decide +kernel
theorem tw_7 : (clsL twE 7).length = 0 := by decide +kernel
theorem tw_3 : clsL twE 3 = [[0, 1, 2], [1, 2, 0], [2, 0, 1]] := by decide +kernel
theorem ps_cls {us ts : Es} (h : psOf us = psOf ts) (L : Nat) : clsL us L = clsL ts L := by
  have e : closedP us = closedP ts := funext fun q => by
    unfold closedP
    rw [ps_tgt h, ps_src h]
  unfold clsL
  rw [ps_win h, e]
theorem lk_tw {H : Hp} {D E : Addr} {as bs : List Addr} {st : List (List Nat)} {k : Nat} (h1 : H D = some (.lst (as.map V.ref))) (h2 : H E = some (.lst (bs.map V.ref))) (t1 : TW H as st) (t2 : TW H bs st) (l : st.length ≤ 1000) (ll : ∀ p ∈ st, p.length ≤ 1000) : Lk H (k + 3) (.ref D) (.ref E) := by
  refine .inr (.inl ⟨D, E, _, _, rfl, rfl, h1, h2, by rw [List.length_map, List.length_map, t1.len, t2.len], by rw [List.length_map, t1.len]; exact l, fun i u v hu hv => ?_⟩)
  rw [List.getElem?_map] at hu hv
  obtain ⟨a, ha, rfl⟩ := Option.map_eq_some_iff.mp hu
  obtain ⟨b, hb, rfl⟩ := Option.map_eq_some_iff.mp hv
  have hi : i < st.length := by rw [← t1.len]; exact (List.getElem?_eq_some_iff.mp ha).1
  obtain ⟨a', ha', ea⟩ := t1.at (List.getElem?_eq_getElem hi)
  obtain ⟨b', hb', eb⟩ := t2.at (List.getElem?_eq_getElem hi)
  rw [ha] at ha'
  rw [hb] at hb'
  cases ha'
  cases hb'
  have lp := ll _ (List.getElem_mem hi)
  refine .inr (.inr ⟨a, b, _, _, rfl, rfl, ea, eb, rfl, by rw [nW_len]; exact lp, fun j u v hu hv => ?_⟩)
  have e : u = v := Option.some.inj (hu.symm.trans hv)
  subst e
  have hj : j < (st[i]).length := by
    have := (List.getElem?_eq_some_iff.mp hu).1
    rwa [nW_len] at this
  rw [nW_at hj] at hu
  cases hu
  exact .inl ⟨rfl, rfl⟩
theorem eqv_tI (zs : List (List Nat)) : PyData.eqv (.list (tI zs)) (.list (tI zs)) = true := PySem.SeqAt.eqv_refl _ (tI_lay zs)
theorem dpl_tw {K : PySem.W.Frag} {H : Hp} {D : Addr} {as : List Addr} {zs : List (List Nat)} (h : H D = some (.lst (as.map V.ref))) (t : TW H as zs) : Dp K H (.ref D) (.list (tI zs)) := .lst (SqL.of h) (dp_tw t)
def spIsP (C : Addr) : Sp := fun vs H Q _ => ∃ (g : Addr) (n : Nat) (us : Es) (p : Addr) (es : List Nat), vs = [.ref g, .ref p] ∧ GrN C H g n us ∧ H p = some (.tup (nW es)) ∧ es.length ≤ 1000 ∧ Lnk us es ∧ ∀ H', Same H H' → Q (.bl true) H'
section
variable {P : Program} {w : World} {K : PySem.W.Frag} {mg : Str → Option Value} {base : Heap}
theorem scIsP : FnScope ["graph", "path"] ["graph", "path"] (defScope sIsP) := ⟨rfl, rfl, rfl, by decide +kernel, rfl, by decide +kernel, by decide +kernel⟩
theorem ok_isP {f C : Addr} {fd : FuncData} {k : Nat} (F : Fun K "is_path" "is_path" sIsP f fd) (cB : C8.Cal P w K mg base 2 "first_break" (spBreak C) []) : FnOk P w K mg base CX0 (k + 3) f fd ["graph", "path"] (spIsP C) := by
  refine F.ok scIsP (fun vs H Q E h => ?_) (fun cdv A outer s H vs Q E hr h => ?_)
  · obtain ⟨g, n, us, p, es, rfl, _⟩ := h
    rfl
  · obtain ⟨g, n, us, p, es, rfl, G, ep, le, lk, q⟩ := h
    refine ⟨_, pss_one (ps_ret (pe_cmpR op_isN (C8.pe_c cB hr (by omega) (by rfl) (pa_cons (pv 0) (pa_cons (pv 1) pa_nil))) pe_non (nomark _))), ?_⟩
    have fb := (lnk_iff G.rg _ es rfl).mp lk
    refine ⟨_, rfl, _, rfl, g, (n : Int), us, p, es.map fun (k : Nat) => (k : Int), rfl, G.gr, ?_, by rw [List.length_map]; exact le, fun r H' s fb' => ?_⟩
    · show H p = some (.tup ((es.map fun (k : Nat) => (k : Int)).map V.int))
      rw [ep, List.map_map]
      rfl
    · cases FB.uniq fb fb'
      exact ⟨rfl, q H' s⟩
end
namespace K5
theorem cr_sortTOx {X : Cx} : CallR X (.builtin "sorted") (fun vs H Q => ∃ (d : Nat) (B : Int), 1 ≤ d ∧ rSortTO X.K d B vs H Q) := by
  intro pins s σ H vs us Q I r h
  obtain ⟨d, B, hd, h⟩ := h
  exact cr_sortTO hd pins s σ H vs us Q I r h
end K5
theorem nW_int (p : List Nat) : nW p = (p.map fun (k : Nat) => ((k : Nat) : Int)).map V.int := by
  unfold nW
  rw [List.map_map]
  rfl
def itN : V → Nat
  | .int i => i.toNat
  | _ => 0
def rdL (H : Hp) (a : Addr) : List Nat := match H a with
  | some (.tup xs) => xs.map itN
  | _ => []
theorem rd_of {H : Hp} {a : Addr} {p : List Nat} (h : H a = some (.tup (nW p))) : rdL H a = p := by
  unfold rdL
  rw [h]
  show (nW p).map itN = p
  unfold nW
  rw [List.map_map]
  exact (List.map_congr_left fun k _ => Int.toNat_natCast k).trans (List.map_id' _)
theorem tw_map {H : Hp} : ∀ {as : List Addr} {zs : List (List Nat)}, TW H as zs → zs = as.map (rdL H) ∧ ∀ a ∈ as, H a = some (.tup (nW (rdL H a)))
  | [], [], _ => ⟨rfl, fun _ h => absurd h List.not_mem_nil⟩
  | a :: as, z :: zs, t => by
    obtain ⟨e, k⟩ := tw_map t.2
    refine ⟨by rw [List.map_cons, rd_of t.1, ← e], fun b hb => ?_⟩
    rcases List.mem_cons.mp hb with q | q
    · rw [q, rd_of t.1]
      exact t.1
    · exact k b q
  | [], _ :: _, t => t.elim
theorem tw_of {H : Hp} : ∀ {as : List Addr}, (∀ a ∈ as, H a = some (.tup (nW (rdL H a)))) → TW H as (as.map (rdL H))
  | [], _ => True.intro
  | a :: as, h => ⟨h a (List.mem_cons_self ..), tw_of fun b hb => h b (List.mem_cons_of_mem _ hb)⟩
def unR : V → Addr
  | .ref a => a
  | _ => 0
theorem un_map (as : List Addr) : (as.map V.ref).map unR = as := by
  rw [List.map_map]
  exact (List.map_congr_left (g := fun a => a) fun k _ => rfl).trans (List.map_id' _)
theorem tw_perm {H : Hp} {as : List Addr} {zs : List (List Nat)} {ys : List V} (t : TW H as zs) (h : ys.Perm (as.map V.ref)) : ∃ bs : List Addr, ys = bs.map V.ref ∧ (∀ b ∈ bs, H b = some (.tup (nW (rdL H b)))) ∧ (bs.map (rdL H)).Perm zs := by
  obtain ⟨e, k⟩ := tw_map t
  have hp : (ys.map unR).Perm as := by
    have := h.map unR
    rwa [un_map] at this
  refine ⟨ys.map unR, ?_, fun b hb => k b (hp.mem_iff.mp hb), ?_⟩
  · rw [List.map_map]
    symm
    refine (List.map_congr_left (g := fun a => a) fun y hy => ?_).trans (List.map_id' _)
    obtain ⟨a, _, rfl⟩ := List.mem_map.mp (h.mem_iff.mp hy)
    rfl
  · rw [e]
    exact hp.map _
theorem sorted_tw {K : PySem.W.Frag} {H : Hp} {B : Int} {as : List Addr} {zs ws : List (List Nat)} {ys : List V} (t : TW H as zs) (hw : ws.Pairwise fun p q => cdI B p < cdI B q) (hz : zs.Perm ws) (h : ys.Perm (as.map V.ref))
    (hs : ys.Pairwise fun x y => ∀ n m, TupI K H x n → TupI K H y m → TS.code B n ≤ TS.code B m) : ∃ bs : List Addr, ys = bs.map V.ref ∧ TW H bs ws := by
  obtain ⟨bs, e, k, hp⟩ := tw_perm t h
  have e2 : bs.map (rdL H) = ws := by
    refine sort_uniq hw (hp.trans hz) ?_
    subst e
    rw [List.pairwise_map] at hs ⊢
    refine hs.imp_of_mem fun {a b} ha hb q => ?_
    refine q _ _ ⟨a, rfl, ?_⟩ ⟨b, rfl, ?_⟩
    · rw [← nW_int]
      exact SqT.of (k a ha)
    · rw [← nW_int]
      exact SqT.of (k b hb)
  exact ⟨bs, e, e2 ▸ tw_of k⟩
def ksL (H : Hp) (as : List Addr) : List (Addr × List Int) := as.map fun a => (a, (rdL H a).map fun (k : Nat) => ((k : Nat) : Int))
theorem ksL_ref (H : Hp) (as : List Addr) : (ksL H as).map (fun p => V.ref p.1) = as.map V.ref := by
  unfold ksL
  rw [List.map_map]
  rfl
theorem ksL_at {K : PySem.W.Frag} {H : Hp} {as : List Addr} {zs : List (List Nat)} (t : TW H as zs) : ∀ p ∈ ksL H as, SqT K H p.1 (p.2.map V.int) := by
  intro p hp
  obtain ⟨a, ha, rfl⟩ := List.mem_map.mp hp
  have := (tw_map t).2 a ha
  rw [nW_int] at this
  exact SqT.of this
theorem sorted_set_tw {H : Hp} {B : Int} {as : List Addr} {zs : List (List Nat)} {L L' : List (Addr × List Int)} (t : TW H as zs) (hz : zs.Pairwise fun p q => cdI B p < cdI B q) (nz : zs.Nodup) (h1 : ∀ p ∈ L, p ∈ ksL H as) (h2 : ∀ p ∈ ksL H as, p.2 ∈ L.map (·.2))
    (pm : L'.Perm L) (nd : (L'.map (·.2)).Nodup) (pw : L'.Pairwise fun q r => TS.code B q.2 ≤ TS.code B r.2) : ∃ bs : List Addr, (L'.map fun q => V.ref q.1) = bs.map V.ref ∧ TW H bs zs := by
  obtain ⟨ez, k⟩ := tw_map t
  have hm : ∀ p ∈ L', p.1 ∈ as ∧ p.2 = (rdL H p.1).map fun (k : Nat) => ((k : Nat) : Int) := fun p hp => by
    obtain ⟨a, ha, rfl⟩ := List.mem_map.mp (h1 p (pm.mem_iff.mp hp))
    exact ⟨ha, rfl⟩
  have inj : ∀ p q : List Nat, (p.map fun (k : Nat) => ((k : Nat) : Int)) = (q.map fun (k : Nat) => ((k : Nat) : Int)) → p = q := fun p q e => by
    have := congrArg (List.map Int.toNat) e
    rw [List.map_map, List.map_map] at this
    have id' : ∀ z : List Nat, z.map (Int.toNat ∘ fun (k : Nat) => ((k : Nat) : Int)) = z := fun z => (List.map_congr_left fun k _ => Int.toNat_natCast k).trans (List.map_id' _)
    rwa [id', id'] at this
  have e2 : L'.map (·.2) = ((L'.map (·.1)).map (rdL H)).map fun p => p.map fun (k : Nat) => ((k : Nat) : Int) := by
    rw [List.map_map, List.map_map]
    exact List.map_congr_left fun p hp => (hm p hp).2
  have nd2 : ((L'.map (·.1)).map (rdL H)).Nodup := by
    rw [e2] at nd
    exact List.Pairwise.of_map _ (fun a b h e => h (congrArg _ e)) nd
  have hp : ((L'.map (·.1)).map (rdL H)).Perm zs := by
    refine (List.perm_ext_iff_of_nodup nd2 nz).mpr fun w => ⟨fun hw => ?_, fun hw => ?_⟩
    · obtain ⟨a, ha, rfl⟩ := List.mem_map.mp hw
      obtain ⟨p, hp, rfl⟩ := List.mem_map.mp ha
      rw [ez]
      exact List.mem_map.mpr ⟨_, (hm p hp).1, rfl⟩
    · rw [ez] at hw
      obtain ⟨a, ha, rfl⟩ := List.mem_map.mp hw
      have := h2 _ (List.mem_map.mpr ⟨a, ha, rfl⟩)
      rw [← (pm.map (·.2)).mem_iff, e2] at this
      obtain ⟨w2, hw2, e3⟩ := List.mem_map.mp this
      rw [← inj _ _ e3]
      exact hw2
  have kk : ∀ a ∈ L'.map (·.1), H a = some (.tup (nW (rdL H a))) := fun a ha => by
    obtain ⟨p, hp, rfl⟩ := List.mem_map.mp ha
    exact k _ (hm p hp).1
  have e3 : (L'.map (·.1)).map (rdL H) = zs := by
    refine sort_uniq hz hp ?_
    rw [List.pairwise_map, List.pairwise_map]
    refine pw.imp_of_mem fun {a b} ha hb q => ?_
    rw [(hm a ha).2, (hm b hb).2] at q
    exact q
  refine ⟨L'.map (·.1), by rw [List.map_map]; rfl, e3 ▸ tw_of kk⟩
theorem grN_of {C : Addr} {H : Hp} {g : Addr} {n : Nat} {us ts : Es} (G : GraphAt C H g (n : Int) us) (e : psOf us = psOf ts) (va : VaP (n : Int) (psOf ts)) (n1 : 1 ≤ n) (n8 : n ≤ 8) (l : ts.length ≤ 24) : GrN C H g n us :=
  ⟨G, n1, n8, by rw [ps_len e]; exact l, fun x hx => va.rg x.2 (by rw [← e]; exact List.mem_map.mpr ⟨x, hx, rfl⟩)⟩
theorem src_int {us : Es} {i : Nat} {e : Addr × Int × Int} (h : us[i]? = some e) (h0 : 0 ≤ e.2.1) : e.2.1 = ((srcE us i : Nat) : Int) := by
  unfold srcE
  rw [h]
  exact (Int.toNat_of_nonneg h0).symm
theorem tgt_int {us : Es} {i : Nat} {e : Addr × Int × Int} (h : us[i]? = some e) (h0 : 0 ≤ e.2.2) : e.2.2 = ((tgtE us i : Nat) : Int) := by
  unfold tgtE
  rw [h]
  exact (Int.toNat_of_nonneg h0).symm
theorem rg_len (n : Nat) : (rgE n).length = n := by unfold rgE; rw [List.length_map, List.length_range]
theorem rg_va {n : Nat} (h : 1 ≤ n) : VaP (n : Int) (psOf (rgE n)) := by
  have e : psOf (rgE n) = (List.range n).map fun (k : Nat) => ((k : Int), (((k + 1) % n : Nat) : Int)) := by
    unfold psOf rgE
    rw [List.map_map]
    rfl
  rw [e]
  refine ⟨fun p hp => ?_, fun k k0 k1 => ?_⟩
  · obtain ⟨i, hi, rfl⟩ := List.mem_map.mp hp
    have := List.mem_range.mp hi
    have m := Nat.mod_lt (i + 1) (show 0 < n from h)
    exact ⟨by show (0 : Int) ≤ (i : Int); omega, by show (i : Int) < n; omega, Int.natCast_nonneg _, by show (((i + 1) % n : Nat) : Int) < n; omega⟩
  · exact ⟨_, List.mem_map.mpr ⟨k.toNat, List.mem_range.mpr (by omega), rfl⟩, Int.toNat_of_nonneg k0⟩
theorem tw_va : VaP ((7 : Nat) : Int) (psOf twE) := by
  refine ⟨by decide +kernel, fun k k0 k1 => ?_⟩
  have : k = 0 ∨ k = 1 ∨ k = 2 ∨ k = 3 ∨ k = 4 ∨ k = 5 ∨ k = 6 := by omega
  rcases this with rfl | rfl | rfl | rfl | rfl | rfl | rfl <;> decide +kernel
theorem at_hd {p : List Nat} (h : p ≠ []) : atI (nW p) 0 = some (.int ((p.headD 0 : Nat) : Int)) := by
  match p, h with
  | x :: r, _ => exact atI_nat (xs := nW (x :: r)) (j := 0) (v := .int ((x : Nat) : Int)) rfl
theorem at_lst {p : List Nat} (h : p ≠ []) : atI (nW p) (-1) = some (.int ((p.getLastD 0 : Nat) : Int)) := by
  have e : p = p.dropLast ++ [p.getLastD 0] := by
    have := List.dropLast_concat_getLast h
    rw [List.getLastD_eq_getLast?, List.getLast?_eq_some_getLast h]
    exact this.symm
  have hl : (nW p).length = p.dropLast.length + 1 := by
    rw [nW_len]
    have := congrArg List.length e
    rwa [List.length_append, List.length_singleton] at this
  have e1 : ixN (nW p).length (-1) = some p.dropLast.length := by
    unfold ixN
    rw [hl, if_neg (by decide), if_pos (by omega)]
    congr 1
    omega
  unfold atI
  rw [e1]
  show (nW p)[p.dropLast.length]? = _
  rw [nW_at (by rw [nW_len] at hl; omega)]
  congr 2
  have : p.getD p.dropLast.length 0 = (p.dropLast ++ [p.getLastD 0]).getD p.dropLast.length 0 := by rw [← e]
  rw [this]
  simp [List.getD]
theorem head_mem {p : List Nat} (h : p ≠ []) : p.headD 0 ∈ p := by
  match p, h with
  | x :: r, _ => exact List.mem_cons_self ..
theorem last_mem {p : List Nat} (h : p ≠ []) : p.getLastD 0 ∈ p := by
  rw [List.getLastD_eq_getLast?, List.getLast?_eq_some_getLast h]
  exact List.getLast_mem h
theorem win_mem {us : Es} {L : Nat} (h : 1 ≤ L) {p : List Nat} (hp : p ∈ win us L) : p.length = L ∧ Lnk us p ∧ p ≠ [] := by
  obtain ⟨l, k⟩ := (mem_lev (L - 1) p).mp hp
  refine ⟨by omega, k, fun z => ?_⟩
  rw [z] at l
  cases l
namespace K5
theorem cat_i {K : PySem.W.Frag} {H : Hp} {a b : Addr} {xs ys : List V} {Q : VK} (h : H a = some (.tup xs)) (h2 : H b = some (.tup ys)) (hl : xs.length + ys.length ≤ sizeLine) (q : ∀ r H', Same H H' → H' r = some (.tup (xs ++ ys)) → Q (.ref r) H') : rCatA K (.ref a) (.ref b) H Q :=
  ⟨a, b, xs, ys, rfl, rfl, SqT.of h, SqT.of h2, hl, fun z => q _ _ (fun _ _ z => z) (by rw [z]; exact h2), fun _ z => q _ _ (fun _ _ e => e) (by rw [z, List.append_nil]; exact h), fun _ _ p hp => q _ _ (same_upd hp) upd_same⟩
theorem rot_i {K : PySem.W.Frag} {σ : L2.St} {H : Hp} {Q : VK} {pa : Addr} {p : List Nat} (h : σ[13]? = some (some (.ref pa))) (e : H pa = some (.tup (nW p))) (hp : p ≠ []) (l : p.length ≤ 500) (q : ∀ t H', Same H H' → H' t = some (.tup (nW (rotP p))) → Q (.ref t) H') :
    (tOp (rCatA K) (tSl (rSlA K) (tVar 13) (tPart (tC (.int 1))) tNoPart) (tSl (rSlA K) (tVar 13) tNoPart (tPart (tC (.int 1))))) σ H Q := by
  have l0 : 0 < p.length := List.length_pos_iff.mpr hp
  have ln := nW_len p
  have d1 : cutV (nW p) (some 1) none = nW (p.drop 1) := by
    refine (cut_hi (k := 1) (by omega)).trans ?_
    unfold nW
    rw [List.map_drop]
  have t1 : cutV (nW p) none (some 1) = nW (p.take 1) := by
    refine (cut_lo (k := 1) (by omega)).trans ?_
    unfold nW
    rw [List.map_take]
  have er : nW (rotP p) = nW (p.drop 1) ++ nW (p.take 1) := by
    unfold rotP nW
    rw [List.map_append]
  have ll : (nW (p.drop 1)).length + (nW (p.take 1)).length ≤ sizeLine := by
    rw [nW_len, nW_len, List.length_drop, List.length_take]
    exact Nat.le_of_lt (small1000 (by omega))
  refine ⟨_, h, 1, rfl, pa, _, rfl, SqT.of e, ⟨fun w => ?_, fun _ t1' ht1 => ?_⟩⟩
  · have w1 := w.1
    rw [show (some (1 : Int)) = some ((1 : Nat) : Int) from rfl, HT.sIx_nat] at w1
    omega
  · rw [d1]
    have s1 := same_upd (o := .tup (nW (p.drop 1))) ht1
    have e1 : upd H t1' (.tup (nW (p.drop 1))) t1' = some (.tup (nW (p.drop 1))) := upd_same
    have ep := s1 _ _ e
    generalize upd H t1' (.tup (nW (p.drop 1))) = H1 at *
    refine ⟨_, h, 1, rfl, pa, _, rfl, SqT.of ep, ⟨fun w => ?_, fun _ t2 ht2 => ?_⟩⟩
    · have w2 := w.2
      rw [show (some (1 : Int)) = some ((1 : Nat) : Int) from rfl, HT.sIx_nat] at w2
      have e2 : nW (p.take 1) = nW p := by rw [List.take_of_length_le (by omega)]
      rw [← e2] at ep
      exact cat_i e1 ep ll fun r H' s hr => q r H' (s1.trans s) (by rw [er]; exact hr)
    · rw [t1]
      have s2 := same_upd (o := .tup (nW (p.take 1))) ht2
      exact cat_i (s2 _ _ e1) upd_same ll fun r H' s hr => q r H' ((s1.trans s2).trans s) (by rw [er]; exact hr)
end K5
namespace K5
def trn (m : Nat) : List Nat := (List.replicate 80 (List.range m)).flatten
theorem rep_len {α : Type} (xs : List α) : ∀ k : Nat, (List.replicate k xs).flatten.length = k * xs.length
  | 0 => by simp
  | k + 1 => by
    rw [List.replicate_succ, List.flatten_cons, List.length_append, rep_len xs k, Nat.succ_mul, Nat.add_comm]
theorem trn_len (m : Nat) : (trn m).length = 80 * m := by
  unfold trn
  rw [rep_len, List.length_range]
theorem trn_cut : ∀ m, m < 9 → 1 ≤ m → ∀ k, k < m → ((trn m).drop k).take 40 = (List.range 40).map fun j => (k + j) % m := by decide +kernel
theorem nW_rg (m : Nat) : rgV 0 (m : Int) = nW (List.range m) := by
  unfold rgV nW
  have e : ((m : Int) - 0).toNat = m := by omega
  rw [e]
  exact List.map_congr_left fun k _ => by rw [Int.zero_add]
theorem nW_trn (m : Nat) : (List.replicate 80 (nW (List.range m))).flatten = nW (trn m) := by
  unfold nW trn
  rw [List.map_flatten, List.map_replicate]
theorem cut_trn {m k : Nat} (h1 : 1 ≤ m) (h9 : m < 9) (hk : k < m) : cutV (nW (trn m)) (some (k : Int)) (some ((k : Int) + 40)) = nW ((List.range 40).map fun j => (k + j) % m) := by
  have e : ((k : Int) + 40) = ((k + 40 : Nat) : Int) := by omega
  unfold cutV
  rw [e, HT.sIx_nat, HT.sIx_nat, nW_len, trn_len, Nat.min_eq_left (by omega), Nat.min_eq_left (by omega), show k + 40 - k = 40 by omega]
  unfold nW
  rw [← List.map_drop, ← List.map_take, trn_cut m h9 h1 k hk]
def szs : List (Nat × Int) := [(8, 8), (11, 11), (15, 8), (16, 24), (7, 0), (40, -1)]
theorem szs_ok : ∀ z ∈ szs, (z.2 < 0) ∨ (0 ≤ z.2 ∧ 1 ≤ z.1 ∧ z.1 ≤ 40 ∧ ((clsL twE z.1).length : Int) = z.2 ∧ (clsL twE z.1).length < 64) := by
  intro z hz
  simp only [szs, List.mem_cons, List.not_mem_nil, or_false] at hz
  rcases hz with rfl | rfl | rfl | rfl | rfl | rfl
  · exact .inr ⟨by decide, by decide, by decide, by rw [tw_8]; rfl, by rw [tw_8]; decide⟩
  · exact .inr ⟨by decide, by decide, by decide, by rw [tw_11]; rfl, by rw [tw_11]; decide⟩
  · exact .inr ⟨by decide, by decide, by decide, by rw [tw_15]; rfl, by rw [tw_15]; decide⟩
  · exact .inr ⟨by decide, by decide, by decide, by rw [tw_16]; rfl, by rw [tw_16]; decide⟩
  · exact .inr ⟨by decide, by decide, by decide, by rw [tw_7]; rfl, by rw [tw_7]; decide⟩
  · exact .inl (by decide)
end K5
theorem tw_nodupA {us : Es} (h : psOf us = psOf twE) : (us.length : Int) ≤ 24 := by
  rw [ps_len h]
  decide
theorem K5.all_rep (n : Nat) : (List.replicate n true).all id = true := List.all_eq_true.mpr fun _ h => List.eq_of_mem_replicate h
theorem K5.rep_snoc (i : Nat) : (List.replicate i true).map V.bl ++ [V.bl true] = (List.replicate (i + 1) true).map V.bl := by
  rw [List.replicate_succ', List.map_append]
  rfl
end Lw
end
section
namespace Lw
def Sz (ys : List Int) (d : Nat) : Prop := 1 ≤ d ∧ d ≤ ys.length ∧ ys = ((List.replicate ys.length (ys.take d)).flatten).take ys.length
end Lw
end
section
set_option autoImplicit false
namespace Lw
open PySem L2 PyProof.Rows
structure TP where
  (sp sq tp tq il g1 g2 : Addr)
  (n m : Nat)
  (ts eds us ws : Es)
  (L : Nat)
  (im : List Nat → Nat)
end Lw
end
section
set_option maxHeartbeats 1000000
noncomputable section
namespace Sf
open PySem PySem.W L2 PyProof.Rows
section
variable {X : Cx} {a b : Expr} {rest : List Expr} {tA tB' : TT} {pos : Pos}
theorem Cal.of {P : Program} {w : World} {K : PySem.W.Frag} {mg : Str → Option Value} {base : Heap} {k : Nat} {x : Str} {sp : Sp} {dvs : List V} (c : C8.Cal P w K mg base k x sp dvs) : Cal P w K mg base k x sp dvs := by
  obtain ⟨f, fd, ps, ds, F, q⟩ := c.ex
  exact ⟨f, fd, ps, ds, FnOk.up F, q⟩
end
end Sf
end
end
section
set_option autoImplicit false
namespace Lw
open PySem L2 PyProof.Rows
abbrev NLaw : List Str := ["_law_script", "_law_bag_here", "_law_turn", "_law_plan_here", "_law_graph_here", "_law_size", "_law_due", "_law_found", "_law_many", "_law_ring", "_law_turns", "_law_rings", "_law_told", "_law_path", "_law_k"]
theorem scLaw : FnScope NLaw ["_law_script"] (defScope sLaw) := ⟨rfl, rfl, rfl, by decide +kernel, rfl, by decide +kernel, by decide +kernel⟩
structure Lib (P : Program) (w : World) (K : PySem.W.Frag) (mg : Str → Option Value) (base : Heap) (CG : Addr) : Prop where
  T : Bi mg
  tSo : mg "sorted" = none
  tSet : mg "set" = none
  bag : C8.Cal P w K mg base 1 "_law_bag" (spBag K) []
  pull : C8.Cal P w K mg base 1 "_law_pull" spPull []
  of : C8.Cal P w K mg base 2 "_law_of" (spOf K) []
  plan : C8.Cal P w K mg base 2 "_law_plan" spPlan []
  graph : C8.Cal P w K mg base 4 "_law_graph" (spGraph CG) []
  pc : C8.Cal P w K mg base 1 "_law_path_count" spPC []
  pths : C8.Cal P w K mg base 2 "_law_paths" spPthsW []
  aft : C8.Cal P w K mg base 1 "_law_after" spAft []
  like : C8.Cal P w K mg base 7 "_law_like" (spLike 6) []
  cc : C8.Cal P w K mg base 3 "count_closed" (spCC CG) []
  isP : C8.Cal P w K mg base 3 "is_path" (spIsP CG) []
  mG : C8.Mak P w K mg base 2 "Graph" CG (spInit CG) []
  edge : C8.Met P w K mg base 1 CG "edge" (spEdge0 CG) []
  cl : CalG P w K mg base 6 False "closed_paths" (spClosed CG)
  clM : CalGM P w K mg base 6 False "closed_paths" (spClosedM CG)
abbrev S5 (a b : Addr) (v2 v3 v4 v5 v6 v7 v8 v9 v10 v11 v12 : Option V) : L2.St := [some (.ref a), some (.ref b), v2, v3, v4, v5, v6, v7, v8, v9, v10, v11, v12, none, none]
structure G5 (CG : Addr) (H : Hp) (p q g : Addr) (n : Nat) (ts us : Es) : Prop where
  pl : PlanAt H p q (n : Int) ts
  n3 : n ≤ 3
  l6 : ts.length ≤ 6
  gr : GrN CG H g n us
  eu : psOf us = psOf ts
theorem G5.same {CG : Addr} {H H' : Hp} {p q g : Addr} {n : Nat} {ts us : Es} (h : G5 CG H p q g n ts us) (s : Same H H') : G5 CG H' p q g n ts us := ⟨h.pl.same s, h.n3, h.l6, h.gr.same s, h.eu⟩
abbrev tM1 : TE := tUn (rU fun i => V.int (-i)) (tC (.int 1))
section
variable {P : Program} {w : World} {K : PySem.W.Frag} {mg : Str → Option Value} {base : Heap}
set_option maxHeartbeats 32000000 in
theorem ok_law {f CG : Addr} {fd : FuncData} (F : Fun K "law" "law" sLaw f fd) (L : Lib P w K mg base CG) : Sf.FnS P w K mg base CX0 10 f fd ["_law_script"] (spLaw K) := by
  refine Fun.okS F scLaw (fun vs H Q E h => ?_) (fun cdv A outer s H vs Q E hr h => ?_)
  · obtain ⟨a, ns, rfl, _⟩ := h
    rfl
  · obtain ⟨a, ns, rfl, hS, hln, q⟩ := h
    have T := L.T
    obtain ⟨fc, fdc, psc, Fc, mc, kc, bc⟩ := L.cl
    obtain ⟨fm, fdm, psm, Fm, mm, km, bm⟩ := L.clM
    have hu := hr.units
    refine ⟨_, (Sf.qss_cons (Sf.PS.up (ps_set (i := 1) scLaw.nd rfl (by first | exact Or.inl rfl | exact Or.inr rfl) (C8.pe_c L.bag hr (by decide) (by rfl) (pa_cons (pv 0) pa_nil))))
      (Sf.qss_cons (Sf.qs_for PassesOwn.never rfl (pi_range1 (by rfl) T.range (pa_cons pe_int pa_nil)) (pg_name (i := 2) scLaw.nd rfl (by first | exact Or.inl rfl | exact Or.inr rfl)) (Sf.qss_cut (Sf.PS.up (ps_set (i := 3) scLaw.nd rfl (by first | exact Or.inl rfl | exact Or.inr rfl) (C8.pe_c L.plan hr (by decide) (by rfl) (pa_cons (pv 1) (pa_cons pe_int (pa_cons pe_int pa_nil))))))
      (Sf.qss_cut (Sf.PS.up (ps_par (i := 4) (j := 5) rfl scLaw.nd rfl rfl (by decide) rfl rfl (pa_cons (C8.pe_c L.graph hr (by decide) (by rfl) (pa_cons (pv 3) pa_nil)) (pa_cons (pe_op op_add pe_int (C8.pe_c L.pull hr (by decide) (by rfl) (pa_cons (pv 1) (pa_cons pe_int pa_nil)))) pa_nil)) rfl))
      (Sf.qss_cut (Sf.PS.up (ps_while PassesOwn.never (pt_cmpR op_gt (C8.pe_c L.pc hr (by decide) (by rfl) (pa_cons (pv 3) (pa_cons (pv 5) pa_nil))) pe_int (nomark _))
          (pss_one (ps_set (i := 5) scLaw.nd rfl (by first | exact Or.inl rfl | exact Or.inr rfl) (pe_op op_sub (pv 5) pe_int)))))
      (Sf.qss_cut (Sf.PS.up (ps_setLc (i := 6) (own := [("_law_path", 13)]) (g := gName 13) (tt := tTest (tOp (rIn K false) (tOp (rIxT K) (tVar 13) (tC (.int 0))) (tCall spAft [] C8.E0 (tCons (tVar 3) (tCons (tOp (rIxT K) (tVar 13) tM1) tNil))))) (te := tVar 13) rfl scLaw.nd rfl rfl (sw_true rfl rfl rfl (by decide +kernel))
            (pi_seqA (C8.pe_c L.pths hr (by decide) (by rfl) (pa_cons (pv 3) (pa_cons (pv 5) pa_nil)))) (blkOk_by (N := NLaw) (sc := defScope sLaw) (by decide +kernel))
            (fun _ _ _ _ _ => by exact pg_name (i := 13) scLaw.nd rfl (by first | exact Or.inl rfl | exact Or.inr rfl))
            (fun _ _ _ _ _ => by exact pts_one (pt_cmpR op_in_seq (pe_ix ix_tup (pv 13) pe_int (fun _ _ => rfl)) (C8.pe_c L.aft hr (by decide) (by rfl) (pa_cons (pv 3) (pa_cons (pe_ix ix_tup (pv 13) (pe_un un_neg pe_int) (fun _ _ => rfl)) pa_nil))) (by rfl)))
            (fun _ _ _ _ _ => by exact pv 13)))
      (Sf.qss_cut (Sf.qs_set (i := 7) scLaw.nd rfl (by first | exact Or.inl rfl | exact Or.inr rfl) (Sf.qe_listG (Sf.pgs_call Fc (hr.mono (by decide)) (by rfl) mc kc bc .nil (pa_cons (pv 4) (pa_cons (pv 5) pa_nil))) (hr.mono (by decide)) (by rfl) T.list (by decide +kernel)))
      (Sf.qss_cut (Sf.PS.up (ps_if (pt_not (pt_val (C8.pe_c L.like hr (by decide) (by rfl) (pa_cons (pv 7) (pa_cons (pv 6) pa_nil))))) (pss_one (ps_ret pe_bl)) pss_nil))
      (Sf.qss_cut (Sf.PS.up (ps_if (pt_cmpR (op_neD hr.units) (pe_callB K5.cr_sortTOx (by rfl) L.tSo (by decide +kernel) (pa_cons
            (pe_lc (own := [("_law_path", 13)]) (g := gName 13) (tt := tYes) (te := tOp (rCatA K) (tSl (rSlA K) (tVar 13) (tPart (tC (.int 1))) tNoPart) (tSl (rSlA K) (tVar 13) tNoPart (tPart (tC (.int 1))))) rfl scLaw.nd (pi_seqA (pv 7)) (blkOk_by (N := NLaw) (sc := defScope sLaw) (by decide +kernel))
              (fun _ _ _ _ _ => by exact pg_name (i := 13) scLaw.nd rfl (by first | exact Or.inl rfl | exact Or.inr rfl)) (fun _ _ _ _ _ => pts_nil)
              (fun _ _ _ _ _ => by exact pe_op op_catA (pe_slice sl_tupA (pv 13) (po_some pe_int) po_none) (pe_slice sl_tupA (pv 13) po_none (po_some pe_int)))) pa_nil)) (pv 6) (nomark _)) (pss_one (ps_ret pe_bl)) pss_nil))
      (Sf.qss_one (Sf.PS.up (ps_if (pt_cmpR op_ne (pe_callB call_len_seq (by rfl) T.len PySem.boot_len (pa_cons (pv 6) pa_nil)) (C8.pe_c L.cc hr (by decide) (by rfl) (pa_cons (pv 4) (pa_cons (pv 5) pa_nil))) (nomark _)) (pss_one (ps_ret pe_bl)) pss_nil)))))))))))
      (Sf.qss_cut (Sf.PS.up (ps_set (i := 8) scLaw.nd rfl (by first | exact Or.inl rfl | exact Or.inr rfl) (pe_op op_add pe_int (C8.pe_c L.pull hr (by decide) (by rfl) (pa_cons (pv 1) (pa_cons pe_int pa_nil))))))
      (Sf.qss_cut (Sf.PS.up (ps_set (i := 9) scLaw.nd rfl (by first | exact Or.inl rfl | exact Or.inr rfl) (C8.pe_mk L.mG hr (by decide) (by rfl) (pa_cons (pv 8) (pa_cons
            (pe_lc (own := [("_law_k", 14)]) (g := gName 14) (tt := tYes) (te := tTup (tCons (tVar 14) (tCons (tOp (rI (fun _ j => 0 < j) fun i j => .int (i % j)) (tOp rAdd (tVar 14) (tC (.int 1))) (tVar 8)) tNil))) rfl scLaw.nd (pi_range1 (by rfl) T.range (pa_cons (pv 8) pa_nil)) (blkOk_by (N := NLaw) (sc := defScope sLaw) (by decide +kernel))
              (fun _ _ _ _ _ => by exact pg_name (i := 14) scLaw.nd rfl (by first | exact Or.inl rfl | exact Or.inr rfl)) (fun _ _ _ _ _ => pts_nil)
              (fun _ _ _ _ _ => by exact pe_tup (pa_cons (pv 14) (pa_cons (pe_op op_mod (pe_op op_add (pv 14) pe_int) (pv 8)) pa_nil)))) pa_nil)))))
      (Sf.qss_cut (Sf.PS.up (ps_set (i := 10) scLaw.nd rfl (by first | exact Or.inl rfl | exact Or.inr rfl) (pe_op op_repA (pe_tupRg rfl (by rfl) T.tuple (prg_1 (by rfl) T.range (pv 8))) pe_int)))
      (Sf.qss_cut (Sf.PS.up (ps_set (i := 6) scLaw.nd rfl (by first | exact Or.inl rfl | exact Or.inr rfl) (pe_ifExp (pt_cmpR op_eq (pe_op op_mod pe_int (pv 8)) pe_int (nomark _))
            (pe_lc (own := [("_law_k", 14)]) (g := gName 14) (tt := tYes) (te := tSl (rSlA K) (tVar 10) (tPart (tVar 14)) (tPart (tOp rAdd (tVar 14) (tC (.int 40))))) rfl scLaw.nd (pi_range1 (by rfl) T.range (pa_cons (pv 8) pa_nil)) (blkOk_by (N := NLaw) (sc := defScope sLaw) (by decide +kernel))
              (fun _ _ _ _ _ => by exact pg_name (i := 14) scLaw.nd rfl (by first | exact Or.inl rfl | exact Or.inr rfl)) (fun _ _ _ _ _ => pts_nil)
              (fun _ _ _ _ _ => by exact pe_slice sl_tupA (pv 10) (po_some (pv 14)) (po_some (pe_op op_add (pv 14) pe_int))))
            (pe_lst pa_nil))))
      (Sf.qss_cut (Sf.qs_if (Sf.qt_not (Sf.qt_val (Sf.qe_c (Sf.Cal.of L.like) hr (by decide) (by rfl) (Sf.qa_cons (Sf.qe_listG (Sf.pgs_call Fc (hr.mono (by decide)) (by rfl) mc kc bc .nil (pa_cons (pv 9) (pa_cons pe_int pa_nil))) (hr.mono (by decide)) (by rfl) T.list (by decide +kernel)) (Sf.PA.up (pa_cons (pv 6) pa_nil)))))) (Sf.PSs.up (pss_one (ps_ret pe_bl))) Sf.qss_nil)
      (Sf.qss_cut (Sf.PS.up (ps_set (i := 11) scLaw.nd rfl (by first | exact Or.inl rfl | exact Or.inr rfl) (C8.pe_mk L.mG hr (by decide) (by rfl) (pa_cons pe_int (pa_cons (pe_lst
            (pa_cons (pe_tup (pa_cons pe_int (pa_cons pe_int pa_nil))) (pa_cons (pe_tup (pa_cons pe_int (pa_cons pe_int pa_nil))) (pa_cons (pe_tup (pa_cons pe_int (pa_cons pe_int pa_nil))) (pa_cons (pe_tup (pa_cons pe_int (pa_cons pe_int pa_nil)))
            (pa_cons (pe_tup (pa_cons pe_int (pa_cons pe_int pa_nil))) (pa_cons (pe_tup (pa_cons pe_int (pa_cons pe_int pa_nil))) (pa_cons (pe_tup (pa_cons pe_int (pa_cons pe_int pa_nil))) (pa_cons (pe_tup (pa_cons pe_int (pa_cons pe_int pa_nil))) pa_nil))))))))) pa_nil)))))
      (Sf.qss_cut (Sf.PS.up (ps_asg (C8.pe_c L.of hr (by decide) (by rfl) (pa_cons (pv 1) (pa_cons (pe_lst
            (pa_cons (pe_tup (pa_cons pe_int (pa_cons pe_int pa_nil))) (pa_cons (pe_tup (pa_cons pe_int (pa_cons pe_int pa_nil))) (pa_cons (pe_tup (pa_cons pe_int (pa_cons pe_int pa_nil))) (pa_cons (pe_tup (pa_cons pe_int (pa_cons pe_int pa_nil)))
            (pa_cons (pe_tup (pa_cons pe_int (pa_cons pe_int pa_nil))) (pa_cons (pe_tup (pa_cons pe_int (pa_cons (pe_un un_neg pe_int) pa_nil))) pa_nil))))))) pa_nil)))
            (pg_tup rfl (pgs_cons (pg_name (i := 5) scLaw.nd rfl (by first | exact Or.inl rfl | exact Or.inr rfl)) (pgs_cons (pg_name (i := 8) scLaw.nd rfl (by first | exact Or.inl rfl | exact Or.inr rfl)) pgs_nil)))))
      (Sf.qss_cut (Sf.qs_if (Sf.PT.up (pt_cmpR op_lt (pv 8) pe_int (nomark _)))
            (Sf.qss_one (Sf.qs_ret (Sf.qe_cmp (op_eqD hr.units) (Sg.qe_lg (k := 6) (mk := False) (own := [("_law_path", 13)]) (g := gName 13) (te := tVar 13) rfl scLaw.nd (Sg.pgm_call Fm (hr.mono (by decide)) (by rfl) mm km bm .nil (pa_cons (pv 11) (pa_cons pe_int pa_nil))) (hr.mono (by decide)) (blkOk_by (N := NLaw) (sc := defScope sLaw) (by decide +kernel)) (by decide)
                (fun _ _ _ _ _ => by exact pg_name (i := 13) scLaw.nd rfl (by first | exact Or.inl rfl | exact Or.inr rfl)) (fun _ _ _ _ _ => by exact Sf.PE.up (pv 13)))
              (Sf.PE.up (pe_lst (pa_cons (pe_tup (pa_cons pe_int (pa_cons pe_int (pa_cons pe_int pa_nil)))) (pa_cons (pe_tup (pa_cons pe_int (pa_cons pe_int (pa_cons pe_int pa_nil)))) (pa_cons (pe_tup (pa_cons pe_int (pa_cons pe_int (pa_cons pe_int pa_nil)))) pa_nil))))) (nomark _)))) Sf.qss_nil)
      (Sf.qss_cut (Sf.qs_set (i := 12) scLaw.nd rfl (by first | exact Or.inl rfl | exact Or.inr rfl) (Sf.qe_listG (Sf.pgs_call Fc (hr.mono (by decide)) (by rfl) mc kc bc .nil (pa_cons (pv 11) (pa_cons (pv 5) pa_nil))) (hr.mono (by decide)) (by rfl) T.list (by decide +kernel)))
      (Sf.qss_cut (Sf.PS.up (ps_if (PW.pt (pw_or (pt_cmpR op_ne (pe_callB call_len_seq (by rfl) T.len PySem.boot_len (pa_cons (pv 12) pa_nil)) (pv 8) (nomark _))
            (pw_or (pt_cmpR (op_neD hr.units) (pv 12) (pe_callB (cr_sortedT rfl) (by rfl) L.tSo (by decide +kernel) (pa_cons (pe_callTy (cr_setOfT rfl (Nat.lt_of_le_of_lt (Nat.add_le_add_left (by decide) _) hr.units)) (by rfl) L.tSet (by decide +kernel) (pa_cons (pv 12) pa_nil)) pa_nil)) (nomark _))
            (pw_or1 (pt_not (pt_val (pe_callB (cr_all rfl) (by rfl) T.all (by decide +kernel) (pa_cons
              (pe_lc (own := [("_law_path", 13)]) (g := gName 13) (tt := tYes) (te := tCall (spIsP CG) [] C8.E0 (tCons (tVar 11) (tCons (tVar 13) tNil))) rfl scLaw.nd (pi_seqA (pv 12)) (blkOk_by (N := NLaw) (sc := defScope sLaw) (by decide +kernel))
                (fun _ _ _ _ _ => by exact pg_name (i := 13) scLaw.nd rfl (by first | exact Or.inl rfl | exact Or.inr rfl)) (fun _ _ _ _ _ => pts_nil)
                (fun _ _ _ _ _ => by exact C8.pe_c L.isP hr (by decide) (by rfl) (pa_cons (pv 11) (pa_cons (pv 13) pa_nil)))) pa_nil)))))))) (pss_one (ps_ret pe_bl)) pss_nil))
      (Sf.qss_one (Sf.PS.up (ps_ret (pe_callB (cr_all rfl) (by rfl) T.all (by decide +kernel) (pa_cons
          (pe_lc (own := [("_law_path", 13)]) (g := gName 13) (tt := tYes) (te := tOp rEq (tOp (rIxT K) (tMeth CG "edge" (spEdge0 CG) [] C8.E0 (tVar 11) (tCons (tOp (rIxT K) (tVar 13) (tC (.int 0))) tNil)) (tC (.int 0))) (tOp (rIxT K) (tMeth CG "edge" (spEdge0 CG) [] C8.E0 (tVar 11) (tCons (tOp (rIxT K) (tVar 13) tM1) tNil)) (tC (.int 1)))) rfl scLaw.nd (pi_seqA (pv 12)) (blkOk_by (N := NLaw) (sc := defScope sLaw) (by decide +kernel))
            (fun _ _ _ _ _ => by exact pg_name (i := 13) scLaw.nd rfl (by first | exact Or.inl rfl | exact Or.inr rfl)) (fun _ _ _ _ _ => pts_nil)
            (fun _ _ _ _ _ => by exact pe_cmpR op_eq (pe_ix ix_tup (C8.pe_mt L.edge hr (by decide) (pv 11) (pa_cons (pe_ix ix_tup (pv 13) pe_int (fun _ _ => rfl)) pa_nil)) pe_int (fun _ _ => rfl)) (pe_ix ix_tup (C8.pe_mt L.edge hr (by decide) (pv 11) (pa_cons (pe_ix ix_tup (pv 13) (pe_un un_neg pe_int) (fun _ _ => rfl)) pa_nil)) pe_int (fun _ _ => rfl)) (nomark _))) pa_nil))))))))))))))))), ?_⟩
    have four : ∀ m : Nat, m ≤ 1000 → m ≤ sizeLine := fun m h => Nat.le_of_lt (small1000 h)
    have big : (2 : Int) ^ 100 = 1267650600228229401496703205376 := by decide +kernel
    refine ⟨_, rfl, a, ns, rfl, hS, hln, fun b l H1 s1 nb nl B => ?_⟩
    refine ⟨5, rfl, by decide, by decide, ?_⟩
    refine for_it (walk_range (lo := 0) (n := (5 : Int).toNat)) (fun i σ H' => ∃ v2 v3 v4 v5 v6 v7 : Option V, σ = S5 a b v2 v3 v4 v5 v6 v7 none none none none none ∧ BagAt H' b l ns)
      ⟨none, none, none, none, none, none, rfl, B⟩ (fun _ _ _ _ _ => True.intro) ?_ ?_
    · rintro i x σ H2 H' hi ⟨v2, v3, v4, v5, v6, v7, rfl, B2⟩ ⟨rfl, rfl⟩
      clear s1 nb nl B
      -- the plan
      refine ⟨fun σ H' => ∃ (v2 : Option V) (p q : Addr) (n : Nat) (ts : Es), σ = S5 a b v2 (some (.ref p)) v4 v5 v6 v7 none none none none none ∧ BagAt H' b l ns ∧ PlanAt H' p q (n : Int) ts ∧ n ≤ 3 ∧ ts.length ≤ 6, ?_, ?_⟩
      · refine ⟨_, rfl, b, l, ns, 3, 6, rfl, B2, by decide, by decide, by decide, fun p q n ts H' kp B' np nq PA nm tm => ?_⟩
        have n1 := PA.n1
        obtain ⟨m, rfl⟩ : ∃ m : Nat, n = m := ⟨n.toNat, by omega⟩
        exact ⟨_, p, q, m, ts, rfl, B', PA, by omega, by omega⟩
      clear v2 v3 B2
      rintro _ H3 ⟨v2, p, q, n, ts, rfl, B3, PA, n3, l6⟩
      -- the graph and the size
      refine ⟨fun σ H' => ∃ (g : Addr) (us : Es) (W : Nat), σ = S5 a b v2 (some (.ref p)) (some (.ref g)) (some (.int (W : Int))) v6 v7 none none none none none ∧ BagAt H' b l ns ∧ G5 CG H' p q g n ts us ∧ 1 ≤ W ∧ W ≤ 5, ?_, ?_⟩
      · refine ⟨_, rfl, p, q, _, ts, rfl, PA, by omega, by omega, fun g us H4 eu s4 ng G => ?_⟩
        have GN := grN_of G eu PA.va.ps (by have := PA.n1; omega) (by omega) (by omega)
        refine ⟨_, rfl, b, l, ns, 5, rfl, B3.same s4, by decide, by omega, fun v o v0 v1 BO => ?_⟩
        refine ⟨_, _, rfl, rfl, ⟨_, _, rfl, ?_⟩⟩
        obtain ⟨xs, eb⟩ := (B3.same s4).at_b
        refine ⟨g, us, 1 + v.toNat, ?_, (B3.same s4).upd BO, ⟨(PA.same s4).keepB (B3.same s4) .updb, n3, l6, GN.off eb .updb, eu⟩, by omega, by omega⟩
        show S5 a b v2 (some (.ref p)) (some (.ref g)) (some (V.int (1 + v))) v6 v7 none none none none none = _
        rw [show (1 : Int) + v = ((1 + v.toNat : Nat) : Int) by omega]
      clear v4 v5 B3 PA n3 l6
      rintro _ H4 ⟨g, us, W0, rfl, B4, G4, hW1, hW5⟩
      -- not too many paths
      refine ⟨fun σ H' => ∃ W : Nat, σ = S5 a b v2 (some (.ref p)) (some (.ref g)) (some (.int (W : Int))) v6 v7 none none none none none ∧ Same H4 H' ∧ 1 ≤ W ∧ W ≤ 5 ∧ (win ts W).length ≤ 400, ?_, ?_⟩
      · refine ⟨fun j σ H' => σ = S5 a b v2 (some (.ref p)) (some (.ref g)) (some (.int (j : Int))) v6 v7 none none none none none ∧ Same H4 H' ∧ 1 ≤ j ∧ j ≤ 5, ⟨W0, rfl, fun _ _ z => z, hW1, hW5⟩, ?_⟩
        rintro j σ H5 ⟨rfl, s5, j1, j5⟩
        have R5 := G4.same s5
        have n3 := R5.n3
        have l6 := R5.l6
        refine ⟨_, rfl, _, rfl, p, q, n, ts, j, rfl, R5.pl, by omega, j1, by omega, fun H6 s6 => ?_⟩
        refine ⟨_, _, rfl, rfl, _, rfl, ?_⟩
        by_cases hc : 400 < (win ts j).length
        · refine if_t (decide_eq_true (by omega)) ?_
          refine ⟨fun σ' H' => σ' = S5 a b v2 (some (.ref p)) (some (.ref g)) (some (.int ((j - 1 : Nat) : Int))) v6 v7 none none none none none ∧ Same H4 H', ?_, ?_⟩
          · rintro σ' H' ⟨rfl, s7⟩
            have : j ≠ 1 := fun z => by
              rw [z, win_one, List.length_map, List.length_range] at hc
              omega
            exact ⟨j - 1, by omega, rfl, s7, by omega, by omega⟩
          refine ⟨_, rfl, _, _, rfl, rfl, ?_, s5.trans s6⟩
          show S5 a b v2 (some (.ref p)) (some (.ref g)) (some (V.int ((j : Int) - 1))) v6 v7 none none none none none = _
          rw [show (j : Int) - 1 = ((j - 1 : Nat) : Int) by omega]
        · refine if_f (decide_eq_false (by omega)) ?_
          exact ⟨j, rfl, s5.trans s6, j1, j5, by omega⟩
      clear hW1 hW5
      rintro _ H5 ⟨W, rfl, s5, hW1, hW5, few⟩
      have B5 := B4.same s5
      have G5 := G4.same s5
      clear s5 G4 B4 W0
      -- the closed paths
      refine ⟨fun σ H' => ∃ (D : Addr) (as : List Addr), σ = S5 a b v2 (some (.ref p)) (some (.ref g)) (some (.int (W : Int))) (some (.ref D)) v7 none none none none none ∧ Same H5 H' ∧ H' D = some (.lst (as.map V.ref)) ∧ TW H' as (clsL ts W), ?_, ?_⟩
      · have l6 := G5.l6
        refine ⟨_, rfl, _, rfl, p, q, n, ts, W, rfl, G5.pl, by omega, hW1, hW5, fun F as H6 s6 nF eF tw => ?_⟩
        refine ⟨F, _, SqL, rfl, .inl rfl, SqL.of eF, fun J wk D hD => ?_⟩
        have la : (as.map V.ref).length = (win ts W).length := by rw [List.length_map, tw.len]
        have PA6 := G5.pl.same s6
        refine lc_it wk (fun i H' => ∃ bs : List Addr, Same H6 H' ∧ H' D = some (.lst (bs.map V.ref)) ∧ TW H' bs (((win ts W).take i).filter (closedP ts))) ⟨[], same_upd hD, upd_same, True.intro⟩ (fun i H' _ q => by obtain ⟨_, s, _⟩ := q; exact SqL.of (s _ _ eF)) ?_ ?_
        · rintro i x H7 H8 hi ⟨bs, s7, eD, tb⟩ ⟨rfl, hx⟩
          rw [la] at hi
          obtain ⟨pa, ea, epa⟩ := tw.at (List.getElem?_eq_getElem hi)
          rw [List.getElem?_map, ea] at hx
          cases hx
          have hm : (win ts W)[i] ∈ win ts W := List.getElem_mem hi
          obtain ⟨pl, pk, pn⟩ := win_mem hW1 hm
          have epa := s7 _ _ epa
          have lb := tb.len
          have lf := List.length_filter_le (closedP ts) ((win ts W).take i)
          rw [List.length_take] at lf
          refine ⟨rfl, ?_⟩
          refine ⟨_, rfl, pa, _, _, _, rfl, rfl, SqT.of epa, at_hd pn, _, rfl, _, rfl, 1, rfl, pa, _, _, _, rfl, rfl, SqT.of epa, at_lst pn, ?_⟩
          refine ⟨p, q, n, ts, (win ts W)[i].getLastD 0, rfl, PA6.same s7, lnk_lt pk _ (last_mem pn), by omega, fun A H9 s9 nA eA => ?_⟩
          refine ⟨A, _, rfl, .inl (SqL.of eA), rfl, flat_nW _, _, rfl, ?_⟩
          have eD9 := s9 _ _ eD
          have ed : decide ((win ts W)[i].headD 0 ∈ lvF ts (tgtE ts ((win ts W)[i].getLastD 0))) = closedP ts (win ts W)[i] := by
            rw [Bool.eq_iff_iff, decide_eq_true_iff, mem_lvF]
            unfold closedP
            rw [beq_iff_eq]
            exact ⟨fun h => h.2.symm, fun h => ⟨lnk_lt pk _ (head_mem pn), h.symm⟩⟩
          have et : ((win ts W).take (i + 1)).filter (closedP ts) = ((win ts W).take i).filter (closedP ts) ++ (if closedP ts (win ts W)[i] = true then [(win ts W)[i]] else []) := by
            rw [List.take_succ_eq_append_getElem hi, List.filter_append]
            congr 1
            by_cases c : closedP ts (win ts W)[i] = true
            · rw [if_pos c, List.filter_cons_of_pos c]
              rfl
            · rw [if_neg c, List.filter_cons_of_neg c]
              rfl
          rw [in_nW, ed]
          by_cases hc : closedP ts (win ts W)[i] = true
          · refine if_t hc ?_
            rw [if_pos hc] at et
            refine ⟨_, rfl, _, eD9, small1000 (by rw [List.length_map]; omega), bs ++ [pa], ?_, by rw [upd_same, List.map_append]; rfl, ?_⟩
            · intro c o e
              rw [upd_ne (ne_of_none e hD)]
              exact s9 _ _ (s7 _ _ e)
            · rw [et]
              exact TW.off eD9 ((tb.same s9).snoc (s9 _ _ epa))
          · refine if_f (by simpa using hc) ?_
            rw [if_neg hc, List.append_nil] at et
            exact ⟨bs, s7.trans s9, eD9, by rw [et]; exact tb.same s9⟩
        · rintro H7 ⟨bs, s7, eD, tb⟩
          rw [la, List.take_length] at tb
          exact ⟨D, bs, rfl, s6.trans s7, eD, tb⟩
      rintro _ H6 ⟨D, as, rfl, s6, eD, td⟩
      have B6 := B5.same s6
      have G6 := G5.same s6
      clear v6 s6 B5 G5
      have lc : (clsL ts W).length ≤ 400 := Nat.le_trans (List.length_filter_le _ _) few
      have cu : clsL us W = clsL ts W := ps_cls G6.eu W
      have lp : ∀ z ∈ clsL ts W, z.length ≤ 1000 := fun z hz => by
        have := ((mem_cls hW1).mp hz).1
        omega
      -- the program's
      refine ⟨fun σ H' => ∃ (E : Addr) (bs : List Addr), σ = S5 a b v2 (some (.ref p)) (some (.ref g)) (some (.int (W : Int))) (some (.ref D)) (some (.ref E)) none none none none none ∧ Same H6 H' ∧ H' E = some (.lst (bs.map V.ref)) ∧ TW H' bs (clsL ts W), ?_, ?_⟩
      · refine ⟨_, rfl, _, rfl, g, n, us, W, rfl, G6.gr, hW1, by omega, ?_, fun H' bs s7 tw E hE => ?_⟩
        · rw [closed_win hW1, cu, Nat.zero_add]
          exact four _ (by omega)
        · rw [closed_win hW1, cu] at tw
          exact ⟨E, bs, rfl, s7.trans (same_upd hE), upd_same, tw.same (same_upd hE)⟩
      clear v7
      rintro _ H7 ⟨E, bs, rfl, s7, eE, te⟩
      have B7 := B6.same s7
      have G7 := G6.same s7
      have eD7 := s7 _ _ eD
      have td7 := td.same s7
      clear B6 G6 s7 td eD
      -- the same by the law
      refine ⟨fun σ H' => σ = S5 a b v2 (some (.ref p)) (some (.ref g)) (some (.int (W : Int))) (some (.ref D)) (some (.ref E)) none none none none none ∧ Same H7 H', ?_, ?_⟩
      · refine ⟨_, rfl, _, rfl, .ref E, .ref D, rfl, lk_tw (k := 3) eE eD7 te td7 (by omega) lp, fun H8 s8 => ?_⟩
        refine ⟨true, rfl, ?_⟩
        refine if_f rfl ?_
        exact ⟨rfl, s8⟩
      rintro _ H8 ⟨rfl, s8⟩
      -- turned about
      refine ⟨fun σ H' => σ = S5 a b v2 (some (.ref p)) (some (.ref g)) (some (.int (W : Int))) (some (.ref D)) (some (.ref E)) none none none none none ∧ Same H7 H', ?_, ?_⟩
      · have eE8 := s8 _ _ eE
        have te8 := te.same s8
        refine ⟨_, rfl, E, _, SqL, rfl, .inl rfl, SqL.of eE8, fun J wk D2 hD2 => ?_⟩
        have la : (bs.map V.ref).length = (clsL ts W).length := by rw [List.length_map, te.len]
        refine lc_it wk (fun i H' => ∃ cs : List Addr, Same H8 H' ∧ H' D2 = some (.lst (cs.map V.ref)) ∧ TW H' cs (((clsL ts W).take i).map rotP)) ⟨[], same_upd hD2, upd_same, True.intro⟩ (fun i H' _ q => by obtain ⟨_, s, _⟩ := q; exact SqL.of (s _ _ eE8)) ?_ ?_
        · rintro i x H9 H10 hi ⟨cs, s9, eD2, tc⟩ ⟨rfl, hx⟩
          rw [la] at hi
          obtain ⟨pa, ea, epa⟩ := te8.at (List.getElem?_eq_getElem hi)
          rw [List.getElem?_map, ea] at hx
          cases hx
          have hm : (clsL ts W)[i] ∈ clsL ts W := List.getElem_mem hi
          have pl := ((mem_cls hW1).mp hm).1
          have tl := tc.len
          rw [List.length_map, List.length_take] at tl
          refine ⟨rfl, ?_⟩
          refine K5.rot_i rfl (s9 _ _ epa) (fun z => by rw [z] at pl; simp at pl; omega) (by omega) fun t H11 s11 et => ?_
          have eD11 := s11 _ _ eD2
          refine ⟨_, eD11, small1000 (by rw [List.length_map]; omega), cs ++ [t], ?_, by rw [upd_same, List.map_append]; rfl, ?_⟩
          · intro c o e
            rw [upd_ne (ne_of_none e hD2)]
            exact s11 _ _ (s9 _ _ e)
          · rw [List.take_succ_eq_append_getElem hi, List.map_append]
            exact TW.off eD11 ((tc.same s11).snoc et)
        · rintro H9 ⟨cs, s9, eD2, tc⟩
          rw [la, List.take_length] at tc
          have pm := rot_perm (us := ts) hW1
          have l6 := G7.l6
          refine ⟨W, 24, hW1, D2, _, rfl, SqL.of eD2, fun x hx => ?_, fun ys sp pys pw hsp => ?_⟩
          · obtain ⟨c, hc, rfl⟩ := List.mem_map.mp hx
            obtain ⟨ec, kc⟩ := tw_map tc
            have hm : rdL H9 c ∈ clsL ts W := pm.mem_iff.mp (by rw [ec]; exact List.mem_map.mpr ⟨c, hc, rfl⟩)
            obtain ⟨m1, m2, _⟩ := (mem_cls hW1).mp hm
            have := kc c hc
            rw [nW_int] at this
            refine ⟨_, ⟨c, rfl, SqT.of this⟩, by rw [List.length_map]; exact m1, fun m hm => ?_⟩
            obtain ⟨k, hk, rfl⟩ := List.mem_map.mp hm
            have := lnk_lt m2 k hk
            omega
          · obtain ⟨ds, rfl, tds⟩ := sorted_tw (K := K) tc (cls_asc (us := ts) (L := W) (B := 24) (by decide) (by omega)) pm pys pw
            have s10 := same_upd (o := .lst (ds.map V.ref)) hsp
            refine ⟨_, rfl, .list (tI (clsL ts W)), .list (tI (clsL ts W)), dpl_tw upd_same (tds.same s10), dpl_tw (s10 _ _ (s9 _ _ (s8 _ _ eD7))) (((td7.same s8).same s9).same s10), shTI _, shTI _, ?_⟩
            rw [eqv_tI]
            refine ⟨_, rfl, ?_⟩
            refine if_f rfl ?_
            exact ⟨rfl, (s8.trans s9).trans s10⟩
      clear s8
      rintro _ H9 ⟨rfl, s9⟩
      -- counted
      have eD9 := s9 _ _ eD7
      refine ⟨_, rfl, D, _, rfl, .inl (SqL.of eD9), _, rfl, _, rfl, g, (n : Int), us, W, rfl, (G7.same s9).gr.ok, hW1, by omega, fun H10 s10 => ?_⟩
      refine ⟨rfl, _, rfl, ?_⟩
      refine if_f ?_ ?_
      · have c1 := closed_cnt (us := us) (n := n) (L := W) G7.gr.rg hW1
        rw [closed_win hW1, cu] at c1
        rw [Int.toNat_natCast, ← c1, List.length_map, td7.len]
        simp
      · exact ⟨v2, _, _, _, _, _, rfl, (B7.same s9).same s10⟩
    rintro σ H2 ⟨v2, v3, v4, v5, v6, v7, rfl, B2⟩
    clear s1 nb nl B H1
    -- how many states the ring has
    refine ⟨fun σ H' => ∃ m : Nat, σ = S5 a b v2 v3 v4 v5 v6 v7 (some (.int (m : Int))) none none none none ∧ BagAt H' b l ns ∧ 1 ≤ m ∧ m < 9, ?_, ?_⟩
    · refine ⟨_, rfl, b, l, ns, 8, rfl, B2, by decide, by omega, fun v o v0 v1 BO => ?_⟩
      refine ⟨_, _, rfl, rfl, 1 + v.toNat, ?_, B2.upd BO, by omega, by omega⟩
      show S5 a b v2 v3 v4 v5 v6 v7 (some (V.int (1 + v))) none none none none = _
      rw [show (1 : Int) + v = ((1 + v.toNat : Nat) : Int) by omega]
    clear B2
    rintro _ H3 ⟨m, rfl, B3, m1, m9⟩
    -- the ring
    refine ⟨fun σ H' => ∃ (g : Addr) (us : Es), σ = S5 a b v2 v3 v4 v5 v6 v7 (some (.int (m : Int))) (some (.ref g)) none none none ∧ Same H3 H' ∧ GrN CG H' g m us ∧ psOf us = psOf (rgE m), ?_, ?_⟩
    · refine ⟨_, rfl, _, rfl, (m : Int), rfl, by omega, by omega, fun D hD => ?_⟩
      refine lc_it (walk_range (lo := 0) (n := (m : Int).toNat)) (fun i H' => ∃ us : Es, Same H3 H' ∧ LsAt H' D us ∧ psOf us = (List.range i).map fun (k : Nat) => ((k : Int), (((k + 1) % m : Nat) : Int))) ⟨[], same_upd hD, ⟨upd_same, Ed.nil⟩, rfl⟩ (fun _ _ _ _ => True.intro) ?_ ?_
      · rintro i x H4 H5 hi ⟨us, sm, LS, eu⟩ ⟨rfl, rfl⟩
        refine ⟨rfl, ?_⟩
        have lu : us.length = i := by rw [← psL_len us, eu, List.length_map, List.length_range]
        rw [Int.toNat_natCast] at hi
        have z0 : (0 : Int) + (i : Int) = (i : Int) := by omega
        have z1 : (i : Int) + 1 = ((i + 1 : Nat) : Int) := by omega
        refine ⟨_, rfl, _, rfl, _, _, rfl, rfl, _, rfl, _, _, rfl, rfl, (show (0 : Int) < (m : Int) by omega), (by show 2 ≤ sizeLine; decide), fun tt htt => ?_⟩
        simp only [z0, z1, ← Int.natCast_emod]
        have s6 := same_upd (o := .tup [V.int (i : Int), .int (((i + 1) % m : Nat) : Int)]) htt
        have nt : tt ≠ D := fun w => by
          rw [w, LS.ls] at htt
          cases htt
        have L6 := LS.same s6
        refine ⟨_, L6.ls, ?_, us ++ [(tt, (i : Int), (((i + 1) % m : Nat) : Int))], ?_, L6.snoc (H := upd H5 tt (.tup [.int (i : Int), .int (((i + 1) % m : Nat) : Int)])) upd_same nt, ?_⟩
        · rw [vsOf_len]
          exact small1000 (by omega)
        · intro b o e
          rw [upd_ne (ne_of_none e hD)]
          exact s6 _ _ (sm _ _ e)
        · rw [psOf_app, eu, List.range_succ, List.map_append]
          rfl
      · rintro H4 ⟨us, sm, LS, eu⟩
        rw [Int.toNat_natCast] at eu
        have er : psOf us = psOf (rgE m) := by
          rw [eu]
          unfold psOf rgE
          rw [List.map_map]
          rfl
        have lu : us.length = m := by rw [← psL_len us, eu, List.length_map, List.length_range]
        intro g1 dx hg hdx nex
        have sc := make_same (C := CG) hg hdx nex
        refine ⟨g1, dx, D, (m : Int), us, HO.lst, rfl, upd_same, .inl rfl, sc _ _ LS.ls, LS.ed.same sc, VaP.es (by rw [er]; exact rg_va m1), by omega, by omega, by omega, fun ws H7 hw kp G => ⟨rfl, ?_⟩⟩
        have s7 : Same H4 H7 := fun c u ec => kp c u (ne_of_none ec hg) (sc _ _ ec)
        exact ⟨g1, ws, rfl, sm.trans s7, grN_of G (hw.trans er) (rg_va m1) m1 (by omega) (by rw [rg_len]; omega), hw.trans er⟩
    rintro _ H4 ⟨g9, us9, rfl, s4, G4, e9⟩
    have B4 := B3.same s4
    clear s4 B3
    -- round and round
    refine ⟨fun σ H' => ∃ t : Addr, σ = S5 a b v2 v3 v4 v5 v6 v7 (some (.int (m : Int))) (some (.ref g9)) (some (.ref t)) none none ∧ Same H4 H' ∧ H' t = some (.tup (nW (K5.trn m))), ?_, ?_⟩
    · refine ⟨_, rfl, _, rfl, RgOk.of_le (by decide) (by omega) (by decide) (by omega), fun t ht => ?_⟩
      have s5 := same_upd (o := .tup (rgV 0 (m : Int))) ht
      refine ⟨t, 80, rgV 0 (m : Int), rfl, rfl, SqT.of upd_same, ?_, by decide, by decide, ?_, fun z => absurd z (by decide), fun _ t2 ht2 => ?_⟩
      · intro z
        have := congrArg List.length z
        rw [rgV_length] at this
        simp at this
        omega
      · rw [rgV_length]
        omega
      · refine ⟨t2, rfl, s5.trans (same_upd ht2), ?_⟩
        rw [upd_same, ← K5.nW_trn, ← K5.nW_rg]
        rfl
    rintro _ H5 ⟨t5, rfl, s5, et5⟩
    have B5 := B4.same s5
    have G5 := G4.same s5
    clear s5 B4 G4
    -- the closed paths of the ring, by the law
    refine ⟨fun σ H' => ∃ (D : Addr) (as : List Addr), σ = S5 a b v2 v3 v4 v5 (some (.ref D)) v7 (some (.int (m : Int))) (some (.ref g9)) (some (.ref t5)) none none ∧ Same H5 H' ∧ H' D = some (.lst (as.map V.ref)) ∧ TW H' as (rgDue m), ?_, ?_⟩
    · refine ⟨_, rfl, _, _, rfl, rfl, (show (0 : Int) < (m : Int) by omega), rfl, _, rfl, ?_⟩
      by_cases hc : 40 % m = 0
      · have er : rgDue m = (List.range m).map fun k => (List.range 40).map fun j => (k + j) % m := by unfold rgDue; rw [if_pos hc]
        refine if_t (decide_eq_true (by show V.int ((40 : Int) % (m : Int)) = V.int 0; rw [show (40 : Int) % (m : Int) = ((40 % m : Nat) : Int) from rfl, hc]; rfl)) ?_
        refine ⟨_, rfl, (m : Int), rfl, by omega, by omega, fun D hD => ?_⟩
        refine lc_it (walk_range (lo := 0) (n := (m : Int).toNat)) (fun i H' => ∃ as : List Addr, Same H5 H' ∧ H' D = some (.lst (as.map V.ref)) ∧ TW H' as ((List.range i).map fun k => (List.range 40).map fun j => (k + j) % m)) ⟨[], same_upd hD, upd_same, True.intro⟩ (fun _ _ _ _ => True.intro) ?_ ?_
        · rintro i x H6 H7 hi ⟨as, sm, eD, tw⟩ ⟨rfl, rfl⟩
          rw [Int.toNat_natCast] at hi
          have z0 : (0 : Int) + (i : Int) = (i : Int) := by omega
          have al := tw.len
          rw [List.length_map, List.length_range] at al
          refine ⟨rfl, ?_⟩
          refine ⟨_, rfl, _, rfl, _, rfl, _, rfl, _, _, rfl, rfl, _, rfl, t5, _, rfl, SqT.of (sm _ _ et5), fun w => ?_, fun _ t6 ht6 => ?_⟩
          · exfalso
            have w2 := w.2
            rw [z0, show (i : Int) + 40 = ((i + 40 : Nat) : Int) by omega, HT.sIx_nat, nW_len, K5.trn_len] at w2
            omega
          · rw [z0, K5.cut_trn m1 m9 hi]
            have s6 := same_upd (o := .tup (nW ((List.range 40).map fun j => (i + j) % m))) ht6
            have eD2 := s6 _ _ eD
            refine ⟨_, eD2, small1000 (by rw [List.length_map]; omega), as ++ [t6], ?_, by rw [upd_same, List.map_append]; rfl, ?_⟩
            · intro c o e
              rw [upd_ne (ne_of_none e hD)]
              exact s6 _ _ (sm _ _ e)
            · rw [List.range_succ (n := i), List.map_append]
              exact TW.off eD2 ((tw.same s6).snoc upd_same)
        · rintro H6 ⟨as, sm, eD, tw⟩
          rw [Int.toNat_natCast] at tw
          exact ⟨D, as, rfl, sm, eD, by rw [er]; exact tw⟩
      · have er : rgDue m = [] := by unfold rgDue; rw [if_neg hc]
        refine if_f (decide_eq_false fun z => hc (by have := V.int.inj z; rw [show (40 : Int) % (m : Int) = ((40 % m : Nat) : Int) from rfl] at this; omega)) ?_
        refine ⟨Nat.zero_le _, fun D hD => ?_⟩
        exact ⟨D, [], rfl, same_upd hD, upd_same, by rw [er]; exact True.intro⟩
    clear v6
    rintro _ H6 ⟨D6, as6, rfl, s6, eD6, tw6⟩
    have B6 := B5.same s6
    have G6 := G5.same s6
    clear s6 B5 G5
    have rl : (rgDue m).length ≤ 8 := by
      unfold rgDue
      split
      · rw [List.length_map, List.length_range]
        omega
      · exact Nat.zero_le _
    have rc : clsL us9 40 = rgDue m := by rw [ps_cls e9, ring_cls m m9 m1]
    -- by the program
    refine ⟨fun σ H' => σ = S5 a b v2 v3 v4 v5 (some (.ref D6)) v7 (some (.int (m : Int))) (some (.ref g9)) (some (.ref t5)) none none ∧ BagAt H' b l ns, ?_, ?_⟩
    · refine ⟨_, rfl, g9, m, us9, 40, rfl, G6, by decide, by decide, ?_, fun H7 bs s7 tw E hE => ?_⟩
      · rw [closed_win (by decide), rc, Nat.zero_add]
        exact four _ (by omega)
      · rw [closed_win (by decide), rc] at tw
        have sE := same_upd (o := .lst (bs.map V.ref)) hE
        refine ⟨_, rfl, .ref E, .ref D6, rfl, lk_tw (k := 3) upd_same (sE _ _ (s7 _ _ eD6)) (tw.same sE) ((tw6.same s7).same sE) (by omega) (fun z hz => ?_), fun H8 s8 => ?_⟩
        · rw [← rc] at hz
          have := ((mem_cls (by decide)).mp hz).1
          omega
        refine ⟨true, rfl, ?_⟩
        refine if_f rfl ?_
        exact ⟨rfl, ((B6.same s7).same sE).same s8⟩
    clear B6 G6 eD6 tw6
    rintro _ H5 ⟨rfl, B5⟩
    clear et5
    generalize some (V.ref D6) = v6
    generalize some (V.int (m : Int)) = v8
    generalize some (V.ref g9) = v9
    generalize some (V.ref t5) = v10
    -- two rings
    refine ⟨fun σ H' => ∃ (g : Addr) (us : Es), σ = S5 a b v2 v3 v4 v5 v6 v7 v8 v9 v10 (some (.ref g)) none ∧ BagAt H' b l ns ∧ GrN CG H' g 7 us ∧ psOf us = psOf twE, ?_, ?_⟩
    · refine ⟨(by show 2 ≤ sizeLine; decide), fun t0 ht0 => ?_⟩
      have sm0 := same_upd (o := (.tup [V.int 0, .int 1])) ht0
      have e0 : upd H5 t0 (.tup [V.int 0, .int 1]) t0 = some (.tup [V.int 0, .int 1]) := upd_same
      generalize upd H5 t0 (.tup [V.int 0, .int 1]) = K0 at *
      refine ⟨(by show 2 ≤ sizeLine; decide), fun t1 ht1 => ?_⟩
      have sm1 := same_upd (o := (.tup [V.int 1, .int 2])) ht1
      have e1 : upd K0 t1 (.tup [V.int 1, .int 2]) t1 = some (.tup [V.int 1, .int 2]) := upd_same
      have e0 := sm1 _ _ e0
      generalize upd K0 t1 (.tup [V.int 1, .int 2]) = K1 at *
      refine ⟨(by show 2 ≤ sizeLine; decide), fun t2 ht2 => ?_⟩
      have sm2 := same_upd (o := (.tup [V.int 2, .int 0])) ht2
      have e2 : upd K1 t2 (.tup [V.int 2, .int 0]) t2 = some (.tup [V.int 2, .int 0]) := upd_same
      have e0 := sm2 _ _ e0
      have e1 := sm2 _ _ e1
      generalize upd K1 t2 (.tup [V.int 2, .int 0]) = K2 at *
      refine ⟨(by show 2 ≤ sizeLine; decide), fun t3 ht3 => ?_⟩
      have sm3 := same_upd (o := (.tup [V.int 0, .int 3])) ht3
      have e3 : upd K2 t3 (.tup [V.int 0, .int 3]) t3 = some (.tup [V.int 0, .int 3]) := upd_same
      have e0 := sm3 _ _ e0
      have e1 := sm3 _ _ e1
      have e2 := sm3 _ _ e2
      generalize upd K2 t3 (.tup [V.int 0, .int 3]) = K3 at *
      refine ⟨(by show 2 ≤ sizeLine; decide), fun t4 ht4 => ?_⟩
      have sm4 := same_upd (o := (.tup [V.int 3, .int 4])) ht4
      have e4 : upd K3 t4 (.tup [V.int 3, .int 4]) t4 = some (.tup [V.int 3, .int 4]) := upd_same
      have e0 := sm4 _ _ e0
      have e1 := sm4 _ _ e1
      have e2 := sm4 _ _ e2
      have e3 := sm4 _ _ e3
      generalize upd K3 t4 (.tup [V.int 3, .int 4]) = K4 at *
      refine ⟨(by show 2 ≤ sizeLine; decide), fun t5 ht5 => ?_⟩
      have sm5 := same_upd (o := (.tup [V.int 4, .int 5])) ht5
      have e5 : upd K4 t5 (.tup [V.int 4, .int 5]) t5 = some (.tup [V.int 4, .int 5]) := upd_same
      have e0 := sm5 _ _ e0
      have e1 := sm5 _ _ e1
      have e2 := sm5 _ _ e2
      have e3 := sm5 _ _ e3
      have e4 := sm5 _ _ e4
      generalize upd K4 t5 (.tup [V.int 4, .int 5]) = K5 at *
      refine ⟨(by show 2 ≤ sizeLine; decide), fun t6 ht6 => ?_⟩
      have sm6 := same_upd (o := (.tup [V.int 5, .int 6])) ht6
      have e6 : upd K5 t6 (.tup [V.int 5, .int 6]) t6 = some (.tup [V.int 5, .int 6]) := upd_same
      have e0 := sm6 _ _ e0
      have e1 := sm6 _ _ e1
      have e2 := sm6 _ _ e2
      have e3 := sm6 _ _ e3
      have e4 := sm6 _ _ e4
      have e5 := sm6 _ _ e5
      generalize upd K5 t6 (.tup [V.int 5, .int 6]) = K6 at *
      refine ⟨(by show 2 ≤ sizeLine; decide), fun t7 ht7 => ?_⟩
      have sm7 := same_upd (o := (.tup [V.int 6, .int 0])) ht7
      have e7 : upd K6 t7 (.tup [V.int 6, .int 0]) t7 = some (.tup [V.int 6, .int 0]) := upd_same
      have e0 := sm7 _ _ e0
      have e1 := sm7 _ _ e1
      have e2 := sm7 _ _ e2
      have e3 := sm7 _ _ e3
      have e4 := sm7 _ _ e4
      have e5 := sm7 _ _ e5
      have e6 := sm7 _ _ e6
      generalize upd K6 t7 (.tup [V.int 6, .int 0]) = K7 at *
      refine ⟨(by show 8 ≤ sizeLine; decide), fun e he => ?_⟩
      let tl : Es := [(t0, 0, 1), (t1, 1, 2), (t2, 2, 0), (t3, 0, 3), (t4, 3, 4), (t5, 4, 5), (t6, 5, 6), (t7, 6, 0)]
      have ED : Ed K7 tl := fun y hy => by
        simp only [tl, List.mem_cons, List.not_mem_nil, or_false] at hy
        rcases hy with rfl | rfl | rfl | rfl | rfl | rfl | rfl | rfl
        · exact e0
        · exact e1
        · exact e2
        · exact e3
        · exact e4
        · exact e5
        · exact e6
        · exact e7
      have se := same_upd (o := .lst (vsOf tl)) he
      have ee : upd K7 e (.lst (vsOf tl)) e = some (.lst (vsOf tl)) := upd_same
      have ED := ED.same se
      have sA := (((((((sm0.trans sm1).trans sm2).trans sm3).trans sm4).trans sm5).trans sm6).trans sm7).trans se
      have et : psOf tl = psOf twE := rfl
      show _
      intro g1 dx hg hdx nex
      have sc := make_same (C := CG) hg hdx nex
      refine ⟨g1, dx, e, 7, tl, HO.lst, rfl, upd_same, .inl rfl, sc _ _ ee, ED.same sc, VaP.es (by rw [et]; exact tw_va), by decide, by decide, (by show 8 ≤ 24; decide), fun ws H7 hw kp G => ⟨rfl, ?_⟩⟩
      have s7 : Same (upd K7 e (.lst (vsOf tl))) H7 := fun c u ec => kp c u (ne_of_none ec hg) (sc _ _ ec)
      exact ⟨g1, ws, rfl, (B5.same sA).same s7, grN_of G (hw.trans et) tw_va (by decide) (by decide) (by decide), hw.trans et⟩
    clear B5
    rintro _ H6 ⟨g, us, rfl, B6, G6, eu⟩
    have m24 := tw_nodupA eu
    -- a size and a number
    refine ⟨fun σ H' => ∃ z ∈ K5.szs, σ = S5 a b v2 v3 v4 (some (.int ((z.1 : Nat) : Int))) v6 v7 (some (.int z.2)) v9 v10 (some (.ref g)) none ∧ GrN CG H' g 7 us, ?_, ?_⟩
    · refine ⟨_, rfl, ?_⟩
      refine ⟨(by show 2 ≤ sizeLine; decide), fun t0 ht0 => ?_⟩
      have sm0 := same_upd (o := (.tup [V.int 8, .int 8])) ht0
      have e0 : upd H6 t0 (.tup [V.int 8, .int 8]) t0 = some (.tup [V.int 8, .int 8]) := upd_same
      generalize upd H6 t0 (.tup [V.int 8, .int 8]) = K0 at *
      refine ⟨(by show 2 ≤ sizeLine; decide), fun t1 ht1 => ?_⟩
      have sm1 := same_upd (o := (.tup [V.int 11, .int 11])) ht1
      have e1 : upd K0 t1 (.tup [V.int 11, .int 11]) t1 = some (.tup [V.int 11, .int 11]) := upd_same
      have e0 := sm1 _ _ e0
      generalize upd K0 t1 (.tup [V.int 11, .int 11]) = K1 at *
      refine ⟨(by show 2 ≤ sizeLine; decide), fun t2 ht2 => ?_⟩
      have sm2 := same_upd (o := (.tup [V.int 15, .int 8])) ht2
      have e2 : upd K1 t2 (.tup [V.int 15, .int 8]) t2 = some (.tup [V.int 15, .int 8]) := upd_same
      have e0 := sm2 _ _ e0
      have e1 := sm2 _ _ e1
      generalize upd K1 t2 (.tup [V.int 15, .int 8]) = K2 at *
      refine ⟨(by show 2 ≤ sizeLine; decide), fun t3 ht3 => ?_⟩
      have sm3 := same_upd (o := (.tup [V.int 16, .int 24])) ht3
      have e3 : upd K2 t3 (.tup [V.int 16, .int 24]) t3 = some (.tup [V.int 16, .int 24]) := upd_same
      have e0 := sm3 _ _ e0
      have e1 := sm3 _ _ e1
      have e2 := sm3 _ _ e2
      generalize upd K2 t3 (.tup [V.int 16, .int 24]) = K3 at *
      refine ⟨(by show 2 ≤ sizeLine; decide), fun t4 ht4 => ?_⟩
      have sm4 := same_upd (o := (.tup [V.int 7, .int 0])) ht4
      have e4 : upd K3 t4 (.tup [V.int 7, .int 0]) t4 = some (.tup [V.int 7, .int 0]) := upd_same
      have e0 := sm4 _ _ e0
      have e1 := sm4 _ _ e1
      have e2 := sm4 _ _ e2
      have e3 := sm4 _ _ e3
      generalize upd K3 t4 (.tup [V.int 7, .int 0]) = K4 at *
      refine ⟨1, rfl, (by show 2 ≤ sizeLine; decide), fun t5 ht5 => ?_⟩
      have sm5 := same_upd (o := (.tup [V.int 40, .int (-1)])) ht5
      have e5 : upd K4 t5 (.tup [V.int 40, .int (-1)]) t5 = some (.tup [V.int 40, .int (-1)]) := upd_same
      have e0 := sm5 _ _ e0
      have e1 := sm5 _ _ e1
      have e2 := sm5 _ _ e2
      have e3 := sm5 _ _ e3
      have e4 := sm5 _ _ e4
      generalize upd K4 t5 (.tup [V.int 40, .int (-1)]) = K5 at *
      refine ⟨(by show 6 ≤ sizeLine; decide), fun F hF => ?_⟩
      have sF := same_upd (o := .lst [V.ref t0, .ref t1, .ref t2, .ref t3, .ref t4, .ref t5]) hF
      have eF : upd K5 F (.lst [V.ref t0, .ref t1, .ref t2, .ref t3, .ref t4, .ref t5]) F = some (.lst [V.ref t0, .ref t1, .ref t2, .ref t3, .ref t4, .ref t5]) := upd_same
      have sA := (((((sm0.trans sm1).trans sm2).trans sm3).trans sm4).trans sm5).trans sF
      have e0 := sF _ _ e0
      have e1 := sF _ _ e1
      have e2 := sF _ _ e2
      have e3 := sF _ _ e3
      have e4 := sF _ _ e4
      have e5 := sF _ _ e5
      have BF := B6.same sA
      have GF := G6.same sA
      have nF : F ≠ b := fun z => by
        rw [z] at hF
        obtain ⟨xs, eb⟩ := (B6.same (((((sm0.trans sm1).trans sm2).trans sm3).trans sm4).trans sm5)).at_b
        rw [eb] at hF
        cases hF
      have pick : ∀ (i : Nat) (v : V), [V.ref t0, .ref t1, .ref t2, .ref t3, .ref t4, .ref t5][i]? = some v → ∃ z ∈ Lw.K5.szs, ∃ t, v = .ref t ∧ upd K5 F (.lst [V.ref t0, .ref t1, .ref t2, .ref t3, .ref t4, .ref t5]) t = some (.tup [.int ((z.1 : Nat) : Int), .int z.2]) := fun i v hv => by
        match i, hv with
        | 0, hv => cases hv; exact ⟨(8, 8), by decide, t0, rfl, e0⟩
        | 1, hv => cases hv; exact ⟨(11, 11), by decide, t1, rfl, e1⟩
        | 2, hv => cases hv; exact ⟨(15, 8), by decide, t2, rfl, e2⟩
        | 3, hv => cases hv; exact ⟨(16, 24), by decide, t3, rfl, e3⟩
        | 4, hv => cases hv; exact ⟨(7, 0), by decide, t4, rfl, e4⟩
        | 5, hv => cases hv; exact ⟨(40, -1), by decide, t5, rfl, e5⟩
        | n + 6, hv => simp at hv
      refine ⟨b, l, F, ns, _, rfl, BF, SqL.of eF, nF, by simp, by simp, fun i v o hv BO => ?_⟩
      obtain ⟨z, hz, t, rfl, et⟩ := pick i v hv
      obtain ⟨xs, eb⟩ := BF.at_b
      have nt : t ≠ b := BF.ne_tup et
      have et2 : upd (upd K5 F (.lst [V.ref t0, .ref t1, .ref t2, .ref t3, .ref t4, .ref t5])) b o t = some (.tup [.int ((z.1 : Nat) : Int), .int z.2]) := by
        rw [upd_ne nt]
        exact et
      refine ⟨t, _, rfl, SqT.of et2, rfl, _, _, rfl, _, _, rfl, rfl, ?_⟩
      exact ⟨z, hz, rfl, GF.off eb .updb⟩
    clear B6 G6 v5 v8
    rintro _ H7 ⟨z, hz, rfl, G7⟩
    have fin := K5.szs_ok z hz
    -- three edges
    refine ⟨fun σ H' => 0 ≤ z.2 ∧ σ = S5 a b v2 v3 v4 (some (.int ((z.1 : Nat) : Int))) v6 v7 (some (.int z.2)) v9 v10 (some (.ref g)) none ∧ Same H7 H', ?_, ?_⟩
    · refine ⟨_, rfl, _, _, rfl, rfl, _, rfl, ?_⟩
      by_cases hc : z.2 < 0
      · refine if_t (decide_eq_true hc) ?_
        refine ⟨_, rfl, _, _, _, ⟨g, 7, us, 3, rfl, G7, by decide, by decide, rfl, rfl, rfl⟩, ?_⟩
        rw [closed_win (by decide), ps_cls eu, tw_3]
        refine ⟨(by show 3 + 1 ≤ sizeLine; decide), fun j G' hj => by
          have hj : j = 3 := hj
          rw [hj]
          decide, fun i acc G' => ∃ as : List Addr, acc = as.map V.ref ∧ Same H7 G' ∧ TW G' as (([[0, 1, 2], [1, 2, 0], [2, 0, 1]] : List (List Nat)).take i), ⟨[], rfl, fun _ _ z => z, True.intro⟩, ?_, ?_⟩
        · rintro i acc G' G1 z D H' ⟨as, rfl, s0, tw⟩ sG ⟨pa, p, hp, rfl, ea⟩ nD sH eD
          refine ⟨rfl, ?_⟩
          refine ⟨_, rfl, fun _ _ z => z, fun G2 t1 _ => ⟨as ++ [pa], by rw [List.map_append]; rfl, s0.trans (sG.trans t1), ?_⟩⟩
          obtain ⟨hl, hs⟩ := List.getElem?_eq_some_iff.mp hp
          rw [List.take_succ_eq_append_getElem hl, hs]
          exact (tw.same (sG.trans t1)).snoc (t1 _ _ ea)
        · rintro i acc G' G1 D ⟨as, rfl, s0, tw⟩ sG hd nD
          have hd : i = 3 := hd
          subst hd
          have sD := same_upd (o := .lst (as.map V.ref)) nD
          have eD : upd G1 D (.lst (as.map V.ref)) D = some (.lst (as.map V.ref)) := upd_same
          have tw := tw.same (sG.trans sD)
          generalize upd G1 D (.lst (as.map V.ref)) = M1 at *
          refine ⟨(by show 3 ≤ sizeLine; decide), fun t0 ht0 => ?_⟩
          have sm0 := same_upd (o := (.tup [V.int 0, .int 1, .int 2])) ht0
          have e0 : upd M1 t0 (.tup [V.int 0, .int 1, .int 2]) t0 = some (.tup (nW [0, 1, 2])) := upd_same
          generalize upd M1 t0 (.tup [V.int 0, .int 1, .int 2]) = K0 at *
          refine ⟨(by show 3 ≤ sizeLine; decide), fun t1 ht1 => ?_⟩
          have sm1 := same_upd (o := (.tup [V.int 1, .int 2, .int 0])) ht1
          have e1 : upd K0 t1 (.tup [V.int 1, .int 2, .int 0]) t1 = some (.tup (nW [1, 2, 0])) := upd_same
          have e0 := sm1 _ _ e0
          generalize upd K0 t1 (.tup [V.int 1, .int 2, .int 0]) = K1 at *
          refine ⟨(by show 3 ≤ sizeLine; decide), fun t2 ht2 => ?_⟩
          have sm2 := same_upd (o := (.tup [V.int 2, .int 0, .int 1])) ht2
          have e2 : upd K1 t2 (.tup [V.int 2, .int 0, .int 1]) t2 = some (.tup (nW [2, 0, 1])) := upd_same
          have e0 := sm2 _ _ e0
          have e1 := sm2 _ _ e1
          generalize upd K1 t2 (.tup [V.int 2, .int 0, .int 1]) = K2 at *
          refine ⟨(by show 3 ≤ sizeLine; decide), fun F hF => ?_⟩
          have sF := same_upd (o := .lst [V.ref t0, .ref t1, .ref t2]) hF
          have eF : upd K2 F (.lst [V.ref t0, .ref t1, .ref t2]) F = some (.lst ([t0, t1, t2].map V.ref)) := upd_same
          have tF : TW (upd K2 F (.lst [V.ref t0, .ref t1, .ref t2])) [t0, t1, t2] [[0, 1, 2], [1, 2, 0], [2, 0, 1]] := ⟨sF _ _ e0, sF _ _ e1, sF _ _ e2, True.intro⟩
          have sA := ((sm0.trans sm1).trans sm2).trans sF
          refine ⟨.list (tI [[0, 1, 2], [1, 2, 0], [2, 0, 1]]), .list (tI [[0, 1, 2], [1, 2, 0], [2, 0, 1]]), dpl_tw (sA _ _ eD) (tw.same sA), dpl_tw eF tF, shTI _, shTI _, ?_⟩
          rw [eqv_tI]
          exact q _
      · refine if_f (decide_eq_false hc) ?_
        exact ⟨by omega, rfl, fun _ _ z => z⟩
    rintro _ H8 ⟨z0, rfl, s8⟩
    have G8 := G7.same s8
    clear s8 G7 H7
    obtain ⟨_, y1, y40, yl, y64⟩ := fin.resolve_left (by omega)
    rw [← ps_cls eu] at yl y64
    generalize z.1 = L, z.2 = N at *
    have yc : ∀ p ∈ clsL us L, p.length = L ∧ Lnk us p ∧ p ≠ [] ∧ tgtE us (p.getLastD 0) = srcE us (p.headD 0) := fun p hp => by
      obtain ⟨c1, c2, c3⟩ := (mem_cls y1).mp hp
      exact ⟨c1, c2, fun z => by rw [z] at c1; simp at c1; omega, c3⟩
    -- told
    refine ⟨fun σ H' => ∃ (E : Addr) (bs : List Addr), σ = S5 a b v2 v3 v4 (some (.int (L : Int))) v6 v7 (some (.int N)) v9 v10 (some (.ref g)) (some (.ref E)) ∧ GrN CG H' g 7 us ∧ H' E = some (.lst (bs.map V.ref)) ∧ TW H' bs (clsL us L), ?_, ?_⟩
    · refine ⟨_, rfl, _, rfl, g, 7, us, L, rfl, G8, y1, y40, ?_, fun H9 bs s9 tw E hE => ?_⟩
      · rw [closed_win y1, Nat.zero_add]
        exact four _ (by omega)
      · rw [closed_win y1] at tw
        exact ⟨E, bs, rfl, (G8.same s9).same (same_upd hE), upd_same, tw.same (same_upd hE)⟩
    clear G8
    rintro _ H9 ⟨E, bs, rfl, G9, eE, te⟩
    have la : (bs.map V.ref).length = (clsL us L).length := by rw [List.length_map, te.len]
    refine ⟨fun σ H' => σ = S5 a b v2 v3 v4 (some (.int (L : Int))) v6 v7 (some (.int N)) v9 v10 (some (.ref g)) (some (.ref E)) ∧ Same H9 H', ?_, ?_⟩
    · refine ⟨_, rfl, E, _, rfl, .inl (SqL.of eE), _, rfl, rfl, _, rfl, ?_⟩
      refine if_f (by rw [la, yl]; simp) ?_
      refine ⟨_, rfl, _, rfl, E, ksL H9 bs, rfl, by rw [ksL_ref]; exact SqL.of eE, ksL_at te, ?_, fun A LL hA sub all => ?_⟩
      · unfold ksL
        rw [List.length_map, te.len]
        exact y64
      have sA := same_upd (o := SetTO P w A LL) hA
      refine ⟨A, LL, L, 24, rfl, upd_same, fun p hp => sq_same (.inr rfl) (ksL_at te p (sub p hp)) sA, y1, fun p hp => ?_, fun L' q0 pm nd l64 pw hq0 => ?_⟩
      · obtain ⟨c, hc, rfl⟩ := List.mem_map.mp (sub p hp)
        obtain ⟨ec, kc⟩ := tw_map te
        obtain ⟨c1, c2, _⟩ := yc (rdL H9 c) (by rw [ec]; exact List.mem_map.mpr ⟨c, hc, rfl⟩)
        refine ⟨by rw [List.length_map]; exact c1, fun m hm => ?_⟩
        obtain ⟨k, hk, rfl⟩ := List.mem_map.mp hm
        have := lnk_lt c2 k hk
        omega
      obtain ⟨ds, ed, tds⟩ := sorted_set_tw (B := 24) te (cls_asc (us := us) (L := L) (by decide) m24) cls_nodup sub all pm nd pw
      have sq := same_upd (o := .lst (L'.map fun q => V.ref q.1)) hq0
      have eq0 : upd (upd H9 A (SetTO P w A LL)) q0 (.lst (L'.map fun q => V.ref q.1)) q0 = some (.lst (ds.map V.ref)) := by rw [upd_same, ed]
      have s10 := sA.trans sq
      refine ⟨.list (tI (clsL us L)), .list (tI (clsL us L)), dpl_tw (s10 _ _ eE) (te.same s10), dpl_tw eq0 (tds.same s10), shTI _, shTI _, ?_⟩
      rw [eqv_tI]
      refine ⟨_, rfl, ?_⟩
      refine if_f rfl ?_
      have eE2 := s10 _ _ eE
      refine ⟨_, rfl, E, _, SqL, rfl, .inl rfl, SqL.of eE2, fun J wk D hD => ?_⟩
      refine lc_it wk (fun i H' => Same H9 H' ∧ H' D = some (.lst ((List.replicate i true).map V.bl))) ⟨s10.trans (same_upd hD), upd_same⟩ (fun i H' _ q => SqL.of (q.1 _ _ eE)) ?_ ?_
      · rintro i x H11 H12 hi ⟨s11, eD⟩ ⟨rfl, hx⟩
        rw [la] at hi
        obtain ⟨pa, ea, epa⟩ := te.at (List.getElem?_eq_getElem hi)
        rw [List.getElem?_map, ea] at hx
        cases hx
        obtain ⟨c1, c2, _⟩ := yc _ (List.getElem_mem hi)
        refine ⟨rfl, ?_⟩
        refine ⟨_, rfl, _, rfl, g, 7, us, pa, _, rfl, G9.same s11, s11 _ _ epa, by omega, c2, fun H13 s13 => ?_⟩
        refine ⟨_, s13 _ _ eD, small1000 (by rw [List.length_map, List.length_replicate]; omega), fun c o e => ?_, by rw [upd_same, K5.rep_snoc]⟩
        rw [upd_ne (ne_of_none (s10 _ _ e) hD)]
        exact s13 _ _ (s11 _ _ e)
      · rintro H11 ⟨s11, eD⟩
        refine ⟨D, _, rfl, SqL.of eD, _, rfl, ?_⟩
        rw [K5.all_rep]
        refine if_f rfl ?_
        exact ⟨rfl, s11⟩
    rintro _ H10 ⟨rfl, s10⟩
    have eE2 := s10 _ _ eE
    have G10 := G9.same s10
    refine ⟨_, rfl, E, _, SqL, rfl, .inl rfl, SqL.of eE2, fun J wk D hD => ?_⟩
    refine lc_it wk (fun i H' => Same H10 H' ∧ H' D = some (.lst ((List.replicate i true).map V.bl))) ⟨same_upd hD, upd_same⟩ (fun i H' _ q => SqL.of (q.1 _ _ eE2)) ?_ ?_
    · rintro i x H11 H12 hi ⟨s11, eD⟩ ⟨rfl, hx⟩
      rw [la] at hi
      obtain ⟨pa, ea, epa⟩ := te.at (List.getElem?_eq_getElem hi)
      rw [List.getElem?_map, ea] at hx
      cases hx
      obtain ⟨c1, c2, pn, c3⟩ := yc _ (List.getElem_mem hi)
      have epa := s11 _ _ (s10 _ _ epa)
      have G := G10.same s11
      obtain ⟨⟨dg, tt, h1, h2⟩, ed⟩ := id G.gr
      have hd1 := lnk_lt c2 _ (head_mem pn)
      have hd2 := lnk_lt c2 _ (last_mem pn)
      generalize (clsL us L)[i] = p at *
      obtain ⟨x1, hx1⟩ : ∃ x1, us[p.headD 0]? = some x1 := ⟨_, List.getElem?_eq_getElem hd1⟩
      obtain ⟨x2, hx2⟩ : ∃ x2, us[p.getLastD 0]? = some x2 := ⟨_, List.getElem?_eq_getElem hd2⟩
      have mx1 := List.mem_of_getElem? hx1
      have mx2 := List.mem_of_getElem? hx2
      have dt : decide (V.int x1.2.1 = V.int x2.2.2) = true := decide_eq_true (by rw [src_int hx1 (G.rg _ mx1).1, tgt_int hx2 (G.rg _ mx2).2.2.1, c3])
      refine ⟨rfl, ?_⟩
      refine ⟨_, rfl, g, dg, _, rfl, h1, look_no _ _ (by decide +kernel) (by decide +kernel), _, rfl, pa, _, _, _, rfl, rfl, SqT.of epa, at_hd pn, g, _, us, p.headD 0, x1, rfl, G.gr, hx1, x1.1, _, _, _, rfl, rfl, SqT.of (ed _ mx1), rfl, ?_⟩
      refine ⟨_, rfl, g, dg, _, rfl, h1, look_no _ _ (by decide +kernel) (by decide +kernel), _, rfl, 1, rfl, pa, _, _, _, rfl, rfl, SqT.of epa, at_lst pn, g, _, us, p.getLastD 0, x2, rfl, G.gr, hx2, x2.1, _, _, _, rfl, rfl, SqT.of (ed _ mx2), rfl, rfl, ?_⟩
      rw [dt]
      refine ⟨_, eD, small1000 (by rw [List.length_map, List.length_replicate]; omega), fun c o e => ?_, by rw [upd_same, K5.rep_snoc]⟩
      rw [upd_ne (ne_of_none e hD)]
      exact s11 _ _ e
    · rintro H11 ⟨s11, eD⟩
      refine ⟨D, _, rfl, SqL.of eD, ?_⟩
      rw [K5.all_rep]
      exact q _
end
end Lw
end
section
namespace Lw
open PySem L2
set_option maxHeartbeats 4000000 in
theorem all_mk : AMk := by
  intro l w K h mg fa C f_bag f_pull f_of f_plan f_like f_check f_init f_cnt f_eds f_edg f_cst f_lea p_st f_st f_graph f_aft f_pths f_lpc f_cl f_pr f_pw f_cc f_wt f_wk f_cs f_fb f_isp f_law re_st t8 t24 t40 t2000 od_bag an_bag od_pull an_pull od_of an_of od_plan an_plan od_like an_like od_check an_check od_init an_init od_cnt an_cnt od_eds an_eds od_edg an_edg od_cst an_cst od_lea an_lea od_st an_st od_graph an_graph od_aft an_aft od_pths an_pths od_lpc an_lpc od_cl an_cl od_pr an_pr od_pw an_pw od_cc an_cc od_wt an_wt od_wk an_wk od_cs an_cs od_fb an_fb od_isp an_isp od_law an_law sl_bag sl_pull sl_of sl_plan sl_like sl_check sl_init sl_cnt sl_eds sl_edg sl_cst sl_lea sl_st sl_graph sl_aft sl_pths sl_lpc sl_cl sl_pr sl_pw sl_cc sl_wt sl_wk sl_cs sl_fb sl_isp sl_law oc_bag kV_bag dc_bag pm_bag cd_bag ct_bag oc_pull kV_pull dc_pull pm_pull cd_pull ct_pull oc_of kV_of dc_of pm_of cd_of ct_of oc_plan kV_plan dc_plan pm_plan cd_plan ct_plan oc_like kV_like dc_like pm_like cd_like ct_like oc_check kV_check dc_check pm_check cd_check ct_check oc_init kV_init dc_init pm_init cd_init ct_init oc_cnt kV_cnt dc_cnt pm_cnt cd_cnt ct_cnt oc_eds kV_eds dc_eds pm_eds cd_eds ct_eds oc_edg kV_edg dc_edg pm_edg cd_edg ct_edg oc_cst kV_cst dc_cst pm_cst cd_cst ct_cst oc_lea kV_lea dc_lea pm_lea cd_lea ct_lea oc_st kV_st dc_st pm_st cd_st ct_st oc_graph kV_graph dc_graph pm_graph cd_graph ct_graph oc_aft kV_aft dc_aft pm_aft cd_aft ct_aft oc_pths kV_pths dc_pths pm_pths cd_pths ct_pths oc_lpc kV_lpc dc_lpc pm_lpc cd_lpc ct_lpc oc_cl kV_cl dc_cl pm_cl cd_cl ct_cl oc_pr kV_pr dc_pr pm_pr cd_pr ct_pr oc_pw kV_pw dc_pw pm_pw cd_pw ct_pw oc_cc kV_cc dc_cc pm_cc cd_cc ct_cc oc_wt kV_wt dc_wt pm_wt cd_wt ct_wt oc_wk kV_wk dc_wk pm_wk cd_wk ct_wk oc_cs kV_cs dc_cs pm_cs cd_cs ct_cs oc_fb kV_fb dc_fb pm_fb cd_fb ct_fb oc_isp kV_isp dc_isp pm_isp cd_isp ct_isp oc_law kV_law dc_law pm_law cd_law ct_law X G hfa z_len z_list z_tuple z_bool z_int z_str z_isinstance z_all z_zip z_range z_enumerate z_sum z_reversed z_set z_sorted aC gpg ghd gpo gsa gmk gkc gnS gnE grd gga gv8 gv24 a_bag l_bag c_bag k_bag a_pull l_pull c_pull k_pull a_of l_of c_of k_of a_plan l_plan c_plan k_plan a_like l_like c_like k_like a_check l_check c_check k_check a_init i_init l_init c_init k_init a_cnt i_cnt l_cnt c_cnt k_cnt a_eds i_eds l_eds c_eds k_eds a_edg i_edg l_edg c_edg k_edg a_cst i_cst l_cst c_cst k_cst a_lea i_lea l_lea c_lea k_lea a_st g_st t_st r_st l_st c_st k_st a_graph l_graph c_graph k_graph a_aft l_aft c_aft k_aft a_pths l_pths c_pths k_pths a_lpc l_lpc c_lpc k_lpc aML aMC a_cl l_cl c_cl k_cl a_pr l_pr c_pr k_pr a_pw l_pw c_pw k_pw a_cc l_cc c_cc k_cc a_wt l_wt c_wt k_wt a_wk l_wk c_wk k_wk a_cs l_cs c_cs k_cs a_fb l_fb c_fb k_fb a_isp l_isp c_isp k_isp a_law l_law c_law k_law
  have e := hfa.symm.trans (PySem.W.mg_of X G a_law)
  cases e
  have T : Bi mg := ⟨PySem.W.mg_none_of X G z_len, PySem.W.mg_none_of X G z_list, PySem.W.mg_none_of X G z_tuple, PySem.W.mg_none_of X G z_bool, PySem.W.mg_none_of X G z_int, PySem.W.mg_none_of X G z_str, PySem.W.mg_none_of X G z_isinstance, PySem.W.mg_none_of X G z_all, PySem.W.mg_none_of X G z_zip, PySem.W.mg_none_of X G z_range⟩
  have cl : Cls K C := ⟨gpg, ghd, gpo, gsa⟩
  have GT : GTxt K mg C (.type "type") := ⟨cl, gnS, gnE, PySem.W.mg_of X G aC, ⟨grd, gga⟩, ⟨_, gv8, ⟨_, rfl⟩⟩, ⟨_, gv24, ⟨_, rfl⟩⟩, PySem.W.mg_none_of X G z_enumerate⟩
  have F_bag := fun_mk (st := sBag) l_bag c_bag k_bag
  have b_bag := F_bag.binds (ps := ["_law_script"]) fun _ _ _ _ _ _ us hl => match us, hl with | [_], _ => rfl
  have F_pull := fun_mk (st := sPull) l_pull c_pull k_pull
  have b_pull := F_pull.binds (ps := ["_law_bag_here", "_law_many"]) fun _ _ _ _ _ _ us hl => match us, hl with | [_, _], _ => rfl
  have F_of := fun_mk (st := sOf) l_of c_of k_of
  have b_of := F_of.binds (ps := ["_law_bag_here", "_law_things"]) fun _ _ _ _ _ _ us hl => match us, hl with | [_, _], _ => rfl
  have F_plan := fun_mk (st := sPlan) l_plan c_plan k_plan
  have b_plan := F_plan.binds (ps := ["_law_bag_here", "_law_most", "_law_many"]) fun _ _ _ _ _ _ us hl => match us, hl with | [_, _, _], _ => rfl
  have F_like := fun_mk (st := sLike) l_like c_like k_like
  have b_like := F_like.binds (ps := ["_law_found", "_law_due"]) fun _ _ _ _ _ _ us hl => match us, hl with | [_, _], _ => rfl
  have F_check := fun_mk (st := sCheck) l_check c_check k_check
  have b_check := F_check.binds (ps := ["states", "edges"]) fun _ _ _ _ _ _ us hl => match us, hl with | [_, _], _ => rfl
  have F_init := fun_mk (st := sInit) l_init c_init k_init
  have b_init := F_init.binds (ps := ["self", "states", "edges"]) fun _ _ _ _ _ _ us hl => match us, hl with | [_, _, _], _ => rfl
  have F_cnt := fun_mk (st := sCounts) l_cnt c_cnt k_cnt
  have b_cnt := F_cnt.binds (ps := ["self"]) fun _ _ _ _ _ _ us hl => match us, hl with | [_], _ => rfl
  have F_eds := fun_mk (st := sEdges) l_eds c_eds k_eds
  have b_eds := F_eds.binds (ps := ["self"]) fun _ _ _ _ _ _ us hl => match us, hl with | [_], _ => rfl
  have F_edg := fun_mk (st := sEdge) l_edg c_edg k_edg
  have b_edg := F_edg.binds (ps := ["self", "number"]) fun _ _ _ _ _ _ us hl => match us, hl with | [_, _], _ => rfl
  have F_cst := fun_mk (st := sCheckState) l_cst c_cst k_cst
  have b_cst := F_cst.binds (ps := ["self", "state"]) fun _ _ _ _ _ _ us hl => match us, hl with | [_, _], _ => rfl
  have F_lea := fun_mk (st := sLeaving) l_lea c_lea k_lea
  have b_lea := F_lea.binds (ps := ["self", "state"]) fun _ _ _ _ _ _ us hl => match us, hl with | [_, _], _ => rfl
  have F_st := fun_mk (st := sStates) l_st c_st k_st
  have b_st := F_st.binds (ps := ["self"]) fun _ _ _ _ _ _ us hl => match us, hl with | [_], _ => rfl
  have F_graph := fun_mk (st := sGraph) l_graph c_graph k_graph
  have b_graph := F_graph.binds (ps := ["_law_plan_here"]) fun _ _ _ _ _ _ us hl => match us, hl with | [_], _ => rfl
  have F_aft := fun_mk (st := sAft) l_aft c_aft k_aft
  have b_aft := F_aft.binds (ps := ["_law_plan_here", "_law_edge"]) fun _ _ _ _ _ _ us hl => match us, hl with | [_, _], _ => rfl
  have F_pths := fun_mk (st := sPths) l_pths c_pths k_pths
  have b_pths := F_pths.binds (ps := ["_law_plan_here", "_law_size"]) fun _ _ _ _ _ _ us hl => match us, hl with | [_, _], _ => rfl
  have F_lpc := fun_mk (st := sLPC) l_lpc c_lpc k_lpc
  have b_lpc := F_lpc.binds (ps := ["_law_plan_here", "_law_size"]) fun _ _ _ _ _ _ us hl => match us, hl with | [_, _], _ => rfl
  have F_cl := fun_mk (st := sCl) l_cl c_cl k_cl
  have b_cl := F_cl.binds (ps := ["length", "limit"]) fun _ _ _ _ _ _ us hl => match us, hl with | [_, _], _ => rfl
  have F_pr := fun_mk (st := sProd) l_pr c_pr k_pr
  have b_pr := F_pr.binds (ps := ["one", "other"]) fun _ _ _ _ _ _ us hl => match us, hl with | [_, _], _ => rfl
  have F_pw := fun_mk (st := sPow) l_pw c_pw k_pw
  have b_pw := F_pw.binds (ps := ["table", "exponent"]) fun _ _ _ _ _ _ us hl => match us, hl with | [_, _], _ => rfl
  have F_cc := fun_mk (st := sCC) l_cc c_cc k_cc
  have b_cc := F_cc.binds (ps := ["graph", "length"]) fun _ _ _ _ _ _ us hl => match us, hl with | [_, _], _ => rfl
  have F_wt := fun_mk (st := sWaysTo) l_wt c_wt k_wt
  have b_wt := F_wt.binds (ps := ["graph", "length", "ends"]) fun _ _ _ _ _ _ us hl => match us, hl with | [_, _, _], _ => rfl
  have F_wk := fun_mk (st := sWalks) l_wk c_wk k_wk
  have b_wk := F_wk.binds (ps := ["edges", "ways", "first"]) fun _ _ _ _ _ _ us hl => match us, hl with | [_, _, _], _ => rfl
  have F_cs := fun_mk (st := sClosed) l_cs c_cs k_cs
  have b_cs := F_cs.binds (ps := ["graph", "length"]) fun _ _ _ _ _ _ us hl => match us, hl with | [_, _], _ => rfl
  have F_fb := fun_mk (st := sBreak) l_fb c_fb k_fb
  have b_fb := F_fb.binds (ps := ["graph", "path"]) fun _ _ _ _ _ _ us hl => match us, hl with | [_, _], _ => rfl
  have F_isp := fun_mk (st := sIsP) l_isp c_isp k_isp
  have b_isp := F_isp.binds (ps := ["graph", "path"]) fun _ _ _ _ _ _ us hl => match us, hl with | [_, _], _ => rfl
  have F_law := fun_mk (st := sLaw) l_law c_law k_law
  refine ⟨PySem.W.fnOf "law" "law" (defArgs sLaw) (defBody sLaw) (defScope sLaw) .none kV_law dc_law pm_law an_law cd_law ct_law, fun s v => .of_eq rfl, fun base _ _ => ?_⟩
  have cal_bag : C8.Cal l.prog w K mg base 1 "_law_bag" (spBag K) [] := ⟨f_bag, _, _, [], ok_bag (k := 0) F_bag T, PySem.W.mg_of X G a_bag, k_bag, b_bag, .nil⟩
  have cal_pull : C8.Cal l.prog w K mg base 1 "_law_pull" spPull [] := ⟨f_pull, _, _, [], ok_pull (k := 0) F_pull T.len, PySem.W.mg_of X G a_pull, k_pull, b_pull, .nil⟩
  have cal_of : C8.Cal l.prog w K mg base 2 "_law_of" (spOf K) [] := ⟨f_of, _, _, [], ok_of (k := 0) F_of T cal_pull, PySem.W.mg_of X G a_of, k_of, b_of, .nil⟩
  have cal_plan : C8.Cal l.prog w K mg base 2 "_law_plan" spPlan [] := ⟨f_plan, _, _, [], ok_plan (k := 0) F_plan T cal_pull, PySem.W.mg_of X G a_plan, k_plan, b_plan, .nil⟩
  have cal_like : C8.Cal l.prog w K mg base 1 "_law_like" (spLike 0) [] := ⟨f_like, _, _, [], like0 (k := 0) F_like, PySem.W.mg_of X G a_like, k_like, b_like, .nil⟩
  have cal_like : C8.Cal l.prog w K mg base 2 "_law_like" (spLike 1) [] := ⟨f_like, _, _, [], ok_like (n := 1) (k := 0) F_like T (fun _ => cal_like), PySem.W.mg_of X G a_like, k_like, b_like, .nil⟩
  have cal_like : C8.Cal l.prog w K mg base 3 "_law_like" (spLike 2) [] := ⟨f_like, _, _, [], ok_like (n := 2) (k := 1) F_like T (fun _ => cal_like), PySem.W.mg_of X G a_like, k_like, b_like, .nil⟩
  have cal_like : C8.Cal l.prog w K mg base 4 "_law_like" (spLike 3) [] := ⟨f_like, _, _, [], ok_like (n := 3) (k := 2) F_like T (fun _ => cal_like), PySem.W.mg_of X G a_like, k_like, b_like, .nil⟩
  have cal_like : C8.Cal l.prog w K mg base 5 "_law_like" (spLike 4) [] := ⟨f_like, _, _, [], ok_like (n := 4) (k := 3) F_like T (fun _ => cal_like), PySem.W.mg_of X G a_like, k_like, b_like, .nil⟩
  have cal_like : C8.Cal l.prog w K mg base 6 "_law_like" (spLike 5) [] := ⟨f_like, _, _, [], ok_like (n := 5) (k := 4) F_like T (fun _ => cal_like), PySem.W.mg_of X G a_like, k_like, b_like, .nil⟩
  have cal_like : C8.Cal l.prog w K mg base 7 "_law_like" (spLike 6) [] := ⟨f_like, _, _, [], ok_like (n := 6) (k := 5) F_like T (fun _ => cal_like), PySem.W.mg_of X G a_like, k_like, b_like, .nil⟩
  have cal_check : C8.Cal l.prog w K mg base 1 "check_edges" (spCheck K) [] := ⟨f_check, _, _, [], ok_check (k := 0) F_check T GT, PySem.W.mg_of X G a_check, k_check, b_check, .nil⟩
  have mG : C8.Mak l.prog w K mg base 2 "Graph" C (spInit C) [] := ⟨f_init, _, _, [], ⟨gmk, a_init, i_init, gkc⟩, ok_init (k := 0) F_init T GT cal_check, PySem.W.mg_of X G aC, b_init, .nil⟩
  have m_cnt : C8.Met l.prog w K mg base 1 C "counts" (spCounts C) [] := ⟨f_cnt, _, _, [], cl, ⟨a_cnt, i_cnt, k_cnt⟩, ok_counts (k := 0) F_cnt T GT, b_cnt, .nil⟩
  have m_eds : C8.Met l.prog w K mg base 1 C "edges" (spEdges C) [] := ⟨f_eds, _, _, [], cl, ⟨a_eds, i_eds, k_eds⟩, ok_edges (k := 0) F_eds T GT, b_eds, .nil⟩
  have m_edg : C8.Met l.prog w K mg base 1 C "edge" (spEdge0 C) [] := ⟨f_edg, _, _, [], cl, ⟨a_edg, i_edg, k_edg⟩, ok_edge0 (k := 0) F_edg T GT, b_edg, .nil⟩
  have m_cst : C8.Met l.prog w K mg base 1 C "check_state" (spState0 C) [] := ⟨f_cst, _, _, [], cl, ⟨a_cst, i_cst, k_cst⟩, ok_state0 (k := 0) F_cst GT, b_cst, .nil⟩
  have m_lea : C8.Met l.prog w K mg base 2 C "leaving" (spLv C) [] := ⟨f_lea, _, _, [], cl, ⟨a_lea, i_lea, k_lea⟩, lv_of (ok_leaving0 (k := 0) F_lea GT m_cst), b_lea, .nil⟩
  have pr_st : Prp l.prog w K mg base 1 C "states" (spStates C) := ⟨p_st, f_st, _, cl, ⟨a_st, g_st, t_st, ⟨_, r_st⟩⟩, ok_states (k := 0) F_st GT, b_st⟩
  have cal_graph : C8.Cal l.prog w K mg base 4 "_law_graph" (spGraph C) [] := ⟨f_graph, _, _, [], ok_graph (k := 0) F_graph T mG, PySem.W.mg_of X G a_graph, k_graph, b_graph, .nil⟩
  have cal_aft : C8.Cal l.prog w K mg base 1 "_law_after" spAft [] := ⟨f_aft, _, _, [], ok_aft (k := 0) F_aft T, PySem.W.mg_of X G a_aft, k_aft, b_aft, .nil⟩
  have cal_lpc : C8.Cal l.prog w K mg base 1 "_law_path_count" spPC [] := ⟨f_lpc, _, _, [], lpc_pc (ok_lpc (k := 0) F_lpc T (PySem.W.mg_none_of X G z_sum)), PySem.W.mg_of X G a_lpc, k_lpc, b_lpc, .nil⟩
  have cal_pthsW : C8.Cal l.prog w K mg base 2 "_law_paths" spPthsW [] := ⟨f_pths, _, _, [], ok_pthsW (k := 0) F_pths T cal_aft, PySem.W.mg_of X G a_pths, k_pths, b_pths, .nil⟩
  have cal_cl : C8.Cal l.prog w K mg base 1 "check_length" spCl [] := ⟨f_cl, _, _, [], ok_cl (k := 0) F_cl, PySem.W.mg_of X G a_cl, k_cl, b_cl, .nil⟩
  have cal_pr : C8.Cal l.prog w K mg base 1 "product" spProd [] := ⟨f_pr, _, _, [], ok_prod (k := 0) F_pr T (PySem.W.mg_none_of X G z_sum), PySem.W.mg_of X G a_pr, k_pr, b_pr, .nil⟩
  have cal_pw : C8.Cal l.prog w K mg base 2 "power" spPow [] := ⟨f_pw, _, _, [], ok_pow (k := 0) F_pw T (PySem.W.mg_none_of X G z_reversed) cal_pr, PySem.W.mg_of X G a_pw, k_pw, b_pw, .nil⟩
  have cal_cc : C8.Cal l.prog w K mg base 3 "count_closed" (spCC C) [] := ⟨f_cc, _, _, [], ok_cc (k := 0) F_cc (PySem.W.mg_of X G aMC) (PySem.W.mg_none_of X G z_sum) GT.enum cal_cl cal_pw m_cnt, PySem.W.mg_of X G a_cc, k_cc, b_cc, .nil⟩
  have cal_wt : C8.Cal l.prog w K mg base 5 "ways_to" (spWaysTo C) [] := ⟨f_wt, _, _, [], ok_waysTo (k := 2) F_wt T m_eds pr_st m_lea, PySem.W.mg_of X G a_wt, k_wt, b_wt, .nil⟩
  have cal_wk : CalG l.prog w K mg base 1 True "walks" spWalks := ⟨f_wk, _, _, ok_walks (k := 0) F_wk T (PySem.W.mg_none_of X G z_reversed), PySem.W.mg_of X G a_wk, k_wk, b_wk⟩
  have cal_wkM : CalGM l.prog w K mg base 1 True "walks" spWalksM := ⟨f_wk, _, _, ok_walksM (k := 0) F_wk T (PySem.W.mg_none_of X G z_reversed), PySem.W.mg_of X G a_wk, k_wk, b_wk⟩
  have cal_cs : CalG l.prog w K mg base 6 False "closed_paths" (spClosed C) := ⟨f_cs, _, _, ok_closed (k := 0) F_cs T (PySem.W.mg_none_of X G z_enumerate) (PySem.W.mg_of X G aML) cal_cl m_eds pr_st cal_wt cal_wk, PySem.W.mg_of X G a_cs, k_cs, b_cs⟩
  have cal_csM : CalGM l.prog w K mg base 6 False "closed_paths" (spClosedM C) := ⟨f_cs, _, _, ok_closedM (k := 0) F_cs T (PySem.W.mg_none_of X G z_enumerate) (PySem.W.mg_of X G aML) cal_cl m_eds pr_st cal_wt cal_wkM, PySem.W.mg_of X G a_cs, k_cs, b_cs⟩
  have cal_fb : C8.Cal l.prog w K mg base 2 "first_break" (spBreak C) [] := ⟨f_fb, _, _, [], ok_break (k := 0) F_fb T GT m_eds, PySem.W.mg_of X G a_fb, k_fb, b_fb, .nil⟩
  have cal_isp : C8.Cal l.prog w K mg base 3 "is_path" (spIsP C) [] := ⟨f_isp, _, _, [], ok_isP (k := 0) F_isp cal_fb, PySem.W.mg_of X G a_isp, k_isp, b_isp, .nil⟩
  exact ok_law F_law (CG := C) ⟨T, (PySem.W.mg_none_of X G z_sorted), (PySem.W.mg_none_of X G z_set), cal_bag, cal_pull, cal_of, cal_plan, cal_graph, cal_lpc, cal_pthsW, cal_aft, cal_like, cal_cc, cal_isp, mG, m_edg, cal_cs, cal_csM⟩
end Lw
end
section
theorem PySem.Challenge.cw_windowkin_k05_closed_paths_in_order_holds : PySem.Challenge.rw_windowkin_k05_closed_paths_in_order.Holds :=
  Lw.h0 Lw.all_mk
end
