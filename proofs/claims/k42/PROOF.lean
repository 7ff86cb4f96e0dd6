import PyProof.Rows.All
import Wide.All
import OpenK.AllK
import Wide.FinOn
import HandS.ForExc
import HandS.Comp
import HandS.Iter
import HandS.Wide
import HandS.IsInst
import HandS.TupLe
import HandS.Flow
import HandS.Defaults
import HandS.MakeKw
import HandS.ExcInit
import HandS.ExcField
import HandS.TryMany
import HandS.Zip
import HandS.OwnEq
import HandS.Property
import HandS.TupMul
import HandS.Conv
import HandS.Style
import HandS.Star
import HandS.Rev
import HandS.Small
import HandS.Walk
import KE.GoesEnum
import KE.GoesMore
import KE.KTupSum
import HandS.TupAny
import HandS.RevTup
import HandS.Gcd
import KE.KMathGC
import PyProof.LongRange
import KE.GoesZip
import HandS.Dict
import KE.DatumOrd
import HandS.SortInts
import HandS.RevRange
import HandS.DictComp
import HandS.Flt
import HandS.SortKw
import HandS.WideBits
import HandS.Text
import HandS.FStr
import HandS.StrMore
import HandS.Replace
import HandS.Codes
import HandS.SuiteRaise
import HandS.RaiseFrom
import HandS.ExcInitHot
import HandS.ReplaceLit
import HandS.Deep
import HandS.HeadHook2
import HandS.Ends
import PySem.Challenge.RW_jointsapart_k42_whole_lists_of_stretches
set_option Elab.async false
set_option linter.all false
set_option maxRecDepth 100000
/-! ### Z: a ledger of what stands in the heap, and rules for readings over it -/
namespace Z
open PySem L2
/-- an entry of the ledger: an object with all that it holds; the draws' list l with its cells c -/
inductive En where
  | ob (a : Addr) (o : HO)
  | hand (l c : Addr)
  | hand5 (l c : Addr)
def En.fp : En → List Addr
  | .ob a _ => [a]
  | .hand l c => [l, c]
  | .hand5 l c => [l, c]
def HandAt (H : Hp) (l c : Addr) : Prop := ∃ (ns : List Int) (i j t : Int), 0 ≤ i ∧ H l = some (.lst [.ref c, .int i, .int j, .int t]) ∧ H c = some (.lst (ns.map V.int))
def HandAt5 (H : Hp) (l c : Addr) : Prop := ∃ (ns : List Int) (i j t u : Int), 0 ≤ i ∧ H l = some (.lst [.ref c, .int i, .int j, .int t, .int u]) ∧ H c = some (.lst (ns.map V.int))
def En.sat (H : Hp) : En → Prop
  | .ob a o => H a = some o
  | .hand l c => HandAt H l c
  | .hand5 l c => HandAt5 H l c
def Fx (H : Hp) (L : List En) : Prop := (∀ e ∈ L, e.sat H) ∧ (L.flatMap En.fp).Nodup
theorem En.there {H : Hp} {e : En} (h : e.sat H) {a : Addr} (ha : a ∈ e.fp) : ∃ o, H a = some o := by
  cases e with
  | ob b o =>
    have e : a = b := List.mem_singleton.mp ha
    subst e
    exact ⟨o, h⟩
  | hand l c =>
    obtain ⟨ns, i, j, t, h0, h1, h2⟩ := (show HandAt H l c from h)
    rcases List.mem_cons.mp (show a ∈ [l, c] from ha) with e | e
    · subst e
      exact ⟨_, h1⟩
    · have e := List.mem_singleton.mp e
      subst e
      exact ⟨_, h2⟩
  | hand5 l c =>
    obtain ⟨ns, i, j, t, u, h0, h1, h2⟩ := (show HandAt5 H l c from h)
    rcases List.mem_cons.mp (show a ∈ [l, c] from ha) with e | e
    · subst e
      exact ⟨_, h1⟩
    · have e := List.mem_singleton.mp e
      subst e
      exact ⟨_, h2⟩
theorem En.keep {H H' : Hp} {e : En} (h : e.sat H) (k : ∀ a ∈ e.fp, ∀ o, H a = some o → H' a = some o) : e.sat H' := by
  cases e with
  | ob b o => exact k b List.mem_cons_self o h
  | hand l c =>
    obtain ⟨ns, i, j, t, h0, h1, h2⟩ := (show HandAt H l c from h)
    exact ⟨ns, i, j, t, h0, k l List.mem_cons_self _ h1, k c (List.mem_cons_of_mem _ List.mem_cons_self) _ h2⟩
  | hand5 l c =>
    obtain ⟨ns, i, j, t, u, h0, h1, h2⟩ := (show HandAt5 H l c from h)
    exact ⟨ns, i, j, t, u, h0, k l List.mem_cons_self _ h1, k c (List.mem_cons_of_mem _ List.mem_cons_self) _ h2⟩
section
variable {H H' : Hp} {L L' : List En} {a p : Addr} {o o' : HO}
theorem Fx.get (F : Fx H L) (h : En.ob a o ∈ L) : H a = some o := F.1 _ h
theorem Fx.gh {l c : Addr} (F : Fx H L) (h : En.hand l c ∈ L) : HandAt H l c := F.1 _ h
theorem Fx.nil : Fx H [] := ⟨fun e h => (nomatch h), List.nodup_nil⟩
theorem Fx.notin (F : Fx H L) (h : H p = none) : p ∉ L.flatMap En.fp := fun hp => by
  obtain ⟨e, he, ha⟩ := List.mem_flatMap.mp hp
  obtain ⟨o, q⟩ := En.there (F.1 e he) ha
  rw [h] at q
  cases q
theorem Fx.new (F : Fx H L) (h : H p = none) : Fx (upd H p o) (.ob p o :: L) := by
  have ni := F.notin h
  refine ⟨fun e he => ?_, ?_⟩
  · rcases List.mem_cons.mp he with e1 | he
    · subst e1
      exact upd_same
    · refine En.keep (F.1 e he) fun a ha o q => ?_
      rw [upd_ne (ne_of_none q h)]
      exact q
  · show (p :: L.flatMap En.fp).Nodup
    exact List.nodup_cons.mpr ⟨ni, F.2⟩
theorem Fx.same (F : Fx H L) (k : Same H H') : Fx H' L := ⟨fun e he => En.keep (F.1 e he) fun a _ o q => k a o q, F.2⟩
theorem Fx.add (F : Fx H L) (h : H p = some o) (n : p ∉ L.flatMap En.fp) : Fx H (.ob p o :: L) := by
  refine ⟨fun e he => ?_, ?_⟩
  · rcases List.mem_cons.mp he with e1 | he
    · subst e1
      exact h
    · exact F.1 e he
  · show (p :: L.flatMap En.fp).Nodup
    exact List.nodup_cons.mpr ⟨n, F.2⟩
theorem Fx.sub (F : Fx H L) (h : L'.Sublist L) : Fx H L' := by
  refine ⟨fun e he => F.1 e (h.subset he), ?_⟩
  have : (L'.flatMap En.fp).Sublist (L.flatMap En.fp) := by
    induction h with
    | slnil => exact List.Sublist.refl _
    | cons a _ ih =>
      rw [List.flatMap_cons]
      exact List.Sublist.trans (ih ⟨fun e he => F.1 e (List.mem_cons_of_mem _ he), (List.nodup_append.mp (by have := F.2; rwa [List.flatMap_cons] at this)).2.1⟩) (List.sublist_append_right _ _)
    | cons_cons a _ ih =>
      rw [List.flatMap_cons, List.flatMap_cons]
      exact (List.Sublist.refl _).append (ih ⟨fun e he => F.1 e (List.mem_cons_of_mem _ he), (List.nodup_append.mp (by have := F.2; rwa [List.flatMap_cons] at this)).2.1⟩)
  exact List.Sublist.nodup this F.2
/-- p's object is exchanged -/
inductive Put (p : Addr) (o' : HO) : List En → List En → Prop where
  | head {o : HO} {L : List En} : Put p o' (.ob p o :: L) (.ob p o' :: L)
  | tail {e : En} {L L' : List En} (h : Put p o' L L') : Put p o' (e :: L) (e :: L')
theorem Put.fps (h : Put p o' L L') : L'.flatMap En.fp = L.flatMap En.fp := by
  induction h with
  | head => rfl
  | tail _ ih => rw [List.flatMap_cons, List.flatMap_cons, ih]
theorem Put.mem (h : Put p o' L L') : p ∈ L.flatMap En.fp := by
  induction h with
  | head => exact List.mem_cons_self
  | tail _ ih =>
    rw [List.flatMap_cons]
    exact List.mem_append_right _ ih
theorem Put.sat (h : Put p o' L L') (nd : (L.flatMap En.fp).Nodup) (s : ∀ e ∈ L, e.sat H) : ∀ e ∈ L', e.sat (upd H p o') := by
  induction h with
  | @head o L =>
    intro e he
    rcases List.mem_cons.mp he with e1 | he
    · subst e1
      exact upd_same
    · refine En.keep (s e (List.mem_cons_of_mem _ he)) fun a ha u q => ?_
      have n := (List.nodup_cons.mp (show (p :: L.flatMap En.fp).Nodup from nd)).1
      rw [upd_ne (fun z => n (by rw [← z]; exact List.mem_flatMap.mpr ⟨e, he, ha⟩))]
      exact q
  | @tail x L L' h ih =>
    rw [List.flatMap_cons] at nd
    obtain ⟨n1, n2, n3⟩ := List.nodup_append.mp nd
    intro e he
    rcases List.mem_cons.mp he with e1 | he
    · subst e1
      refine En.keep (s e List.mem_cons_self) fun a ha u q => ?_
      rw [upd_ne (n3 a ha p h.mem)]
      exact q
    · exact ih n2 (fun e he => s e (List.mem_cons_of_mem _ he)) e he
theorem Fx.put (F : Fx H L) (h : Put p o' L L') : Fx (upd H p o') L' := ⟨h.sat F.2 F.1, by rw [h.fps]; exact F.2⟩
/-- all but the list l stands; the draws go on at l -/
theorem Fx.drawn {l c : Addr} (F : Fx H L) (h : En.hand l c ∈ L) (k : ∀ b o, H b = some o → b ≠ l → H' b = some o) (d : HandAt H' l c) : Fx H' L := by
  refine ⟨fun e he => ?_, F.2⟩
  by_cases hl : l ∈ e.fp
  · have key : e = En.hand l c := by
      have nd := F.2
      have h' := h
      have he' := he
      clear d k F
      induction L with
      | nil => cases he
      | cons x L ih =>
        rw [List.flatMap_cons] at nd
        obtain ⟨n1, n2, n3⟩ := List.nodup_append.mp nd
        rcases List.mem_cons.mp h with e1 | h1
        · rcases List.mem_cons.mp he with e2 | h2
          · rw [e1, e2]
          · exact absurd rfl (n3 l (e1 ▸ List.mem_cons_self) l (List.mem_flatMap.mpr ⟨e, h2, hl⟩))
        · rcases List.mem_cons.mp he with e2 | h2
          · exact absurd rfl (n3 l (e2 ▸ hl) l (List.mem_flatMap.mpr ⟨_, h1, List.mem_cons_self⟩))
          · exact ih h1 h2 n2 h1 h2
    rw [key]
    exact d
  · exact En.keep (F.1 e he) fun a ha o q => k a o q fun z => hl (z ▸ ha)
end
end Z

set_option Elab.async false
set_option linter.all false
set_option maxRecDepth 100000
namespace Z
open PySem L2
/-! ### rules -/
theorem hu0 {X : Cx} {k : Nat} (hr : Room k X.A) : X.A.units + 64 < cLine := hr.units
section
variable {CX : CXT} {P : Program} {w : World} {K : PySem.W.Frag} {mg : Str → Option Value} {base : Heap}
/-- the def x keeps its promise; dvs: the defaults that fill up the call -/
def Ok (CX : CXT) (P : Program) (w : World) (K : PySem.W.Frag) (mg : Str → Option Value) (base : Heap) (x : Str) (k : Nat) (ps : List Str) (dvs : List V) (sp : Sp) : Prop :=
  ∃ (f : Addr) (fd : FuncData) (ds : List Value), mg x = some (.ref f) ∧ PySem.W.keepIn K (.ref f) = true ∧ Binds K fd ps ds ∧ Vals dvs ds ∧ FnOk P w K mg base CX k f fd ps sp
theorem mkOk {x : Str} {k : Nat} {ps : List Str} {sp : Sp} {st : Stmt} {f : Addr} {fd : FuncData} (F : Fun K x x st f fd) (g : mg x = some (.ref f)) (b : Binds K fd ps []) (G : FnOk P w K mg base CX k f fd ps sp) : Ok CX P w K mg base x k ps [] sp :=
  ⟨f, fd, [], g, F.kp, b, .nil, G⟩
end
section
variable {X : Cx} {CX : CXT} {k : Nat} {ps : List Str} {sp : Sp} {E : XK} {x : Str} {p pos apos : Pos} {e : Expr} {es : List Expr} {t : TA} {dvs : List V}
theorem pe_callO (O : Ok CX X.prog X.w X.K X.mg X.base x k ps dvs sp) (hg : Gl X x) (hr : Room k X.A) (hx : Passes CX X E) (ha : PA X (e :: es) t)
    (hdb : (x == ("__debug__" : Str)) = false := by decide) (he : starEach (e :: es) X.env = (false, eval e
          X.env) :: starEach es X.env := by rfl) (hpl : (backTo pos (starEach es X.env)).any (·.1) = false := by rfl) :
    PE X (.Call (.Name x p) (e :: es)
          [] pos) (tCall sp dvs E t) := by
  obtain ⟨f, fd, ds, g, kp, b, v, F⟩ := O
  exact pe_call F hr hg g kp b v hx ha hdb he hpl
theorem pt_tru {a : Expr} {ta : TE} (ha : PE X a ta) (he : ∀ whole, isTrue a X.env whole = (do let v ← whole; standAt a.pos; holding [v] (truthy v)) := by intro _; rfl) :
    PT X a (fun σ H Q => ta σ H fun x H' => ∃ k, TruV X.K x H' k ∧ Q k H') := pt_truth ha he
end
/-! named readings -/
def rTru (K : PySem.W.Frag) (ta : TE) : TT := fun σ H Q => ta σ H fun x H' => ∃ k, TruV K x H' k ∧ Q k H'
theorem pt_truN {X : Cx} {a : Expr} {ta : TE} (ha : PE X a ta) (he : ∀ whole, isTrue a X.env whole = (do let v ← whole; standAt a.pos; holding [v] (truthy v)) := by intro _; rfl) : PT X a (rTru X.K ta) := pt_truth ha he
def rAddS : R2 := fun x y H Q => ∃ i j, x = .str i ∧ y = .str j ∧ i.length + j.length ≤ sizeLine ∧ Q (.str (i ++ j)) H
def rOr (r r' : R2) : R2 := fun x y H Q => r x y H Q ∨ r' x y H Q
theorem opOr {X : Cx} {f : Value → Value → Sem Value} {r r' : R2} (h : OpR X f r) (h' : OpR X f r') : OpR X f (rOr r r') := h.or h'
abbrev rAddI : R2 := rI0 fun i j => .int (i + j)
abbrev rSubI : R2 := rI0 fun i j => .int (i - j)
theorem zAdd {X : Cx} : OpR X (binaryOp .Add) (rOr rAddI (rOr rAddS (rOr rCat (rCatT X.K)))) := opOr op_add (opOr op_add_str (opOr op_cat op_catT))
abbrev rMulI : R2 := rI CMulW fun i j => .int (i * j)
abbrev rMulC : R2 := rI CMul fun i j => .int (i * j)
theorem zMul {X : Cx} : OpR X (binaryOp .Mult) (rOr rMulC (rOr rMulI (rOr rRep (rRepT X.K)))) := opOr op_mul (opOr op_mulW (opOr op_rep op_repT))
abbrev rDivI : R2 := rI CDivW fun i j => .int (i / j)
theorem zDiv {X : Cx} : OpR X (binaryOp .FloorDiv) rDivI := op_fdivW
abbrev rModI : R2 := rI (fun _ j => 0 < j) fun i j => .int (i % j)
theorem zMod {X : Cx} : OpR X (binaryOp .Mod) rModI := op_mod
abbrev rPowI : R2 := rI CPow fun i j => .int (i ^ j.toNat)
theorem zPow {X : Cx} : OpR X (binaryOp .Pow) rPowI := op_pow
abbrev rLtI : R2 := rI0 fun i j => .bl (decide (i < j))
abbrev rLeI : R2 := rI0 fun i j => .bl (decide (i ≤ j))
abbrev rGtI : R2 := rI0 fun i j => .bl (decide (j < i))
abbrev rGeI : R2 := rI0 fun i j => .bl (decide (j ≤ i))
theorem zLt {X : Cx} : OpR X (compareOp .Lt) rLtI := op_lt
theorem zLe {X : Cx} : OpR X (compareOp .LtE) rLeI := op_le
theorem zGt {X : Cx} : OpR X (compareOp .Gt) rGtI := op_gt
theorem zGe {X : Cx} : OpR X (compareOp .GtE) rGeI := op_ge
theorem zEq {X : Cx} (hu : X.A.units + 64 < cLine) : OpR X (compareOp .Eq) (rOr rEq (rEqD X.K)) := opOr op_eq (op_eqD hu)
theorem zNe {X : Cx} (hu : X.A.units + 64 < cLine) : OpR X (compareOp .NotEq) (rOr rNe (rNeD X.K)) := opOr op_ne (op_neD hu)
def rIsN : R2 := fun x y H Q => y =
      .non ∧ Q (.bl (decide (x = .non))) H
def rNotN : R2 := fun x y H Q => y =
      .non ∧ Q (.bl (!decide (x = .non))) H
theorem zIs {X : Cx} : OpR X (compareOp .Is) (rOr rIsN rIsB) := opOr op_isN op_isBl
theorem zIsNot {X : Cx} : OpR X (compareOp .IsNot) (rOr rNotN rNotB) := opOr op_notN op_notBl
theorem zIn {X : Cx} : OpR X (compareOp .In) (rIn X.K false) := op_in_seq
theorem zNotIn {X : Cx} : OpR X (compareOp .NotIn) (rIn X.K true) := op_notIn_seq
def rLen (K : PySem.W.Frag) : List V → Hp → VK → Prop :=
      fun xs H Q => ∃ x n, xs = [x] ∧ LenV K x H n ∧ Q (.int n) H
theorem zLen {X : Cx} : CallR X (.builtin "len") (rLen X.K) := call_len
def rOrC (r r' : List V → Hp → VK → Prop) : List V → Hp → VK → Prop := fun xs H Q => r xs H Q ∨ r' xs H Q
theorem zIsi {X : Cx} : CallR X (.builtin "isinstance") (rOrC (rIsi X.K) (rIsiT X.K)) := CallR.or call_isi call_isiT
def rInt : List V → Hp → VK → Prop := fun xs H Q => (∃ i, xs = [.int i] ∧ Q (.int i) H) ∨ ∃ k, xs = [.bl k] ∧ Q (.int (if k then 1 else 0)) H
theorem zInt {X : Cx} : CallR X (.type "int") rInt := call_int1
def rList (K : PySem.W.Frag) : List V → Hp → VK → Prop := fun xs H Q => ∃ p ys, xs = [.ref p] ∧ (SqL K H p ys ∨ SqT K H p ys) ∧ ∀ l, H l = none → Q (.ref l) (upd H l (.lst ys))
theorem zList {X : Cx} : CallR X (.type "list") (rList X.K) := call_list_of
def rTuple (K : PySem.W.Frag) : List V → Hp → VK → Prop := fun xs H Q => ∃ p ys, xs = [.ref p] ∧ ((SqL K H p ys ∧ ∀ l, H l = none → Q (.ref l) (upd H l (.tup ys))) ∨ (SqT K H p ys ∧ Q (.ref p) H))
theorem zTuple {X : Cx} : CallR X (.type "tuple") (rTuple X.K) := call_tuple_of
def rAbs : List V → Hp → VK → Prop := fun xs H Q => ∃ i, xs = [.int i] ∧ Q (.int (if i < 0 then -i else i)) H
theorem zAbs {X : Cx} : CallR X (.builtin "abs") rAbs := call_abs
def rOrS (r r' : V → Option Int → Option Int → Hp → VK → Prop) : V → Option Int → Option Int → Hp → VK → Prop := fun x lo hi H Q => r x lo hi H Q ∨ r' x lo hi H Q
theorem zSl {X : Cx} : SlR X (rOrS (rSlL X.K) (rSlT X.K)) := SlR.or sl_list sl_tup

def NewT (xs : List V) (H : Hp) (Q : VK) : Prop := xs.length ≤ sizeLine ∧ ∀ p, H p = none → Q (.ref p) (upd H p (.tup xs))
def NewL (xs : List V) (H : Hp) (Q : VK) : Prop := xs.length ≤ sizeLine ∧ ∀ p, H p = none → Q (.ref p) (upd H p (.lst xs))
/-! ### how a reading is answered -/
section
variable {K : PySem.W.Frag} {H : Hp} {Q : VK} {L : List En} {σ : St} {v w : V} {i j : Int} {t u : TS} {nx bk ct : St → Hp → Prop} {rt : VK} {te ta tb tc : TE} {tt tt' : TT} {ts : TA} {g : TG} {r r' : R2} {QB : Bool → Hp → Prop} {QA : List V → Hp → Prop}
theorem at_start {σ' : St} {N : List Str} {vs : List V} {D : Ends} (e : start N vs = σ') (h : t D σ' H) : t D (start N vs) H := by rw [e]; exact h
theorem wSeq (h : t ⟨u ⟨nx, rt, bk, ct⟩, rt, bk, ct⟩ σ H) : tSeq t u ⟨nx, rt, bk, ct⟩ σ H := h
theorem wNext (h : nx σ H) : tNext ⟨nx, rt, bk, ct⟩ σ H := h
theorem wBreak (h : bk σ H) : tBreak ⟨nx, rt, bk, ct⟩ σ H := h
theorem wCont (h : ct σ H) : tCont ⟨nx, rt, bk, ct⟩ σ H := h
theorem wDrop (h : te σ H fun _ H1 => nx σ H1) : tDrop te ⟨nx, rt, bk, ct⟩ σ H := h
theorem wRet (h : te σ H rt) : tRet te ⟨nx, rt, bk, ct⟩ σ H := h
theorem wRetN (h : rt .non H) : tRetN ⟨nx, rt, bk, ct⟩ σ H := h
theorem wIfS (h : tt σ H fun b H1 => if b = true then t ⟨nx, rt, bk, ct⟩ σ H1 else u ⟨nx, rt, bk, ct⟩ σ H1) : tIfS tt t u ⟨nx, rt, bk, ct⟩ σ H := h
theorem wAsg (h : te σ H fun x H1 => g x σ H1 nx) : tAsg te g ⟨nx, rt, bk, ct⟩ σ H := h
theorem wFor {wi : TI} {tb : TS} (h : wi σ H fun J H1 => ∃ W : Nat → Nat → St → Hp → Prop, (∃ m, W 0 m σ H1) ∧ ∀ i m σ H, W i m σ H →
  (J.stop i H ∧ nx σ H) ∨ (J.go i H ∧ ∃ N : St → Hp → Prop, (∀ σ' H', N σ' H' → ∃ m', m' < m ∧ W (i + 1) m' σ' H') ∧ ∀ x H', J.yld i H x H' → g x σ H' fun σ2 H2 => tb ⟨N, rt, nx, N⟩ σ2 H2)) : tFor wi g tb ⟨nx, rt, bk, ct⟩ σ H := h
variable {a0 a1 a2 a3 a4 a5 a6 a7 a8 a9 b0 b1 b2 b3 b4 b5 b6 b7 : Option V} {ρ : St} {N : St → Hp → Prop}
theorem wG0 (h : N (some v :: ρ) H) : gName 0 v (a0 :: ρ) H N := h
theorem wG1 (h : N (a0 :: some v :: ρ) H) : gName 1 v (a0 :: a1 :: ρ) H N := h
theorem wG2 (h : N (a0 :: a1 :: some v :: ρ) H) : gName 2 v (a0 :: a1 :: a2 :: ρ) H N := h
theorem wG3 (h : N (a0 :: a1 :: a2 :: some v :: ρ) H) : gName 3 v (a0 :: a1 :: a2 :: a3 :: ρ) H N := h
theorem wG4 (h : N (a0 :: a1 :: a2 :: a3 :: some v :: ρ) H) : gName 4 v (a0 :: a1 :: a2 :: a3 :: a4 :: ρ) H N := h
theorem wG5 (h : N (a0 :: a1 :: a2 :: a3 :: a4 :: some v :: ρ) H) : gName 5 v (a0 :: a1 :: a2 :: a3 :: a4 :: a5 :: ρ) H N := h
theorem wG6 (h : N (a0 :: a1 :: a2 :: a3 :: a4 :: a5 :: some v :: ρ) H) : gName 6 v (a0 :: a1 :: a2 :: a3 :: a4 :: a5 :: a6 :: ρ) H N := h
theorem wG7 (h : N (a0 :: a1 :: a2 :: a3 :: a4 :: a5 :: a6 :: some v :: ρ) H) : gName 7 v (a0 :: a1 :: a2 :: a3 :: a4 :: a5 :: a6 :: a7 :: ρ) H N := h
theorem wG8 (h : N (a0 :: a1 :: a2 :: a3 :: a4 :: a5 :: a6 :: a7 :: some v :: ρ) H) : gName 8 v (a0 :: a1 :: a2 :: a3 :: a4 :: a5 :: a6 :: a7 :: a8 :: ρ) H N := h
theorem wG9 (h : N (a0 :: a1 :: a2 :: a3 :: a4 :: a5 :: a6 :: a7 :: a8 :: some v :: ρ) H) : gName 9 v (a0 :: a1 :: a2 :: a3 :: a4 :: a5 :: a6 :: a7 :: a8 :: a9 :: ρ) H N := h
theorem wG10 (h : N (a0 :: a1 :: a2 :: a3 :: a4 :: a5 :: a6 :: a7 :: a8 :: a9 :: some v :: ρ) H) : gName 10 v (a0 :: a1 :: a2 :: a3 :: a4 :: a5 :: a6 :: a7 :: a8 :: a9 :: b0 :: ρ) H N := h
theorem wG11 (h : N (a0 :: a1 :: a2 :: a3 :: a4 :: a5 :: a6 :: a7 :: a8 :: a9 :: b0 :: some v :: ρ) H) : gName 11 v (a0 :: a1 :: a2 :: a3 :: a4 :: a5 :: a6 :: a7 :: a8 :: a9 :: b0 :: b1 :: ρ) H N := h
theorem wG12 (h : N (a0 :: a1 :: a2 :: a3 :: a4 :: a5 :: a6 :: a7 :: a8 :: a9 :: b0 :: b1 :: some v :: ρ) H) : gName 12 v (a0 :: a1 :: a2 :: a3 :: a4 :: a5 :: a6 :: a7 :: a8 :: a9 :: b0 :: b1 :: b2 :: ρ) H N := h
theorem wG13 (h : N (a0 :: a1 :: a2 :: a3 :: a4 :: a5 :: a6 :: a7 :: a8 :: a9 :: b0 :: b1 :: b2 :: some v :: ρ) H) : gName 13 v (a0 :: a1 :: a2 :: a3 :: a4 :: a5 :: a6 :: a7 :: a8 :: a9 :: b0 :: b1 :: b2 :: b3 :: ρ) H N := h
theorem wG14 (h : N (a0 :: a1 :: a2 :: a3 :: a4 :: a5 :: a6 :: a7 :: a8 :: a9 :: b0 :: b1 :: b2 :: b3 :: some v :: ρ) H) : gName 14 v (a0 :: a1 :: a2 :: a3 :: a4 :: a5 :: a6 :: a7 :: a8 :: a9 :: b0 :: b1 :: b2 :: b3 :: b4 :: ρ) H N := h
theorem wV {n : Nat} (e : σ[n]? = some (some v)) (h : Q v H) : tVar n σ H Q := ⟨v, e, h⟩
theorem wV0 (h : Q v H) : tVar 0 (some v :: ρ) H Q := ⟨v, rfl, h⟩
theorem wV1 (h : Q v H) : tVar 1 (a0 :: some v :: ρ) H Q := ⟨v, rfl, h⟩
theorem wV2 (h : Q v H) : tVar 2 (a0 :: a1 :: some v :: ρ) H Q := ⟨v, rfl, h⟩
theorem wV3 (h : Q v H) : tVar 3 (a0 :: a1 :: a2 :: some v :: ρ) H Q := ⟨v, rfl, h⟩
theorem wV4 (h : Q v H) : tVar 4 (a0 :: a1 :: a2 :: a3 :: some v :: ρ) H Q := ⟨v, rfl, h⟩
theorem wV5 (h : Q v H) : tVar 5 (a0 :: a1 :: a2 :: a3 :: a4 :: some v :: ρ) H Q := ⟨v, rfl, h⟩
theorem wV6 (h : Q v H) : tVar 6 (a0 :: a1 :: a2 :: a3 :: a4 :: a5 :: some v :: ρ) H Q := ⟨v, rfl, h⟩
theorem wV7 (h : Q v H) : tVar 7 (a0 :: a1 :: a2 :: a3 :: a4 :: a5 :: a6 :: some v :: ρ) H Q := ⟨v, rfl, h⟩
theorem wV8 (h : Q v H) : tVar 8 (a0 :: a1 :: a2 :: a3 :: a4 :: a5 :: a6 :: a7 :: some v :: ρ) H Q := ⟨v, rfl, h⟩
theorem wV9 (h : Q v H) : tVar 9 (a0 :: a1 :: a2 :: a3 :: a4 :: a5 :: a6 :: a7 :: a8 :: some v :: ρ) H Q := ⟨v, rfl, h⟩
theorem wV10 (h : Q v H) : tVar 10 (a0 :: a1 :: a2 :: a3 :: a4 :: a5 :: a6 :: a7 :: a8 :: a9 :: some v :: ρ) H Q := ⟨v, rfl, h⟩
theorem wV11 (h : Q v H) : tVar 11 (a0 :: a1 :: a2 :: a3 :: a4 :: a5 :: a6 :: a7 :: a8 :: a9 :: b0 :: some v :: ρ) H Q := ⟨v, rfl, h⟩
theorem wV12 (h : Q v H) : tVar 12 (a0 :: a1 :: a2 :: a3 :: a4 :: a5 :: a6 :: a7 :: a8 :: a9 :: b0 :: b1 :: some v :: ρ) H Q := ⟨v, rfl, h⟩
theorem wV13 (h : Q v H) : tVar 13 (a0 :: a1 :: a2 :: a3 :: a4 :: a5 :: a6 :: a7 :: a8 :: a9 :: b0 :: b1 :: b2 :: some v :: ρ) H Q := ⟨v, rfl, h⟩
theorem wV14 (h : Q v H) : tVar 14 (a0 :: a1 :: a2 :: a3 :: a4 :: a5 :: a6 :: a7 :: a8 :: a9 :: b0 :: b1 :: b2 :: b3 :: some v :: ρ) H Q := ⟨v, rfl, h⟩
theorem wC (h : Q v H) : tC v σ H Q := h
theorem wOp (h : ta σ H fun x H1 => tb σ H1 fun y H2 => r x y H2 Q) : tOp r ta tb σ H Q := h
theorem wUn {rr : V → Hp → VK → Prop} (h : ta σ H fun x H1 => rr x H1 Q) : tUn rr ta σ H Q := h
theorem wNeg (h : Q (.int (-i)) H) : rU (fun i => .int (-i)) (.int i) H Q := ⟨i, rfl, h⟩
theorem wI0 {f : Int → Int → V} (h : Q (f i j) H) : rI0 f (.int i) (.int j) H Q := ⟨i, j, rfl, rfl, h⟩
theorem wI {C : Int → Int → Prop} {f : Int → Int → V} (c : C i j) (h : Q (f i j) H) : rI C f (.int i) (.int j) H Q := ⟨i, j, rfl, rfl, c, h⟩
theorem wOr1 (h : r v w H Q) : rOr r r' v w H Q := .inl h
theorem wOr2 (h : r' v w H Q) : rOr r r' v w H Q := .inr h
theorem wNil (h : QA [] H) : tNil σ H QA := h
theorem wCons (h : ta σ H fun x H1 => ts σ H1 fun xs H2 => QA (x :: xs) H2) : tCons ta ts σ H QA := h
theorem wCB {rr : List V → Hp → VK → Prop} (h : ts σ H fun vs H1 => rr vs H1 Q) : tCB rr ts σ H Q := h
theorem wTest (h : te σ H fun x H' => ∃ k, x = .bl k ∧ QB k H') : tTest te σ H QB := h
theorem wBl {b : Bool} {QP : Bool → Prop} (h : QP b) : ∃ k, V.bl b = .bl k ∧ QP k := ⟨b, rfl, h⟩
theorem wTruN (h : te σ H fun x H' => ∃ k, TruV K x H' k ∧ QB k H') : rTru K te σ H QB := h
theorem wTbl {b : Bool} {QP : Bool → Prop} (h : QP b) : ∃ k, TruV K (.bl b) H k ∧ QP k := ⟨b, rfl, h⟩
theorem wTint {QP : Bool → Prop} (h : QP (i != 0)) : ∃ k, TruV K (.int i) H k ∧ QP k := ⟨_, rfl, h⟩
theorem wTnon {QP : Bool → Prop} (h : QP false) : ∃ k, TruV K .non H k ∧ QP k := ⟨_, rfl, h⟩
theorem wTlst {a : Addr} {xs : List V} (s : SqL K H a xs) {QP : Bool → Prop} (h : QP (!xs.isEmpty)) : ∃ k, TruV K (.ref a) H k ∧ QP k := ⟨_, .inl ⟨xs, s, rfl⟩, h⟩
theorem wTtup {a : Addr} {xs : List V} (s : SqT K H a xs) {QP : Bool → Prop} (h : QP (!xs.isEmpty)) : ∃ k, TruV K (.ref a) H k ∧ QP k := ⟨_, .inr (.inl ⟨xs, s, rfl⟩), h⟩
theorem wNot (h : tt σ H fun c H1 => QB (!c) H1) : tNot tt σ H QB := h
theorem wAnd (h : tt σ H fun c H1 => if c = true then tt' σ H1 QB else QB false H1) : tAnd tt tt' σ H QB := h
theorem wOrb (h : tt σ H fun c H1 => if c = true then QB true H1 else tt' σ H1 QB) : tOr tt tt' σ H QB := h
theorem wAndT (h : ta σ H fun x H1 => ∃ k, TruV K x H1 k ∧ if k = true then tb σ H1 Q else Q x H1) : tAndT K ta tb σ H Q := h
theorem wOrT (h : ta σ H fun x H1 => ∃ k, TruV K x H1 k ∧ if k = true then Q x H1 else tb σ H1 Q) : tOrT K ta tb σ H Q := h
theorem wNotT (h : ta σ H fun x H1 => ∃ k, TruV K x H1 k ∧ Q (.bl (!k)) H1) : tNotT K ta σ H Q := h
theorem wTIf (h : tt σ H fun c H1 => if c = true then ta σ H1 Q else tb σ H1 Q) : tIf tt ta tb σ H Q := h
theorem wChain (h : ta σ H fun x H1 => tb σ H1 fun y H2 => r x y H2 fun z H3 => ∃ k, z = .bl k ∧ (if k = true then tc σ H3 fun w' H4 => r' y w' H4 Q else Q (.bl false) H3)) : tChain r r' ta tb tc σ H Q := h
theorem wIfT {b : Bool} {A B : Prop} (e : b = true) (h : A) : if b = true then A else B := by rw [if_pos e]; exact h
theorem wIfF {b : Bool} {A B : Prop} (e : b = false) (h : B) : if b = true then A else B := by rw [if_neg (by rw [e]; exact Bool.false_ne_true)]; exact h
theorem wIf {b : Bool} {A B : Prop} (h : b = true → A) (h' : b = false → B) : if b = true then A else B := by
  cases b with
  | true => exact wIfT rfl (h rfl)
  | false => exact wIfF rfl (h' rfl)
theorem wIfD {p : Prop} [Decidable p] {A B : Prop} (h : p → A) (h' : ¬ p → B) : if decide p = true then A else B := wIf (fun e => h (of_decide_eq_true e)) fun e => h' (of_decide_eq_false e)
theorem wIfND {p : Prop} [Decidable p] {A B : Prop} (h : ¬ p → A) (h' : p → B) : if (!decide p) = true then A else B := wIf (fun e => h (by simpa using e)) fun e => h' (by simpa using e)
theorem wEqII (h : Q (.bl (decide (i = j))) H) : rEq (.int i) (.int j) H Q := ⟨rfl, by
  have e : decide (V.int i = V.int j) = decide (i = j) := by
    by_cases q : i = j
    · rw [q, decide_eq_true rfl, decide_eq_true rfl]
    · rw [decide_eq_false q, decide_eq_false (fun z => q (by injection z))]
  rw [e]; exact h⟩
theorem wNeII (h : Q (.bl (!decide (i = j))) H) : rNe (.int i) (.int j) H Q := ⟨rfl, by
  have e : decide (V.int i = V.int j) = decide (i = j) := by
    by_cases q : i = j
    · rw [q, decide_eq_true rfl, decide_eq_true rfl]
    · rw [decide_eq_false q, decide_eq_false (fun z => q (by injection z))]
  rw [e]; exact h⟩
theorem wEqS {x y : V} (s : scal x y = true) (h : Q (.bl (decide (x = y))) H) : rEq x y H Q := ⟨s, h⟩
theorem wNeS {x y : V} (s : scal x y = true) (h : Q (.bl (!decide (x = y))) H) : rNe x y H Q := ⟨s, h⟩
theorem wIsN {x : V} (h : Q (.bl (decide (x = .non))) H) : rIsN x .non H Q := ⟨rfl, h⟩
theorem wNotN {x : V} (h : Q (.bl (!decide (x = .non))) H) : rNotN x .non H Q := ⟨rfl, h⟩
theorem wIsB {b c : Bool} (h : Q (.bl (decide (b = c))) H) : rIsB (.bl b) (.bl c) H Q := ⟨b, c, rfl, rfl, h⟩
theorem wNotB {b c : Bool} (h : Q (.bl (!decide (b = c))) H) : rNotB (.bl b) (.bl c) H Q := ⟨b, c, rfl, rfl, h⟩
theorem wIntI (h : Q (.int i) H) : rInt [.int i] H Q := .inl ⟨i, rfl, h⟩
theorem wAbs (h : Q (.int (if i < 0 then -i else i)) H) : rAbs [.int i] H Q := ⟨i, rfl, h⟩
variable {a b : Addr} {xs ys : List V} {o : HO}
theorem wLenL (s : SqL K H a xs) (h : Q (.int xs.length) H) : rLen K [.ref a] H Q := ⟨_, _, rfl, .inl ⟨_, s, rfl⟩, h⟩
theorem wLenT (s : SqT K H a xs) (h : Q (.int xs.length) H) : rLen K [.ref a] H Q := ⟨_, _, rfl, .inr ⟨_, s, rfl⟩, h⟩
theorem wLenS {z : Str} (s : z.length ≤ sizeLine) (h : Q (.int z.length) H) : rLen K [.str z] H Q := ⟨_, _, rfl, ⟨s, rfl⟩, h⟩
theorem wIxL (s : SqL K H a xs) (e : atI xs i = some v) (h : Q v H) : rIx K (.ref a) (.int i) H Q := .inl ⟨a, xs, i, v, rfl, rfl, s, e, h⟩
theorem wIxT (s : SqT K H a xs) (e : atI xs i = some v) (h : Q v H) : rIx K (.ref a) (.int i) H Q := .inr (.inl ⟨a, xs, i, v, rfl, rfl, s, e, h⟩)
theorem wIxS {z : Str} {c : Nat} (n : z.length ≤ sizeLine) (e : atI z.cps.toList i = some c) (h : Q (.str ⟨#[c]⟩) H) : rIx K (.str z) (.int i) H Q := .inr (.inr ⟨z, i, c, rfl, rfl, n, e, h⟩)
theorem SqT.of {K : PySem.W.Frag} {H : Hp} {a : Addr} {xs : List V} (h : H a = some (.tup xs)) : SqT K H a xs := .inl (.inl h)
/-- from the ledger -/
theorem Fx.lst (F : Fx H L) (m : En.ob a (.lst xs) ∈ L) : SqL K H a xs := SqL.of (F.get m)
theorem Fx.tup (F : Fx H L) (m : En.ob a (.tup xs) ∈ L) : SqT K H a xs := SqT.of (F.get m)
theorem Fx.frz {ob : Obj} (F : Fx H L) (m : En.ob a (.frz ob (.lst xs)) ∈ L) : SqL K H a xs := .inl (.inr ⟨ob, F.get m⟩)
/-- new objects -/
theorem wNewF (F : Fx H L) (k : ∀ p H', Fx H' (.ob p o :: L) → Q (.ref p) H') : ∀ p, H p = none → Q (.ref p) (upd H p o) := fun p n => k p _ (F.new n)
theorem wTup (n : xs.length ≤ 1000) (F : Fx H L) (k : ∀ p H', Fx H' (.ob p (.tup xs) :: L) → Q (.ref p) H') : NewT xs H Q := ⟨Nat.le_of_lt (small1000 n), wNewF F k⟩
theorem wLst (n : xs.length ≤ 1000) (F : Fx H L) (k : ∀ p H', Fx H' (.ob p (.lst xs) :: L) → Q (.ref p) H') : NewL xs H Q := ⟨Nat.le_of_lt (small1000 n), wNewF F k⟩
theorem wTTup (h : ts σ H fun xs H1 => NewT xs H1 Q) : tTup ts σ H Q := h
theorem wTLst (h : ts σ H fun xs H1 => NewL xs H1 Q) : tLst ts σ H Q := h
theorem wListL (s : SqL K H a xs) (F : Fx H L) (k : ∀ p H', Fx H' (.ob p (.lst xs) :: L) → Q (.ref p) H') : rList K [.ref a] H Q := ⟨a, xs, rfl, .inl s, wNewF F k⟩
theorem wListT (s : SqT K H a xs) (F : Fx H L) (k : ∀ p H', Fx H' (.ob p (.lst xs) :: L) → Q (.ref p) H') : rList K [.ref a] H Q := ⟨a, xs, rfl, .inr s, wNewF F k⟩
theorem wTupleL (s : SqL K H a xs) (F : Fx H L) (k : ∀ p H', Fx H' (.ob p (.tup xs) :: L) → Q (.ref p) H') : rTuple K [.ref a] H Q := ⟨a, xs, rfl, .inl ⟨s, wNewF F k⟩⟩
theorem wTupleT (s : SqT K H a xs) (h : Q (.ref a) H) : rTuple K [.ref a] H Q := ⟨a, xs, rfl, .inr ⟨s, h⟩⟩
/-- xs.append(v) -/
theorem wBM {T : String} {rr : V → List V → Hp → VK → Prop} (h : ta σ H fun x H1 => tyV K T x H1 ∧ ts σ H1 fun xs H2 => rr x xs H2 Q) : tBM K T rr ta ts σ H Q := h
theorem wBM0 {T : String} {rr : V → List V → Hp → VK → Prop} (h : ta σ H fun x H1 => tyV K T x H1 ∧ rr x [] H1 Q) : tBM0 K T rr ta σ H Q := h
theorem wTyL (s : SqL K H a xs) {B : Prop} (h : B) : tyV K "list" (.ref a) H ∧ B := ⟨.inl ⟨rfl, _, s⟩, h⟩
theorem wApp {L' : List En} (F : Fx H L) (m : En.ob a (.lst xs) ∈ L) (pt : Put a (.lst (xs ++ [v])) L L') (n : xs.length < sizeLine) (k : ∀ H', Fx H' L' → Q .non H') : rAppend (.ref a) [v] H Q :=
  ⟨a, xs, v, rfl, rfl, F.get m, n, k _ (F.put pt)⟩
theorem wPopAt {L' : List En} {n : Nat} (F : Fx H L) (m : En.ob a (.lst xs) ∈ L) (pt : Put a (.lst (xs.eraseIdx n)) L L') (h1 : -(2 ^ 63) ≤ i) (h2 : i < 2 ^ 63) (hi : seqIndex? i xs.length = some n) (hv : xs[n]? = some v) (k : ∀ H', Fx H' L' → Q v H') : rPopAt (.ref a) [.int i] H Q :=
  ⟨a, xs, i, n, v, rfl, rfl, F.get m, h1, h2, hi, hv, k _ (F.put pt)⟩
/-- a[i] = v -/
theorem wGSub {to ti : TE} {ts : TSet} (h : to σ H fun o H1 => ti σ H1 fun i H2 => ts o i v H2 fun H3 => N σ H3) : gSub to ti ts v σ H N := h
theorem wSetL {L' : List En} {QH : Hp → Prop} {n : Nat} (F : Fx H L) (m : En.ob a (.lst xs) ∈ L) (e : ixN xs.length i = some n) (pt : Put a (.lst (xs.set n v)) L L') (k : ∀ H', Fx H' L' → QH H') : rSetL (.ref a) (.int i) v H QH :=
  ⟨a, xs, i, n, rfl, rfl, F.get m, e, k _ (F.put pt)⟩
/-- calls -/
theorem wCall0 {sp : Sp} {E : XK} (h : ts σ H fun vs H1 => sp vs H1 Q E) : tCall sp [] E ts σ H Q := by unfold tCall; simpa only [List.append_nil] using h
theorem wCallD {sp : Sp} {E : XK} {d : V} {ds : List V} (h : ts σ H fun vs H1 => sp (vs ++ (d :: ds)) H1 Q E) : tCall sp (d :: ds) E ts σ H Q := h
/-- promises by the number of their arguments -/
def Sp1 (f : V → Hp → VK → XK → Prop) : Sp := fun vs H Q E => ∃ a, vs = [a] ∧ f a H Q E
def Sp2 (f : V → V → Hp → VK → XK → Prop) : Sp := fun vs H Q E => ∃ a b, vs = [a, b] ∧ f a b H Q E
def Sp3 (f : V → V → V → Hp → VK → XK → Prop) : Sp := fun vs H Q E => ∃ a b c, vs = [a, b, c] ∧ f a b c H Q E
def Sp4 (f : V → V → V → V → Hp → VK → XK → Prop) : Sp := fun vs H Q E => ∃ a b c d, vs = [a, b, c, d] ∧ f a b c d H Q E
theorem wSp1 {f : V → Hp → VK → XK → Prop} {E : XK} {x : V} (h : f x H Q E) : Sp1 f [x] H Q E := ⟨x, rfl, h⟩
theorem wSp2 {f : V → V → Hp → VK → XK → Prop} {E : XK} {x y : V} (h : f x y H Q E) : Sp2 f [x, y] H Q E := ⟨x, y, rfl, h⟩
theorem wSp3 {f : V → V → V → Hp → VK → XK → Prop} {E : XK} {x y z : V} (h : f x y z H Q E) : Sp3 f [x, y, z] H Q E := ⟨x, y, z, rfl, h⟩
theorem wSp4 {f : V → V → V → V → Hp → VK → XK → Prop} {E : XK} {x y z z' : V} (h : f x y z z' H Q E) : Sp4 f [x, y, z, z'] H Q E := ⟨x, y, z, z', rfl, h⟩
/-- loops -/
theorem wListI {R : It → Hp → Prop} {tl : TE} (h : tl σ H fun x H1 => ∃ a, x = .ref a ∧ (∃ xs, SqL K H1 a xs) ∧ R (Itl K a) H1) : iList K tl σ H R := h
theorem wForL {tb : TS} (s : SqL K H a xs) (Pv : Nat → St → Hp → Prop) (h0 : Pv 0 σ H) (hl : ∀ i σ H, i ≤ xs.length → Pv i σ H → SqL K H a xs)
    (hs : ∀ i x σ H, xs[i]? = some x → Pv i σ H → g x σ H fun σ2 H2 => tb ⟨Pv (i + 1), rt, nx, Pv (i + 1)⟩ σ2 H2) (hd : ∀ σ H, Pv xs.length σ H → nx σ H) :
    ∃ a', V.ref a = .ref a' ∧ (∃ xs, SqL K H a' xs) ∧ ∃ W : Nat → Nat → St → Hp → Prop, (∃ m, W 0 m σ H) ∧ ∀ i m σ H, W i m σ H →
  ((Itl K a').stop i H ∧ nx σ H) ∨ ((Itl K a').go i H ∧ ∃ N : St → Hp → Prop, (∀ σ' H', N σ' H' → ∃ m', m' < m ∧ W (i + 1) m' σ' H') ∧ ∀ x H', (Itl K a').yld i H x H' → g x σ H' fun σ2 H2 => tb ⟨N, rt, nx, N⟩ σ2 H2) :=
  ⟨a, rfl, ⟨xs, s⟩, for_list (D := ⟨nx, rt, fun _ _ => False, fun _ _ => False⟩) Pv h0 hl hs hd⟩
end
end Z

set_option Elab.async false
set_option linter.all false
set_option maxRecDepth 100000
namespace Z
open PySem L2
/-! ### kinds of things -/
inductive Kd where
  | non | bl | int | str | lst | tup | dct
def Kd.ty : Kd → Value
  | .non => .type "NoneType"
  | .bl => .type "bool"
  | .int => .type "int"
  | .str => .type "str"
  | .lst => .type "list"
  | .tup => .type "tuple"
  | .dct => .type "dict"
/-- isinstance's answers -/
def Kd.isInt : Kd → Bool | .int => true | .bl => true | _ => false
def Kd.isBool : Kd → Bool | .bl => true | _ => false
def Kd.isStr : Kd → Bool | .str => true | _ => false
def Kd.isList : Kd → Bool | .lst => true | _ => false
def Kd.isTuple : Kd → Bool | .tup => true | _ => false
inductive HasK (K : PySem.W.Frag) (H : Hp) : V → Kd → Prop where
  | non : HasK K H .non .non
  | bl (b : Bool) : HasK K H (.bl b) .bl
  | int (i : Int) : HasK K H (.int i) .int
  | str (z : Str) : HasK K H (.str z) .str
  | lst {a : Addr} {xs : List V} (s : SqL K H a xs) : HasK K H (.ref a) .lst
  | tup {a : Addr} {xs : List V} (s : SqT K H a xs) : HasK K H (.ref a) .tup
  | dct {a : Addr} {kvs : List (Key × V)} (e : H a = some (.dK kvs)) : HasK K H (.ref a) .dct
section
variable {K : PySem.W.Frag} {H H' : Hp} {x : V} {k : Kd} {Q : VK} {L : List En} {a p : Addr}
theorem HasK.tyx (h : HasK K H x k) : TyX K H x k.ty := by
  cases h with
  | non => exact .base .non
  | bl b => exact .base (.bl b)
  | int i => exact .base (.int i)
  | str z => exact .base (.str z)
  | lst s =>
    rcases s with (h | ⟨o, h⟩) | ⟨o, its, n, h1, h2, _⟩
    · exact .base (.lst h)
    · exact .base (.frz h)
    · exact .kList h1 h2
  | tup s =>
    rcases s with (h | ⟨o, h⟩) | h
    · exact .base (.tup h)
    · exact .fTuple h
    · obtain ⟨o, its, n, h1, h2, _⟩ := h
      exact .kTuple h1 h2
  | dct e => exact .base (.dK e)
theorem HasK.mono (h : HasK K H x k) (e : Same H H') : HasK K H' x k := by
  cases h with
  | non => exact .non
  | bl b => exact .bl b
  | int i => exact .int i
  | str z => exact .str z
  | lst s => exact .lst (e.seq s)
  | @tup b ys s =>
    have s' : SqT K H' b ys := by
      rcases s with (h | ⟨o, h⟩) | h
      · exact .inl (.inl (e _ _ h))
      · exact .inl (.inr
            ⟨o, e _ _ h⟩)
      · exact .inr h
    exact .tup s'
  | dct h => exact .dct (e _ _ h)
theorem kit_int : PySem.W.kitOne K k.ty (.type "int") = some k.isInt := by cases k <;> exact kit_ty (by decide +kernel)
theorem kit_bool : PySem.W.kitOne K k.ty (.type "bool") = some k.isBool := by cases k <;> exact kit_ty (by decide +kernel)
theorem kit_str : PySem.W.kitOne K k.ty (.type "str") = some k.isStr := by cases k <;> exact kit_ty (by decide +kernel)
theorem kit_list : PySem.W.kitOne K k.ty (.type "list") = some k.isList := by cases k <;> exact kit_ty (by decide +kernel)
theorem kit_tuple : PySem.W.kitOne K k.ty (.type "tuple") = some k.isTuple := by cases k <;> exact kit_ty (by decide +kernel)
theorem wIsiInt (h : HasK K H x k) (q : Q (.bl k.isInt) H) : rOrC (rIsi K) (rIsiT K) [x, .ty "int"] H Q := .inl ⟨x, _, _, _, _, rfl, .ty _, h.tyx, kit_int, q⟩
theorem wIsiBool (h : HasK K H x k) (q : Q (.bl k.isBool) H) : rOrC (rIsi K) (rIsiT K) [x, .ty "bool"] H Q := .inl ⟨x, _, _, _, _, rfl, .ty _, h.tyx, kit_bool, q⟩
theorem wIsiStr (h : HasK K H x k) (q : Q (.bl k.isStr) H) : rOrC (rIsi K) (rIsiT K) [x, .ty "str"] H Q := .inl ⟨x, _, _, _, _, rfl, .ty _, h.tyx, kit_str, q⟩
theorem wIsiList (h : HasK K H x k) (q : Q (.bl k.isList) H) : rOrC (rIsi K) (rIsiT K) [x, .ty "list"] H Q := .inl ⟨x, _, _, _, _, rfl, .ty _, h.tyx, kit_list, q⟩
theorem wIsiTuple (h : HasK K H x k) (q : Q (.bl k.isTuple) H) : rOrC (rIsi K) (rIsiT K) [x, .ty "tuple"] H Q := .inl ⟨x, _, _, _, _, rfl, .ty _, h.tyx, kit_tuple, q⟩
theorem wIsiLT (h : HasK K H x k) (F : Fx H L) (m : En.ob p (.tup [.ty "list", .ty "tuple"]) ∈ L) (q : Q (.bl (k.isList || k.isTuple)) H) : rOrC (rIsi K) (rIsiT K) [x, .ref p] H Q :=
  .inr ⟨x, p, _, _, _, _, rfl, F.get m, .cons (.ty _) (.cons (.ty _) .nil), h.tyx, kitAny_cons kit_list (fun e => by rw [e]; exact kitAny_cons kit_tuple (fun e => by rw [e]; exact kitAny_nil) (fun e => by rw [e]; rfl)) (fun e => by rw [e]; rfl), q⟩
/-- a whole number within bounds, by is_whole's own words -/
def inB (x : V) (lo hi : V) : Bool := match x with
  | .int i => (match lo with | .int l => decide (l ≤ i) | _ => true) && (match hi with | .int h => decide (i ≤ h) | _ => true)
  | _ => false
end
/-! ### a fact of the heap as an entry: a sequence of the script's kind -/
theorem seq_keep {K : PySem.W.Frag} {H : Hp} {a : Addr} {xs : List V} (s : SqL K H a xs) (L : List En) (F : Fx H L) (n : a ∉ L.flatMap En.fp) : ∃ L0 : List En, Fx H (L0 ++ L) ∧ ∀ H' L', Fx H' (L' ++ (L0 ++ L)) → SqL K H' a xs := by
  rcases s with (h | ⟨o, h⟩) | h
  · exact ⟨[.ob a (.lst xs)], F.add h n, fun H' L' F' => .inl (.inl (F'.get (List.mem_append_right _ (List.mem_append_left _ List.mem_cons_self))))⟩
  · exact ⟨[.ob a (.frz o (.lst xs))], F.add h n, fun H' L' F' => .inl (.inr ⟨o, F'.get (List.mem_append_right _ (List.mem_append_left _ List.mem_cons_self))⟩)⟩
  · exact ⟨[], F, fun H' L' F' => .inr h⟩
end Z
namespace Z
open PySem L2
theorem Fx.perm {H : Hp} {L L' : List En} (F : Fx H L) (p : L.Perm L') : Fx H L' := by
  refine ⟨fun e he => F.1 e (p.mem_iff.mpr he), ?_⟩
  have q : (L.flatMap En.fp).Perm (L'.flatMap En.fp) := by
    induction p with
    | nil => exact List.Perm.refl _
    | cons x _ ih =>
      rw [List.flatMap_cons, List.flatMap_cons]
      exact (ih ⟨fun e he => F.1 e (List.mem_cons_of_mem _ he), (List.nodup_append.mp (by have := F.2; rwa [List.flatMap_cons] at this)).2.1⟩).append_left _
    | swap x y l =>
      rw [List.flatMap_cons, List.flatMap_cons, List.flatMap_cons, List.flatMap_cons, ← List.append_assoc, ← List.append_assoc]
      exact List.perm_append_comm.append_right _
    | trans p1 p2 ih1 ih2 =>
      have q1 := ih1 F
      exact q1.trans (ih2 ⟨fun e he => F.1 e (p1.mem_iff.mpr he), q1.nodup_iff.mp F.2⟩)
  exact q.nodup_iff.mp F.2
/-- the draws' list, opened and shut again -/
theorem Fx.open {H : Hp} {L : List En} {l c : Addr} (F : Fx H L) (hm : En.hand l c ∈ L) : ∃ (ns : List Int) (i j t : Int) (L1 : List En), 0 ≤ i ∧ Fx H (.ob l (.lst [.ref c, .int i, .int j, .int t]) :: .ob c (.lst (ns.map V.int)) :: L1) ∧
    ∀ H' (ns' : List Int) (i' j' t' : Int), 0 ≤ i' → Fx H' (.ob l (.lst [.ref c, .int i', .int j', .int t']) :: .ob c (.lst (ns'.map V.int)) :: L1) → Fx H' L := by
  obtain ⟨ns, i, j, t, h0, h1, h2⟩ := F.gh hm
  obtain ⟨A, B, rfl⟩ := List.append_of_mem hm
  have G := F.perm List.perm_middle
  refine ⟨ns, i, j, t, A ++ B, h0, ⟨fun e he => ?_, G.2⟩, fun H' ns' i' j' t' h0' G' => ?_⟩
  · rcases List.mem_cons.mp he with e1 | he
    · subst e1; exact h1
    · rcases List.mem_cons.mp he with e1 | he
      · subst e1; exact h2
      · exact G.1 e (List.mem_cons_of_mem _ he)
  · have G2 : Fx H' (.hand l c :: (A ++ B)) := by
      refine ⟨fun e he => ?_, G'.2⟩
      rcases List.mem_cons.mp he with e1 | he
      · subst e1
        exact ⟨ns', i', j', t', h0', G'.get List.mem_cons_self, G'.get (List.mem_cons_of_mem _ List.mem_cons_self)⟩
      · exact G'.1 e (List.mem_cons_of_mem _ (List.mem_cons_of_mem _ he))
    exact G2.perm List.perm_middle.symm
/-- the draws' list, opened and shut again -/
theorem Fx.open5 {H : Hp} {L : List En} {l c : Addr} (F : Fx H L) (hm : En.hand5 l c ∈ L) : ∃ (ns : List Int) (i j t u : Int) (L1 : List En), 0 ≤ i ∧ Fx H (.ob l (.lst [.ref c, .int i, .int j, .int t, .int u]) :: .ob c (.lst (ns.map V.int)) :: L1) ∧
    ∀ H' (ns' : List Int) (i' j' t' u' : Int), 0 ≤ i' → Fx H' (.ob l (.lst [.ref c, .int i', .int j', .int t', .int u']) :: .ob c (.lst (ns'.map V.int)) :: L1) → Fx H' L := by
  obtain ⟨ns, i, j, t, u, h0, h1, h2⟩ : HandAt5 H l c := F.1 _ hm
  obtain ⟨A, B, rfl⟩ := List.append_of_mem hm
  have G := F.perm List.perm_middle
  refine ⟨ns, i, j, t, u, A ++ B, h0, ⟨fun e he => ?_, G.2⟩, fun H' ns' i' j' t' u' h0' G' => ?_⟩
  · rcases List.mem_cons.mp he with e1 | he
    · subst e1; exact h1
    · rcases List.mem_cons.mp he with e1 | he
      · subst e1; exact h2
      · exact G.1 e (List.mem_cons_of_mem _ he)
  · have G2 : Fx H' (.hand5 l c :: (A ++ B)) := by
      refine ⟨fun e he => ?_, G'.2⟩
      rcases List.mem_cons.mp he with e1 | he
      · subst e1
        exact ⟨ns', i', j', t', u', h0', G'.get List.mem_cons_self, G'.get (List.mem_cons_of_mem _ List.mem_cons_self)⟩
      · exact G'.1 e (List.mem_cons_of_mem _ (List.mem_cons_of_mem _ he))
    exact G2.perm List.perm_middle.symm
theorem at_ints {ns : List Int} {i : Nat} (h : i < ns.length) : atI (ns.map V.int) (i : Int) = some (V.int (ns.getD i 0)) := by
  have e : (ns.map V.int)[i]? = some (V.int (ns.getD i 0)) := by
    rw [List.getElem?_map, List.getElem?_eq_getElem h,
          List.getD_eq_getElem?_getD, List.getElem?_eq_getElem h]
    rfl
  exact at_of rfl e

theorem ixN_of {n : Nat} {k : Int} (h0 : 0 ≤ k) (h1 : k < n) : ixN n k = some k.toNat := by
  unfold ixN
  rw [if_pos h0, if_pos h1]
theorem at_intsI {ns : List Int} {k : Int} (h0 : 0 ≤ k) (h1 : k < ns.length) : atI (ns.map V.int) k = some (V.int (ns.getD k.toNat 0)) := by
  have e : k = ((k.toNat : Nat) : Int) := (Int.toNat_of_nonneg h0).symm
  have h2 : k.toNat < ns.length := by omega
  have q := at_ints (ns := ns) h2
  rw [← e] at q
  exact q
section
variable {K : PySem.W.Frag} {H : Hp} {Q : VK} {L : List En} {a : Addr} {ns : List Int} {k : Int} {xs : List V}
theorem wIxLi (s : SqL K H a (ns.map V.int)) (h0 : 0 ≤ k) (h1 : k < ns.length) (h : Q (.int (ns.getD k.toNat 0)) H) : rIx K (.ref a) (.int k) H Q := wIxL s (at_intsI h0 h1) h
theorem wIxTi (s : SqT K H a (ns.map V.int)) (h0 : 0 ≤ k) (h1 : k < ns.length) (h : Q (.int (ns.getD k.toNat 0)) H) : rIx K (.ref a) (.int k) H Q := wIxT s (at_intsI h0 h1) h
theorem wLenLi (s : SqL K H a (ns.map V.int)) (h : Q (.int ns.length) H) : rLen K [.ref a] H Q := by
  have := wLenL (Q := Q) s
  rw [List.length_map] at this
  exact this h
theorem wLenTi (s : SqT K H a (ns.map V.int)) (h : Q (.int ns.length) H) : rLen K [.ref a] H Q := by
  have := wLenT (Q := Q) s
  rw [List.length_map] at this
  exact this h
end

theorem log_small {m : Int} (h0 : 0 ≤ m) (h1 : m < 1000000000000) : m.natAbs.log2 < 9000 := by
  have h2 : m.natAbs < 2 ^ 40 := by omega
  exact Nat.lt_of_lt_of_le (PySem.Flt.log2_lt_of (by decide) h2) (by decide)

theorem int_of_map {ns : List Int} {i : Nat} {x : V} (h : (ns.map V.int)[i]? = some x) : ∃ z, x = V.int z := by
  rw [List.getElem?_map] at h
  cases e : ns[i]? with
  | none => rw [e]
        at h; cases h
  | some z => rw [e] at h; exact ⟨z, (Option.some.inj h).symm⟩
theorem int_of_map' {ns : List Int} {i : Nat} {x : V} (h : (ns.map V.int)[i]? = some x) : ∃ z, x = V.int z ∧ ns[i]? = some z := by
  rw [List.getElem?_map] at h
  cases e : ns[i]? with
  | none => rw [e]
        at h; cases h
  | some z => rw [e] at h; exact ⟨z, (Option.some.inj h).symm, rfl⟩
theorem line_big : 1000000 ≤ sizeLine := by rw [sizeLine_eq]; decide
end Z

set_option Elab.async false
set_option linter.all false
set_option maxRecDepth 100000
set_option maxHeartbeats 2000500
namespace Z
open PySem L2 PySem.W
/-! ### == and != of an instance by its class's own __eq__ -/
section
variable {prog : Program} {w : World} {A : Around} {E : Value → Shared → Prop} {s : Shared} {K : Frag} {x C L f : Addr} {h₀ : Heap} {m : Str → Option Value} {ox : Obj} {od : Option Obj} {b tb : Value}
theorem ifBound_ne {args : List Value} {Q : Option Value → Shared → Prop} (X : K.In s.heap) (I : InstAt s.heap x ox C od) (hs : findIn K (.ref C) "__ne__" = some (some (.builtin "object.__ne__")))
    (h : wpAny (model prog w) A (call (.builtin "object.__ne__") (.ref x :: args)) (fun v => Q (some v)) E s) : wpAny (model prog w) A (callSpecialIfBound? (.ref x) "__ne__" args) Q E s := by
  simp only [callSpecialIfBound?,
        bindSpecialIfBound?]
  refine wpAny_holding (wpAny_bind (wpAny_bind (wpAny_bind
        (I.type.here ((looks_findIn X hs).here ?_)))))
  refine wpAny_bind
        (wpAny_askSetting (wpAny_ite ?_))
  have fin : wpAny (model prog w) A (call (.builtin "object.__ne__") ([.ref x] ++ args) >>= fun v => pure (some v)) Q E s := wpAny_bind (wpAny_mono h (fun v s' h' => wpAny_pure h') fun _ _ h' => h')
  have S := F.cmp_object.ne
  split
  · simp only [S.bind]
    exact wpAny_bind (wpAny_pure (wpAny_pure (by exact fin)))
  · simp only [S.bind]
    exact wpAny_tryCatch (wpAny_bind (wpAny_pure (wpAny_pure (by exact fin))))

theorem cmp_one {op : CmpOp} {Q : Value → Shared → Prop} (hu : A.units < cLine) (X : K.In s.heap) (I : InstAt s.heap x ox C od) (hb : Looks (model prog w) s.heap (typeOf b) tb) (hn : notFirst K C tb = true)
    (one : wpAny (model prog w) A (tryCompare (.ref x) (cmpInfo op).2.1 b) (fun r s' => ∃ v, r = some v ∧ Q v s') E s) : wpAny (model prog w) A (richCompare op (.ref x) b) Q E s := by
  unfold richCompare
  simp only [oneThing_ref]
  refine wpAny_holding (wpAny_bind
        (wpAny_cRoomFor hu ?_))
  refine wpAny_bind (I.type.here
        (wpAny_bind (hb.here ?_)))
  split
  · rename_i q
    have e : subIn K tb (.ref
          C) = some false := by
      rcases Bool.or_eq_true_iff.mp
            hn with e | e
      · rw [beq_iff_eq.mp
            e] at q; simp at q
      · exact beq_iff_eq.mp e
    refine wpAny_bind
          ((looks_subIn X e).here ?_)
    simp only [Bool.false_eq_true,
          if_false]
    refine wpAny_bind (wpAny_mono one
          (fun r s' z => ?_) fun _ _ e => e)
    obtain ⟨v, rfl, hq⟩ := z
    exact wpAny_pure hq
  · refine wpAny_bind
        (wpAny_pure ?_)
    simp only [Bool.false_eq_true,
          if_false]
    refine wpAny_bind (wpAny_mono one
          (fun r s' z => ?_) fun _ _ e => e)
    obtain ⟨v, rfl, hq⟩ := z
    exact wpAny_pure hq
theorem ne_entry {Q : Fin → Shared → Prop} (hu : A.units < cLine) (X : K.In s.heap) (I : InstAt s.heap x ox C od) (hs : findIn K (.ref C) "__eq__" = some (some (.ref f))) (hf : isFn K (.ref f) = true)
    (h : wpAny (model prog w) A (call (.ref f) [.ref x, b]) (fun v s' => ∃ r : Bool, v = .bool r ∧ Q (.done (.ret (.bool (!r)))) s') E s) : wpAny (model prog w) A (Builtin.«object.__ne__» ⟨[.ref x, b], []⟩) Q E s := by
  have key : wpAny (model prog w) A (callSpecialIfBound? (.ref x) "__eq__" [b]) (fun o s' => ∃ r : Bool, o = some (.bool r) ∧ Q (.done (.ret (.bool (!r)))) s') E s := by
    refine ifBound_K X I hs hf (wpAny_mono h (fun v s' hv => ?_) fun _ _ e => e)
    obtain ⟨r, rfl, q⟩ := hv
    exact ⟨r, rfl, q⟩
  unfold
        Builtin.«object.__ne__»
  show wpAny (model prog w) A (cRoomFor "comparison" [.ref x, b] >>= _) Q E s
  refine wpAny_bind
        (wpAny_cRoomFor hu ?_)
  refine wpAny_bind (wpAny_mono key (fun o s' z => ?_) fun _ _ e => e)
  obtain ⟨r, rfl, q⟩ := z
  show wpAny (model prog w) A (truthy (.bool r) >>= _) Q E s'
  exact wpAny_bind (wpAny_truthy_bool (wpAny_pure q))
theorem cmp_Kne {Q : Value → Shared → Prop} (hu : A.units + 1 < cLine) (X : K.In s.heap) (I : InstAt s.heap x ox C od) (hb : Looks (model prog w) s.heap (typeOf b) tb) (hn : notFirst K C tb = true)
    (hne : findIn K (.ref C) "__ne__" = some (some (.builtin "object.__ne__"))) (hs : findIn K (.ref C) "__eq__" = some (some (.ref f))) (hf : isFn K (.ref f) = true) (hm : mroIn K C (.type "object") = some true)
    (h : wpAny (model prog w) A.in1 (call (.ref f) [.ref x, b]) (fun v s' => ∃ r : Bool, v = .bool r ∧ Q (.bool (!r)) s') E s) : wpAny (model prog w) A (richCompare .NotEq (.ref x) b) Q E s := by
  refine cmp_one (Nat.lt_of_succ_lt hu) X I hb hn ?_
  show wpAny (model prog w) A (tryCompare (.ref x) "__ne__" b) _ E s
  unfold tryCompare
  have sub : Looks (model prog w) s.heap (isInstance (.ref x) (.type "object")) true := I.type.andThen (looks_mroIn X hm)
  refine wpAny_bind (ifBound_ne X I hne (wpAny_call (codeAny_call_builtin F.cmp_object.ne.plain F.cmpEntry_ne (@check_slot (model prog w) _ _ s "object.__ne__" "object" "__ne__" (.ref x) [b] [] _ F.cmpKind_ne F.cmpSplit_ne sub (F.cmpArgs_ne _ _) ?_))))
  refine ne_entry (A := A.in1) hu X I hs hf (wpAny_mono h (fun v s' z => ?_) fun _ _ e => e)
  obtain ⟨r, rfl, q⟩ := z
  exact ⟨r, rfl, wpAny_pure ⟨_, rfl, q⟩⟩
end

structure OwnEqF (K : PySem.W.Frag) (C f : Addr) : Prop where
  eq : PySem.W.findIn K (.ref C) "__eq__" = some (some (.ref f))
  ne : PySem.W.findIn K (.ref C) "__ne__" = some (some (.builtin "object.__ne__"))
  fn : PySem.W.isFn
        K (.ref f) = true
  ob : PySem.W.mroIn K C (.type "object") = some true
def rOwn (K : PySem.W.Frag) (C : Addr) (sp : Sp) (g : Bool → Bool) : R2 := fun x y H Q => ∃ a dx fs tb, x = .ref a ∧ H a = some (.ins C dx fs) ∧ TyX K H y tb ∧ PySem.W.notFirst K C tb = true ∧ sp [x, y] H (fun v H' => ∃ b, v = .bl b ∧ Q (.bl (g b)) H') E0
section
variable {X : Cx} {k : Nat} {C f : Addr} {fd : FuncData} {ps : List Str} {sp : Sp}
theorem own_call {A : Around} {pins : List (Addr × Obj)} {σ : St} {H : Hp} {s : Shared} {Q : VK} {x y : V} {u v : Value} (F : FnOk X.prog X.w X.K X.mg X.base CX0 k f fd ps sp) (hb : Binds X.K fd ps []) (hr : Room k A) (hf : A.frames = X.A.frames)
    (I : L2.Inv X pins σ H s) (rx : RelV x u) (ry : RelV y v) (h : sp [x, y] H Q E0) : wpAny (model X.prog X.w) A (call (.ref f) [u, v]) (EP X pins σ Q) X.xe s := by
  have e0 : Env0 X.prog X.w X.K
        X.mg X.base A X.stack s H := by
    have e := I.env0
    exact ⟨by rw [hf]; exact e.frames, e.mod, e.bs, e.bsz, e.funs, e.frf, e.hok, e.bare⟩
  have hl := F.len _ _ _ _ h
  have r2 : Vals [x, y] [u, v] := .cons rx (.cons ry .nil)
  refine wpAny_call (codeAny_mono (F.run A X.stack s H ⟨[u, v], []⟩ [u, v] [x, y] _ E0 hr e0 (by
    have := hb s [u, v] I.kIn (by simpa using hl)
    simpa using this) r2 h) fun r s' hq => ?_)
  cases r with
  | error e => exact
        False.elim hq
  | ok fl =>
    cases fl with
    | ret w => exact I.after hq
    | next => exact False.elim hq
    | brk => exact False.elim hq
    | cont => exact False.elim hq
theorem op_eqOwn (F : FnOk X.prog X.w X.K X.mg X.base CX0 k f fd ps sp) (q : OwnEqF X.K C f) (hb : Binds X.K fd ps []) (hr : Room k X.A) : OpR X (compareOp .Eq) (rOwn X.K C sp id) := by
  intro pins s σ H x
        y v u Q I rx ry h
  obtain ⟨a, dx, fs, tb, rfl, ha, ty, nf, hsp⟩ := h
  cases rx
  obtain ⟨mA, J, _⟩
        := ins_get I.hok ha
  obtain ⟨od, J, _⟩ := J.look
  obtain ⟨P, Z, p, _⟩ := kit_of I ry ty
  show wpAny (model X.prog X.w) X.A (richCompare .Eq (.ref a) u) (EP X pins σ Q) X.xe s
  refine cmp_one hr.units0 I.kIn J (Z.ty _ _ I.kIn p) nf ?_
  show wpAny (model X.prog X.w) X.A (tryCompare (.ref a) "__eq__" u) _ X.xe s
  unfold tryCompare
  refine wpAny_bind (PySem.W.ifBound_K I.kIn J q.eq q.fn (wpAny_mono (own_call F hb hr rfl I (show RelV (V.ref a) (Value.ref a) from rfl) ry hsp) (fun v s' z => ?_) fun _ _ e => e))
  obtain ⟨v', H', I', rv, b, eb, hq⟩ := z
  subst eb
  cases rv
  exact wpAny_pure ⟨_, rfl, .bl b, H', I', rfl, hq⟩
theorem op_neOwn (F : FnOk X.prog X.w X.K X.mg X.base CX0 k f fd ps sp) (q : OwnEqF X.K C f) (hb : Binds X.K fd ps []) (hr : Room (k + 1) X.A) : OpR X (compareOp .NotEq) (rOwn X.K C sp not) := by
  intro pins s σ H x
        y v u Q I rx ry h
  obtain ⟨a, dx, fs, tb, rfl, ha, ty, nf, hsp⟩ := h
  cases rx
  obtain ⟨mA, J, _⟩
        := ins_get I.hok ha
  obtain ⟨od, J, _⟩ := J.look
  obtain ⟨P, Z, p, _⟩ := kit_of I ry ty
  show wpAny (model X.prog X.w) X.A (richCompare .NotEq (.ref a) u) (EP X pins σ Q) X.xe s
  refine cmp_Kne (by have := hr.units; omega) I.kIn J (Z.ty _ _ I.kIn p) nf q.ne q.eq q.fn q.ob (wpAny_mono (own_call F hb hr.in1 rfl I (show RelV (V.ref a) (Value.ref a) from rfl) ry hsp) (fun v s' z => ?_) fun _ _ e => e)
  obtain ⟨v', H', I', rv, b, eb, hq⟩ := z
  subst eb
  cases rv
  exact ⟨b, rfl, .bl (!b), H', I', rfl, hq⟩
end
end Z

set_option Elab.async false
set_option linter.all false
set_option maxRecDepth 100000
set_option maxHeartbeats 2000500
namespace Z
open PySem L2
/-! ### errors -/
/-- what the written part says of an error class: it is raised, caught by its own name -/
structure ErrF (K : PySem.W.Frag) (C : Addr) : Prop where
  oex : OexC K C
  xf : XfC K C
  me : PySem.W.exmOne K (.ref C) (.ref C) = some true
/-- its __init__ at fI -/
structure ErrI (K : PySem.W.Frag) (C fI : Addr) : Prop where
  iC : PySem.W.findIn K (.ref C) "__init__" = some (some (.ref fI))
  tI : PySem.W.typeIn K (.ref fI) = some (.type "function")
section
variable {X : Cx} {CX : CXT} {C fI : Addr} {k : Nat} {fd : FuncData} {ps : List Str} {sp : Sp} {ta : TA} {x : Str} {e : Expr} {es : List Expr} {p pos : Pos}
theorem pmk_err (T : ErrF X.K C) (iC : ErrI X.K C fI) (F1 : FnOk X.prog X.w X.K X.mg X.base CX0 k fI fd ps sp) (hb : Binds X.K fd ps []) (hr : Room (k + 1) X.A) (hm : X.mg x = some (.ref C)) (hg : Gl X x) (ha : PA X (e :: es) ta)
    (hdb : (x == ("__debug__" : Str)) = false := by decide) (he : starEach (e :: es) X.env = (false, eval e
          X.env) :: starEach es X.env := by rfl) (hpl : (backTo pos (starEach es X.env)).any (·.1) = false := by rfl) :
    PMk X (.Call (.Name x p) (e :: es) [] pos) (tMkO C sp [] ta) :=
  pmk_oex (dvs := []) (ds := []) T.oex iC.iC iC.tI F1 hr hb .nil (fun _ _ _ _ _ _ _ h => h.elim) hg hm ha hdb he hpl
end
/-- an __init__ that keeps one thing under one name -/
def spErr1 (K : PySem.W.Frag) (f : Str) : Sp := Sp2 fun a b H Q E => ∃ (q C : Addr), a = .ref q ∧ OexC K C ∧ PySem.W.findIn K (.ref C) f = some none ∧ H q = some (exo q C none) ∧
  ∀ d, H d = none → d ≠ q → Q .non (upd (upd H d (exd d [(f, b)])) q (exo q C (some d)))
def spErr2 (K : PySem.W.Frag) (f g : Str) : Sp := Sp3 fun a b c H Q E => ∃ (q C : Addr), a = .ref q ∧ OexC K C ∧ PySem.W.findIn K (.ref C) f = some none ∧ PySem.W.findIn K (.ref C) g = some none ∧ H q = some (exo q C none) ∧
  ∀ d, H d = none → d ≠ q → Q .non (upd (upd (upd H d (exd d [(f, b)])) q (exo q C (some d))) d (exd d [(g, c), (f, b)]))
theorem exd_ne {q C d : Addr} {o : Option Addr} {fs : List (Str × V)} : exo q C o ≠ exo q C o → False := fun h => h rfl
section
variable {K : PySem.W.Frag} {H H' : Hp} {L : List En} {C : Addr} {E : XK} {EK : XK} {ts : TA} {f g : Str} {v w : V}
/-- the heap behind an error's making -/
theorem Fx.made {a d : Addr} {o : HO} {H2 : Hp} (F : Fx H L) (ha : H a = none) (hd : H d = none) (k : ∀ b, b ≠ a → b ≠ d → H2 b = H b) : Fx (upd (del H2 a) d o) (.ob d o :: L) := by
  have F1 : Fx (upd (del H2 a) d o) L := F.same fun b u q => by
    have nb := ne_of_none q hd
    have na := ne_of_none q ha
    rw [upd_ne nb, del_ne na, k b na nb]
    exact q
  refine F1.add upd_same fun h => ?_
  obtain ⟨e, he, hm⟩ := List.mem_flatMap.mp h
  obtain ⟨o, q⟩ := En.there (F.1 e he) hm
  rw [hd] at q
  cases q
theorem wMk1 (T : OexC K C) (n : PySem.W.findIn K (.ref C) f = some none) (F : Fx H L) (k : ∀ d H', Fx H' (.ob d (.xd [(f, v)]) :: L) → EK (.ref C) (some d) H') :
    [v].length ≤ 1000 ∧ ∀ a, H a = none → spErr1 K f (.ref a :: ([v] ++ [])) (upd H a (exo a C none))
  (fun v H2 => v = .non ∧ ∃ (d : Addr) (fs : List (Str × V)), H2 a = some (exo a C (some d)) ∧ H2 d = some (exd d fs) ∧ H d = none ∧ EK (.ref C) (some d) (upd (del H2 a) d (.xd fs))) (fun _ _ _ => False) := by
  refine ⟨Nat.le_of_ble_eq_true rfl, fun a ha => ⟨_, _, rfl, a, C, rfl, T, n, upd_same, fun d hd hn => ⟨rfl, d, _, upd_same, ?_, ?_, k d _ (F.made ha ?_ fun b h1 h2 => ?_)⟩⟩⟩
  · rw [upd_ne hn, upd_same]
  · rw [upd_ne hn] at hd; exact hd
  · rw [upd_ne hn] at hd; exact hd
  · rw [upd_ne h1, upd_ne h2, upd_ne h1]
theorem wMk2 (T : OexC K C) (n : PySem.W.findIn K (.ref C) f = some none) (n' : PySem.W.findIn K (.ref C) g = some none) (F : Fx H L) (k : ∀ d H', Fx H' (.ob d (.xd [(g, w), (f, v)]) :: L) → EK (.ref C) (some d) H') :
    [v, w].length ≤ 1000 ∧ ∀ a, H a = none → spErr2 K f g (.ref a :: ([v, w] ++ [])) (upd H a (exo a C none))
  (fun v H2 => v = .non ∧ ∃ (d : Addr) (fs : List (Str × V)), H2 a = some (exo a C (some d)) ∧ H2 d = some (exd d fs) ∧ H d = none ∧ EK (.ref C) (some d) (upd (del H2 a) d (.xd fs))) (fun _ _ _ => False) := by
  refine ⟨Nat.le_of_ble_eq_true rfl, fun a ha => ⟨_, _, _, rfl, a, C, rfl, T, n, n', upd_same, fun d hd hn => ⟨rfl, d, _, ?_, upd_same, ?_, k d _ (F.made ha ?_ fun b h1 h2 => ?_)⟩⟩⟩
  · rw [upd_ne (Ne.symm hn), upd_same]
  · rw [upd_ne hn] at hd; exact hd
  · rw [upd_ne hn] at hd; exact hd
  · rw [upd_ne h2, upd_ne h1, upd_ne h2, upd_ne h1]
end
theorem owns {X : Cx} {K : Value → Shared → Prop} {E₁ : Value → Shared → Prop} (hx : X.xe = fun e s' => wpAny (model X.prog X.w) X.A (leaving X.env e) (fun _ s'' => K e s'') E₁ s') : PassesOwn (model X.prog X.w) X.A X.env X.xe := passes_of hx
/-! ### an instance is made in a try -/
section
variable {X : Cx} {CX : CXT} {k : Nat} {f C : Addr} {fd : FuncData} {ps : List Str} {ds : List Value} {dvs : List V} {sp : Sp} {E : St → XK} {x : Str} {p pos : Pos} {e : Expr} {es : List Expr} {t : TA}
def tMakeS (C : Addr) (sp : Sp) (dvs : List V) (E : St → XK) (t : TA) : TE := fun σ H Q => t σ H fun vs H1 => ∀ x dx, H1 x = none → H1 dx = none → dx ≠ x →
  sp (.ref x :: (vs ++ dvs)) (upd (upd H1 dx (.own x)) x (.ins C dx [])) (fun v H2 => v = .non ∧ Q (.ref x) H2) (E σ)
theorem run_makeS {pins : List (Addr × Obj)} {σ : St} {H : Hp} {s : Shared} {Q : VK} {us : List Value} {vs : List V} (M : Mk X.K C f) (F : FnOk X.prog X.w X.K X.mg X.base CX k f fd ps sp) (hr : Room (k + 1) X.A) (hb : Binds X.K fd ps ds) (hd : Vals dvs ds)
    (hx : PassesAt CX X σ (E σ)) (I : L2.Inv X pins σ H s) (r : Vals vs us)
    (h : ∀ x dx, H x = none → H dx = none → dx ≠ x → sp (.ref x :: (vs ++ dvs)) (upd (upd H dx (.own x)) x (.ins C dx [])) (fun v H2 => v = .non ∧ Q (.ref x) H2) (E σ)) :
    wpAny (model X.prog X.w) X.A (call (.ref
          C) us) (EP X pins σ Q) X.xe s := by
  have hq := h (s.heap.objs.size + 1) s.heap.objs.size (I.hok.fresh (Nat.le_succ
        _)) (I.hok.fresh (Nat.le_refl _)) (Nat.ne_of_lt (Nat.lt_succ_self _))
  have I2 := Inv.made
        (C := C) I
  have r2 : Vals (V.ref (s.heap.objs.size + 1) :: (vs ++ dvs)) (Value.ref
        (s.heap.objs.size + 1) :: (us ++ ds)) := .cons rfl (r.append hd)
  have hl : (Value.ref (s.heap.objs.size +
        1) :: us ++ ds).length = ps.length := by
    have e := r2.length
    rw [F.len _ _ _ _ hq] at e
    exact e.symm
  refine wpAny_call (make_map (f := f) I.kIn M.makes M.init (beq_iff_eq.mp M.fn) (codeAny_mono (F.run _ X.stack _ _ ⟨Value.ref (s.heap.objs.size + 1) :: us, []⟩ (Value.ref (s.heap.objs.size + 1) :: (us ++ ds)) _ _ (E σ) (hr.make C us [])
    (I2.env0.make C us []) (hb _ (Value.ref (s.heap.objs.size
          + 1) :: us) I2.kIn hl) r2 hq) fun r s' hq' => ?_))
  cases r with
  | error e => exact hx pins _ _ e s' I2 hq'
  | ok fl =>
    cases fl with
    | ret u =>
      obtain ⟨v, H', I3, rv,
            ev, q3⟩ := I2.after hq'
      subst ev
      exact ⟨rv, ⟨V.ref (s.heap.objs.size
            + 1), H', I3, rfl, q3⟩⟩
    | next => exact
          False.elim hq'
    | brk => exact False.elim hq'
    | cont => exact
          False.elim hq'
theorem pe_makeS (M : Mk X.K C f) (F : FnOk X.prog X.w X.K X.mg X.base CX k f fd ps sp) (hr : Room (k + 1) X.A) (hg : Gl X x) (hm : X.mg x = some (.ref C)) (hb : Binds X.K fd ps ds) (hd : Vals dvs ds) (hx : ∀ σ, PassesAt CX X σ (E σ))
    (ha : PA X (e :: es) t) (hdb : (x == ("__debug__" : Str)) = false := by decide) (he : starEach (e :: es) X.env = (false,
          eval e X.env) :: starEach es X.env := by rfl) (hpl : (backTo pos (starEach es X.env)).any (·.1) = false := by rfl) :
    PE X (.Call (.Name x p) (e :: es) [] pos) (tMakeS C sp dvs E t) := by
  refine ⟨fun pins
        s σ H Q I h => ?_⟩
  refine wpAny_Call_Name_kw
        (ld_glob I hg hm ?_ hdb)
  refine PySem.W.callWith_K (h₀ := X.base) I.ok.mod.kin M.kp (thn (ha.run
        pos pins s σ H _ I h) fun us s1 ⟨vs, H1, I1, r, q⟩ => ⟨I1.kIn, ?_⟩) he hpl
  exact run_makeS M F hr hb hd (hx σ) I1 r q
end
/-- the new instance and its dict, as entries -/
theorem Fx.inst {H : Hp} {L : List En} {C x dx : Addr} (F : Fx H L) (hx : H x = none) (hd : H dx = none) (ne : dx ≠ x) : Fx (upd (upd H dx (.own x)) x (.ins C dx [])) (.ob x (.ins C dx []) :: .ob dx (.own x) :: L) := by
  have F1 := F.new (o := .own x) hd
  exact F1.new (by rw [upd_ne (Ne.symm ne)]; exact hx)
theorem wMake {sp : Sp} {C : Addr} {dvs : List V} {E : XK} {t : TA} {σ : St} {H : Hp} {Q : VK} (h : t σ H fun vs H1 => ∀ x dx, H1 x = none → H1 dx = none → dx ≠ x →
  sp (.ref x :: (vs ++ dvs)) (upd (upd H1 dx (.own x)) x (.ins C dx [])) (fun v H2 => v = .non ∧ Q (.ref x) H2) E) : tMake C sp dvs E t σ H Q := h
theorem wMakeS {sp : Sp} {C : Addr} {dvs : List V} {E : St → XK} {t : TA} {σ : St} {H : Hp} {Q : VK} (h : t σ H fun vs H1 => ∀ x dx, H1 x = none → H1 dx = none → dx ≠ x →
  sp (.ref x :: (vs ++ dvs)) (upd (upd H1 dx (.own x)) x (.ins C dx [])) (fun v H2 => v = .non ∧ Q (.ref x) H2) (E σ)) : tMakeS C sp dvs E t σ H Q := h
/-- o.f and self.f = v of an instance -/
theorem wFld {K : PySem.W.Frag} {ta : TE} {f : Str} {σ : St} {H : Hp} {Q : VK} (h : ta σ H fun x H1 => ∃ a C dx fs v, x = .ref a ∧ H1 a = some (.ins C dx fs) ∧ Cls K C ∧ NoAttr K C f ∧ fs.lookup f = some v ∧ Q v H1) : tFld K ta f σ H Q := h
theorem wFldAt {K : PySem.W.Frag} {f : Str} {H : Hp} {L : List En} {a C dx : Addr} {fs : List (Str × V)} {v : V} {QP : V → Prop} (F : Fx H L) (m : En.ob a (.ins C dx fs) ∈ L) (c : Cls K C) (n : NoAttr K C f) (e : fs.lookup f = some v) (h : QP v) :
    ∃ a' C dx fs v, V.ref a = .ref a' ∧ H a' = some (.ins C dx fs) ∧ Cls K C ∧ NoAttr K C f ∧ fs.lookup f = some v ∧ QP v := ⟨a, C, dx, fs, v, rfl, F.get m, c, n, e, h⟩

def StoreF (K : PySem.W.Frag) (f : Str) (x y : V) (H : Hp) (N : Hp → Prop) : Prop := ∃ a C dx fs, x = .ref a ∧ H a = some (.ins C dx fs) ∧ Cls K C ∧ NoAttr K C f ∧ fs.length < 1000 ∧ N (upd H a (.ins C dx (putF f y fs)))
theorem wSFld {K : PySem.W.Frag} {ta tv : TE} {f : Str} {σ : St} {H : Hp} {nx bk ct : St → Hp → Prop} {rt : VK} (h : tv σ H fun y H1 => ta σ H1 fun x H2 => StoreF K f x y H2 (fun H3 => nx σ H3)) : sFld K ta tv f ⟨nx, rt, bk, ct⟩ σ H := h
theorem wStoreF {K : PySem.W.Frag} {f : Str} {y : V} {H : Hp} {N : Hp → Prop} {L L' : List En} {a C dx : Addr} {fs : List (Str × V)} (F : Fx H L) (m : En.ob a (.ins C dx fs) ∈ L) (c : Cls K C) (n : NoAttr K C f) (l : fs.length < 1000) (pt : Put a (.ins C dx (putF f y fs)) L L') (k : ∀ H', Fx H' L' → N H') : StoreF K f (.ref a) y H N :=
  ⟨a, C, dx, fs, rfl, F.get m, c, n, l, k _ (F.put pt)⟩
/-- self.f = v in an error's __init__ -/
theorem init1_run {K : PySem.W.Frag} {f : Str} {a b : V} {H : Hp} {Q : VK} {rt : VK} {bk ct : St → Hp → Prop} (h : ∃ (q C : Addr), a = .ref q ∧ OexC K C ∧ PySem.W.findIn K (.ref C) f = some none ∧ H q = some (exo q C none) ∧
  ∀ d, H d = none → d ≠ q → Q .non (upd (upd H d (exd d [(f, b)])) q (exo q C (some d)))) : tOst K f (tVar 0) (tVar 1) ⟨fun _ H' => Q .non H', rt, bk, ct⟩ [some a, some b] H := by
  obtain ⟨q, C, rfl, T, n, hq, k⟩ := h
  exact ⟨_, rfl, _, rfl, q, C, rfl, T, n, .inl ⟨hq, fun dx hd ne => k dx hd ne⟩⟩
theorem init2_run {K : PySem.W.Frag} {f g : Str} {a b c : V} {H : Hp} {Q : VK} {rt : VK} {bk ct : St → Hp → Prop} (h : ∃ (q C : Addr), a = .ref q ∧ OexC K C ∧ PySem.W.findIn K (.ref C) f = some none ∧ PySem.W.findIn K (.ref C) g = some none ∧ H q = some (exo q C none) ∧
  ∀ d, H d = none → d ≠ q → Q .non (upd (upd (upd H d (exd d [(f, b)])) q (exo q C (some d))) d (exd d [(g, c), (f, b)]))) : tSeq (tOst K f (tVar 0) (tVar 1)) (tOst K g (tVar 0) (tVar 2)) ⟨fun _ H' => Q .non H', rt, bk, ct⟩ [some a, some b, some c] H := by
  obtain ⟨q, C, rfl, T, n, n', hq, k⟩ := h
  exact ⟨_, rfl, _, rfl, q, C, rfl, T, n, .inl ⟨hq, fun dx hd ne => ⟨_, rfl, _, rfl, q, C, rfl, T, n', .inr ⟨dx, _, upd_same, by rw [upd_ne ne, upd_same], Nat.le_of_ble_eq_true rfl, k dx hd ne⟩⟩⟩⟩
end Z

set_option Elab.async false
set_option linter.all false
set_option maxRecDepth 100000
set_option maxHeartbeats 2000500
namespace Z
open PySem L2
section
variable (CX : CXT) (P : Program) (w : World) (K : PySem.W.Frag) (mg : Str → Option Value) (base : Heap)
def ErrO (C : Addr) (k : Nat) (ps : List Str) (sp : Sp) : Prop := ∃ (f : Addr) (fd : FuncData), ErrI K C f ∧ Binds K fd ps [] ∧ FnOk P w K mg base CX0 k f fd ps sp
def MkO (C : Addr) (k : Nat) (ps : List Str) (dvs : List V) (sp : Sp) : Prop := ∃ (f : Addr) (fd : FuncData) (ds : List Value), Mk K C f ∧ Binds K fd ps ds ∧ Vals dvs ds ∧ FnOk P w K mg base CX k f fd ps sp
def MkKO (C : Addr) (k : Nat) (ps ks : List Str) (n : Nat) (gV : List V → List V → List V) (sp : Sp) : Prop := ∃ (f : Addr) (fd : FuncData) (g : List Value → List Value → List Value), Mk K C f ∧ KBn K fd ps (n + 1) ks g gV ∧ FnOk P w K mg base CX k f fd ps sp
def EqO (C : Addr) (k : Nat) (ps : List Str) (sp : Sp) : Prop := ∃ (f : Addr) (fd : FuncData), OwnEqF K C f ∧ Binds K fd ps [] ∧ FnOk P w K mg base CX0 k f fd ps sp
def PropO (C : Addr) (x : Str) (k : Nat) (ps : List Str) (sp : Sp) : Prop := ∃ (p f : Addr) (fd : FuncData), PropOf K C x p f ∧ Binds K fd ps [] ∧ FnOk P w K mg base CX k f fd ps sp
def MethO (C : Addr) (x : Str) (k : Nat) (ps : List Str) (dvs : List V) (sp : Sp) : Prop := ∃ (f : Addr) (fd : FuncData) (ds : List Value), Meth K C x f ∧ Binds K fd ps ds ∧ Vals dvs ds ∧ FnOk P w K mg base CX k f fd ps sp
end
section
variable {X : Cx} {CX : CXT} {C : Addr} {k : Nat} {ps ks : List Str} {sp : Sp} {ta t tk : TA} {x : Str} {e o : Expr} {es : List Expr} {p pos apos : Pos} {E : XK} {ES : St → XK} {dvs : List V} {te : TE} {n : Nat} {gV : List V → List V → List V} {kws : List Keyword}
theorem pmk_errO (T : ErrF X.K C) (O : ErrO X.prog X.w X.K X.mg X.base C k ps sp) (hr : Room (k + 1) X.A) (hm : X.mg x = some (.ref C)) (hg : Gl X x) (ha : PA X (e :: es) ta)
    (hdb : (x == ("__debug__" : Str)) = false := by decide) (he : starEach (e :: es) X.env = (false, eval e
          X.env) :: starEach es X.env := by rfl) (hpl : (backTo pos (starEach es X.env)).any (·.1) = false := by rfl) :
    PMk X (.Call (.Name x p) (e :: es) [] pos) (tMkO C sp [] ta) := by
  obtain ⟨f, fd, i, b, F⟩ := O
  exact pmk_err T i F b hr hm hg ha hdb he hpl
theorem pe_makeO (O : MkO CX X.prog X.w X.K X.mg X.base C k ps dvs sp) (hr : Room (k + 1) X.A) (hm : X.mg x = some (.ref C)) (hg : Gl X x) (hx : Passes CX X E) (ha : PA X (e :: es) t)
    (hdb : (x == ("__debug__" : Str)) = false := by decide) (he : starEach (e :: es) X.env = (false, eval e
          X.env) :: starEach es X.env := by rfl) (hpl : (backTo pos (starEach es X.env)).any (·.1) = false := by rfl) :
    PE X (.Call (.Name x p) (e :: es)
          [] pos) (tMake C sp dvs E t) := by
  obtain ⟨f, fd, ds, M, b, v, F⟩ := O
  exact pe_make M F hr hg hm b v hx ha hdb he hpl
theorem pe_makeSO (O : MkO CX X.prog X.w X.K X.mg X.base C k ps dvs sp) (hr : Room (k + 1) X.A) (hm : X.mg x = some (.ref C)) (hg : Gl X x) (hx : ∀ σ, PassesAt CX X σ (ES σ)) (ha : PA X (e :: es) t)
    (hdb : (x == ("__debug__" : Str)) = false := by decide) (he : starEach (e :: es) X.env = (false, eval e
          X.env) :: starEach es X.env := by rfl) (hpl : (backTo pos (starEach es X.env)).any (·.1) = false := by rfl) :
    PE X (.Call (.Name x p) (e :: es) [] pos) (tMakeS C sp dvs ES t) := by
  obtain ⟨f, fd, ds, M, b, v, F⟩ := O
  exact pe_makeS M F hr hg hm b v hx ha hdb he hpl
theorem pe_makeKO (O : MkKO CX X.prog X.w X.K X.mg X.base C k ps ks n gV sp) (hr : Room (k + 1) X.A) (hm : X.mg x = some (.ref C)) (hg : Gl X x) (hx : Passes CX X E) (ha : PA X (e :: es) t) (hkw : PK X kws tk)
    (hall : (backToKw pos (keywordEach kws X.env)).all (·.1.isSome) = true := by rfl) (hks : (backToKw pos (keywordEach kws X.env)).filterMap (·.1) = ks := by rfl)
    (hdb : (x == ("__debug__" : Str)) = false := by decide) (he : starEach
          (e :: es) X.env = (false, eval e X.env) :: starEach es X.env := by rfl)
    (hpl : ((backTo pos (starEach (e :: es) X.env)).any (·.1) || (backToKw
          pos (keywordEach kws X.env)).any (·.1.isNone)) = false := by rfl) :
    PE X (.Call (.Name x p) (e :: es) kws pos)
          (tMakeN C n ks.length sp gV E t tk) := by
  obtain ⟨f, fd, g, M, b, F⟩ := O
  exact pe_makeN M F hr hg hm b hx ha hkw hall hks hdb he hpl
theorem pe_propO (O : PropO CX X.prog X.w X.K X.mg X.base C x k ps sp) (c : Cls X.K C) (hr : Room (k + 1) X.A) (hx : Passes CX X.nox E) (he : PE X e te) (hab : attributeBase e x X.env (eval e X.env) = eval e X.env := by rfl) :
    PE X (.Attribute e x pos) (tProp C sp [] E te) := by
  obtain ⟨p, f, fd, q, b, F⟩ := O
  exact pe_prop he c q F hr b .nil hx hab
theorem op_eqOwnO (O : EqO X.prog X.w X.K X.mg X.base C k ps sp) (hr : Room k X.A) : OpR X (compareOp .Eq) (rOwn X.K C sp id) := by
  obtain ⟨f, fd, q, b, F⟩ := O
  exact op_eqOwn F q b hr
theorem op_neOwnO (O : EqO X.prog X.w X.K X.mg X.base C k ps sp) (hr : Room (k + 1) X.A) : OpR X (compareOp .NotEq) (rOwn X.K C sp not) := by
  obtain ⟨f, fd, q, b, F⟩ := O
  exact op_neOwn F q b hr
end
/-- what the written part says of an own class whose instances are asked for their kind -/
structure InsF (K : PySem.W.Frag) (C : Addr) : Prop where
  cl : Cls K C
  ha : PySem.W.findIn K (.ref C) "__class__"
        = some (some (.builtin "object.__class__"))
  hn : PySem.W.specialIn K (.builtin "object.__class__")
        "__get__" = some (some (.builtin "getset_descriptor.__get__"))
  htk : PySem.W.takesIn K (.builtin
        "object.__class__") = some true
  hm : PySem.W.mroIn K C
        (.type "object") = some true
  me : PySem.W.kitOne K (.ref
        C) (.ref C) = some true
  tup : PySem.W.kitOne K (.type "tuple") (.ref C) = some false
  lst : PySem.W.kitOne K (.type "list") (.ref C) = some false
  str : PySem.W.kitOne K (.type "str") (.ref C) = some false
  nft : PySem.W.notFirst K C (.type "tuple") = true
section
variable {K : PySem.W.Frag} {C a dx : Addr} {H : Hp} {L : List En} {fs : List (Str × V)} {Q : VK} {xs : List V}
theorem InsF.ty (c : InsF K C) (h : H a = some (.ins C dx fs)) : TyX K H (.ref a) (.ref C) := .base (.ins h c.cl c.ha c.hn c.htk c.hm)
theorem InsF.nf (c : InsF K C) : PySem.W.notFirst K C (.ref C) = true := by
  show ((Value.ref C == .ref C) || _) = true
  rw [beq_self_eq_true]
  rfl
theorem wIsiOwn (c : InsF K C) (h : H a = some (.ins C dx fs)) (q : Q (.bl true) H) : rOrC (rIsi K) (rIsiT K) [.ref a, .ref C] H Q := .inl ⟨_, _, _, _, _, rfl, .own _, c.ty h, c.me, q⟩
theorem wIsiTupOwn (c : InsF K C) (s : SqT K H a xs) (q : Q (.bl false) H) : rOrC (rIsi K) (rIsiT K) [.ref a, .ref C] H Q := .inl ⟨_, _, _, _, _, rfl, .own _, (HasK.tup s).tyx, c.tup, q⟩
end
end Z
namespace Z
open PySem L2
section
variable {X : Cx} {CX : CXT} {k : Nat} {ps : List Str} {sp : Sp} {E : St → XK} {x : Str} {p pos : Pos} {e : Expr} {es : List Expr} {t : TA}
theorem pe_callSO (O : Ok CX X.prog X.w X.K X.mg X.base x k ps [] sp) (hg : Gl X x) (hr : Room k X.A) (hx : ∀ σ, PassesAt CX X σ (E σ)) (ha : PA X (e :: es) t)
    (hdb : (x == ("__debug__" : Str)) = false := by decide) (he : starEach (e :: es) X.env = (false, eval e
          X.env) :: starEach es X.env := by rfl) (hpl : (backTo pos (starEach es X.env)).any (·.1) = false := by rfl) :
    PE X (.Call (.Name x p) (e ::
          es) [] pos) (tCallS sp E t) := by
  obtain ⟨f, fd, ds, g, kp, b, v, F⟩ := O
  cases v
  exact pe_callS F hr hg g kp b hx ha hdb he hpl
end
theorem wCallS {sp : Sp} {E : St → XK} {t : TA} {σ : St} {H : Hp} {Q : VK} (h : t σ H fun vs H1 => sp vs H1 Q (E σ)) : tCallS sp E t σ H Q := h
end Z

set_option Elab.async false
set_option linter.all false
set_option maxRecDepth 100000
set_option maxHeartbeats 2000500
namespace Z
open PySem L2 RZ
/-! ### things by the ledger alone -/
inductive Thing (L : List En) : V → Kd → Prop where
  | non : Thing L .non .non
  | bl (b : Bool) : Thing L (.bl b) .bl
  | int (i : Int) : Thing L (.int i) .int
  | str (z : Str) : Thing L (.str z) .str
  | lst {a : Addr} {xs : List V} (m : En.ob a (.lst xs) ∈ L) : Thing L (.ref a) .lst
  | tup {a : Addr} {xs : List V} (m : En.ob a (.tup xs) ∈ L) : Thing L (.ref a) .tup
  | dct {a : Addr} {kvs : List (Key × V)} (m : En.ob a (.dK kvs) ∈ L) : Thing L (.ref a) .dct
theorem Thing.has {K : PySem.W.Frag} {H : Hp} {L : List En} {x : V} {k : Kd} (F : Fx H L) (t : Thing L x k) : HasK K H x k := by
  cases t with
  | non => exact .non
  | bl b => exact .bl b
  | int i => exact .int i
  | str z => exact .str z
  | lst m => exact .lst (F.lst m)
  | tup m => exact .tup (F.tup m)
  | dct m => exact .dct (F.get m)
theorem Thing.mono {L L' : List En} {x : V} {k : Kd} (t : Thing L x k) (h : ∀ e ∈ L, e ∈ L') : Thing L' x k := by
  cases t with
  | non => exact .non
  | bl b => exact .bl b
  | int i => exact .int i
  | str z => exact .str z
  | lst m => exact .lst (h _ m)
  | tup m => exact .tup (h _ m)
  | dct m => exact .dct (h _ m)
theorem Thing.cons {L : List En} {x : V} {k : Kd} {e : En} (t : Thing L x k) : Thing (e :: L) x k := t.mono fun _ h => List.mem_cons_of_mem _ h
/-- its items, where it is a sequence -/
inductive SeqIs (L : List En) : V → Option (List V) → Prop where
  | non : SeqIs L .non none
  | bl (b : Bool) : SeqIs L (.bl b) none
  | int (i : Int) : SeqIs L (.int i) none
  | str (z : Str) : SeqIs L (.str z) none
  | lst {a : Addr} {xs : List V} (m : En.ob a (.lst xs) ∈ L) : SeqIs L (.ref a) (some xs)
  | tup {a : Addr} {xs : List V} (m : En.ob a (.tup xs) ∈ L) : SeqIs L (.ref a) (some xs)
  | dct {a : Addr} {kvs : List (Key × V)} (m : En.ob a (.dK kvs) ∈ L) : SeqIs L (.ref a) none
def inLen (lo hi : Int) : Option (List V) → Bool
  | some xs => decide (lo ≤ (xs.length : Int)) && decide ((xs.length : Int) ≤ hi)
  | none => false
/-! ### comprehensions -/
section
variable {D : Addr} {R : Nat → List V → List En → Prop}
def LcP (D : Addr) (R : Nat → List V → List En → Prop) (i : Nat) (H : Hp) : Prop := ∃ acc L, Fx H (.ob D (.lst acc) :: L) ∧ R i acc L
def LcPut (D : Addr) (R : Nat → List V → List En → Prop) (i : Nat) (y : V) (H : Hp) : Prop := ∃ acc, H D = some (.lst acc) ∧ acc.length < sizeLine ∧ LcP D R (i + 1) (upd H D (.lst (acc ++ [y])))
theorem lcPut {i : Nat} {y : V} {H : Hp} {acc : List V} {L : List En} (F : Fx H (.ob D (.lst acc) :: L)) (n : acc.length < sizeLine) (r : R (i + 1) (acc ++ [y]) L) : LcPut D R i y H :=
  ⟨acc, F.get List.mem_cons_self, n, acc ++ [y], L, F.put .head, r⟩
variable {J : It} {n : Nat} {G : Hp → Prop} {Y : Nat → Hp → V → Hp → Prop} {g : TG} {tt : TT} {te : TE} {vs : List Nat} {σ : St} {H : Hp} {Q : VK} {L : List En}
theorem wLcW {QD : Addr → Hp → Prop} (w : Walk J n G Y) (F : Fx H L) (R : Nat → List V → List En → Prop) (h0 : R 0 [] L) (hG : ∀ i acc L' D H', R i acc L' → Fx H' (.ob D (.lst acc) :: L') → G H')
    (hs : ∀ i x D H' H'' acc L', i < n → R i acc L' → Fx H' (.ob D (.lst acc) :: L') → Y i H' x H'' → g x (wipe σ vs) H'' fun σ2 H2 => wipe σ2 vs = wipe σ vs ∧ tt σ2 H2 fun b H3 =>
      if b = true then te σ2 H3 fun y H4 => LcPut D R i y H4 else LcP D R (i + 1) H3)
    (hd : ∀ D acc L' H', Fx H' (.ob D (.lst acc) :: L') → R n acc L' → QD D H') :
    ∀ D, H D = none → ∃ W : Nat → Nat → Hp → Prop, (∃ m, W 0 m (upd H D (.lst []))) ∧ ∀ i m H, W i m H →
  (J.stop i H ∧ QD D H) ∨ (J.go i H ∧ ∃ Nx : Hp → Prop, (∀ H', Nx H' → ∃ m', m' < m ∧ W (i + 1) m' H') ∧ ∀ x H', J.yld i H x H' → g x (wipe σ vs) H' fun σ2 H2 => wipe σ2 vs = wipe σ vs ∧ tt σ2 H2 fun b H3 =>
    if b = true then te σ2 H3 fun y H4 => ∃ acc, H4 D = some (.lst acc) ∧ acc.length < sizeLine ∧ Nx (upd H4 D (.lst (acc ++ [y]))) else Nx H3) := fun D hD =>
  lc_it w (Qd := fun H' => QD D H') (LcP D R) ⟨[], L, F.new hD, h0⟩ (fun i H' _ ⟨acc, L', F', r⟩ => hG i acc L' D H' r F')
    (fun i x H' H'' hi ⟨acc, L', F', r⟩ y => hs i x D H' H'' acc L' hi r F' y) (fun H' ⟨acc, L', F', r⟩ => hd D acc L' H' F' r)
end
theorem wLc {wi : TI} {g : TG} {tt : TT} {te : TE} {vs : List Nat} {σ : St} {H : Hp} {Q : VK} (h : wi σ H fun J H1 => ∀ D, H1 D = none → ∃ W : Nat → Nat → Hp → Prop, (∃ m, W 0 m (upd H1 D (.lst []))) ∧ ∀ i m H, W i m H →
  (J.stop i H ∧ Q (.ref D) H) ∨ (J.go i H ∧ ∃ Nx : Hp → Prop, (∀ H', Nx H' → ∃ m', m' < m ∧ W (i + 1) m' H')
        ∧ ∀ x H', J.yld i H x H' → g x (wipe σ vs) H' fun σ2 H2 => wipe σ2 vs = wipe σ vs ∧ tt σ2 H2 fun b H3 =>
    if b = true then te σ2 H3 fun y H4 => ∃ acc, H4 D = some (.lst acc) ∧ acc.length < sizeLine ∧ Nx (upd H4 D (.lst (acc ++ [y]))) else Nx H3)) : tLc wi g tt te vs σ H Q := h
/-! what a loop or a comprehension walks -/
section
variable {K : PySem.W.Frag} {H : Hp} {L : List En} {a b : Addr} {xs ys : List V} {RI : It → Hp → Prop} {σ : St} {te : TE} {ta : TA}
def GoL (K : PySem.W.Frag) (x : V) (H : Hp) (R : It → Hp → Prop) : Prop := ∃ a, x = .ref a ∧ (∃ xs, SqL K H a xs) ∧ R (Itl K a) H
def GoT (K : PySem.W.Frag) (x : V) (H : Hp) (R : It → Hp → Prop) : Prop := ∃ a, x = .ref a ∧ (∃ xs, SqT K H a xs) ∧ R (Itt K a) H
theorem wIL (h : te σ H fun x H1 => GoL K x H1 RI) : iList K te σ H RI := h
theorem wIT (h : te σ H fun x H1 => GoT K x H1 RI) : iTup K te σ H RI := h
theorem wGoL (s : SqL K H a xs) (h : RI (Itl K a) H) : GoL K (.ref a) H RI := ⟨a, rfl, ⟨xs, s⟩, h⟩
theorem wGoT (s : SqT K H a xs) (h : RI (Itt K a) H) : GoT K (.ref a) H RI := ⟨a, rfl, ⟨xs, s⟩, h⟩
def GoR1 (vs : List V) (H : Hp) (R : It → Hp → Prop) : Prop := ∃ j : Int, vs = [.int j] ∧ -(2 ^ 62) ≤ j ∧ j < 2 ^ 62 ∧ R (Itr 0 j.toNat) H
def GoR2 (vs : List V) (H : Hp) (R : It → Hp → Prop) : Prop := ∃ i j : Int, vs = [.int i, .int j] ∧ (-(2 ^ 62) ≤ i ∧ i < 2 ^ 62 ∧ -(2 ^ 62) ≤ j ∧ j < 2 ^ 62) ∧ R (Itr i (j - i).toNat) H
theorem wIR1 (h : ta σ H fun vs H1 => GoR1 vs H1 RI) : iRng1 ta σ H RI := h
theorem wIR2 (h : ta σ H fun vs H1 => GoR2 vs H1 RI) : iRng2 ta σ H RI := h
theorem wGoR1 {j : Int} (h1 : -(2 ^ 62) ≤ j) (h2 : j < 2 ^ 62) (h : RI (Itr 0 j.toNat) H) : GoR1 [.int j] H RI := ⟨j, rfl, h1, h2, h⟩
theorem wGoR2 {i j : Int} (h1 : -(2 ^ 62) ≤ i) (h2 : i < 2 ^ 62) (h3 : -(2 ^ 62) ≤ j) (h4 : j < 2 ^ 62) (h : RI (Itr i (j - i).toNat) H) : GoR2 [.int i, .int j] H RI := ⟨i, j, rfl, ⟨h1, h2, h3, h4⟩, h⟩
def GoZ (K : PySem.W.Frag) (vs : List V) (H : Hp) (R : It → Hp → Prop) : Prop := ∃ a b xs ys, vs = [.ref a, .ref b] ∧ ((SqL K H a xs ∧ SqL K H b ys ∧ R (Itz K a b) H) ∨ (SqT K H a xs ∧ SqT K H b ys ∧ R (ItzT K a b) H))
theorem wIZ (h : ta σ H fun vs H1 => GoZ K vs H1 RI) : iZipA K ta σ H RI := h
theorem wGoZL (s : SqL K H a xs) (s' : SqL K H b ys) (h : RI (Itz K a b) H) : GoZ K [.ref a, .ref b] H RI := ⟨a, b, xs, ys, rfl, .inl ⟨s, s', h⟩⟩
theorem wGoZT (s : SqT K H a xs) (s' : SqT K H b ys) (h : RI (ItzT K a b) H) : GoZ K [.ref a, .ref b] H RI := ⟨a, b, xs, ys, rfl, .inr ⟨s, s', h⟩⟩
theorem walk_zipT {n : Nat} (hn : n = min xs.length ys.length) : Walk (ItzT K a b) n (fun H => SqT K H a xs ∧ SqT K H b ys) (YPair (fun i => xs[i]?) (fun i => ys[i]?)) := by
  subst hn
  refine ⟨fun i _ hi q => ?_, fun _ q => ⟨xs, ys,
        q.1, q.2, by omega⟩, fun i H v H' _ q y => ?_⟩
  · have h1 : i <
        xs.length := by omega
    have h2 : i <
          ys.length := by omega
    exact ⟨xs, ys, xs[i], ys[i], q.1,
          q.2, by simp [h1], by simp [h2]⟩
  · obtain ⟨T, x, z, h1,
        h2, h3, h4, h5⟩ := y
    exact ⟨T, x, z, h1, h2,
          h3, h4 xs q.1, h5 ys q.2⟩
theorem wYes {QB : Bool → Hp → Prop} (h : QB true H) : tYes σ H QB := h
end
/-- a for over a walk -/
theorem wForW {J : It} {n : Nat} {G : Hp → Prop} {Y : Nat → Hp → V → Hp → Prop} (w : Walk J n G Y) {g : TG} {tb : TS} {nx : St → Hp → Prop} {rt : VK} {σ : St} {H : Hp} (Pv : Nat → St → Hp → Prop) (h0 : Pv 0 σ H) (hG : ∀ i σ H, i ≤ n → Pv i σ H → G H)
    (hs : ∀ i x σ H H', i < n → Pv i σ H → Y i H x H' → g x σ H' fun σ2 H2 => tb ⟨Pv (i + 1), rt, nx, Pv (i + 1)⟩ σ2 H2) (hd : ∀ σ H, Pv n σ H → nx σ H) :
    ∃ W : Nat → Nat → St → Hp → Prop, (∃
          m, W 0 m σ H) ∧ ∀ i m σ H, W i m σ H →
      (J.stop i H ∧ nx σ H) ∨ (J.go i H ∧ ∃ N : St → Hp → Prop, (∀ σ' H', N σ' H' → ∃ m', m' < m ∧ W (i + 1) m' σ' H') ∧ ∀ x H', J.yld i H x H' → g x σ H' fun σ2 H2 => tb ⟨N, rt, nx, N⟩ σ2 H2) :=
  for_it (D := ⟨nx, rt, fun _ _ => False, fun _ _ => False⟩) w Pv h0 hG hs hd
/-- a tuple's items to names -/
theorem wGTup {K : PySem.W.Frag} {n : Nat} {t : TGs} {a : Addr} {xs : List V} {σ : St} {H : Hp} {N : St → Hp → Prop} (s : SqT K H a xs) (e : xs.length = n) (h : t xs σ H N) : gTup K n t (.ref a) σ H N := ⟨a, xs, rfl, s, e, h⟩
theorem wGCons {t : TG} {u : TGs} {v : V} {r : List V} {σ : St} {H : Hp} {N : St → Hp → Prop} (h : t v σ H fun σ' H' => u r σ' H' N) : gCons t u (v :: r) σ H N := ⟨v, r, rfl, h⟩
theorem wGNil {σ : St} {H : Hp} {N : St → Hp → Prop} (h : N σ H) : gNil [] σ H N := ⟨rfl, h⟩
/-! slices -/
section
variable {K : PySem.W.Frag} {H : Hp} {L : List En} {a : Addr} {xs : List V} {Q : VK} {σ : St} {r : V → Option Int → Option Int → Hp → VK → Prop} {te : TE} {tl th : TO} {lo hi : Option Int} {i : Int}
theorem wSl (h : te σ H fun x H1 => tl σ H1 fun l H2 => th σ H2 fun u H3 => r x l u H3 Q) : tSl r te tl th σ H Q := h
theorem wNoPart {QO : Option Int → Hp → Prop} (h : QO none H) : tNoPart σ H QO := h
def PartV (x : V) (H : Hp) (QO : Option Int → Hp → Prop) : Prop := ∃ i, x = .int i ∧ QO (some i) H
theorem wPart {QO : Option Int → Hp → Prop} {t : TE} (h : t σ H fun x H1 => PartV x H1 QO) : tPart t σ H QO := h
theorem wPartV {QO : Option Int → Hp → Prop} (h : QO (some i) H) : PartV (.int i) H QO := ⟨i, rfl, h⟩
theorem wSlL (s : SqL K H a xs) (F : Fx H L) (k : ∀ p H', Fx H' (.ob p (.lst (cutV xs lo hi)) :: L) → Q (.ref p) H') : rOrS (rSlL K) (rSlT K) (.ref a) lo hi H Q := .inl ⟨a, xs, rfl, s, wNewF F k⟩
theorem wSlT (s : SqT K H a xs) (n : ¬ (HT.sIx xs.length 0 lo = 0 ∧ HT.sIx xs.length xs.length hi = xs.length)) (F : Fx H L) (k : ∀ p H', Fx H' (.ob p (.tup (cutV xs lo hi)) :: L) → Q (.ref p) H') : rOrS (rSlL K) (rSlT K) (.ref a) lo hi H Q := .inr ⟨a, xs, rfl, s, n, wNewF F k⟩
theorem cut_tail : cutV xs (some 1) none = xs.tail := by
  unfold cutV HT.sIx
  cases xs with
  | nil => rfl
  | cons x r =>
    simp only [List.length_cons]
    have e : (min (1 : Int).toNat (r.length + 1)) = 1 := by
      have : (1 : Int).toNat = 1 := rfl
      omega
    simp
end

/-! a list or a tuple, walked -/
section
variable {X : Cx} {tg : Expr}
def GoS (K : PySem.W.Frag) (x : V) (H : Hp) (R : It → Hp → Prop) : Prop := GoL K x H R ∨ GoT K x H R
def iSeq (K : PySem.W.Frag) (tl : TE) : TI := fun σ H R => tl σ H fun x H1 => GoS K x H1 R
theorem pi_seq {l : Expr} {tl : TE} (hl : PE X l tl) : PI X tg l (iSeq X.K tl) := by
  refine ⟨fun pins
        s σ H R I h => ?_⟩
  refine thn (hl.run pins s σ H _ I h)
        fun v s1 ⟨x, H1, I1, r1, q1⟩ => ?_
  rcases q1 with q1 | q1
  · obtain ⟨a, e, ⟨xs, hq⟩, q⟩ := q1
    subst e
    cases r1
    obtain ⟨its, rv, p,
          hz⟩ := I1.list hq
    refine wpAny_pyIter_list
          p.isList ?_
    refine ⟨s1.heap.objs.size, [s1.heap.objs.size], _, _, H1, rfl, I1.kept (t' := s1.toks) fun b o e =>
          Heap.get?_push_of_some _ e, turn_list a _, ⟨_, Heap.get?_push_size _ rfl, rfl, rfl⟩, fun b hb => ?_, q⟩
    have e : b = s1.heap.objs.size
          := by simpa using hb
    subst e
    exact I1.fpOk (Nat.le_refl _)
          (I1.hok.fresh (Nat.le_refl _))
  · obtain ⟨a, e, ⟨xs, hq⟩, q⟩ := q1
    subst e
    cases r1
    obtain ⟨its, rv, p,
          hz⟩ := I1.tuple hq
    refine wpAny_pyIter_tuple (show
          s1.heap.IsTuple a its.toArray from p) ?_
    refine ⟨s1.heap.objs.size, [s1.heap.objs.size], _, _, H1, rfl, I1.kept (t' := s1.toks) fun b o e =>
          Heap.get?_push_of_some _ e, turn_tuple a _, ⟨_, Heap.get?_push_size _ rfl, rfl, rfl⟩, fun b hb => ?_, q⟩
    have e : b = s1.heap.objs.size
          := by simpa using hb
    subst e
    exact I1.fpOk (Nat.le_refl _)
          (I1.hok.fresh (Nat.le_refl _))
end
section
variable {K : PySem.W.Frag} {H : Hp} {L : List En} {a : Addr} {xs : List V} {RI : It → Hp → Prop} {σ : St} {te : TE}
theorem wIS (h : te σ H fun x H1 => GoS K x H1 RI) : iSeq K te σ H RI := h
theorem wGoSL (s : SqL K H a xs) (h : RI (Itl K a) H) : GoS K (.ref a) H RI := .inl (wGoL s h)
theorem wGoST (s : SqT K H a xs) (h : RI (Itt K a) H) : GoS K (.ref a) H RI := .inr (wGoT s h)
end
end Z
namespace Z
open PySem L2 RZ
theorem SeqIs.mono {L L' : List En} {a : V} {o : Option (List V)} (s : SeqIs L a o) (h : ∀ e ∈ L, e ∈ L') : SeqIs L' a o := by
  cases s with
  | non => exact .non
  | bl b => exact .bl b
  | int i => exact .int i
  | str z => exact .str z
  | lst m => exact .lst (h _ m)
  | tup m => exact .tup (h _ m)
  | dct m => exact .dct (h _ m)
end Z

set_option Elab.async false
set_option linter.all false
set_option maxRecDepth 100000
set_option maxHeartbeats 2000500
namespace Z
open PySem L2 RZ
theorem wAll {K : PySem.W.Frag} {H : Hp} {a : Addr} {bs : List Bool} {Q : VK} (s : SqL K H a (bs.map V.bl)) (h : Q (.bl (bs.all id)) H) : rAll K [.ref a] H Q := ⟨a, bs, rfl, s, h⟩
theorem wSum {K : PySem.W.Frag} {H : Hp} {a : Addr} {ns : List Int} {Q : VK} (s : SqL K H a (ns.map V.int)) (h : Q (.int ns.sum) H) : rSum K [.ref a] H Q := ⟨a, ns, rfl, s, h⟩
theorem wSorted {K : PySem.W.Frag} {H : Hp} {L : List En} {a : Addr} {ns : List Int} {Q : VK} (s : SqL K H a (ns.map V.int)) (n : ns.length < 64) (F : Fx H L) (k : ∀ (ms : List Int) p H', ms.Perm ns → ms.Pairwise (· ≤ ·) → Fx H' (.ob p (.lst (ms.map V.int)) :: L) → Q (.ref p) H') : rSorted K [.ref a] H Q :=
  ⟨a, ns, rfl, s, n, fun ms p q r hp => k ms p _ q r (F.new hp)⟩
/-- neighbours ascend -/
def asc : List Int → Bool
  | a :: b :: r => decide (a < b) && asc (b :: r)
  | _ => true
theorem asc_pw : ∀ {l : List Int}, asc l = true ↔ l.Pairwise (· < ·)
  | [] => by simp [asc]
  | [a] => by simp [asc]
  | a :: b :: r => by
    have ih := asc_pw (l := b :: r)
    have e : asc (a :: b :: r) = (decide (a < b) && asc (b :: r)) := by rw [asc]
    rw [e, Bool.and_eq_true, ih, decide_eq_true_iff]
    constructor
    · intro hp
      obtain ⟨h, p⟩ := hp
      refine List.pairwise_cons.mpr ⟨fun x hx => ?_, p⟩
      rcases List.mem_cons.mp hx with e1 | hx
      · rw [e1]; exact h
      · exact Int.lt_trans h ((List.pairwise_cons.mp p).1 x hx)
    · intro hp
      obtain ⟨h, p⟩ := List.pairwise_cons.mp hp
      exact ⟨h b List.mem_cons_self, p⟩
theorem asc_zip : ∀ {l : List Int}, ((l.zip l.tail).all fun p => decide (p.1 < p.2)) = asc l
  | [] => rfl
  | [a] => rfl
  | a :: b :: r => by
    have ih := asc_zip (l := b :: r)
    have e : asc (a :: b :: r) = (decide (a < b) && asc (b :: r)) := by rw [asc]
    rw [e, ← ih]
    rfl
theorem ints_of {xs : List V} {lo hi : V} (h : xs.all (fun x => inB x lo hi) = true) : ∃ ns : List Int, xs = ns.map V.int := by
  induction xs with
  | nil => exact ⟨[], rfl⟩
  | cons x r ih =>
    rw [List.all_cons,
          Bool.and_eq_true] at h
    obtain ⟨ns, e⟩ := ih h.2
    cases x with
    | int i => exact ⟨i :: ns, by rw [e]; rfl⟩
    | _ => exact absurd h.1 (by simp [inB])
theorem take_succ_map {α β : Type} {f : α → β} {l : List α} {i : Nat} {x : α} (h : l[i]? = some x) : (l.take (i + 1)).map f = (l.take i).map f ++ [f x] := by
  rw [List.take_add_one, h, List.map_append]
  rfl

section
variable {K : PySem.W.Frag} {H : Hp} {L : List En} {a b : V} {xs ys : List V} {Q : VK} {g : TG} {tt : TT} {te : TE} {vs : List Nat} {σ : St}
theorem wLcS {QD : Addr → Hp → Prop} (hq : SeqIs L a (some xs)) (F : Fx H L) (R : Nat → List V → List En → Prop) (h0 : R 0 [] L) (keep : ∀ i acc L', R i acc L' → ∀ e ∈ L, e ∈ L')
    (hs : ∀ i x D H' acc L', xs[i]? = some x → R i acc L' → Fx H' (.ob D (.lst acc) :: L') → g x (wipe σ vs) H' fun σ2 H2 => wipe σ2 vs = wipe σ vs ∧ tt σ2 H2 fun b H3 =>
      if b = true then te σ2 H3 fun y H4 => LcPut D R i y H4 else LcP D R (i + 1) H3)
    (hd : ∀ D acc L' H', Fx H' (.ob D (.lst acc) :: L') → R xs.length acc L' → QD D H') :
    GoS K a H fun J H1 => ∀ D, H1 D = none → ∃ W : Nat → Nat → Hp → Prop, (∃ m, W 0 m (upd H1 D (.lst []))) ∧ ∀ i m H, W i m H →
  (J.stop i H ∧ QD D H) ∨ (J.go i H ∧ ∃ Nx : Hp → Prop, (∀ H', Nx H' → ∃ m', m' < m ∧ W (i + 1) m' H') ∧ ∀ x H', J.yld i H x H' → g x (wipe σ vs) H' fun σ2 H2 => wipe σ2 vs = wipe σ vs ∧ tt σ2 H2 fun b H3 =>
    if b = true then te σ2 H3 fun y H4 => ∃ acc, H4 D = some (.lst acc) ∧
          acc.length < sizeLine ∧ Nx (upd H4 D (.lst (acc ++ [y]))) else Nx H3) := by
  cases hq with
  | lst m =>
    refine wGoSL (F.lst m) (wLcW (walk_list (K := K) (xs := xs)) F R h0 (fun i acc L' D H' r F' => F'.lst (List.mem_cons_of_mem _ (keep _ _ _ r _ m))) ?_ hd)
    rintro i x D H' H'' acc L' _ r F' ⟨rfl, e⟩
    exact hs i x D H'' acc L' e r F'
  | tup m =>
    refine wGoST (F.tup m) (wLcW (walk_tup (K := K) (xs := xs)) F R h0 (fun i acc L' D H' r F' => F'.tup (List.mem_cons_of_mem _ (keep _ _ _ r _ m))) ?_ hd)
    rintro i x D H' H'' acc L' _ r F' ⟨rfl, e⟩
    exact hs i x D H'' acc L' e r F'
/-- zip of two lists, or of two tuples -/
inductive Seq2 (L : List En) : V → V → List V → List V → Prop where
  | lst {a b : Addr} {xs ys : List V} (m : En.ob a (.lst xs) ∈ L) (m' : En.ob b (.lst ys) ∈ L) : Seq2 L (.ref a) (.ref b) xs ys
  | tup {a b : Addr} {xs ys : List V} (m : En.ob a (.tup xs) ∈ L) (m' : En.ob b (.tup ys) ∈ L) : Seq2 L (.ref a) (.ref b) xs ys
theorem wLcZ {QD : Addr → Hp → Prop} (hq : Seq2 L a b xs ys) (F : Fx H L) (R : Nat → List V → List En → Prop) (h0 : R 0 [] L) (keep : ∀ i acc L', R i acc L' → ∀ e ∈ L, e ∈ L')
    (hs : ∀ i x y T D H' acc L', xs[i]? = some x → ys[i]? = some y → R i acc L' → Fx H' (.ob T (.tup [x, y]) :: .ob D (.lst acc) :: L') → g (.ref T) (wipe σ vs) H' fun σ2 H2 => wipe σ2 vs = wipe σ vs ∧ tt σ2 H2 fun b H3 =>
      if b = true then te σ2 H3 fun y H4 => LcPut D R i y H4 else LcP D R (i + 1) H3)
    (hd : ∀ D acc L' H', Fx H' (.ob D (.lst acc) :: L') → R (min xs.length ys.length) acc L' → QD D H') :
    GoZ K [a, b] H fun J H1 => ∀ D, H1 D = none → ∃ W : Nat → Nat → Hp → Prop, (∃ m, W 0 m (upd H1 D (.lst []))) ∧ ∀ i m H, W i m H →
  (J.stop i H ∧ QD D H) ∨ (J.go i H ∧ ∃ Nx : Hp → Prop, (∀ H', Nx H' → ∃ m', m' < m ∧ W (i + 1) m' H') ∧ ∀ x H', J.yld i H x H' → g x (wipe σ vs) H' fun σ2 H2 => wipe σ2 vs = wipe σ vs ∧ tt σ2 H2 fun b H3 =>
    if b = true then te σ2 H3 fun y H4 => ∃ acc, H4 D = some (.lst acc) ∧
          acc.length < sizeLine ∧ Nx (upd H4 D (.lst (acc ++ [y]))) else Nx H3) := by
  cases hq with
  | lst m m' =>
    refine wGoZL (F.lst m) (F.lst m') (wLcW (walk_zip (K := K) (xs := xs) (ys := ys) rfl) F R h0 (fun i acc L' D H' r F' => ⟨F'.lst (List.mem_cons_of_mem _ (keep _ _ _ r _ m)), F'.lst (List.mem_cons_of_mem _ (keep _ _ _ r _ m'))⟩) ?_ hd)
    rintro i v D H' H'' acc L' _ r F' ⟨T, x, y, rfl, hT, rfl, e1, e2⟩
    exact hs i x y T D _ acc L' e1 e2 r (F'.new hT)
  | tup m m' =>
    refine wGoZT (F.tup m) (F.tup m') (wLcW (walk_zipT (K := K) (xs := xs) (ys := ys) rfl) F R h0 (fun i acc L' D H' r F' => ⟨F'.tup (List.mem_cons_of_mem _ (keep _ _ _ r _ m)), F'.tup (List.mem_cons_of_mem _ (keep _ _ _ r _ m'))⟩) ?_ hd)
    rintro i v D H' H'' acc L' _ r F' ⟨T, x, y, rfl, hT, rfl, e1, e2⟩
    exact hs i x y T D _ acc L' e1 e2 r (F'.new hT)
/-- a for over a list or a tuple -/
theorem wForS {tb : TS} {nx : St → Hp → Prop} {rt : VK} (hq : SeqIs L a (some xs)) (F : Fx H L) (Pv : Nat → St → Hp → Prop) (h0 : Pv 0 σ H) (keep : ∀ i σ H', Pv i σ H' → ∃ L', Fx H' L' ∧ ∀ p o, En.ob p o ∈ L → En.ob p o ∈ L')
    (hs : ∀ i x σ H', xs[i]? = some x → Pv i σ H' → g x σ H' fun σ2 H2 => tb ⟨Pv (i + 1), rt, nx, Pv (i + 1)⟩ σ2 H2) (hd : ∀ σ H', Pv xs.length σ H' → nx σ H') :
    GoS K a H fun J H1 => ∃ W : Nat → Nat → St → Hp → Prop, (∃ m, W 0 m σ H1) ∧ ∀ i m σ H, W i m σ H →
      (J.stop i H ∧ nx σ H) ∨ (J.go i H ∧ ∃ N : St → Hp → Prop, (∀ σ' H', N σ' H' → ∃ m', m' < m ∧ W (i + 1) m' σ' H') ∧ ∀ x H', J.yld i H x H' → g x σ H' fun σ2 H2 => tb ⟨N, rt, nx, N⟩ σ2 H2) := by
  cases hq with
  | lst m =>
    refine wGoSL (F.lst m) (wForW (walk_list (K := K) (xs := xs)) Pv h0 (fun i σ H' _ p => ?_) ?_ hd)
    · obtain ⟨L', F', k⟩ := keep i σ H' p
      exact F'.lst (k _ _ m)
    · rintro i x σ H' H'' _ p ⟨rfl, e⟩
      exact hs i x σ H'' e p
  | tup m =>
    refine wGoST (F.tup m) (wForW (walk_tup (K := K) (xs := xs)) Pv h0 (fun i σ H' _ p => ?_) ?_ hd)
    · obtain ⟨L', F', k⟩ := keep i σ H' p
      exact F'.tup (k _ _ m)
    · rintro i x σ H' H'' _ p ⟨rfl, e⟩
      exact hs i x σ H'' e p
/-- the tail of a list or of a tuple that is not empty -/
theorem wSlS (hq : SeqIs L a (some xs)) (n : xs ≠ []) (F : Fx H L) (k : ∀ p H' e, Fx H' (e :: L) → Seq2 (e :: L) a (.ref p) xs xs.tail → Q (.ref p) H') : rOrS (rSlL K) (rSlT K) a (some 1) none H Q := by
  cases hq with
  | lst m => exact wSlL (F.lst m) F fun p H' F' => k p H' _ F' (.lst (List.mem_cons_of_mem _ m) (by rw [cut_tail]; exact List.mem_cons_self))
  | tup m =>
    refine wSlT (F.tup m) (fun h => ?_) F fun p H' F' => k p H' _ F' (.tup (List.mem_cons_of_mem _ m) (by rw [cut_tail]; exact List.mem_cons_self))
    have e := h.1
    cases xs with
    | nil => exact n rfl
    | cons x r => simp [HT.sIx] at e
end

/-! list(range(a, b)) -/
def rgI (a b : Int) : List Int := (List.range (b - a).toNat).map fun i => a + (i : Nat)
theorem rgV_ints (a b : Int) : rgV a b = (rgI a b).map V.int := by
  unfold rgV rgI
  rw [List.map_map]
  rfl
theorem rgI_len (a b : Int) : (rgI a b).length = (b - a).toNat := by unfold rgI; rw [List.length_map, List.length_range]
theorem rgI_mem {a b n : Int} (h : n ∈ rgI a b) : a ≤ n ∧ n < b := by
  unfold rgI at h
  obtain ⟨i, hi, rfl⟩
        := List.mem_map.mp h
  have := List.mem_range.mp hi
  omega
theorem rgI_nodup (a b : Int) : (rgI a b).Nodup := by
  unfold rgI
  refine List.Pairwise.map _ (fun x y h => ?_) List.nodup_range
  intro e
  exact h (by omega)
section
variable {H : Hp} {L : List En} {Q : VK} {σ : St} {ta tb : TE} {i j : Int}
def RgV (x y : V) (H : Hp) (Q : VK) : Prop := ∃ i j, x = .int i ∧ y = .int j ∧ RgOk i j ∧ ∀ q, H q = none → Q (.ref q) (upd H q (.lst (rgV i j)))
theorem wListRg2 (h : ta σ H fun x H1 => tb σ H1 fun y H2 => RgV x y H2 Q) : tLstRg (tRg2 ta tb) σ H Q := h
theorem wListRg1 (h : ta σ H fun x H1 => RgV (.int 0) x H1 Q) (mono : ∀ (P P' : V → Hp → Prop) , (∀ x H, P x H → P' x H) → ta σ H P → ta σ H P') : tLstRg (tRg1 ta) σ H Q := by
  refine mono _ _ (fun x H1 z => ?_) h
  obtain ⟨i, j, e1, e2, r, q⟩ := z
  cases e1
  exact ⟨j, e2, r, q⟩
theorem wRgV (ok : RgOk i j) (F : Fx H L) (k : ∀ p H', Fx H' (.ob p (.lst ((rgI i j).map V.int)) :: L) → Q (.ref p) H') : RgV (.int i) (.int j) H Q := ⟨i, j, rfl, rfl, ok, by rw [rgV_ints]; exact wNewF F k⟩
end
theorem pw_lt {l : List Int} (h : l.Pairwise (· ≤ ·)) (n : l.Nodup) : l.Pairwise (· < ·) := by
  have q : l.Pairwise (fun a b => a ≤ b ∧ a ≠ b) := h.and n
  exact q.imp fun ⟨a, b⟩ => by omega
theorem erase_perm {α : Type} : ∀ {l : List α} {k : Nat} {x : α}, l[k]? = some x → (x :: l.eraseIdx k).Perm l
  | [], k, x, h => by simp at h
  | a :: r, 0, x, h => by
    have e : a = x :=
          Option.some.inj h
    subst e
    exact List.Perm.refl _
  | a :: r, k + 1, x, h => by
    have ih := erase_perm (l := r) (k := k) (x := x) h
    exact (List.Perm.swap a x _).trans (ih.cons a)
theorem seqIx {v : Int} {n : Nat} (h0 : 0 ≤ v) (h1 : v < n) : seqIndex? v n = some v.toNat := by
  unfold seqIndex?
  simp [h0, h1]
  try omega
theorem map_get {ns : List Int} {k : Nat} (h : k < ns.length) : (ns.map V.int)[k]? = some (V.int (ns.getD k 0)) := by
  rw [List.getElem?_map, List.getElem?_eq_getElem h,
        List.getD_eq_getElem?_getD, List.getElem?_eq_getElem h]
  rfl
theorem get_getD {ns : List Int} {k : Nat} (h : k < ns.length) : ns[k]? = some (ns.getD k 0) := by
  rw [List.getElem?_eq_getElem h,
        List.getD_eq_getElem?_getD, List.getElem?_eq_getElem h]
  rfl
theorem map_erase : ∀ {ns : List Int} {k : Nat}, (ns.map V.int).eraseIdx k = (ns.eraseIdx k).map V.int
  | [], _ => rfl
  | _ :: _, 0 => rfl
  | a :: r, k + 1 => by
    have ih := map_erase (ns := r) (k := k)
    show V.int a :: (r.map V.int).eraseIdx k = V.int a :: (r.eraseIdx k).map V.int
    rw [ih]
end Z

set_option Elab.async false
set_option linter.all false
set_option maxRecDepth 100000
set_option maxHeartbeats 2000500
namespace Z
open PySem L2 RZ
/-! ### data of whole numbers, compared -/
def iD (ns : List Int) : List PyData := ns.map PyData.int
theorem dpAll_ints {K : PySem.W.Frag} {H : Hp} : ∀ ns : List Int, DpAll K H (ns.map V.int) (iD ns)
  | [] => .nil
  | n :: r => .cons (.int n) (dpAll_ints r)
theorem eqvAll_ints : ∀ ns ms : List Int, PyData.eqvAll (iD ns) (iD ms) = decide (ns = ms)
  | [], [] => rfl
  | [], _ :: _ => rfl
  | _ :: _, [] => rfl
  | n :: r, m :: q => by
    show (PyData.eqv (.int n) (.int m) && PyData.eqvAll (iD r) (iD q)) = decide (n :: r = m :: q)
    rw [eqvAll_ints r q]
    show ((n == m) && decide (r = q)) = decide (n :: r = m :: q)
    by_cases h : n = m
    · subst h
      by_cases h' : r = q
      · subst h'; simp
      · simp [h']
    · simp [h]
theorem canLay_ints : ∀ ns : List Int, PyData.canLayAll0 (iD ns) = true
  | [] => rfl
  | n :: r => by
    show (PyData.canLay0 (.int n) && PyData.canLayAll0 (iD r)) = true
    rw [canLay_ints r]
    rfl
theorem depth_ints : ∀ ns : List Int, PyData.depthAll (iD ns) = 0
  | [] => rfl
  | n :: r => by
    show max (PyData.depth (.int n)) (PyData.depthAll (iD r)) = 0
    rw [depth_ints r]
    rfl
theorem shaped_tup (ns : List Int) : SeqAt.shaped (.tuple (iD ns)) = true := by
  unfold SeqAt.shaped
  rw [Bool.and_eq_true]
  refine ⟨canLay_ints ns, decide_eq_true ?_⟩
  show PyData.depthAll (iD ns) + 1 ≤ 64
  rw [depth_ints]
  decide
theorem shaped_lst (ns : List Int) : SeqAt.shaped (.list (iD ns)) = true := shaped_tup ns
section
variable {K : PySem.W.Frag} {H : Hp} {Q : VK} {a b : Addr} {ns ms : List Int} {x y : V} {r : R2}
theorem wEqTT (s : SqT K H a (ns.map V.int)) (t : SqT K H b (ms.map V.int)) (h : Q (.bl (decide (ns = ms))) H) : rOr rEq (rEqD K) (.ref a) (.ref b) H Q :=
  .inr ⟨_, _, .tup s (dpAll_ints ns), .tup t (dpAll_ints ms), shaped_tup ns, shaped_tup ms, by
    have e : PyData.eqv (.tuple (iD ns)) (.tuple (iD ms)) = decide (ns = ms) := eqvAll_ints ns ms
    rw [e]; exact h⟩
theorem wEqLL (s : SqL K H a (ns.map V.int)) (t : SqL K H b (ms.map V.int)) (h : Q (.bl (decide (ns = ms))) H) : rOr rEq (rEqD K) (.ref a) (.ref b) H Q :=
  .inr ⟨_, _, .lst s (dpAll_ints ns), .lst t (dpAll_ints ms), shaped_lst ns, shaped_lst ms, by
    have e : PyData.eqv (.list (iD ns)) (.list (iD ms)) = decide (ns = ms) := eqvAll_ints ns ms
    rw [e]; exact h⟩
theorem wNeTT (s : SqT K H a (ns.map V.int)) (t : SqT K H b (ms.map V.int)) (h : Q (.bl (!decide (ns = ms))) H) : rOr rNe (rNeD K) (.ref a) (.ref b) H Q :=
  .inr ⟨_, _, .tup s (dpAll_ints ns), .tup t (dpAll_ints ms), shaped_tup ns, shaped_tup ms, by
    have e : PyData.eqv (.tuple (iD ns)) (.tuple (iD ms)) = decide (ns = ms) := eqvAll_ints ns ms
    rw [e]; exact h⟩
theorem wNeLL (s : SqL K H a (ns.map V.int)) (t : SqL K H b (ms.map V.int)) (h : Q (.bl (!decide (ns = ms))) H) : rOr rNe (rNeD K) (.ref a) (.ref b) H Q :=
  .inr ⟨_, _, .lst s (dpAll_ints ns), .lst t (dpAll_ints ms), shaped_lst ns, shaped_lst ms, by
    have e : PyData.eqv (.list (iD ns)) (.list (iD ms)) = decide (ns = ms) := eqvAll_ints ns ms
    rw [e]; exact h⟩
/-- two texts, one of them known -/
theorem wNeStr {z z' : Str} (h : Q (.bl (!decide (z = z'))) H) : rOr rNe (rNeD K) (.str z) (.str z') H Q := .inl ⟨rfl, by
  have e : decide (V.str z = V.str z') = decide (z = z') := by
    by_cases q : z = z'
    · rw [q, decide_eq_true rfl, decide_eq_true rfl]
    · rw [decide_eq_false q, decide_eq_false (fun z => q (by injection z))]
  rw [e]; exact h⟩
theorem wEqStr {z z' : Str} (h : Q (.bl (decide (z = z'))) H) : rOr rEq (rEqD K) (.str z) (.str z') H Q := .inl ⟨rfl, by
  have e : decide (V.str z = V.str z') = decide (z = z') := by
    by_cases q : z = z'
    · rw [q, decide_eq_true rfl, decide_eq_true rfl]
    · rw [decide_eq_false q, decide_eq_false (fun z => q (by injection z))]
  rw [e]; exact h⟩
theorem wProp {C : Addr} {sp : Sp} {E : XK} {te : TE} {σ : St} (h : te σ H fun x H1 => ∃ a dx fs, x = .ref a ∧ H1 a = some (.ins C dx fs) ∧ sp [.ref a] H1 Q E) : tProp C sp [] E te σ H Q := h
theorem wSqTof {L : List En} (F : Fx H L) {xs : List V} (m : En.ob a (.tup xs) ∈ L) : SqT K H a xs := F.tup m
end
end Z
namespace Z
open PySem L2 RZ
theorem at_last {ns : List Int} (h : 0 < ns.length) : atI (ns.map V.int) (-1) = some (V.int (ns.getD (ns.length - 1) 0)) := by
  unfold atI ixN
  rw [if_neg (by decide), if_pos (by rw [List.length_map]; omega)]
  have e : ((-1 : Int) + (ns.map V.int).length).toNat = ns.length - 1 := by rw [List.length_map]; omega
  rw [e]
  exact map_get (by omega)
end Z
namespace Z
open PySem L2 RZ
theorem wXf {a : Addr} {cls : Value} {d : Option Addr} {C : Addr} {f : Str} {te : TE} {σ : St} {H : Hp} {Q : VK} (h : te σ H fun x H1 => x = .ref a ∧ cls = .ref C ∧ ∃ (dd : Addr) (fs : List (Str × V)) (v : V), d = some dd ∧ H1 dd = some (.xd fs) ∧ fs.lookup f = some v ∧ Q v H1) : tXf a cls d C f te σ H Q := h
theorem wAs_yes {K : PySem.W.Frag} {c : Value} {i : Nat} {ts : Addr → Value → Option Addr → TS} {Wout : WX} {nx bk ct : St → Hp → Prop} {rt : VK} {d : Option Addr} {σ : St} {H : Hp} (e : PySem.W.exmOne K c c = some true)
    (h : ∀ a, H a = none → ts a c d ⟨fun σ' H' => nx (σ'.set i none) H', rt, fun σ' H' => bk (σ'.set i none) H', fun σ' H' => ct (σ'.set i none) H'⟩ (σ.set i (some (.ref a))) H) : WE (wAs K c i ts Wout ⟨nx, rt, bk, ct⟩) σ c d H :=
  ⟨true, e, fun _ a ha => h a ha, fun q => Bool.noConfusion q⟩
end Z

set_option Elab.async false
set_option linter.all false
set_option maxRecDepth 100000
set_option maxHeartbeats 2000500
namespace Z
open PySem L2 RZ PySem.Spec PyProof.Rows
/-! ### a try whose clauses have a name or none, mixed -/
/-- a clause: the class, the slot of its name if it has one, the suite -/
structure Cl where
  c : Value
  i : Option Nat
  ts : Addr → Value → Option Addr → TS
/-- behind a suite the name is gone -/
def gone (D : Ends) : Option Nat → Ends
  | none => D
  | some i => ⟨fun σ H => D.nx (σ.set i none) H, D.rt, fun σ H => D.bk (σ.set i none) H, fun σ H => D.ct (σ.set i none) H⟩
def held (a : Addr) (σ : L2.St) : Option Nat → L2.St
  | none => σ
  | some i => σ.set i (some (.ref a))
def wMix (K : PySem.W.Frag) (Wout : WX) (D : Ends) : List Cl → WX
  | [] => Wout
  | k :: r => fun cls d σ H => ∃ b, PySem.W.exmOne K cls k.c = some b ∧
    (b = true → ∀ a, H a = none → k.ts a cls d (gone D k.i) (held a σ k.i) H) ∧
    (b = false → wMix K Wout D r cls d σ H)
inductive ClsOk (X : Cx) : List ExceptHandler → List Cl → Prop
  | nil : ClsOk X [] []
  | bare {x : Str} {c : Value} {ts : Addr → Value → Option Addr → TS} {b₀ : Stmt} {su : List Stmt} {np ps : Pos} {hs : List ExceptHandler} {l : List Cl}
      (hc : Names X x c) (hsu : ∀ (a : Addr) (oe : Obj) (cls : Value) (d : Option Addr) (pn : List (Addr × Obj)), Zc cls d oe →
        (∃ vs, oe.data = .fields vs) → PSs (X.suite a ((a, oe) :: pn)) (b₀ :: su) (ts a cls d)) (r : ClsOk X hs l) :
      ClsOk X (.ExceptHandler (some (.Name x np)) none (b₀ :: su) ps :: hs) (⟨c, none, ts⟩ :: l)
  | named {x n : Str} {i : Nat} {c : Value} {ts : Addr → Value → Option Addr → TS} {b₀ : Stmt} {su : List Stmt} {np ps : Pos} {hs : List ExceptHandler} {l : List Cl}
      (hN : X.N.Nodup) (hi : X.N[i]? = some n) (hln : X.env.kindOf n = some .local)
      (hc : Names X x c) (hsu : ∀ (a : Addr) (oe : Obj) (cls : Value) (d : Option Addr) (pn : List (Addr × Obj)), Zc cls d oe →
        (∃ vs, oe.data = .fields vs) → PSs (X.suite a ((a, oe) :: pn)) (b₀ :: su) (ts a cls d)) (r : ClsOk X hs l) :
      ClsOk X (.ExceptHandler (some (.Name x np)) (some n) (b₀ :: su) ps :: hs) (⟨c, some i, ts⟩ :: l)
section
variable {X : Cx} {body : List Stmt} {h₀ : ExceptHandler} {hds : List ExceptHandler} {l : List Cl} {pos : Pos} {tb : WX → TS} {Wout : WX}
theorem ps_try_mix (hs : X.stack = X.env :: X.outer) (hf : X.env.frame = some X.env.locals) (tk : Takes X Wout)
    (hb : ∀ (W : WX) (pn : List (Addr × Obj)) (xe : Value → Shared → Prop), Takes (X.tr pn xe) W →
      PassesOwn (model X.prog X.w) X.A X.env xe → PSs (X.tr pn xe) body (tb W))
    (hh : ClsOk X (h₀ :: hds) l) : PS X (.Try body (h₀ :: hds) [] [] pos) (fun D σ H => tb (wMix X.K Wout D l) D σ H) := by
  refine ⟨fun pins
        s σ H D I h => ?_⟩
  have ok := I.ok
  have frs0 : X.A.frames = some (X.env :: X.outer) := by rw [ok.frames, hs]
  have run := (hb (wMix X.K Wout D l) (X.pn ++ pins)
    (fun e s₁ => wpAny (model X.prog X.w) X.A (noteFrame e X.env) (fun _ s₂ => wpAny (model X.prog X.w) X.A (setFlight e none)
      (fun _ s₃ => wpAny (model X.prog X.w) X.A (handleBy e X.env (h₀ :: hds)) (SP X pins D) X.xe s₃) X.xe s₂) X.xe s₁)
    (fun u s' xx => ?caught) PassesOwn.looking).run [] s σ H D (I.toTry _) h
  · refine wpAny_Try_except (wpAny_mono run (fun f s1 done => ?_) fun e s1 z => z)
    cases f with
    | next =>
      obtain ⟨σ1, H1, J1, q1⟩ := done
      exact wpAny_execs_nil ⟨σ1, H1, J1.ofTry ok, q1⟩
    | brk => exact done.imp fun σ1 ⟨H1, J1, q1⟩ => ⟨H1, J1.ofTry ok, q1⟩
    | cont => exact done.imp fun σ1 ⟨H1, J1, q1⟩ => ⟨H1, J1.ofTry ok, q1⟩
    | ret u =>
      obtain ⟨v, σ1, H1, J1, r1, q1⟩ := done
      exact ⟨v, σ1, H1, J1.ofTry ok, r1, q1⟩
  obtain ⟨a, B, sI, pins', σ', H', cls, d, rfl, J', nb, up, sky, na, os, ag, wish⟩ := xx
  have J : Inv X pins σ'
        H' sI := J'.ofTry ok
  have sky1 : Sky B (X.env :: X.outer) a (Zc cls d) X.env.locals s'.heap := by rw [← hs]; exact sky
  show wpAny (model X.prog X.w) X.A
        (noteFrame (.ref a) X.env) _ _ _
  refine Sky.land Zc.steady frs0 hf sky1 fun h3 fl3 up3 => ?_
  have up13 := up.trans up3
  have J3 : Inv X pins σ' H' { s' with heap := h3 } := J.landed nb fl3.1 up13 os ag
  obtain ⟨oe3, vs3, he3,
        hz3, hd3⟩ := fl3.there
  have away : a ∉ frs (X.env :: X.outer) := fun hm => by
    obtain ⟨_, o', e', q⟩ := fl3.2.2.1.mem hm
    rw [he3] at e'
    cases e'
    exact q _ hd3
  have nL : a ≠ X.env.locals := fun z => away (List.mem_filterMap.mpr ⟨X.env, List.mem_cons_self, by rw [hf, z]⟩)
  have nF : a ∉ X.fs
        := fun hm => by
    obtain ⟨e, he, q⟩ :=
          List.mem_filterMap.mp hm
    exact away (List.mem_filterMap.mpr ⟨e, List.mem_cons_of_mem _ he, q⟩)
  have S3 := J3.suite
        he3 hd3 na nL nF
  have asks : ∀ {x : Str} {c : Value} {np : Pos} {Q E : Value → Shared → Prop}, Names X x c → Q c { s' with heap := h3 } →
      wpAny (model X.prog X.w) (X.A.mark (some (.ref a))) (eval (.Name x np) X.env) Q E { s' with heap := h3 } := fun {x c np Q E} hc q => by
    obtain ⟨hg, hdbg, hm
          | ⟨hm, hv, hnn⟩⟩ := hc
    · exact ld_glob (X := X.suite a ((a,
          oe3) :: (X.pn ++ pins))) S3 hg hm q hdbg
    · exact ld_blt (X := X.suite a ((a, oe3)
          :: (X.pn ++ pins))) S3 hg hm hv q hnn hdbg
  have LT : PySem.W.Looks (model X.prog X.w) h3 (typeOf (.ref a)) cls :=
    fun A Q E s k q => wpAny_typeOf_ref (k _ _ he3) (by rw [hz3.1]; exact q)
  have each : ∀ {hs' : List ExceptHandler} {l' : List Cl}, ClsOk X hs' l' → wMix X.K Wout D l' cls d σ' H' →
      wpAny (model X.prog X.w) X.A (handleBy (.ref a) X.env hs') (SP X pins D) X.xe { s' with heap := h3 } := by
    intro hs' l' hk
    induction hk with
    | nil =>
      intro w
      refine wpAny_handleBy_nil ?_
      obtain ⟨k1, k2, k3, oe, vs, T, oT,
            ts', he, hz, hd, h1, hr⟩ := id fl3
      unfold PySem.passOn
      refine wpAny_bind
            (wpAny_field he hd h1 ?_)
      rw [if_neg (show ¬ ((Value.ref T ==
            Value.none) = true) from by simp)]
      have out : wpAny (model X.prog X.w) X.A (setFlight (.ref a) X.env.frame)
          (fun _ s4 => wpAny (model X.prog X.w) X.A (throw (.ref a) : Sem Flow) (SP X pins D) X.xe s4) X.xe { s' with heap := h3 } := by
        rw [hf]
        refine HandSPX.setFlight_upZ fl3 fun
              h4 hh4 up4 => wpAny_throw (tk _ _ ?_)
        exact ⟨a, B, sI, pins, σ', H', cls, d, rfl, J, nb, up13.trans up4, .inr (.inr (by rw [hs]; exact hh4)), na, os, ag, w⟩
      first
        | exact wpAny_bind (wpAny_pure (wpAny_bind out))
        | exact wpAny_bind out
    | @bare x c ts b₀ su np ps hs2 l2 hc hsu r ih =>
      intro w
      obtain ⟨b, hb1, yes, no⟩ := w
      refine wpAny_handleBy_cons
            (codeAny_handlers_test ?_) (by intro q; cases q)
      have LM := PySem.W.exm_one (M := model X.prog X.w) J3.kIn LT hb1
      refine asks hc (LM.here ?_)
      cases b with
      | false =>
        show wpAny _ X.A (handleBy (.ref a) X.env hs2) _ _ _
        exact ih (no rfl)
      | true =>
        refine codeAny_handlers_suite (HandSPX.lands_againZ fl3 fun h4 fl4 up4 => ?_)
        have J4 : Inv X pins σ' H' { s' with heap := h4 } := J.landed nb fl4.1 (up13.trans up4) os ag
        obtain ⟨oe4, vs4, he4,
              hz4, hd4⟩ := fl4.there
        have S4 := J4.suite
              he4 hd4 na nL nF
        refine wpAny_mono ((hsu a oe4 cls d (X.pn ++ pins) hz4 ⟨_, hd4⟩).run [] _ _ H' _ S4 (yes rfl a na)) (fun f s6 done => ?_) (fun _ _ z => False.elim z)
        cases f with
        | ret u =>
          obtain ⟨v6, σ6, H6, S6, r6, q6⟩ := done
          exact ⟨_, _, _,
                S6.unsuite ok, r6, q6⟩
        | next => exact done.imp fun σ6 ⟨H6, S6, q6⟩ => ⟨H6, S6.unsuite ok, q6⟩
        | brk => exact done.imp fun σ6 ⟨H6, S6, q6⟩ => ⟨H6, S6.unsuite ok, q6⟩
        | cont => exact done.imp fun σ6 ⟨H6, S6, q6⟩ => ⟨H6, S6.unsuite ok, q6⟩
    | @named x n i c ts b₀ su np ps hs2 l2 hN hi hln hc hsu r ih =>
      intro w
      obtain ⟨b, hb1, yes, no⟩ := w
      refine wpAny_handleBy_cons
            (codeAny_handlers_test ?_) (by intro q; cases q)
      have LM := PySem.W.exm_one (M := model X.prog X.w) J3.kIn LT hb1
      refine asks hc (LM.here ?_)
      cases b with
      | false =>
        show wpAny _ X.A (handleBy (.ref a) X.env hs2) _ _ _
        exact ih (no rfl)
      | true =>
        refine codeAny_handlers_suite_as (HandSPX.lands_againZ fl3 fun h4 fl4 up4 => ?_)
        have J4 : Inv X pins σ' H' { s' with heap := h4 } := J.landed nb fl4.1 (up13.trans up4) os ag
        obtain ⟨oe4, vs4, he4,
              hz4, hd4⟩ := fl4.there
        have S4 := J4.suite
              he4 hd4 na nL nF
        refine store_ok (X := X.suite a ((a, oe4) :: (X.pn ++ pins))) (v := .ref a) S4 hN hi (.inl hln) rfl (fun s5 S5 => ?_) (.inr hln)
        refine wpAny_mono ((hsu a oe4 cls d (X.pn ++ pins) hz4 ⟨_, hd4⟩).run [] s5 _ H' _ S5 (yes rfl a na)) (fun f s6 done => ?_) (fun _ _ z => False.elim z)
        have free : ∀ {σ6 : L2.St} {H6 : Hp} {Q : Shared → Prop}, Inv (X.suite a ((a, oe4) :: (X.pn ++ pins))) [] σ6 H6 s6 →
            (∀ s7, Inv X pins (σ6.set i none) H6 s7 → Q s7) →
            wpAny (model X.prog X.w) X.A (do bindName X.env n .none; unbindBehindTheSuite X.env n ps) (fun _ s7 => Q s7) X.xe s6 :=
          fun {σ6 H6 Q} S6 hq => gone_ok (S6.unsuite ok) hN hi hln hq
        cases f with
        | ret u =>
          obtain ⟨v6, σ6, H6, S6, r6, q6⟩ := done
          exact free S6 fun s7 J7 => ⟨_, _, _, J7, r6, q6⟩
        | next =>
          obtain ⟨σ6, H6, S6, q6⟩ := done
          exact free S6 fun s7 J7 => ⟨_, _, J7, q6⟩
        | brk =>
          obtain ⟨σ6, H6, S6, q6⟩ := done
          exact free S6 fun s7 J7 => ⟨_, _, J7, q6⟩
        | cont =>
          obtain ⟨σ6, H6, S6, q6⟩ := done
          exact free S6 fun s7 J7 => ⟨_, _, J7, q6⟩
  exact each hh wish
end
end Z
namespace Z
open PySem L2 RZ PySem.Spec PyProof.Rows
section
variable {X : Cx} {C : Addr} {bmB :
      List Value} {B newId initId : String}
/-- X() of an own error without an __init__ -/
theorem pmk_own0 {x : Str} {p pos : Pos} (F : ExcBaseFacts B newId initId bmB) (q : PySem.W.excIn X.K C bmB newId = true)
    (gC : X.mg x = some (.ref C)) (kC : PySem.W.keepIn X.K (.ref C) = true) (r : Raises X (.ref C)) (hg : Gl X x)
    (hdb : (x == ("__debug__" : Str)) = false := by decide) : PMk X (.Call (.Name x p) [] [] pos) (fun _ H Q => Q (.ref C) none H) := by
  intro pins s σ H Q I h
  refine wpAny_Call_Name_kw
        (ld_glob I hg gC ?_ hdb)
  refine PySem.W.callWith_K0 I.kIn kC ?_
  show wpAny _ _ (call (.ref C) []) _ _ _
  obtain ⟨bm, N, nm, qn, bs, hdct, sn, sub, ab, col, dd, k0, k1, k2, k3, k5, mN, hC, hN, hni, T⟩ := exc_obj I.kIn q
  refine wpAny_call_exc_subT F T hC hN hni (fun h' e hm => ?_) (Nat.zero_le _)
  exact mk_of I hm r h (I.hok.gone hm.new)
end
end Z
/-! ### a method is called in a try; an own error without arguments is raised -/
namespace Z
open PySem L2 RZ
section
variable {X : Cx} {CX : CXT} {k : Nat} {C : Addr} {ps : List Str} {sp : Sp} {E : L2.St → XK} {m x : Str} {p pos apos : Pos} {e o : Expr} {es : List Expr} {ta : TE} {t : TA}
def tMethS (C : Addr) (m : Str) (sp : Sp) (E : L2.St → XK) (ta : TE) (t : TA) : TE := fun σ H Q => ta σ H fun x H1 =>
  ∃ a dx fs, x = .ref a ∧ H1 a = some (.ins C dx fs) ∧ fs.lookup m = none ∧ t σ H1 fun vs H2 => sp (x :: vs) H2 Q (E σ)
theorem pe_methSO {pl : Sem Bool} (O : MethO CX X.prog X.w X.K X.mg X.base C m k ps [] sp) (c : Cls X.K C) (hr : Room k X.A)
    (hx : ∀ σ, PassesAt CX X σ (E σ)) (he : PE X o ta) (ha : PA X (e :: es) t)
    (hst : starEach (e :: es) X.env = (false, eval e X.env) :: starEach es X.env := by rfl)
    (hpl : (backTo pos (starEach es X.env)).any (·.1) = false := by rfl)
    (ht : eval (.Call (.Attribute o m
          apos) (e :: es) [] pos) X.env = (do
      let ov ← eval o X.env
      standAt apos.atName
      let (f, first) ← holding
            [ov] (getMethod ov m pl)
      callWith pos f first (backTo pos (starEach (e :: es)
            X.env)) (backToKw pos (keywordEach [] X.env))) := by rfl) :
    PE X (.Call (.Attribute o m apos) (e ::
          es) [] pos) (tMethS C m sp E ta t) := by
  obtain ⟨f, fd, ds, hm, hb, v, F⟩ := O
  cases v
  refine ⟨fun pins
        s σ H Q I h => ?_⟩
  refine PySem.W.methodCall_KW (pl := pl) (thn (he.run pins s σ H _
        I h) fun u s1 ⟨x, H1, I1, rx, a, dx, fs, ex, ea, l, q⟩ => ?_) ht
  subst ex
  cases rx
  refine getmeth_ok
        I1 ea c hm l ?_
  refine PySem.W.callWith_K (first := [.ref a]) (h₀ := X.base) I.ok.mod.kin hm.kp (thn
        (ha.run pos pins s1 σ H1 _ I1 q) fun us s2 ⟨vs, H2, I2, r, q2⟩ => ⟨I2.kIn, ?_⟩) hst hpl
  exact run_fnS (us := .ref a :: us) (vs := .ref
        a :: vs) F hr hb (hx σ) I2 (.cons rfl r) q2
theorem wMethS {σ : L2.St} {H : Hp} {Q : VK} (h : ta σ H fun x H1 => ∃ a dx fs, x = .ref a ∧ H1 a = some (.ins C dx fs) ∧ fs.lookup m = none ∧ t σ H1 fun vs H2 => sp (x :: vs) H2 Q (E σ)) : tMethS C m sp E ta t σ H Q := h
theorem wMeth {dvs : List V} {E : XK} {σ : L2.St} {H : Hp} {Q : VK} (h : ta σ H fun x H1 => ∃ a dx fs, x = .ref a ∧ H1 a = some (.ins C dx fs) ∧ fs.lookup m = none ∧ t σ H1 fun vs H2 => sp (x :: (vs ++ dvs)) H2 Q E) : tMeth C m sp dvs E ta t σ H Q := h
/-- an own error class that is made without arguments -/
structure ErrF0 (K : PySem.W.Frag) (C : Addr) : Prop where
  ex0 : PySem.W.excIn K C [.type "ValueError", .type "Exception", .type "BaseException", .type "object"] "ValueError.__new__" = true
  kp : PySem.W.keepIn
        K (.ref C) = true
  exC : PySem.W.subIn K (.ref C)
        (.type "BaseException") = some true
  tyC : PySem.W.typeIn K (.ref
        C) = some (.type "type")
theorem pmk_err00 (T : ErrF0 X.K C) (hm : X.mg x = some (.ref C)) (hg : Gl X x) (hdb : (x == ("__debug__" : Str)) = false := by decide) :
    PMk X (.Call (.Name x p) [] [] pos) (fun _ H Q => Q (.ref C) none H) :=
  pmk_own0 PySem.F.excBase_ValueError T.ex0 hm T.kp (raises_own T.exC T.tyC) hg hdb
end
end Z
namespace Z
open PySem L2
theorem exm_of {K : PySem.W.Frag} {cls : Value} {C : Addr} {b : Bool} (hb : PySem.W.subIn K (.ref C) (.type "BaseException") = some true)
    (ic : PySem.W.isClsIn K C = true) (ty : PySem.W.typeIn K (.ref C) = some (.type "type")) (q : PySem.W.subIn K cls (.ref C) = some b) :
    PySem.W.exmOne K cls (.ref C) = some b := by
  have i' : (PySem.W.clsIn K C).isSome = true := ic
  have e2 : ((PySem.W.clsIn K C).isSome && PySem.W.typeIn K (.ref C) == some (.type "type")) = true := by
    rw [i', ty]
    rfl
  have e3 : PySem.W.kitCls K cls (.ref C) = some b := by
    unfold PySem.W.kitCls
    exact (if_pos e2).trans q
  unfold PySem.W.exmOne
  rw [hb]
  exact e3
end Z
namespace Z
open PySem L2
/-- what a callee lets out is let out -/
theorem passE {X : Cx} {E : XK} (tk : Takes X (fun cls d _ H => E cls d H)) : Passes (L2.CX X.prog X.w) X E := fun pins σ H s e s' I c => passAt (W := fun cls d _ H => E cls d H) tk σ pins H s e s' I c
end Z
namespace Z
open PySem L2
theorem wStarL {K : PySem.W.Frag} {te : TE} {t : TA} {σ : L2.St} {H : Hp} {Q : List V → Hp → Prop} (h : te σ H fun x H1 => ∃ p xs, x = V.ref p ∧ (SqT K H1 p xs ∨ SqL K H1 p xs) ∧ t σ H1 fun ys H2 => Q (xs ++ ys) H2) : StX.tStar K te t σ H Q := h
theorem starL {K : PySem.W.Frag} {a : Addr} {xs : List V} {H : Hp} {R : List V → Prop} (s : SqL K H a xs) (h : R xs) : ∃ p xs, V.ref a = V.ref p ∧ (SqT K H p xs ∨ SqL K H p xs) ∧ R xs := ⟨a, xs, rfl, .inr s, h⟩
end Z
namespace Z
open PySem L2
section
variable {K : PySem.W.Frag} {Wout : WX} {D : Ends} {k : Cl} {r : List Cl} {cls : Value} {d : Option Addr} {σ : L2.St} {H : Hp}
theorem wMix_yes (e : PySem.W.exmOne K cls k.c = some true) (h : ∀ a, H a = none → k.ts a cls d (gone D k.i) (held a σ k.i) H) : WE (wMix K Wout D (k :: r)) σ cls d H :=
  ⟨true, e, fun _ => h, fun q => Bool.noConfusion q⟩
theorem wMix_no (e : PySem.W.exmOne K cls k.c = some false) (h : WE (wMix K Wout D r) σ cls d H) : WE (wMix K Wout D (k :: r)) σ cls d H :=
  ⟨false, e, fun q => Bool.noConfusion q, fun _ => h⟩
end
end Z

set_option Elab.async false
set_option linter.all false
set_option maxRecDepth 100000
set_option maxHeartbeats 2000500
namespace Z
open PySem PySem.Spec
      PyProof.Rows
/-- a new list, then all of vs in it -/
abbrev poured (h : Heap) (vs : List Value) : Heap := (h.push (seqObj "list" #[] 0)).update h.objs.size (Obj.mapSeq (· ++ vs.toArray))
section
variable {prog : Program} {w : World} {A :
      Around} {E : Value → Shared → Prop} {s : Shared}
theorem collect_tuple {l : Addr} {vs : List Value} {Q : List Value → Shared → Prop} (hl : s.heap.IsTuple l vs.toArray)
    (h : Q vs { s with heap := poured s.heap vs })
    (hsz : vs.length ≤ sizeLine := by size_fits) : wpAny (model prog w) A (collect (.ref l)) Q E s := by
  obtain ⟨o, ho, hc,
        n, hd⟩ := id hl
  unfold collect
  refine wpAny_bind (wpAny_runValue
        (codeAny_builtin entry_proto_collect' ?_))
  show wpAny _ _ (do again (.builtin "list.__iadd__"
        ⟨[← newList [], .ref l], []⟩)) _ _ s
  refine wpAny_bind (wpAny_newList (wpAny_pure ⟨Code.quiet_builtin
        _ (by decide +kernel), codeAny_builtin entry_list_iadd' ?_⟩))
  show wpAny _ _ (Builtin.List.listExtendWith (.ref s.heap.objs.size) (.ref l) (.ref s.heap.objs.size)) _ _
    { s with heap := s.heap.push (seqObj "list" #[] 0) }
  unfold
        Builtin.List.listExtendWith
  have there : (s.heap.push (seqObj "list" #[] 0)).get? l = some o := Heap.get?_push_of_some _ ho
  refine wpAny_bind (wpAny_typeOf (T := "tuple") ⟨o, there, hc⟩ ?_)
  have tt : (Value.type "tuple" == Value.type "tuple") = true := by rfl
  rw [if_pos (by rw [tt, Bool.or_true])]
  refine wpAny_bind (listItems_at there hd (wpAny_bind (listItems_at (xs := #[]) (n := 0) (Heap.get?_push_size _ rfl) rfl ?_)))
  rw [if_neg (by simp)]
  refine wpAny_bind (listUpdate_at (xs := #[]) (n := 0) (Heap.get?_push_size _ rfl) rfl ?_ (Nat.zero_le _)
    (by show (#[] ++ vs.toArray).size ≤ sizeLine + 1; simp only [Array.size_append, List.size_toArray, List.length_nil]; omega))
  refine wpAny_pure ?_
  show wpAny (model
        prog w) A (do
      let o ← load s.heap.objs.size
      match o.data with
      | .seq xs _ => pure xs.toList
      | _ => unsupported "internal:collect") Q E { s with heap := poured s.heap vs }
  refine wpAny_bind (wpAny_load (get?_update_seq
        (Heap.get?_push_size _ rfl) _) ?_)
  show wpAny _ _ (pure ((#[] : Array
        Value) ++ vs.toArray).toList) Q E _
  have e : ((#[] : Array Value) ++ vs.toArray).toList = vs := by simp
  rw [e]
  exact wpAny_pure h
theorem sorted_intsT {l : Addr} {vs : List Value} {ns : List Int} {Q : Value → Shared → Prop} (ht : s.heap.IsTuple l vs.toArray) (hI : IntsAre vs ns) (h64 : vs.length < 64)
    (h : ∀ (out : Array Value) (ns' : List Int), IntsAre out.toList ns' → ns'.Perm ns → ns'.Pairwise (· ≤ ·) →
      Q (.ref (s.heap.objs.size + 1)) { s with heap := sortedAll s.heap vs out }) :
    wpAny (model prog w) A (call (.builtin
          "sorted") [.ref l]) Q E s := by
  refine Calls.call_function_entry kind_sorted
        plain_sorted entry_sorted (args_sorted1 _) ?_
  unfold Builtin.«sorted»
  refine wpAny_bind (m := checkCount "sorted" 1 1 _) (wpAny_pure (wpAny_bind (collect_tuple ht (wpAny_bind (wpAny_newList ?_)))))
  have sz : (poured s.heap vs).objs.size = s.heap.objs.size + 1 := by
    rw [Heap.size_update,
          size_push']
  have at1 : ((poured s.heap vs).push (seqObj "list" vs.toArray 0)).get? (s.heap.objs.size + 1) =
      some (seqObj "list" vs.toArray 0) := by
    rw [← sz]
    exact Heap.get?_push_size
          _ rfl
  show wpAny _ _ _ _ _ { s with heap := (poured s.heap vs).push (seqObj "list" vs.toArray 0) }
  rw [sz]
  exact wpAny_bind (wpAny_holding (wpAny_call_entry slot_list_sort ⟨_, at1, rfl⟩ entry_list_sort
    (list_sort_tree at1 hI h64 fun out ns' a1 a2 a3 => ⟨_, rfl, wpAny_pure ⟨_, rfl, h out ns' a1 a2 a3⟩⟩) (args_list_sort _)))
end
open L2
/-- sorted of a tuple of ints -/
def rSortedTu (K : PySem.W.Frag) : List V → Hp → VK → Prop := fun vs H Q => ∃ (a : Addr) (ns : List Int), vs = [V.ref a] ∧ SqT K H a (ns.map V.int) ∧ ns.length < 64 ∧
  ∀ (ns' : List Int) (p : Addr), ns'.Perm ns → ns'.Pairwise (· ≤
        ·) → H p = none → Q (.ref p) (upd H p (.lst (ns'.map V.int)))
theorem cr_sortedTu {X : Cx} : CallR X (.builtin "sorted") (rSortedTu X.K) := by
  intro pins s σ
        H vs us Q I r h
  obtain ⟨a, ns, rfl,
        hs, h64, q⟩ := h
  obtain ⟨its, rv, hl, _⟩ := I.tuple hs
  rw [Vals.ref1 r]
  have hi := rv.ints
  refine sorted_intsT (show s.heap.IsTuple a its.toArray from hl) hi (by rw [hi.length]; exact h64) fun out ns' h1 h2 h3 => ?_
  obtain ⟨ep, he'⟩ :=
        PyProof.Rows.sortedAll_at s.heap its out
  have len : (ns'.map V.int).length ≤ sizeLine := by rw [List.length_map, h2.length_eq]; exact small64 h64
  exact ⟨.ref _, upd H (s.heap.objs.size + 1) (.lst (ns'.map V.int)),
    I.laid (t' := s.toks) (fun _ _ => PyProof.Rows.sortedAll_old) (Nat.le_succ _) ⟨len, out.toList, ep, vals_of_ints h1, he'⟩, rfl, q ns' _ h2 h3 (I.hok.fresh (Nat.le_succ _))⟩
theorem wSortedTu {K : PySem.W.Frag} {H : Hp} {L : List En} {a : Addr} {ns : List Int} {Q : VK} (s : SqT K H a (ns.map V.int)) (n : ns.length < 64) (F : Fx H L)
    (k : ∀ (ms : List Int) p H', ms.Perm ns → ms.Pairwise (· ≤ ·) → Fx H' (.ob p (.lst (ms.map V.int)) :: L) → Q (.ref p) H') : rSortedTu K [.ref a] H Q :=
  ⟨a, ns, rfl, s, n, fun ms p q r hp => k ms p _ q r (F.new hp)⟩
end Z
namespace Z
open PySem L2
section
variable {K : PySem.W.Frag} {H : Hp} {L : List En} {a b : Addr} {ns ms : List Int} {z : Int} {Q : VK}
theorem inV_ints (z : Int) : ∀ ns : List Int, inV (.int z) (ns.map V.int) = decide (z ∈ ns)
  | [] => rfl
  | a :: r => by
    have ih := inV_ints z r
    show (eqV (.int a) (.int z) || inV (.int z) (r.map V.int)) = decide (z ∈ a :: r)
    have e : eqV (.int a) (.int z) = decide (a = z) := by
      show (a == z) = decide (a = z)
      by_cases q : a = z <;> simp [q]
    rw [ih, e]
    by_cases h : a = z
    · subst h; simp
    · have h' : ¬ z = a := fun q => h q.symm
      simp [h, h']
theorem flat_ints (ns : List Int) : (ns.map V.int).all flatV = true := by
  rw [List.all_eq_true]
  intro x hx
  obtain ⟨z, _, rfl⟩ := List.mem_map.mp hx
  rfl
theorem wInTu (s : SqT K H a (ns.map V.int)) (h : Q (.bl (decide (z ∈ ns))) H) : rIn K false (.int z) (.ref a) H Q :=
  ⟨a, _, rfl, .inr s, rfl, flat_ints ns, by rw [← inV_ints] at h; exact h⟩
theorem wCatTu (s : SqT K H a (ns.map V.int)) (t : SqT K H b (ms.map V.int)) (n : ns ≠ []) (n' : ms ≠ []) (l : ns.length + ms.length ≤ 1000000) (F : Fx H L)
    (k : ∀ p H', Fx H' (.ob p (.tup ((ns ++ ms).map V.int)) :: L) → Q (.ref p) H') : rOr rAddI (rOr rAddS (rOr rCat (rCatT K))) (.ref a) (.ref b) H Q :=
  .inr (.inr (.inr ⟨a, b, _, _, rfl, rfl, s, t, by simpa using n, by rw [List.length_map, List.length_map]; exact Nat.le_trans l line_big, fun e => absurd e (by simpa using n'), fun _ p hp => by
    rw [← List.map_append]
    exact k p _ (F.new hp)⟩))
end
end Z
namespace Z
open PySem L2
section
variable {K : PySem.W.Frag} {H : Hp} {L : List En} {q q' p p' : Addr} {ns : List Int} {l r : Int} {Q : VK}
/-- a list of a row of ints and two ints -/
def nestD (ns : List Int) (l r : Int) : List PyData := [.tuple (iD ns), .int l, .int r]
theorem nest_dp (F : Fx H L) (n : En.ob p (.tup (ns.map V.int)) ∈ L) : DpAll K H [.ref p, .int l, .int r] (nestD ns l r) :=
  .cons (.tup (F.tup n) (dpAll_ints ns)) (.cons (.int l) (.cons (.int r) .nil))
theorem nest_shaped (ns : List Int) (l r : Int) : SeqAt.shaped (.list (nestD ns l r)) = true := by
  unfold SeqAt.shaped
  rw [Bool.and_eq_true]
  refine ⟨?_, decide_eq_true ?_⟩
  · show (PyData.canLayAll0 (iD ns) && (PyData.canLayAll0 [PyData.int l, PyData.int r])) = true
    rw [canLay_ints]
    rfl
  · show max (PyData.depthAll (iD ns) + 1) (PyData.depthAll [PyData.int l, PyData.int r]) + 1 ≤ 64
    rw [depth_ints]
    show max (0 + 1) (max 0 (max 0 0)) + 1 ≤ 64
    decide
theorem nest_eqv (ns : List Int) (l r : Int) : PyData.eqv (.list (nestD ns l r)) (.list (nestD ns l r)) = true := by
  show (PyData.eqvAll (iD ns) (iD ns) && ((l == l) && ((r == r) && true))) = true
  rw [eqvAll_ints, decide_eq_true rfl, beq_self_eq_true, beq_self_eq_true]
  rfl
theorem wNeNest (F : Fx H L) (m : En.ob q (.lst [.ref p, .int l, .int r]) ∈ L) (n : En.ob p (.tup (ns.map V.int)) ∈ L)
    (m' : En.ob q' (.lst [.ref p', .int l, .int r]) ∈ L) (n' : En.ob p' (.tup (ns.map V.int)) ∈ L) (h : Q (.bl false) H) :
    rOr rNe (rNeD K) (.ref q) (.ref q') H Q :=
  .inr ⟨_, _, .lst (F.lst m) (nest_dp F n), .lst (F.lst m') (nest_dp F n'), nest_shaped ns l r, nest_shaped ns l r, by
    rw [nest_eqv ns l r]
    exact h⟩
end
end Z
namespace Z
open PySem L2
section
variable {X : Cx} {CX : CXT} {k : Nat} {C : Addr} {ps : List Str} {sp : Sp} {E : XK} {m : Str} {pos apos : Pos} {e o : Expr} {es : List Expr} {ta : TE} {t : TA}
theorem pe_methO {pl : Sem Bool} (O : MethO CX X.prog X.w X.K X.mg X.base C m k ps [] sp) (c : Cls X.K C) (hr : Room k X.A)
    (hx : Passes CX X E) (he : PE X o ta) (ha : PA X (e :: es) t)
    (hst : starEach (e :: es) X.env = (false, eval e X.env) :: starEach es X.env := by rfl)
    (hpl : (backTo pos (starEach es X.env)).any (·.1) = false := by rfl)
    (ht : eval (.Call (.Attribute o m
          apos) (e :: es) [] pos) X.env = (do
      let ov ← eval o X.env
      standAt apos.atName
      let (f, first) ← holding
            [ov] (getMethod ov m pl)
      callWith pos f first (backTo pos (starEach (e :: es)
            X.env)) (backToKw pos (keywordEach [] X.env))) := by rfl) :
    PE X (.Call (.Attribute o m apos) (e :: es) [] pos) (tMeth C m sp [] E ta t) := by
  obtain ⟨f, fd, ds, hm, hb, v, F⟩ := O
  cases v
  exact pe_meth he c hm F hr hb .nil hx ha hst hpl ht
end
end Z

set_option Elab.async false
set_option linter.all false
set_option maxRecDepth 100000
set_option maxHeartbeats 2000500
namespace Z
open PySem L2 RZ
/-! ### a middle: what holds where two ways meet -/
section
variable {σ : L2.St} {H : Hp} {Q : VK} {ts tu : TS} {te tf : TE} {nx bk ct : L2.St → Hp → Prop} {rt : VK} {b : Bool}
theorem wMidS (C : L2.St → Hp → Prop) (h : ∀ N : L2.St → Hp → Prop, (∀ σ' H', C σ' H' → N σ' H') → ts ⟨N, rt, bk, ct⟩ σ H) (k : ∀ σ' H', C σ' H' → nx σ' H') : ts ⟨nx, rt, bk, ct⟩ σ H := h nx k
theorem wMidI (C : L2.St → Hp → Prop) (h : ∀ N : L2.St → Hp → Prop, (∀ σ' H', C σ' H' → N σ' H') → if b = true then ts ⟨N, rt, bk, ct⟩ σ H else tu ⟨N, rt, bk, ct⟩ σ H) (k : ∀ σ' H', C σ' H' → nx σ' H') :
    if b = true then ts ⟨nx, rt, bk, ct⟩ σ H else tu ⟨nx, rt, bk, ct⟩ σ H := h nx k
theorem wMidE (C : V → Hp → Prop) (h : ∀ R : VK, (∀ v H', C v H' → R v H') → te σ H R) (k : ∀ v H', C v H' → Q v H') : te σ H Q := h Q k
theorem wMidV (C : V → Hp → Prop) (h : ∀ R : VK, (∀ v H', C v H' → R v H') → if b = true then te σ H R else tf σ H R) (k : ∀ v H', C v H' → Q v H') :
    if b = true then te σ H Q else tf σ H Q := h Q k
end
end Z
/-! ### data by the ledger -/
namespace Z
open PySem L2 RZ
mutual
inductive Dt (L : List En) : V → PyData → Prop
  | non : Dt L .non .none
  | bl (b : Bool) : Dt L (.bl b) (.bool b)
  | int (i : Int) : Dt L (.int i) (.int i)
  | str (x : Str) : Dt L (.str x) (.str x)
  | lst {a : Addr} {xs : List V} {ds : List PyData} (m : En.ob a (.lst xs) ∈ L) (h : DtA L xs ds) : Dt L (.ref a) (.list ds)
  | tup {a : Addr} {xs : List V} {ds : List PyData} (m : En.ob a (.tup xs) ∈ L) (h : DtA L xs ds) : Dt L (.ref a) (.tuple ds)
inductive DtA (L : List En) : List V → List PyData → Prop
  | nil : DtA L [] []
  | cons {v : V} {vs : List V} {d : PyData} {ds : List PyData} (h : Dt L v d) (r : DtA L vs ds) : DtA L (v :: vs) (d :: ds)
end
section
variable {L L' : List En} {K : PySem.W.Frag} {H : Hp}
mutual
theorem Dt.mono' (s : ∀ e ∈ L, e ∈ L') : ∀ (d : PyData) (v : V), Dt L v d → Dt L' v d
  | .none, _, h => by cases h; exact .non
  | .bool b, _, h => by cases h; exact .bl b
  | .int i, _, h => by cases h; exact .int i
  | .str x, _, h => by cases h; exact .str x
  | .list ds, _, h => by
    cases h with
    | lst m a => exact .lst (s _ m) (DtA.mono' s ds _ a)
  | .tuple ds, _, h => by
    cases h with
    | tup m a => exact .tup (s _ m) (DtA.mono' s ds _ a)
  | .dict _, _, h => by cases h
theorem DtA.mono' (s : ∀ e ∈ L, e ∈ L') : ∀ (ds : List PyData) (vs : List V), DtA L vs ds → DtA L' vs ds
  | [], _, h => by cases h; exact .nil
  | d :: ds, _, h => by
    cases h with
    | cons a r => exact .cons (Dt.mono' s d _ a) (DtA.mono' s ds _ r)
end
mutual
theorem Dt.dp' (F : Fx H L) : ∀ (d : PyData) (v : V), Dt L v d → Dp K H v d
  | .none, _, h => by cases h; exact .non
  | .bool b, _, h => by cases h; exact .bl b
  | .int i, _, h => by cases h; exact .int i
  | .str x, _, h => by cases h; exact .str x
  | .list ds, _, h => by
    cases h with
    | lst m a => exact .lst (F.lst m) (DtA.dp' F ds _ a)
  | .tuple ds, _, h => by
    cases h with
    | tup m a => exact .tup (F.tup m) (DtA.dp' F ds _ a)
  | .dict _, _, h => by cases h
theorem DtA.dp' (F : Fx H L) : ∀ (ds : List PyData) (vs : List V), DtA L vs ds → DpAll K H vs ds
  | [], _, h => by cases h; exact .nil
  | d :: ds, _, h => by
    cases h with
    | cons a r => exact .cons (Dt.dp' F d _ a) (DtA.dp' F ds _ r)
end
variable {v : V} {d : PyData} {vs : List V} {ds : List PyData}
theorem Dt.mono (h : Dt L v d) (s : ∀ e ∈ L, e ∈ L') : Dt L' v d := Dt.mono' s d v h
theorem DtA.mono (h : DtA L vs ds) (s : ∀ e ∈ L, e ∈ L') : DtA L' vs ds := DtA.mono' s ds vs h
theorem Dt.sub (h : Dt L v d) (s : L.Sublist L') : Dt L' v d := h.mono fun _ m => s.subset m
theorem DtA.sub (h : DtA L vs ds) (s : L.Sublist L') : DtA L' vs ds := h.mono fun _ m => s.subset m
theorem Dt.dp (h : Dt L v d) (F : Fx H L) : Dp K H v d := Dt.dp' F d v h
theorem DtA.len : ∀ {vs : List V} {ds : List PyData}, DtA L vs ds → vs.length = ds.length
  | _, [], h => by cases h; rfl
  | _, _ :: _, h => by
    cases h with
    | cons a r => rw [List.length_cons, List.length_cons, r.len]
theorem DtA.get : ∀ {vs : List V} {ds : List PyData} {i : Nat} {d : PyData}, DtA L vs ds → ds[i]? = some d → ∃ v, vs[i]? = some v ∧ Dt L v d
  | _, [], i, d, h, e => by simp at e
  | _, x :: ds, 0, d, h, e => by
    cases h with
    | cons a r =>
      cases e
      exact ⟨_, rfl, a⟩
  | _, x :: ds, i + 1, d, h, e => by
    cases h with
    | cons a r => exact r.get e
theorem DtA.getV : ∀ {ds : List PyData} {vs : List V} {i : Nat} {v : V}, DtA L vs ds → vs[i]? = some v → ∃ d, ds[i]? = some d ∧ Dt L v d
  | [], _, i, d, h, e => by cases h; simp at e
  | x :: ds, _, 0, d, h, e => by
    cases h with
    | cons a r =>
      cases e
      exact ⟨_, rfl, a⟩
  | x :: ds, _, i + 1, d, h, e => by
    cases h with
    | cons a r => exact r.getV e
theorem DtA.app : ∀ {ds ds' : List PyData} {vs vs' : List V}, DtA L vs ds → DtA L vs' ds' → DtA L (vs ++ vs') (ds ++ ds')
  | [], _, _, _, h, h' => by cases h; exact h'
  | _ :: _, _, _, _, h, h' => by
    cases h with
    | cons a r => exact .cons a (r.app h')
theorem DtA.ints : ∀ ns : List Int, DtA L (ns.map V.int) (iD ns)
  | [] => .nil
  | n :: r => .cons (.int n) (DtA.ints r)
theorem DtA.ints_eq : ∀ {ns : List Int} {vs : List V}, DtA L vs (iD ns) → vs = ns.map V.int
  | [], _, h => by cases h; rfl
  | n :: r, _, h => by
    cases h with
    | cons a r =>
      cases a
      rw [r.ints_eq]
      rfl
theorem Dt.tupI {a : Addr} {ns : List Int} (m : En.ob a (.tup (ns.map V.int)) ∈ L) : Dt L (.ref a) (.tuple (iD ns)) := .tup m (DtA.ints ns)
theorem Dt.lstI {a : Addr} {ns : List Int} (m : En.ob a (.lst (ns.map V.int)) ∈ L) : Dt L (.ref a) (.list (iD ns)) := .lst m (DtA.ints ns)
theorem Dt.tupI_mem {v : V} {ns : List Int} (h : Dt L v (.tuple (iD ns))) : ∃ a, v = .ref a ∧ En.ob a (.tup (ns.map V.int)) ∈ L := by
  cases h with
  | tup m r =>
    have e := r.ints_eq
    subst e
    exact ⟨_, rfl, m⟩
theorem Dt.lstI_mem {v : V} {ns : List Int} (h : Dt L v (.list (iD ns))) : ∃ a, v = .ref a ∧ En.ob a (.lst (ns.map V.int)) ∈ L := by
  cases h with
  | lst m r =>
    have e := r.ints_eq
    subst e
    exact ⟨_, rfl, m⟩
/-! shapes -/
def ShA (ds : List PyData) (n : Nat) : Prop := PyData.canLayAll0 ds = true ∧ PyData.depthAll ds ≤ n
def Sh (d : PyData) (n : Nat) : Prop := PyData.canLay0 d = true ∧ PyData.depth d ≤ n
theorem Sh.ok {n : Nat} (h : Sh d n) (hn : n ≤ 64 := by decide) : SeqAt.shaped d = true := by
  unfold SeqAt.shaped
  rw [Bool.and_eq_true]
  exact ⟨h.1, decide_eq_true (Nat.le_trans h.2 hn)⟩
theorem Sh.int (i : Int) : Sh (.int i) 0 := ⟨rfl, Nat.le_refl _⟩
theorem Sh.tup {n : Nat} (h : ShA ds n) : Sh (.tuple ds) (n + 1) := ⟨h.1, Nat.succ_le_succ h.2⟩
theorem Sh.lst {n : Nat} (h : ShA ds n) : Sh (.list ds) (n + 1) := ⟨h.1, Nat.succ_le_succ h.2⟩
theorem ShA.ints (ns : List Int) : ShA (iD ns) 0 := ⟨canLay_ints ns, Nat.le_of_eq (depth_ints ns)⟩
theorem ShA.nil : ShA [] 0 := ⟨rfl, Nat.le_refl _⟩
theorem ShA.cons {n m : Nat} (h : Sh d n) (r : ShA ds m) : ShA (d :: ds) (max n m) := by
  refine ⟨?_, ?_⟩
  · show (PyData.canLay0 d && PyData.canLayAll0 ds) = true
    rw [h.1, r.1]
    rfl
  · show max (PyData.depth d) (PyData.depthAll ds) ≤ _
    have := h.2
    have := r.2
    omega
theorem ShA.map {α : Type} {f : α → PyData} {n : Nat} : ∀ {xs : List α}, (∀ x ∈ xs, Sh (f x) n) → ShA (xs.map f) n
  | [], _ => ⟨rfl, Nat.zero_le _⟩
  | x :: r, h => by
    have a := h x List.mem_cons_self
    have b := ShA.map (f := f) (n := n) (xs := r) fun y hy => h y (List.mem_cons_of_mem _ hy)
    have c := ShA.cons a b
    rw [Nat.max_self] at c
    exact c
end
/-! what == and != say -/
section
variable {L : List En} {K : PySem.W.Frag} {H : Hp} {x y : V} {d e : PyData} {Q : VK}
theorem wEqD (F : Fx H L) (a : Dt L x d) (b : Dt L y e) (sd : SeqAt.shaped d = true) (se : SeqAt.shaped e = true) (h : Q (.bl (PyData.eqv d e)) H) : rOr rEq (rEqD K) x y H Q :=
  .inr ⟨d, e, a.dp F, b.dp F, sd, se, h⟩
theorem wNeD (F : Fx H L) (a : Dt L x d) (b : Dt L y e) (sd : SeqAt.shaped d = true) (se : SeqAt.shaped e = true) (h : Q (.bl (!PyData.eqv d e)) H) : rOr rNe (rNeD K) x y H Q :=
  .inr ⟨d, e, a.dp F, b.dp F, sd, se, h⟩
theorem wNeSame (F : Fx H L) (a : Dt L x d) (b : Dt L y d) (sd : SeqAt.shaped d = true) (h : Q (.bl false) H) : rOr rNe (rNeD K) x y H Q :=
  wNeD F a b sd sd (by rw [SeqAt.eqv_refl _ (SeqAt.canLay_of_shaped sd)]; exact h)
theorem wEqSame (F : Fx H L) (a : Dt L x d) (b : Dt L y d) (sd : SeqAt.shaped d = true) (h : Q (.bl true) H) : rOr rEq (rEqD K) x y H Q :=
  wEqD F a b sd sd (by rw [SeqAt.eqv_refl _ (SeqAt.canLay_of_shaped sd)]; exact h)
end
end Z

set_option Elab.async false
set_option linter.all false
set_option maxRecDepth 100000
set_option maxHeartbeats 2000500
namespace Z
open PySem PySem.Spec PyProof.Rows Builtin Builtin.Str
open Sem (wp)
/-! ### enumerate over a tuple -/
theorem meets_enum1 {v : Value} {o : Obj} {H : Heap → Prop} (B : Begins v o H) :
    Meets (Builtin.«enumerate.__new__» ⟨[.type "enumerate", v], []⟩) (fun _ R s => H s.heap ∧
      R (.ok (.ret (.ref (s.heap.push o).objs.size))) { s with heap := (s.heap.push o).push { cls := .type "enumerate", data := .fields #[.none, .bool false, .ref s.heap.objs.size, rawInt 0, .none, .none] } }) :=
  .of_wp fun prog
        w A R s h => by
    obtain ⟨hp, g, d, tk, os⟩
          := s; obtain ⟨h1, h⟩ := h
    have hsub := sub_enumerate
    have q1 : ∀ {A' : Around} {E : Value → Shared → Prop} {Q : Value → Shared → Prop}, Q (.ref
          hp.objs.size) ⟨hp.push o, g, d, tk, os⟩ → wpAny (model prog w) A' (pyIter v) Q E ⟨hp, g, d, tk, os⟩ :=
      fun q => B.iter prog w _ _
            ⟨hp, g, d, tk, os⟩ _ h1 q
    wp_walk using q1
    refine wpAny_stack_any
          fun st => wpAny_pure ?_
    split
    · rename_i c _ _ _ _ _
      cases (c == Value.type
            "enumerate")
      · wp_walk using q1
        exact ⟨_, rfl, h⟩
      · wp_walk using q1
        exact ⟨_, rfl, h⟩
    · wp_walk using q1
      exact ⟨_, rfl, h⟩
section
variable {prog : Program} {w : World} {A :
      Around} {E : Value → Shared → Prop} {s : Shared}
theorem enum_begins1 {v : Value} {o : Obj} {H : Heap → Prop} {Q : Value → Shared → Prop} (B : Begins v o H) (h1 : H s.heap)
    (h : ∀ h', IsEnum h' (s.heap.objs.size + 1) s.heap.objs.size 0 .none → h'.get? s.heap.objs.size = some o →
      (∀ b o, s.heap.get? b = some o → h'.get? b = some o) →
            Q (.ref (s.heap.objs.size +
                  1)) { s with heap := h' }) :
    wpAny (model prog w) A (call (.type "enumerate") [v]) Q E s := by
  refine callType_new F.called_enumerate (by decide) (F.typeCall_enumerate_1 _)
        (F.newCall_enumerate_1 _) (fun obj => F.args_object_init_2 obj _) F.entry_enumerate_new
    (meets_enum1 B) ⟨h1, ?_⟩
  have hz : (s.heap.push o).objs.size =
        s.heap.objs.size + 1 := Heap.size_push ..
  show _ ∧ _
  rw [hz]
  have he : IsEnum ((s.heap.push o).push { cls := .type "enumerate", data := .fields #[.none, .bool false, .ref s.heap.objs.size, rawInt 0, .none, .none] }) (s.heap.objs.size + 1) s.heap.objs.size 0 .none := by
    have := Heap.get?_push_size (s.heap.push o) (o := { cls := .type "enumerate", data := .fields #[.none, .bool false, .ref s.heap.objs.size, rawInt 0, .none, .none] }) rfl
    rw [hz] at this; exact this
  exact ⟨⟨_, he, rfl⟩, h _ he (Heap.get?_push_of_some _ (Heap.get?_push_size _ B.free)) fun b o x => Heap.get?_push_of_some _ (Heap.get?_push_of_some _ x)⟩
end
end Z
namespace Z
open PySem PySem.Spec
      PyProof.Rows L2
def IteT (K : PySem.W.Frag) (a : Addr) : It :=
  ⟨fun i H => ∃ (xs : List V) (x : V), SqT K H a xs ∧ xs[i]? = some x, fun i H v H' => ∃ T x, v = .ref T ∧ H T = none ∧ H' = upd H T (.tup [.int (i : Nat), x]) ∧ ∀ xs, SqT K H a xs → xs[i]? = some x,
    fun i H => ∃ xs : List V, SqT K H a xs ∧ xs.length ≤ i⟩
theorem turn_enumT {P : Program} {w : World} {K : PySem.W.Frag} {elts : List Expr} {kk : Nat} {tpos : Pos} (a e it : Addr) :
    Turn P w K (.Tuple elts kk tpos) (IteT K a) [e, it] e (fun i h => (∃ old, IsEnum h e it ((i : Nat) : Int) old) ∧ h.IsTupleIter it a i ∧ e ≠ it) where
  mem := by simp
  obj := fun i h st b hb => by
    obtain ⟨⟨old, he⟩, ⟨o,
          ho, hc, hd⟩, _⟩ := st
    have e' : b = e ∨ b = it
          := by simpa using hb
    rcases e' with z | z
    · rw [z]; exact ⟨_, he,
          fun v q => nomatch q⟩
    · rw [z]; exact ⟨o, ho, fun v
          q => by rw [hd] at q; cases q⟩
  keep := fun i h h' st k => let ⟨⟨old, he⟩, hi, hne⟩ := st; ⟨⟨old,
        k e (by simp) _ he⟩, hi.at fun o q => k it (by simp) o q, hne⟩
  item := by
    intro X hP hw hK hc i
          pins s σ H E I hf st hg
    subst hP hw hK
    obtain ⟨⟨old, he⟩,
          hit, hne⟩ := st
    obtain ⟨xs, x, hq,
          hx⟩ := hg
    obtain ⟨its, rv, p,
          hz⟩ := I.tuple hq
    obtain ⟨u, hu, ru⟩
          := rv.get hx
    have hel : e < s.heap.objs.size
          := Heap.lt_size he
    have hil : it < s.heap.objs.size := by
          obtain ⟨_, q, _⟩ := hit; exact Heap.lt_size q
    have ht : s.heap.IsTuple a its.toArray := p
    have hai : a ≠ it
          := fun z => by
      obtain ⟨o1, e1, c1, _⟩ := hit
      obtain ⟨o2, e2, c2, _⟩ := id ht
      rw [z, e1] at e2
      cases e2
      rw [c1] at c2
      exact absurd c2 (by simp)
    have hae : e ∉ [it, a] := fun z => by
      rcases List.mem_cons.mp
            z with z | z
      · exact hne z
      · have z :=
            List.mem_singleton.mp z
        obtain ⟨o2, e2, c2, _⟩ := id ht
        have he' : s.heap.get? e = some _ := he
        rw [z, e2] at he'
        cases he'
        exact absurd c2 (by simp)
    have il : i < its.toArray.size := by
      have := (List.getElem?_eq_some_iff.mp hu).1
      simpa using this
    refine wpAny_pyNext_enum_itemD (Draws.tuple (by exact (I.ok.hd hc)) it a hai its.toArray) he ⟨hit, ht⟩ il hne hae fun x' h' tk hP ho hs' hT hsz hk => ?_
    have hxu : x' = u := by
      have e1 : its.toArray[i]? = some x' := hP
      have e2 : its.toArray[i]? = some u := by simpa using hu
      rw [e2] at e1
      exact (Option.some.inj e1).symm
    subst hxu
    refine ⟨_, rfl, wpAny_letOwnedTupleGo_enum (s := { s with heap := h', toks := tk + 1 }) ho fun h'' he' sb => ?_⟩
    have hT2 : h''.get? s.heap.objs.size = some { cls := .type "tuple", data := .seq #[.int i tk, x'] } := (sb.2 _ (Nat.ne_of_gt hel)).trans hT
    have new : ObjOk X.prog X.w (upd H s.heap.objs.size (.tup [.int (i
          : Nat), x])) h'' s.heap.objs.size (.tup [.int (i : Nat), x]) :=
      ⟨by show 2 ≤ sizeLine; decide, [.int i tk, x'], .cons ⟨_, rfl⟩ (.cons ru .nil), ⟨_, hT2, rfl, _, rfl⟩⟩
    have I1 : Inv X pins σ (upd H s.heap.objs.size (.tup [.int (i : Nat), x])) { s with heap := h'', toks := tk + 1 } :=
      I.turnedNew (ch := [e, it]) (fun b ob hb q => (sb.2 b (fun z => hb (by simp [z]))).trans
            (hk b ob (fun z => hb (by simp [z])) (fun z => hb (by simp [z])) q)) hf (Nat.le_refl _) new
    refine ⟨.ref s.heap.objs.size, _, I1, rfl, ⟨_, x, rfl, I.hok.fresh (Nat.le_refl _), rfl, fun ys hy => ?_⟩, ⟨⟨x', ?_⟩, hs'.1.at fun o q => (sb.2 it (Ne.symm hne)).trans q, hne⟩, fun b hb => ?_⟩
    · rw [I.tuple_inj hy hq]; exact hx
    · have e1 : ((i + 1 : Nat) :
          Int) = (i : Int) + 1 := by omega
      rw [e1]; exact he'
    · have hb' : b <
          s.heap.objs.size := by
        have e' : b = e ∨ b = it
              := by simpa using hb
        rcases e' with z | z
        · rw [z]; exact hel
        · rw [z]; exact hil
      rw [upd_ne
            (Nat.ne_of_lt hb')]
      exact (hf b hb).1
  done := by
    intro X hP hw hK hc i pins
          s σ H E I hf st hg
    subst hP hw hK
    obtain ⟨⟨old, he⟩,
          hit, hne⟩ := st
    obtain ⟨xs, hq, hx⟩
          := hg
    obtain ⟨its, rv, p,
          hz⟩ := I.tuple hq
    obtain ⟨f0, f1, f2, f3,
          f4, f5⟩ := hf it (by simp)
    have hl := rv.length
    have ht : s.heap.IsTuple a its.toArray := p
    have hT : s.TypeIs (.ref e)
          "enumerate" := ⟨_, he, rfl⟩
    unfold pyNext
    refine wpAny_bind (wpAny_attempt (wpAny_callSpecial?_slot
          (name := Str.ofString "__next__") hT F.slot_enumerate_next
      (wpAny_call_entry F.slot_enumerate_next hT
            F.entry_enumerate_next ?_ (F.args_enumerate_next_1 _))))
    show wpAny _ _ (field
          (.ref e) 2 >>= _) _ _ _
    refine wpAny_bind (wpAny_field
          he rfl (x := .ref it) rfl ?_)
    refine wpAny_bind (wpAny_nextOf_tuple_end (by exact (I.ok.hd hc)) hit ht (by simp; omega) fun h' x eb hx' => ?_)
    obtain ⟨o, ho, hc'⟩ := hx'
    refine wpAny_bind (wpAny_isInstance (T := "StopIteration") (b := true) ⟨o, ho, hc'⟩ isSubtype_stop ?_)
    exact wpAny_pure ⟨rfl, I.turned (t' := s.toks) (fun b o hb q => eb b o hb q) f0 f1 f3 f4 f5⟩
  self := fun A i s Q E st h => let ⟨⟨_,
        he⟩, _⟩ := st; wpAny_pyIter_enum he h
section
variable {X : Cx}
/-- a list or a tuple, counted along -/
def iEnumS (K : PySem.W.Frag) (ta : TA) : TI := fun σ H R => ta σ H fun vs H1 => ∃ a, vs = [.ref a] ∧ ((∃ xs, SqL K H1 a xs ∧ R (Ite K a) H1) ∨ ∃ xs, SqT K H1 a xs ∧ R (IteT K a) H1)
theorem pi_enumS {e : Expr} {ta : TA} {p pos tpos : Pos} {elts : List Expr} {kk : Nat} (hg : Gl X "enumerate") (hm : X.mg "enumerate" = none) (ha : PA X [e] ta) (hs : starEach [e] X.env = [(false, eval e X.env)] := by rfl) :
    PI X (.Tuple elts kk tpos) (.Call (.Name "enumerate" p) [e] [] pos) (iEnumS X.K ta) := by
  refine ⟨fun pins
        s σ H R I h => ?_⟩
  refine Call_ (ld_blt I hg hm boot_enumerate (PyProof.Rows.callWith_type1 (thn (ha.run
        pos pins s σ H _ I h) fun us s1 ⟨vs, H1, I1, r1, q1⟩ => ?_) hs rfl))
  obtain ⟨a, ex, q⟩ := q1
  subst ex
  cases r1 with
  | cons r rr =>
    cases rr
    cases r
    rcases q with ⟨xs, hq, q⟩ | ⟨xs, hq, q⟩
    · obtain ⟨its, rv,
          p', hz⟩ := I1.list hq
      refine call_enumerate_list p'.isList
            fun h' he hit hsz hk => wpAny_pyIter_enum he ?_
      have I2 : Inv X pins σ H1 { s1 with
            heap := h' } := I1.kept (t' := s1.toks) hk
      refine ⟨s1.heap.objs.size + 1, [s1.heap.objs.size + 1, s1.heap.objs.size], _, _, H1, rfl, I2, turn_enum a
            (s1.heap.objs.size + 1) s1.heap.objs.size, ⟨⟨.none, he⟩, hit, Nat.succ_ne_self _⟩, fun b hb => ?_, q⟩
      have e' : b = s1.heap.objs.size + 1 ∨
            b = s1.heap.objs.size := by simpa using hb
      have hle :
            s1.heap.objs.size ≤ b := by
        rcases e' with z | z
        · rw [z]; exact
              Nat.le_add_right _ _
        · rw [z]; exact Nat.le_refl _
      exact I1.fpOk hle
            (I1.hok.fresh hle)
    · obtain ⟨its, rv,
          p', hz⟩ := I1.tuple hq
      refine enum_begins1 (begins_tuple a its.toArray) p' fun h' he hit hk => wpAny_pyIter_enum he ?_
      have I2 : Inv X pins σ H1 { s1 with
            heap := h' } := I1.kept (t' := s1.toks) hk
      refine ⟨s1.heap.objs.size + 1, [s1.heap.objs.size + 1, s1.heap.objs.size], _, _, H1, rfl, I2, turn_enumT a
            (s1.heap.objs.size + 1) s1.heap.objs.size, ⟨⟨.none, he⟩, ⟨_, hit, rfl, rfl⟩, Nat.succ_ne_self _⟩, fun b hb => ?_, q⟩
      have e' : b = s1.heap.objs.size + 1 ∨
            b = s1.heap.objs.size := by simpa using hb
      have hle :
            s1.heap.objs.size ≤ b := by
        rcases e' with z | z
        · rw [z]; exact
              Nat.le_add_right _ _
        · rw [z]; exact Nat.le_refl _
      exact I1.fpOk hle
            (I1.hok.fresh hle)
end
theorem walk_enumT {K : PySem.W.Frag} {a : Addr} {xs : List V} : Walk (IteT K a) xs.length (fun H => SqT K H a xs) (YPair (fun i => some (.int (i : Nat))) (fun i => xs[i]?)) := by
  refine ⟨fun i _ hi q => ⟨xs, xs[i], q, by simp [hi]⟩, fun _ q
        => ⟨xs, q, Nat.le_refl _⟩, fun i H v H' _ q y => ?_⟩
  obtain ⟨T, x, h1,
        h2, h3, h4⟩ := y
  exact ⟨T, .int (i : Nat), x, h1,
        h2, h3, rfl, h4 xs q⟩
section
variable {K : PySem.W.Frag} {H : Hp} {L : List En} {a : V} {xs : List V} {RI : It → Hp → Prop} {σ : L2.St} {ta : TA} {g : TG} {tb : TS} {nx : L2.St → Hp → Prop} {rt : VK}
def GoE (K : PySem.W.Frag) (vs : List V) (H : Hp) (R : It → Hp → Prop) : Prop := ∃ a, vs = [.ref a] ∧ ((∃ xs, SqL K H a xs ∧ R (Ite K a) H) ∨ ∃ xs, SqT K H a xs ∧ R (IteT K a) H)
theorem wIE (h : ta σ H fun vs H1 => GoE K vs H1 RI) : iEnumS K ta σ H RI := h
/-- a for over enumerate(list or tuple) -/
theorem wForE (hq : SeqIs L a (some xs)) (F : Fx H L) (Pv : Nat → L2.St → Hp → Prop) (h0 : Pv 0 σ H) (keep : ∀ i σ H', Pv i σ H' → ∃ L', Fx H' L' ∧ ∀ p o, En.ob p o ∈ L → En.ob p o ∈ L')
    (hs : ∀ i x T σ H', xs[i]? = some x → Pv i σ H' → H' T = none → g (.ref T) σ (upd H' T (.tup [.int (i : Nat), x])) fun σ2 H2 => tb ⟨Pv (i + 1), rt, nx, Pv (i + 1)⟩ σ2 H2) (hd : ∀ σ H', Pv xs.length σ H' → nx σ H') :
    GoE K [a] H fun J H1 => ∃ W : Nat → Nat → L2.St → Hp → Prop, (∃ m, W 0 m σ H1) ∧ ∀ i m σ H, W i m σ H →
      (J.stop i H ∧ nx σ H) ∨ (J.go i H ∧ ∃ N : L2.St → Hp → Prop, (∀ σ' H', N σ' H' → ∃ m', m' < m ∧ W (i + 1) m' σ' H') ∧ ∀ x H', J.yld i H x H' → g x σ H' fun σ2 H2 => tb ⟨N, rt, nx, N⟩ σ2 H2) := by
  cases hq with
  | @lst p xs m =>
    refine ⟨p, rfl, .inl ⟨xs, F.lst m, wForW (walk_enum (K := K) (xs := xs)) Pv h0 (fun i σ H' _ q => ?_) ?_ hd⟩⟩
    · obtain ⟨L', F', k⟩ := keep i σ H' q
      exact F'.lst (k _ _ m)
    · rintro i x σ H' H'' _ q ⟨T, u, v, rfl, hT, rfl, e1, e2⟩
      cases e1
      exact hs i v T σ H' e2 q hT
  | @tup p xs m =>
    refine ⟨p, rfl, .inr ⟨xs, F.tup m, wForW (walk_enumT (K := K) (xs := xs)) Pv h0 (fun i σ H' _ q => ?_) ?_ hd⟩⟩
    · obtain ⟨L', F', k⟩ := keep i σ H' q
      exact F'.tup (k _ _ m)
    · rintro i x σ H' H'' _ q ⟨T, u, v, rfl, hT, rfl, e1, e2⟩
      cases e1
      exact hs i v T σ H' e2 q hT
end
/-! ### sum of a tuple -/
def rSumT (K : PySem.W.Frag) : List V → Hp → VK → Prop := fun vs H Q => ∃ (a : Addr) (ns : List Int), vs = [V.ref a] ∧ SqT K H a (ns.map V.int) ∧ Q (.int ns.sum) H
theorem cr_sumT {X : Cx} (hc : X.calm = true) : CallR X (.builtin "sum") (rSumT X.K) := by
  intro pins s σ
        H vs us Q I r h
  obtain ⟨a, ns,
        rfl, hs, q⟩ := h
  obtain ⟨its, rv, hl, _⟩ := I.tuple hs
  rw [Vals.ref1 r]
  have hi := rv.ints
  obtain ⟨xs, hx⟩ :=
        hi.allInts.items
  have hn : numsOf its.toArray.toList = ns := by rw [show its.toArray.toList = its from rfl, hi.numsOf]
  have ht : s.heap.IsTuple a its.toArray := hl
  rw [hx] at ht hn
  rw [nums_intItems] at hn
  refine PySem.W.ktm_sumG (I.ok.hd hc) ht fun h' tk t' hk => ?_
  refine ⟨.int ns.sum, H, I.kept hk, ?_, q⟩
  rw [preSum_eq, List.take_of_length_le
        (by simp), hn]
  exact ⟨_, rfl⟩
theorem cr_sumS {X : Cx} (hc : X.calm = true) : CallR X (.builtin "sum") (rOrC (rSum X.K) (rSumT X.K)) := CallR.or (cr_sum hc) (cr_sumT hc)
section
variable {K : PySem.W.Frag} {H : Hp} {L : List En} {a : Addr} {b : V} {ns : List Int} {Q : VK}
theorem wSumL (s : SqL K H a (ns.map V.int)) (h : Q (.int ns.sum) H) : rOrC (rSum K) (rSumT K) [.ref a] H Q := .inl ⟨a, ns, rfl, s, h⟩
theorem wSumT (s : SqT K H a (ns.map V.int)) (h : Q (.int ns.sum) H) : rOrC (rSum K) (rSumT K) [.ref a] H Q := .inr ⟨a, ns, rfl, s, h⟩
theorem wSumS (s : SeqIs L b (some (ns.map V.int))) (F : Fx H L) (h : Q (.int ns.sum) H) : rOrC (rSum K) (rSumT K) [b] H Q := by
  generalize e : ns.map V.int = xs at s
  cases s with
  | lst m => exact wSumL (F.lst (e ▸ m)) h
  | tup m => exact wSumT (F.tup (e ▸ m)) h
end
/-! ### while -/
section
variable {σ : L2.St} {H : Hp} {tc : TT} {tb : TS} {nx bk ct : L2.St → Hp → Prop} {rt : VK}
def WBody (tb : TS) (Pv : Nat → L2.St → Hp → Prop) (m : Nat) (nx : L2.St → Hp → Prop) (rt : VK) (σ : L2.St) (H : Hp) : Prop :=
  ∃ N : L2.St → Hp → Prop, (∀ σ' H', N σ' H' → ∃ m', m' < m ∧ Pv m' σ' H') ∧ tb ⟨N, rt, nx, N⟩ σ H
theorem wWhile (Pv : Nat → L2.St → Hp → Prop) (m : Nat) (h0 : Pv m σ H) (hs : ∀ m σ H, Pv m σ H → tc σ H fun b H1 => if b = true then WBody tb Pv m nx rt σ H1 else nx σ H1) :
    tWhile tc tb ⟨nx, rt, bk, ct⟩ σ H := ⟨Pv, ⟨m, h0⟩, hs⟩
theorem wBody {Pv : Nat → L2.St → Hp → Prop} {m : Nat} (h : tb ⟨fun σ' H' => ∃ m', m' < m ∧ Pv m' σ' H', rt, nx, fun σ' H' => ∃ m', m' < m ∧ Pv m' σ' H'⟩ σ H) : WBody tb Pv m nx rt σ H := ⟨_, fun _ _ h => h, h⟩
end
/-! ### range with a step, lists made of lists, order of tuples, min and max -/
section
variable {K : PySem.W.Frag} {H : Hp} {L : List En} {a b : Addr} {xs ys : List V} {RI : It → Hp → Prop} {σ : L2.St} {ta : TA} {Q : VK} {i j : Int} {ns ms : List Int}
def GoR3 (vs : List V) (H : Hp) (R : It → Hp → Prop) : Prop := ∃ (i j c : Int) (n : Nat), vs = [.int i, .int j, .int c] ∧ RgC i j c n ∧ R (Itc i c n) H
theorem wIR3 (h : ta σ H fun vs H1 => GoR3 vs H1 RI) : iRng3 ta σ H RI := h
theorem wGoDown (ha : -(2 ^ 62) ≤ i) (ha' : i < 2 ^ 62) (hb : -(2 ^ 62) ≤ j) (hb' : j < 2 ^ 62) (h : RI (Itc i (-1) (i - j).toNat) H) : GoR3 [.int i, .int j, .int (-1)] H RI := ⟨i, j, -1, _, rfl, RgC.neg ha ha' hb hb', h⟩
theorem wRepL {n : Int} (F : Fx H L) (m : En.ob a (.lst xs) ∈ L) (n1 : -(2 ^ 63) ≤ n) (n2 : n < 2 ^ 63) (n3 : xs.length * n.toNat ≤ 1000000)
    (k : ∀ p H', Fx H' (.ob p (.lst (List.replicate n.toNat xs).flatten) :: L) → Q (.ref p) H') : rOr rMulC (rOr rMulI (rOr rRep (rRepT K))) (.ref a) (.int n) H Q :=
  .inr (.inr (.inl ⟨a, n, xs, rfl, rfl, F.get m, n1, n2, Nat.le_trans n3 line_big, wNewF F k⟩))
theorem wCatL (F : Fx H L) (m : En.ob a (.lst xs) ∈ L) (m' : En.ob b (.lst ys) ∈ L) (l : xs.length + ys.length ≤ 1000000)
    (k : ∀ p H', Fx H' (.ob p (.lst (xs ++ ys)) :: L) → Q (.ref p) H') : rOr rAddI (rOr rAddS (rOr rCat (rCatT K))) (.ref a) (.ref b) H Q :=
  .inr (.inr (.inl ⟨a, b, xs, ys, rfl, rfl, F.get m, F.get m', Nat.le_trans l line_big, wNewF F k⟩))
theorem wLtT (s : SqT K H a (ns.map V.int)) (t : SqT K H b (ms.map V.int)) (h : Q (.bl (HT.lexLt ns ms)) H) : rOr rLtI (rLtT K) (.ref a) (.ref b) H Q := .inr ⟨a, b, ns, ms, rfl, rfl, s, t, h⟩
theorem flat_one (n : Nat) (x : V) : (List.replicate n [x]).flatten = List.replicate n x := by
  induction n with
  | zero => rfl
  | succ n ih => rw [List.replicate_succ, List.flatten_cons, ih]; rfl
end
theorem zLtS {X : Cx} (hu : X.A.units < cLine) : OpR X (compareOp .Lt) (rOr rLtI (rLtT X.K)) := opOr op_lt (op_ltT hu)
def rMin2 : List V → Hp → VK → Prop := fun xs H Q => ∃ i j, xs = [V.int i, V.int j] ∧ Q (.int (if j < i then j else i)) H
def rMax2 : List V → Hp → VK → Prop := fun xs H Q => ∃ i j, xs = [V.int i, V.int j] ∧ Q (.int (if j > i then j else i)) H
theorem zMin2 {X : Cx} (hc : X.calm = true) : CallR X (.builtin "min") rMin2 := call_min2 hc
theorem zMax2 {X : Cx} (hc : X.calm = true) : CallR X (.builtin "max") rMax2 := call_max2 hc
theorem wMin2 {H : Hp} {Q : VK} {i j : Int} (h : Q (.int (if j < i then j else i)) H) : rMin2 [.int i, .int j] H Q := ⟨i, j, rfl, h⟩
theorem wMax2 {H : Hp} {Q : VK} {i j : Int} (h : Q (.int (if j > i then j else i)) H) : rMax2 [.int i, .int j] H Q := ⟨i, j, rfl, h⟩
/-! ### comprehensions and loops over a tuple or a list of the ledger -/
section
variable {K : PySem.W.Frag} {H : Hp} {L : List En} {a : Addr} {xs : List V} {g : TG} {tt : TT} {te : TE} {vs : List Nat} {σ : L2.St} {QD : Addr → Hp → Prop}
theorem wLcT (m : En.ob a (.tup xs) ∈ L) (F : Fx H L) (R : Nat → List V → List En → Prop) (h0 : R 0 [] L) (keep : ∀ i acc L', R i acc L' → En.ob a (.tup xs) ∈ L')
    (hs : ∀ i x D H' acc L', xs[i]? = some x → R i acc L' → Fx H' (.ob D (.lst acc) :: L') → g x (wipe σ vs) H' fun σ2 H2 => wipe σ2 vs = wipe σ vs ∧ tt σ2 H2 fun b H3 =>
      if b = true then te σ2 H3 fun y H4 => LcPut D R i y H4 else LcP D R (i + 1) H3)
    (hd : ∀ D acc L' H', Fx H' (.ob D (.lst acc) :: L') → R xs.length acc L' → QD D H') :
    ∀ D, H D = none → ∃ W : Nat → Nat → Hp → Prop, (∃ m, W 0 m (upd H D (.lst []))) ∧ ∀ i m H, W i m H →
  ((Itt K a).stop i H ∧ QD D H) ∨ ((Itt K a).go i H ∧ ∃ Nx : Hp → Prop, (∀ H', Nx H' → ∃ m', m' < m ∧ W (i + 1) m' H') ∧ ∀ x H', (Itt K a).yld i H x H' → g x (wipe σ vs) H' fun σ2 H2 => wipe σ2 vs = wipe σ vs ∧ tt σ2 H2 fun b H3 =>
    if b = true then te σ2 H3 fun y H4 => ∃ acc, H4 D = some (.lst acc) ∧
          acc.length < sizeLine ∧ Nx (upd H4 D (.lst (acc ++ [y]))) else Nx H3) :=
  wLcW (walk_tup (K := K) (xs := xs)) F R h0 (fun i acc L' D H' r F' => F'.tup (List.mem_cons_of_mem _ (keep _ _ _ r))) (fun i x D H' H'' acc L' _ r F' y => by
    obtain ⟨rfl, e⟩ := y
    exact hs i x D H'' acc L' e r F') hd
theorem wLcL (m : En.ob a (.lst xs) ∈ L) (F : Fx H L) (R : Nat → List V → List En → Prop) (h0 : R 0 [] L) (keep : ∀ i acc L', R i acc L' → En.ob a (.lst xs) ∈ L')
    (hs : ∀ i x D H' acc L', xs[i]? = some x → R i acc L' → Fx H' (.ob D (.lst acc) :: L') → g x (wipe σ vs) H' fun σ2 H2 => wipe σ2 vs = wipe σ vs ∧ tt σ2 H2 fun b H3 =>
      if b = true then te σ2 H3 fun y H4 => LcPut D R i y H4 else LcP D R (i + 1) H3)
    (hd : ∀ D acc L' H', Fx H' (.ob D (.lst acc) :: L') → R xs.length acc L' → QD D H') :
    ∀ D, H D = none → ∃ W : Nat → Nat → Hp → Prop, (∃ m, W 0 m (upd H D (.lst []))) ∧ ∀ i m H, W i m H →
  ((Itl K a).stop i H ∧ QD D H) ∨ ((Itl K a).go i H ∧ ∃ Nx : Hp → Prop, (∀ H', Nx H' → ∃ m', m' < m ∧ W (i + 1) m' H') ∧ ∀ x H', (Itl K a).yld i H x H' → g x (wipe σ vs) H' fun σ2 H2 => wipe σ2 vs = wipe σ vs ∧ tt σ2 H2 fun b H3 =>
    if b = true then te σ2 H3 fun y H4 => ∃ acc, H4 D = some (.lst acc) ∧
          acc.length < sizeLine ∧ Nx (upd H4 D (.lst (acc ++ [y]))) else Nx H3) :=
  wLcW (walk_list (K := K) (xs := xs)) F R h0 (fun i acc L' D H' r F' => F'.lst (List.mem_cons_of_mem _ (keep _ _ _ r))) (fun i x D H' H'' acc L' _ r F' y => by
    obtain ⟨rfl, e⟩ := y
    exact hs i x D H'' acc L' e r F') hd
variable {tb : TS} {nx : L2.St → Hp → Prop} {rt : VK}
theorem wForT (F : Fx H L) (m : En.ob a (.tup xs) ∈ L) (Pv : Nat → L2.St → Hp → Prop) (h0 : Pv 0 σ H) (keep : ∀ i σ H', Pv i σ H' → ∃ L', Fx H' L' ∧ En.ob a (.tup xs) ∈ L')
    (hs : ∀ i x σ H', xs[i]? = some x → Pv i σ H' → g x σ H' fun σ2 H2 => tb ⟨Pv (i + 1), rt, nx, Pv (i + 1)⟩ σ2 H2) (hd : ∀ σ H', Pv xs.length σ H' → nx σ H') :
    ∃ W : Nat → Nat → L2.St → Hp → Prop, (∃
          m, W 0 m σ H) ∧ ∀ i m σ H, W i m σ H →
      ((Itt K a).stop i H ∧ nx σ H) ∨ ((Itt K a).go i H ∧ ∃ N : L2.St → Hp → Prop, (∀ σ' H', N σ' H' → ∃ m', m' < m ∧ W (i + 1) m' σ' H') ∧ ∀ x H', (Itt K a).yld i H x H' → g x σ H' fun σ2 H2 => tb ⟨N, rt, nx, N⟩ σ2 H2) :=
  wForW (walk_tup (K := K) (xs := xs)) Pv h0 (fun i σ H' _ q => let ⟨_, F', k⟩ := keep i σ H' q; F'.tup k) (fun i x σ H' H'' _ q y => by
    obtain ⟨rfl, e⟩ := y
    exact hs i x σ H'' e q) hd
theorem wForLi (F : Fx H L) (m : En.ob a (.lst xs) ∈ L) (Pv : Nat → L2.St → Hp → Prop) (h0 : Pv 0 σ H) (keep : ∀ i σ H', Pv i σ H' → ∃ L', Fx H' L' ∧ En.ob a (.lst xs) ∈ L')
    (hs : ∀ i x σ H', xs[i]? = some x → Pv i σ H' → g x σ H' fun σ2 H2 => tb ⟨Pv (i + 1), rt, nx, Pv (i + 1)⟩ σ2 H2) (hd : ∀ σ H', Pv xs.length σ H' → nx σ H') :
    ∃ W : Nat → Nat → L2.St → Hp → Prop, (∃
          m, W 0 m σ H) ∧ ∀ i m σ H, W i m σ H →
      ((Itl K a).stop i H ∧ nx σ H) ∨ ((Itl K a).go i H ∧ ∃ N : L2.St → Hp → Prop, (∀ σ' H', N σ' H' → ∃ m', m' < m ∧ W (i + 1) m' σ' H') ∧ ∀ x H', (Itl K a).yld i H x H' → g x σ H' fun σ2 H2 => tb ⟨N, rt, nx, N⟩ σ2 H2) :=
  wForW (walk_list (K := K) (xs := xs)) Pv h0 (fun i σ H' _ q => let ⟨_, F', k⟩ := keep i σ H' q; F'.lst k) (fun i x σ H' H'' _ q y => by
    obtain ⟨rfl, e⟩ := y
    exact hs i x σ H'' e q) hd
end
section
variable {σ : L2.St} {H : Hp} {te : TE} {ti : TIp} {nx bk ct : L2.St → Hp → Prop} {rt : VK} {i : Nat} {x : V} {f : Int → Int → Int} {a b : Int} {Q : VK}
theorem wAug (e : σ[i]? = some (some x)) (h : te σ H fun y H1 => ti x y H1 fun z H2 => nx (σ.set i (some z)) H2) : tAug i te ti ⟨nx, rt, bk, ct⟩ σ H := ⟨x, e, h⟩
theorem wIpI (h : Q (.int (f a b)) H) : ipI f (.int a) (.int b) H Q := ⟨a, b, rfl, rfl, h⟩
end
section
variable {K : PySem.W.Frag} {H : Hp} {a : Addr} {ns : List Int} {z : Int} {Q : VK}
theorem wNotInTu (s : SqT K H a (ns.map V.int)) (h : Q (.bl (!decide (z ∈ ns))) H) : rIn K true (.int z) (.ref a) H Q :=
  ⟨a, _, rfl, .inr s, rfl, flat_ints ns, by rw [← inV_ints] at h; exact h⟩
end
section
variable {sp : Sp} {v : V} {vs ds : List V} {H : Hp} {Q : VK} {E : XK}
theorem wSpC (h : sp (v :: (vs ++ ds)) H Q E) : sp ((v :: vs) ++ ds) H Q E := h
theorem wSpN (h : sp ds H Q E) : sp ([] ++ ds) H Q E := h
theorem wSpC1 {u : V} (h : sp (u :: v :: (vs ++ ds)) H Q E) : sp (u :: ((v :: vs) ++ ds)) H Q E := h
theorem wSpN1 {u : V} (h : sp (u :: ds) H Q E) : sp (u :: ([] ++ ds)) H Q E := h
theorem wSpC2 {u u' : V} (h : sp (u :: u' :: v :: (vs ++ ds)) H Q E) : sp (u :: u' :: ((v :: vs) ++ ds)) H Q E := h
theorem wSpN2 {u u' : V} (h : sp (u :: u' :: ds) H Q E) : sp (u :: u' :: ([] ++ ds)) H Q E := h
end
theorem wMkO {C : Addr} {sp : Sp} {dvs : List V} {ta : TA} {σ : L2.St} {H : Hp} {EK : XK} (h : ta σ H fun vs H1 => vs.length ≤ 1000 ∧ ∀ a, H1 a = none → sp (.ref a :: (vs ++ dvs)) (upd H1 a (exo a C none))
  (fun v H2 => v = .non ∧ ∃ (d : Addr) (fs : List (Str × V)), H2 a = some (exo a C (some d)) ∧ H2 d = some (exd d fs) ∧ H1 d = none ∧ EK (.ref C) (some d) (upd (del H2 a) d (.xd fs))) (fun _ _ _ => False)) : tMkO C sp dvs ta σ H EK := h
section
variable {x0 x1 x2 x3 x4 x5 x6 x7 x8 x9 x10 x11 x12 x13 x14 x15 x16 x17 x18 x19 x20 x21 x22 x23 x24 x25 x26 : Option V} {v : V} {ρ : L2.St} {H : Hp} {Q : VK} {N : L2.St → Hp → Prop}
theorem wV15 (h : Q v H) : tVar 15 (x0 :: x1 :: x2 :: x3 :: x4 :: x5 :: x6 :: x7 :: x8 :: x9 :: x10 :: x11 :: x12 :: x13 :: x14 :: some v :: ρ) H Q := ⟨v, rfl, h⟩
theorem wG15 (h : N (x0 :: x1 :: x2 :: x3 :: x4 :: x5 :: x6 :: x7 :: x8 :: x9 :: x10 :: x11 :: x12 :: x13 :: x14 :: some v :: ρ) H) : gName 15 v (x0 :: x1 :: x2 :: x3 :: x4 :: x5 :: x6 :: x7 :: x8 :: x9 :: x10 :: x11 :: x12 :: x13 :: x14 :: x15 :: ρ) H N := h
theorem wV16 (h : Q v H) : tVar 16 (x0 :: x1 :: x2 :: x3 :: x4 :: x5 :: x6 :: x7 :: x8 :: x9 :: x10 :: x11 :: x12 :: x13 :: x14 :: x15 :: some v :: ρ) H Q := ⟨v, rfl, h⟩
theorem wG16 (h : N (x0 :: x1 :: x2 :: x3 :: x4 :: x5 :: x6 :: x7 :: x8 :: x9 :: x10 :: x11 :: x12 :: x13 :: x14 :: x15 :: some v :: ρ) H) : gName 16 v (x0 :: x1 :: x2 :: x3 :: x4 :: x5 :: x6 :: x7 :: x8 :: x9 :: x10 :: x11 :: x12 :: x13 :: x14 :: x15 :: x16 :: ρ) H N := h
theorem wV17 (h : Q v H) : tVar 17 (x0 :: x1 :: x2 :: x3 :: x4 :: x5 :: x6 :: x7 :: x8 :: x9 :: x10 :: x11 :: x12 :: x13 :: x14 :: x15 :: x16 :: some v :: ρ) H Q := ⟨v, rfl, h⟩
theorem wG17 (h : N (x0 :: x1 :: x2 :: x3 :: x4 :: x5 :: x6 :: x7 :: x8 :: x9 :: x10 :: x11 :: x12 :: x13 :: x14 :: x15 :: x16 :: some v :: ρ) H) : gName 17 v (x0 :: x1 :: x2 :: x3 :: x4 :: x5 :: x6 :: x7 :: x8 :: x9 :: x10 :: x11 :: x12 :: x13 :: x14 :: x15 :: x16 :: x17 :: ρ) H N := h
theorem wV18 (h : Q v H) : tVar 18 (x0 :: x1 :: x2 :: x3 :: x4 :: x5 :: x6 :: x7 :: x8 :: x9 :: x10 :: x11 :: x12 :: x13 :: x14 :: x15 :: x16 :: x17 :: some v :: ρ) H Q := ⟨v, rfl, h⟩
theorem wG18 (h : N (x0 :: x1 :: x2 :: x3 :: x4 :: x5 :: x6 :: x7 :: x8 :: x9 :: x10 :: x11 :: x12 :: x13 :: x14 :: x15 :: x16 :: x17 :: some v :: ρ) H) : gName 18 v (x0 :: x1 :: x2 :: x3 :: x4 :: x5 :: x6 :: x7 :: x8 :: x9 :: x10 :: x11 :: x12 :: x13 :: x14 :: x15 :: x16 :: x17 :: x18 :: ρ) H N := h
theorem wV19 (h : Q v H) : tVar 19 (x0 :: x1 :: x2 :: x3 :: x4 :: x5 :: x6 :: x7 :: x8 :: x9 :: x10 :: x11 :: x12 :: x13 :: x14 :: x15 :: x16 :: x17 :: x18 :: some v :: ρ) H Q := ⟨v, rfl, h⟩
theorem wG19 (h : N (x0 :: x1 :: x2 :: x3 :: x4 :: x5 :: x6 :: x7 :: x8 :: x9 :: x10 :: x11 :: x12 :: x13 :: x14 :: x15 :: x16 :: x17 :: x18 :: some v :: ρ) H) : gName 19 v (x0 :: x1 :: x2 :: x3 :: x4 :: x5 :: x6 :: x7 :: x8 :: x9 :: x10 :: x11 :: x12 :: x13 :: x14 :: x15 :: x16 :: x17 :: x18 :: x19 :: ρ) H N := h
theorem wV20 (h : Q v H) : tVar 20 (x0 :: x1 :: x2 :: x3 :: x4 :: x5 :: x6 :: x7 :: x8 :: x9 :: x10 :: x11 :: x12 :: x13 :: x14 :: x15 :: x16 :: x17 :: x18 :: x19 :: some v :: ρ) H Q := ⟨v, rfl, h⟩
theorem wG20 (h : N (x0 :: x1 :: x2 :: x3 :: x4 :: x5 :: x6 :: x7 :: x8 :: x9 :: x10 :: x11 :: x12 :: x13 :: x14 :: x15 :: x16 :: x17 :: x18 :: x19 :: some v :: ρ) H) : gName 20 v (x0 :: x1 :: x2 :: x3 :: x4 :: x5 :: x6 :: x7 :: x8 :: x9 :: x10 :: x11 :: x12 :: x13 :: x14 :: x15 :: x16 :: x17 :: x18 :: x19 :: x20 :: ρ) H N := h
theorem wV21 (h : Q v H) : tVar 21 (x0 :: x1 :: x2 :: x3 :: x4 :: x5 :: x6 :: x7 :: x8 :: x9 :: x10 :: x11 :: x12 :: x13 :: x14 :: x15 :: x16 :: x17 :: x18 :: x19 :: x20 :: some v :: ρ) H Q := ⟨v, rfl, h⟩
theorem wG21 (h : N (x0 :: x1 :: x2 :: x3 :: x4 :: x5 :: x6 :: x7 :: x8 :: x9 :: x10 :: x11 :: x12 :: x13 :: x14 :: x15 :: x16 :: x17 :: x18 :: x19 :: x20 :: some v :: ρ) H) : gName 21 v (x0 :: x1 :: x2 :: x3 :: x4 :: x5 :: x6 :: x7 :: x8 :: x9 :: x10 :: x11 :: x12 :: x13 :: x14 :: x15 :: x16 :: x17 :: x18 :: x19 :: x20 :: x21 :: ρ) H N := h
theorem wV22 (h : Q v H) : tVar 22 (x0 :: x1 :: x2 :: x3 :: x4 :: x5 :: x6 :: x7 :: x8 :: x9 :: x10 :: x11 :: x12 :: x13 :: x14 :: x15 :: x16 :: x17 :: x18 :: x19 :: x20 :: x21 :: some v :: ρ) H Q := ⟨v, rfl, h⟩
theorem wG22 (h : N (x0 :: x1 :: x2 :: x3 :: x4 :: x5 :: x6 :: x7 :: x8 :: x9 :: x10 :: x11 :: x12 :: x13 :: x14 :: x15 :: x16 :: x17 :: x18 :: x19 :: x20 :: x21 :: some v :: ρ) H) : gName 22 v (x0 :: x1 :: x2 :: x3 :: x4 :: x5 :: x6 :: x7 :: x8 :: x9 :: x10 :: x11 :: x12 :: x13 :: x14 :: x15 :: x16 :: x17 :: x18 :: x19 :: x20 :: x21 :: x22 :: ρ) H N := h
theorem wV23 (h : Q v H) : tVar 23 (x0 :: x1 :: x2 :: x3 :: x4 :: x5 :: x6 :: x7 :: x8 :: x9 :: x10 :: x11 :: x12 :: x13 :: x14 :: x15 :: x16 :: x17 :: x18 :: x19 :: x20 :: x21 :: x22 :: some v :: ρ) H Q := ⟨v, rfl, h⟩
theorem wG23 (h : N (x0 :: x1 :: x2 :: x3 :: x4 :: x5 :: x6 :: x7 :: x8 :: x9 :: x10 :: x11 :: x12 :: x13 :: x14 :: x15 :: x16 :: x17 :: x18 :: x19 :: x20 :: x21 :: x22 :: some v :: ρ) H) : gName 23 v (x0 :: x1 :: x2 :: x3 :: x4 :: x5 :: x6 :: x7 :: x8 :: x9 :: x10 :: x11 :: x12 :: x13 :: x14 :: x15 :: x16 :: x17 :: x18 :: x19 :: x20 :: x21 :: x22 :: x23 :: ρ) H N := h
theorem wV24 (h : Q v H) : tVar 24 (x0 :: x1 :: x2 :: x3 :: x4 :: x5 :: x6 :: x7 :: x8 :: x9 :: x10 :: x11 :: x12 :: x13 :: x14 :: x15 :: x16 :: x17 :: x18 :: x19 :: x20 :: x21 :: x22 :: x23 :: some v :: ρ) H Q := ⟨v, rfl, h⟩
theorem wG24 (h : N (x0 :: x1 :: x2 :: x3 :: x4 :: x5 :: x6 :: x7 :: x8 :: x9 :: x10 :: x11 :: x12 :: x13 :: x14 :: x15 :: x16 :: x17 :: x18 :: x19 :: x20 :: x21 :: x22 :: x23 :: some v :: ρ) H) : gName 24 v (x0 :: x1 :: x2 :: x3 :: x4 :: x5 :: x6 :: x7 :: x8 :: x9 :: x10 :: x11 :: x12 :: x13 :: x14 :: x15 :: x16 :: x17 :: x18 :: x19 :: x20 :: x21 :: x22 :: x23 :: x24 :: ρ) H N := h
theorem wV25 (h : Q v H) : tVar 25 (x0 :: x1 :: x2 :: x3 :: x4 :: x5 :: x6 :: x7 :: x8 :: x9 :: x10 :: x11 :: x12 :: x13 :: x14 :: x15 :: x16 :: x17 :: x18 :: x19 :: x20 :: x21 :: x22 :: x23 :: x24 :: some v :: ρ) H Q := ⟨v, rfl, h⟩
theorem wG25 (h : N (x0 :: x1 :: x2 :: x3 :: x4 :: x5 :: x6 :: x7 :: x8 :: x9 :: x10 :: x11 :: x12 :: x13 :: x14 :: x15 :: x16 :: x17 :: x18 :: x19 :: x20 :: x21 :: x22 :: x23 :: x24 :: some v :: ρ) H) : gName 25 v (x0 :: x1 :: x2 :: x3 :: x4 :: x5 :: x6 :: x7 :: x8 :: x9 :: x10 :: x11 :: x12 :: x13 :: x14 :: x15 :: x16 :: x17 :: x18 :: x19 :: x20 :: x21 :: x22 :: x23 :: x24 :: x25 :: ρ) H N := h
theorem wV26 (h : Q v H) : tVar 26 (x0 :: x1 :: x2 :: x3 :: x4 :: x5 :: x6 :: x7 :: x8 :: x9 :: x10 :: x11 :: x12 :: x13 :: x14 :: x15 :: x16 :: x17 :: x18 :: x19 :: x20 :: x21 :: x22 :: x23 :: x24 :: x25 :: some v :: ρ) H Q := ⟨v, rfl, h⟩
theorem wG26 (h : N (x0 :: x1 :: x2 :: x3 :: x4 :: x5 :: x6 :: x7 :: x8 :: x9 :: x10 :: x11 :: x12 :: x13 :: x14 :: x15 :: x16 :: x17 :: x18 :: x19 :: x20 :: x21 :: x22 :: x23 :: x24 :: x25 :: some v :: ρ) H) : gName 26 v (x0 :: x1 :: x2 :: x3 :: x4 :: x5 :: x6 :: x7 :: x8 :: x9 :: x10 :: x11 :: x12 :: x13 :: x14 :: x15 :: x16 :: x17 :: x18 :: x19 :: x20 :: x21 :: x22 :: x23 :: x24 :: x25 :: x26 :: ρ) H N := h
end
theorem perm4 {A : Type} {a b c d r : A} {L : List A} : (a :: b :: c :: d :: r :: L).Perm (r :: a :: b :: c :: d :: L) := List.perm_middle (l₁ := [a, b, c, d])
end Z

set_option Elab.async false
set_option linter.all false
set_option maxRecDepth 100000
set_option maxHeartbeats 2000500
/-! ### t[::-1] of a tuple -/
namespace Z
open PySem PySem.Spec PyProof.Rows L2 HT
section
variable {prog : Program} {w : World} {A :
      Around} {E : Value → Shared → Prop} {s : Shared}
theorem adjust_rev (n : Nat) : Builtin.Slice.sliceAdjust none none (-1) (n : Int) = ((n : Int) - 1, -1) := by
  unfold
        Builtin.Slice.sliceAdjust
  simp
theorem places_rev (n : Nat) : Builtin.Slice.slicePlaces ((n : Int) - 1) (-1) (-1) = n := by
  unfold
        Builtin.Slice.slicePlaces
  have h1 : ¬ ((-1 : Int) > 0) := by omega
  simp only [h1, if_false, Int.neg_neg, Int.ediv_one]
  split <;> omega
theorem sliceApplied_rev {sl : Addr} {vs : Value} {n : Nat} {Q : Int × Int × Nat → Shared → Prop} (hs : s.heap.IsSliceOf sl .none .none vs) (ps : IsPart vs (some (-1)))
    (h : Q ((n : Int) - 1, -1, n) s) : wpAny (model prog w) A (Builtin.Slice.sliceApplied (.ref sl) (pure (n : Int))) Q E s := by
  obtain ⟨os, hos,
        hcs, hds⟩ := id hs
  unfold Builtin.Slice.sliceApplied
        Builtin.Slice.sliceFields
  refine wpAny_bind (wpAny_bind (wpAny_field hos hds (x := .none) rfl (wpAny_bind (wpAny_field hos hds (x := .none) rfl (wpAny_bind (wpAny_field hos hds (x := vs) rfl (wpAny_pure ?_)))))))
  refine wpAny_bind (slicePart_ ps ?_)
  show wpAny _ _ (if ((-1 : Int) == 0) = true then _ else _) _ _ s
  rw [if_neg (by decide)]
  refine wpAny_bind (slicePart_none (wpAny_bind (slicePart_none (wpAny_bind (wpAny_pure ?_)))))
  show wpAny _ _ (match Builtin.Slice.sliceAdjust none none (-1) (n : Int) with | (lo, hi) => pure (lo, (-1 : Int), Builtin.Slice.slicePlaces lo hi (-1))) _ _ s
  rw [adjust_rev]
  show wpAny _ _ (pure ((n : Int) - 1, (-1 : Int), Builtin.Slice.slicePlaces ((n : Int) - 1) (-1) (-1))) _ _ s
  rw [places_rev]
  exact wpAny_pure h
theorem fmap_map {α β : Type} {f : α → Option β} {g : α → β} : ∀ {l : List α}, (∀ x ∈ l, f x = some (g x)) → l.filterMap f = l.map g
  | [], _ => rfl
  | x :: r, h => by
    rw [List.filterMap_cons, h x List.mem_cons_self, List.map_cons]
    show _ :: _ = _ :: _
    rw [fmap_map fun y hy => h y (List.mem_cons_of_mem _ hy)]
theorem pick_rev (xs : Array Value) : ((List.range xs.size).filterMap fun (m : Nat) => xs[((xs.size : Int) - 1 + (m : Int) * -1).toNat]?).toArray = xs.toList.reverse.toArray := by
  congr 1
  apply List.ext_getElem?
  intro j
  have e : (List.range xs.size).filterMap (fun (m : Nat) => xs[((xs.size : Int) - 1 + (m : Int) * -1).toNat]?) = (List.range xs.size).map (fun m => xs.toList.reverse.getD m .none) := by
    refine fmap_map fun m hm => ?_
    have hm := List.mem_range.mp hm
    have e1 : ((xs.size : Int) - 1 + (m : Int) * -1).toNat = xs.size - 1 - m := by omega
    rw [e1]
    show xs[xs.size - 1 - m]? = some (xs.toList.reverse.getD m .none)
    rw [← Array.getElem?_toList, List.getD_eq_getElem?_getD, List.getElem?_reverse (by simpa using hm)]
    have hl : xs.toList.length - 1 - m < xs.toList.length := by rw [Array.length_toList]; omega
    rw [Array.length_toList, List.getElem?_eq_getElem (by rw [Array.length_toList]; omega)]
    rfl
  rw [e, List.getElem?_map]
  by_cases hj : j < xs.size
  · rw [List.getElem?_range hj]
    have hl : j < xs.toList.reverse.length := by rw [List.length_reverse, Array.length_toList]; exact hj
    rw [List.getElem?_eq_getElem hl]
    show some (xs.toList.reverse.getD j .none) = _
    rw [List.getD_eq_getElem?_getD, List.getElem?_eq_getElem hl]
    rfl
  · rw [List.getElem?_eq_none (by rw [List.length_range]; omega), List.getElem?_eq_none (by rw [List.length_reverse, Array.length_toList]; omega)]
    rfl
theorem getItem_tuple_rev {t sl : Addr} {items : Array Value} {vs : Value} {Q : Value → Shared → Prop} (ht : IsTup s.heap t items) (hs : s.heap.IsSliceOf sl .none .none vs) (ps : IsPart vs (some (-1)))
    (h : Q (.ref s.heap.objs.size) { s with heap := s.heap.push { cls := .type "tuple", data := .seq items.toList.reverse.toArray } })
    (hsz : items.size ≤ sizeLine) : wpAny (model prog
          w) A (getItem (.ref t) (.ref sl)) Q E s := by
  have htake : sizeOk (.seq items.toList.reverse.toArray) := by
    show items.toList.reverse.toArray.size ≤ sizeLine
    rw [List.size_toArray, List.length_reverse, Array.length_toList]
    exact hsz
  obtain ⟨os, hos,
        hcs, hds⟩ := id hs
  have hTs : s.TypeIs (.ref sl)
        "slice" := ⟨os, hos, hcs⟩
  unfold getItem
  try (with_reducible refine wpAny_holding ?_)
  first | (refine wpAny_bind (wpAny_pure ?_)) | skip
  refine wpAny_bind (wpAny_sequenceKey
        ht.typeIs (by decide) ?_)
  refine wpAny_bind (wpAny_callSpecial?_slot (name := Str.ofString
        "__getitem__") ht.typeIs PyProof.Rows.slot_tuple_getitem
    (wpAny_call_entry PyProof.Rows.slot_tuple_getitem
          ht.typeIs entry_tuple_getitem ?_ (args_tuple_getitem _ _)))
  show wpAny _ _ (Builtin.Tuple.tupleItemsOf
        (.ref t) >>= _) _ _ s
  refine wpAny_bind
        (tupleItemsOf_ ht ?_)
  refine wpAny_bind
        (wpAny_typeOf hTs ?_)
  rw [if_pos (by decide)]
  refine wpAny_bind (sliceApplied_rev hs ps ?_)
  show wpAny _ _ (if (((items.size : Int) - 1) == 0 && (-1 : Int) == 1 && items.size == items.size) = true then _ else _) _ _ s
  rw [if_neg (by simp), pick_rev]
  first
    | exact wpAny_bind (m := Builtin.Tuple.tupleExact _)
          (wpAny_newObj_type (wpAny_pure ⟨_, rfl, wpAny_pure h⟩) htake)
    | exact wpAny_bind (m := Builtin.Tuple.tupleExact _) (wpAny_newObj_type
          (wpAny_bind (wpAny_pure (wpAny_pure ⟨_, rfl, wpAny_pure h⟩))) htake)
    | exact wpAny_bind (wpAny_bind (m := Builtin.Tuple.tupleExact _)
          (wpAny_newObj_type (wpAny_pure (wpAny_pure ⟨_, rfl, wpAny_pure h⟩)) htake))
    | exact wpAny_bind (wpAny_bind (m := Builtin.Tuple.tupleExact _)
          (wpAny_newObj_type (wpAny_pure ⟨_, rfl, wpAny_pure h⟩) htake))
end
section
variable {X : Cx}
/-- x[::-1] of a list or of a tuple -/
def tRevS (K : PySem.W.Frag) (te : TE) : TE := fun σ H Q => te σ H fun x H1 => ∃ a xs, x = .ref a ∧ ((SqL K H1 a xs ∧ ∀ p, H1 p = none → Q (.ref p) (upd H1 p (.lst xs.reverse))) ∨ (SqT K H1 a xs ∧ ∀ p, H1 p = none → Q (.ref p) (upd H1 p (.tup xs.reverse))))
theorem pe_revS {e : Expr} {te : TE} {k : Nat} {p1 p2 p3 pos : Pos} (he : PE X e te) : PE X (.Subscript e (.Slice none none (some (.UnaryOp .USub (.Constant (.int 1) k p1) p2)) p3) pos) (tRevS X.K te) := by
  refine ⟨fun pins
        s σ H Q I h => ?_⟩
  refine Subscript_ (thn (he.run pins s σ H
        _ I h) fun v s1 ⟨x, H1, I1, r1, q1⟩ => ?_)
  obtain ⟨a, xs, ex, q⟩ := q1
  subst ex
  cases r1
  have hst : PO X (some (.UnaryOp .USub (.Constant (.int 1) k p1) p2)) (tPart
        (tUn (rU fun i => .int (-i)) (tC (.int 1)))) := po_some (pe_un un_neg pe_int)
  refine wpAny_Slice (thn (po_none.run pins s1 σ H1 (fun o H2 => o = none
        ∧ H2 = H1) I1 ⟨rfl, rfl⟩) fun vl s2 ⟨l, H2, I2, pl, el, e2⟩ => ?_)
  subst el e2
  refine thn (po_none.run pins s2 σ H2 (fun o H3 => o = none ∧ H3
        = H2) I2 ⟨rfl, rfl⟩) fun vu s3 ⟨u, H3, I3, pu, eu, e3⟩ => ?_
  subst eu e3
  refine thn (hst.run pins s3 σ H3 (fun o H4 => o = some (-1) ∧ H4 = H3)
        I3 ⟨1, rfl, -1, rfl, rfl, rfl⟩) fun vs s4 ⟨o, H4, I4, ps, eo, e4⟩ => ?_
  subst eo e4
  have I5 : Inv X pins σ H4 {
        s4 with heap := s4.heap.push { cls := .type "slice", data := .fields #[vl, vu, vs] } } := I4.kept (t' := s4.toks) fun b ob q => Heap.get?_push_of_some _ q
  rcases q with ⟨hx, q⟩ | ⟨hx, q⟩
  · obtain ⟨its, r, ht, hz⟩ := I5.list hx
    have hlen := r.length
    show wpAny (model X.prog X.w) X.A (subscriptTail e (.Slice none none (some (.UnaryOp .USub (.Constant (.int 1) k p1) p2)) p3) (.ref a)
          (.ref s4.heap.objs.size)) (EP X pins σ Q) X.xe { s4 with heap := s4.heap.push { cls := .type "slice", data := .fields #[vl, vu, vs] } }
    refine tail_any (ops := [.ref a, .ref s4.heap.objs.size]) ht.isList.typeIs
          (PySem.slot_list_getitem.lookup) ?_ (by with_unfolding_all rfl)
    refine wpAny_getItem_list_slice ht.isList (Heap.IsSliceOf.new _ vl
          vu vs) pl pu ps (by decide) ?_ (by rw [List.size_toArray]; omega)
    rw [PySem.W.krv_pick]
    refine ⟨.ref _, _, I5.laid (t' := s4.toks) (o := .lst xs.reverse) (fun b ob q =>
          Heap.get?_push_of_some _ q) (Nat.le_refl _) ?_, rfl, q _ (I5.hok.fresh (Nat.le_refl _))⟩
    exact ⟨by rw [List.length_reverse]; exact hz,
          _, 0, r.reverse, Heap.get?_push_size _ rfl⟩
  · obtain ⟨its, r, ht, hz⟩ := I5.tuple hx
    have hlen := r.length
    cases pl
    cases pu
    show wpAny (model X.prog X.w) X.A (subscriptTail e (.Slice none none (some (.UnaryOp .USub (.Constant (.int 1) k p1) p2)) p3) (.ref a) (.ref s4.heap.objs.size)) (EP X pins σ Q) X.xe { s4 with heap := s4.heap.push { cls := .type "slice", data := .fields #[.none, .none, vs] } }
    refine tail_any (ops := [.ref a, .ref s4.heap.objs.size]) ht.typeIs (PyProof.Rows.slot_tuple_getitem.lookup) ?_ (by with_unfolding_all rfl)
    refine getItem_tuple_rev ht (Heap.IsSliceOf.new _ .none .none vs) ps ?_ (by rw [List.size_toArray]; omega)
    refine ⟨.ref _, _, I5.laid (t' := s4.toks) (o := .tup xs.reverse) (fun b ob q => Heap.get?_push_of_some _ q) (Nat.le_refl _) ?_, rfl, q _ (I5.hok.fresh (Nat.le_refl _))⟩
    exact ⟨by rw [List.length_reverse]; exact hz, _, r.reverse, IsTup.new _ _⟩
end
end Z
/-! ### tuple(reversed(t)) of a tuple -/
namespace Z
open PySem PySem.Spec PyProof.Rows RT
theorem nolen_rt : typeLookup (.type "reversed") "__len__" = pure none := by rw [typeLookup_type, builtinLookup_eq_fast]; kernel_rfl
theorem hint_rt : typeLookup (.type "reversed") "__length_hint__" = pure (some (.builtin "reversed.__length_hint__")) := by rw [typeLookup_type, builtinLookup_eq_fast]; kernel_rfl
theorem slot_rt_hint : Slot "reversed" (Str.ofString "__length_hint__") "reversed.__length_hint__" := by
  refine Slot.of (owner := "reversed") (n := "__length_hint__") hint_rt ?_ ?_ ?_ (Or.inr ?_) ?_ ?_
  all_goals first | (rw [isSubtype_type]; kernel_rfl) | kernel_rfl | decide +kernel
theorem entry_rt_hint : entryFor table "reversed.__length_hint__" = some Builtin.«reversed.__length_hint__» := entryFor_of_tree (by kernel_rfl)
theorem args_rt_hint (a : Value) : argsOk "reversed.__length_hint__" { pos := [a] } := by
  show (match Manifest.signature? "reversed.__length_hint__" with | some sig => Bind.checkArgs "reversed.__length_hint__" sig { pos := [a] } | none => pure ()) = pure ()
  rw [signature?_of (n := "__length_hint__".toList.reverse) (o := "reversed".toList.reverse) (by kernel_rfl) RT.owner_rt]
  kernel_rfl
section
variable {prog : Program} {w : World} {A :
      Around} {E : Value → Shared → Prop} {s : Shared}
theorem call_hint_rt {it l : Addr} {items : Array Value} {Q : Value → Shared → Prop} (hit : IsRt s.heap it l ((items.size : Int) - 1)) (hl : IsTup s.heap l items) (hn : items.size ≤ sizeLine)
    (hQ : ∀ tk tk', Q (.int (items.size : Int) tk) { s with toks := tk' }) :
    wpAny (model prog w) A (call (.builtin "reversed.__length_hint__") [.ref it]) Q E s := by
  refine wpAny_call_entry slot_rt_hint hit.typeIs entry_rt_hint ?_ (args_rt_hint _)
  obtain ⟨o, ho,
        hc, hd⟩ := id hit
  unfold Builtin.«reversed.__length_hint__»
  have hz : ((items.size : Nat) : Int) < 2 ^ 63 := by
    have : sizeLine < 2 ^ 63 := by decide +kernel
    omega
  wp_walk using wpAny_field ho hd (i := 0) (x := .ref l) rfl, wpAny_field ho hd (i := 1) (x := rawInt ((items.size : Int) - 1)) rfl, len_tuple hl hz
  rw [hd]
  wp_walk
  rw [show ((items.size : Int) - 1) + 1 = items.size from by omega]
  exact ⟨_, rfl, hQ _ _⟩
end
theorem Walks.tupRev {prog : Program} {w : World} {A : Around} (hh : A.handled = none) (I l : Addr) (hne : l ≠ I) (items : Array Value) (hz : items.size ≤ sizeLine) :
    Walks prog w A I [I, l] [I] items.size (fun i v => items[items.size - 1 - i]? = some v) (fun i h => i ≤ items.size ∧ IsRt h I l ((items.size : Int) - 1 - (i : Int)) ∧ IsTup h l items) where
  sub := fun b hb => by
    simp at hb; simp [hb]
  frame := fun _ _ _ x hk => ⟨x.1, x.2.1.at fun o e => hk I (by simp) o e, by
    obtain ⟨o, ho, r⟩ := x.2.2
    exact ⟨o, hk l (by simp) o ho, r⟩⟩
  item := fun i s
        Q E hi x hQ => by
    have e : (items.size : Int) - 1 - (i : Int) =
          ((items.size - 1 - i : Nat) : Int) := by omega
    have hit := x.2.1
    rw [e] at hit
    have hx : items[items.size - 1 - i]? = some (items[items.size - 1 - i]'(by
          omega)) := Array.getElem?_eq_getElem (by omega)
    refine next_rt_item hit x.2.2 hx hz fun h' hit' hs' => ?_
    have e2 : ((items.size - 1 - i : Nat) : Int) - 1 = (items.size : Int) - 1 -
          ((i + 1 : Nat) : Int) := by omega
    rw [e2] at hit'
    refine hQ _ h' (s.toks + 1) hx ⟨hi, hit', ?_⟩ fun b o hb eo => hs'.extBut b o (fun h => hb (by simp [h])) eo
    obtain ⟨o, ho, r⟩ := x.2.2
    exact ⟨o, (hs'.2 l hne).trans ho, r⟩
  done := fun s Q E x hQ => by
    have e : (items.size : Int) - 1 -
          (items.size : Int) = -1 := by omega
    have hit := x.2.1
    rw [e] at hit
    exact next_rt_end hh hit fun h' he' => hQ h' s.toks fun b o hb eo => he' b o (fun h => hb (by simp [h])) eo
  self := fun _ _ _ _ x hQ => iter_rt x.2.1 hQ
section
variable {prog : Program} {w : World} {A :
      Around} {E : Value → Shared → Prop} {s : Shared}
theorem fits_size {n : Nat} (hn : n ≤ sizeLine) : Builtin.List.listFitsIndex (n : Int) = true := by
  have : sizeLine < 2 ^ 63 := by decide +kernel
  unfold
        Builtin.List.listFitsIndex
  rw [Bool.and_eq_true,
        decide_eq_true_eq, decide_eq_true_eq]
  omega
theorem notlong_size {n : Nat} (hn : n ≤ sizeLine) : Builtin.List.listTooLong (n : Int).toNat = false := by
  unfold
        Builtin.List.listTooLong
  rw [decide_eq_false_iff_not]
  omega
theorem hint_wp {it l : Addr} {items : Array Value} {Q : Bool → Shared → Prop} (hit : IsRt s.heap it l ((items.size : Int) - 1)) (hl : IsTup s.heap l items) (hn : items.size ≤ sizeLine)
    (hQ : ∀ b tk', Q b { s with toks := tk' }) :
    wpAny (model prog w) A (Builtin.List.listLengthHint (.ref it)) Q E s := by
  have hT : s.TypeIs (.ref it) "reversed" := hit.typeIs
  unfold
        Builtin.List.listLengthHint
  refine wpAny_bind (wpAny_specialOf hT nolen_rt ?_)
  show wpAny _ A (specialOf (Value.ref it) (Str.ofString "__length_hint__") >>= _) _ _ _
  refine wpAny_bind (wpAny_specialOf hT hint_rt ?_)
  generalize hid : ("reversed.__length_hint__" : String) = id0
  wp_delta
  rw [show splitId id0 = some ("reversed", "__length_hint__") from by subst hid; decide +kernel]
  subst hid
  refine wpAny_bind (wpAny_isInstance (b := true)
        hT (by rw [isSubtype_type]; kernel_rfl) ?_)
  rw [if_neg (by decide)]
  rw [if_neg (by
        decide +kernel)]
  refine wpAny_bind
        (wpAny_rule ?_)
  rw [slot_rt_hint.bind]
  refine wpAny_bind
        (wpAny_pure ?_)
  refine wpAny_bind (wpAny_attempt (call_hint_rt hit hl hn fun tk tk' => ?_))
  have hfit := fits_size hn
  have hlong := notlong_size hn
  have hneg : ¬ (items.size : Int) < 0 := by omega
  generalize (items.size : Int) = nn at hfit hlong hneg ⊢
  dsimp only
  rw [asInt?.eq_1]
  refine wpAny_bind
        (wpAny_pure ?_)
  dsimp only
  rw [hfit, hlong]
  rw [if_neg (by decide), if_neg hneg, if_neg (by decide)]
  exact wpAny_pure (hQ _ _)
theorem collect_revT {it l : Addr} {items : Array Value} {Q : List Value → Shared → Prop} (hh : A.handled = none) (hit : IsRt s.heap it l ((items.size : Int) - 1)) (hl : IsTup s.heap l items) (hne : l ≠ it) (hn : items.size ≤ sizeLine)
    (hQ : ∀ (h' : Heap) (tk : Nat) (acc : Array Value), (∀ b o, b ≠ it → s.heap.get? b = some o → h'.get? b = some o) →
          ItemsOf (fun i v => items[items.size - 1 - i]? = some v) acc items.size → Q acc.toList { s with heap := h', toks := tk }) :
    wpAny (model prog w) A (collect
          (.ref it)) Q E s := by
  have W := (Walks.tupRev (prog := prog) (w := w) (A := A.in1) hh it l hne items hn).toS
  obtain ⟨oi, hoi, _⟩ := id hit
  obtain ⟨ol, hol, hrl⟩ := id hl
  have hSi : s.heap.objs.size ≠ it :=
        Nat.ne_of_gt (Heap.lt_size hoi)
  have hSl : s.heap.objs.size ≠ l :=
        Nat.ne_of_gt (Heap.lt_size hol)
  have hSf : s.heap.objs.size ∉ [it, l] := by
    simp only [List.mem_cons, List.not_mem_nil, or_false, not_or]; exact ⟨hSi, hSl⟩
  unfold collect
  refine wpAny_bind (wpAny_runValue (codeAny_builtin
        F.entry_proto_collect ?_))
  rw [Around.under_plainId
        F.plain_proto_collect _]
  show wpAny _ A.in1 (newList [] >>= fun l' =>
    again (.builtin "list.__iadd__" ⟨[l', .ref it], []⟩)) _ _ s
  refine wpAny_bind
        (wpAny_newObj_type ?_)
  refine wpAny_pure ⟨plainId_quiet F.plain_list_iadd _,
        codeAny_builtin F.entry_list_iadd ?_⟩
  rw [Around.under_plainId
        F.plain_list_iadd _]
  have hS₁ : (s.heap.push { cls := .type "list", data := .seq ([] : List Value).toArray }).get? s.heap.objs.size =
      some { cls := .type "list", data := .seq ([] : List Value).toArray } := Heap.get?_push_size _ rfl
  have hit1 : IsRt (s.heap.push { cls := .type "list", data := .seq ([] : List Value).toArray }) it l ((items.size : Int) - 1) := hit.at fun o e => Heap.get?_push_of_some _ e
  have hl1 : IsTup (s.heap.push { cls := .type "list", data := .seq ([] : List Value).toArray }) l items := ⟨ol, Heap.get?_push_of_some _ hol, hrl⟩
  have hT : ({ s with heap := s.heap.push { cls := .type "list", data := .seq ([] : List Value).toArray } } : Shared).TypeIs (.ref it) "reversed" := IsRt.typeIs (s := { s with heap := s.heap.push { cls := .type "list", data := .seq ([] : List Value).toArray } }) hit1
  have h1 : Builtin.List.listSameRef (.ref s.heap.objs.size) (.ref it) = false := by
    simp [Builtin.List.listSameRef, hSi]
  show wpAny _ A.in1 (Builtin.List.listExtendWith (.ref s.heap.objs.size)
        (.ref it) (.ref s.heap.objs.size)) _ _ _
  unfold
        Builtin.List.listExtendWith
  refine wpAny_bind
        (wpAny_typeOf hT ?_)
  rw [if_neg (show ¬ _ = true by rw [h1]; decide)]
  refine wpAny_bind (iter_rt (s := { s with heap := s.heap.push { cls := .type "list", data := .seq ([] : List Value).toArray } }) hit1 ?_)
  refine wpAny_bind
        (wpAny_holding ?_)
  have e0 : ((items.size : Nat) : Int) - 1 - ((0 : Nat) : Int) =
        (items.size : Int) - 1 := by omega
  have key : ∀ (R : Result → Shared → Prop) (h2 : Heap) (c tk2 : Nat), h2.get? s.heap.objs.size = some { cls := .type "list", data := .seq #[] c } →
      (∀ b o, b ≠ s.heap.objs.size → s.heap.get? b = some o → h2.get? b = some o) →
      (∀ (h' : Heap) (tk3 c' : Nat) (acc : Array Value), h'.get? s.heap.objs.size = some { cls := .type "list", data := .seq acc c' } →
        (∀ b o, b ≠ it → s.heap.get? b = some o → h'.get? b = some o) → ItemsOf (fun i v => items[items.size - 1 - i]? = some v) acc items.size → R (Except.ok (Flow.ret (.ref s.heap.objs.size))) { s with heap := h', toks := tk3 }) →
      codeAny (model prog w) A (.builtin "list.extend.loop" { pos := [.ref s.heap.objs.size, .ref it, .ref s.heap.objs.size] }) R { s with heap := h2, toks := tk2 } := by
    intro R h2 c tk2 g2 f2 hR
    have g3 : ({ s with heap := h2, toks := tk2 } : Shared).heap.get? s.heap.objs.size = some { cls := .type "list", data := .seq #[] c } := g2
    refine codeAny_extend_loopS W hn _ hSf _ items.size 0 _ _ _ rfl (Nat.zero_le _) ⟨Nat.zero_le _, ?_, ?_⟩ g3 (ItemsOf.nil _) fun s' acc' c' hm hS' hacc => ?_
    · rw [e0]
      obtain ⟨o9, h9, r9⟩ := hit
      exact ⟨o9, f2 _ _ (Ne.symm hSi) h9, r9⟩
    · exact ⟨ol, f2 _ _ (Ne.symm hSl) hol, hrl⟩
    have em := Moved.eq_with hm
    have frame : ∀ b o, b ≠ it → s.heap.get? b = some o → s'.heap.get? b = some o := fun b o hb e => hm.heap b o (fun hmem => by
      rcases List.mem_cons.mp
            hmem with e' | hmem
      · exact absurd (Heap.lt_size e)
            (by rw [e']; exact Nat.lt_irrefl _)
      · exact hb (List.mem_singleton.mp hmem)) (f2 b o (fun e' => absurd (Heap.lt_size e) (by rw [e']; exact Nat.lt_irrefl _)) e)
    rw [em]
    exact hR s'.heap s'.toks c' acc' hS' frame hacc
  refine hint_wp hit1 hl1 hn fun b tk' => ?_
  have fin : ∀ (h2 : Heap) (c : Nat), h2.get? s.heap.objs.size = some { cls := .type "list", data := .seq #[] c } →
      (∀ b o, b ≠ s.heap.objs.size → s.heap.get? b = some o → h2.get? b = some o) →
      codeAny (model prog w) A (.builtin "list.extend.loop" { pos := [.ref s.heap.objs.size, .ref it, .ref s.heap.objs.size] })
        (fun r s' => match r with
          | Except.ok (Flow.ret v) => wpAny (model prog w) A (match v with
            | .ref a => load a >>= fun o => match o.data with
              | .seq xs _ => pure xs.toList
              | _ => unsupported
                    "internal:collect"
            | _ => unsupported "internal:collect") Q E s'
          | Except.ok _ => False
          | Except.error e => E e s') { s with heap := h2, toks := tk' } := by
    intro h2 c g2 f2
    refine key _ h2 c tk' g2 f2 fun h' tk3 c' acc g3 f3 hacc => ?_
    show wpAny (model prog w) A (load s.heap.objs.size >>= _) _ _ _
    refine wpAny_bind (wpAny_load g3 ?_)
    exact wpAny_pure (hQ h' tk3 acc f3 hacc)
  have f1 : ∀ b o, b ≠ s.heap.objs.size → s.heap.get? b = some o → (s.heap.push { cls := .type "list", data := .seq ([] : List Value).toArray }).get? b = some o := fun b o _ e => Heap.get?_push_of_some _ e
  rw [show (Bool.or b _) = b from ?hb]
  case hb => exact Bool.or_false b
  cases b
  · rw [if_neg (by decide)]
    exact wpAny_pure ⟨plainId_quiet F.plain_extend_loop _, fin _ _ hS₁ f1⟩
  · rw [if_pos rfl]
    refine wpAny_bind
          (wpAny_rule ?_)
    unfold Builtin.List.listTouch
    refine wpAny_bind (wpAny_bind (wpAny_updateSeq hS₁ rfl ?_))
    have g2 := Heap.get?_update_self (f := Obj.mapSeq fun x => x.push Value.none) hS₁ rfl
    refine wpAny_updateSeq g2 rfl ?_
    have g3 := Heap.get?_update_self (f := Obj.mapSeq fun x => x.pop) g2 rfl
    exact wpAny_pure ⟨plainId_quiet F.plain_extend_loop _, fin _ _ g3 fun b o hb e => Heap.get?_update_of_ne _ (Ne.symm hb) (Heap.get?_update_of_ne _ (Ne.symm hb) (f1 b o hb e))⟩
theorem code_tuple_new_revT {it l : Addr} {items : Array Value} {Q₁ : Value → Shared → Prop} (hh : A.handled = none) (hit : IsRt s.heap it l ((items.size : Int) - 1)) (hl : IsTup s.heap l items) (hne : l ≠ it) (hn : items.size ≤ sizeLine)
    (h : ∀ (h' : Heap) (tk : Nat) (acc : Array Value), (∀ b o, b ≠ it → s.heap.get? b = some o →
          h'.get? b = some o) → ItemsOf (fun i v => items[items.size - 1 - i]? = some v) acc items.size →
      Q₁ (.ref h'.objs.size) {
            s with heap := h'.push { cls := .type "tuple", data := .seq acc }, toks := tk }) :
    codeAny (model prog w) A (.call (.builtin "tuple.__new__")
          ⟨[.type "tuple", .ref it], []⟩) (wants Q₁ E) s := by
  refine codeAny_of_tree ?_
  show wpAny _ A.in1 (checkBuiltinCall "tuple.__new__" ⟨[.type "tuple", .ref it], []⟩ >>= fun _ =>
    again (.builtin "tuple.__new__" ⟨[.type "tuple", .ref it], []⟩)) _ _ s
  refine wpAny_bind (wpAny_of_eq (F.newCall_tuple_1 _) (wpAny_pure ⟨plainId_quiet
        F.plain_tuple_new _, codeAny_builtin F.entry_tuple_new ?_⟩))
  rw [Around.under_plainId
        F.plain_tuple_new _]
  have hsub := sub_tuple_self
  have hinit :=
        init_tuple_lookup
  have hmh := madeHere_tuple
  have hTI : s.TypeIs (.ref it) "reversed" := hit.typeIs
  have hh1 : A.in1.handled
        = none := hh
  wp_walk using wpAny_typeOf hTI, collect_revT (A := A.in1) hh1 hit hl hne hn
  intro h' tk acc hk hacc
  show wpAny _ _ (Builtin.Tuple.tupleExact acc.toList.toArray
        >>= fun v => ret v) _ _ _
  unfold
        Builtin.Tuple.tupleExact
  have hza : acc.toList.toArray.size ≤ sizeLine := by
    simp only [Array.toArray_toList]; rw [hacc.1]; exact hn
  refine wpAny_bind (wpAny_newObj_type ?_ hza)
  refine wpAny_pure ?_
  have e : acc.toList.toArray
        = acc := by simp
  rw [e]
  exact h h' tk acc
        hk hacc
theorem call_tuple_revT {it l : Addr} {items : Array Value} {Q : Value → Shared → Prop} (hh : A.handled = none) (hit : IsRt s.heap it l ((items.size : Int) - 1)) (hl : IsTup s.heap l items) (hne : l ≠ it) (hn : items.size ≤ sizeLine)
    (hQ : ∀ (h' : Heap) (tk : Nat) (acc : Array Value), (∀ b o, b ≠ it → s.heap.get? b = some o →
          h'.get? b = some o) → ItemsOf (fun i v => items[items.size - 1 - i]? = some v) acc items.size →
      Q (.ref h'.objs.size) {
            s with heap := h'.push { cls := .type "tuple", data := .seq acc }, toks := tk }) :
    wpAny (model prog w) A (call (.type
          "tuple") [.ref it]) Q E s := by
  refine callType_codes (Q₁ := fun obj s₁ => s₁.TypeIs obj "tuple" ∧ Q obj s₁)
        F.called_tuple (F.typeCall_tuple_1 _) F.entry_object_init
    (code_tuple_new_revT (A := A.in1) hh hit hl hne hn fun h' tk acc hk hacc => ⟨⟨_, Heap.get?_push_size _ rfl, rfl⟩, hQ h' tk acc hk hacc⟩) fun obj s₁ h₁ => ?_
  exact ⟨h₁.1, F.args_object_init_2 obj _, object_init_meets F.called_tuple.init.lookup F.called_tuple.made
        (by decide) prog w A.in1 _ s₁ ⟨h₁.1, rfl, h₁.2⟩⟩
end
end Z

set_option Elab.async false
set_option linter.all false
set_option maxRecDepth 100000
set_option maxHeartbeats 2000500
/-! ### t * 1 of a tuple: the same tuple -/
namespace Z
open PySem PySem.Spec PyProof.Rows L2 HT
theorem tuple_mul1 (l : Addr) (items : Array Value) (n : Nat) (dd : Option Addr) (sl : Array (Option Value)) (x : Int) (u : Tok)
    (c0 : (decide (x < -2 ^ 63) || decide (x ≥ 2 ^ 63)) = false) (c1 : (items.isEmpty || x == 1) = true) :
    Meets (Builtin.«tuple.__mul__» { pos := [Value.ref l, Value.int x u] }) fun _ R s =>
      s.heap.get? l = some { cls := Value.type "tuple", dict := dd, data := Data.seq items n, slots := sl } ∧ R (Except.ok (Flow.ret (Value.ref l))) s :=
  Meets.of_wp fun prog w A R s h => by
    obtain ⟨hp, g,
          d, tk, os⟩ := s
    obtain ⟨hl, h⟩ := h
    have f1 := AutoSeq1.idx_int
    have hT : (⟨hp, g, d, tk, os⟩ : Shared).TypeIs (.ref l) "tuple" := ⟨_, hl, rfl⟩
    wp_walk
    rw [if_neg (by rw [c0]; decide)]
    refine wpAny_bind (tupleItemsOf_ (items := items) ⟨_, hl, rfl, _, rfl⟩ ?_)
    rw [if_pos c1]
    unfold Builtin.Tuple.tupleIsExact
    wp_walk using wpAny_typeOf hT
    exact ⟨_, rfl, h⟩
/-- t * k of a tuple that is not empty, k at least 1 -/
def rRep1 (K : PySem.W.Frag) : R2 := fun x y H Q => ∃ l k xs, x = .ref l ∧ y = .int k ∧ SqT K H l xs ∧ xs ≠ [] ∧ 1 ≤ k ∧ k ≤ 1000 ∧ xs.length ≤ 1000 ∧
  (k = 1 → Q (.ref l) H) ∧ (k ≠ 1 → ∀ p, H p = none → Q (.ref p) (upd H p (.tup (List.replicate k.toNat xs).flatten)))
theorem op_rep1 {X : Cx} : OpR X (binaryOp Operator.Mult) (rRep1 X.K) := by
  intro pins s σ H x
        y v u Q I rx ry h
  obtain ⟨l, k, xs, ex, ey, hT, hne, h1, h2, hz, q1, q2⟩ := h
  by_cases hk : k = 1
  · subst ex ey
    cases rx
    obtain ⟨t, e⟩ := ry
    subst e hk
    obtain ⟨its, r, ht, hs⟩ := I.tuple hT
    obtain ⟨⟨cls, dd, data, sl⟩,
          ho, hc, n, hd⟩ := id ht
    dsimp only at hc hd
    subst hc hd
    refine wpAny_binaryOp_repeat_ref (by decide) ⟨_, ho, rfl⟩ (fun s' => typeIs_int s' 1 t) noFill_tuple_mul F.fills_int_mul F.slot_int_rmul repeat_tuple F.slot_int_index.lookup ?_
    refine call_meets F.slot_int_rmul (typeIs_int s 1 t) F.entry_int_rmul (F.args_int_rmul_2 (Value.int 1 t) (Value.ref l)) (int_rmul_tuple 1 t l its.toArray n dd sl) ⟨ho, rfl, ⟨_, ho, rfl⟩, ?_⟩
    refine call_meets F.slot_tuple_mul ⟨_, ho, rfl⟩ F.entry_tuple_mul (F.args_tuple_mul_2 (Value.ref l) (Value.int 1 t)) (tuple_mul1 l its.toArray n dd sl 1 t (by decide) (by simp)) ⟨ho, ?_⟩
    exact ⟨.ref l, H, I, rfl, q1 rfl⟩
  · exact op_repT pins s σ H x y v u Q I rx ry ⟨l, k, xs, ex, ey, hT, hne, by omega, h2, hz, q2 hk⟩
end Z
/-! ### tuple(reversed(t)) of a tuple as an expression -/
namespace Z
open PySem PySem.Spec PyProof.Rows L2 RT
def tTupRevT (K : PySem.W.Frag) (te : TE) : TE := fun σ H Q => te σ H fun v H1 => ∃ a xs, v = .ref a ∧ SqT K H1 a xs ∧ ∀ q, H1 q = none → Q (.ref q) (upd H1 q (.tup xs.reverse))
theorem pe_tupRevT {X : Cx} {e : Expr} {te : TE} {p p2 pos pos2 : Pos} (hc : X.calm = true) (hg : Gl X "tuple") (hm : X.mg "tuple" = none) (hg2 : Gl X "reversed") (hm2 : X.mg "reversed" = none) (he : PE X e te)
    (hs : starEach [e] X.env = (false, eval
          e X.env) :: starEach [] X.env := by rfl)
    (hs2 : starEach [.Call (.Name "reversed" p2) [e] [] pos2] X.env = (false, eval
          (.Call (.Name "reversed" p2) [e] [] pos2) X.env) :: starEach [] X.env := by rfl) :
    PE X (.Call (.Name "tuple" p) [.Call (.Name "reversed" p2) [e] [] pos2] [] pos) (tTupRevT X.K te) := by
  refine ⟨fun pins
        s σ H Q I h => ?_⟩
  refine Call_ (ld_blt I hg hm boot_tuple (PyProof.Rows.callWith_type1 (he := hs2) ?_))
  refine args_cons (he := hs2) (Call_ (ld_blt I hg2 hm2 boot_reversed (PyProof.Rows.callWith_type1 (he := hs) (args_cons (he := hs) ?_))))
  refine (thn (he.run pins s σ H _ I h) fun u s1 x => ?_)
  obtain ⟨v, H1, I1, r1, a, xs, ev, hq, q⟩ := x
  subst ev
  cases r1
  obtain ⟨its, r, ht, hz⟩ := I1.tuple hq
  have hlen := r.length
  have hne : a ≠ s1.heap.objs.size := by
    obtain ⟨o, ho, _⟩ := ht
    exact Nat.ne_of_lt
          (Heap.lt_size ho)
  have hsz : its.toArray.size ≤ sizeLine := by rw [List.size_toArray]; omega
  have hlt : ((its.toArray.size : Nat) : Int) < 2 ^ 63 := by
    have : sizeLine < 2 ^ 63 := by decide +kernel
    omega
  refine args_nil (call_reversed_tup ht (fun _ _ _ h9 => len_tuple ht hlt h9) (args_nil ?_))
  have I2 : L2.Inv X pins σ H1 { s1 with heap := s1.heap.push (rtObj a ((its.toArray.size : Int) - 1)), toks := s1.toks + 1 + 1 } := I1.kept fun b ob q9 => Heap.get?_push_of_some _ q9
  have hit : IsRt (s1.heap.push (rtObj a ((its.toArray.size : Int) - 1))) s1.heap.objs.size a ((its.toArray.size : Int) - 1) := ⟨_, Heap.get?_push_size _ rfl, rfl, rfl⟩
  obtain ⟨f0, f1, f2, f3, f4, f5⟩ := I1.fpOk (Nat.le_refl s1.heap.objs.size) (I1.hok.fresh (Nat.le_refl s1.heap.objs.size))
  have ht2 : IsTup (s1.heap.push (rtObj a ((its.toArray.size : Int) - 1))) a its.toArray := by
    obtain ⟨o, ho, r9⟩ := ht
    exact ⟨o, Heap.get?_push_of_some _ ho, r9⟩
  refine call_tuple_revT (s := { s1 with heap := s1.heap.push (rtObj a ((its.toArray.size : Int) - 1)), toks := s1.toks + 1 + 1 }) (items := its.toArray) (I1.ok.hd hc) hit ht2 hne hsz fun h' tk acc hk hacc => ?_
  have I3 := Inv.turned (t' := tk) I2 (fun b o hb e => hk b o hb e) f0 f1 f3 f4 f5
  refine ⟨.ref h'.objs.size, upd H1 h'.objs.size (.tup xs.reverse), I3.laid (t' := tk) (fun c o e => Heap.get?_push_of_some _ e) (Nat.le_refl _) ?_, rfl, q _ (I3.hok.fresh (Nat.le_refl _))⟩
  refine ⟨by rw [List.length_reverse]; exact hz, acc.toList, vals_rev r hacc, ?_⟩
  rw [Array.toArray_toList]
  exact IsTup.new h' acc
end Z
/-! ### readings of these over a ledger -/
namespace Z
open PySem PySem.Spec PyProof.Rows L2 HT
theorem zSlA {X : Cx} : SlR X (rOrS (rSlL X.K) (rSlA X.K)) := SlR.or sl_list sl_tupA
theorem cut_whole {xs : List V} {lo hi : Option Int} (h : HT.sIx xs.length 0 lo = 0 ∧ HT.sIx xs.length xs.length hi = xs.length) : cutV xs lo hi = xs := by
  unfold cutV
  rw [h.1, h.2]
  simp
def RevR (K : PySem.W.Frag) (x : V) (H1 : Hp) (Q : VK) : Prop := ∃ a xs, x = .ref a ∧ ((SqL K H1 a xs ∧ ∀ p, H1 p = none → Q (.ref p) (upd H1 p (.lst xs.reverse))) ∨ (SqT K H1 a xs ∧ ∀ p, H1 p = none → Q (.ref p) (upd H1 p (.tup xs.reverse))))
def TupRevR (K : PySem.W.Frag) (x : V) (H1 : Hp) (Q : VK) : Prop := ∃ a xs, x = .ref a ∧ SqT K H1 a xs ∧ ∀ q, H1 q = none → Q (.ref q) (upd H1 q (.tup xs.reverse))
def RevI (K : PySem.W.Frag) (vs : List V) (H1 : Hp) (R : It → Hp → Prop) : Prop := ∃ a xs, vs = [V.ref a] ∧ SqL K H1 a xs ∧ R (Itv K a xs.length) H1
section
variable {K : PySem.W.Frag} {σ : L2.St} {H : Hp} {te : TE} {ta : TA} {Q : VK} {L : List En} {a : Addr} {xs : List V} {RI : It → Hp → Prop} {k : Int} {b : V} {lo hi : Option Int}
theorem wRevS (h : te σ H fun x H1 => RevR K x H1 Q) : tRevS K te σ H Q := h
theorem wRevL (s : SqL K H a xs) (F : Fx H L) (k : ∀ p H', Fx H' (.ob p (.lst xs.reverse) :: L) → Q (.ref p) H') : RevR K (.ref a) H Q := ⟨a, xs, rfl, .inl ⟨s, wNewF F k⟩⟩
theorem wRevT (s : SqT K H a xs) (F : Fx H L) (k : ∀ p H', Fx H' (.ob p (.tup xs.reverse) :: L) → Q (.ref p) H') : RevR K (.ref a) H Q := ⟨a, xs, rfl, .inr ⟨s, wNewF F k⟩⟩
theorem wTupRev (h : te σ H fun x H1 => TupRevR K x H1 Q) : tTupRevT K te σ H Q := h
theorem wTupRevT (s : SqT K H a xs) (F : Fx H L) (k : ∀ p H', Fx H' (.ob p (.tup xs.reverse) :: L) → Q (.ref p) H') : TupRevR K (.ref a) H Q := ⟨a, xs, rfl, s, wNewF F k⟩
theorem wIRev (h : ta σ H fun vs H1 => RevI K vs H1 RI) : iRev K ta σ H RI := h
theorem wRevI (s : SqL K H a xs) (h : RI (Itv K a xs.length) H) : RevI K [.ref a] H RI := ⟨a, xs, rfl, s, h⟩
theorem wRep1 (F : Fx H L) (m : En.ob a (.tup xs) ∈ L) (n1 : 1 ≤ k) (n2 : k ≤ 1000) (n3 : xs.length ≤ 1000) (n4 : xs ≠ [])
    (q : ∀ p H' L1, En.ob p (.tup (List.replicate k.toNat xs).flatten) ∈ L1 → L.Sublist L1 → Fx H' L1 → Q (.ref p) H') : rRep1 K (.ref a) (.int k) H Q := by
  refine ⟨a, k, xs, rfl, rfl, F.tup m, n4, n1, n2, n3, fun e => ?_, fun _ => ?_⟩
  · subst e
    refine q a H L ?_ (.refl _) F
    rw [show (List.replicate (Int.toNat 1) xs).flatten = xs from by
      show (List.replicate 1 xs).flatten = xs
      simp]
    exact m
  · exact wNewF F fun p H' F' => q p H' _ List.mem_cons_self (List.sublist_cons_self _ _) F'
theorem wSlAS {L' : List En} (hq : SeqIs L b (some xs)) (sb : L.Sublist L') (F : Fx H L')
    (q : ∀ p H' N, Seq2 (N ++ L) b (.ref p) xs (cutV xs lo hi) → Fx H' (N ++ L') → Q (.ref p) H') : rOrS (rSlL K) (rSlA K) b lo hi H Q := by
  cases hq with
  | lst m => exact .inl ⟨_, xs, rfl, F.lst (sb.subset m), wNewF F fun p H' F' => q p H' [_] (.lst (.tail _ m) List.mem_cons_self) F'⟩
  | tup m =>
    refine .inr ⟨_, xs, rfl, F.tup (sb.subset m), fun e => ?_, fun _ => ?_⟩
    · refine q _ H [] (.tup m ?_) F
      rw [cut_whole e]
      exact m
    · exact wNewF F fun p H' F' => q p H' [_] (.tup (.tail _ m) List.mem_cons_self) F'
theorem wLenSq (hq : SeqIs L b (some xs)) (F : Fx H L) (h : Q (.int xs.length) H) : rLen K [b] H Q := by
  cases hq with
  | lst m => exact wLenL (F.lst m) h
  | tup m => exact wLenT (F.tup m) h
theorem wIxSq {i : Int} {v : V} (hq : SeqIs L b (some xs)) (F : Fx H L) (e : atI xs i = some v) (h : Q v H) : rIx K b (.int i) H Q := by
  cases hq with
  | lst m => exact wIxL (F.lst m) e h
  | tup m => exact wIxT (F.tup m) e h
theorem wMany_yes {c cls : Value} {ts : Addr → Value → Option Addr → TS} {r : List (Value × (Addr → Value → Option Addr → TS))} {Wout : WX} {D : Ends} {d : Option Addr} (e : PySem.W.exmOne K cls c = some true) (h : ∀ a, H a = none → ts a cls d D σ H) : WE (wMany K Wout D ((c, ts) :: r)) σ cls d H :=
  ⟨true, e, fun _ a ha => h a ha, fun q => Bool.noConfusion q⟩
theorem wMany_no {c cls : Value} {ts : Addr → Value → Option Addr → TS} {r : List (Value × (Addr → Value → Option Addr → TS))} {Wout : WX} {D : Ends} {d : Option Addr} (e : PySem.W.exmOne K cls c = some false) (h : WE (wMany K Wout D r) σ cls d H) : WE (wMany K Wout D ((c, ts) :: r)) σ cls d H :=
  ⟨false, e, fun q => Bool.noConfusion q, fun _ => h⟩
theorem starSq {R : List V → Prop} (hq : SeqIs L b (some xs)) (F : Fx H L) (h : R xs) : ∃ p xs, b = V.ref p ∧ (SqT K H p xs ∨ SqL K H p xs) ∧ R xs := by
  cases hq with
  | lst m => exact ⟨_, xs, rfl, .inr (F.lst m), h⟩
  | tup m => exact ⟨_, xs, rfl, .inl (F.tup m), h⟩
theorem wOnly_yes {c : Value} {ts : Addr → Value → Option Addr → TS} {Wout : WX} {D : Ends} {d : Option Addr} (e : PySem.W.exmOne K c c = some true) (h : ∀ a, H a = none → ts a c d D σ H) : WE (wOnly K c ts Wout D) σ c d H :=
  ⟨true, e, fun _ a ha => h a ha, fun q => Bool.noConfusion q⟩
theorem Seq2.isR {L : List En} {a c : V} {xs ys : List V} (h : Seq2 L a c xs ys) : SeqIs L c (some ys) := by
  cases h with
  | lst _ m => exact .lst m
  | tup _ m => exact .tup m
theorem wLcZL {a b : Addr} {xs ys : List V} {g : TG} {tt : TT} {te : TE} {vs : List Nat} {σ : L2.St} {QD : Addr → Hp → Prop} (m : En.ob a (.lst xs) ∈ L) (m' : En.ob b (.lst ys) ∈ L) (F : Fx H L) (R : Nat → List V → List En → Prop) (h0 : R 0 [] L) (keep : ∀ i acc L', R i acc L' → ∀ e ∈ L, e ∈ L')
    (hs : ∀ i x y T D H' acc L', xs[i]? = some x → ys[i]? = some y → R i acc L' → Fx H' (.ob T (.tup [x, y]) :: .ob D (.lst acc) :: L') → g (.ref T) (wipe σ vs) H' fun σ2 H2 => wipe σ2 vs = wipe σ vs ∧ tt σ2 H2 fun b H3 =>
      if b = true then te σ2 H3 fun y H4 => LcPut D R i y H4 else LcP D R (i + 1) H3)
    (hd : ∀ D acc L' H', Fx H' (.ob D (.lst acc) :: L') → R (min xs.length ys.length) acc L' → QD D H') :
    ∀ D, H D = none → ∃ W : Nat → Nat → Hp → Prop, (∃ m, W 0 m (upd H D (.lst []))) ∧ ∀ i m H, W i m H →
  ((Itz K a b).stop i H ∧ QD D H) ∨ ((Itz K a b).go i H ∧ ∃ Nx : Hp → Prop, (∀ H', Nx H' → ∃ m', m' < m ∧ W (i + 1) m' H') ∧ ∀ x H', (Itz K a b).yld i H x H' → g x (wipe σ vs) H' fun σ2 H2 => wipe σ2 vs = wipe σ vs ∧ tt σ2 H2 fun b H3 =>
    if b = true then te σ2 H3 fun y H4 => ∃ acc, H4 D = some (.lst acc) ∧
          acc.length < sizeLine ∧ Nx (upd H4 D (.lst (acc ++ [y]))) else Nx H3) := by
  refine wLcW (walk_zip (K := K) (xs := xs) (ys := ys) rfl) F R h0 (fun i acc L' D H' r F' => ⟨F'.lst (List.mem_cons_of_mem _ (keep _ _ _ r _ m)), F'.lst (List.mem_cons_of_mem _ (keep _ _ _ r _ m'))⟩) ?_ hd
  rintro i v D H' H'' acc L' _ r F' ⟨T, x, y, rfl, hT, rfl, e1, e2⟩
  exact hs i x y T D _ acc L' e1 e2 r (F'.new hT)
theorem wLcRev {a : Addr} {xs : List V} {g : TG} {tt : TT} {te : TE} {vs : List Nat} {σ : L2.St} {QD : Addr → Hp → Prop} (m : En.ob a (.lst xs) ∈ L) (F : Fx H L) (R : Nat → List V → List En → Prop) (h0 : R 0 [] L) (keep : ∀ i acc L', R i acc L' → ∀ e ∈ L, e ∈ L')
    (hs : ∀ i x D H' acc L', xs.reverse[i]? = some x → R i acc L' → Fx H' (.ob D (.lst acc) :: L') → g x (wipe σ vs) H' fun σ2 H2 => wipe σ2 vs = wipe σ vs ∧ tt σ2 H2 fun b H3 =>
      if b = true then te σ2 H3 fun y H4 => LcPut D R i y H4 else LcP D R (i + 1) H3)
    (hd : ∀ D acc L' H', Fx H' (.ob D (.lst acc) :: L') → R xs.length acc L' → QD D H') :
    ∀ D, H D = none → ∃ W : Nat → Nat → Hp → Prop, (∃ m, W 0 m (upd H D (.lst []))) ∧ ∀ i m H, W i m H →
  ((Itv K a xs.length).stop i H ∧ QD D H) ∨ ((Itv K a xs.length).go i H ∧ ∃ Nx : Hp → Prop, (∀ H', Nx H' → ∃ m', m' < m ∧ W (i + 1) m' H') ∧ ∀ x H', (Itv K a xs.length).yld i H x H' → g x (wipe σ vs) H' fun σ2 H2 => wipe σ2 vs = wipe σ vs ∧ tt σ2 H2 fun b H3 =>
    if b = true then te σ2 H3 fun y H4 => ∃ acc, H4 D = some (.lst acc) ∧
          acc.length < sizeLine ∧ Nx (upd H4 D (.lst (acc ++ [y]))) else Nx H3) := by
  refine wLcW (walk_rev (K := K) (a := a) (xs := xs)) F R h0 (fun i acc L' D H' r F' => F'.lst (List.mem_cons_of_mem _ (keep _ _ _ r _ m))) ?_ hd
  rintro i v D H' H'' acc L' hi r F' ⟨rfl, e⟩
  exact hs i v D _ acc L' (by rw [List.getElem?_reverse hi]; exact e) r F'
end
end Z

set_option Elab.async false
set_option linter.all false
set_option maxRecDepth 100000
/-! ### range of any bounds; math.lcm; min and max of a list -/
namespace Z
open PySem PySem.Spec
      PyProof.Rows L2
theorem turn_long {P : Program} {w : World} {K : PySem.W.Frag} {tg : Expr} (it : Addr) (lo : Int) (n : Nat) : Turn P w K tg (Itr lo n) [it] it (fun i h => IsLongIter h it (lo + (i : Nat) * 1) ((n : Int) - (i : Nat)) 1) where
  mem := by simp
  obj := fun i h st b hb => by
    have e : b = it :=
          by simpa using hb
    subst e
    exact ⟨_, st, fun v z => by
      have z' : Data.fields
            _ = Data.cell v := z
      cases z'⟩
  keep := fun i h h' st k
        => k it (by simp) _ st
  item := by
    intro X hP hw hK hc i
          pins s σ H E I hf st hg
    subst hP hw hK
    obtain ⟨f0, f1, f2, f3,
          f4, f5⟩ := hf it (by simp)
    have W := Walks.longrange (prog := X.prog) (w := X.w) (I.ok.hd hc) it lo 1 n
    refine W.item i s _ _ hg st
          fun v h' tk hv st' kk => ?_
    obtain ⟨t, rfl⟩ := hv
    have I1 : Inv X pins σ H {
          s with heap := h', toks := tk } := I.turned (fun b o hb e => kk b o (by simpa using hb) e) f0 f1 f3 f4 f5
    refine ⟨_, rfl, go_of (s := { s with heap := h', toks := tk }) (n := "longrange_iterator") st' rfl rfl (by decide) ⟨.int (lo + i), H, I1, ⟨t, ?_⟩, ⟨rfl, rfl⟩, st', fun b hb => (hf b hb).1⟩⟩
    rw [Int.mul_one]
  done := by
    intro X hP hw hK hc i
          pins s σ H E I hf st hg
    subst hP hw hK
    obtain ⟨f0, f1, f2, f3,
          f4, f5⟩ := hf it (by simp)
    exact wpAny_pyNext_long_end (I.ok.hd hc) st (by have : n ≤ i := hg; omega) fun h' eb => ⟨rfl, I.turned (t' := s.toks) (fun b o hb e => eb b o hb e) f0 f1 f3 f4 f5⟩
  self := fun _ _ _ _ _ st h => wpAny_pyIter_longiter st h
section
variable {X : Cx} {tg : Expr}
theorem range_itG {pins : List (Addr × Obj)} {σ : L2.St} {H : Hp} {s : Shared} {R : It → Hp → Prop} {E : Value → Shared → Prop} {lo hi : Int} {t u v : Tok} {tk : Nat} (I : Inv X pins σ H s)
    (q : R (Itr lo (hi - lo).toNat) H) : wpAny (model X.prog X.w) X.A (pyIter (.ref s.heap.objs.size)) (PIE X pins σ tg R) E {
          s with heap := s.heap.push { cls := .type "range", data := .fields #[.int lo t, .int hi u, .int 1 v] }, toks := tk } := by
  cases hs : Builtin.Range.small lo hi 1 with
  | true =>
    refine wpAny_pyIter_range (IsRange.new ..) hs ?_
    have I1 : Inv X pins σ H {
          s with heap := s.heap.push { cls := .type "range", data := .fields #[.int lo t, .int hi u, .int 1 v] }, toks := tk } := I.kept fun b o e => Heap.get?_push_of_some _ e
    refine pi_one (tk := tk) I1 _ (turn_range _ lo (hi - lo).toNat) ?_ q
    have e1 : lo + ((0 : Nat) : Int) * 1 = lo := by simp
    have e2 : (((hi - lo).toNat : Nat) : Int) - ((0 : Nat) : Int) =
          Builtin.Range.rangeSize lo hi 1 := by rw [rangeSize_one]; split <;> omega
    show IsRangeIter _ _ (lo + ((0 : Nat) : Int) * 1)
          ((((hi - lo).toNat : Nat) : Int) - ((0 : Nat) : Int)) 1
    rw [e1, e2]
    exact Heap.get?_push_size
          _ rfl
  | false =>
    refine wpAny_pyIter_longrange (IsRange.new ..) hs ?_
    have I1 : Inv X pins σ H {
          s with heap := s.heap.push { cls := .type "range", data := .fields #[.int lo t, .int hi u, .int 1 v] }, toks := tk } := I.kept fun b o e => Heap.get?_push_of_some _ e
    refine pi_one (tk := tk) I1 _ (turn_long _ lo (hi - lo).toNat) ?_ q
    have e1 : lo + ((0 : Nat) : Int) * 1 = lo := by simp
    have e2 : (((hi - lo).toNat : Nat) : Int) - ((0 : Nat) : Int) =
          Builtin.Range.rangeSize lo hi 1 := by rw [rangeSize_one]; split <;> omega
    show IsLongIter _ _ (lo + ((0 : Nat) : Int) * 1) ((((hi - lo).toNat : Nat) : Int) - ((0 : Nat) : Int)) 1
    rw [e1, e2]
    exact Heap.get?_push_size
          _ rfl
def iRngG (ta : TA) : TI := fun σ H R => ta σ H fun vs H1 => ∃ i j : Int, vs = [.int i, .int j] ∧ R (Itr i (j - i).toNat) H1
/-- for .. in range(a, b), numbers of any size -/
theorem pi_rangeG {a b : Expr} {ta : TA} {p pos : Pos} (hg : Gl X "range") (hm : X.mg "range" = none) (ha : PA X [a, b] ta) (hs : starEach [a, b] X.env = [(false, eval a X.env), (false, eval b X.env)] := by rfl) (hs2 : starEach [b] X.env = [(false, eval b X.env)] := by rfl) :
    PI X tg (.Call (.Name "range" p) [a, b] [] pos) (iRngG ta) := by
  refine ⟨fun pins
        s σ H R I h => ?_⟩
  refine Call_ (ld_blt I hg hm boot_range (PyProof.Rows.callWith_type1 (thn (ha.run pos pins
        s σ H _ I h) fun us s1 ⟨vs, H1, I1, r1, q1⟩ => ?_) (by rw [hs, hs2]) (by rw [hs2]; rfl)))
  obtain ⟨i, j, e, q⟩ := q1
  subst e
  cases r1 with
  | cons r rr =>
    cases rr with
    | cons r' rr =>
      cases rr
      obtain ⟨t, rfl⟩ := r
      obtain ⟨t', rfl⟩ := r'
      exact call_range_2 (range_itG I1 q)
def rLcm : List V → Hp → VK → Prop := fun vs H Q => ∃ a b : Int, vs = [.int a, .int b] ∧ a.natAbs < 2 ^ 64 ∧ b.natAbs < 2 ^ 64 ∧ Q (.int ((Nat.lcm a.natAbs b.natAbs : Nat) : Int)) H
theorem cr_lcm : CallR X (.builtin "math.lcm") rLcm := by
  intro pins s σ
        H vs us Q I r h
  obtain ⟨a, b, rfl, ha, hb, q⟩ := h
  obtain ⟨t, u, rfl⟩
        := Vals.int2 r
  exact PySem.W.mc_lcm ha hb fun _ => ⟨.int _, H, I.tok _, ⟨_, rfl⟩, q⟩
end
section
variable {K : PySem.W.Frag} {H : Hp} {Q : VK} {σ : L2.St} {ta : TA} {RI : It → Hp → Prop}
def GoRG (vs : List V) (H : Hp) (R : It → Hp → Prop) : Prop := ∃ i j : Int, vs = [.int i, .int j] ∧ R (Itr i (j - i).toNat) H
theorem wIRG (h : ta σ H fun vs H1 => GoRG vs H1 RI) : iRngG ta σ H RI := h
theorem wGoRG {i j : Int} (h : RI (Itr i (j - i).toNat) H) : GoRG [.int i, .int j] H RI := ⟨i, j, rfl, h⟩
theorem wLcm {a b : Int} (ha : a.natAbs < 2 ^ 64) (hb : b.natAbs < 2 ^ 64) (h : Q (.int ((Nat.lcm a.natAbs b.natAbs : Nat) : Int)) H) : rLcm [.int a, .int b] H Q := ⟨a, b, rfl, ha, hb, h⟩
theorem wMinL {a : Addr} {ns : List Int} (s : SqL K H a (ns.map V.int)) (n : 0 < ns.length) (h : ∀ m, m ∈ ns → (∀ y, y ∈ ns → m ≤ y) → Q (.int m) H) : rMin K [.ref a] H Q := ⟨a, ns, rfl, s, n, h⟩
theorem wMaxL {a : Addr} {ns : List Int} (s : SqL K H a (ns.map V.int)) (n : 0 < ns.length) (h : ∀ m, m ∈ ns → (∀ y, y ∈ ns → y ≤ m) → Q (.int m) H) : rMax K [.ref a] H Q := ⟨a, ns, rfl, s, n, h⟩
end
end Z

set_option Elab.async false
set_option linter.all false
set_option maxRecDepth 100000
set_option maxHeartbeats 2000500
/-! ### zip of a list or a tuple with a list or a tuple; len of an own instance -/
namespace Z
open PySem PySem.Spec
      PyProof.Rows L2
inductive Sd where | l | t
def Sd.seq : Sd → PySem.W.Frag → Hp → Addr → List V → Prop
  | .l => SqL
  | .t => SqT
def Sd.isIt : Sd → Heap → Addr → Addr → Nat → Prop
  | .l => fun h it a i => h.IsListIter it a i
  | .t => fun h it a i => h.IsTupleIter it a i
def Sd.holds : Sd → Heap → Addr → Array Value → Prop
  | .l => fun h a its => h.IsList a its
  | .t => fun h a its => h.IsTuple a its
def Sd.obj : Sd → Addr → Obj
  | .l => fun a => { cls := .type "list_iterator", data := .fields #[.ref a, .int 0 0] }
  | .t => fun a => { cls := .type "tuple_iterator", data := .fields #[.ref a, .int 0 0] }
theorem Sd.draws (k : Sd) {prog : Program} {w : World} {A : Around} (hh : A.handled = none) (it a : Addr) (n : a ≠ it) (its : Array Value) :
    Draws prog w A it [it, a] its.size (fun i v => its[i]? = some v) (fun i h => k.isIt h it a i ∧ k.holds h a its) := by
  cases k with
  | l => exact Draws.list hh it a n its
  | t => exact Draws.tuple hh it a n its
theorem Sd.begins (k : Sd) (a : Addr) (its : Array Value) : Begins (.ref a) (k.obj a) fun h => k.holds h a its := by
  cases k with
  | l => exact begins_list a its
  | t => exact begins_tuple a its
theorem Sd.isIt_at (k : Sd) {h h' : Heap} {it a : Addr} {i : Nat} (x : k.isIt h it a i) (e : ∀ o, h.get? it = some o → h'.get? it = some o) : k.isIt h' it a i := by
  cases k with
  | l => exact Heap.IsListIter.at x e
  | t => exact Heap.IsTupleIter.at x e
theorem Sd.isIt_new (k : Sd) {h : Heap} {it a : Addr} (e : h.get? it = some (k.obj a)) : k.isIt h it a 0 := by
  cases k with
  | l => exact ⟨_, e, rfl, rfl⟩
  | t => exact ⟨_, e, rfl, rfl⟩
theorem Sd.isIt_obj (k : Sd) {h : Heap} {it a : Addr} {i : Nat} (x : k.isIt h it a i) : ∃ o, h.get? it = some o ∧ ∀ v, o.data ≠ Data.cell v := by
  cases k with
  | l => obtain ⟨o, e, _, d⟩ := x; exact ⟨o, e, fun v q => by rw [d] at q; cases q⟩
  | t => obtain ⟨o, e, _, d⟩ := x; exact ⟨o, e, fun v q => by rw [d] at q; cases q⟩
section
variable {X : Cx} {pins : List (Addr ×
      Obj)} {σ : L2.St} {H : Hp} {s : Shared}
theorem Sd.have (k : Sd) {a : Addr} {xs : List V} (I : Inv X pins σ H s) (q : k.seq X.K H a xs) : ∃ its : List Value, Vals xs its ∧ k.holds s.heap a its.toArray ∧ a < s.heap.objs.size := by
  cases k with
  | l =>
    obtain ⟨its, rv, p, _⟩ := I.list q
    exact ⟨its, rv, p.isList, p.lt⟩
  | t =>
    obtain ⟨its, rv, p, _⟩ := I.tuple q
    obtain ⟨o1, ho1, _⟩ := id p
    exact ⟨its, rv, p, Heap.lt_size ho1⟩
theorem Sd.inj (k : Sd) {a : Addr} {xs ys : List V} (I : Inv X pins σ H s) (q : k.seq X.K H a xs) (q' : k.seq X.K H a ys) : xs = ys := by
  cases k with
  | l => exact I.list_inj q q'
  | t => exact I.tuple_inj q q'
end
/-- the two as they stand at each turn, the items in new pairs -/
def ItzG (K : PySem.W.Frag) (ka kb : Sd) (a b : Addr) : It :=
  ⟨fun i H => ∃ (xs ys : List V) (x y : V), ka.seq K H a xs ∧ kb.seq K H b ys ∧ xs[i]? = some x ∧ ys[i]? = some y,
    fun i H v H' => ∃ T x y, v = .ref T ∧ H T = none ∧ H' = upd H T (.tup [x, y]) ∧ (∀ xs, ka.seq K H a xs → xs[i]? = some x) ∧ ∀ ys, kb.seq K H b ys → ys[i]? = some y,
    fun i H => ∃ xs ys : List V, ka.seq K H a xs ∧ kb.seq K H b ys ∧ i ≤ xs.length ∧ i ≤ ys.length ∧ (i = xs.length ∨ i = ys.length)⟩
theorem turn_zipG {P : Program} {w : World} {K : PySem.W.Frag} {elts : List Expr} {kk : Nat} {tpos : Pos} {ka kb : Sd} {a b z TI TO i1 i2 : Addr} (S : ZipSep2 z TI TO i1 i2 [i1, a] [i2, b]) (n1 : a ≠ i1) (n2 : b ≠ i2) :
    Turn P w K (.Tuple elts kk tpos) (ItzG K ka kb a b) [z, TI, TO, i1, i2] z (fun i h => IsZip h z TI TO .none ∧ IsTupOf2 h TI (.ref i1) (.ref i2) ∧ (∃ x y, IsTupOf2 h TO x y) ∧ ka.isIt h i1 a i ∧ kb.isIt h i2 b i) where
  mem := by simp
  obj := fun i h st c hc => by
    obtain ⟨hz, hTI, ⟨x,
          y, hTO⟩, h1, h2⟩ := st
    simp only [List.mem_cons, List.not_mem_nil, or_false] at hc
    rcases hc with rfl | rfl | rfl | rfl | rfl
    · exact ⟨_, hz, fun v q => nomatch q⟩
    · exact ⟨_, hTI, fun v q => nomatch q⟩
    · exact ⟨_, hTO, fun v q => nomatch q⟩
    · exact ka.isIt_obj h1
    · exact kb.isIt_obj h2
  keep := fun i h h' st k => by
    obtain ⟨hz, hTI, ⟨x,
          y, hTO⟩, h1, h2⟩ := st
    exact ⟨k z (by simp) _ hz, k TI (by simp) _ hTI, ⟨x, y, k TO (by simp) _ hTO⟩, ka.isIt_at h1 fun o q => k i1 (by simp) o q, kb.isIt_at h2 fun o q => k i2 (by simp) o q⟩
  item := by
    intro X hP hw hK hc i
          pins s σ H E I hf st hg
    subst hP hw hK
    obtain ⟨hz, hTI, ⟨x0,
          y0, hTO⟩, h1, h2⟩ := st
    obtain ⟨xs, ys, x, y,
          hqx, hqy, hx, hy⟩ := hg
    obtain ⟨its, rv, p, la⟩ := ka.have I hqx
    obtain ⟨its2, rv2, p2, lb⟩ := kb.have I hqy
    obtain ⟨u, hu,
          ru⟩ := rv.get hx
    obtain ⟨u2, hu2,
          ru2⟩ := rv2.get hy
    have hzl : z < s.heap.objs.size
          := Heap.lt_size hz
    have il := (List.getElem?_eq_some_iff.mp hu).1
    have il2 := (List.getElem?_eq_some_iff.mp hu2).1
    refine wpAny_pyNext_zipD2_item S (ka.draws (by exact (I.ok.hd hc)) i1 a n1 its.toArray) (kb.draws (by exact (I.ok.hd hc)) i2 b n2 its2.toArray) hz hTI hTO ⟨h1, p⟩ ⟨h2, p2⟩ (by simpa using il) (by simpa using il2) fun v1 v2 h' tk e1 e2 z' TO' h1' h2' hT hsz hk => ?_
    obtain rfl : v1 = u := by
      have a1 : its.toArray[i]? = some u := by simpa using hu
      exact Option.some.inj (e1.symm.trans a1)
    obtain rfl : v2 = u2 := by
      have a1 : its2.toArray[i]? = some u2 := by simpa using hu2
      exact Option.some.inj (e2.symm.trans a1)
    refine ⟨_, rfl, wpAny_letOwnedTupleGo_zip (s := { s with heap := h', toks := tk }) z' fun h'' z'' sb => ?_⟩
    have hT2 : h''.get? s.heap.objs.size = some { cls := .type "tuple", data := .seq #[v1, v2] } := (sb.2 _ (Nat.ne_of_gt hzl)).trans hT
    have new : ObjOk X.prog X.w (upd H s.heap.objs.size
          (.tup [x, y])) h'' s.heap.objs.size (.tup [x, y]) :=
      ⟨by show 2 ≤ sizeLine; decide, [v1, v2], .cons ru (.cons ru2 .nil), ⟨_, hT2, rfl, _, rfl⟩⟩
    have I1 : Inv X pins σ (upd H s.heap.objs.size (.tup [x, y])) { s with heap := h'', toks := tk } :=
      I.turnedNew (t' := tk) (ch := [z, TI, TO, i1, i2]) (fun c o hb q => (sb.2 c (fun e => hb (by simp [e]))).trans (hk c o (fun e => hb (by simp [e])) (fun e => hb (by simp [e])) (fun e => hb (by simp [e])) (fun e => hb (by simp [e])) q)) hf (Nat.le_refl _) new
    refine ⟨.ref s.heap.objs.size, _, I1, rfl, ⟨_, x, y, rfl, I.hok.fresh (Nat.le_refl _), rfl, fun l hl => by rw [ka.inj I hl hqx]; exact hx, fun l hl => by rw [kb.inj I hl hqy]; exact hy⟩, ⟨z'', ?_, ⟨v1, v2, ?_⟩, ?_, ?_⟩, fun c hcm => ?_⟩
    · exact (sb.2 _ S.TIz).trans (hk _ _ S.TIz S.TITO S.TIi1 S.TIi2 hTI)
    · exact (sb.2 _ S.TOz).trans TO'
    · exact ka.isIt_at h1'.1 fun o q => (sb.2 _ (Ne.symm S.zi1)).trans q
    · exact kb.isIt_at h2'.1 fun o q => (sb.2 _ (Ne.symm S.zi2)).trans q
    · have hlt : c <
          s.heap.objs.size := by
        simp only [List.mem_cons, List.not_mem_nil, or_false] at hcm
        rcases hcm with rfl | rfl | rfl | rfl | rfl
        · exact hzl
        · exact Heap.lt_size hTI
        · exact Heap.lt_size hTO
        · obtain ⟨_, e1, _⟩ := ka.isIt_obj h1; exact Heap.lt_size e1
        · obtain ⟨_, e2, _⟩ := kb.isIt_obj h2; exact Heap.lt_size e2
      rw [upd_ne
            (Nat.ne_of_lt hlt)]
      exact (hf c hcm).1
  done := by
    intro X hP hw hK hc i
          pins s σ H E I hf st hg
    subst hP hw hK
    obtain ⟨hz, hTI, ⟨x0,
          y0, hTO⟩, h1, h2⟩ := st
    obtain ⟨xs, ys, hqx, hqy, g1, g2, g3⟩ := hg
    obtain ⟨its, rv, p, _⟩ := ka.have I hqx
    obtain ⟨its2, rv2, p2, _⟩ := kb.have I hqy
    have l1 := rv.length
    have l2 := rv2.length
    exact wpAny_pyNext_zipD2_end S (ka.draws (by exact (I.ok.hd hc)) i1 a n1 its.toArray) (kb.draws (by exact (I.ok.hd hc)) i2 b n2 its2.toArray) hz hTI hTO ⟨h1, p⟩ ⟨h2, p2⟩ (by simp; omega) (by simp; omega) (by simp; omega)
      fun h' tk hk => ⟨rfl, I.turnedL (t' := tk) (ch := [z, TI, TO, i1, i2]) (fun c o hb q => hk c o (fun e => hb (by simp [e])) (fun e => hb (by simp [e])) (fun e => hb (by simp [e])) (fun e => hb (by simp [e])) q) hf⟩
  self := fun A i s Q E st h
        => wpAny_pyIter_zip st.1 h
def iZipG (K : PySem.W.Frag) (ta : TA) : TI := fun σ H R => ta σ H fun vs H1 => ∃ a b ka kb xs ys, vs = [.ref a, .ref b] ∧ Sd.seq ka K H1 a xs ∧ Sd.seq kb K H1 b ys ∧ R (ItzG K ka kb a b) H1
theorem pi_zipG {X : Cx} {e e2 : Expr} {ta : TA} {p pos tpos : Pos} {elts : List Expr} {kk : Nat} (hg : Gl X "zip") (hm : X.mg "zip" = none) (ha : PA X [e, e2] ta)
    (hs : starEach [e, e2] X.env = (false, eval e X.env) :: starEach [e2] X.env :=
          by rfl) (hpl : (backTo pos (starEach [e2] X.env)).any (·.1) = false := by rfl) :
    PI X (.Tuple elts kk tpos) (.Call (.Name "zip" p) [e, e2] [] pos) (iZipG X.K ta) := by
  refine ⟨fun pins
        s σ H R I h => ?_⟩
  refine Call_ (ld_blt I hg hm PyProof.Rows.boot_zip (PyProof.Rows.callWith_type1
        (thn (ha.run pos pins s σ H _ I h) fun us s1 ⟨vs, H1, I1, r1, q1⟩ => ?_) hs hpl))
  obtain ⟨a, b, ka, kb, xs, ys, ex, hqx, hqy, q⟩ := q1
  subst ex
  cases r1 with
  | cons r rr =>
    cases rr with
    | cons r' rr =>
      cases rr
      cases r
      cases r'
      obtain ⟨its, rv, p1, la⟩ := ka.have I1 hqx
      obtain ⟨its2, rv2, p2, lb⟩ := kb.have I1 hqy
      refine zip_begins2 (ka.begins a its.toArray) (kb.begins b its2.toArray) p1 p2 fun h' hz hTI hTO h1 h2 hsz hk => wpAny_pyIter_zip hz ?_
      have I2 : Inv X pins σ H1 {
            s1 with heap := h' } := I1.kept (t' := s1.toks) hk
      refine ⟨s1.heap.objs.size + 4, [s1.heap.objs.size + 4, s1.heap.objs.size + 2, s1.heap.objs.size + 3, s1.heap.objs.size, s1.heap.objs.size + 1], _, _, H1, rfl, I2,
        turn_zipG (zip_sep2 (fp1 := [a]) (fp2 := [b]) (by simpa using la) (by simpa using lb)) (Nat.ne_of_lt la) (Nat.ne_of_lt (Nat.lt_succ_of_lt lb)), ⟨hz, hTI, ⟨_, _, hTO⟩, ka.isIt_new h1, kb.isIt_new h2⟩, fun c hcm => ?_, q⟩
      have hle :
            s1.heap.objs.size ≤ c := by
        simp only [List.mem_cons, List.not_mem_nil, or_false] at hcm
        rcases hcm with e | e | e | e | e
        · rw [e]; exact Nat.le_add_right _ _
        · rw [e]; exact Nat.le_add_right _ _
        · rw [e]; exact Nat.le_add_right _ _
        · rw [e]; exact Nat.le_refl _
        · rw [e]; exact Nat.le_add_right _ _
      exact I1.fpOk hle
            (I1.hok.fresh hle)
theorem walk_zipG {K : PySem.W.Frag} {ka kb : Sd} {a b : Addr} {xs ys : List V} {n : Nat} (hn : n = min xs.length ys.length) :
    Walk (ItzG K ka kb a b) n (fun H => ka.seq K H a xs ∧ kb.seq K H b ys) (YPair (fun i => xs[i]?) (fun i => ys[i]?)) := by
  refine ⟨fun i _ hi q => ⟨xs, ys, xs[i]'(by omega), ys[i]'(by omega), q.1, q.2, by simp, by simp⟩, fun _ q => ⟨xs, ys, q.1, q.2, by omega, by omega, by omega⟩, fun i H v H' _ q y => ?_⟩
  obtain ⟨T, x, y, h1, h2, h3, h4, h5⟩ := y
  exact ⟨T, x, y, h1, h2, h3, h4 xs q.1, h5 ys q.2⟩
theorem SeqIs.side {L : List En} {v : V} {xs : List V} (s : SeqIs L v (some xs)) : ∃ (k : Sd) (a : Addr), v = .ref a ∧ ∀ K H L', Fx H L' → (∀ p o, En.ob p o ∈ L → En.ob p o ∈ L') → Sd.seq k K H a xs := by
  cases s with
  | @lst a xs m => exact ⟨.l, a, rfl, fun K H L' F s => F.lst (s _ _ m)⟩
  | @tup a xs m => exact ⟨.t, a, rfl, fun K H L' F s => F.tup (s _ _ m)⟩
section
variable {K : PySem.W.Frag} {H : Hp} {L : List En} {a b : V} {xs ys : List V} {RI : It → Hp → Prop} {σ : L2.St} {ta : TA} {g : TG} {tb : TS} {nx : L2.St → Hp → Prop} {rt : VK}
def GoZG (K : PySem.W.Frag) (vs : List V) (H : Hp) (R : It → Hp → Prop) : Prop := ∃ a b ka kb xs ys, vs = [.ref a, .ref b] ∧ Sd.seq ka K H a xs ∧ Sd.seq kb K H b ys ∧ R (ItzG K ka kb a b) H
theorem wIZG (h : ta σ H fun vs H1 => GoZG K vs H1 RI) : iZipG K ta σ H RI := h
/-- a for over zip of two sequences of the ledger -/
theorem wForZ (ha : SeqIs L a (some xs)) (hb : SeqIs L b (some ys)) (F : Fx H L) (Pv : Nat → L2.St → Hp → Prop) (h0 : Pv 0 σ H) (keep : ∀ i σ H', Pv i σ H' → ∃ L', Fx H' L' ∧ ∀ p o, En.ob p o ∈ L → En.ob p o ∈ L')
    (hs : ∀ i x y T σ H', xs[i]? = some x → ys[i]? = some y → Pv i σ H' → H' T = none → g (.ref T) σ (upd H' T (.tup [x, y])) fun σ2 H2 => tb ⟨Pv (i + 1), rt, nx, Pv (i + 1)⟩ σ2 H2) (hd : ∀ σ H', Pv (min xs.length ys.length) σ H' → nx σ H') :
    GoZG K [a, b] H fun J H1 => ∃ W : Nat → Nat → L2.St → Hp → Prop, (∃ m, W 0 m σ H1) ∧ ∀ i m σ H, W i m σ H →
      (J.stop i H ∧ nx σ H) ∨ (J.go i H ∧ ∃ N : L2.St → Hp → Prop, (∀ σ' H', N σ' H' → ∃ m', m' < m ∧ W (i + 1) m' σ' H') ∧ ∀ x H', J.yld i H x H' → g x σ H' fun σ2 H2 => tb ⟨N, rt, nx, N⟩ σ2 H2) := by
  obtain ⟨ka, p, rfl, qa⟩ := ha.side
  obtain ⟨kb, q, rfl, qb⟩ := hb.side
  refine ⟨p, q, ka, kb, xs, ys, rfl, qa K H L F (fun _ _ h => h), qb K H L F (fun _ _ h => h), wForW (walk_zipG (K := K) (xs := xs) (ys := ys) rfl) Pv h0 (fun i σ H' _ pv => ?_) ?_ hd⟩
  · obtain ⟨L', F', k⟩ := keep i σ H' pv
    exact ⟨qa K H' L' F' k, qb K H' L' F' k⟩
  · rintro i x σ H' H'' _ pv ⟨T, u, v, rfl, hT, rfl, e1, e2⟩
    exact hs i u v T σ H' e1 e2 pv hT
/-- a comprehension over zip of two sequences of the ledger -/
theorem wLcZG {te : TE} {tt : TT} {vs : List Nat} {QD : Addr → Hp → Prop} (ha : SeqIs L a (some xs)) (hb : SeqIs L b (some ys)) (F : Fx H L) (R : Nat → List V → List En → Prop) (h0 : R 0 [] L)
    (keep : ∀ i acc L', R i acc L' → ∀ p o, En.ob p o ∈ L → En.ob p o ∈ L')
    (hs : ∀ i x y T D H' acc L', xs[i]? = some x → ys[i]? = some y → R i acc L' → Fx H' (.ob T (.tup [x, y]) :: .ob D (.lst acc) :: L') → g (.ref T) (wipe σ vs) H' fun σ2 H2 => wipe σ2 vs = wipe σ vs ∧ tt σ2 H2 fun b H3 =>
      if b = true then te σ2 H3 fun y H4 => LcPut D R i y H4 else LcP D R (i + 1) H3)
    (hd : ∀ D acc L' H', Fx H' (.ob D (.lst acc) :: L') → R (min xs.length ys.length) acc L' → QD D H') :
    GoZG K [a, b] H fun J H1 => ∀ D, H1 D = none → ∃ W : Nat → Nat → Hp → Prop, (∃ m, W 0 m (upd H1 D (.lst []))) ∧ ∀ i m H, W i m H →
  (J.stop i H ∧ QD D H) ∨ (J.go i H ∧ ∃ Nx : Hp → Prop, (∀ H', Nx H' → ∃ m', m' < m ∧ W (i + 1) m' H') ∧ ∀ x H', J.yld i H x H' → g x (wipe σ vs) H' fun σ2 H2 => wipe σ2 vs = wipe σ vs ∧ tt σ2 H2 fun b H3 =>
    if b = true then te σ2 H3 fun y H4 => ∃ acc, H4 D = some (.lst acc) ∧
          acc.length < sizeLine ∧ Nx (upd H4 D (.lst (acc ++ [y]))) else Nx H3) := by
  obtain ⟨ka, p, rfl, qa⟩ := ha.side
  obtain ⟨kb, q, rfl, qb⟩ := hb.side
  refine ⟨p, q, ka, kb, xs, ys, rfl, qa K H L F (fun _ _ h => h), qb K H L F (fun _ _ h => h), wLcW (walk_zipG (K := K) (xs := xs) (ys := ys) rfl) F R h0 (fun i acc L' D H' r F' => ?_) ?_ hd⟩
  · have k := keep i acc L' r
    exact ⟨qa K H' _ F' fun p o m => .tail _ (k p o m), qb K H' _ F' fun p o m => .tail _ (k p o m)⟩
  · rintro i x D H' H'' acc L' _ r F' ⟨T, u, v, rfl, hT, rfl, e1, e2⟩
    exact hs i u v T D _ acc L' e1 e2 r (F'.new hT)
end
/-! ### len(x), an own __len__ -/
structure OwnLenF (K : PySem.W.Frag) (C f : Addr) : Prop where
  len : PySem.W.findIn K (.ref C) "__len__" = some (some (.ref f))
  fn : PySem.W.typeIn K (.ref f) = some (.type "function")
def rLenOwn (K : PySem.W.Frag) (C : Addr) (sp : Sp) : List V → Hp → VK → Prop := fun vs H Q => ∃ a dx fs, vs = [.ref a] ∧ H a = some (.ins C dx fs) ∧ sp [.ref a] H (fun v H' => ∃ n : Int, v = .int n ∧ 0 ≤ n ∧ n < 2 ^ 63 ∧ Q (.int n) H') E0
section
variable {X : Cx} {k : Nat} {C f : Addr} {fd : FuncData} {ps : List Str} {sp : Sp}
theorem own_call1 {A : Around} {pins : List (Addr × Obj)} {σ : L2.St} {H : Hp} {s : Shared} {Q : VK} {x : V} {u : Value} (F : FnOk X.prog X.w X.K X.mg X.base CX0 k f fd ps sp) (hb : Binds X.K fd ps []) (hr : Room k A) (hf : A.frames = X.A.frames)
    (I : L2.Inv X pins σ H s) (rx : RelV x u) (h : sp [x] H Q E0) : wpAny (model X.prog X.w) A (call (.ref f) [u]) (EP X pins σ Q) X.xe s := by
  have e0 : Env0 X.prog X.w X.K
        X.mg X.base A X.stack s H := by
    have e := I.env0
    exact ⟨by rw [hf]; exact e.frames, e.mod, e.bs, e.bsz, e.funs, e.frf, e.hok, e.bare⟩
  have hl := F.len _ _ _ _ h
  have r2 : Vals [x] [u] := .cons rx .nil
  refine wpAny_call (codeAny_mono (F.run A X.stack s H ⟨[u], []⟩ [u] [x] _ E0 hr e0 (by
    have := hb s [u] I.kIn (by simpa using hl)
    simpa using this) r2 h) fun r s' hq => ?_)
  cases r with
  | error e => exact
        False.elim hq
  | ok fl =>
    cases fl with
    | ret w => exact I.after hq
    | next => exact False.elim hq
    | brk => exact False.elim hq
    | cont => exact False.elim hq
theorem cr_lenOwn (F : FnOk X.prog X.w X.K X.mg X.base CX0 k f fd ps sp) (q : OwnLenF X.K C f) (hb : Binds X.K fd ps []) (hr : Room (k + 1) X.A) : CallR X (.builtin "len") (rLenOwn X.K C sp) := by
  intro pins s σ
        H vs us Q I r h
  obtain ⟨a, dx, fs, rfl, ha, hsp⟩ := h
  obtain ⟨u, rfl,
        ru⟩ := vals1 r
  obtain rfl : u =
        Value.ref a := ru
  obtain ⟨mA, J, _⟩
        := ins_get I.hok ha
  obtain ⟨od, J, _⟩ := J.look
  refine PySem.Calls.call_function_entry PySem.kind_len PySem.plain_len PySem.entry_len (PySem.args_len1 _) ?_
  unfold Builtin.«len»
  refine wpAny_bind (m := oneArg
        "len" _) (wpAny_pure ?_)
  refine wpAny_bind (m := callSpecial? (.ref a) (Str.ofString "__len__")) (PySem.W.special_fn I.kIn J q.len q.fn (wpAny_mono (own_call1 F hb hr.in1 rfl I (show RelV (V.ref a) (Value.ref a) from rfl) hsp) (fun v s' z => ?_) fun _ _ e => e))
  obtain ⟨v', H', I', rv, n, en, h0, h1, hq⟩ := z
  subst en
  obtain ⟨t, rfl⟩ := rv
  refine wpAny_bind
        (wpAny_holding (wpAny_pure ?_))
  refine wpAny_bind
        (wpAny_letGo ?_)
  show wpAny _ _ (if n <
        0 then _ else _) _ _ _
  rw [if_neg (by omega)]
  show wpAny _ _ (if n ≥ 2
        ^ 63 then _ else _) _ _ _
  rw [if_neg (by omega)]
  exact wpAny_bind (wpAny_mkInt (wpAny_pure ⟨_, rfl, .int n, H', I'.tok _, ⟨_, rfl⟩, hq⟩))
def LenO (P : Program) (w : World) (K : PySem.W.Frag) (mg : Str → Option Value) (base : Heap) (C : Addr) (k : Nat) (ps : List Str) (sp : Sp) : Prop := ∃ (f : Addr) (fd : FuncData), OwnLenF K C f ∧ Binds K fd ps [] ∧ FnOk P w K mg base CX0 k f fd ps sp
theorem cr_lenO (O : LenO X.prog X.w X.K X.mg X.base C k ps sp) (hr : Room (k + 1) X.A) : CallR X (.builtin "len") (rLenOwn X.K C sp) := by
  obtain ⟨f, fd, q, b, F⟩ := O
  exact cr_lenOwn F q b hr
theorem wLenOwn {K : PySem.W.Frag} {H : Hp} {Q : VK} {a dx : Addr} {fs : List (Str × V)} (ha : H a = some (.ins C dx fs)) (h : sp [.ref a] H (fun v H' => ∃ n : Int, v = .int n ∧ 0 ≤ n ∧ n < 2 ^ 63 ∧ Q (.int n) H') E0) : rLenOwn K C sp [.ref a] H Q := ⟨a, dx, fs, rfl, ha, h⟩
end
/-! ### two lists, place by place -/
structure Al2 {α β : Type} (R : α → β → Prop) (xs : List α) (ys : List β) : Prop where
  len : xs.length = ys.length
  get : ∀ (i : Nat) (x : α) (y : β), xs[i]? = some x → ys[i]? = some y → R x y
section
variable {α β : Type} {R R' : α → β → Prop} {xs xs' : List α} {ys ys' : List β} {x : α} {y : β} {i : Nat}
theorem Al2.nil : Al2 R ([] : List α) ([] : List β) := ⟨rfl, fun i x y e => by simp at e⟩
theorem Al2.mono (h : Al2 R xs ys) (k : ∀ x y, R x y → R' x y) : Al2 R' xs ys := ⟨h.len, fun i x y e e' => k x y (h.get i x y e e')⟩
theorem Al2.getL (h : Al2 R xs ys) (e : xs[i]? = some x) : ∃ y, ys[i]? = some y ∧ R x y := by
  have hi := (List.getElem?_eq_some_iff.mp e).1
  have hy : ys[i]? = some (ys[i]'(by rw [← h.len]; exact hi)) := List.getElem?_eq_getElem _
  exact ⟨_, hy, h.get i x _ e hy⟩
theorem Al2.getR (h : Al2 R xs ys) (e : ys[i]? = some y) : ∃ x, xs[i]? = some x ∧ R x y := by
  have hi := (List.getElem?_eq_some_iff.mp e).1
  have hx : xs[i]? = some (xs[i]'(by rw [h.len]; exact hi)) := List.getElem?_eq_getElem _
  exact ⟨_, hx, h.get i _ y hx e⟩
theorem Al2.app (h : Al2 R xs ys) (h' : Al2 R xs' ys') : Al2 R (xs ++ xs') (ys ++ ys') := by
  refine ⟨by rw [List.length_append, List.length_append, h.len, h'.len], fun i x y e e' => ?_⟩
  by_cases hi : i < xs.length
  · rw [List.getElem?_append_left hi] at e
    rw [List.getElem?_append_left (by rw [← h.len]; exact hi)] at e'
    exact h.get i x y e e'
  · rw [List.getElem?_append_right (by omega)] at e
    rw [List.getElem?_append_right (by rw [← h.len]; omega), ← h.len] at e'
    exact h'.get _ x y e e'
theorem Al2.one (r : R x y) : Al2 R [x] [y] := ⟨rfl, fun i a b e e' => by
  cases i with
  | zero => cases e; cases e'; exact r
  | succ i => simp at e⟩
theorem Al2.snoc (h : Al2 R xs ys) (r : R x y) : Al2 R (xs ++ [x]) (ys ++ [y]) := h.app (.one r)
theorem Al2.cons (r : R x y) (h : Al2 R xs ys) : Al2 R (x :: xs) (y :: ys) := (Al2.one r).app h
theorem Al2.take (h : Al2 R xs ys) (n : Nat) : Al2 R (xs.take n) (ys.take n) := by
  refine ⟨by rw [List.length_take, List.length_take, h.len], fun i x y e e' => ?_⟩
  by_cases hi : i < n
  · rw [List.getElem?_take_of_lt hi] at e e'
    exact h.get i x y e e'
  · rw [List.getElem?_take_eq_none (by omega)] at e
    cases e
theorem Al2.drop (h : Al2 R xs ys) (n : Nat) : Al2 R (xs.drop n) (ys.drop n) := by
  refine ⟨by rw [List.length_drop, List.length_drop, h.len], fun i x y e e' => ?_⟩
  rw [List.getElem?_drop] at e e'
  exact h.get _ x y e e'
theorem Al2.set (h : Al2 R xs ys) (r : R x y) (n : Nat) : Al2 R (xs.set n x) (ys.set n y) := by
  refine ⟨by rw [List.length_set, List.length_set, h.len], fun i a b e e' => ?_⟩
  by_cases hi : n = i
  · subst hi
    have h1 := (List.getElem?_eq_some_iff.mp e).1
    have h2 := (List.getElem?_eq_some_iff.mp e').1
    rw [List.length_set] at h1 h2
    rw [List.getElem?_set_self h1] at e
    rw [List.getElem?_set_self h2] at e'
    cases e
    cases e'
    exact r
  · rw [List.getElem?_set_ne hi] at e e'
    exact h.get i a b e e'
theorem Al2.rep (r : R x y) (n : Nat) : Al2 R (List.replicate n x) (List.replicate n y) := by
  refine ⟨by rw [List.length_replicate, List.length_replicate], fun i a b e e' => ?_⟩
  obtain ⟨_, rfl⟩ := List.getElem?_eq_some_iff.mp e
  obtain ⟨_, rfl⟩ := List.getElem?_eq_some_iff.mp e'
  simpa using r
end
/-- an entry of a sublist, brought to the front -/
theorem sub_front {α : Type} {e : α} {r : List α} : ∀ {L : List α}, (e :: r).Sublist L → ∃ L2, L.Perm (e :: L2) ∧ r.Sublist L2
  | _, .cons a h => by
    obtain ⟨L2, p, s⟩ := sub_front h
    exact ⟨a :: L2, (p.cons a).trans (.swap _ _ _), s.cons a⟩
  | _, .cons_cons _ h => ⟨_, .refl _, h⟩
def Sp5 (f : V → V → V → V → V → Hp → VK → XK → Prop) : Sp := fun vs H Q E => ∃ a b c d e, vs = [a, b, c, d, e] ∧ f a b c d e H Q E
end Z

set_option Elab.async false
set_option linter.all false
set_option maxRecDepth 100000
set_option maxHeartbeats 2000500
/-! ### slices -/
namespace Z
open PySem L2 RZ
theorem cut_mem {xs : List V} {lo hi : Option Int} {x : V} (h : x ∈ cutV xs lo hi) : x ∈ xs := by
  unfold cutV at h
  exact List.mem_of_mem_drop (List.mem_of_mem_take h)
theorem cut_ints (cs : List Int) (lo hi : Option Int) : ∃ ds : List Int, cutV (cs.map V.int) lo hi = ds.map V.int ∧ ds.length ≤ cs.length ∧ ∀ d ∈ ds, d ∈ cs := by
  refine ⟨(cs.drop (HT.sIx cs.length 0 lo)).take (HT.sIx cs.length cs.length hi - HT.sIx cs.length 0 lo), ?_, ?_, fun d h => List.mem_of_mem_drop (List.mem_of_mem_take h)⟩
  · unfold cutV
    rw [List.length_map, ← List.map_drop, ← List.map_take]
  · rw [List.length_take, List.length_drop]; omega
theorem cut_take {xs : List V} {k : Int} (h : 0 ≤ k) : cutV xs none (some k) = xs.take k.toNat := by
  obtain ⟨n, rfl⟩ := Int.eq_ofNat_of_zero_le h
  unfold cutV
  rw [HT.sIx_nat, HT.sIx_none, List.drop_zero, Nat.sub_zero, Int.toNat_natCast]
  by_cases hn : n ≤ xs.length
  · rw [Nat.min_eq_left hn]
  · rw [Nat.min_eq_right (by omega), List.take_length, List.take_of_length_le (by omega)]
theorem cut_drop {xs : List V} {k : Int} (h : 0 ≤ k) : cutV xs (some k) none = xs.drop k.toNat := by
  obtain ⟨n, rfl⟩ := Int.eq_ofNat_of_zero_le h
  unfold cutV
  rw [HT.sIx_nat, HT.sIx_none, Int.toNat_natCast]
  by_cases hn : n ≤ xs.length
  · rw [Nat.min_eq_left hn, List.take_of_length_le (by rw [List.length_drop]; exact Nat.le_refl _)]
  · rw [Nat.min_eq_right (by omega), Nat.sub_self, List.take_zero, List.drop_eq_nil_of_le (by omega)]
theorem cut_but {xs : List V} : cutV xs none (some (-1)) = xs.dropLast := by
  unfold cutV HT.sIx
  show List.take ((-1 + (xs.length : Int)).toNat - 0) (List.drop 0 _) = _
  rw [List.drop_zero, List.dropLast_eq_take, show (-1 + (xs.length : Int)).toNat - 0 = xs.length - 1 from by omega]
end Z
namespace Z
open PySem PySem.Spec
      PyProof.Rows L2
/-! ### max and min of a tuple of whole numbers -/
theorem maxI : ∀ (xs : List Int) (x : Int), PySem.W.maxOf x xs ∈ x :: xs ∧ ∀ y ∈ x :: xs, y ≤ PySem.W.maxOf x xs
  | [], x => ⟨List.mem_cons_self, fun y h => by cases List.mem_singleton.mp h; exact Int.le_refl _⟩
  | z :: r, x => by
    have lt : PySem.W.DatumOrd.lt x z = decide (x < z) := rfl
    have e : PySem.W.maxOf x (z :: r) = PySem.W.maxOf (if PySem.W.DatumOrd.lt x z = true then z else x) r := rfl
    rw [e, lt]
    by_cases h : x < z
    · rw [if_pos (decide_eq_true h)]
      obtain ⟨a, b⟩ := maxI r z
      refine ⟨List.mem_cons_of_mem _ a, fun y hy => ?_⟩
      have hz := b z List.mem_cons_self
      rcases List.mem_cons.mp
            hy with rfl | hy
      · omega
      · exact b y hy
    · rw [if_neg (by simpa using h)]
      obtain ⟨a, b⟩ := maxI r x
      refine ⟨?_, fun y hy => ?_⟩
      · rcases List.mem_cons.mp a with a | a
        · rw [a]; exact List.mem_cons_self
        · exact List.mem_cons_of_mem _ (List.mem_cons_of_mem _ a)
      · have hx := b x List.mem_cons_self
        rcases List.mem_cons.mp
              hy with rfl | hy
        · exact hx
        · rcases List.mem_cons.mp
              hy with rfl | hy
          · omega
          · exact b y (List.mem_cons_of_mem _ hy)
def rMaxT (K : PySem.W.Frag) : List V → Hp → VK → Prop := fun vs H Q => ∃ (a : Addr) (ns : List Int), vs = [V.ref a] ∧ SqT K H a (ns.map V.int) ∧ 0 < ns.length ∧ ∀ m, m ∈ ns → (∀ y, y ∈ ns → y ≤ m) → Q (.int m) H
theorem cr_maxT {X : Cx} (hc : X.calm = true) (hu : X.A.units + 1 < cLine) : CallR X (.builtin "max") (rMaxT X.K) := by
  intro pins s σ
        H vs us Q I r h
  obtain ⟨a, ns, rfl,
        hs, hne, q⟩ := h
  obtain ⟨its, rv, hl, _⟩ := I.tuple hs
  rw [Vals.ref1 r]
  cases ns with
  | nil => simp at hne
  | cons n ms =>
    obtain ⟨m1, m2⟩ := maxI ms n
    refine PySem.W.max_tuple_datum (α := Int) (x := n) (xs := ms) (I.ok.hd hc) (show s.heap.IsTuple a its.toArray from hl) (by simpa using PySem.W.HoldAll.of_ints rv.ints) hu fun i v h' tk _ hv hk => ?_
    obtain ⟨as, hv⟩ := hv
    cases hv
    exact ⟨.int _, H, I.kept hk, ⟨_, rfl⟩, q _ m1 m2⟩
theorem wMaxT {K : PySem.W.Frag} {H : Hp} {Q : VK} {a : Addr} {ns : List Int} (s : SqT K H a (ns.map V.int)) (n : 0 < ns.length) (h : ∀ m, m ∈ ns → (∀ y, y ∈ ns → y ≤ m) → Q (.int m) H) : rMaxT K [.ref a] H Q := ⟨a, ns, rfl, s, n, h⟩
/-! ### slices and sums of tuples, any -/
theorem opCatA {X : Cx} : OpR X (binaryOp .Add) (rCatA X.K) := op_catA
section
variable {K : PySem.W.Frag} {H : Hp} {L : List En} {a b : Addr} {v : V} {xs ys : List V} {lo hi : Option Int} {Q : VK}
theorem wSlTu (m : En.ob a (.tup xs) ∈ L) (F : Fx H L) (k : ∀ p H' L1, L.Sublist L1 → En.ob p (.tup (cutV xs lo hi)) ∈ L1 → Fx H' L1 → Q (.ref p) H') : rOrS (rSlL K) (rSlA K) (.ref a) lo hi H Q := by
  refine .inr ⟨_, xs, rfl, F.tup m, fun e => ?_, fun _ => ?_⟩
  · refine k a H L (.refl _) ?_ F
    rw [cut_whole e]
    exact m
  · exact wNewF F fun p H' F' => k p H' _ (.cons _ (.refl _)) List.mem_cons_self F'
theorem wSlLi (m : En.ob a (.lst xs) ∈ L) (F : Fx H L) (k : ∀ p H', Fx H' (.ob p (.lst (cutV xs lo hi)) :: L) → Q (.ref p) H') : rOrS (rSlL K) (rSlA K) (.ref a) lo hi H Q :=
  .inl ⟨_, xs, rfl, F.lst m, wNewF F k⟩
theorem wCatA (m : En.ob a (.tup xs) ∈ L) (m' : En.ob b (.tup ys) ∈ L) (l : xs.length + ys.length ≤ 1000000) (F : Fx H L) (k : ∀ p H' L1, L.Sublist L1 → En.ob p (.tup (xs ++ ys)) ∈ L1 → Fx H' L1 → Q (.ref p) H') : rCatA K (.ref a) (.ref b) H Q := by
  refine ⟨a, b, xs, ys, rfl, rfl, F.tup m, F.tup m', Nat.le_trans l line_big, fun e => ?_, fun e e' => ?_, fun _ _ => ?_⟩
  · subst e
    exact k b H L (.refl _) m' F
  · subst e'
    exact k a H L (.refl _) (by rw [List.append_nil]; exact m) F
  · exact wNewF F fun p H' F' => k p H' _ (.cons _ (.refl _)) List.mem_cons_self F'
theorem wListSq (hq : SeqIs L v (some xs)) (F : Fx H L) (k : ∀ p H', Fx H' (.ob p (.lst xs) :: L) → Q (.ref p) H') : rList K [v] H Q := by
  cases hq with
  | lst m => exact wListL (F.lst m) F k
  | tup m => exact wListT (F.tup m) F k
end
theorem units1 {n : Nat} {A : Around} (hr : Room (n + 1) A) : A.units + 1 < cLine := by have := hr.units; omega
theorem sum_rep (b : Int) : ∀ n : Nat, (List.replicate n b).sum = n * b
  | 0 => by simp
  | n + 1 => by rw [List.replicate_succ, List.sum_cons, sum_rep b n, Int.natCast_add, Int.add_mul]; omega
/-- what is no list, past a list -/
theorem mem_skip {L : List En} {a b : Addr} {o : HO} {xs : List V} (h : En.ob a o ∈ (En.ob b (.lst xs) :: L)) (n : ∀ ys, o ≠ .lst ys) : En.ob a o ∈ L := by
  rcases List.mem_cons.mp h with h | h
  · injection h with _ h
    exact absurd h (n xs)
  · exact h
theorem nodup_le : ∀ {l m : List Int}, l.Nodup → (∀ x ∈ l, x ∈ m) → l.length ≤ m.length
  | [], _, _, _ =>
        Nat.zero_le _
  | a :: l, m, hn, h => by
    have hm := h a List.mem_cons_self
    have h1 := nodup_le (l := l) (m := m.erase a) (List.nodup_cons.mp hn).2 fun x hx => (List.mem_erase_of_ne (fun e : x = a => (List.nodup_cons.mp hn).1 (by rw [← e]; exact hx))).mpr (h x (List.mem_cons_of_mem _ hx))
    rw [List.length_erase_of_mem hm] at h1
    have := List.length_pos_of_mem hm
    rw [List.length_cons]
    omega
end Z

set_option Elab.async false
set_option linter.all false
set_option maxRecDepth 100000
set_option maxHeartbeats 2000500
/-! ### dicts with numbers as keys -/
namespace Z
open PySem PySem.Spec
      PyProof.Rows L2
section
variable {X : Cx} {K : PySem.W.Frag} {H : Hp} {L : List En} {a : Addr} {Q : VK} {kvs : List (Key × V)}
theorem hu1 {X : Cx} {k : Nat} (hr : Room k X.A) : X.A.units + 1 < cLine := by have := hr.un; omega
def rInD : R2 := fun x y H Q => ∃ a kvs k, y = .ref a ∧ x = kV k ∧ H a = some (.dK kvs) ∧ Q (.bl (valV kvs k).isSome) H
theorem op_inD (hu : X.A.units + 1 < cLine) : OpR X (compareOp .In) rInD := by
  intro pins s σ H x
        y v u Q I rx ry h
  obtain ⟨a, kvs, k, rfl, rfl, e, q⟩ := h
  obtain rfl : u =
        Value.ref a := ry
  exact d_in hu I (DGet.k e) rx fun s3 I3 => ⟨.bl _, H, I3, rfl, q⟩
theorem wInD {n : Int} (F : Fx H L) (m : En.ob a (.dK kvs) ∈ L) (h : Q (.bl (valV kvs (.inl n)).isSome) H) : rInD (.int n) (.ref a) H Q :=
  ⟨a, kvs, .inl n, rfl, rfl, F.get m, h⟩
/-- the dict of a comprehension, at its turn i -/
def DcP (D : Addr) (R : Nat → List (Key × V) → List En → Prop) (i : Nat) (H : Hp) : Prop := ∃ kvs L, Fx H (.ob D (.dK kvs) :: L) ∧ R i kvs L
def DcPut (D : Addr) (R : Nat → List (Key × V) → List En → Prop) (i : Nat) (y z : V) (H : Hp) : Prop :=
  ∃ kvs k, y = kV k ∧ H D = some (.dK kvs) ∧ kvs.length < sizeLine ∧ DcP D R (i + 1) (upd H D (.dK (putK kvs k z)))
theorem dcPut {D : Addr} {R : Nat → List (Key × V) → List En → Prop} {i : Nat} {n : Int} {z : V} (F : Fx H (.ob D (.dK kvs) :: L)) (l : kvs.length < sizeLine) (r : R (i + 1) (putK kvs (.inl n) z) L) : DcPut D R i (.int n) z H :=
  ⟨kvs, .inl n, rfl, F.get List.mem_cons_self, l, _, L, F.put .head, r⟩
variable {J : It} {n : Nat} {G : Hp → Prop} {Y : Nat → Hp → V → Hp → Prop} {g : TG} {tt : TT} {tk tv : TE} {vs : List Nat} {σ : L2.St}
theorem wDc {wi : TI} (h : wi σ H fun J H1 => ∀ D, H1 D = none → ∃ W : Nat → Nat → Hp → Prop, (∃ m, W 0 m (upd H1 D (.dK []))) ∧ ∀ i m H, W i m H →
  (J.stop i H ∧ Q (.ref D) H) ∨ (J.go i H ∧ ∃ Nx : Hp → Prop, (∀ H', Nx H' → ∃ m', m' < m ∧ W (i + 1) m' H')
        ∧ ∀ x H', J.yld i H x H' → g x (wipe σ vs) H' fun σ2 H2 => wipe σ2 vs = wipe σ vs ∧ tt σ2 H2 fun b H3 =>
    if b = true then tk σ2 H3 fun y H4 => tv σ2 H4 fun z H5 => ∃ kvs k, y = kV k ∧ H5 D = some (.dK kvs) ∧ kvs.length < sizeLine ∧ Nx (upd H5 D (.dK (putK kvs k z))) else Nx H3)) : tDc wi g tt tk tv vs σ H Q := h
theorem wDcW {QD : Addr → Hp → Prop} (w : Walk J n G Y) (F : Fx H L) (R : Nat → List (Key × V) → List En → Prop) (h0 : R 0 [] L) (hG : ∀ i kvs L' D H', R i kvs L' → Fx H' (.ob D (.dK kvs) :: L') → G H')
    (hs : ∀ i x D H' H'' kvs L', i < n → R i kvs L' → Fx H' (.ob D (.dK kvs) :: L') → Y i H' x H'' → g x (wipe σ vs) H'' fun σ2 H2 => wipe σ2 vs = wipe σ vs ∧ tt σ2 H2 fun b H3 =>
      if b = true then tk σ2 H3 fun y H4 => tv σ2 H4 fun z H5 => DcPut D R i y z H5 else DcP D R (i + 1) H3)
    (hd : ∀ D kvs L' H', Fx H' (.ob D (.dK kvs) :: L') → R n kvs L' → QD D H') :
    ∀ D, H D = none → ∃ W : Nat → Nat → Hp → Prop, (∃ m, W 0 m (upd H D (.dK []))) ∧ ∀ i m H, W i m H →
  (J.stop i H ∧ QD D H) ∨ (J.go i H ∧ ∃ Nx : Hp → Prop, (∀ H', Nx H' → ∃ m', m' < m ∧ W (i + 1) m' H') ∧ ∀ x H', J.yld i H x H' → g x (wipe σ vs) H' fun σ2 H2 => wipe σ2 vs = wipe σ vs ∧ tt σ2 H2 fun b H3 =>
    if b = true then tk σ2 H3 fun y H4 => tv σ2 H4 fun z H5 => ∃ kvs k, y = kV k ∧ H5 D = some
          (.dK kvs) ∧ kvs.length < sizeLine ∧ Nx (upd H5 D (.dK (putK kvs k z))) else Nx H3) := by
  intro D hD
  refine ⟨fun i m H => m = n - i ∧ i ≤ n ∧ DcP D R i H, ⟨n, by simp, Nat.zero_le _, [], L, F.new hD, h0⟩, ?_⟩
  rintro i m H ⟨rfl, hi, kvs, L', F', r⟩
  have q := hG i kvs L' D H r F'
  by_cases hlt : i < n
  · exact .inr ⟨w.goes i H hlt q, DcP D R (i + 1), fun H' p' => ⟨n - (i + 1), by omega, rfl, hlt, p'⟩, fun x H' y => hs i x D H H' kvs L' hlt r F' (w.yields i H x H' hlt q y)⟩
  · have e : i = n := by omega
    subst e
    exact .inl ⟨w.stops H q, hd D kvs L' H F' r⟩
end
/-! ### name = {..} on one line, the name a local -/
section
variable {X : Cx}
theorem ps_setDc {i : Nat} {y : Str} {py : Pos} {kx vx tg iter : Expr} {ifs : List Expr} {scope : Scope} {own : List (Str × Nat)} {pos spos : Pos} {wi : TI} {g : TG} {tt : TT} {tk tv : TE} (hc : X.calm = true) (hN : X.N.Nodup) (hy : X.N[i]? = some y) (hyl : X.env.scope.names.lookup y = some .local)
    (hsw : swapsWith (.DictComp kx vx [⟨tg, iter, ifs, 0⟩] scope pos) (some (.Name y py)) spos.line X.env = pure true) (hi : PI X tg iter wi) (ok : BlkOk X.N X.env.scope scope own)
    (hg : ∀ (s : Shared) (H : Hp) (C : Addr) (cl : List (Str × Addr)) (fp : List Addr), PG (X.blk s H scope (compEnvC scope cl C X.env) fp) tg g)
          (ht : ∀ (s : Shared) (H : Hp) (C : Addr) (cl : List (Str × Addr)) (fp : List Addr), PTs (X.blk s H scope (compEnvC scope cl C X.env) fp) ifs tt)
    (hk : ∀ (s : Shared) (H : Hp) (C : Addr) (cl : List (Str × Addr)) (fp :
          List Addr), PE (X.blk s H scope (compEnvC scope cl C X.env) fp) kx tk)
    (he : ∀ (s : Shared) (H : Hp) (C : Addr) (cl : List (Str × Addr)) (fp : List Addr), PE (X.blk s H scope
          (compEnvC scope cl C X.env) fp) vx tv) (hs : ∀ x, foldedSetIterable iter X.env x = pure x := by intro _; rfl) :
    PS X (.Assign [.Name y py] (.DictComp kx vx [⟨tg, iter, ifs, 0⟩] scope pos) spos) (tAsg (tDc wi g tt tk tv (own.map (·.2))) (gName i)) := by
  refine ⟨fun pins
        s σ H D I h => ?_⟩
  rw [exec_Assign_Name_used
        _ _ _ _ hsw]
  refine wpAny_bind
        (wpAny_standAt (wpAny_bind ?_))
  show wpAny _ X.A (do let _ ← comprehension (.DictComp kx vx [⟨tg, iter, ifs, 0⟩] scope pos) scope X.env (firstIterPos [⟨tg, iter, ifs, 0⟩] pos) newDict false (eval iter X.env) (some (assign (.Name y py) X.env))) _ _ s
  have h : tDc wi g tt tk tv (own.map (·.2)) σ H (fun x H1 => gName i x σ H1 D.nx) := h
  refine wpAny_bind (thn (dc_core (Qf := fun _ s' => SP X pins D .next s') hc hN I hi ok hg ht hk he hs h fun L C s' m H' I' q hn f => ?_) fun _ s' hq => wpAny_pure (wpAny_pure hq))
  show wpAny _ _ (assign (.Name
        y py) X.env (.ref L)) _ _ _
  refine wpAny_assign_Name (store_ok2 (v := V.ref L) I' hN hy
        (.inl hyl) rfl (fun s2 I2 ⟨a, sb, ha⟩ => ?_) (.inr hyl))
  obtain ⟨f0, f1, f2,
        f3, f4, f5⟩ := f
  have haC : C ≠ a := by
    rcases ha with z | z
    · rw [z]; exact f1
    · exact fun e =>
          f4 y a z e.symm
  refine ⟨m, hn.sameBut sb
        haC, fun h3 sb3 => ?_⟩
  exact ⟨_, H', I2.turned (t' := s2.toks) (fun b o
        hb e => (sb3.2 b hb).trans e) f0 f1 f3 f4 f5, q⟩
theorem sw_trueD {kx vx : Expr} {gs : List Comprehension} {scope : Scope} {pos py : Pos} {y : Str} {l : Nat} {env : Env} (hk : env.scope.kind = .function) (hy : env.scope.names.lookup y = some .local) (hl : (py.line == pos.line) = true)
    (ha : (scope.names.any fun (n, k) => n == y && (k == .local || k == .cell)) = false) : swapsWith (.DictComp kx vx gs scope pos) (some (.Name y py)) l env = pure true := by
  have ky : env.kindOf
        y = some .local := hy
  have hb : env.blockKind = .function :=
        by unfold Env.blockKind; rw [hk]; rfl
  unfold swapsWith
  simp only [hb, ky,
        ha, Expr.pos, hl]
  rfl
end
/-! ### the dict of the numbers of a row -/
/-- which numbers are keys -/
def KeysOf (kvs : List (Key × V)) (ns : List Int) : Prop := (∀ k : Int, (valV kvs (.inl k)).isSome = decide (k ∈ ns)) ∧ kvs.length ≤ ns.length
theorem KeysOf.nil : KeysOf [] [] := ⟨fun k => by simp [valV_nil], Nat.le_refl _⟩
theorem KeysOf.snoc {kvs : List (Key × V)} {ns : List Int} {n : Int} {z : V} (h : KeysOf kvs ns) : KeysOf (putK kvs (.inl n) z) (ns ++ [n]) := by
  refine ⟨fun k => ?_, ?_⟩
  · rw [valV_put]
    by_cases e : k = n
    · subst e; simp
    · have e' : ¬ (Sum.inl k : Key) = Sum.inl n := fun h => e (Sum.inl.inj h)
      rw [if_neg e', h.1 k]
      simp [e]
  · have := length_putK kvs (.inl n) z
    have := h.2
    simp only [List.length_append, List.length_cons, List.length_nil]
    omega
section
variable {K : PySem.W.Frag} {H : Hp} {L : List En} {a : V} {xs : List V} {Q : VK} {g : TG} {tt : TT} {tk tv : TE} {vs : List Nat} {σ : L2.St}
theorem wDcS {QD : Addr → Hp → Prop} (hq : SeqIs L a (some xs)) (F : Fx H L) (R : Nat → List (Key × V) → List En → Prop) (h0 : R 0 [] L) (keep : ∀ i kvs L', R i kvs L' → ∀ e ∈ L, e ∈ L')
    (hs : ∀ i x D H' kvs L', xs[i]? = some x → R i kvs L' → Fx H' (.ob D (.dK kvs) :: L') → g x (wipe σ vs) H' fun σ2 H2 => wipe σ2 vs = wipe σ vs ∧ tt σ2 H2 fun b H3 =>
      if b = true then tk σ2 H3 fun y H4 => tv σ2 H4 fun z H5 => DcPut D R i y z H5 else DcP D R (i + 1) H3)
    (hd : ∀ D kvs L' H', Fx H' (.ob D (.dK kvs) :: L') → R xs.length kvs L' → QD D H') :
    GoS K a H fun J H1 => ∀ D, H1 D = none → ∃ W : Nat → Nat → Hp → Prop, (∃ m, W 0 m (upd H1 D (.dK []))) ∧ ∀ i m H, W i m H →
  (J.stop i H ∧ QD D H) ∨ (J.go i H ∧ ∃ Nx : Hp → Prop, (∀ H', Nx H' → ∃ m', m' < m ∧ W (i + 1) m' H') ∧ ∀ x H', J.yld i H x H' → g x (wipe σ vs) H' fun σ2 H2 => wipe σ2 vs = wipe σ vs ∧ tt σ2 H2 fun b H3 =>
    if b = true then tk σ2 H3 fun y H4 => tv σ2 H4 fun z H5 => ∃ kvs k, y = kV k ∧ H5 D = some
          (.dK kvs) ∧ kvs.length < sizeLine ∧ Nx (upd H5 D (.dK (putK kvs k z))) else Nx H3) := by
  cases hq with
  | lst m =>
    refine wGoSL (F.lst m) (wDcW (walk_list (K := K) (xs := xs)) F R h0 (fun i kvs L' D H' r F' => F'.lst (List.mem_cons_of_mem _ (keep _ _ _ r _ m))) ?_ hd)
    rintro i x D H' H'' kvs L' _ r F' ⟨rfl, e⟩
    exact hs i x D H'' kvs L' e r F'
  | tup m =>
    refine wGoST (F.tup m) (wDcW (walk_tup (K := K) (xs := xs)) F R h0 (fun i kvs L' D H' r F' => F'.tup (List.mem_cons_of_mem _ (keep _ _ _ r _ m))) ?_ hd)
    rintro i x D H' H'' kvs L' _ r F' ⟨rfl, e⟩
    exact hs i x D H'' kvs L' e r F'
end
theorem KeysOf.snocT {kvs : List (Key × V)} {ns : List Int} {i : Nat} {n : Int} {z : V} (h : KeysOf kvs (ns.take i)) (e : ns[i]? = some n) : KeysOf (putK kvs (.inl n) z) (ns.take (i + 1)) := by
  have := h.snoc (n := n) (z := z)
  rw [List.take_add_one, e]
  exact this
theorem KeysOf.low {kvs : List (Key × V)} {ns : List Int} {i m : Nat} (h : KeysOf kvs (ns.take i)) (l : ns.length ≤ m) (hm : m < 1000000) : kvs.length < sizeLine := by
  have := h.2
  rw [List.length_take] at this
  have := line_big
  omega
theorem wEqBB {K : PySem.W.Frag} {H : Hp} {Q : VK} {x y : Bool} (h : Q (.bl (x == y)) H) : rOr rEq (rEqD K) (.bl x) (.bl y) H Q := .inl ⟨rfl, by rw [dec_bl]; exact h⟩
theorem wNeBB {K : PySem.W.Frag} {H : Hp} {Q : VK} {x y : Bool} (h : Q (.bl (!(x == y))) H) : rOr rNe (rNeD K) (.bl x) (.bl y) H Q := .inl ⟨rfl, by rw [dec_bl]; exact h⟩
theorem filt_take {ns : List Int} {i : Nat} {u : Int} (e : ns[i]? = some u) (q : Int → Bool) : (ns.take (i + 1)).filter q = (ns.take i).filter q ++ if q u = true then [u] else [] := by
  rw [List.take_add_one, e, List.filter_append]
  congr 1
  cases h : q u <;> simp [h]
section
variable {K : PySem.W.Frag} {H : Hp} {L : List En} {a : V} {xs : List V} {Q : VK} {g : TG} {tt : TT} {te : TE} {vs : List Nat} {σ : L2.St}
theorem wLcE {QD : Addr → Hp → Prop} (hq : SeqIs L a (some xs)) (F : Fx H L) (R : Nat → List V → List En → Prop) (h0 : R 0 [] L) (keep : ∀ i acc L', R i acc L' → ∀ e ∈ L, e ∈ L')
    (hs : ∀ i x T D H' acc L', xs[i]? = some x → R i acc L' → Fx H' (.ob T (.tup [.int (i : Nat), x]) :: .ob D (.lst acc) :: L') → g (.ref T) (wipe σ vs) H' fun σ2 H2 => wipe σ2 vs = wipe σ vs ∧ tt σ2 H2 fun b H3 =>
      if b = true then te σ2 H3 fun y H4 => LcPut D R i y H4 else LcP D R (i + 1) H3)
    (hd : ∀ D acc L' H', Fx H' (.ob D (.lst acc) :: L') → R xs.length acc L' → QD D H') :
    GoE K [a] H fun J H1 => ∀ D, H1 D = none → ∃ W : Nat → Nat → Hp → Prop, (∃ m, W 0 m (upd H1 D (.lst []))) ∧ ∀ i m H, W i m H →
  (J.stop i H ∧ QD D H) ∨ (J.go i H ∧ ∃ Nx : Hp → Prop, (∀ H', Nx H' → ∃ m', m' < m ∧ W (i + 1) m' H') ∧ ∀ x H', J.yld i H x H' → g x (wipe σ vs) H' fun σ2 H2 => wipe σ2 vs = wipe σ vs ∧ tt σ2 H2 fun b H3 =>
    if b = true then te σ2 H3 fun y H4 => ∃ acc, H4 D = some (.lst acc) ∧
          acc.length < sizeLine ∧ Nx (upd H4 D (.lst (acc ++ [y]))) else Nx H3) := by
  cases hq with
  | @lst p _ m =>
    refine ⟨p, rfl, .inl ⟨xs, F.lst m, wLcW (walk_enum (K := K) (xs := xs)) F R h0 (fun i acc L' D H' r F' => F'.lst (List.mem_cons_of_mem _ (keep _ _ _ r _ m))) ?_ hd⟩⟩
    rintro i x D H' H'' acc L' _ r F' ⟨T, u, v, rfl, hT, rfl, e1, e2⟩
    cases e1
    exact hs i v T D _ acc L' e2 r (F'.new hT)
  | @tup p _ m =>
    refine ⟨p, rfl, .inr ⟨xs, F.tup m, wLcW (walk_enumT (K := K) (xs := xs)) F R h0 (fun i acc L' D H' r F' => F'.tup (List.mem_cons_of_mem _ (keep _ _ _ r _ m))) ?_ hd⟩⟩
    rintro i x D H' H'' acc L' _ r F' ⟨T, u, v, rfl, hT, rfl, e1, e2⟩
    cases e1
    exact hs i v T D _ acc L' e2 r (F'.new hT)
end
/-! ### lists of truths, compared -/
section
variable {K : PySem.W.Frag} {H : Hp} {L : List En} {a b : Addr} {xs ys : List Bool} {Q : VK}
theorem DtA.bls : ∀ xs : List Bool, DtA L (xs.map V.bl) (xs.map PyData.bool)
  | [] => .nil
  | x :: r => .cons (.bl x) (DtA.bls r)
theorem ShA.bls (xs : List Bool) : ShA (xs.map PyData.bool) 0 := ShA.map fun x _ => ⟨rfl, Nat.le_refl _⟩
theorem eqv_bls : ∀ xs ys : List Bool, PyData.eqvAll (xs.map PyData.bool) (ys.map PyData.bool) = decide (xs = ys)
  | [], [] => rfl
  | [], _ :: _ => rfl
  | _ :: _, [] => rfl
  | x :: xs, y :: ys => by
    show (PyData.eqv (.bool x) (.bool y) && PyData.eqvAll (xs.map PyData.bool) (ys.map PyData.bool)) = _
    rw [eqv_bls xs ys]
    have e : PyData.eqv (.bool x) (.bool y) = (x == y) := by cases x <;> cases y <;> rfl
    rw [e]
    cases x <;> cases y <;> simp
theorem wEqBL (F : Fx H L) (m : En.ob a (.lst (xs.map V.bl)) ∈ L) (n : En.ob b (.lst (ys.map V.bl)) ∈ L) (h : Q (.bl (decide (xs = ys))) H) : rOr rEq (rEqD K) (.ref a) (.ref b) H Q := by
  refine wEqD F (.lst m (DtA.bls xs)) (.lst n (DtA.bls ys)) (Sh.lst (ShA.bls xs)).ok (Sh.lst (ShA.bls ys)).ok ?_
  have e : PyData.eqv (.list (xs.map PyData.bool)) (.list (ys.map PyData.bool)) = decide (xs = ys) := eqv_bls xs ys
  rw [e]
  exact h
end
/-! ### x in d, an own __contains__ -/
structure OwnInF (K : PySem.W.Frag) (C f : Addr) : Prop where
  con : PySem.W.findIn K (.ref C) "__contains__" = some (some (.ref f))
  fn : PySem.W.typeIn K (.ref f) = some (.type "function")
def rInOwn (K : PySem.W.Frag) (C : Addr) (sp : Sp) : R2 := fun x y H Q => ∃ a dx fs, y = .ref a ∧ H a = some (.ins C dx fs) ∧ sp [.ref a, x] H (fun v H' => ∃ b : Bool, v = .bl b ∧ Q (.bl b) H') E0
section
variable {prog : Program} {w : World} {A : Around} {E : Value → Shared → Prop} {s : Shared} {K : PySem.W.Frag} {x C f : Addr} {ox : Obj} {od : Option Obj} {u : Value}
theorem contains_fn {Q : Value → Shared → Prop} (X : K.In s.heap) (I : PySem.W.InstAt s.heap x ox C od) (hs : PySem.W.findIn K (.ref C) "__contains__" = some (some (.ref f))) (hf : PySem.W.typeIn K (.ref f) = some (.type "function"))
    (h : wpAny (model prog w) A (call (.ref f) [.ref x, u]) (fun v s' => ∃ b, v = .bool b ∧ Q (.bool b) s') E s) : wpAny (model prog w) A (compareOp .In u (.ref x)) Q E s := by
  show wpAny _ _ (do return .bool (← contains (.ref x) u)) Q E s
  refine wpAny_bind ?_
  unfold contains
  refine wpAny_holding ?_
  refine wpAny_bind (wpAny_bind (I.type.here ((PySem.W.looks_findIn X hs).here ?_)))
  show wpAny _ _ (if (some (Value.ref f) == some Value.none) = true then _ else _) _ E s
  rw [if_neg (show ¬ ((some (Value.ref f) == some Value.none) = true) from Bool.false_ne_true)]
  refine wpAny_bind ?_
  unfold callSpecialUnlessNone?
  refine wpAny_bind (wpAny_bind (I.type.here ((PySem.W.looks_findIn X hs).here (wpAny_holding (wpAny_bind ((PySem.W.bind_fn X _ hf).here ?_))))))
  show wpAny _ _ (if (Value.ref f == Value.none) = true then _ else _) _ E s
  rw [if_neg (show ¬ ((Value.ref f ==
        Value.none) = true) from Bool.false_ne_true)]
  refine wpAny_bind (wpAny_mono h (fun v s' z => ?_) fun _ _ e => e)
  obtain ⟨b, rfl, q⟩ := z
  exact wpAny_pure (wpAny_truthy_bool (wpAny_pure q))
end
section
variable {X : Cx} {k : Nat} {C f : Addr} {fd : FuncData} {ps : List Str} {sp : Sp}
theorem op_inOwn (F : FnOk X.prog X.w X.K X.mg X.base CX0 k f fd ps sp) (q : OwnInF X.K C f) (hb : Binds X.K fd ps []) (hr : Room k X.A) : OpR X (compareOp .In) (rInOwn X.K C sp) := by
  intro pins s σ H x
        y v u Q I rx ry h
  obtain ⟨a, dx, fs, rfl, ha, hsp⟩ := h
  obtain rfl : u =
        Value.ref a := ry
  obtain ⟨mA, J, _⟩
        := ins_get I.hok ha
  obtain ⟨od, J, _⟩ := J.look
  refine contains_fn I.kIn J q.con q.fn (wpAny_mono (own_call F hb hr rfl I (show RelV (V.ref a) (Value.ref a) from rfl) rx hsp) (fun v s' z => ?_) fun _ _ e => e)
  obtain ⟨v', H', I', rv, b, eb, hq⟩ := z
  subst eb
  obtain rfl : v = Value.bool b := rv
  exact ⟨b, rfl, .bl b, H', I', rfl, hq⟩
def InO (P : Program) (w : World) (K : PySem.W.Frag) (mg : Str → Option Value) (base : Heap) (C : Addr) (k : Nat) (ps : List Str) (sp : Sp) : Prop := ∃ (f : Addr) (fd : FuncData), OwnInF K C f ∧ Binds K fd ps [] ∧ FnOk P w K mg base CX0 k f fd ps sp
theorem op_inO (O : InO X.prog X.w X.K X.mg X.base C k ps sp) (hr : Room k X.A) : OpR X (compareOp .In) (rInOwn X.K C sp) := by
  obtain ⟨f, fd, q, b, F⟩ := O
  exact op_inOwn F q b hr
theorem wInOwn {K : PySem.W.Frag} {H : Hp} {Q : VK} {a dx : Addr} {x : V} {fs : List (Str × V)} (ha : H a = some (.ins C dx fs)) (h : sp [.ref a, x] H (fun v H' => ∃ b : Bool, v = .bl b ∧ Q (.bl b) H') E0) : rInOwn K C sp x (.ref a) H Q := ⟨a, dx, fs, rfl, ha, h⟩
/-! ### min of three, sorted of any number of numbers, a range from its end -/
def rMin3 : List V → Hp → VK → Prop := fun vs H Q => ∃ i j k : Int, vs = [.int i, .int j, .int k] ∧ Q (.int (min (min i j) k)) H
theorem cr_min3 (hc : X.calm = true) : CallR X (.builtin "min") rMin3 := by
  intro pins s σ
        H vs us Q I r h
  obtain ⟨i, j, k, rfl, q⟩ := h
  refine call_min3Nu hc pins s σ H _ us Q I r ⟨.int i, .int j, .int k, .int (min (min i j) k), rfl, ?_, q⟩
  have two : ∀ a b : Int, nuMin2 (.int a) (.int b) = some (.int (min a b)) := fun a b => by
    show some (if decide (b < a) = true then V.int b else V.int a) = _
    by_cases h : b < a
    · rw [if_pos (decide_eq_true h), Int.min_eq_right (by omega)]
    · rw [if_neg (by simpa using h), Int.min_eq_left (by omega)]
  show (nuMin2 (.int i) (.int j)).bind (fun m => nuMin2 m (.int k)) = _
  rw [two]
  exact two _ _
theorem wMin3 {i j k : Int} {H : Hp} {Q : VK} (h : Q (.int (min (min i j) k)) H) : rMin3 [.int i, .int j, .int k] H Q := ⟨i, j, k, rfl, h⟩
theorem wSortedI {K : PySem.W.Frag} {H : Hp} {L : List En} {Q : VK} {a : Addr} {ns : List Int} (s : SqL K H a (ns.map V.int)) (F : Fx H L)
    (k : ∀ (ns' : List Int) p H', ns'.Perm ns → ns'.Pairwise (· ≤ ·) → Fx H' (.ob p (.lst (ns'.map V.int)) :: L) → Q (.ref p) H') : rSortedI K [.ref a] H Q :=
  ⟨a, ns, rfl, s, fun ns' p hp hs hn => k ns' p _ hp hs (F.new hn)⟩
def GoRev (x : V) (H : Hp) (R : It → Hp → Prop) : Prop := ∃ n : Int, x = .int n ∧ -(2 ^ 62) ≤ (0 : Int) ∧ (0 : Int) < 2 ^ 62 ∧ -(2 ^ 62) ≤ n ∧ n < 2 ^ 62 ∧ R (Itc (0 + (((n - 0).toNat : Nat) : Int) - 1) (-1) (n - 0).toNat) H
theorem wIRevR {σ : L2.St} {H : Hp} {RI : It → Hp → Prop} {ta : TE} (h : ta σ H fun x H1 => GoRev x H1 RI) : iRevR (tRg1 ta) σ H RI := h
theorem wGoRev {n : Int} {H : Hp} {RI : It → Hp → Prop} (h0 : 0 ≤ n) (h1 : n < 2 ^ 62) (h : RI (Itc (n - 1) (-1) n.toNat) H) : GoRev (.int n) H RI := by
  refine ⟨n, rfl, by omega, by omega, by omega, h1, ?_⟩
  have e : (0 : Int) + (((n - 0).toNat : Nat) : Int) - 1 = n - 1 := by omega
  have e2 : (n - 0).toNat = n.toNat := by omega
  rw [e, e2]
  exact h
end
end Z
namespace RZ
open PySem L2
def intV (x : V) : Int := match x with | .int i => i | _ => 0
theorem intV_map (ns : List Int) : (ns.map V.int).map intV = ns := by
  rw [List.map_map]
  exact List.map_id'' (fun _ => rfl) ns
theorem putF_len (f : Str) (v : V) : ∀ l : List (Str × V), (putF f v l).length ≤ l.length + 1
  | [] => Nat.le_refl _
  | (g, u) :: r => by
    have ih := putF_len f v r
    unfold putF
    split
    · exact Nat.le_succ _
    · exact Nat.succ_le_succ ih
theorem putF_le {f : Str} {v : V} {l : List (Str × V)} {n : Nat} (h : l.length ≤ n) : (putF f v l).length ≤ n + 1 := Nat.le_trans (putF_len f v l) (Nat.succ_le_succ h)
end RZ

set_option Elab.async false
set_option linter.all false
set_option maxRecDepth 100000
set_option maxHeartbeats 2000500
/-! ### min of a list with default=None -/
namespace PySem
section
variable {prog : Program} {w : World} {A : Around} {R : Result → Shared → Prop} {E : Value → Shared → Prop} {s : Shared} {I S : Addr} {fp wr : List Addr} {n : Nat} {P : Nat → Value → Prop} {St : Nat → Heap → Prop} {d : Value}
theorem zf_args_minD (a v : Value) : argsOk "min" ⟨[a], [(Str.ofString "default", v)]⟩ := by unfold argsOk; kernel_rfl
theorem zcall_kw {id : String} {b : Builtin} {args : List Value} {kw : List (Str × Value)} {Q : Value → Shared → Prop} (hk : builtinKind id = none) (hp : plainId id = true) (hb : entryFor table id = some b) (ha : argsOk id ⟨args, kw⟩)
    (hc : wpAny (model prog w) A.in1 (b ⟨args, kw⟩) (fun fin s' => ∃ c', fin = .again c' ∧ c'.quiet = true ∧ codeAny (model prog w) A c' (fun r s' => ∃ v, r = .ok (.ret v) ∧ Q v s') s') E s) : wpAny (model prog w) A (call (.builtin id) args kw) Q E s := by
  refine wpAny_call
        (codeAny_call_builtin hp hb ?_)
  have fin := wpAny_mono hc (Q' := fun fin s' => match fin with
      | .done f => (match (Except.ok f : Result) with
        | .ok (.ret v) => Q v s'
        | .ok _ => False
        | .error e => E e s')
      | .again c' => c'.quiet = true ∧ codeAny (model prog w) A c' (fun r s' => match r with
        | .ok (.ret v) => Q v s'
        | .ok _ => False
        | .error e => E e s') s') (fun fin s' z => by
    obtain ⟨c', rfl, q, z⟩ := z
    exact ⟨q, codeAny_mono z fun r s2 y => by obtain ⟨v, rfl, y⟩ := y; exact y⟩) fun _ _ e => e
  simp only
        [checkBuiltinCall, hk]
  cases sg : Manifest.signature? id with
  | none => exact wpAny_pure fin
  | some g =>
    have h2 : Bind.checkArgs id g ⟨args, kw⟩ = pure () := by simpa only [argsOk, sg] using ha
    simp only [h2]
    exact wpAny_pure fin
/-- min's loop, at its turn j: nothing found yet, or the best of the first j -/
theorem zmin_loop (W : Walks prog w A.in1 I fp wr n P St) (bt : Nat → Nat → Bool) (hcmp : CmpOf prog w A.in1 .Lt P bt) (hSf : S ∉ fp) : ∀ (k j : Nat) (s : Shared) (its : Array Value) (c : Nat), n - j = k → j ≤ n → St j s.heap →
    ((its = #[] ∧ j = 0) ∨ ∃ vb, its = #[vb, vb] ∧ 0 < j ∧ P (argBest bt (j - 1)) vb) → s.heap.get? S = some { cls := .type "list", dict := none, data := .seq its c, slots := #[] } →
    (∀ v h' tk, (n = 0 ∧ v = d ∨ 0 < n ∧ P (argBest bt (n - 1)) v) → (∀ b o, b ∉ wr → b ≠ S → s.heap.get? b = some o → h'.get? b = some o) → R (.ok (.ret v)) { s with heap := h', toks := tk }) →
    codeAny (model prog w) A (.builtin "min.loop" ⟨[.ref I, .none, .ref S], [("default", d)]⟩) R s := by
  have hSw : S ∉ wr :=
        fun h => hSf (W.sub _ h)
  have nm : (toString "min" ++ toString ".loop" : String) = "min.loop" := by decide
  intro k
  induction k with
  | zero =>
    intro j s its c hk hj hst hits hS hR
    obtain rfl : j = n := by omega
    refine codeAny_builtin
          F.entry_min_loop ?_
    rw [Around.under_plainId
          F.plain_min_loop _]
    show wpAny _ A.in1 (seqItems?
          (.ref S) >>= _) _ _ s
    refine wpAny_bind
          (wpAny_seqItems hS rfl ?_)
    rcases hits with ⟨rfl, rfl⟩ | ⟨vb, rfl, j0, hP⟩
    · show wpAny _ A.in1 (tryCatch (pyNext (.ref I)) _ >>= _) _ _ s
      refine wpAny_bind (wpAny_tryCatch
            (W.done s _ _ hst fun h' tk hk' => ?_))
      show wpAny _ A.in1
            (rule _ >>= _) _ _ _
      refine wpAny_bind
            (wpAny_rule (wpAny_pure ?_))
      exact hR d _ tk (.inl ⟨rfl, rfl⟩) fun b o h1 _ e => hk' b o h1 e
    · show wpAny _ A.in1 (tryCatch (pyNext (.ref I)) _ >>= _) _ _ s
      refine wpAny_bind (wpAny_tryCatch
            (W.done s _ _ hst fun h' tk hk' => ?_))
      have hS' := hk' S _ hSw hS
      show wpAny _ A.in1 (updateSeq
            S (fun _ => #[]) >>= _) _ _ _
      refine wpAny_bind ?_
      refine wpAny_updateSeq hS' rfl
            (wpAny_bind (wpAny_letGo (wpAny_pure ?_)))
      exact hR vb _ tk (.inr ⟨j0, hP⟩) fun b o h1 h2 e => (Heap.get?_update_other _ _ (Ne.symm h2)).trans (hk' b o h1 e)
  | succ k ih =>
    intro j s its c hk hj hst hits hS hR
    have lt : j < n := by omega
    refine codeAny_builtin
          F.entry_min_loop ?_
    rw [Around.under_plainId
          F.plain_min_loop _]
    show wpAny _ A.in1 (seqItems?
          (.ref S) >>= _) _ _ s
    refine wpAny_bind
          (wpAny_seqItems hS rfl ?_)
    rcases hits with ⟨rfl, rfl⟩ | ⟨vb, rfl, j0, hP⟩
    · show wpAny _ A.in1 (tryCatch (pyNext (.ref I)) _ >>= _) _ _ s
      refine wpAny_bind (wpAny_tryCatch (W.item 0 s _ _ lt hst fun v h' tk hPv hst' hk' => ?_))
      have hS' := hk' S _ hSw hS
      show wpAny _ A.in1 (updateSeq S
            (fun _ => #[v, v]) >>= _) _ _ _
      refine wpAny_bind ?_
      refine wpAny_updateSeq
            hS' rfl ?_
      rw [nm]
      refine wpAny_pure ⟨plainId_quiet F.plain_min_loop _, ih 1 _ #[v, v] _ (by omega) (by omega) (W.frame _ _ _ hst' fun b hb o e => (Heap.get?_update_other _ _ (fun h : S = b => hSf (by rw [h]; exact hb))).trans e) (.inr ⟨v, rfl, by omega, hPv⟩) (Heap.get?_update_self _ hS' rfl) fun v2 h2 tk2 q2 f2 => ?_⟩
      exact hR v2 h2 tk2 q2 fun b o h1 h3 e => f2 b o h1 h3 ((Heap.get?_update_other _ _ (Ne.symm h3)).trans (hk' b o h1 e))
    · have ej : j - 1 + 1 = j := by omega
      show wpAny _ A.in1 (tryCatch
            (pyNext (.ref I)) _ >>= _) _ _ s
      refine wpAny_bind (wpAny_tryCatch (W.item j s _ _ lt hst fun v h' tk hPv hst' hk' => ?_))
      have hS' := hk' S _ hSw hS
      show wpAny _ A.in1 (tryCatch (holding [v, v]
            (richCompare .Lt v vb >>= _)) _ >>= _) _ _ _
      refine wpAny_bind (wpAny_tryCatch (wpAny_holding (wpAny_bind (hcmp j (argBest bt (j - 1)) v vb _ _ _ hPv hP ?_))))
      refine wpAny_bind (wpAny_holding
            (wpAny_truthy_bool ?_))
      refine wpAny_bind
            (wpAny_letGo (wpAny_pure ?_))
      have best : argBest bt j = if bt j (argBest bt (j - 1)) = true then j else argBest bt (j - 1) := by
        conv => lhs; rw [← ej]
        rw [argBest, ej]
      cases hb : bt j (argBest bt (j - 1)) with
      | true =>
        rw [hb, if_pos rfl] at best
        simp only [if_true]
        refine wpAny_bind ?_
        refine wpAny_updateSeq hS' rfl
              (wpAny_bind (wpAny_letGo ?_))
        rw [nm]
        refine wpAny_pure ⟨plainId_quiet F.plain_min_loop _, ih (j + 1) _ #[v, v] _ (by omega) (by omega) (W.frame _ _ _ hst' fun b hb o e => (Heap.get?_update_other _ _ (fun h : S = b => hSf (by rw [h]; exact hb))).trans e) (.inr ⟨v, rfl, by omega, by rw [Nat.add_sub_cancel, best]; exact hPv⟩) (Heap.get?_update_self _ hS' rfl) fun v2 h2 tk2 q2 f2 => ?_⟩
        exact hR v2 h2 tk2 q2 fun b o h1 h3 e => f2 b o h1 h3 ((Heap.get?_update_other _ _ (Ne.symm h3)).trans (hk' b o h1 e))
      | false =>
        rw [hb, if_neg Bool.false_ne_true] at best
        simp only [Bool.false_eq_true,
              if_false]
        refine wpAny_bind
              (wpAny_letGo ?_)
        rw [nm]
        refine wpAny_pure ⟨plainId_quiet F.plain_min_loop _, ih (j + 1) _ #[vb, vb] _ (by omega) (by omega) hst' (.inr ⟨vb, rfl, by omega, by rw [Nat.add_sub_cancel, best]; exact hP⟩) hS' fun v2 h2 tk2 q2 f2 => ?_⟩
        exact hR v2 h2 tk2 q2 fun b o h1 h3 e => f2 b o h1 h3 (hk' b o h1 e)
theorem zmin_list {l : Addr} {xs : Array (Int × Tok)} {Q : Value → Shared → Prop} (hh : A.handled = none) (hl : s.heap.IsList l (intItems xs))
    (h : ∀ v h' tk, (xs.size = 0 ∧ v = d ∨ 0 < xs.size ∧ (intItems xs)[argBest (fun i j => decide (numAt xs i < numAt xs j)) (xs.size - 1)]? = some v) → (∀ b o, s.heap.get? b = some o → h'.get? b = some o) → Q v { s with heap := h', toks := tk }) :
    wpAny (model prog w) A (call (.builtin "min")
          [.ref l] [(Str.ofString "default", d)]) Q E s := by
  have nm : (toString "min" ++ toString ".loop" : String) = "min.loop" := by decide
  refine zcall_kw F.kind_min F.plain_min F.entry_min (zf_args_minD _ _) ?_
  show wpAny _ A.in1 (Builtin.Builtins.bindParams "min" ["key",
        "default"] 0 ⟨[], [(Str.ofString "default", d)]⟩ >>= _) _ _ s
  refine wpAny_bind (wpAny_of_eq (show Builtin.Builtins.bindParams "min" ["key", "default"] 0 ⟨[], [(Str.ofString "default", d)]⟩ = pure [none, some d] from by first | rfl | kernel_rfl) ?_)
  refine wpAny_bind
        (wpAny_pure ?_)
  refine wpAny_bind (iter_intList hl fun s₂ e st hfp hlI => ?_)
  subst e
  refine wpAny_bind
        (wpAny_newObj_type ?_)
  have hSf : (s.heap.push { cls := .type "list_iterator", data := .fields #[.ref l, .int 0 0] }).objs.size ∉ [s.heap.objs.size, l] := fun hm => Nat.lt_irrefl _ (hfp _ hm)
  have W := Walks.list (prog := prog) (w := w) (A := A.in1) hh _ l hlI (intItems xs)
  rw [nm]
  refine wpAny_pure ⟨_, rfl, plainId_quiet F.plain_min_loop _, zmin_loop (d := d) W _ (CmpOf.ints_lt (numAt xs) (fun _ _ => intItems_at)) hSf _ 0 _ #[] _ rfl (Nat.zero_le _) (W.frame _ _ _ st fun b _ o e => Heap.get?_push_of_some _ e) (.inl ⟨rfl, rfl⟩) (Heap.get?_push_size _ rfl) fun v h' tk hP hk => ?_⟩
  refine ⟨v, rfl, h v h' tk (by simpa [intItems] using hP) (old_kept fun b o hb e => hk b o hb (Nat.ne_of_lt (Heap.lt_size e)) (Heap.get?_push_of_some _ e))⟩
end
end PySem
namespace Z
open PySem PySem.Spec
      PyProof.Rows L2
section
variable {X : Cx}
def rMinN (K : PySem.W.Frag) : List V → List V → Hp → VK → Prop := fun vs zs H Q => ∃ (a : Addr) (ns : List Int), vs = [V.ref a] ∧ zs = [.non] ∧ SqL K H a (ns.map V.int) ∧ (ns = [] → Q .non H) ∧ ∀ m, m ∈ ns → (∀ y, y ∈ ns → m ≤ y) → Q (.int m) H
theorem cr_minN (hc : X.calm = true) : CallRK X (.builtin "min") [Str.ofString "default"] (rMinN X.K) := by
  intro pins s σ H vs
        zs us ws Q I r rz h
  obtain ⟨a, ns, rfl, rfl, hs, q0, q⟩ := h
  obtain ⟨its, rv,
        hl, _⟩ := I.list hs
  obtain rfl := Vals.ref1 r
  obtain ⟨w1, rfl, e1⟩ : ∃ w1, ws = [w1] ∧ RelV .non w1 := by
    cases rz with
    | cons a b => cases b; exact ⟨_, rfl, a⟩
  obtain rfl : w1 =
        Value.none := e1
  have hi := rv.ints
  obtain ⟨xs, e⟩ :=
        hi.allInts.items
  have hn : numsOf (intItems xs).toList
        = ns := by rw [← e]; exact hi.numsOf
  rw [nums_intItems] at hn
  subst hn
  have hl' := hl.isList
  rw [e] at hl'
  refine zmin_list (I.ok.hd hc) hl' fun v h' tk hv hk => ?_
  rcases hv with ⟨h0, rfl⟩ | ⟨h0, hv⟩
  · refine ⟨.non, H, I.kept hk, rfl, q0 ?_⟩
    have : xs.toList = [] := by
      apply List.eq_nil_of_length_eq_zero
      rw [Array.length_toList]; exact h0
    rw [this]; rfl
  · obtain ⟨t, rfl⟩ := intItems_at hv
    obtain ⟨h1, h2⟩ := argBest_lt
          (numAt xs) (xs.size - 1)
    refine ⟨.int _, H, I.kept hk, ⟨_, rfl⟩, q _ ?_ fun y hy => ?_⟩
    · rw [numAt_eq]; exact PySem.getD_mem (by rw
          [List.length_map, Array.length_toList]; omega)
    · obtain ⟨j, hj, rfl⟩ := mem_getD hy
      rw [List.length_map,
            Array.length_toList] at hj
      rw [← numAt_eq];
            exact h2 j (by omega)
end
section
variable {K : PySem.W.Frag} {H : Hp} {Q : VK} {a : Addr} {ns : List Int} {σ : L2.St}
theorem wCKw {r : List V → List V → Hp → VK → Prop} {t tk : TA} (h : t σ H fun vs H1 => tk σ H1 fun zs H2 => r vs zs H2 Q) : tCKw r t tk σ H Q := h
theorem wMinN (s : SqL K H a (ns.map V.int)) (q0 : ns = [] → Q .non H) (q : ∀ m, m ∈ ns → (∀ y, y ∈ ns → m ≤ y) → Q (.int m) H) : rMinN K [.ref a] [.non] H Q := ⟨a, ns, rfl, rfl, s, q0, q⟩
end
end Z
namespace Z
open PySem PySem.Spec
      PyProof.Rows L2
section
variable {X : Cx}
/-! ### divmod of great numbers -/
def rDvm : List V → Hp → VK → Prop := fun xs H Q => ∃ i j, xs = [.int i, .int j] ∧ CDivP i j ∧ ∀ p, H p = none → Q (.ref p) (upd H p (.tup [.int (i / j), .int (i % j)]))
theorem cr_dvm : CallR X (.builtin "divmod") rDvm := call_divmodW
theorem divp_big {i j : Int} (i0 : 0 ≤ i) (i1 : i < 10 ^ 40) (hj : 0 < j) : CDivP i j := by
  refine divp_ok hj (Nat.le_trans ?_ (Nat.le_add_left _ _))
  have h2 : i.natAbs < 2 ^ 140 := by
    have : (10 : Int) ^ 40 < 2 ^ 140 := by decide
    omega
  unfold Builtin.Int.intBits
  have := PySem.Flt.log2_lt_of (n := i.natAbs) (k := 140) (by decide) h2
  split <;> omega
theorem wDvm {H : Hp} {L : List En} {Q : VK} {i j : Int} (i0 : 0 ≤ i) (i1 : i < 10 ^ 40) (hj : 0 < j) (F : Fx H L) (k : ∀ p H', Fx H' (.ob p (.tup [.int (i / j), .int (i % j)]) :: L) → Q (.ref p) H') : rDvm [.int i, .int j] H Q :=
  ⟨i, j, rfl, divp_big i0 i1 hj, fun p hp => k p _ (F.new hp)⟩
end
end Z
namespace Z
open PySem PySem.Spec
      PyProof.Rows L2
/-! ### x not in d, an own __contains__ -/
def rNotInOwn (K : PySem.W.Frag) (C : Addr) (sp : Sp) : R2 := fun x y H Q => ∃ a dx fs, y = .ref a ∧ H a = some (.ins C dx fs) ∧ sp [.ref a, x] H (fun v H' => ∃ b : Bool, v = .bl b ∧ Q (.bl (!b)) H') E0
section
variable {prog : Program} {w : World} {A : Around} {E : Value → Shared → Prop} {s : Shared} {K : PySem.W.Frag} {x C f : Addr} {ox : Obj} {od : Option Obj} {u : Value}
theorem contains_fnN {Q : Value → Shared → Prop} (X : K.In s.heap) (I : PySem.W.InstAt s.heap x ox C od) (hs : PySem.W.findIn K (.ref C) "__contains__" = some (some (.ref f))) (hf : PySem.W.typeIn K (.ref f) = some (.type "function"))
    (h : wpAny (model prog w) A (call (.ref f) [.ref x, u]) (fun v s' => ∃ b, v = .bool b ∧ Q (.bool (!b)) s') E s) : wpAny (model prog w) A (compareOp .NotIn u (.ref x)) Q E s := by
  show wpAny _ _ (do return .bool (!(← contains (.ref x) u))) Q E s
  refine wpAny_bind ?_
  unfold contains
  refine wpAny_holding ?_
  refine wpAny_bind (wpAny_bind (I.type.here ((PySem.W.looks_findIn X hs).here ?_)))
  show wpAny _ _ (if (some (Value.ref f) == some Value.none) = true then _ else _) _ E s
  rw [if_neg (show ¬ ((some (Value.ref f) == some Value.none) = true) from Bool.false_ne_true)]
  refine wpAny_bind ?_
  unfold callSpecialUnlessNone?
  refine wpAny_bind (wpAny_bind (I.type.here ((PySem.W.looks_findIn X hs).here (wpAny_holding (wpAny_bind ((PySem.W.bind_fn X _ hf).here ?_))))))
  show wpAny _ _ (if (Value.ref f == Value.none) = true then _ else _) _ E s
  rw [if_neg (show ¬ ((Value.ref f ==
        Value.none) = true) from Bool.false_ne_true)]
  refine wpAny_bind (wpAny_mono h (fun v s' z => ?_) fun _ _ e => e)
  obtain ⟨b, rfl, q⟩ := z
  exact wpAny_pure (wpAny_truthy_bool (wpAny_pure q))
end
section
variable {X : Cx} {k : Nat} {C : Addr} {ps : List Str} {sp : Sp}
theorem op_notInO (O : InO X.prog X.w X.K X.mg X.base C k ps sp) (hr : Room k X.A) : OpR X (compareOp .NotIn) (rNotInOwn X.K C sp) := by
  obtain ⟨f, fd, q, hb, F⟩ := O
  intro pins s σ H x
        y v u Q I rx ry h
  obtain ⟨a, dx, fs, rfl, ha, hsp⟩ := h
  obtain rfl : u =
        Value.ref a := ry
  obtain ⟨mA, J, _⟩
        := ins_get I.hok ha
  obtain ⟨od, J, _⟩ := J.look
  refine contains_fnN I.kIn J q.con q.fn (wpAny_mono (own_call F hb hr rfl I (show RelV (V.ref a) (Value.ref a) from rfl) rx hsp) (fun v s' z => ?_) fun _ _ e => e)
  obtain ⟨v', H', I', rv, b, eb, hq⟩ := z
  subst eb
  obtain rfl : v = Value.bool b := rv
  exact ⟨b, rfl, .bl (!b), H', I', rfl, hq⟩
theorem wNotInOwn {K : PySem.W.Frag} {H : Hp} {Q : VK} {a dx : Addr} {x : V} {fs : List (Str × V)} (ha : H a = some (.ins C dx fs)) (h : sp [.ref a, x] H (fun v H' => ∃ b : Bool, v = .bl b ∧ Q (.bl (!b)) H') E0) : rNotInOwn K C sp x (.ref a) H Q := ⟨a, dx, fs, rfl, ha, h⟩
end
end Z
namespace Z
open L2
theorem wIntB {b : Bool} {H : Hp} {Q : VK} (h : Q (.int (if b = true then 1 else 0)) H) : rInt [.bl b] H Q := .inr ⟨b, rfl, h⟩
end Z
namespace Z
open PySem PySem.Spec
      PyProof.Rows L2
/-! ### a try that stands alone in a loop: its reading by name -/
def tTryO (K : PySem.W.Frag) (c : Value) (ts : Addr → Value → Option Addr → TS) (Wout : WX) (tb : WX → TS) : TS := fun D σ H => tb (wOnly K c ts Wout D) D σ H
theorem wTryO {K : PySem.W.Frag} {c : Value} {ts : Addr → Value → Option Addr → TS} {Wout : WX} {tb : WX → TS} {D : Ends} {σ : L2.St} {H : Hp} (h : tb (wOnly K c ts Wout D) D σ H) : tTryO K c ts Wout tb D σ H := h
section
variable {X : Cx} {x : Str} {c : Value} {body suite : List Stmt} {b₀ : Stmt} {np
      pos pos' : Pos} {tb : WX → TS} {ts : Addr → Value → Option Addr → TS} {Wout : WX}
theorem ps_try_onlyN (hs : X.stack = X.env :: X.outer) (hf : X.env.frame = some X.env.locals) (hc : Names X x c) (tk : Takes X Wout)
    (hb : ∀ (W : WX) (pn : List (Addr × Obj)) (xe : Value → Shared → Prop), Takes (X.tr pn xe) W → PassesOwn (model X.prog X.w) X.A X.env xe →
      PSs (X.tr pn xe) body (tb W))
    (hsu : ∀ (a : Addr) (oe : Obj) (cls : Value) (d : Option Addr) (pn : List (Addr × Obj)), Zc cls d oe → (∃ vs, oe.data = .fields vs) →
      PSs (X.suite a ((a, oe) :: pn)) (b₀ :: suite) (ts a cls d)) :
    PS X (.Try body [.ExceptHandler (some (.Name x np)) none (b₀ :: suite) pos'] [] [] pos) (tTryO X.K c ts Wout tb) := ps_try_only hs hf hc tk hb hsu
end
end Z
namespace Z
open PySem PySem.Spec
      PyProof.Rows L2
/-! ### a, b = x, y -/
def tPar2 (i j : Nat) (D : Ends) (vs : List V) (σ : L2.St) (H : Hp) : Prop := ∃ v w, vs = [v, w] ∧ D.nx ((σ.set i (some v)).set j (some w)) H
theorem wPar {i j : Nat} {ta : TA} {D : Ends} {σ : L2.St} {H : Hp} (h : ta σ H fun vs H1 => tPar2 i j D vs σ H1) : tPar i j ta D σ H := h
theorem wPar2 {i j : Nat} {nx bk ct : L2.St → Hp → Prop} {rt : VK} {v w : V} {σ : L2.St} {H : Hp} (h : nx ((σ.set i (some v)).set j (some w)) H) : tPar2 i j ⟨nx, rt, bk, ct⟩ [v, w] σ H := ⟨v, w, rfl, h⟩
end Z

set_option Elab.async false
set_option linter.all false
set_option maxRecDepth 100000
set_option maxHeartbeats 2000500
/-! ### constants of the program, gcd, // of any sign, ratios -/
namespace Z
open PySem PySem.Spec
      PyProof.Rows L2
section
variable {X : Cx} {K : PySem.W.Frag} {H : Hp} {L : List En} {Q : VK}
/-- a tuple of the written part -/
def KT (K : PySem.W.Frag) (a : Addr) (xs : List V) : Prop := ∀ H, SqT K H a xs
def constI : List Value → List Int → Bool
  | [], [] => true
  | .int i _ :: r, j :: q => (i == j) && constI r q
  | _, _ => false
theorem constI_vals : ∀ {vs : List Value} {ns : List Int}, constI vs ns = true → Vals (ns.map V.int) vs
  | [], [], _ => .nil
  | .int i t :: r, j :: q, h => by
    have h : ((i == j) && constI r q) = true := h
    rw [Bool.and_eq_true, beq_iff_eq] at h
    obtain ⟨rfl, h2⟩ := h
    exact .cons (⟨t, rfl⟩ : RelV (.int i) (.int i t)) (constI_vals h2)
theorem KT.of {a : Addr} {od : Option Addr} {its : Array Value} {n : Nat} {sl : Array (Option Value)} {ns : List Int} (h : K.lookup a = some ⟨.type "tuple", od, .seq its n, sl⟩) (c : constI its.toList ns = true) (l : its.size ≤ 100) : KT K a (ns.map V.int) := fun H =>
  .inr ⟨_, its, n, h, rfl, rfl, Nat.le_trans (Nat.le_trans l (by decide)) line_big, constI_vals c⟩
/-- // by a divisor of either sign -/
abbrev rDivA : R2 := rI (fun _ j => j ≠ 0 ∧ j.natAbs.log2 < 9000) fun i j => .int (i.fdiv j)
theorem zDivA : OpR X (binaryOp .FloorDiv) rDivA := opI fun i j _ _ _ _ _ hc q => floordiv_int hc.1 q (.inl (PyProof.noPylong_of_log2 hc.2))
theorem wDivA {i j : Int} (h0 : j ≠ 0) (h9 : j.natAbs.log2 < 9000) (h : Q (.int (i.fdiv j)) H) : rDivA (.int i) (.int j) H Q := ⟨i, j, rfl, rfl, ⟨h0, h9⟩, h⟩
theorem wGcd {a b : Int} (h : Q (.int ((Nat.gcd a.natAbs b.natAbs : Nat) : Int)) H) : rGcd [.int a, .int b] H Q := ⟨a, b, rfl, h⟩
/-- v is the ratio a / b -/
def Rt (K : PySem.W.Frag) (L : List En) (v : V) (a b : Int) : Prop := ∃ p, v = .ref p ∧ (En.ob p (.tup [.int a, .int b]) ∈ L ∨ KT K p [.int a, .int b])
theorem Rt.sq {v : V} {a b : Int} (h : Rt K L v a b) (F : Fx H L) : ∃ p, v = .ref p ∧ SqT K H p [.int a, .int b] := by
  obtain ⟨p, rfl, h | h⟩ := h
  · exact ⟨p, rfl, F.tup h⟩
  · exact ⟨p, rfl, h H⟩
theorem Rt.mono {L' : List En} {v : V} {a b : Int} (h : Rt K L v a b) (s : ∀ e ∈ L, e ∈ L') : Rt K L' v a b := let ⟨p, e, h⟩ := h; ⟨p, e, h.imp (s _) id⟩
theorem Rt.le {L' : List En} {v : V} {a b : Int} (h : Rt K L v a b) (s : L.Sublist L') : Rt K L' v a b := h.mono fun _ m => s.subset m
theorem Rt.head {p : Addr} {a b : Int} : Rt K (.ob p (.tup [.int a, .int b]) :: L) (.ref p) a b := ⟨p, rfl, .inl (.head _)⟩
end
end Z
namespace RZ
/-! ### lowest terms -/
/-- what a / b is divided by -/
def shr (t b : Int) : Int := if b < 0 then -((Nat.gcd t.natAbs b.natAbs : Nat) : Int) else ((Nat.gcd t.natAbs b.natAbs : Nat) : Int)
def lowT (t b : Int) : Int := t.fdiv (shr t b)
def lowB (t b : Int) : Int := b.fdiv (shr t b)
theorem shr_abs (t b : Int) : (shr t b).natAbs = Nat.gcd t.natAbs b.natAbs := by unfold shr; split <;> omega
theorem shr_ne {t b : Int} (hb : b ≠ 0) : shr t b ≠ 0 := by
  have : 0 < Nat.gcd t.natAbs b.natAbs := Nat.gcd_pos_of_pos_right _ (by omega)
  unfold shr
  split <;> omega
theorem low_spec {t b : Int} (hb : b ≠ 0) : t = shr t b * lowT t b ∧ b = shr t b * lowB t b ∧ 1 ≤ lowB t b ∧ Nat.gcd (lowT t b).natAbs (lowB t b).natAbs = 1 ∧ (lowT t b).natAbs ≤ t.natAbs ∧ (lowB t b).natAbs ≤ b.natAbs := by
  have s0 := shr_ne (t := t) hb
  have sa := shr_abs t b
  have d1 : shr t b ∣ t := Int.natAbs_dvd_natAbs.mp (by rw [sa]; exact Nat.gcd_dvd_left _ _)
  have d2 : shr t b ∣ b := Int.natAbs_dvd_natAbs.mp (by rw [sa]; exact Nat.gcd_dvd_right _ _)
  obtain ⟨t', ht⟩ := d1
  obtain ⟨b', hb'⟩ := d2
  have e1 : lowT t b = t' := by unfold lowT; conv => lhs; arg 1; rw [ht]
                                exact Int.mul_fdiv_cancel_left _ s0
  have e2 : lowB t b = b' := by unfold lowB; conv => lhs; arg 1; rw [hb']
                                exact Int.mul_fdiv_cancel_left _ s0
  rw [e1, e2]
  have g0 : 0 < Nat.gcd t.natAbs b.natAbs := Nat.gcd_pos_of_pos_right _ (by omega)
  have n1 : t.natAbs = Nat.gcd t.natAbs b.natAbs * t'.natAbs := by rw [← sa, ← Int.natAbs_mul, ← ht]
  have n2 : b.natAbs = Nat.gcd t.natAbs b.natAbs * b'.natAbs := by rw [← sa, ← Int.natAbs_mul, ← hb']
  refine ⟨ht, hb', ?_, ?_, ?_, ?_⟩
  · have hne : b' ≠ 0 := by rintro rfl; rw [Int.mul_zero] at hb'; exact hb hb'
    by_cases c : b < 0
    · have hs : shr t b < 0 := by unfold shr; rw [if_pos c]; omega
      by_cases c2 : b' < 0
      · have := Int.mul_pos_of_neg_of_neg hs c2
        omega
      · omega
    · have hs : 0 < shr t b := by unfold shr; rw [if_neg c]; omega
      by_cases c2 : b' < 0
      · have := Int.mul_neg_of_pos_of_neg hs c2
        omega
      · omega
  · have := Nat.gcd_mul_left (Nat.gcd t.natAbs b.natAbs) t'.natAbs b'.natAbs
    rw [← n1, ← n2] at this
    exact (Nat.eq_of_mul_eq_mul_left g0 (by rw [Nat.mul_one]; exact this.symm))
  · rw [n1]; exact Nat.le_mul_of_pos_left _ g0
  · rw [n2]; exact Nat.le_mul_of_pos_left _ g0
/-- at most k bits -/
def Sz (k : Nat) (a : Int) : Prop := a.natAbs < 2 ^ k
theorem Sz.mono {k l : Nat} {a : Int} (h : Sz k a) (hl : k ≤ l) : Sz l a := Nat.lt_of_lt_of_le h (Nat.pow_le_pow_right (by decide) hl)
theorem Sz.mul {k l : Nat} {a b : Int} (h : Sz k a) (h2 : Sz l b) : Sz (k + l) (a * b) := by
  unfold Sz at *
  rw [Int.natAbs_mul,
        Nat.pow_add]
  exact Nat.mul_lt_mul'' h h2
theorem Sz.add {k : Nat} {a b : Int} (h : Sz k a) (h2 : Sz k b) : Sz (k + 1) (a + b) := by
  unfold Sz at *
  rw [Nat.pow_succ]
  omega
theorem Sz.sub {k : Nat} {a b : Int} (h : Sz k a) (h2 : Sz k b) : Sz (k + 1) (a - b) := by
  unfold Sz at *
  rw [Nat.pow_succ]
  omega
theorem Sz.neg {k : Nat} {a : Int} (h : Sz k a) : Sz k (-a) := by unfold Sz at *; omega
theorem Sz.log {k : Nat} {a : Int} (h : Sz k a) (hk : k ≤ 8000) : a.natAbs.log2 < 9000 := by
  by_cases h0 : a.natAbs = 0
  · rw [h0]; decide
  · have := (Nat.log2_lt h0).mpr h
    omega
theorem Sz.shr {k : Nat} {t b : Int} (h : Sz k b) (hb : b ≠ 0) : Sz k (shr t b) := by
  unfold Sz at *
  rw [shr_abs]
  exact Nat.lt_of_le_of_lt (Nat.le_of_dvd (by omega) (Nat.gcd_dvd_right _ _)) h
theorem Sz.lowT {k : Nat} {t b : Int} (h : Sz k t) (hb : b ≠ 0) : Sz k (lowT t b) := Nat.lt_of_le_of_lt (low_spec hb).2.2.2.2.1 h
theorem Sz.lowB {k : Nat} {t b : Int} (h : Sz k b) (hb : b ≠ 0) : Sz k (lowB t b) := Nat.lt_of_le_of_lt (low_spec hb).2.2.2.2.2 h
end RZ
namespace Z
open L2
theorem wMulW {K : PySem.W.Frag} {H : Hp} {Q : VK} {i j : Int} (c : CMulW i j) (h : Q (.int (i * j)) H) : rOr rMulC (rOr rMulI (rOr rRep (rRepT K))) (.int i) (.int j) H Q := .inr (.inl ⟨i, j, rfl, rfl, c, h⟩)
end Z
namespace Z
open PySem PySem.Spec
      PyProof.Rows L2
section
variable {K : PySem.W.Frag} {H : Hp} {L : List En} {a : V} {xs : List V} {g : TG} {tb : TS} {nx : L2.St → Hp → Prop} {rt : VK} {σ : L2.St}
/-- a for over a list or a tuple of the ledger -/
theorem wForQ (hq : SeqIs L a (some xs)) (F : Fx H L) (Pv : Nat → L2.St → Hp → Prop) (h0 : Pv 0 σ H) (keep : ∀ i σ H', Pv i σ H' → ∃ L', Fx H' L' ∧ ∀ e ∈ L, e ∈ L')
    (hs : ∀ i x σ H', xs[i]? = some x → Pv i σ H' → g x σ H' fun σ2 H2 => tb ⟨Pv (i + 1), rt, nx, Pv (i + 1)⟩ σ2 H2) (hd : ∀ σ H', Pv xs.length σ H' → nx σ H') :
    GoS K a H fun J H1 => ∃ W : Nat → Nat → L2.St → Hp → Prop, (∃ m, W 0 m σ H1) ∧ ∀ i m σ H, W i m σ H →
      (J.stop i H ∧ nx σ H) ∨ (J.go i H ∧ ∃ N : L2.St → Hp → Prop, (∀ σ' H', N σ' H' → ∃ m', m' < m ∧ W (i + 1) m' σ' H') ∧ ∀ x H', J.yld i H x H' → g x σ H' fun σ2 H2 => tb ⟨N, rt, nx, N⟩ σ2 H2) := by
  cases hq with
  | lst m =>
    refine wGoSL (F.lst m) (wForW (walk_list (K := K) (xs := xs)) Pv h0 (fun i σ H' _ q => ?_) (fun i x σ H' H'' _ q y => ?_) hd)
    · obtain ⟨L', F', k⟩ := keep i σ H' q
      exact F'.lst (k _ m)
    · obtain ⟨rfl, e⟩ := y
      exact hs i x σ _ e q
  | tup m =>
    refine wGoST (F.tup m) (wForW (walk_tup (K := K) (xs := xs)) Pv h0 (fun i σ H' _ q => ?_) (fun i x σ H' H'' _ q y => ?_) hd)
    · obtain ⟨L', F', k⟩ := keep i σ H' q
      exact F'.tup (k _ m)
    · obtain ⟨rfl, e⟩ := y
      exact hs i x σ _ e q
end
end Z
namespace Z
open PySem PySem.Spec
      PyProof.Rows L2
/-! ### a def called with keywords for defaults -/
def OkN (CX : CXT) (P : Program) (w : World) (K : PySem.W.Frag) (mg : Str → Option Value) (base : Heap) (x : Str) (k : Nat) (ps ks : List Str) (n : Nat) (gV : List V → List V → List V) (sp : Sp) : Prop :=
  ∃ (f : Addr) (fd : FuncData) (g : List Value → List Value → List Value), mg x = some (.ref f) ∧ PySem.W.keepIn K (.ref f) = true ∧ KBn K fd ps n ks g gV ∧ FnOk P w K mg base CX k f fd ps sp
def CallN (n m : Nat) (sp : Sp) (gV : List V → List V → List V) (E : XK) (vs zs : List V) (H : Hp) (Q : VK) : Prop := vs.length = n ∧ zs.length = m ∧ sp (gV vs zs) H Q E
section
variable {X : Cx} {CX : CXT} {k n : Nat} {ps ks : List Str} {sp : Sp} {E : XK} {x : Str} {p pos : Pos} {e : Expr} {es : List Expr} {kws : List Keyword} {t tk : TA} {gV : List V → List V → List V}
theorem pe_callNO (O : OkN CX X.prog X.w X.K X.mg X.base x k ps ks n gV sp) (hg : Gl X x) (hr : Room k X.A) (hx : Passes CX X E) (ha : PA X (e :: es) t) (hkw : PK X kws tk) (hall : (backToKw pos (keywordEach kws X.env)).all (·.1.isSome) = true := by rfl)
    (hks : (backToKw pos (keywordEach kws X.env)).filterMap (·.1) = ks := by rfl) (hdb : (x == ("__debug__" : Str)) = false := by decide) (he : starEach (e :: es) X.env = (false, eval e X.env) :: starEach es X.env := by rfl)
    (hpl : ((backTo pos (starEach (e :: es) X.env)).any (·.1) ||
      (backToKw pos (keywordEach kws X.env)).any (·.1.isNone)) = false := by rfl) : PE X (.Call (.Name x p) (e :: es) kws pos) (tCallN n ks.length sp gV E t tk) := by
  obtain ⟨f, fd, g, m, kp, b, F⟩ := O
  exact pe_callN F hr hg m kp b hx ha hkw hall hks hdb he hpl
theorem wCallN {n m : Nat} {sp : Sp} {gV : List V → List V → List V} {E : XK} {t tk : TA} {σ : L2.St} {H : Hp} {Q : VK} (h : t σ H fun vs H1 => tk σ H1 fun zs H2 => CallN n m sp gV E vs zs H2 Q) : tCallN n m sp gV E t tk σ H Q := h
end
end Z

set_option Elab.async false
set_option linter.all false
set_option maxRecDepth 100000
set_option maxHeartbeats 2000500
set_option
      exponentiation.threshold 2000
/-! ### texts -/
namespace Z
open PySem PySem.Spec
      PyProof.Rows L2
section
variable {X : Cx} {K : PySem.W.Frag} {H : Hp} {L : List En} {Q : VK} {o e : Expr} {to te : TE} {σ : L2.St}
/-- methods of a text -/
def StrA (x : V) (P : Prop) : Prop := (∃ a, x = .str a) ∧ P
theorem wM1 {r : V → List V → Hp → VK → Prop} (h : to σ H fun x H1 => StrA x (te σ H1 fun y H2 => r x [y] H2 Q)) : tM1 r to te σ H Q := h
theorem wStrA {a : Str} {P : Prop} (h : P) : StrA (.str a) P := ⟨⟨_, rfl⟩, h⟩
def rPart : V → List V → Hp → VK → Prop := fun x xs H Q => ∃ a b, x = .str a ∧ xs = [.str b] ∧ (b.length == 0) = false ∧ a.length ≤ sizeLine ∧
    ∀ p, H p = none → Q (.ref p) (upd H p (.tup [.str (Txt.partition a b).1, .str (Txt.partition a b).2.1, .str (Txt.partition a b).2.2]))
theorem pe_part {apos pos : Pos} (ho : PE X o to) (he : PE X e te) (hs : starEach [e] X.env = [(false, eval e X.env)] := by rfl) (hbase : attributeBase o "partition" X.env (eval o X.env) = eval o X.env := by rfl) (hline : (apos.endLine == pos.line) = true := by rfl) :
    PE X (.Call (.Attribute o "partition" apos) [e] [] pos) (tM1 rPart to te) := pe_partition ho he hs hbase hline
theorem wParts {a b : Str} (hb : (b.length == 0) = false) (hl : a.length ≤ sizeLine) (F : Fx H L)
    (k : ∀ p H', Fx H' (.ob p (.tup [.str (Txt.partition a b).1, .str (Txt.partition a b).2.1, .str (Txt.partition a b).2.2]) :: L) → Q (.ref p) H') : rPart (.str a) [.str b] H Q :=
  ⟨a, b, rfl, rfl, hb, hl, wNewF F k⟩
def rRmp : V → List V → Hp → VK → Prop := fun x xs H Q => ∃ a b, x = .str a ∧ xs = [.str b] ∧ a.length ≤ sizeLine ∧ Q (.str (Txt.removeprefix a b)) H
theorem pe_rmp {apos pos : Pos} (ho : PE X o to) (he : PE X e te) (hs : starEach [e] X.env = [(false, eval e X.env)] := by rfl) (hbase : attributeBase o "removeprefix" X.env (eval o X.env) = eval o X.env := by rfl) (hline : (apos.endLine == pos.line) = true := by rfl) :
    PE X (.Call (.Attribute o "removeprefix" apos) [e] [] pos) (tM1 rRmp to te) := pe_m1 PySem.F.slot_str_removeprefix PySem.F.type_str_removeprefix mt_removeprefix ho he hs hbase hline
theorem wRmp {a b : Str} (hl : a.length ≤ sizeLine) (h : Q (.str (Txt.removeprefix a b)) H) : rRmp (.str a) [.str b] H Q := ⟨a, b, rfl, rfl, hl, h⟩
def rSIdx : V → List V → Hp → VK → Prop := fun x xs H Q => ∃ a b i rest, x = .str a ∧ xs = [.str b] ∧ Builtin.Str.occurrences a b 0 a.length 1 = i :: rest ∧ Q (.int (i : Nat)) H
theorem pe_sidx {apos pos : Pos} (ho : PE X o to) (he : PE X e te) (hs : starEach [e] X.env = [(false, eval e X.env)] := by rfl) (hbase : attributeBase o "index" X.env (eval o X.env) = eval o X.env := by rfl) (hline : (apos.endLine == pos.line) = true := by rfl) :
    PE X (.Call (.Attribute o "index" apos) [e] [] pos) (tM1 rSIdx to te) := pe_m1 PySem.F.slot_str_index PySem.F.type_str_index mt_sindex ho he hs hbase hline
theorem wSIdx {a b : Str} {i : Nat} {rest : List Nat} (o : Builtin.Str.occurrences a b 0 a.length 1 = i :: rest) (h : Q (.int (i : Nat)) H) : rSIdx (.str a) [.str b] H Q := ⟨a, b, i, rest, rfl, rfl, o, h⟩
/-- int(text), str(int) -/
def rIntT : List V → Hp → VK → Prop := fun xs H Q => ∃ a n, xs = [.str a] ∧ PySem.intText? a = some n ∧ a.length ≤ 640 ∧ Q (.int n) H
theorem cr_intT : CallR X (.type "int") rIntT := call_int_str
theorem wIntT {a : Str} {n : Int} (h1 : PySem.intText? a = some n) (h2 : a.length ≤ 640) (h : Q (.int n) H) : rIntT [.str a] H Q := ⟨a, n, rfl, h1, h2, h⟩
def rStrI : List V → Hp → VK → Prop := fun xs H Q => ∃ i, xs = [.int i] ∧ i.natAbs.log2 < 1920 ∧ Q (.str (toString i)) H
theorem cr_strI : CallR X (.type "str") rStrI := call_str_int
theorem wStrI {i : Int} (h1 : i.natAbs.log2 < 1920) (h : Q (.str (toString i)) H) : rStrI [.int i] H Q := ⟨i, rfl, h1, h⟩
/-- f-strings -/
def FmtX (x : V) (H : Hp) (Q : VK) : Prop := (∃ y : Str, x = .str y ∧ y.length ≤ sizeLine ∧ Q (.str y) H) ∨ ∃ i : Int, x = .int i ∧ i.natAbs.log2 < 1920 ∧ Q (.str (toString i)) H
theorem wFmt (h : te σ H fun x H1 => FmtX x H1 Q) : tFmt te σ H Q := h
theorem wFmtI {i : Int} (h1 : i.natAbs.log2 < 1920) (h : Q (.str (toString i)) H) : FmtX (.int i) H Q := .inr ⟨i, rfl, h1, h⟩
def tFs (ts : List TE) : TE := fun σ H Q => tJs ts Str.empty σ H fun out H1 => Q (.str out) H1
theorem pe_fs {v1 v2 : Expr} {rest : List Expr} {ts : List TE} {pos : Pos} (h : PJ X (v1 :: v2 :: rest) ts) : PE X (.JoinedStr (v1 :: v2 :: rest) pos) (tFs ts) := pe_joined h
def JsX (x : V) (acc : Str) (ts : List TE) (σ : L2.St) (H : Hp) (Q : Str → Hp → Prop) : Prop := ∃ y : Str, x = .str y ∧ (acc ++ y).length ≤ sizeLine ∧ tJs ts (acc ++ y) σ H Q
theorem wFs {ts : List TE} (h : tJs ts Str.empty σ H fun out H1 => Q (.str out) H1) : tFs ts σ H Q := h
theorem wJsC {t : TE} {ts : List TE} {acc : Str} {Q : Str → Hp → Prop} (h : t σ H fun x H1 => JsX x acc ts σ H1 Q) : tJs (t :: ts) acc σ H Q := h
theorem wJsN {acc : Str} {Q : Str → Hp → Prop} (h : Q acc H) : tJs [] acc σ H Q := h
theorem wJsX {y acc : Str} {ts : List TE} {Q : Str → Hp → Prop} (h1 : (acc ++ y).length ≤ sizeLine) (h : tJs ts (acc ++ y) σ H Q) : JsX (.str y) acc ts σ H Q := ⟨y, rfl, h1, h⟩
/-- sign in text -/
def rInSign : R2 := fun x y H Q => ∃ (c : Nat) (z : Str), x = .str ⟨#[c]⟩ ∧ y = .str z ∧ Q (.bl (decide (c ∈ z.cps.toList))) H
theorem zInSign : OpR X (compareOp .In) rInSign := op_in_sign
theorem wInSign {c : Nat} {z : Str} (h : Q (.bl (decide (c ∈ z.cps.toList))) H) : rInSign (.str ⟨#[c]⟩) (.str z) H Q := ⟨c, z, rfl, rfl, h⟩
/-- over the signs of a text -/
def GoStr (x : V) (H : Hp) (R : It → Hp → Prop) : Prop := ∃ z, x = .str z ∧ R (Its z) H
theorem wIStr {RI : It → Hp → Prop} (h : te σ H fun v H1 => GoStr v H1 RI) : iStr te σ H RI := h
theorem wGoStr {RI : It → Hp → Prop} {z : Str} (h : RI (Its z) H) : GoStr (.str z) H RI := ⟨z, rfl, h⟩
theorem walk_str {z : Str} : Walk (Its z) z.cps.size (fun _ => True)
      (fun i H v H' => H' = H ∧ ∃ c, z.cps[i]? = some c ∧ v = .str ⟨#[c]⟩) :=
  ⟨fun i _ hi _ => hi, fun _ _ => Nat.le_refl _, fun i H v H' _ _ y => y⟩
/-- text + text -/
theorem wAddSS {a b : Str} (h1 : a.length ≤ 10000) (h2 : b.length ≤ 10000) (h : Q (.str (a ++ b)) H) : rOr rAddI (rOr rAddS (rOr rCat (rCatT K))) (.str a) (.str b) H Q :=
  .inr (.inl ⟨a, b, rfl, rfl, by have := line_big; omega, h⟩)
/-- sign * n -/
theorem reps_one (c : Nat) : ∀ (k : Nat) (acc : Array Nat), (List.replicate k #[c]).foldl (· ++ ·) acc = acc ++ (List.replicate k c).toArray
  | 0, acc => by simp
  | k + 1, acc => by
    rw [List.replicate_succ, List.foldl_cons, reps_one c k, List.replicate_succ, Array.append_assoc]
    apply congrArg
    apply Array.ext'
    simp
def rMulS : R2 := fun x y H Q => ∃ (c : Nat) (n : Int), x = .str ⟨#[c]⟩ ∧ y = .int n ∧ 2 ≤ n ∧ n ≤ 1000 ∧ Q (.str ⟨(List.replicate n.toNat c).toArray⟩) H
theorem op_mulS : OpR X (binaryOp .Mult) rMulS := by
  intro pins s σ H x
        y v u Q I rx ry h
  obtain ⟨c, n, rfl, rfl, h2, h3, q⟩ := h
  obtain ⟨t, rfl⟩ := rx
  obtain ⟨t', rfl⟩ := ry
  have lb := line_big
  have e1 : ((⟨#[c]⟩ : Str).length) = 1 := rfl
  refine PySem.P.mul_str (by rw [decide_eq_false (by omega), decide_eq_false (by omega)]; rfl) (fun _ _ => ?_) (fun _ _ => ?_) ?_
  · rw [e1]
    have : (1 : Int) ≤ (2 ^ 63 - 1) / n := by
      apply (Int.le_ediv_iff_mul_le (by omega)).mpr
      omega
    have e2 : ((1 : Nat) : Int) = 1 := rfl
    rw [e2]
    omega
  · unfold Builtin.Str.tooLong
    rw [e1]
    simp only [decide_eq_false_iff_not, Nat.one_mul]
    omega
  · have hn : (n == 1) = false := by rw [beq_eq_false_iff_ne]; omega
    rw [if_neg (by omega), hn, e1]
    rw [if_neg (by decide), reps_one c n.toNat #[], show (#[] : Array Nat) ++ (List.replicate n.toNat c).toArray = (List.replicate n.toNat c).toArray from by simp]
    refine ⟨?_, .str _, H, I.tok _, ⟨_, rfl⟩, q⟩
    show (List.replicate n.toNat c).toArray.size ≤ sizeLine
    simp only [List.size_toArray, List.length_replicate]
    omega
theorem wMulS {c : Nat} {n : Int} (h2 : 2 ≤ n) (h3 : n ≤ 1000) (h : Q (.str ⟨(List.replicate n.toNat c).toArray⟩) H) : rMulS (.str ⟨#[c]⟩) (.int n) H Q := ⟨c, n, rfl, rfl, h2, h3, h⟩
end
end Z
namespace TX
open PySem PySem.Spec PyProof.Rows L2 TL
/-! ### texts of numbers -/
def numI (i : Int) : List Nat := if i < 0 then 45 :: numL i.natAbs else numL i.natAbs
theorem ofStr_app (s t : String) : Str.ofString (s ++ t) = Str.ofString s ++ Str.ofString t := by
  refine ext_tl ?_
  rw [tl_append, Str.ofString_eq_toList, Str.ofString_eq_toList, Str.ofString_eq_toList, tl_mk, tl_mk, tl_mk, String.toList_append, List.map_append]
theorem tl_int (i : Int) : tl (Str.ofString (toString i)) = numI i := by
  cases i with
  | ofNat n =>
    have e : numI (Int.ofNat n) = numL n := by unfold numI; rw [if_neg (by simp)]; rfl
    rw [e]
    exact tl_num n
  | negSucc m =>
    have e : numI (Int.negSucc m) = 45 :: numL (m + 1) := by unfold numI; rw [if_pos (by omega)]; rfl
    rw [e, ← tl_num (m + 1)]
    have e2 : toString (Int.negSucc m) = "-" ++ toString (((m + 1 : Nat)) : Int) := rfl
    rw [e2, ofStr_app, tl_append]
    rfl
def textL (t b : Int) : List Nat := if b = 1 then numI t else numI t ++ 47 :: numI b
def Cut (w P C : List Nat) : Prop := (47 ∉ w ∧ P = w ∧ C = [49]) ∨ (47 ∉ P ∧ w = P ++ 47 :: C)
theorem cut_uniq {s : Nat} : ∀ {a b x y : List Nat}, s ∉ a → s ∉ b → a ++ s :: x = b ++ s :: y → a = b ∧ x = y
  | [], [], _, _, _, _, h => by simpa using h
  | [], c :: b, _, _, _, h2, h => by
    simp only [List.nil_append, List.cons_append, List.cons.injEq] at h
    exact absurd (h.1 ▸ List.mem_cons_self) h2
  | c :: a, [], _, _, h1, _, h => by
    simp only [List.nil_append, List.cons_append, List.cons.injEq] at h
    exact absurd (h.1 ▸ List.mem_cons_self) h1
  | c :: a, d :: b, x, y, h1, h2, h => by
    simp only [List.cons_append, List.cons.injEq] at h
    have := cut_uniq (fun m => h1 (List.mem_cons_of_mem _ m)) (fun m => h2 (List.mem_cons_of_mem _ m)) h.2
    exact ⟨by rw [h.1, this.1], this.2⟩
theorem numI_free {i : Int} {s : Nat} (h : s < 45 ∨ 57 < s ∨ (45 < s ∧ s < 48)) : s ∉ numI i := by
  have := @numL_free i.natAbs s (by omega)
  unfold numI
  split
  · intro m
    rcases List.mem_cons.mp m with rfl | m
    · omega
    · exact this m
  · exact this
theorem numI_pos {b : Int} (h : 0 ≤ b) : numI b = numL b.natAbs := by unfold numI; rw [if_neg (by omega)]
theorem cut_text {t b : Int} {P C : List Nat} (hb : 1 ≤ b) (h : Cut (textL t b) P C) : P = numI t ∧ C = numL b.natAbs := by
  have f : 47 ∉ numI t := numI_free (by omega)
  unfold textL at h
  by_cases e : b = 1
  · rw [if_pos e] at h
    rcases h with ⟨_, h1, h2⟩ | ⟨_, h2⟩
    · exact ⟨h1, by rw [h2, e]; decide⟩
    · exact absurd (h2 ▸ List.mem_append_right _ List.mem_cons_self) f
  · rw [if_neg e] at h
    rcases h with ⟨h1, _⟩ | ⟨h1, h2⟩
    · exact absurd (List.mem_append_right _ List.mem_cons_self) h1
    · obtain ⟨e1, e2⟩ := cut_uniq f h1 h2
      exact ⟨e1.symm, by rw [← e2, numI_pos (by omega)]⟩
def figs (cs : List Nat) : Bool := decide (1 ≤ cs.length) && decide (cs.length ≤ 300) && cs.all fun c => decide (c ∈ tl ("0123456789" : Str))
theorem ten_iff (c : Nat) : c ∈ tl ("0123456789" : Str) ↔ 48 ≤ c ∧ c ≤ 57 := by
  have e : tl ("0123456789" : Str) = [48, 49, 50, 51, 52, 53, 54, 55, 56, 57] := by decide
  rw [e]
  simp only [List.mem_cons, List.not_mem_nil, or_false]
  omega
theorem figs_iff (cs : List Nat) : figs cs = true ↔ cs ≠ [] ∧ cs.length ≤ 300 ∧ NumText.AllDigits cs := by
  unfold figs NumText.AllDigits
  simp only [Bool.and_eq_true, decide_eq_true_eq, List.all_eq_true, ten_iff, and_assoc]
  have : 1 ≤ cs.length ↔ cs ≠ [] := by rw [Nat.succ_le_iff, List.length_pos_iff]
  rw [this]
def strip : List Nat → List Nat
  | 45 :: r => r
  | P => P
def valI : List Nat → Int
  | 45 :: r => -((NumText.digitsVal r : Nat) : Int)
  | P => ((NumText.digitsVal P : Nat) : Int)
theorem numL_head {n : Nat} {c : Nat} {r : List Nat} (h : numL n = c :: r) : 48 ≤ c ∧ c ≤ 57 := numL_digits n c (h ▸ List.mem_cons_self)
theorem strip_no {c : Nat} {r : List Nat} (h : c ≠ 45) : strip (c :: r) = c :: r := by
  unfold strip
  split
  · rename_i e
    injection e with e1 e2
    exact absurd e1 h
  · rfl
theorem strip_num (t : Int) : strip (numI t) = numL t.natAbs := by
  unfold numI
  split
  · rfl
  · cases e : numL t.natAbs with
    | nil => rfl
    | cons c r => exact strip_no (by have := numL_head e; omega)
theorem val_num (t : Int) : valI (numI t) = t := by
  unfold numI
  split
  · show -((NumText.digitsVal _ : Nat) : Int) = t
    rw [numL_val]; omega
  · have e2 : valI (numL t.natAbs) = ((NumText.digitsVal (numL t.natAbs) : Nat) : Int) := by
      cases e : numL t.natAbs with
      | nil => rfl
      | cons c r =>
        have hc := numL_head e
        unfold valI
        split
        · rename_i e1; injection e1 with e2 e3; omega
        · rfl
    rw [e2, numL_val]; omega
theorem strip_len (P : List Nat) : P.length ≤ (strip P).length + 1 := by unfold strip; split <;> simp
theorem int_text {x : Str} (h : figs (strip (tl x)) = true) : intText? x = some (valI (tl x)) ∧ x.length ≤ 640 := by
  obtain ⟨h1, h2, h3⟩ := (figs_iff _).mp h
  have l1 := strip_len (tl x)
  have l2 := len_tl x
  refine ⟨?_, by omega⟩
  by_cases c : ∃ r, tl x = 45 :: r
  · obtain ⟨r, e⟩ := c
    rw [e] at h1 h3
    rw [e]
    exact PySem.intText_neg e h3 h1 (by omega)
  · have e : strip (tl x) = tl x := by
      unfold strip; split
      · rename_i r e; exact absurd ⟨r, e⟩ c
      · rfl
    have e2 : valI (tl x) = ((NumText.digitsVal (tl x) : Nat) : Int) := by
      unfold valI; split
      · rename_i r e; exact absurd ⟨r, e⟩ c
      · rfl
    rw [e] at h1 h3
    rw [e2]
    exact PySem.intText_digits h3 h1 (by omega)
theorem val_lt : ∀ (cs : List Nat) (a k : Nat), NumText.AllDigits cs → a < 10 ^ k → cs.foldl (fun acc c => acc * 10 + (c - 48)) a < 10 ^ (k + cs.length)
  | [], _, _, _, h => h
  | c :: r, a, k, hd, h => by
    have hc := hd.head
    have := val_lt r (a * 10 + (c - 48)) (k + 1) hd.tail (by rw [Nat.pow_succ]; omega)
    rw [List.foldl_cons, List.length_cons, show k + (r.length + 1) = k + 1 + r.length from by omega]
    exact this
theorem digits_lt {cs : List Nat} (h : figs cs = true) : NumText.digitsVal cs < 2 ^ 1000 := by
  obtain ⟨h1, h2, h3⟩ := (figs_iff _).mp h
  have := val_lt cs 0 0 h3 (by decide)
  have h4 : (10 : Nat) ^ (0 + cs.length) ≤ 10 ^ 300 := Nat.pow_le_pow_right (by decide) (by omega)
  have h5 : (10 : Nat) ^ 300 ≤ 2 ^ 1000 := by decide +kernel
  unfold NumText.digitsVal
  omega
theorem val_sz {P : List Nat} (h : figs (strip P) = true) : RZ.Sz 1000 (valI P) := by
  have := digits_lt h
  unfold RZ.Sz valI
  unfold strip at this
  split at this <;> rename_i e <;> simp only [Int.natAbs_neg, Int.natAbs_natCast] <;> first | exact this | skip
theorem num_back {cs : List Nat} (h : NumText.AllDigits cs) {c : Nat} {r : List Nat} (e : cs = c :: r) (hc : 49 ≤ c) : numL (NumText.digitsVal cs) = cs := by
  unfold numL
  rw [NumText.toDigits_digitsVal r.length cs (by rw [e]; rfl) h (.inr ⟨c, r, e, hc⟩), List.map_map]
  conv => rhs; rw [← List.map_id cs]
  refine List.map_congr_left fun d hd => ?_
  have := h d hd
  show (Char.ofNat d).toNat = d
  have key : ∀ d : Nat, d < 58 → (Char.ofNat d).toNat = d := by decide
  exact key d (by omega)
theorem numL_zero {n : Nat} {r : List Nat} (h : numL n = 48 :: r) : r = [] := by
  by_cases h10 : n < 10
  · rw [numL_lt h10] at h
    injection h with h1 h2
    exact h2.symm
  · exfalso
    have key : ∀ n, 1 ≤ n → ∃ c r, numL n = c :: r ∧ 49 ≤ c := by
      intro n
      induction n using
            Nat.strongRecOn with
      | _ n ih =>
        intro h1
        by_cases h : n < 10
        · exact ⟨48 + n, [], numL_lt h, by omega⟩
        · obtain ⟨c, r, e, hc⟩ := ih (n / 10) (by omega) (by omega)
          exact ⟨c, r ++ [48 + n % 10], by rw [numL_step (by omega), e]; rfl, hc⟩
    obtain ⟨c, r', e, hc⟩ := key n (by omega)
    rw [h] at e
    injection e with e1 e2
    omega
theorem len_int {i : Int} (h : RZ.Sz 1000 i) : (Str.ofString (toString i)).length ≤ 303 := by
  have h2 : (2 : Nat) ^ 1000 ≤ 10 ^ 302 := by decide +kernel
  have h3 := numL_len (n := i.natAbs) (k := 302) (by decide) (by unfold RZ.Sz at h; omega)
  rw [len_tl, tl_int]
  unfold numI
  split
  · rw [List.length_cons]; omega
  · omega
theorem len_app (a b : Str) : (a ++ b).length = a.length + b.length := by rw [len_tl, tl_append, List.length_append, len_tl, len_tl]
theorem len_textL {t b : Int} (h : RZ.Sz 1000 t) (h2 : RZ.Sz 1000 b) : (textL t b).length ≤ 610 := by
  have a := len_int h
  have c := len_int h2
  rw [len_tl, tl_int] at a c
  unfold textL
  split
  · omega
  · rw [List.length_append, List.length_cons]; omega
theorem rmp_tl (x : Str) : tl (Txt.removeprefix x ("-" : Str)) = strip (tl x) := by
  have e1 : ("-" : Str).length = 1 := by decide
  have e2 : ("-" : Str).cps.toList = [45] := by decide
  have hl := len_tl x
  rw [StrLaws.removeprefix_eq, StrLaws.subAt_eq, e1, e2, List.drop_zero]
  show tl (if _ then (⟨(((tl x).drop 1).take (x.length - 1)).toArray⟩ : Str) else x) = _
  rw [show x.cps.toList = tl x from rfl]
  cases h : tl x with
  | nil => rw [h] at hl; simp only [List.length_nil] at hl; simp [hl, h, strip]
  | cons c r =>
    rw [h] at hl
    simp only [List.length_cons] at hl
    by_cases hc : c = 45
    · subst hc
      rw [if_pos (by simp [hl])]
      simp [tl_mk, strip, hl]
    · rw [if_neg (by simp [hc]), h, strip_no hc]
theorem cut_of (z : Str) : ∃ P S C : Str, Txt.partition z ("/" : Str) = (P, S, C) ∧ P.length ≤ z.length ∧ C.length ≤ z.length ∧
    ((S = Str.empty ∧ C = Str.empty ∧ Cut (tl z) (tl P) [49]) ∨ (S = ("/" : Str) ∧ Cut (tl z) (tl P) (tl C))) := by
  have ey : tl ("/" : Str) = [47] := by decide
  by_cases h : 47 ∈ tl z
  · obtain ⟨a, c, e, hn⟩ := List.eq_append_cons_of_mem h
    have ez : z = (⟨a.toArray⟩ : Str) ++ ("/" : Str) ++ (⟨c.toArray⟩ : Str) := by
      refine ext_tl ?_
      rw [tl_append, tl_append, ey, e, List.append_assoc]
      rfl
    have hl := congrArg
          List.length e
    rw [← len_tl, List.length_append, List.length_cons] at hl
    refine ⟨⟨a.toArray⟩, ("/" : Str), ⟨c.toArray⟩, ?_, ?_, ?_, .inr ⟨rfl, .inr ⟨?_, ?_⟩⟩⟩
    · conv => lhs; rw [ez]
      exact partition_app ey hn
    · show a.toArray.size ≤ _
      simp only
            [List.size_toArray]; omega
    · show c.toArray.size ≤ _
      simp only
            [List.size_toArray]; omega
    · exact hn
    · exact e
  · exact ⟨z, _, _, partition_none ey h, Nat.le_refl _, Nat.zero_le _, .inl ⟨rfl, rfl, .inl ⟨h, rfl, rfl⟩⟩⟩
end TX

set_option Elab.async false
set_option linter.all false
set_option maxRecDepth 100000
set_option maxHeartbeats 2000500
/-! ### split, join, replace; slices by two; raise from None in a suite -/
namespace Z
open PySem PySem.Spec
      PyProof.Rows L2
section
variable {X : Cx} {K : PySem.W.Frag} {H : Hp} {L : List En} {Q : VK} {o e : Expr} {to te : TE} {σ : L2.St}
def rSplit : V → List V → Hp → VK → Prop := fun x xs H Q => ∃ a b, x = .str a ∧ xs = [.str b] ∧ (b.length == 0) = false ∧ a.length + 2 ≤ sizeLine ∧ rNewStrs (Txt.split a b) H Q
theorem pe_spl {apos pos : Pos} (ho : PE X o to) (he : PE X e te) (hs : starEach [e] X.env = [(false, eval e X.env)] := by rfl) (hbase : attributeBase o "split" X.env (eval o X.env) = eval o X.env := by rfl) (hline : (apos.endLine == pos.line) = true := by rfl) :
    PE X (.Call (.Attribute o "split" apos) [e] [] pos) (tM1 rSplit to te) := pe_split ho he hs hbase hline
theorem wSplit {a b : Str} (hb : (b.length == 0) = false) (hl : a.length + 2 ≤ sizeLine) (F : Fx H L)
    (k : ∀ p H', Fx H' (.ob p (.lst ((Txt.split a b).map V.str)) :: L) → Q (.ref p) H') : rSplit (.str a) [.str b] H Q := ⟨a, b, rfl, rfl, hb, hl, wNewF F k⟩
def rJoin (K : PySem.W.Frag) : V → List V → Hp → VK → Prop := fun x xs H Q => ∃ a p, ∃ ys : List Str, x = .str a ∧ xs = [.ref p] ∧ (SqL K H p (ys.map V.str) ∨ SqT K H p (ys.map V.str)) ∧
    (ys.map (·.length)).sum + ys.length * a.length ≤ 16777216 ∧ Q (.str (Txt.join a ys)) H
theorem pe_joi {apos pos : Pos} (ho : PE X o to) (he : PE X e te) (hs : starEach [e] X.env = [(false, eval e X.env)] := by rfl) (hbase : attributeBase o "join" X.env (eval o X.env) = eval o X.env := by rfl) (hline : (apos.endLine == pos.line) = true := by rfl) :
    PE X (.Call (.Attribute o "join" apos) [e] [] pos) (tM1 (rJoin X.K) to te) := pe_join ho he hs hbase hline
theorem wJoin {a : Str} {p : Addr} {ys : List Str} (s : SqL K H p (ys.map V.str)) (hl : (ys.map (·.length)).sum + ys.length * a.length ≤ 16777216) (h : Q (.str (Txt.join a ys)) H) : rJoin K (.str a) [.ref p] H Q := ⟨a, p, ys, rfl, rfl, .inl s, hl, h⟩
/-- every second one -/
def step2 {α : Type} : List α → List α
  | x :: _ :: r => x :: step2 r
  | [x] => [x]
  | [] => []
theorem step2_len {α : Type} : ∀ l : List α, (step2 l).length ≤ l.length
  | x :: y :: r => by have := step2_len r; simp only [step2, List.length_cons]; omega
  | [x] => Nat.le_refl _
  | [] => Nat.le_refl _
theorem step2_map {α β : Type} (f : α → β) : ∀ l : List α, step2 (l.map f) = (step2 l).map f
  | x :: y :: r => by simp only [List.map_cons, step2, step2_map f r]
  | [x] => rfl
  | [] => rfl
theorem step2_vals : ∀ {xs : List V} {us : List Value}, Vals xs us → Vals (step2 xs) (step2 us)
  | _, _, .nil => .nil
  | _, _, .cons a .nil => .cons a .nil
  | _, _, .cons a (.cons b r) => .cons a (step2_vals r)
theorem drop_vals : ∀ (n : Nat) {xs : List V} {us : List Value}, Vals xs us → Vals (xs.drop n) (us.drop n)
  | 0, _, _, h => h
  | n + 1, _, _, .nil => .nil
  | n + 1, _, _, .cons a r => drop_vals n r
theorem fm_congr {α β : Type} {f g : α → Option β} : ∀ {l : List α}, (∀ x ∈ l, f x = g x) → l.filterMap f = l.filterMap g
  | [], _ => rfl
  | x :: r, h => by
    rw [List.filterMap_cons, List.filterMap_cons, h x List.mem_cons_self, fm_congr fun y hy => h y (List.mem_cons_of_mem _ hy)]
theorem step2_pick {α : Type} : ∀ (m : Nat) (l : List α), (List.range ((l.length + 1) / 2)).filterMap (fun i => l[2 * i]?) = step2 l := by
  intro _ l
  induction l using step2.induct with
  | case1 x y r ih =>
    have e : ((x :: y :: r).length + 1) / 2 = (r.length + 1) / 2 + 1 := by simp only [List.length_cons]; omega
    rw [e, List.range_succ_eq_map, List.filterMap_cons_some (b := x) (by rfl), List.filterMap_map]
    show x :: _ = x :: _
    refine congrArg (x :: ·) ?_
    rw [← ih]
    refine fm_congr fun i _ => ?_
    show (x :: y :: r)[2 * (i + 1)]? = r[2 * i]?
    rw [show 2 * (i + 1) = 2 * i + 1 + 1 from by omega, List.getElem?_cons_succ, List.getElem?_cons_succ]
  | case2 x =>
    rw [show ([x].length + 1) / 2 = 1 from by simp]
    rfl
  | case3 =>
    rw [show (([] : List α).length + 1) / 2 = 0 from by simp]
    rfl
theorem slice2_pick (its : Array Value) (k : Nat) (hk : 0 < k) : (slicePick its (some (-(k : Int))) none (some 2)).toList = step2 (its.toList.drop (its.size - k)) := by
  unfold slicePick
  have eb : sliceBounds (some (-(k : Int))) none (some 2) its.size = (((its.size - k : Nat) : Int), (its.size : Int), 2) := by
    simp only [sliceBounds, Option.getD_some]
    refine Prod.ext ?_ rfl
    simp only [show ((2 : Int) > 0) from by decide, if_true]
    rw [if_pos (by omega)]
    omega
  rw [eb]
  show (sliceRange _ _ _).filterMap _ = _
  unfold sliceRange
  have ec : (if (2 : Int) > 0 then (if ((its.size - k : Nat) : Int) < (its.size : Int) then ((its.size : Int) - ((its.size - k : Nat) : Int) + 2 - 1) / 2 else 0) else (if ((its.size - k : Nat) : Int) > (its.size : Int) then (((its.size - k : Nat) : Int) - (its.size : Int) - 2 - 1) / (-2) else 0) : Int).toNat = ((its.toList.drop (its.size - k)).length + 1) / 2 := by
    rw [if_pos (by decide), List.length_drop, Array.length_toList]
    by_cases h : ((its.size - k : Nat) : Int) < (its.size : Int)
    · rw [if_pos h]; omega
    · rw [if_neg h]; omega
  rw [← step2_pick 0]
  dsimp only
  rw [ec, List.filterMap_map]
  refine fm_congr fun i _ => ?_
  show its[(((its.size - k : Nat) : Int) + 2 * (i : Int)).toNat]? = (its.toList.drop (its.size - k))[2 * i]?
  rw [List.getElem?_drop, Array.getElem?_toList, show (((its.size - k : Nat) : Int) + 2 * (i : Int)).toNat = its.size - k + 2 * i from by omega]
def tStep2 (K : PySem.W.Frag) (k : Nat) (te : TE) : TE := fun σ H Q => te σ H fun x H1 => ∃ a xs, x = .ref a ∧ SqL K H1 a xs ∧ ∀ p, H1 p = none → Q (.ref p) (upd H1 p (.lst (step2 (xs.drop (xs.length - k)))))
theorem pe_step2 {k j j2 : Nat} {p1 p2 p3 p4 pos : Pos} (hk : 0 < k) (he : PE X e te) : PE X (.Subscript e (.Slice (some (.UnaryOp .USub (.Constant (.int (k : Int)) j p1) p2)) none (some (.Constant (.int 2) j2 p4)) p3) pos) (tStep2 X.K k te) := by
  refine ⟨fun pins
        s σ H Q I h => ?_⟩
  refine Subscript_ (thn (he.run pins s σ H
        _ I h) fun v s1 ⟨x, H1, I1, r1, q1⟩ => ?_)
  obtain ⟨a, xs,
        ex, hx, q⟩ := q1
  subst ex
  cases r1
  have hlo : PO X (some (.UnaryOp .USub (.Constant (.int (k : Int)) j p1) p2)) (tPart (tUn (rU fun i => .int (-i)) (tC (.int (k : Int))))) := po_some (pe_un un_neg pe_int)
  have hst : PO X (some (.Constant (.int 2) j2 p4)) (tPart (tC (.int 2))) := po_some pe_int
  refine wpAny_Slice (thn (hlo.run pins s1 σ H1 (fun o H2 => o = some (-(k : Int)) ∧ H2 = H1) I1 ⟨k, rfl, -(k : Int), rfl, rfl, rfl⟩) fun vl s2 ⟨l, H2, I2, pl, el, e2⟩ => ?_)
  subst el e2
  refine thn (po_none.run pins s2 σ H2 (fun o H3 => o = none ∧ H3
        = H2) I2 ⟨rfl, rfl⟩) fun vu s3 ⟨u, H3, I3, pu, eu, e3⟩ => ?_
  subst eu e3
  refine thn (hst.run pins s3 σ H3 (fun o H4 => o = some 2 ∧ H4 = H3) I3 ⟨2, rfl, rfl, rfl⟩) fun vs s4 ⟨o, H4, I4, ps, eo, e4⟩ => ?_
  subst eo e4
  have I5 : Inv X pins σ H4 {
        s4 with heap := s4.heap.push { cls := .type "slice", data := .fields #[vl, vu, vs] } } := I4.kept (t' := s4.toks) fun b ob q => Heap.get?_push_of_some _ q
  obtain ⟨its, r, ht,
        hz⟩ := I5.list hx
  have hlen := r.length
  show wpAny (model X.prog X.w) X.A (subscriptTail e (.Slice (some (.UnaryOp .USub (.Constant (.int (k : Int)) j p1) p2)) none (some (.Constant (.int 2) j2 p4)) p3) (.ref a)
          (.ref s4.heap.objs.size)) (EP X pins σ Q) X.xe { s4 with heap := s4.heap.push { cls := .type "slice", data := .fields #[vl, vu, vs] } }
  refine tail_any (ops := [.ref a, .ref s4.heap.objs.size]) ht.isList.typeIs
        (PySem.slot_list_getitem.lookup) ?_ (by with_unfolding_all rfl)
  refine wpAny_getItem_list_slice ht.isList (Heap.IsSliceOf.new _ vl
        vu vs) pl pu ps (by decide) ?_ (by rw [List.size_toArray]; omega)
  have ep : slicePick its.toArray (some (-(k : Int))) none (some 2) = (step2 (its.drop (its.length - k))).toArray := by
    apply Array.toList_inj.mp
    rw [slice2_pick _ k hk, List.size_toArray]
  rw [ep]
  have rv := step2_vals (drop_vals (its.length - k) r)
  rw [← hlen] at rv ⊢
  have hl2 : (step2 (xs.drop (xs.length - k))).length ≤ sizeLine := by
    have h1 := step2_len (xs.drop (xs.length - k))
    rw [List.length_drop] at h1
    omega
  refine ⟨.ref _, _, I5.laid (t' := s4.toks) (o := .lst (step2 (xs.drop (xs.length - k)))) (fun b ob q => Heap.get?_push_of_some _ q) (Nat.le_refl _) ?_, rfl, q _ (I5.hok.fresh (Nat.le_refl _))⟩
  exact ⟨hl2, _, 0, rv, Heap.get?_push_size _ rfl⟩
def Step2V (K : PySem.W.Frag) (k : Nat) (x : V) (H : Hp) (Q : VK) : Prop := ∃ a xs, x = .ref a ∧ SqL K H a xs ∧ ∀ p, H p = none → Q (.ref p) (upd H p (.lst (step2 (xs.drop (xs.length - k)))))
theorem wStep2 {k : Nat} (h : te σ H fun x H1 => Step2V K k x H1 Q) : tStep2 K k te σ H Q := h
theorem wStep2V {k : Nat} {a : Addr} {xs : List V} (s : SqL K H a xs) (F : Fx H L) (h : ∀ p H', Fx H' (.ob p (.lst (step2 (xs.drop (xs.length - k)))) :: L) → Q (.ref p) H') : Step2V K k (.ref a) H Q := ⟨a, xs, rfl, s, wNewF F h⟩
end
/-! ### an error that is made within an except suite -/
section
variable {X : Cx} {CX : CXT} {C : Addr} {k : Nat} {ps : List Str} {sp : Sp} {ta t tk : TA} {x : Str} {e o : Expr} {es : List Expr} {p pos apos : Pos} {E : XK}
def ErrH (P : Program) (w : World) (K : PySem.W.Frag) (mg : Str → Option Value) (base : Heap) (C : Addr) (k : Nat) (ps : List Str) (sp : Sp) : Prop := ∃ (f : Addr) (fd : FuncData), ErrI K C f ∧ Binds K fd ps [] ∧ L2H.FnH P w K mg base CX0 k f fd ps sp
theorem pmk_errH (T : ErrF X.K C) (O : ErrH X.prog X.w X.K X.mg X.base C k ps sp) (hr : L2H.RoomH (k + 1) X.A) (hc : L2H.HotC X) (hm : X.mg x = some (.ref C)) (hg : Gl X x) (ha : PA X (e :: es) ta)
    (hdb : (x == ("__debug__" : Str)) = false := by
          decide) (he : starEach (e :: es) X.env = (false, eval e X.env) :: starEach es X.env := by rfl) (hpl : (backTo pos (starEach es X.env)).any (·.1) = false := by rfl) :
    L2H.PMk5 X (.Call (.Name x p) (e :: es) [] pos) (tMkO C sp [] ta) := by
  obtain ⟨f, fd, i, b, F⟩ := O
  exact L2H.pmk5_oexH T.oex i.iC i.tI F hr hc b (fun _ _ _ _ _ _ _ h => h.elim) hg hm ha hdb he hpl
theorem at_of {X : Cx} {K : Value → Shared → Prop} {E₁ : Value → Shared → Prop} (hx : X.xe = fun e s' => wpAny (model X.prog X.w) X.A (leaving X.env e) (fun _ s'' => K e s'') E₁ s') (hd : Option Value) : PassesOwnAt (model X.prog X.w) (X.A.mark hd) X.A X.env X.xe := by
  rw [hx]
  exact PassesOwnAt.leaving
theorem passP {X : Cx} {E : XK} {W : WX} (tk : L2.Takes X W) (h : ∀ cls d σ H, E cls d H → W cls d σ H) : Passes (L2.CX X.prog X.w) X E := passes_call tk h
end
theorem okHot {P : Program} {w : World} {K : PySem.W.Frag} {mg : Str → Option Value} {base : Heap} {x qual : Str} {st : Stmt} {f : Addr} {fd : FuncData} {N ps : List Str} {k : Nat} {sp : Sp} (F : Fun K x qual st f fd) (S : FnScope N ps (defScope st)) (len : ∀ vs H Q E, sp vs H Q E → vs.length = ps.length)
    (hbody : ∀ (cdv : Value) (A : Around) (outer : List Env) (s : Shared) (H : Hp) (vs : List V) (Q : VK) (E : XK) (p : Addr × Obj), L2H.Hot1 A p → L2H.RoomH k (A.deeper (envOfC qual (defScope st) s.heap.objs.size f cdv)) → sp vs H Q E →
      ∃ t, PSs (L2H.cxH CX0 P w K mg base N qual (defScope st) f cdv A outer s H E p) (defBody st) t ∧ t { nx := fun _ H' => Q .non H', rt := Q } (L2.start N vs) H) : L2H.FnH P w K mg base CX0 (k + 1) f fd ps sp := by
  obtain ⟨oc, od, kV, doc, pm, an,
        cdv, ct, osl, rfl, lk, hcd⟩ := F.ex
  exact L2H.fn_ofH lk hcd S len fun A outer s H vs Q E p hot hr hsp => hbody cdv A outer s H vs Q E p hot hr hsp
end Z

set_option Elab.async false
set_option linter.all false
set_option maxRecDepth 100000
set_option maxHeartbeats 2000500
/-! ### words of a text, numerals -/
namespace TW
open PySem TL TX Z
def wds (cs : List Nat) : List (List Nat) := spl [32] 0 [] cs
theorem pre1 {c : Nat} {r : List Nat} : pre [32] (c :: r) = decide (c = 32) := by
  unfold pre
  show ((c :: r.take 0) == [32]) = _
  by_cases h : c = 32
  · subst h; rfl
  · rw [decide_eq_false h]
    show (c == 32 && ([] : List Nat) == []) = false
    rw [beq_eq_false_iff_ne.mpr h]; rfl
theorem spl_app : ∀ (x : List Nat) (acc y : List Nat), spl [32] 0 acc (x ++ 32 :: y) = spl [32] 0 acc x ++ spl [32] 0 [] y
  | [], acc, y => by
    rw [List.nil_append, spl_hit (by rw [pre1]; rfl), spl_nil]
    rfl
  | c :: r, acc, y => by
    rw [List.cons_append]
    by_cases h : c = 32
    · subst h
      rw [spl_hit (by rw [pre1]; rfl), spl_hit (by rw [pre1]; rfl)]
      show acc :: spl [32] 0 [] (r ++ 32 :: y) = acc :: spl [32] 0 [] r ++ _
      rw [spl_app r [] y]
      rfl
    · have e : pre [32] (c :: (r ++ 32 :: y)) = false := by rw [pre1, decide_eq_false h]
      have e2 : pre [32] (c :: r) = false := by rw [pre1, decide_eq_false h]
      rw [spl_miss e, spl_miss e2, spl_app r _ y]
theorem wds_app (x y : List Nat) : wds (x ++ 32 :: y) = wds x ++ wds y := spl_app x [] y
theorem wds_free {x : List Nat} (h : 32 ∉ x) : wds x = [x] := spl_last1 h
theorem wds_nil : wds [] = [[]] := by decide
theorem wds_cons (y : List Nat) : wds (32 :: y) = [] :: wds y := wds_app [] y
theorem wds_join {parts : List (List Nat)} (h : parts ≠ []) (hp : ∀ p ∈ parts, 32 ∉ p) : wds (joinL [32] parts) = parts := spl_join h hp
theorem wds_split (z : Str) : (Txt.split z (" " : Str)).map tl = wds (tl z) := split_spl z (" " : Str) (by decide) (kind_ok (by decide +kernel))
def figsN (n : Nat) (cs : List Nat) : Bool := decide (1 ≤ cs.length) && (decide (cs.length ≤ n) && cs.all fun c => decide (c ∈ tl ("0123456789" : Str)))
def numeral (cs : List Nat) : Bool := figsN 3 cs && !decide (cs.head? = some 48)
def numsOk (ws : List (List Nat)) : Bool := !ws.isEmpty && ws.all numeral
theorem figsN_figs {n : Nat} {cs : List Nat} (hn : n ≤ 300) (h : figsN n cs = true) : figs cs = true := by
  unfold figsN at h
  unfold figs
  simp only [Bool.and_eq_true, decide_eq_true_eq] at h ⊢
  exact ⟨⟨h.1, by omega⟩, h.2.2⟩
theorem numeral_figs {cs : List Nat} (h : numeral cs = true) : figs cs = true ∧ cs.length ≤ 3 := by
  unfold numeral at h
  simp only
        [Bool.and_eq_true] at h
  refine ⟨figsN_figs (by decide) h.1, ?_⟩
  have := h.1
  unfold figsN at this
  simp only [Bool.and_eq_true, decide_eq_true_eq] at this
  exact this.2.1
theorem figs_head {cs : List Nat} (h : figs cs = true) : ∃ c r, cs = c :: r ∧ 48 ≤ c ∧ c ≤ 57 := by
  obtain ⟨h1, h2, h3⟩ := (figs_iff cs).mp h
  cases cs with
  | nil => exact absurd rfl h1
  | cons c r => exact ⟨c, r, rfl, h3 c List.mem_cons_self⟩
theorem figs_strip {cs : List Nat} (h : figs cs = true) : strip cs = cs := by
  obtain ⟨c, r, rfl, h1, h2⟩ := figs_head h
  exact strip_no (by omega)
theorem numeral_int {x : Str} (h : numeral (tl x) = true) : intText? x = some (valI (tl x)) ∧ x.length ≤ 640 := by
  have hf := (numeral_figs h).1
  exact int_text (by rw [figs_strip hf]; exact hf)
theorem numL_all (n : Nat) : (numL n).all (fun c => decide (c ∈ tl ("0123456789" : Str))) = true := by
  rw [List.all_eq_true]
  intro c hc
  exact decide_eq_true ((ten_iff c).mpr (numL_digits n c hc))
theorem numL_numeral {n : Nat} (h1 : 1 ≤ n) (h2 : n < 1000) : numeral (numL n) = true := by
  unfold numeral figsN
  rw [numL_all]
  have l1 : (numL n).length ≤ 3 := numL_len (by decide) (by simpa using h2)
  have l0 : 1 ≤ (numL n).length := by
    have := numL_ne n
    cases h : numL n with
    | nil => exact absurd h this
    | cons c r => simp
  have hh : ¬ (numL n).head? = some 48 := by
    intro e
    cases h : numL n with
    | nil => exact absurd h (numL_ne n)
    | cons c r =>
      rw [h] at e
      have e : c = 48 := by simpa using e
      subst e
      have hr := numL_zero h
      subst hr
      have hv := numL_val n
      rw [h] at hv
      have : NumText.digitsVal [48] = 0 := by decide
      omega
  simp [l0, l1, hh]
theorem val_numL (n : Nat) : valI (numL n) = (n : Int) := by
  have := val_num (n : Int)
  rwa [numI_pos (by omega), Int.natAbs_natCast] at this
theorem numeral_no {cs : List Nat} {c : Nat} (h : c ∈ cs) (hc : c < 48 ∨ 57 < c) : numeral cs = false := by
  cases hn : numeral cs with
  | false => rfl
  | true =>
    obtain ⟨_, _, h3⟩ := (figs_iff cs).mp (numeral_figs hn).1
    have := h3 c h
    omega
theorem numeral_nil : numeral [] = false := by decide
theorem numeral_zero (cs : List Nat) : numeral (48 :: cs) = false := by unfold numeral; simp
theorem numeral_long {cs : List Nat} (h : 3 < cs.length) : numeral cs = false := by
  cases hn : numeral cs with
  | false => rfl
  | true => have := (numeral_figs hn).2; omega
/-! the shape of a stock's text -/
def lapS : List Nat := [108, 97, 112]
def reachS : List Nat := [114, 101, 97, 99, 104]
def shape (W : List (List Nat)) : Bool := numsOk (W.take (W.length - 4)) && (numsOk (step2 (W.drop (W.length - 3))) && decide (step2 (W.drop (W.length - 4)) = [lapS, reachS]))
theorem shape_short {W : List (List Nat)} (h : W.length ≤ 4) : shape W = false := by
  unfold shape
  rw [show W.length - 4 = 0 from by omega]
  rfl
theorem shape_four (B : List (List Nat)) (a b c d : List Nat) : shape (B ++ [a, b, c, d]) = (numsOk B && (numeral b && numeral d && decide (a = lapS ∧ c = reachS))) := by
  unfold shape
  have el : (B ++ [a, b, c, d]).length = B.length + 4 := by simp
  rw [el, show B.length + 4 - 4 = B.length from by omega, show B.length + 4 - 3 = B.length + 1 from by omega]
  rw [List.take_left' rfl, List.drop_left' rfl]
  have e2 : (B ++ [a, b, c, d]).drop (B.length + 1) = [b, c, d] := by
    rw [← List.drop_drop, List.drop_left' rfl]; rfl
  rw [e2]
  show (numsOk B && (numsOk [b, d] && decide ([a, c] = [lapS, reachS]))) = _
  have e3 : numsOk [b, d] = (numeral b && numeral d) := by unfold numsOk; simp
  have e4 : decide ([a, c] = [lapS, reachS]) = decide (a = lapS ∧ c = reachS) := by
    rw [decide_eq_decide]
    simp
  rw [e3, e4]
theorem parts_four (B : List (List Nat)) (a b c d : List Nat) : (B ++ [a, b, c, d]).take ((B ++ [a, b, c, d]).length - 4) = B ∧ step2 ((B ++ [a, b, c, d]).drop ((B ++ [a, b, c, d]).length - 3)) = [b, d] := by
  have el : (B ++ [a, b, c, d]).length = B.length + 4 := by simp
  rw [el, show B.length + 4 - 4 = B.length from by omega, show B.length + 4 - 3 = B.length + 1 from by omega]
  refine ⟨List.take_left' rfl, ?_⟩
  rw [← List.drop_drop, List.drop_left' rfl]
  rfl
theorem shape_two {W : List (List Nat)} (h : shape W = true) : (step2 (W.drop (W.length - 3))).length = 2 := by
  have h4 : ¬ W.length ≤ 4 := fun h4 => by rw [shape_short h4] at h; cases h
  have e : (W.drop (W.length - 3)).length = 3 := by rw [List.length_drop]; omega
  match hW : W.drop (W.length - 3), e with
  | [a, b, c], _ => rfl
theorem numsOk_no {B : List (List Nat)} {p : List Nat} (h : p ∈ B) (hp : numeral p = false) : numsOk B = false := by
  unfold numsOk
  have : B.all numeral = false := by rw [List.all_eq_false]; exact ⟨p, h, by rw [hp]; decide⟩
  rw [this, Bool.and_false]
theorem numsOk_yes {B : List (List Nat)} (h : B ≠ []) (hp : ∀ p ∈ B, numeral p = true) : numsOk B = true := by
  unfold numsOk
  rw [List.all_eq_true.mpr hp]
  cases B with
  | nil => exact absurd rfl h
  | cons _ _ => rfl
theorem joinL_cons (c : Nat) (p : List Nat) : ∀ r : List (List Nat), c :: joinL [32] (p :: r) = joinL [32] ((c :: p) :: r)
  | [] => rfl
  | q :: r => rfl
/-- the bricks' row -/
def rowW (bs : List Int) : List (List Nat) := bs.map fun b => numL b.natAbs
theorem rowW_free {bs : List Int} : ∀ p ∈ rowW bs, 32 ∉ p := by
  intro p hp
  obtain ⟨b, _, rfl⟩ := List.mem_map.mp hp
  exact numL_free (.inl (by decide))
theorem rowW_ne {bs : List Int} (h : bs ≠ []) : rowW bs ≠ [] := by
  intro e
  exact h (List.map_eq_nil_iff.mp e)
theorem rowW_num {bs : List Int} (h : ∀ b ∈ bs, 1 ≤ b ∧ b < 1000) : ∀ p ∈ rowW bs, numeral p = true := by
  intro p hp
  obtain ⟨b, hb, rfl⟩ := List.mem_map.mp hp
  have := h b hb
  exact numL_numeral (by omega) (by omega)
theorem rowW_val {bs : List Int} (h : ∀ b ∈ bs, 1 ≤ b) : (rowW bs).map valI = bs := by
  unfold rowW
  rw [List.map_map]
  conv => rhs; rw [← List.map_id bs]
  refine List.map_congr_left fun b hb => ?_
  show valI (numL b.natAbs) = b
  rw [val_numL]
  have := h b hb
  omega
theorem joinL_app (s : List Nat) : ∀ (xs ys : List (List Nat)), xs ≠ [] → ys ≠ [] → joinL s (xs ++ ys) = joinL s xs ++ (s ++ joinL s ys)
  | [], _, h, _ => absurd rfl h
  | [x], y :: ys, _, _ => by simp [joinL]
  | x :: x' :: xs, y :: ys, _, hy => by
    have ih := joinL_app s (x' :: xs) (y :: ys) (by simp) hy
    show x ++ (s ++ joinL s ((x' :: xs) ++ (y :: ys))) = (x ++ (s ++ joinL s (x' :: xs))) ++ _
    rw [ih]
    simp [List.append_assoc]
  | _ :: _, [], _, h => absurd rfl h
theorem log_small {n : Nat} (h : n < 1900) : n.log2 < 1920 := Nat.lt_of_le_of_lt (Nat.log2_le_self n) (by omega)
theorem len_str {b : Int} (h0 : 0 ≤ b) (h1 : b < 1000) : (Str.ofString (toString b)).length ≤ 3 := by
  rw [len_tl, tl_int, numI_pos h0]
  exact numL_len (by decide) (by show b.natAbs < 1000; omega)
theorem spl_size : ∀ (cs acc : List Nat), (spl [32] 0 acc cs).length ≤ cs.length + 1 ∧ ∀ p ∈ spl [32] 0 acc cs, p.length ≤ acc.length + cs.length
  | [], acc => by rw [spl_nil]; exact ⟨Nat.le_refl _, fun p hp => by cases List.mem_singleton.mp hp; exact Nat.le_refl _⟩
  | c :: r, acc => by
    by_cases h : c = 32
    · subst h
      rw [spl_hit (by rw [pre1]; rfl)]
      obtain ⟨a, b⟩ := spl_size r []
      refine ⟨Nat.succ_le_succ a, fun p hp => ?_⟩
      rcases List.mem_cons.mp
            hp with rfl | hp
      · exact Nat.le_add_right _ _
      · have := b p hp
        simp only [List.length_cons, List.length_nil] at *
        omega
    · rw [spl_miss (by rw [pre1, decide_eq_false h])]
      obtain ⟨a, b⟩ := spl_size r (acc ++ [c])
      refine ⟨by simp only [List.length_cons]; omega, fun p hp => ?_⟩
      have := b p hp
      simp only [List.length_append, List.length_cons, List.length_nil] at *
      omega
theorem spl_mem : ∀ (cs acc : List Nat), ∀ p ∈ spl [32] 0 acc cs, ∀ c ∈ p, c ∈ acc ∨ c ∈ cs
  | [], acc, p, hp, c, hc => by
    rw [spl_nil] at hp
    cases List.mem_singleton.mp hp
    exact .inl hc
  | d :: r, acc, p, hp, c, hc => by
    by_cases h : d = 32
    · subst h
      rw [spl_hit (by rw [pre1]; rfl)] at hp
      rcases List.mem_cons.mp
            hp with rfl | hp
      · exact .inl hc
      · rcases spl_mem r [] p hp c hc with h | h
        · exact absurd h (by simp)
        · exact .inr (List.mem_cons_of_mem _ h)
    · rw [spl_miss (by rw [pre1, decide_eq_false h])] at hp
      rcases spl_mem r (acc ++ [d]) p hp c hc with h | h
      · rcases List.mem_append.mp
            h with h | h
        · exact .inl h
        · exact .inr (by rw [List.mem_singleton.mp h]; exact List.mem_cons_self)
      · exact .inr (List.mem_cons_of_mem _ h)
theorem strOk_iff {z : Str} : PyData.strOk z = true ↔ ∀ c ∈ tl z, c < 0x110000 := by
  unfold PyData.strOk
  rw [← Array.all_toList,
        List.all_eq_true]
  exact ⟨fun h c hc => of_decide_eq_true (h c hc), fun h c hc => decide_eq_true (h c hc)⟩
theorem split_ok {z : Str} (h : PyData.strOk z = true) : ∀ w ∈ Txt.split z (" " : Str), PyData.strOk w = true := by
  intro w hw
  rw [strOk_iff] at h ⊢
  intro c hc
  have e := wds_split z
  have hm : tl w ∈ spl [32] 0 [] (tl z) := by
    rw [show spl [32] 0 [] (tl z) = wds (tl z) from rfl, ← e]
    exact List.mem_map_of_mem hw
  rcases spl_mem (tl z) [] (tl w) hm c hc with h2 | h2
  · exact absurd h2 (by simp)
  · exact h c h2
theorem split_size {z : Str} : (Txt.split z (" " : Str)).length ≤ z.length + 1 ∧ ∀ w ∈ Txt.split z (" " : Str), w.length ≤ z.length := by
  obtain ⟨a, b⟩ := spl_size (tl z) []
  have e := wds_split z
  have el := congrArg List.length e
  rw [List.length_map] at el
  refine ⟨by rw [el, len_tl]; exact a, fun w hw => ?_⟩
  have := b (tl w) (by rw [show spl [32] 0 [] (tl z) = wds (tl z) from rfl, ← e]; exact List.mem_map_of_mem hw)
  rw [len_tl w, len_tl z]
  simpa using this
end TW
namespace Z
open PySem TL L2
theorem cut_neg {xs : List V} (k : Nat) (hk : 0 < k) : cutV xs none (some (-(k : Int))) = xs.take (xs.length - k) := by
  have e : HT.sIx xs.length xs.length (some (-(k : Int))) = xs.length - k := by
    show (if (-(k : Int)) < 0 then ((-(k : Int)) + (xs.length : Int)).toNat else _) = _
    rw [if_pos (by omega)]
    omega
  unfold cutV
  rw [e]
  rfl
theorem step2_mem {α : Type} : ∀ {l : List α} {x : α}, x ∈ step2 l → x ∈ l
  | a :: b :: r, x, h => by
    rcases List.mem_cons.mp
          h with rfl | h
    · exact List.mem_cons_self
    · exact .tail _ (.tail _ (step2_mem h))
  | [a], x, h => h
theorem DtA.strs {L : List En} : ∀ xs : List Str, DtA L (xs.map V.str) (xs.map PyData.str)
  | [] => .nil
  | x :: r => .cons (.str x) (DtA.strs r)
theorem ShA.strs {xs : List Str} (h : ∀ x ∈ xs, PyData.strOk x = true) : ShA (xs.map PyData.str) 0 := ShA.map fun x hx => ⟨h x hx, Nat.le_refl _⟩
theorem eqv_strs : ∀ xs ys : List Str, PyData.eqvAll (xs.map PyData.str) (ys.map PyData.str) = decide (xs = ys)
  | [], [] => rfl
  | [], y :: r => by simp [PyData.eqvAll]
  | x :: r, [] => by simp [PyData.eqvAll]
  | x :: r, y :: s => by
    show (PyData.eqv (.str x) (.str y) && PyData.eqvAll (r.map PyData.str) (s.map PyData.str)) = _
    rw [eqv_strs r s]
    show ((x == y) && _) = _
    by_cases h : x = y
    · subst h; simp
    · simp [h]
theorem len_joinL (s : List Nat) : ∀ ps : List (List Nat), (joinL s ps).length ≤ (ps.map (·.length)).sum + ps.length * s.length
  | [] => Nat.zero_le _
  | [p] => by show p.length ≤ p.length + 0 + _; omega
  | p :: q :: r => by
    have ih := len_joinL s (q :: r)
    show (p ++ (s ++ joinL s (q :: r))).length ≤ p.length + ((q :: r).map (·.length)).sum + ((q :: r).length + 1) * s.length
    rw [List.length_append, List.length_append, Nat.add_mul]
    omega
theorem len_join (y : Str) (ys : List Str) : (Txt.join y ys).length ≤ (ys.map (·.length)).sum + ys.length * y.length := by
  have h := len_joinL (tl y) (ys.map tl)
  rw [join_eq, len_tl, tl_join]
  rw [List.length_map, List.map_map] at h
  have e : (ys.map (List.length ∘ tl)) = ys.map (·.length) := List.map_congr_left fun z _ => (len_tl z).symm
  have e2 : ((fun x => x.length) ∘ tl : Str → Nat) = List.length ∘ tl := rfl
  rw [e2, e, ← len_tl] at h
  exact h
end Z

set_option Elab.async false
set_option linter.all false
set_option maxRecDepth 100000
set_option maxHeartbeats 2000500
/-! ### defs whose errors have no context: they may be called in a try whose suite raises -/
namespace Z
open PySem PySem.Spec
      PyProof.Rows L2
section
variable {X : Cx} {C : Addr} {k : Nat} {ps : List Str} {sp : Sp} {ta t : TA} {x : Str} {e o : Expr} {es : List Expr} {p pos apos : Pos} {E : XK}
theorem cx_plain {P : Program} {w : World} {outer : List Env} {H : Hp} {s s' : Shared} {u : Value} (h : L2N.CX P w outer H s E u s') : L2.CX P w outer H s E u s' := by
  obtain ⟨a, B, H', cls, d, e1, fl, r⟩ := h
  exact ⟨a, B, H', cls, d, e1, L2H.flyingZ_imp (fun _ z => z.zc) fl, r⟩
theorem fn_plain {P : Program} {w : World} {K : PySem.W.Frag} {mg : Str → Option Value} {base : Heap} {f : Addr} {fd : FuncData} (F : FnOk P w K mg base (L2N.CX P w) k f fd ps sp) : FnOk P w K mg base (L2.CX P w) k f fd ps sp := by
  refine ⟨F.len, fun A outer s H args us vs Q E hr he hb hv hs => codeAny_mono (F.run A outer s H args us vs Q E hr he hb hv hs) fun r s' q => ?_⟩
  cases r with
  | error er => exact cx_plain q
  | ok fl => cases fl <;> exact q
/-- an own error, made where nothing is handled: its context is None -/
theorem pmk_errN (T : ErrF X.K C) (O : ErrO X.prog X.w X.K X.mg X.base C k ps sp) (hr : Room (k + 1) X.A) (hm : X.mg x = some (.ref C)) (hg : Gl X x) (ha : PA X (e :: es) ta)
    (hdb : (x == ("__debug__" : Str)) = false := by
          decide) (he : starEach (e :: es) X.env = (false, eval e X.env) :: starEach es X.env := by rfl) (hpl : (backTo pos (starEach es X.env)).any (·.1) = false := by rfl) :
    L2N.PMk X (.Call (.Name x p) (e :: es) [] pos) (tMkO C sp [] ta) := by
  obtain ⟨fI, fd, hI, bI, F1⟩ := O
  intro pins s σ H Q I hq
  obtain ⟨n1, n2, n3, n4, bm, n6, n7, n8, n9, n10, n11, n12, n13, n14, n15, hC, hbm⟩ := T.oex.cls
  refine wpAny_Call_Name_kw
        (ld_glob I hg hm ?_ hdb)
  refine PySem.W.callWith_K (h₀ := X.base) I.ok.mod.kin T.oex.kC (thn (ha.run pos pins s σ H _ I hq) fun us s1 ⟨vs, H1, I1, r1, hz, q1⟩ => ⟨I1.kIn, ?_⟩) he hpl
  show wpAny _ _ (call
        (.ref C) us) _ _ _
  obtain ⟨hp, ga, dr, tk, os⟩ := s1
  generalize hN : hp.objs.size + 1 = N
  have hle : hp.objs.size ≤ N := by omega
  have fresh : H1 N = none := I1.hok.fresh hle
  have want := q1 N fresh
  rw [List.append_nil] at want
  generalize hB : (hp.push (PySem.W.kdv_tup us)).push (PySem.HandSPX.excO C hp.objs.size) = B
  have keep : ∀ b o, hp.get? b = some o → B.get? b = some o := fun b o z => by
    rw [← hB]
    exact Heap.get?_push_of_some _ (Heap.get?_push_of_some _ z)
  have there : B.get? N = some (PySem.HandSPX.excO C hp.objs.size) := by
    rw [← hB, ← hN]
    heap_get
  have J1 : Inv X pins σ (upd H1 N (exo N C none)) ⟨B, ga, dr, tk, os⟩ := I1.laid (t' := tk) (a := N) (o := exo N C none) (h' := B) keep hle (exo_ok there)
  have rv : Vals (V.ref N :: vs) (Value.ref N :: us) := .cons rfl r1
  have hl : (Value.ref N :: us ++ []).length = ps.length := by
    have z := F1.len _ _ _ _ want
    rw [rv.length] at z
    rw [List.append_nil, z]
  have few : us.length ≤ sizeLine := by
    have z := Paired.length r1
    rw [sizeLine_eq]
    omega
  have bnd := bI _ (Value.ref N :: us) J1.kIn hl
  rw [List.append_nil] at bnd
  refine wpAny_call (PySem.HandSPX.call_own F.excBase_ValueError (fun Y => PySem.HandSPX.refsVE_contains Y bm hbm) (I1.kIn _ _ hC) (PySem.W.looks_findIn I1.kIn hI.iC) (fun self => PySem.W.bind_fn I1.kIn self hI.tI) few ?_)
  rw [hB, hN]
  refine codeAny_mono (F1.run _ X.stack _ _ ⟨Value.ref N :: us, []⟩ (Value.ref N :: us) _ _ (fun _ _ _ => False) (hr.make C us []) (J1.env0.make C us []) bnd rv want) fun r s' z => ?_
  match r, z with
  | .error er, z => exact z.elim
  | .ok .next, z => exact z.elim
  | .ok .brk, z => exact z.elim
  | .ok .cont, z => exact z.elim
  | .ok (.ret u), z =>
    obtain ⟨v, H2, o2, bare, un2, hk2, rvv, ev, d, fs, ea, ed, hd1, q2⟩ := z
    subst ev
    obtain ⟨h2, g2, d2, t2, o3⟩ := s'
    obtain ⟨t0, G, J, kG, ge, hoe, na⟩ := mk_end0 (d2 := d2) (t2 := t2) I1 hle keep un2 hk2 o2 bare ea ed hd1
    refine ⟨rvv, N, _, _, ⟨G, g2, d2, t2, o3⟩, _, .ref C, some d, rfl, J, kG, ge, hoe, ⟨rfl, rfl, fun fl hfl => ?_⟩, rfl, rfl, na, rfl, bare, raises_own T.oex.exC T.oex.tyC, q2⟩
    cases hfl
    rfl
theorem passN {X : Cx} {E : XK} (tk : L2N.Takes X (fun cls d _ H => E cls d H)) : Passes (L2N.CX X.prog X.w) X E := fun pins σ H s e s' I c => L2N.passAt (W := fun cls d _ H => E cls d H) tk σ pins H s e s' I c
theorem ownsN {X : Cx} {K : Value → Shared → Prop} {E₁ : Value → Shared → Prop} (hx : X.xe = fun e s' => wpAny (model X.prog X.w) X.A (leaving X.env e) (fun _ s'' => K e s'') E₁ s') : PassesOwn (model X.prog X.w) X.A X.env X.xe := owns hx
end
section
variable {P : Program} {w : World} {K :
      PySem.W.Frag} {mg : Str → Option Value} {base : Heap}
theorem okXN {x qual : Str} {st : Stmt} {f : Addr} {fd : FuncData} {N ps : List Str} {k : Nat} {sp : Sp} (F : Fun K x qual st f fd) (S : FnScope N ps (defScope st)) (len : ∀ vs H Q E, sp vs H Q E → vs.length = ps.length)
    (hbody : ∀ (cdv : Value) (A : Around) (outer : List Env) (s : Shared) (H : Hp) (vs : List V) (Q :
          VK) (E : XK), Room k (A.deeper (envOfC qual (defScope st) s.heap.objs.size f cdv)) → sp vs H Q E →
      ∃ t, PSs (cxOf (L2N.CX P w) P w K mg base N qual (defScope st) f cdv A outer s H E) (defBody st) t ∧ t { nx := fun _ H' => Q .non H', rt := Q } (L2.start N vs) H) : FnOk P w K mg base (L2N.CX P w) (k + 1) f fd ps sp := by
  obtain ⟨oc, od, kV, doc, pm, an,
        cdv, ct, osl, rfl, lk, hcd⟩ := F.ex
  exact fn_of lk hcd S len fun A outer s H vs Q
        E hr hsp => hbody cdv A outer s H vs Q E hr hsp
theorem Ok.plain {x : Str} {k : Nat} {ps : List Str} {dvs : List V} {sp : Sp} (O : Ok (L2N.CX P w) P w K mg base x k ps dvs sp) : Ok (L2.CX P w) P w K mg base x k ps dvs sp := by
  obtain ⟨f, fd, ds, a, b, c, d, F⟩ := O
  exact ⟨f, fd, ds, a, b, c, d, fn_plain F⟩
theorem MkO.plain {C : Addr} {k : Nat} {ps : List Str} {dvs : List V} {sp : Sp} (O : MkO (L2N.CX P w) P w K mg base C k ps dvs sp) : MkO (L2.CX P w) P w K mg base C k ps dvs sp := by
  obtain ⟨f, fd, ds, a, b, c, F⟩ := O
  exact ⟨f, fd, ds, a, b, c, fn_plain F⟩
theorem MkKO.plain {C : Addr} {k n : Nat} {ps ks : List Str} {gV : List V → List V → List V} {sp : Sp} (O : MkKO (L2N.CX P w) P w K mg base C k ps ks n gV sp) : MkKO (L2.CX P w) P w K mg base C k ps ks n gV sp := by
  obtain ⟨f, fd, g, a, b, F⟩ := O
  exact ⟨f, fd, g, a, b, fn_plain F⟩
end
theorem xd_hit {k : Str} {a : V} {r : List (Str × V)} : List.lookup k ((k, a) :: r) = some a := by rw [List.lookup_cons, beq_self_eq_true]
theorem xd_next {k j : Str} {a : V} {r : List (Str × V)} (h : (k == j) = false) : List.lookup k ((j, a) :: r) = List.lookup k r := by rw [List.lookup_cons, h]
/-! ### replace of written texts, behind a text that is written -/
section
variable {X : Cx} {e : Expr} {es : List Expr} {te : TE} {ta : TA}
def PEG (X : Cx) (e : Expr) (t : TE) : Prop := ∀ (pins : List (Addr × Obj)) (s : Shared) (σ : L2.St) (H : Hp) (Q : VK), Inv X pins σ H s → t σ H Q → wpAny (model X.prog X.w) X.A (eval e X.env) (fun v s' => 1 ≤ s'.toks ∧ EP X pins σ Q v s') X.xe s
theorem peg_op {op : Operator} {r : R2} {z : Str} {j : Nat} {c0 pos : Pos} (ho : OpR X (binaryOp op) r) (ha : PE X e te) : PEG X (.BinOp e op (.Constant (.str z) j c0) pos) (tOp r te (tC (.str z))) := by
  intro pins s σ H Q I h
  refine wpAny_BinOp (thn (ha.run pins s σ H _ I h) fun v s1 ⟨x, H1, I1, r1, q1⟩ => ?_)
  refine Calls.Constant_str ?_
  have w := ho pins { s1 with toks := s1.toks + 1 } σ H1 x (V.str z) v (Value.str z s1.toks) Q (I1.tok (s1.toks + 1)) r1 ⟨s1.toks, rfl⟩ q1
  exact wpAny_mono (PySem.wpAny_toks w) (fun a s2 q => ⟨Nat.le_trans (Nat.le_add_left 1 s1.toks) q.1, q.2⟩) fun _ _ q => q.2
theorem pa_consG (ha : PEG X e te) (hr : PAT X es ta) (hs : starEach (e :: es) X.env = (false, eval e X.env) :: starEach es X.env := by rfl) : PA X (e :: es) (tCons te ta) := by
  refine ⟨fun pos pins
        s σ H Q I h => ?_⟩
  rw [hs]
  show wpAny _ _ (spliced ((false, eval e X.env)
        :: backTo pos (starEach es X.env))) _ _ s
  refine Calls.spliced_cons (thn (ha pins s σ H _ I h) fun v s1 ⟨hk, x, H1, I1, r1, q1⟩ => ?_)
  exact thn (hr pos pins s1 σ H1 _ hk I1 q1) fun us s2 ⟨xs, H2, I2, r2, q2⟩ => ⟨x :: xs, H2, I2, .cons r1 r2, q2⟩
def ReplV (y z : Str) (v : V) (H : Hp) (Q : VK) : Prop := ∃ x, v = .str x ∧ x.length + (x.length + 1) * z.length ≤ 16777216 ∧ Q (.str (Txt.replace x y z)) H
theorem wReplC {y z : Str} {σ : L2.St} {H : Hp} {Q : VK} (h : te σ H fun v H1 => ReplV y z v H1 Q) : CwR.tReplC te y z σ H Q := h
theorem wReplV {x y z : Str} {H : Hp} {Q : VK} (hb : x.length + (x.length + 1) * z.length ≤ 16777216) (h : Q (.str (Txt.replace x y z)) H) : ReplV y z (.str x) H Q := ⟨x, rfl, hb, h⟩
end
end Z

set_option Elab.async false
set_option linter.all false
set_option maxRecDepth 100000
set_option maxHeartbeats 2000500
/-! ### texts of a stock with a fault -/
namespace TW
open PySem TL TX Z
/-- what stands behind the bricks -/
def tailT (p q : List Nat) : List Nat := tl (" lap " : Str) ++ (p ++ (tl (" reach " : Str) ++ q))
def rowJ (bs : List Int) : List Nat := joinL [32] (rowW bs)
theorem lap_tl : tl (" lap " : Str) = 32 :: (lapS ++ [32]) := by decide
theorem reach_tl : tl (" reach " : Str) = 32 :: (reachS ++ [32]) := by decide
theorem tail_eq (p q : List Nat) : tailT p q = 32 :: (lapS ++ 32 :: (p ++ 32 :: (reachS ++ 32 :: q))) := by
  unfold tailT
  rw [lap_tl, reach_tl]
  simp [List.append_assoc]
theorem wds_tail {p q : List Nat} (hp : 32 ∉ p) (hq : 32 ∉ q) : wds (tailT p q) = [] :: [lapS, p, reachS, q] := by
  rw [tail_eq, wds_cons, wds_app, wds_app, wds_app, wds_free hp, wds_free hq, wds_free (by decide), wds_free (by decide)]
  rfl
theorem wds_rowJ {bs : List Int} (hn : bs ≠ []) : wds (rowJ bs) = rowW bs := wds_join (rowW_ne hn) rowW_free
theorem wds_row_lit {bs : List Int} (hn : bs ≠ []) {z : Str} {r : List Nat} (e : tl z = 32 :: r) : wds (rowJ bs ++ tl z) = rowW bs ++ wds r := by rw [e, wds_app, wds_rowJ hn]
theorem wds_T {bs : List Int} (hn : bs ≠ []) {p q : List Nat} (hp : 32 ∉ p) (hq : 32 ∉ q) : wds (rowJ bs ++ tailT p q) = rowW bs ++ [lapS, p, reachS, q] := by
  have h := wds_tail hp hq
  rw [tail_eq] at h ⊢
  rw [wds_app, wds_rowJ hn]
  rw [wds_cons] at h
  injection h with _ h
  rw [h]
theorem num_free {p : List Nat} (h : numeral p = true) : 32 ∉ p := by
  intro hm
  rw [numeral_no hm (.inl (by decide))] at h
  cases h
section
variable {bs : List Int} {p q : List Nat}
theorem four_no {B : List (List Nat)} {a b c d : List Nat} (h : (numeral b && numeral d && decide (a = lapS ∧ c = reachS)) = false) : shape (B ++ [a, b, c, d]) = false := by rw [shape_four, h, Bool.and_false]
theorem four_nb {B : List (List Nat)} {a b c d : List Nat} (h : numsOk B = false) : shape (B ++ [a, b, c, d]) = false := by rw [shape_four, h, Bool.false_and]
theorem sh1 : shape (wds (tl ("" : Str))) = false := by decide
theorem sh2 : shape (wds (tl (" " : Str))) = false := by decide
theorem sh3 : shape (wds (tl ("lap 1 reach 1" : Str))) = false := by decide
theorem sh4 (hp : 32 ∉ p) (hq : 32 ∉ q) : shape (wds (tailT p q)) = false := by
  rw [wds_tail hp hq]
  exact four_nb (B := [[]]) (by decide)
theorem sh5 (hn : bs ≠ []) (h4 : bs.length ≤ 4) : shape (wds (rowJ bs)) = false := by
  rw [wds_rowJ hn]
  exact shape_short (by unfold rowW; rw [List.length_map]; exact h4)
theorem sh6 (hn : bs ≠ []) (hp : 32 ∉ p) (hq : 32 ∉ q) : shape (wds (tl (" " : Str) ++ (rowJ bs ++ tailT p q))) = false := by
  rw [show tl (" " : Str) = [32] from by decide]
  show shape (wds (32 :: (rowJ bs ++ tailT p q))) = false
  rw [wds_cons, wds_T hn hp hq]
  exact four_nb (B := [] :: rowW bs) (numsOk_no List.mem_cons_self numeral_nil)
theorem app_last {p q r s x : List Nat} {B : List (List Nat)} : (B ++ [p, q, r, s]) ++ [x] = (B ++ [p]) ++ [q, r, s, x] := by simp
theorem sh7 (hn : bs ≠ []) (hp : 32 ∉ p) (hq : 32 ∉ q) : shape (wds (rowJ bs ++ tailT p q ++ tl (" " : Str))) = false := by
  rw [show tl (" " : Str) = 32 :: [] from by decide, wds_app, wds_T hn hp hq, wds_nil, app_last]
  exact four_no (by rw [numeral_nil, Bool.and_false, Bool.false_and])
theorem sh8 (hn : bs ≠ []) (hp : 32 ∉ p) (hq : 32 ∉ q) (hq2 : q ≠ reachS) : shape (wds (rowJ bs ++ tailT p q ++ tl (" 1" : Str))) = false := by
  rw [show tl (" 1" : Str) = 32 :: [49] from by decide, wds_app, wds_T hn hp hq, show wds [49] = [[49]] from by decide, app_last]
  exact four_no (by rw [show numeral reachS = false from by decide, Bool.false_and, Bool.false_and])
theorem sh9 (hn : bs ≠ []) : shape (wds (rowJ bs ++ tl ("  lap 1 reach 1" : Str))) = false := by
  rw [wds_row_lit hn (r := 32 :: [108, 97, 112, 32, 49, 32, 114, 101, 97, 99, 104, 32, 49]) (by decide), show wds (32 :: [108, 97, 112, 32, 49, 32, 114, 101, 97, 99, 104, 32, 49]) = [[]] ++ [lapS, [49], reachS, [49]] from by decide, ← List.append_assoc]
  exact four_nb (numsOk_no (List.mem_append_right _ List.mem_cons_self) numeral_nil)
theorem sh10 (hn : bs ≠ []) : shape (wds (rowJ bs ++ tl (" reach 1 lap 1" : Str))) = false := by
  rw [wds_row_lit hn (r := [114, 101, 97, 99, 104, 32, 49, 32, 108, 97, 112, 32, 49]) (by decide), show wds [114, 101, 97, 99, 104, 32, 49, 32, 108, 97, 112, 32, 49] = [reachS, [49], lapS, [49]] from by decide]
  exact four_no (by decide)
theorem sh11 (hn : bs ≠ []) (hp : 32 ∉ p) (hq : 32 ∉ q) : shape (wds (rowJ bs ++ tailT p q ++ tl ("\n" : Str))) = false := by
  have e : tailT p q ++ [10] = tailT p (q ++ [10]) := by unfold tailT; simp [List.append_assoc]
  rw [show tl ("\n" : Str) = [10] from by decide, List.append_assoc, e, wds_T hn hp (by simpa using hq)]
  exact four_no (by rw [numeral_no (cs := q ++ [10]) (c := 10) (by simp) (.inl (by decide)), Bool.and_false, Bool.false_and])
theorem wds_lead (hn : bs ≠ []) (hp : 32 ∉ p) (hq : 32 ∉ q) {c : Nat} (hc : c ≠ 32) : ∃ x r, wds (c :: (rowJ bs ++ tailT p q)) = ((c :: x) :: r) ++ [lapS, p, reachS, q] := by
  cases hR : rowW bs with
  | nil => exact absurd hR (rowW_ne hn)
  | cons x r =>
    refine ⟨x, r, ?_⟩
    have e : c :: (rowJ bs ++ tailT p q) = joinL [32] ((c :: x) :: r) ++ tailT p q := by
      unfold rowJ
      rw [hR, ← joinL_cons, List.cons_append]
    have h := wds_tail hp hq
    rw [tail_eq] at h
    rw [e, tail_eq, wds_app, wds_join (by simp) (fun w hw => ?_)]
    · rw [wds_cons] at h
      injection h with _ h
      rw [h]
    · have hf := rowW_free (bs := bs)
      rw [hR] at hf
      rcases List.mem_cons.mp hw with rfl | hw
      · have := hf x List.mem_cons_self
        simp [this]
        omega
      · exact hf w (List.mem_cons_of_mem _ hw)
theorem sh12 (hn : bs ≠ []) (hp : 32 ∉ p) (hq : 32 ∉ q) : shape (wds (tl ("0" : Str) ++ (rowJ bs ++ tailT p q))) = false := by
  rw [show tl ("0" : Str) = [48] from by decide]
  obtain ⟨x, r, e⟩ := wds_lead hn hp hq (c := 48) (by decide)
  show shape (wds (48 :: (rowJ bs ++ tailT p q))) = false
  rw [e]
  exact four_nb (numsOk_no List.mem_cons_self (numeral_zero x))
theorem sh13 (hn : bs ≠ []) (hp : 32 ∉ p) (hq : 32 ∉ q) : shape (wds (tl ("+" : Str) ++ (rowJ bs ++ tailT p q))) = false := by
  rw [show tl ("+" : Str) = [43] from by decide]
  obtain ⟨x, r, e⟩ := wds_lead hn hp hq (c := 43) (by decide)
  show shape (wds (43 :: (rowJ bs ++ tailT p q))) = false
  rw [e]
  exact four_nb (numsOk_no List.mem_cons_self (numeral_no List.mem_cons_self (.inl (by decide))))
theorem wds_ltail (hp : 32 ∉ p) (hq : 32 ∉ q) {z : Str} (hz : 32 ∉ tl z) : wds (tl z ++ tailT p q) = [tl z] ++ [lapS, p, reachS, q] := by
  have h := wds_tail hp hq
  rw [tail_eq] at h ⊢
  rw [wds_app, wds_free hz]
  rw [wds_cons] at h
  injection h with _ h
  rw [h]
theorem sh14 (hp : 32 ∉ p) (hq : 32 ∉ q) : shape (wds (tl ("-1" : Str) ++ tailT p q)) = false := by
  rw [wds_ltail hp hq (by decide)]
  exact four_nb (by decide)
theorem sh15 (hp : 32 ∉ p) (hq : 32 ∉ q) : shape (wds (tl ("1000" : Str) ++ tailT p q)) = false := by
  rw [wds_ltail hp hq (by decide)]
  exact four_nb (by decide)
theorem sh20 (hp : 32 ∉ p) (hq : 32 ∉ q) : shape (wds (tl ("0" : Str) ++ tailT p q)) = false := by
  rw [wds_ltail hp hq (by decide)]
  exact four_nb (by decide)
theorem sh16 (hn : bs ≠ []) : shape (wds (rowJ bs ++ tl (" Lap 1 reach 1" : Str))) = false := by
  rw [wds_row_lit hn (r := [76, 97, 112, 32, 49, 32, 114, 101, 97, 99, 104, 32, 49]) (by decide), show wds [76, 97, 112, 32, 49, 32, 114, 101, 97, 99, 104, 32, 49] = [[76, 97, 112], [49], reachS, [49]] from by decide]
  exact four_no (by decide)
theorem sh17 (hn : bs ≠ []) : shape (wds (rowJ bs ++ tl (" lap 1 reach x" : Str))) = false := by
  rw [wds_row_lit hn (r := [108, 97, 112, 32, 49, 32, 114, 101, 97, 99, 104, 32, 120]) (by decide), show wds [108, 97, 112, 32, 49, 32, 114, 101, 97, 99, 104, 32, 120] = [lapS, [49], reachS, [120]] from by decide]
  exact four_no (by decide)
theorem sh18 (hn : bs ≠ []) : shape (wds (rowJ bs ++ tl (" lap 01 reach 1" : Str))) = false := by
  rw [wds_row_lit hn (r := [108, 97, 112, 32, 48, 49, 32, 114, 101, 97, 99, 104, 32, 49]) (by decide), show wds [108, 97, 112, 32, 48, 49, 32, 114, 101, 97, 99, 104, 32, 49] = [lapS, [48, 49], reachS, [49]] from by decide]
  exact four_no (by decide)
theorem sh19 (hn : bs ≠ []) : shape (wds (rowJ bs ++ tl (" lap reach 1" : Str))) = false := by
  rw [wds_row_lit hn (r := [108, 97, 112, 32, 114, 101, 97, 99, 104, 32, 49]) (by decide), show wds [108, 97, 112, 32, 114, 101, 97, 99, 104, 32, 49] = [lapS, reachS, [49]] from by decide]
  have e := List.dropLast_concat_getLast (rowW_ne hn)
  rw [← e, List.append_assoc]
  exact four_no (by rw [show numeral lapS = false from by decide, Bool.false_and, Bool.false_and])
theorem sh21 (hn : bs ≠ []) : shape (wds (rowJ bs ++ tl (" lap 0 reach 1" : Str))) = false := by
  rw [wds_row_lit hn (r := [108, 97, 112, 32, 48, 32, 114, 101, 97, 99, 104, 32, 49]) (by decide), show wds [108, 97, 112, 32, 48, 32, 114, 101, 97, 99, 104, 32, 49] = [lapS, [48], reachS, [49]] from by decide]
  exact four_no (by decide)
theorem join_free : ∀ {ps : List (List Nat)}, (∀ w ∈ ps, 32 ∉ w) → 32 ∉ joinL [44] ps
  | [], _ => by simp [joinL]
  | [w], h => h w List.mem_cons_self
  | w :: v :: r, h => by
    have ih := join_free (ps := v :: r) fun x hx => h x (List.mem_cons_of_mem _ hx)
    have h1 := h w List.mem_cons_self
    show 32 ∉ w ++ ([44] ++ joinL [44] (v :: r))
    simp [h1, ih]
theorem sh22 : shape (wds (joinL [44] (rowW bs) ++ tl (", lap 1 reach 1" : Str))) = false := by
  rw [show tl (", lap 1 reach 1" : Str) = [44] ++ 32 :: [108, 97, 112, 32, 49, 32, 114, 101, 97, 99, 104, 32, 49] from by decide, ← List.append_assoc, wds_app, wds_free (by simpa using join_free rowW_free), show wds [108, 97, 112, 32, 49, 32, 114, 101, 97, 99, 104, 32, 49] = [lapS, [49], reachS, [49]] from by decide]
  exact four_nb (numsOk_no List.mem_cons_self (numeral_no (c := 44) (by simp) (.inl (by decide))))
/-! texts that tell a stock: bricks B, words p, q -/
theorem shape_yes {B : List (List Nat)} (hB : B ≠ []) (h : ∀ w ∈ B, numeral w = true) (hp : numeral p = true) (hq : numeral q = true) : shape (B ++ [lapS, p, reachS, q]) = true := by
  rw [shape_four, numsOk_yes hB h, hp, hq]
  rfl
theorem replace_row {x : Str} (hn : bs ≠ []) (hx : tl x = rowJ bs) : tl (Txt.replace x (" " : Str) ("," : Str)) = joinL [44] (rowW bs) := by
  have h := StrLaws.replace_one x ("," : Str) 32
  rw [show (⟨#[32]⟩ : Str) = (" " : Str) from by decide] at h
  rw [h, tl_join, wds_split, hx, wds_rowJ hn]
  rfl
end
theorem row_len {bs : List Int} {ys : List Str} {i : Nat} (h : ys.map tl = rowW (bs.take i)) : ys.length = min i bs.length := by
  have := congrArg
        List.length h
  rw [List.length_map] at this
  unfold rowW at this
  rw [List.length_map, List.length_take] at this
  exact this
theorem row_snoc {bs : List Int} {ys : List Str} {i : Nat} {b : Int} (h : ys.map tl = rowW (bs.take i)) (e : bs[i]? = some b) (h0 : 0 ≤ b) : (ys ++ [Str.ofString (toString b)]).map tl = rowW (bs.take (i + 1)) := by
  rw [List.map_append, h, List.take_add_one, e]
  unfold rowW
  rw [List.map_append]
  show _ ++ [tl (Str.ofString (toString b))] = _ ++ [numL b.natAbs]
  rw [tl_int, numI_pos h0]
theorem ok_app {a b : Str} (h : PyData.strOk a = true) (h2 : PyData.strOk b = true) : PyData.strOk (a ++ b) = true := by
  rw [strOk_iff] at *
  intro c hc
  rw [tl_append] at hc
  rcases List.mem_append.mp
        hc with hc | hc
  · exact h c hc
  · exact h2 c hc
theorem ok_int (i : Int) : PyData.strOk (Str.ofString (toString i)) = true := by
  rw [strOk_iff]
  intro c hc
  rw [tl_int] at hc
  unfold numI at hc
  split at hc
  · rcases List.mem_cons.mp
        hc with rfl | hc
    · decide
    · have := numL_digits _ c hc; omega
  · have := numL_digits _ c hc; omega
theorem joinL_mem {s : List Nat} : ∀ {ps : List (List Nat)} {c : Nat}, c ∈ joinL s ps → c ∈ s ∨ ∃ p ∈ ps, c ∈ p
  | [p], c, h => .inr ⟨p, List.mem_cons_self, h⟩
  | p :: q :: r, c, h => by
    have h : c ∈ p ++ (s ++ joinL s (q :: r)) := h
    rcases List.mem_append.mp
          h with h | h
    · exact .inr ⟨p, List.mem_cons_self, h⟩
    · rcases List.mem_append.mp
          h with h | h
      · exact .inl h
      · rcases joinL_mem h with h | ⟨x, hx, h⟩
        · exact .inl h
        · exact .inr ⟨x, List.mem_cons_of_mem _ hx, h⟩
theorem ok_rowJ {z : Str} {s : Nat} {bs : List Int} (hs : s < 0x110000) (h : tl z = joinL [s] (rowW bs)) : PyData.strOk z = true := by
  rw [strOk_iff]
  intro c hc
  rw [h] at hc
  rcases joinL_mem hc with hc | ⟨p, hp, hc⟩
  · cases List.mem_singleton.mp hc; exact hs
  · obtain ⟨b, _, rfl⟩ := List.mem_map.mp hp
    have := numL_digits _ c hc
    omega
theorem len2 {a b : Str} (ha : a.length ≤ 5000) (hb : b.length ≤ 5000) : (a ++ b).length ≤ 10000 := by rw [len_app]; omega
theorem rowJ_snoc {bs : List Int} (hn : bs ≠ []) (b : Int) : rowJ bs ++ (tl (" " : Str) ++ numL b.natAbs) = rowJ (bs ++ [b]) := by
  unfold rowJ rowW
  rw [List.map_append, joinL_app _ _ _ (by simpa using hn) (by simp), show tl (" " : Str) = [32] from by decide]
  rfl
theorem tail_51 : tl (" lap 5 reach 1" : Str) = tailT [53] [49] := by decide
theorem tail_1n (w : List Nat) : tl (" lap 1 reach " : Str) ++ w = tailT [49] w := by
  unfold tailT
  rw [show tl (" lap 1 reach " : Str) = tl (" lap " : Str) ++ ([49] ++ tl (" reach " : Str)) from by decide]
  simp [List.append_assoc]
theorem row_12345 : tl ("1 2 3 4 5" : Str) = rowJ [1, 2, 3, 4, 5] := by decide
theorem row_21 : tl ("2 1" : Str) = rowJ [2, 1] := by decide
/-! rows with a fault -/
theorem spl_end {s : List Nat} (hs : 32 ∉ s) : ∀ (u acc : List Nat), ∃ B x, spl [32] 0 acc (u ++ s) = B ++ [x ++ s]
  | [], acc => ⟨[], acc, by rw [List.nil_append, spl_last1 hs]; rfl⟩
  | c :: r, acc => by
    by_cases h : c = 32
    · subst h
      obtain ⟨B, x, e⟩ := spl_end hs r []
      refine ⟨acc :: B, x, ?_⟩
      rw [List.cons_append, spl_hit (by rw [pre1]; rfl)]
      show acc :: spl [32] 0 [] (r ++ s) = _
      rw [e]
      rfl
    · obtain ⟨B, x, e⟩ := spl_end hs r (acc ++ [c])
      refine ⟨B, x, ?_⟩
      rw [List.cons_append, spl_miss (by rw [pre1, decide_eq_false h]), e]
theorem nums_end {s u : List Nat} {c : Nat} (hs : 32 ∉ s) (hc : c ∈ s) (h : c < 48 ∨ 57 < c) : numsOk (wds (u ++ s)) = false := by
  obtain ⟨B, x, e⟩ := spl_end hs u []
  have e : wds (u ++ s) = B ++ [x ++ s] := e
  rw [e]
  exact numsOk_no (List.mem_append_right _ List.mem_cons_self) (numeral_no (List.mem_append_right x hc) h)
theorem nums_app {u r : List Nat} {w : List Nat} (hw : w ∈ wds r) (h : numeral w = false) : numsOk (wds (u ++ 32 :: r)) = false := by
  rw [wds_app]
  exact numsOk_no (List.mem_append_right _ hw) h
theorem nums_lead {u r : List Nat} {w : List Nat} (hw : w ∈ wds u) (h : numeral w = false) : numsOk (wds (u ++ 32 :: r)) = false := by
  rw [wds_app]
  exact numsOk_no (List.mem_append_left _ hw) h
theorem nums_row {cs : List Int} (hn : cs ≠ []) (h : ∀ c ∈ cs, 1 ≤ c ∧ c < 1000) : numsOk (wds (rowJ cs)) = true ∧ (wds (rowJ cs)).map valI = cs := by
  rw [wds_rowJ hn]
  exact ⟨numsOk_yes (rowW_ne hn) (rowW_num h), rowW_val fun c hc => (h c hc).1⟩
theorem rowJ_cons {cs : List Int} (hn : cs ≠ []) (c : Int) : numL c.natAbs ++ (tl (" " : Str) ++ rowJ cs) = rowJ (c :: cs) := by
  rw [show tl (" " : Str) = [32] from by decide]
  cases cs with
  | nil => exact absurd rfl hn
  | cons a r => rfl
theorem sum_rep (m : Nat) : ∀ n : Nat, ((List.replicate n m).sum : Nat) = n * m
  | 0 => by rw [Nat.zero_mul]; rfl
  | n + 1 => by rw [List.replicate_succ, List.sum_cons, sum_rep m n, Nat.succ_mul, Nat.add_comm]
theorem rep_row {y : Str} {b : Int} (n : Nat) (e : tl y = numL b.natAbs) : tl (Txt.join (" " : Str) (List.replicate n y)) = rowJ (List.replicate n b) := by
  rw [join_eq, tl_join]
  unfold rowJ rowW
  rw [List.map_replicate, List.map_replicate, e, show tl (" " : Str) = [32] from by decide]
end TW
namespace Z
open PySem L2
theorem hu65 {X : Cx} {k : Nat} (hr : Room k X.A) : X.A.units + 65 < cLine := by have := hr.un; omega
theorem wInDt {K : PySem.W.Frag} {H : Hp} {L : List En} {Q : VK} {x y : V} {d : PyData} {ds : List PyData} (F : Fx H L) (a : Dt L x d) (b : Dt L y (.list ds)) (sd : SeqAt.shaped d = true) (se : SeqAt.shaped (.list ds) = true) (h : Q (.bl (ds.any fun z => PyData.eqv z d)) H) : L2.rInD K x y H Q := ⟨d, ds, a.dp F, b.dp F, sd, se, h⟩
end Z

set_option Elab.async false
set_option linter.all false
set_option maxRecDepth 100000
set_option maxHeartbeats 2000500
/-! ### texts: every second sign, repeated, counted along -/
namespace Z
open PySem PySem.Spec
      PyProof.Rows L2
section
variable {X : Cx} {K : PySem.W.Frag} {H : Hp} {L : List En} {Q : VK} {o e : Expr} {to te : TE} {σ : L2.St}
theorem pick2 (z : Str) (l : Option (Int × Tok)) (t : Tok) (k : Nat) (hl : (k = 0 ∧ l = none) ∨ (k = 1 ∧ ∃ u, l = some (1, u))) : (slicePicked z l none (some (2, t))).filterMap (z.cps[·]?) = step2 (z.cps.toList.drop k) := by
  unfold slicePicked Builtin.Str.strSliceIndices
  have hn : z.length = z.cps.toList.length := by rw [Array.length_toList]; rfl
  rw [← step2_pick 0, List.length_drop, hn]
  generalize hN : z.cps.toList.length = n
  have e1 : ∀ i : Nat, (z.cps.toList.drop k)[2 * i]? = z.cps[k + 2 * i]? := fun i => by rw [List.getElem?_drop, Array.getElem?_toList]
  have key : ∀ a : Int, a = ((min k n : Nat) : Int) → (sliceRange a (n : Int) 2).filterMap (z.cps[·]?) = (List.range ((n - k + 1) / 2)).filterMap fun i => (z.cps.toList.drop k)[2 * i]? := by
    intro a ha
    subst ha
    unfold sliceRange
    have ec : (if (2 : Int) > 0 then (if ((min k n : Nat) : Int) < (n : Int) then ((n : Int) - ((min k n : Nat) : Int) + 2 - 1) / 2 else 0) else (if ((min k n : Nat) : Int) > (n : Int) then (((min k n : Nat) : Int) - (n : Int) - 2 - 1) / (-2) else 0) : Int).toNat = (n - k + 1) / 2 := by
      rw [if_pos (by decide)]
      by_cases h : ((min k n : Nat) : Int) < (n : Int)
      · rw [if_pos h]; omega
      · rw [if_neg h]; omega
    dsimp only
    rw [ec, List.filterMap_map]
    refine fm_congr fun i hi => ?_
    have hi := List.mem_range.mp hi
    show z.cps[(((min k n : Nat) : Int) + 2 * (i : Int)).toNat]? = _
    rw [e1, show (((min k n : Nat) : Int) + 2 * (i : Int)).toNat = k + 2 * i from by omega]
  rcases hl with ⟨rfl, rfl⟩ | ⟨rfl, u, rfl⟩
  · exact key 0 (by omega)
  · refine key _ ?_
    show (if (2 : Int) > 0 then max 0 (min (if (1 : Int) < 0 then 1 + (n : Int) else 1) (n : Int)) else _) = _
    rw [if_pos (by decide), if_neg (by decide)]
    omega
def tStrStep (k : Nat) (te : TE) : TE := fun σ H Q => te σ H fun x H1 => ∃ z : Str, x = .str z ∧ z.length ≤ sizeLine ∧ Q (.str ⟨(step2 (z.cps.toList.drop k)).toArray⟩) H1
theorem step_post {z : Str} {t : Tok} {l : Option (Int × Tok)} {u : Tok} {k : Nat} (hl : (k = 0 ∧ l = none) ∨ (k = 1 ∧ ∃ u, l = some (1, u))) {Q : Value → Shared → Prop} {s : Shared} (hz : z.length ≤ sizeLine)
    (h : Q (.str ⟨(step2 (z.cps.toList.drop k)).toArray⟩ s.toks) { s with toks := s.toks + 1 }) : (sliceMade z t l none (some (2, u))).post Q s := by
  unfold sliceMade
  rw [pick2 z l u k hl]
  show (if ((2 : Int) == 1 && _) = true then _ else _ : Made).post Q s
  rw [if_neg (by rw [show ((2 : Int) == 1) = false from rfl]; simp)]
  refine ⟨?_, h⟩
  show (step2 (z.cps.toList.drop k)).toArray.size ≤ sizeLine
  have h1 := step2_len (z.cps.toList.drop k)
  rw [List.length_drop] at h1
  rw [List.size_toArray]
  have h2 : z.cps.toList.length ≤ sizeLine := hz
  omega
theorem pe_strStep0 {j2 : Nat} {p3 p4 pos : Pos} (he : PE X e te) : PE X (.Subscript e (.Slice none none (some (.Constant (.int 2) j2 p4)) p3) pos) (tStrStep 0 te) := by
  refine ⟨fun pins
        s σ H Q I h => ?_⟩
  refine Subscript_ (thn (he.run pins s σ H
        _ I h) fun v s1 ⟨x, H1, I1, r1, q1⟩ => ?_)
  obtain ⟨z, ex, hz, q⟩ := q1
  subst ex
  obtain ⟨t, rfl⟩ := r1
  have hst : PO X (some (.Constant (.int 2) j2 p4)) (tPart (tC (.int 2))) := po_some pe_int
  refine wpAny_Slice (thn (po_none.run pins s1 σ H1 (fun o H2 => o = none
        ∧ H2 = H1) I1 ⟨rfl, rfl⟩) fun vl s2 ⟨l, H2, I2, pl, el, e2⟩ => ?_)
  subst el e2
  refine thn (po_none.run pins s2 σ H2 (fun o H3 => o = none ∧ H3
        = H2) I2 ⟨rfl, rfl⟩) fun vu s3 ⟨u, H3, I3, pu, eu, e3⟩ => ?_
  subst eu e3
  refine thn (hst.run pins s3 σ H3 (fun o H4 => o = some 2 ∧ H4 = H3) I3 ⟨2, rfl, rfl, rfl⟩) fun vs s4 ⟨o, H4, I4, ps, eo, e4⟩ => ?_
  subst eo e4
  obtain ⟨l', rfl, el'⟩ := IsPart.raw pl
  obtain ⟨u', rfl, eu'⟩ := IsPart.raw pu
  obtain ⟨st', rfl, es'⟩ := IsPart.raw ps
  cases l' with
  | some w => cases el'
  | none =>
  cases u' with
  | some w => cases eu'
  | none =>
  cases st' with
  | none => cases es'
  | some w =>
  obtain ⟨w1, w2⟩ := w
  have es' : w1 = 2 := by simpa using es'
  subst es'
  have I5 : Inv X pins σ H4 { s4 with heap := s4.heap.push { cls := .type "slice", data := .fields #[partValue none, partValue none, partValue (some (2, w2))] } } := I4.kept (t' := s4.toks) fun b ob q => Heap.get?_push_of_some _ q
  show wpAny (model X.prog X.w) X.A (subscriptTail e (.Slice none none (some (.Constant (.int 2) j2 p4)) p3) (.str z t) (.ref s4.heap.objs.size)) (EP X pins σ Q) X.xe { s4 with heap := s4.heap.push { cls := .type "slice", data := .fields #[partValue none, partValue none, partValue (some (2, w2))] } }
  refine tail_any (ops := [.ref s4.heap.objs.size, .str z t]) (typeIs_str _ _ _) (F.slot_str_getitem.lookup) ?_ (by with_unfolding_all rfl)
  refine wpAny_getItem_str_slice (l := none) (u := none) (st := some (2, w2)) ⟨_, Heap.get?_push_size _ rfl, rfl, rfl⟩ rfl ?_
  exact step_post (.inl ⟨rfl, rfl⟩) hz ⟨.str _, H4, I5.tok _, ⟨_, rfl⟩, q⟩
theorem pe_strStep1 {j1 j2 : Nat} {p1 p3 p4 pos : Pos} (he : PE X e te) : PE X (.Subscript e (.Slice (some (.Constant (.int 1) j1 p1)) none (some (.Constant (.int 2) j2 p4)) p3) pos) (tStrStep 1 te) := by
  refine ⟨fun pins
        s σ H Q I h => ?_⟩
  refine Subscript_ (thn (he.run pins s σ H
        _ I h) fun v s1 ⟨x, H1, I1, r1, q1⟩ => ?_)
  obtain ⟨z, ex, hz, q⟩ := q1
  subst ex
  obtain ⟨t, rfl⟩ := r1
  have hlo : PO X (some (.Constant (.int 1) j1 p1)) (tPart (tC (.int 1))) := po_some pe_int
  have hst : PO X (some (.Constant (.int 2) j2 p4)) (tPart (tC (.int 2))) := po_some pe_int
  refine wpAny_Slice (thn (hlo.run pins s1 σ H1 (fun o H2 => o = some 1 ∧ H2 = H1) I1 ⟨1, rfl, rfl, rfl⟩) fun vl s2 ⟨l, H2, I2, pl, el, e2⟩ => ?_)
  subst el e2
  refine thn (po_none.run pins s2 σ H2 (fun o H3 => o = none ∧ H3
        = H2) I2 ⟨rfl, rfl⟩) fun vu s3 ⟨u, H3, I3, pu, eu, e3⟩ => ?_
  subst eu e3
  refine thn (hst.run pins s3 σ H3 (fun o H4 => o = some 2 ∧ H4 = H3) I3 ⟨2, rfl, rfl, rfl⟩) fun vs s4 ⟨o, H4, I4, ps, eo, e4⟩ => ?_
  subst eo e4
  obtain ⟨l', rfl, el'⟩ := IsPart.raw pl
  obtain ⟨u', rfl, eu'⟩ := IsPart.raw pu
  obtain ⟨st', rfl, es'⟩ := IsPart.raw ps
  cases u' with
  | some w => cases eu'
  | none =>
  cases l' with
  | none => cases el'
  | some v =>
  cases st' with
  | none => cases es'
  | some w =>
  obtain ⟨w1, w2⟩ := w
  obtain ⟨v1, v2⟩ := v
  have es' : w1 = 2 := by simpa using es'
  have el' : v1 = 1 := by simpa using el'
  subst es' el'
  have I5 : Inv X pins σ H4 { s4 with heap := s4.heap.push { cls := .type "slice", data := .fields #[partValue (some (1, v2)), partValue none, partValue (some (2, w2))] } } := I4.kept (t' := s4.toks) fun b ob q => Heap.get?_push_of_some _ q
  show wpAny (model X.prog X.w) X.A (subscriptTail e (.Slice (some (.Constant (.int 1) j1 p1)) none (some (.Constant (.int 2) j2 p4)) p3) (.str z t) (.ref s4.heap.objs.size)) (EP X pins σ Q) X.xe { s4 with heap := s4.heap.push { cls := .type "slice", data := .fields #[partValue (some (1, v2)), partValue none, partValue (some (2, w2))] } }
  refine tail_any (ops := [.ref s4.heap.objs.size, .str z t]) (typeIs_str _ _ _) (F.slot_str_getitem.lookup) ?_ (by with_unfolding_all rfl)
  refine wpAny_getItem_str_slice (l := some (1, v2)) (u := none) (st := some (2, w2)) ⟨_, Heap.get?_push_size _ rfl, rfl, rfl⟩ rfl ?_
  exact step_post (.inr ⟨rfl, _, rfl⟩) hz ⟨.str _, H4, I5.tok _, ⟨_, rfl⟩, q⟩
def StrStepV (k : Nat) (x : V) (H : Hp) (Q : VK) : Prop := ∃ z : Str, x = .str z ∧ z.length ≤ sizeLine ∧ Q (.str ⟨(step2 (z.cps.toList.drop k)).toArray⟩) H
theorem wStrStep {k : Nat} (h : te σ H fun x H1 => StrStepV k x H1 Q) : tStrStep k te σ H Q := h
theorem wStrStepV {k : Nat} {z : Str} (hz : z.length ≤ sizeLine) (h : Q (.str ⟨(step2 (z.cps.toList.drop k)).toArray⟩) H) : StrStepV k (.str z) H Q := ⟨z, rfl, hz, h⟩
/-- text * n -/
def repS (a : Str) (n : Int) : Str := ⟨(List.replicate n.toNat a.cps.toList).flatten.toArray⟩
theorem reps_any (a : Array Nat) : ∀ (k : Nat) (acc : Array Nat), (List.replicate k a).foldl (· ++ ·) acc = acc ++ (List.replicate k a.toList).flatten.toArray
  | 0, acc => by simp
  | k + 1, acc => by
    rw [List.replicate_succ, List.foldl_cons, reps_any a k, List.replicate_succ, List.flatten_cons]
    apply Array.toList_inj.mp
    simp
def rMulT : R2 := fun x y H Q => ∃ (a : Str) (n : Int), x = .str a ∧ y = .int n ∧ 1 ≤ n ∧ n ≤ 1000 ∧ 1 ≤ a.length ∧ a.length ≤ 1000 ∧ Q (.str (repS a n)) H
theorem op_mulT : OpR X (binaryOp .Mult) rMulT := by
  intro pins s σ H x
        y v u Q I rx ry h
  obtain ⟨a, n, rfl, rfl, h1, h2, h3, h4, q⟩ := h
  obtain ⟨t, rfl⟩ := rx
  obtain ⟨t', rfl⟩ := ry
  have lb := line_big
  refine PySem.P.mul_str (by rw [decide_eq_false (by omega), decide_eq_false (by omega)]; rfl) (fun _ _ => ?_) (fun _ _ => ?_) ?_
  · have : (1000 : Int) ≤ (2 ^ 63 - 1) / n := by
      apply (Int.le_ediv_iff_mul_le (by omega)).mpr
      omega
    omega
  · unfold Builtin.Str.tooLong
    simp only
          [decide_eq_false_iff_not]
    have : a.length * n.toNat ≤ 1000 * 1000 := Nat.mul_le_mul h4 (by omega)
    omega
  · rw [if_neg (by omega)]
    by_cases hn : n = 1
    · subst hn
      rw [if_pos (by rfl)]
      have e : repS a 1 = a := by
        unfold repS
        show (⟨(List.replicate 1 a.cps.toList).flatten.toArray⟩ : Str) = a
        simp
      rw [e] at q
      exact ⟨.str a, H, I, ⟨t, rfl⟩, q⟩
    · have e0 : (n == 1) = false := by rw [beq_eq_false_iff_ne]; exact hn
      have e2 : (a.length == 0) = false := by rw [beq_eq_false_iff_ne]; omega
      rw [e0, e2, if_neg (by decide), reps_any, show (#[] : Array Nat) ++ (List.replicate n.toNat a.cps.toList).flatten.toArray = (List.replicate n.toNat a.cps.toList).flatten.toArray from by simp]
      refine ⟨?_, .str (repS a n), H, I.tok _, ⟨_, rfl⟩, q⟩
      show (List.replicate n.toNat a.cps.toList).flatten.toArray.size ≤ sizeLine
      rw [List.size_toArray, List.length_flatten, List.map_replicate, TW.sum_rep, Array.length_toList]
      have : n.toNat * a.length ≤ 1000 * 1000 := Nat.mul_le_mul (by omega) h4
      have e3 : a.length = a.cps.size := rfl
      rw [← e3]
      omega
theorem wMulT {a : Str} {n : Int} (h1 : 1 ≤ n) (h2 : n ≤ 1000) (h3 : 1 ≤ a.length) (h4 : a.length ≤ 1000) (h : Q (.str (repS a n)) H) : rMulT (.str a) (.int n) H Q := ⟨a, n, rfl, rfl, h1, h2, h3, h4, h⟩
end
/-! ### enumerate over a text -/
section
variable {X : Cx}
def IteS (z : Str) : It :=
  ⟨fun i _ => i < z.cps.size, fun i H v H' => ∃ T c, v = .ref T ∧ H T = none ∧ z.cps[i]? = some c ∧ H' = upd H T (.tup [.int (i : Nat), .str ⟨#[c]⟩]), fun i _ => z.cps.size ≤ i⟩
theorem turn_enumX {P : Program} {w : World} {K : PySem.W.Frag} {elts : List Expr} {kk : Nat} {tpos : Pos} (z : Str) (t : Tok) (e it : Addr) :
    Turn P w K (.Tuple elts kk tpos) (IteS z) [e, it] e (fun i h => (∃ old, IsEnum h e it ((i : Nat) : Int) old) ∧ h.IsStrIter it (strIterType z) z t i ∧ e ≠ it ∧ i ≤ z.cps.size) where
  mem := by simp
  obj := fun i h st b hb => by
    obtain ⟨⟨old, he⟩, ⟨o, ho, hd⟩, _⟩ := st
    rcases (show b = e ∨ b = it by simpa using hb) with q | q
    · rw [q]; exact ⟨_, he, fun v q => nomatch q⟩
    · rw [q]; exact ⟨o, ho, fun v q => by rw [hd.2] at q; cases q⟩
  keep := fun i h h' st k => by
    obtain ⟨⟨old, he⟩, ⟨o, ho, hd⟩, hne, hle⟩ := st
    exact ⟨⟨old, k e (by simp) _ he⟩, ⟨o, k it (by simp) o ho, hd⟩, hne, hle⟩
  item := by
    intro X hP hw hK hc i
          pins s σ H E I hf st hg
    subst hP hw hK
    obtain ⟨⟨old, he⟩, hit, hne, hle⟩ := st
    have hel : e < s.heap.objs.size
          := Heap.lt_size he
    have hil : it < s.heap.objs.size := by
      obtain ⟨o, q, _⟩ := hit
      exact Heap.lt_size q
    have hae : e ∉ [it] := fun q => hne (List.mem_singleton.mp q)
    refine wpAny_pyNext_enum_itemD (Draws.text (by exact (I.ok.hd hc)) it z t) he hit hg hne hae fun x' h' tk hP ho hs' hT hsz hk => ?_
    obtain ⟨c, u, hc2, rfl⟩ := hP
    refine ⟨_, rfl, wpAny_letOwnedTupleGo_enum (s := { s with heap := h', toks := tk + 1 }) ho fun h'' he' sb => ?_⟩
    have hT2 : h''.get? s.heap.objs.size = some { cls := .type "tuple", data := .seq #[.int i tk, .str ⟨#[c]⟩ u] } := (sb.2 _ (Nat.ne_of_gt hel)).trans hT
    have new : ObjOk X.prog X.w (upd H s.heap.objs.size (.tup [.int (i : Nat), .str ⟨#[c]⟩])) h'' s.heap.objs.size (.tup [.int (i : Nat), .str ⟨#[c]⟩]) :=
      ⟨by show 2 ≤ sizeLine; decide, [.int i tk, .str ⟨#[c]⟩ u], .cons ⟨_, rfl⟩ (.cons ⟨_, rfl⟩ .nil), ⟨_, hT2, rfl, _, rfl⟩⟩
    have I1 : Inv X pins σ (upd H s.heap.objs.size (.tup [.int (i : Nat), .str ⟨#[c]⟩])) { s with heap := h'', toks := tk + 1 } :=
      I.turnedNew (ch := [e, it]) (fun b ob hb q => (sb.2 b (fun y => hb (by simp [y]))).trans (hk b ob (fun y => hb (by simp [y])) (fun y => hb (by simp [y])) q)) hf (Nat.le_refl _) new
    refine ⟨.ref s.heap.objs.size, _, I1, rfl, ⟨_, c, rfl, I.hok.fresh (Nat.le_refl _), hc2, rfl⟩, ⟨⟨.str ⟨#[c]⟩ u, ?_⟩, ?_, hne, hg⟩, fun b hb => ?_⟩
    · have e1 : ((i + 1 : Nat) :
          Int) = (i : Int) + 1 := by omega
      rw [e1]
      exact he'
    · obtain ⟨o, q, r⟩ := hs'
      exact ⟨o, (sb.2 it (Ne.symm hne)).trans q, r⟩
    · have hb' : b <
          s.heap.objs.size := by
        rcases (show b = e ∨ b = it by simpa using hb) with q | q
        · rw [q]; exact hel
        · rw [q]; exact hil
      rw [upd_ne
            (Nat.ne_of_lt hb')]
      exact (hf b hb).1
  done := by
    intro X hP hw hK hc i
          pins s σ H E I hf st hg
    subst hP hw hK
    obtain ⟨⟨old, he⟩, hit, hne, hle⟩ := st
    obtain ⟨f0, f1, f2, f3,
          f4, f5⟩ := hf it (by simp)
    have hi : i = z.cps.size := Nat.le_antisymm hle hg
    subst hi
    exact wpAny_pyNext_enum_endD (Draws.text (by exact (I.ok.hd hc)) it z t) he hit fun h' hx => ⟨rfl, I.turned (t' := s.toks) (fun b o hb q => hx b o hb q) f0 f1 f3 f4 f5⟩
  self := fun A i s Q E st h => let ⟨⟨_,
        he⟩, _⟩ := st; wpAny_pyIter_enum he h
def iEnumX (ta : TA) : TI := fun σ H R => ta σ H fun vs H1 => ∃ z : Str, vs = [.str z] ∧ R (IteS z) H1
theorem pi_enumX {e : Expr} {ta : TA} {p pos tpos : Pos} {elts : List Expr} {kk : Nat} (hg : Gl X "enumerate") (hm : X.mg "enumerate" = none) (ha : PA X [e] ta) (hs : starEach [e] X.env = [(false, eval e X.env)] := by rfl) :
    PI X (.Tuple elts kk tpos) (.Call (.Name "enumerate" p) [e] [] pos) (iEnumX ta) := by
  refine ⟨fun pins
        s σ H R I h => ?_⟩
  refine Call_ (ld_blt I hg hm boot_enumerate (PyProof.Rows.callWith_type1 (thn
        (ha.run pos pins s σ H _ I h) fun us s1 ⟨vs, H1, I1, r1, q1⟩ => ?_) hs rfl))
  obtain ⟨z, ex, q⟩ := q1
  subst ex
  cases r1 with
  | cons r rr =>
    cases rr
    obtain ⟨t, rfl⟩ := r
    refine enum_begins1 (begins_text z t) trivial fun h' he hit hk => wpAny_pyIter_enum he ?_
    have I2 : Inv X pins σ H1 {
          s1 with heap := h' } := I1.kept (t' := s1.toks) hk
    refine ⟨s1.heap.objs.size + 1, [s1.heap.objs.size + 1, s1.heap.objs.size], _, _, H1, rfl, I2, turn_enumX z t (s1.heap.objs.size + 1) s1.heap.objs.size, ⟨⟨.none, he⟩, ⟨_, hit, rfl, rfl⟩, Nat.succ_ne_self _, Nat.zero_le _⟩, fun b hb => ?_, q⟩
    have hle :
          s1.heap.objs.size ≤ b := by
      rcases (show b = s1.heap.objs.size + 1 ∨ b = s1.heap.objs.size by simpa using hb) with q | q
      · rw [q]; exact Nat.le_add_right _ _
      · rw [q]; exact Nat.le_refl _
    exact I1.fpOk hle
          (I1.hok.fresh hle)
theorem walk_enumX {z : Str} : Walk (IteS z) z.cps.size (fun _ => True) (YPair (fun i => some (.int (i : Nat))) (fun i => (z.cps[i]?).map fun c => V.str ⟨#[c]⟩)) := by
  refine ⟨fun i _ hi _ => hi, fun _ _ => Nat.le_refl _, fun i H v H' _ _ y => ?_⟩
  obtain ⟨T, c, h1, h2, h3, h4⟩ := y
  exact ⟨T, .int (i : Nat), .str ⟨#[c]⟩, h1, h2, h4, rfl, by show Option.map _ (z.cps[i]?) = _; rw [h3]; rfl⟩
def GoX (vs : List V) (H : Hp) (R : It → Hp → Prop) : Prop := ∃ z : Str, vs = [.str z] ∧ R (IteS z) H
theorem wIX {σ : L2.St} {H : Hp} {RI : It → Hp → Prop} {ta : TA} (h : ta σ H fun vs H1 => GoX vs H1 RI) : iEnumX ta σ H RI := h
theorem wGoX {z : Str} {H : Hp} {RI : It → Hp → Prop} (h : RI (IteS z) H) : GoX [.str z] H RI := ⟨z, rfl, h⟩
end
end Z

set_option Elab.async false
set_option linter.all false
set_option maxRecDepth 100000
set_option maxHeartbeats 2000500
/-! ### rows of a text: any one sign as the border -/
namespace TR
open PySem TL TX Z
theorem preS {s c : Nat} {r : List Nat} : pre [s] (c :: r) = decide (c = s) := by
  unfold pre
  show ((c :: r.take 0) == [s]) = _
  by_cases h : c = s
  · subst h; simp
  · rw [decide_eq_false h]
    show (c == s && ([] : List Nat) == []) = false
    rw [beq_eq_false_iff_ne.mpr h]; rfl
theorem splS_app (s : Nat) : ∀ (x acc y : List Nat), spl [s] 0 acc (x ++ s :: y) = spl [s] 0 acc x ++ spl [s] 0 [] y
  | [], acc, y => by
    rw [List.nil_append, spl_hit (by rw [preS]; simp), spl_nil]
    rfl
  | c :: r, acc, y => by
    rw [List.cons_append]
    by_cases h : c = s
    · subst h
      rw [spl_hit (by rw [preS]; simp), spl_hit (by rw [preS]; simp)]
      show acc :: spl [c] 0 [] (r ++ c :: y) = acc :: spl [c] 0 [] r ++ _
      rw [splS_app c r [] y]
      rfl
    · have e : pre [s] (c :: (r ++ s :: y)) = false := by rw [preS, decide_eq_false h]
      have e2 : pre [s] (c :: r) = false := by rw [preS, decide_eq_false h]
      rw [spl_miss e, spl_miss e2, splS_app s r _ y]
theorem splS_size (s : Nat) : ∀ (cs acc : List Nat), (spl [s] 0 acc cs).length ≤ cs.length + 1 ∧ ∀ p ∈ spl [s] 0 acc cs, p.length ≤ acc.length + cs.length
  | [], acc => by rw [spl_nil]; exact ⟨Nat.le_refl _, fun p hp => by cases List.mem_singleton.mp hp; exact Nat.le_refl _⟩
  | c :: r, acc => by
    by_cases h : c = s
    · subst h
      rw [spl_hit (by rw [preS]; simp)]
      obtain ⟨a, b⟩ := splS_size c r []
      refine ⟨Nat.succ_le_succ a, fun p hp => ?_⟩
      rcases List.mem_cons.mp
            hp with rfl | hp
      · exact Nat.le_add_right _ _
      · have := b p hp
        simp only [List.length_cons, List.length_nil] at *
        omega
    · rw [spl_miss (by rw [preS, decide_eq_false h])]
      obtain ⟨a, b⟩ := splS_size s r (acc ++ [c])
      refine ⟨by simp only [List.length_cons]; omega, fun p hp => ?_⟩
      have := b p hp
      simp only [List.length_append, List.length_cons, List.length_nil] at *
      omega
theorem splS_mem (s : Nat) : ∀ (cs acc : List Nat), ∀ p ∈ spl [s] 0 acc cs, ∀ c ∈ p, c ∈ acc ∨ c ∈ cs
  | [], acc, p, hp, c, hc => by
    rw [spl_nil] at hp
    cases List.mem_singleton.mp hp
    exact .inl hc
  | d :: r, acc, p, hp, c, hc => by
    by_cases h : d = s
    · subst h
      rw [spl_hit (by rw [preS]; simp)] at hp
      rcases List.mem_cons.mp
            hp with rfl | hp
      · exact .inl hc
      · rcases splS_mem d r [] p hp c hc with h | h
        · exact absurd h (by simp)
        · exact .inr (List.mem_cons_of_mem _ h)
    · rw [spl_miss (by rw [preS, decide_eq_false h])] at hp
      rcases splS_mem s r (acc ++ [d]) p hp c hc with h | h
      · rcases List.mem_append.mp
            h with h | h
        · exact .inl h
        · exact .inr (by rw [List.mem_singleton.mp h]; exact List.mem_cons_self)
      · exact .inr (List.mem_cons_of_mem _ h)
theorem splS_ne (s : Nat) : ∀ (cs acc : List Nat), spl [s] 0 acc cs ≠ []
  | [], acc => by rw [spl_nil]; simp
  | c :: r, acc => by
    by_cases h : c = s
    · subst h; rw [spl_hit (by rw [preS]; simp)]; simp
    · rw [spl_miss (by rw [preS, decide_eq_false h])]; exact splS_ne s r _
/-- the rows of a text -/
def rowsT (z : Str) : List Str := Txt.split z ("\n" : Str)
theorem rowsT_tl (z : Str) : (rowsT z).map tl = spl [10] 0 [] (tl z) := split_spl z ("\n" : Str) (by decide) (kind_ok (by decide +kernel))
theorem rowsT_size {z : Str} : (rowsT z).length ≤ z.length + 1 ∧ (∀ w ∈ rowsT z, w.length ≤ z.length) ∧ rowsT z ≠ [] := by
  obtain ⟨a, b⟩ := splS_size 10 (tl z) []
  have e := rowsT_tl z
  have el := congrArg List.length e
  rw [List.length_map] at el
  refine ⟨by rw [el, len_tl]; exact a, fun w hw => ?_, fun h => ?_⟩
  · have := b (tl w) (by rw [← e]; exact List.mem_map_of_mem hw)
    rw [len_tl w, len_tl z]
    simpa using this
  · rw [h] at e
    exact splS_ne 10 (tl z) [] e.symm
theorem rowsT_ok {z : Str} (h : PyData.strOk z = true) : ∀ w ∈ rowsT z, PyData.strOk w = true := by
  intro w hw
  rw [TW.strOk_iff] at h ⊢
  intro c hc
  have hm : tl w ∈ spl [10] 0 [] (tl z) := by
    rw [← rowsT_tl z]
    exact List.mem_map_of_mem hw
  rcases splS_mem 10 (tl z) [] (tl w) hm c hc with h2 | h2
  · exact absurd h2 (by simp)
  · exact h c h2
/-- a text joined of rows has these rows -/
theorem rowsT_join {rows : List Str} (hn : rows ≠ []) (h : ∀ w ∈ rows, 10 ∉ tl w) : rowsT (Txt.join ("\n" : Str) rows) = rows :=
  split_join (s := 10) (S := []) (by decide) (by decide +kernel) hn h
theorem rowsT_more {z w : Str} (hw : 10 ∉ tl w) : rowsT (z ++ ("\n" : Str) ++ w) = rowsT z ++ [w] := by
  refine map_tl_inj ?_
  rw [rowsT_tl, List.map_append, rowsT_tl, tl_append, tl_append, show tl ("\n" : Str) = [10] from by decide, List.append_assoc]
  show spl [10] 0 [] (tl z ++ 10 :: tl w) = _
  rw [splS_app, spl_last1 hw]
  rfl
theorem join_len (rows : List Str) {k : Nat} (h : ∀ w ∈ rows, w.length ≤ k) : (Txt.join ("\n" : Str) rows).length ≤ rows.length * (k + 1) := by
  have h1 := Z.len_join ("\n" : Str) rows
  have h2 : ∀ rs : List Str, (∀ w ∈ rs, w.length ≤ k) → (rs.map (·.length)).sum ≤ rs.length * k := by
    intro rs
    induction rs with
    | nil => intro _; simp
    | cons a r ih =>
      intro h
      have a1 := h a List.mem_cons_self
      have a2 := ih fun w hw => h w (List.mem_cons_of_mem _ hw)
      simp only [List.map_cons, List.sum_cons,
            List.length_cons, Nat.succ_mul]
      omega
  have h3 := h2 rows h
  have e : ("\n" : Str).length = 1 := by decide
  rw [e, Nat.mul_one] at h1
  rw [Nat.mul_add, Nat.mul_one]
  omega
theorem sum_le {k : Nat} : ∀ {rs : List Str}, (∀ w ∈ rs, w.length ≤ k) → (rs.map (·.length)).sum ≤ rs.length * k
  | [], _ => by simp
  | a :: r, h => by
    have a1 := h a List.mem_cons_self
    have a2 := sum_le (rs := r) fun w hw => h w (List.mem_cons_of_mem _ hw)
    simp only [List.map_cons, List.sum_cons,
          List.length_cons, Nat.succ_mul]
    omega
/-! the first row that is wrong -/
def rowBad (f : Str → Option Str) (g : Str → List Int) (rows : List Str) (i : Nat) : Option Str := match f (rows.getD i "") with
  | some w => some w
  | none => if (g (rows.getD i "")).sum = (g (rows.getD 0 "")).sum then none else some "length"
theorem rowBad_f {f : Str → Option Str} {g : Str → List Int} {rows : List Str} {i : Nat} {w : Str} (h : f (rows.getD i "") = some w) : rowBad f g rows i = some w := by unfold rowBad; rw [h]
theorem rowBad_no {f : Str → Option Str} {g : Str → List Int} {rows : List Str} {i : Nat} (h : f (rows.getD i "") = none) : rowBad f g rows i = if (g (rows.getD i "")).sum = (g (rows.getD 0 "")).sum then none else some ("length" : Str) := by unfold rowBad; rw [h]
theorem rowBad_good {f : Str → Option Str} {g : Str → List Int} {rows : List Str} {i : Nat} (h : rowBad f g rows i = none) : f (rows.getD i "") = none ∧ (g (rows.getD i "")).sum = (g (rows.getD 0 "")).sum := by
  unfold rowBad at h
  cases hf : f (rows.getD i "") with
  | some w => rw [hf] at h; cases h
  | none =>
    rw [hf] at h
    refine ⟨rfl, ?_⟩
    by_cases e : (g (rows.getD i "")).sum = (g (rows.getD 0 "")).sum
    · exact e
    · have h : (if (g (rows.getD i "")).sum = (g (rows.getD 0 "")).sum then none else some ("length" : Str)) = none := h
      rw [if_neg e] at h
      cases h
theorem ok_join {rows : List Str} (h : ∀ w ∈ rows, PyData.strOk w = true) : PyData.strOk (Txt.join ("\n" : Str) rows) = true := by
  rw [TW.strOk_iff]
  intro c hc
  rw [join_eq, tl_join] at hc
  rcases TW.joinL_mem hc with hc | ⟨p, hp, hc⟩
  · rw [show tl ("\n" : Str) = [10] from by decide] at hc
    cases List.mem_singleton.mp hc
    decide
  · obtain ⟨w, hw, rfl⟩ := List.mem_map.mp hp
    exact TW.strOk_iff.mp (h w hw) c hc
end TR
namespace Z
open PySem L2
theorem cut_to {xs : List V} (k : Nat) : cutV xs none (some (k : Int)) = xs.take k := by
  unfold cutV
  rw [HT.sIx_nat]
  show ((xs.drop 0).take (min k xs.length - 0)) = _
  rw [List.drop_zero, Nat.sub_zero]
  by_cases h : k ≤ xs.length
  · rw [Nat.min_eq_left h]
  · rw [Nat.min_eq_right (by omega), List.take_of_length_le
        (Nat.le_refl _), List.take_of_length_le (by omega)]
theorem cut_from {xs : List V} (k : Nat) : cutV xs (some (k : Int)) none = xs.drop k := by
  unfold cutV
  rw [HT.sIx_nat]
  show ((xs.drop (min k xs.length)).take (xs.length - min k xs.length)) = _
  by_cases h : k ≤ xs.length
  · rw [Nat.min_eq_left h, List.take_of_length_le (by rw [List.length_drop]; exact Nat.le_refl _)]
  · rw [Nat.min_eq_right (by omega), List.drop_of_length_le
        (Nat.le_refl _), List.drop_of_length_le (by omega)]
    simp
end Z
namespace Z
open PySem L2
/-- " ".join([str(b) for b in bs]) -/
theorem wRowC {K : PySem.W.Frag} {σ : L2.St} {i : Nat} {H : Hp} {L : List En} {a : V} {bs : List Int} {Q : VK} (hi : i < σ.length) (hs : SeqIs L a (some (bs.map V.int))) (F : Fx H L) (hlen : bs.length ≤ 1000) (hbr : ∀ b ∈ bs, 0 ≤ b ∧ b < 1000)
    (q : ∀ z H', TL.tl z = TW.rowJ bs → z.length ≤ 4 * bs.length → Fx H' L → Q (.str z) H') :
    GoS K a H fun J H1 => ∀ D, H1 D = none → ∃ W : Nat → Nat → Hp → Prop, (∃ m, W 0 m (upd H1 D (.lst []))) ∧ ∀ j m H, W j m H →
      (J.stop j H ∧ rJoin K (.str (" " : Str)) [.ref D] H Q) ∨ (J.go j H ∧ ∃ Nx : Hp → Prop, (∀ H', Nx H' → ∃ m', m' < m ∧ W (j + 1) m' H') ∧ ∀ x H', J.yld j H x H' → gName i x (wipe σ [i]) H' fun σ2 H2 => wipe σ2 [i] = wipe σ [i] ∧ tYes σ2 H2 fun b H3 =>
        if b = true then tCB rStrI (tCons (tVar i) tNil) σ2 H3 fun y H4 => ∃ acc, H4 D = some (.lst acc) ∧ acc.length < sizeLine ∧ Nx (upd H4 D (.lst (acc ++ [y]))) else Nx H3) := by
  have lb := line_big
  refine wLcS hs F (fun i acc L' => L' = L ∧ ∃ ys : List Str, acc = ys.map V.str ∧ ys.map TL.tl = TW.rowW (bs.take i) ∧ (ys.map (·.length)).sum ≤ 3 * i) ⟨rfl, [], rfl, rfl, Nat.le_refl _⟩ (fun _ _ _ r => by rw [r.1]; exact fun _ h => h) ?_ ?_
  · rintro j x D H1 acc L' hx ⟨rfl, ys, rfl, hy, hl⟩ F1
    obtain ⟨b, hb', rfl⟩ : ∃ b, bs[j]? = some b ∧ V.int b = x := by
      rw [List.getElem?_map] at hx
      cases hh : bs[j]? with
      | none => rw [hh] at hx; cases hx
      | some w => rw [hh] at hx; exact ⟨w, rfl, by injection hx⟩
    have hb2 := hbr b (List.mem_of_getElem? hb')
    show _ ∧ _
    refine ⟨?_, ?_⟩
    · show ((σ.set i none).set i (some (V.int b))).set i none = σ.set i none
      rw [List.set_set, List.set_set]
    show ∃ v, ((σ.set i none).set i (some (V.int b)))[i]? = some (some v) ∧ _
    refine ⟨V.int b, by rw [List.set_set, List.getElem?_set_self hi], ?_⟩
    refine wStrI (TW.log_small (by omega)) ?_
    have hi : j < bs.length := (List.getElem?_eq_some_iff.mp hb').1
    have hyl := TW.row_len hy
    refine lcPut F1 (by rw [List.length_map]; omega) ⟨rfl, ys ++ [Str.ofString (toString b)], by rw [List.map_append]; rfl, TW.row_snoc hy hb' hb2.1, ?_⟩
    rw [List.map_append, List.sum_append]
    have := TW.len_str hb2.1 hb2.2
    show _ + ((Str.ofString (toString b)).length + 0) ≤ _
    omega
  rintro D acc L' H2 F2 ⟨rfl, ys, rfl, hy, hl⟩
  rw [List.length_map] at hl hy
  rw [List.take_length] at hy
  have hyl : ys.length = bs.length := by
    have := TW.row_len (i := bs.length) (by rw [List.take_length]; exact hy)
    omega
  have e1c : (" " : Str).length = 1 := by decide
  have lrow := len_join (" " : Str) ys
  refine wJoin (F2.lst List.mem_cons_self) (by rw [e1c]; omega) ?_
  refine q _ _ ?_ (by rw [e1c] at lrow; omega) (F2.sub (List.sublist_cons_self _ _))
  rw [TL.join_eq, TL.tl_join, hy]
  rfl
end Z

set_option Elab.async false
set_option linter.all false
set_option maxRecDepth 100000
set_option maxHeartbeats 2000500
/-! ### the picture of a course -/
namespace TP
open PySem TL TX Z
def body : List Int → List Nat
  | [] => []
  | c :: r => List.replicate (2 * c.toNat - 1) 95 ++ 124 :: body r
def picL (cs : List Int) : List Nat := 124 :: body cs
/-- every second sign of a picture, behind the first -/
def marks : List Int → List Nat
  | [] => []
  | c :: r => List.replicate (c.toNat - 1) 95 ++ 124 :: marks r
def tot (cs : List Int) : Nat := (cs.map Int.toNat).sum
theorem tot_cons (c : Int) (r : List Int) : tot (c :: r) = c.toNat + tot r := rfl
theorem tot_sum : ∀ {cs : List Int}, (∀ c ∈ cs, 1 ≤ c) → (tot cs : Int) = cs.sum
  | [], _ => rfl
  | c :: r, h => by
    have a := h c List.mem_cons_self
    have b := tot_sum (cs := r) fun d hd => h d (List.mem_cons_of_mem _ hd)
    rw [tot_cons, List.sum_cons]
    omega
theorem split1 {c : Int} (h : 1 ≤ c) : ∃ k : Nat, c.toNat = k + 1 := ⟨c.toNat - 1, by omega⟩
theorem body_len : ∀ {cs : List Int}, (∀ c ∈ cs, 1 ≤ c) → (body cs).length = 2 * tot cs
  | [], _ => rfl
  | c :: r, h => by
    have a := h c List.mem_cons_self
    have b := body_len (cs := r) fun d hd => h d (List.mem_cons_of_mem _ hd)
    rw [tot_cons]
    show (List.replicate _ _ ++ 124 :: body r).length = _
    rw [List.length_append, List.length_replicate, List.length_cons, b]
    omega
theorem marks_len : ∀ {cs : List Int}, (∀ c ∈ cs, 1 ≤ c) → (marks cs).length = tot cs
  | [], _ => rfl
  | c :: r, h => by
    have a := h c List.mem_cons_self
    have b := marks_len (cs := r) fun d hd => h d (List.mem_cons_of_mem _ hd)
    rw [tot_cons]
    show (List.replicate _ _ ++ 124 :: marks r).length = _
    rw [List.length_append, List.length_replicate, List.length_cons, b]
    omega
theorem step2_rep (a : Nat) (l : List Nat) : ∀ k : Nat, step2 (List.replicate (2 * k) a ++ l) = List.replicate k a ++ step2 l
  | 0 => rfl
  | k + 1 => by
    rw [show 2 * (k + 1) = 2 * k + 1 + 1 from by omega, List.replicate_succ, List.replicate_succ, List.replicate_succ]
    show a :: step2 (List.replicate (2 * k) a ++ l) = _
    rw [step2_rep a l k]
    rfl
theorem rep_odd (k : Nat) : List.replicate (2 * (k + 1) - 1) 95 = (95 :: List.replicate (2 * k) 95 : List Nat) := by
  rw [show 2 * (k + 1) - 1 = 2 * k + 1 from by omega, List.replicate_succ]
theorem even_body : ∀ {cs : List Int}, (∀ c ∈ cs, 1 ≤ c) → step2 (124 :: body cs) = 124 :: marks cs
  | [], _ => rfl
  | c :: r, h => by
    obtain ⟨k, e⟩ := split1 (h c List.mem_cons_self)
    have b := even_body (cs := r) fun d hd => h d (List.mem_cons_of_mem _ hd)
    show step2 (124 :: (List.replicate (2 * c.toNat - 1) 95 ++ 124 :: body r)) = 124 :: (List.replicate (c.toNat - 1) 95 ++ 124 :: marks r)
    rw [e, rep_odd]
    show 124 :: step2 (List.replicate (2 * k) 95 ++ 124 :: body r) = _
    rw [step2_rep, b]
    rfl
theorem odd_body : ∀ {cs : List Int}, (∀ c ∈ cs, 1 ≤ c) → step2 (body cs) = List.replicate (tot cs) 95
  | [], _ => rfl
  | c :: r, h => by
    obtain ⟨k, e⟩ := split1 (h c List.mem_cons_self)
    have b := odd_body (cs := r) fun d hd => h d (List.mem_cons_of_mem _ hd)
    show step2 (List.replicate (2 * c.toNat - 1) 95 ++ 124 :: body r) = _
    rw [tot_cons, e, show 2 * (k + 1) - 1 = 2 * k + 1 from by omega, List.replicate_succ', List.append_assoc, step2_rep]
    show List.replicate k 95 ++ (95 :: step2 (body r)) = _
    rw [b, show k + 1 + tot r = k + (tot r + 1) from by omega, List.replicate_append_replicate.symm, List.replicate_succ]
theorem pic_len {cs : List Int} (h : ∀ c ∈ cs, 1 ≤ c) : (picL cs).length = 2 * tot cs + 1 := by
  show (body cs).length + 1 = _
  rw [body_len h]
/-- the places of the joints' sign -/
def pos (k : Int) : List Nat → List Int
  | [] => []
  | c :: r => if c = 124 then k :: pos (k + 1) r else pos (k + 1) r
theorem pos_rep (l : List Nat) : ∀ (m : Nat) (k : Int), pos k (List.replicate m 95 ++ l) = pos (k + m) l
  | 0, k => by
    show pos k l = pos (k + 0) l
    rw [Int.add_zero]
  | m + 1, k => by
    rw [List.replicate_succ]
    show (if (95 : Nat) = 124 then _ else pos (k + 1) (List.replicate m 95 ++ l)) = _
    rw [if_neg (by decide), pos_rep l m (k + 1)]
    congr 1
    omega
theorem pos_app : ∀ (a b : List Nat) (k : Int), pos k (a ++ b) = pos k a ++ pos (k + a.length) b
  | [], b, k => by
    show pos k b = pos (k + 0) b
    rw [Int.add_zero]
  | c :: r, b, k => by
    have e : k + 1 + (r.length : Int) = k + ((r.length + 1 : Nat) : Int) := by omega
    show (if c = 124 then k :: pos (k + 1) (r ++ b) else pos (k + 1) (r ++ b)) = (if c = 124 then k :: pos (k + 1) r else pos (k + 1) r) ++ pos (k + ((r.length + 1 : Nat) : Int)) b
    rw [pos_app r b (k + 1), e]
    by_cases h : c = 124
    · rw [if_pos h, if_pos h]; rfl
    · rw [if_neg h, if_neg h]
/-- the running sums -/
def cum : Int → List Int → List Int
  | _, [] => []
  | s, c :: r => (s + c) :: cum (s + c) r
theorem pos_marks : ∀ {cs : List Int} (s : Int), (∀ c ∈ cs, 1 ≤ c) → pos (s + 1) (marks cs) = cum s cs
  | [], _, _ => rfl
  | c :: r, s, h => by
    have a := h c List.mem_cons_self
    obtain ⟨k, e⟩ := split1 a
    have b := pos_marks (cs := r) (s + c) fun d hd => h d (List.mem_cons_of_mem _ hd)
    show pos (s + 1) (List.replicate (c.toNat - 1) 95 ++ 124 :: marks r) = (s + c) :: cum (s + c) r
    rw [pos_rep]
    show (if (124 : Nat) = 124 then _ :: pos (s + 1 + ((c.toNat - 1 : Nat) : Int) + 1) (marks r) else _) = _
    rw [if_pos rfl, show s + 1 + ((c.toNat - 1 : Nat) : Int) = s + c from by omega, b]
theorem pos_even {cs : List Int} (h : ∀ c ∈ cs, 1 ≤ c) : pos 0 (124 :: marks cs) = 0 :: cum 0 cs := by
  show (if (124 : Nat) = 124 then 0 :: pos (0 + 1) (marks cs) else _) = _
  rw [if_pos rfl, pos_marks 0 h]
theorem pos_mem : ∀ {l : List Nat} {k : Int} {p : Nat}, p < l.length → (k + (p : Int) ∈ pos k l ↔ l[p]? = some 124)
  | [], _, _, h => absurd
        h (Nat.not_lt_zero _)
  | c :: r, k, p, h => by
    have low : ∀ (l : List Nat) (k : Int), ∀ y ∈ pos k l, k ≤ y := by
      intro l
      induction l with
      | nil => intro k y hy; cases hy
      | cons d l ih =>
        intro k y hy
        have hy : y ∈ (if d = 124 then k :: pos (k + 1) l else pos (k + 1) l) := hy
        by_cases hd : d = 124
        · rw [if_pos hd] at hy
          rcases List.mem_cons.mp
                hy with h | h
          · omega
          · have := ih (k + 1) y h; omega
        · rw [if_neg hd] at hy
          have := ih (k + 1) y hy; omega
    cases p with
    | zero =>
      show (k + 0 ∈ (if c = 124 then k :: pos (k + 1) r else pos (k + 1) r)) ↔ some c = some 124
      rw [Int.add_zero]
      by_cases hc : c = 124
      · rw [if_pos hc]; exact ⟨fun _ => by rw [hc], fun _ => List.mem_cons_self⟩
      · rw [if_neg hc]
        exact ⟨fun h => by have := low r (k + 1) k h; omega, fun h => absurd (by injection h) hc⟩
    | succ p =>
      have ih := pos_mem (l := r) (k := k + 1) (p := p) (by simpa using h)
      rw [show k + 1 + (p : Int) = k + ((p + 1 : Nat) : Int) from by omega] at ih
      rw [List.getElem?_cons_succ, ← ih]
      show (_ ∈ (if c = 124 then k :: pos (k + 1) r else pos (k + 1) r)) ↔ _
      by_cases hc : c = 124
      · rw [if_pos hc, List.mem_cons]
        exact ⟨fun h => h.resolve_left (by omega), .inr⟩
      · rw [if_neg hc]
theorem marks_in : ∀ {cs : List Int}, ∀ c ∈ marks cs, c = 124 ∨ c = 95
  | [], c, h => by cases h
  | d :: r, c, h => by
    have h : c ∈ List.replicate (d.toNat - 1) 95 ++ 124 :: marks r := h
    rcases List.mem_append.mp
          h with h | h
    · exact .inr (List.eq_of_mem_replicate h)
    · rcases List.mem_cons.mp h with h | h
      · exact .inl h
      · exact marks_in (cs := r) c h
theorem body_in : ∀ {cs : List Int}, ∀ c ∈ body cs, c = 124 ∨ c = 95
  | [], c, h => by cases h
  | d :: r, c, h => by
    have h : c ∈ List.replicate (2 * d.toNat - 1) 95 ++ 124 :: body r := h
    rcases List.mem_append.mp
          h with h | h
    · exact .inr (List.eq_of_mem_replicate h)
    · rcases List.mem_cons.mp h with h | h
      · exact .inl h
      · exact body_in (cs := r) c h
theorem marks_last : ∀ {cs : List Int}, (124 :: marks cs).getLast? = some 124
  | [] => rfl
  | d :: r => by
    have e : (124 :: (List.replicate (d.toNat - 1) 95 ++ 124 :: marks r)).getLast? = some 124 := by
      rw [← List.cons_append, List.getLast?_append, marks_last (cs := r)]
      rfl
    exact e
/-- the signs of a picture, with the other ones between -/
theorem join_marks : ∀ {cs : List Int}, (∀ c ∈ cs, 1 ≤ c) → joinL [95] ((124 :: marks cs).map fun c => [c]) = picL cs
  | [], _ => rfl
  | c :: r, h => by
    obtain ⟨k, e⟩ := split1 (h c List.mem_cons_self)
    have b := join_marks (cs := r) fun d hd => h d (List.mem_cons_of_mem _ hd)
    have st : ∀ (a d : Nat) (l : List Nat), joinL [95] ((a :: d :: l).map fun c => [c]) = a :: 95 :: joinL [95] ((d :: l).map fun c => [c]) := fun _ _ _ => rfl
    have rp : ∀ (m : Nat) (a : Nat) (l : List Nat), joinL [95] ((a :: (List.replicate m 95 ++ 124 :: l)).map fun c => [c]) = a :: 95 :: (List.replicate (2 * m) 95 ++ joinL [95] ((124 :: l).map fun c => [c])) := by
      intro m
      induction m with
      | zero => intro a l; exact st a 124 l
      | succ m ih =>
        intro a l
        rw [List.replicate_succ, List.cons_append, st, ih, show 2 * (m + 1) = 2 * m + 1 + 1 from by omega, List.replicate_succ, List.replicate_succ]
        rfl
    show joinL [95] ((124 :: (List.replicate (c.toNat - 1) 95 ++ 124 :: marks r)).map fun c => [c]) = 124 :: (List.replicate (2 * c.toNat - 1) 95 ++ 124 :: body r)
    rw [e, rp, b, rep_odd]
    rfl
theorem body_app : ∀ (a b : List Int), body (a ++ b) = body a ++ body b
  | [], b => rfl
  | c :: r, b => by
    show List.replicate _ _ ++ 124 :: body (r ++ b) = (List.replicate _ _ ++ 124 :: body r) ++ body b
    rw [body_app r b, List.append_assoc]
    rfl
theorem marks_get {cs : List Int} (h : ∀ c ∈ cs, 1 ≤ c) {p : Nat} (hp : p ≤ tot cs) : (124 :: marks cs)[p]? = some (if (p : Int) ∈ (0 : Int) :: cum 0 cs then 124 else 95) := by
  have hl : p < (124 :: marks cs).length := by rw [List.length_cons, marks_len h]; omega
  have e := pos_mem (k := 0) hl
  rw [Int.zero_add, pos_even h] at e
  rw [List.getElem?_eq_getElem hl] at e ⊢
  by_cases c : (p : Int) ∈ (0 : Int) :: cum 0 cs
  · rw [if_pos c]; exact e.mp c
  · rw [if_neg c]
    have m : (124 :: marks cs)[p] ∈ 124 :: marks cs := List.getElem_mem hl
    have n : ¬ (124 :: marks cs)[p] = 124 := fun x => c (e.mpr (by rw [x]))
    rcases List.mem_cons.mp m with m | m
    · exact absurd m n
    · rcases marks_in _ m with m | m
      · exact absurd m n
      · rw [m]
/-! setting the signs one by one -/
theorem set_app {α : Type} (a b : List α) (x : α) (k : Nat) (h : a.length = k) : (a ++ b).set k x = a ++ b.set 0 x := by
  rw [List.set_append, if_neg (by omega), h, Nat.sub_self]
theorem set_cum : ∀ {cs : List Int} (A : List Nat) (s : Nat), (∀ c ∈ cs, 1 ≤ c) → A.length = 2 * s + 1 →
    (cum s cs).foldl (fun l p => l.set (2 * p.toNat) 124) (A ++ List.replicate (2 * tot cs) 95) = A ++ body cs
  | [], A, s, _, _ => rfl
  | c :: r, A, s, h, hA => by
    have a := h c List.mem_cons_self
    have e0 : (s : Int) + c = ((s + c.toNat : Nat) : Int) := by omega
    have e1 : List.replicate (2 * tot (c :: r)) 95 = List.replicate (2 * c.toNat - 1) 95 ++ 95 :: List.replicate (2 * tot r) (95 : Nat) := by
      rw [tot_cons, show 2 * (c.toNat + tot r) = (2 * c.toNat - 1) + (2 * tot r + 1) from by omega, ← List.replicate_append_replicate, List.replicate_succ]
    have hb : (A ++ List.replicate (2 * c.toNat - 1) 95).length = 2 * (s + c.toNat) := by rw [List.length_append, List.length_replicate]; omega
    have ih := set_cum (cs := r) (A ++ List.replicate (2 * c.toNat - 1) 95 ++ [124]) (s + c.toNat) (fun d hd => h d (List.mem_cons_of_mem _ hd)) (by rw [List.length_append, hb]; rfl)
    show (cum ((s : Int) + c) r).foldl _ ((A ++ List.replicate (2 * tot (c :: r)) 95).set (2 * ((s : Int) + c).toNat) 124) = _
    rw [e0, e1, ← List.append_assoc, Int.toNat_natCast, set_app _ _ _ _ hb]
    rw [List.append_assoc] at ih
    rw [List.append_assoc] at ih
    show (cum ((s + c.toNat : Nat) : Int) r).foldl _ ((A ++ List.replicate (2 * c.toNat - 1) 95) ++ 124 :: List.replicate (2 * tot r) 95) = A ++ (List.replicate (2 * c.toNat - 1) 95 ++ 124 :: body r)
    rw [List.append_assoc] at ih ⊢
    rw [List.append_assoc] at ih
    exact ih
theorem set_pic {cs : List Int} (h : ∀ c ∈ cs, 1 ≤ c) : ((0 : Int) :: cum 0 cs).foldl (fun l p => l.set (2 * p.toNat) 124) (List.replicate (2 * tot cs + 1) 95) = picL cs :=
  set_cum [124] 0 h rfl
/-! is it a picture? -/
def isPic (l : List Nat) : Bool := decide (l.length % 2 = 1 ∧ 3 ≤ l.length ∧ l.length ≤ 801) && ((step2 (l.drop 1)).all (· == 95) && ((step2 l).all (fun c => c == 124 || c == 95) && (decide ((step2 l).head? = some 124) && decide ((step2 l).getLast? = some 124))))
theorem isPic_yes {cs : List Int} (h : ∀ c ∈ cs, 1 ≤ c) (h1 : 1 ≤ tot cs) (h4 : tot cs ≤ 400) : isPic (picL cs) = true := by
  have e1 := even_body h
  have e2 := odd_body h
  unfold isPic
  rw [pic_len h]
  simp only [Bool.and_eq_true,
        decide_eq_true_eq]
  refine ⟨by omega, ?_, ?_, ?_, ?_⟩
  · rw [List.all_eq_true]
    intro c hc
    have hc : c ∈ step2 (body cs) := hc
    rw [e2] at hc
    rw [List.eq_of_mem_replicate hc]; rfl
  · rw [List.all_eq_true]
    intro c hc
    have hc : c ∈ step2 (124 :: body cs) := hc
    rw [e1] at hc
    rcases List.mem_cons.mp hc with h | h
    · rw [h]; rfl
    · rcases marks_in c h with h | h <;> (rw [h]; rfl)
  · show (step2 (124 :: body cs)).head? = _
    rw [e1]; rfl
  · show (step2 (124 :: body cs)).getLast? = _
    rw [e1, marks_last]
theorem isPic_len {l : List Nat} (h : ¬ (l.length % 2 = 1 ∧ 3 ≤ l.length ∧ l.length ≤ 801)) : isPic l = false := by
  unfold isPic
  rw [decide_eq_false h]
  rfl
theorem step2_get : ∀ {l : List Nat} {k : Nat}, (step2 l)[k]? = l[2 * k]?
  | [], _ => by simp [step2]
  | [x], k => by
    cases k with
    | zero => rfl
    | succ k =>
      show ([x] : List Nat)[k + 1]? = ([x] : List Nat)[2 * k + 1 + 1]?
      simp
  | x :: y :: r, k => by
    cases k with
    | zero => rfl
    | succ k =>
      show (step2 r)[k]? = r[2 * k]?
      exact step2_get
/-- a wrong sign at an odd place -/
theorem isPic_odd {l : List Nat} {p c : Nat} (h : l[2 * p + 1]? = some c) (hc : c ≠ 95) : isPic l = false := by
  have e : (step2 (l.drop 1))[p]? = some c := by rw [step2_get, List.getElem?_drop, Nat.add_comm]; exact h
  have m := List.mem_of_getElem? e
  have : (step2 (l.drop 1)).all (· == 95) = false := by
    rw [List.all_eq_false]
    exact ⟨c, m, by simpa using hc⟩
  unfold isPic
  rw [this, Bool.false_and, Bool.and_false]
/-- a wrong sign at an even place -/
theorem isPic_even {l : List Nat} {p c : Nat} (h : l[2 * p]? = some c) (hc : c ≠ 95) (hd : c ≠ 124) : isPic l = false := by
  have e : (step2 l)[p]? = some c := by rw [step2_get]; exact h
  have m := List.mem_of_getElem? e
  have : (step2 l).all (fun c => c == 124 || c == 95) = false := by
    rw [List.all_eq_false]
    exact ⟨c, m, by simp [hc, hd]⟩
  unfold isPic
  rw [this, Bool.false_and, Bool.and_false, Bool.and_false]
end TP
namespace Z
open PySem L2
theorem wInLi {K : PySem.W.Frag} {H : Hp} {Q : VK} {a : Addr} {ns : List Int} {z : Int} (s : SqL K H a (ns.map V.int)) (h : Q (.bl (decide (z ∈ ns))) H) : rIn K false (.int z) (.ref a) H Q :=
  ⟨a, _, rfl, .inl s, rfl, flat_ints ns, by rw [← inV_ints] at h; exact h⟩
end Z
namespace TP
open Z
theorem step2_length {α : Type} : ∀ l : List α, (step2 l).length = (l.length + 1) / 2
  | x :: y :: r => by
    have := step2_length r
    simp only [step2, List.length_cons]
    omega
  | [x] => by simp [step2]
  | [] => by simp [step2]
end TP
namespace TP
theorem pos_len : ∀ (l : List Nat) (k : Int), (pos k l).length ≤ l.length
  | [], _ => Nat.le_refl _
  | c :: r, k => by
    have := pos_len r (k + 1)
    show (if c = 124 then k :: pos (k + 1) r else pos (k + 1) r).length ≤ r.length + 1
    by_cases h : c = 124
    · rw [if_pos h, List.length_cons]; omega
    · rw [if_neg h]; omega
theorem pos_take {l : List Nat} {i c : Nat} (h : l[i]? = some c) : pos 0 (l.take (i + 1)) = pos 0 (l.take i) ++ if c = 124 then [(i : Int)] else [] := by
  have hi := (List.getElem?_eq_some_iff.mp h).1
  rw [List.take_add_one, h, pos_app, List.length_take, Nat.min_eq_left (by omega), Int.zero_add]
  rfl
end TP

set_option Elab.async false
set_option linter.all false
set_option maxRecDepth 100000
set_option maxHeartbeats 2000500
/-! ### slices of texts -/
namespace Z
open PySem L2
theorem wSlStr {z : Str} {lo hi : Option Int} {H : Hp} {Q : VK} (hz : z.length ≤ sizeLine) (h : Q (.str (cutS z lo hi)) H) : rSlS (.str z) lo hi H Q := ⟨z, rfl, hz, h⟩
theorem tl_cutS (z : Str) (lo hi : Option Int) : TL.tl (cutS z lo hi) = ((TL.tl z).drop (HT.sIx z.length 0 lo)).take (HT.sIx z.length z.length hi - HT.sIx z.length 0 lo) := rfl
theorem tl_from (z : Str) (k : Nat) : TL.tl (cutS z (some (k : Int)) none) = (TL.tl z).drop k := by
  rw [tl_cutS, HT.sIx_nat]
  have e : (TL.tl z).length = z.length := (TL.len_tl z).symm
  show List.take (z.length - min k z.length) (List.drop (min k z.length) (TL.tl z)) = _
  by_cases h : k ≤ z.length
  · rw [Nat.min_eq_left h, List.take_of_length_le (by rw [List.length_drop]; omega)]
  · rw [Nat.min_eq_right (by omega), List.drop_of_length_le (by omega), List.drop_of_length_le (by omega)]
    simp
theorem tl_to (z : Str) (k : Nat) : TL.tl (cutS z none (some (k : Int))) = (TL.tl z).take k := by
  rw [tl_cutS, HT.sIx_nat]
  have e : (TL.tl z).length = z.length := (TL.len_tl z).symm
  show List.take (min k z.length - 0) (List.drop 0 (TL.tl z)) = _
  rw [List.drop_zero, Nat.sub_zero]
  by_cases h : k ≤ z.length
  · rw [Nat.min_eq_left h]
  · rw [Nat.min_eq_right (by omega), List.take_of_length_le (by omega), List.take_of_length_le (by omega)]
theorem tl_mid (z : Str) (j k : Nat) (h : k ≤ z.length) (hj : j ≤ k) : TL.tl (cutS z (some (j : Int)) (some (k : Int))) = ((TL.tl z).drop j).take (k - j) := by
  rw [tl_cutS, HT.sIx_nat, HT.sIx_nat, Nat.min_eq_left h, Nat.min_eq_left (by omega)]
theorem ok_sub {z : Str} {w : Str} (h : PyData.strOk z = true) (hs : ∀ c ∈ TL.tl w, c ∈ TL.tl z) : PyData.strOk w = true := by
  rw [TW.strOk_iff] at h ⊢
  exact fun c hc => h c (hs c hc)
end Z
namespace TP
open TL TX Z
theorem isPic_len2 {l : List Nat} (h : l.length % 2 = 0 ∨ l.length < 3 ∨ 801 < l.length) : isPic l = false := isPic_len (by omega)
theorem pic_in {cs : List Int} : ∀ c ∈ picL cs, c = 124 ∨ c = 95 := by
  intro c hc
  rcases List.mem_cons.mp hc with h | h
  · exact .inl h
  · exact body_in c h
/-- what is at an odd place of a picture -/
theorem pic_odd {cs : List Int} (h : ∀ c ∈ cs, 1 ≤ c) {p : Nat} (hp : p < tot cs) : (picL cs)[2 * p + 1]? = some 95 := by
  have e : (step2 (body cs))[p]? = some 95 := by
    rw [odd_body h, List.getElem?_replicate, if_pos hp]
  rw [step2_get] at e
  show (124 :: body cs)[2 * p + 1]? = _
  rw [List.getElem?_cons_succ]
  exact e
/-- seven rows that are no pictures -/
theorem bad_more {l : List Nat} {cs : List Int} (e : l = picL cs) (h : ∀ c ∈ cs, 1 ≤ c) : isPic (l ++ [95]) = false := isPic_len2 (.inl (by rw [List.length_append, e, pic_len h]; show (_ + 1 + 1) % 2 = 0; omega))
theorem bad_less {l : List Nat} {cs : List Int} (e : l = picL cs) (h : ∀ c ∈ cs, 1 ≤ c) : isPic (l.drop 1) = false := isPic_len2 (.inl (by rw [List.length_drop, e, pic_len h]; omega))
theorem bad_lead {l : List Nat} {cs : List Int} (e : l = picL cs) (h : ∀ c ∈ cs, 1 ≤ c) : isPic (32 :: l) = false := isPic_len2 (.inl (by rw [List.length_cons, e, pic_len h]; omega))
theorem bad_end {l : List Nat} {cs : List Int} (e : l = picL cs) (h : ∀ c ∈ cs, 1 ≤ c) : isPic (l ++ [95, 32, 95, 124]) = false := by
  have hl : l.length = 2 * tot cs + 1 := by rw [e, pic_len h]
  refine isPic_even (p := tot cs + 1) (c := 32) ?_ (by decide) (by decide)
  rw [List.getElem?_append_right (by omega), hl, show 2 * (tot cs + 1) - (2 * tot cs + 1) = 1 from by omega]
  rfl
theorem bad_sign {l : List Nat} {n c : Nat} (hn : n < l.length) (hc : c = 120 ∨ (c = 124 ∧ n % 2 = 1)) : isPic (l.take n ++ [c] ++ l.drop (n + 1)) = false := by
  have g : (l.take n ++ [c] ++ l.drop (n + 1))[n]? = some c := by
    rw [List.append_assoc, List.getElem?_append_right (by rw [List.length_take]; omega), List.length_take, Nat.min_eq_left (by omega), Nat.sub_self]
    rfl
  by_cases h : n % 2 = 1
  · obtain ⟨p, rfl⟩ : ∃ p, n = 2 * p + 1 := ⟨n / 2, by omega⟩
    exact isPic_odd g (by omega)
  · obtain ⟨p, rfl⟩ : ∃ p, n = 2 * p := ⟨n / 2, by omega⟩
    rcases hc with hc | hc
    · exact isPic_even g (by omega) (by omega)
    · omega
/-- a row twice, without the second border -/
theorem pic_twice {l : List Nat} {cs : List Int} (e : l = picL cs) : l ++ l.drop 1 = picL (cs ++ cs) := by
  rw [e]
  show 124 :: (body cs ++ body cs) = 124 :: body (cs ++ cs)
  rw [body_app]
theorem body_rep (c : Int) : ∀ n : Nat, body (List.replicate n c) = (List.replicate n (List.replicate (2 * c.toNat - 1) 95 ++ [124])).flatten
  | 0 => rfl
  | n + 1 => by
    rw [List.replicate_succ, List.replicate_succ, List.flatten_cons, ← body_rep c n, List.append_assoc]
    rfl
theorem tot_rep (c : Int) (n : Nat) : tot (List.replicate n c) = n * c.toNat := by
  induction n with
  | zero => simp [tot]
  | succ n ih => rw [List.replicate_succ, tot_cons, ih, Nat.succ_mul]; omega
end TP

set_option Elab.async false
set_option linter.all false
set_option maxRecDepth 100000
set_option maxHeartbeats 2000500
/-! ### != of tuples of own instances; pop; dicts written and read by whole numbers -/
namespace Z
open PySem PySem.SeqAt PySem.Spec PyProof.Rows L2
open AutoSeq1
      (wpAny_loadPart')
open MeetsSeq MeetsSeq2
      MeetsSeq3 SeqRoads2
section
variable {prog : Program} {w : World} {A : Around} {R : Result → Shared → Prop} {E : Value → Shared → Prop} {s : Shared}
theorem tuple_neG (l b : Addr) (items items2 : Array Value) (n n2 : Nat) (dd dd2 : Option Addr) (sl sl2 : Array (Option Value)) (hsz : items.size = items2.size) (I : Nat → Shared → Prop)
    (turn : ∀ i (h1 : i < items.size) (h2 : i < items2.size) s, I i s → wpAny (model prog w) A.in1
          (eqBool items[i] items2[i]) (fun r s' => r = true ∧ I (i + 1) s') (fun e s' => R (.error e) s') s)
    (fin : ∀ s, I items.size s → R (.ok (.ret (.bool false))) s) {s : Shared} (hl1 : s.heap.get? l = some { cls := .type "tuple", dict := dd, data := .seq items n, slots := sl }) (hb1 : s.heap.get? b = some { cls := .type "tuple", dict := dd2, data := .seq items2 n2, slots := sl2 }) (h : I 0 s) :
    wpAny (model prog w) A.in1 (Builtin.«tuple.__ne__» ⟨[.ref l, .ref b], []⟩) (GQ.FinOf prog w A R) (fun e s' => R (.error e) s') s := by
  have f2 :=
        AutoSeq1.sub_tuple_tuple
  have hZ : (items.toList.zip items2.toList).length
        = items.size := by simp [hsz]
  have h0 := h
  obtain ⟨hp, g,
        d, tk, os⟩ := s
  wp_walk using wpAny_loadPart' hl1, wpAny_loadPart' hb1, wpAny_forIn_list _ (fun rest b s' =>
        b.1 = none ∧ ∃ i, rest = (items.toList.zip items2.toList).drop i ∧ i ≤ items.size ∧ I i s') _
  case turn =>
    rintro ⟨y, x⟩ rest b s'
          ⟨hb', i, hz, hi, hI⟩
    have hlt : i < (items.toList.zip
          items2.toList).length := by
      rcases Nat.lt_or_ge i (items.toList.zip
            items2.toList).length with h' | h'
      · exact h'
      · rw [List.drop_of_length_le
            h'] at hz; cases hz
    have h1 : i <
          items.size := hZ ▸ hlt
    have h2 : i <
          items2.size := hsz ▸ h1
    rw [List.drop_eq_getElem_cons
          hlt] at hz
    injection hz with hyx hrest
    have hy : y = items[i] := by
          have := congrArg Prod.fst hyx; simpa using this
    have hx : x = items2[i] := by
          have := congrArg Prod.snd hyx; simpa using this
    subst hy hx
    refine wpAny_bind (wpAny_mono (turn i h1 h2
          s' hI) (fun r s2 q2 => ?_) fun _ _ x => x)
    obtain ⟨hr, q2⟩ := q2
    subst hr
    wp_walk
    exact ⟨rfl, i +
          1, hrest, h1, q2⟩
  case fin =>
    rintro ⟨b1, b2⟩ s'
          ⟨hb', i, hz, hi, hI⟩
    simp only at hb'
    subst hb'
    have hge :
          items.size ≤ i := by
      rcases Nat.lt_or_ge i (items.toList.zip
            items2.toList).length with h' | h'
      · rw [List.drop_eq_getElem_cons
            h'] at hz; cases hz
      · exact hZ ▸ h'
    have hi' : i =
          items.size := by omega
    have hR : R (.ok (.ret (.bool false))) s' := fin s' (hi' ▸ hI)
    wp_walk
    simpa [Builtin.Tuple.tupleCompareSizes,
          hsz] using hR
  case h =>
    exact ⟨rfl, 0, rfl,
          Nat.zero_le _, h0⟩
theorem rc_tupNeG {l b : Addr} {items items2 : Array Value} {Q : Value → Shared → Prop} (hsz : items.size = items2.size) (hu : A.units < cLine) (I : Nat → Shared → Prop)
    (hl : s.heap.IsTuple l items)
          (hb : s.heap.IsTuple b items2)
    (turn : ∀ i (h1 : i < items.size) (h2 : i < items2.size) s, I i s → wpAny (model
          prog w) A.in1 (eqBool items[i] items2[i]) (fun r s' => r = true ∧ I (i + 1) s') E s)
    (fin : ∀ s, I items.size s → Q (.bool false) s) (h : I 0 s) : wpAny (model prog w) A (richCompare .NotEq (.ref l) (.ref b)) Q E s := by
  obtain ⟨⟨cls, dd, data, sl⟩,
        ho, hc, n, hd⟩ := id hl
  obtain ⟨⟨cls2, dd2, data2, sl2⟩,
        ho2, hc2, n2, hd2⟩ := id hb
  simp only at hc hd hc2 hd2
  subst hc hd hc2 hd2
  refine wpAny_richCompare_same_room (op := .NotEq) ⟨_, ho, rfl⟩ ⟨_, ho2, rfl⟩ F.slot_tuple_ne (GQ.call_here F.slot_tuple_ne ⟨_, ho, rfl⟩ F.entry_tuple_ne (F.args_tuple_ne_2 _ _) ?_) hu
  exact tuple_neG (R := wants (fun v s' => v ≠ .notImplemented ∧ Q v s') E) l b items items2 n n2 dd dd2 sl sl2 hsz I turn (fun s' q => ⟨(fun x => nomatch x), fin s' q⟩) ho ho2 h
end
section
variable {X : Cx} {n k : Nat} {D : Eqv}
def rNeG (D : Eqv) : R2 := fun x y H Q => D x y H ∧ ∀ H', Ext H H' → Q (.bl false) H'
theorem op_neTupG (hD : Mon D) (h : EqG X n D) (hr : Room (n + 1) X.A) : OpR X (compareOp .NotEq) (rNeG (DTup X.K D)) := by
  intro pins s σ H x
        y v u Q I rx ry hq
  obtain ⟨d, q⟩ := hq
  show wpAny (model X.prog X.w) X.A (richCompare .NotEq v u) (EP X pins σ Q) X.xe s
  have sb : Sub X (n + 1) X.A := ⟨hr, rfl⟩
  obtain ⟨a, b, xs, ys,
        rfl, rfl, ha, hb, p⟩ := d
  cases rx
  cases ry
  obtain ⟨its, r, e,
        z⟩ := I.tuple ha
  obtain ⟨its2, r2,
        e2, z2⟩ := I.tuple hb
  have hsz : its.toArray.size = its2.toArray.size := by
        rw [List.size_toArray, List.size_toArray, ← r.length, ← r2.length]; exact p.1
  refine rc_tupNeG hsz sb.room.units0 (fun _ s' => LoopI X pins σ H s') e e2 (fun i h1 h2 s' q => turnG hD h sb p r r2 i h1 h2 s' q) (fun s' q2 => ?_) ⟨H, I, Ext.rfl'⟩
  obtain ⟨H', I', ex⟩ := q2
  exact ⟨.bl false, H', I', rfl, q H' ex⟩
/-- tuples of instances whose own == tells that they are equal -/
theorem op_neTupO {C : Addr} {ps : List Str} {sp : Sp} (O : EqO X.prog X.w X.K X.mg X.base C k ps sp) (R : Addr → Addr → Hp → Prop) (hR : ∀ a b H H', Ext H H' → R a b H → R a b H')
    (h : ∀ vs H Q E, spEq R vs H Q E → sp vs H Q E) (hr : Room (k + 1) X.A) : OpR X (compareOp .NotEq) (rNeG (DTup X.K (DIns C R))) := by
  obtain ⟨f, fd, q, b, F⟩ := O
  exact op_neTupG (mon_ins hR) (eqG_ins (F.imp h) q.eq q.fn b pass0) hr
end
section
variable {K : PySem.W.Frag} {H : Hp} {Q : VK} {L L' : List En} {a : Addr} {xs : List V} {v : V} {kvs : List (Key × V)}
/-- xs.pop() -/
theorem wPop (F : Fx H L) (m : En.ob a (.lst xs) ∈ L) (e : xs[xs.length - 1]? = some v) (pt : Put a (.lst xs.dropLast) L L') (k : ∀ H', Fx H' L' → Q v H') : rPop (.ref a) [] H Q :=
  ⟨a, xs, v, rfl, rfl, F.get m, e, k _ (F.put pt)⟩
/-- d[n] = v -/
theorem wSetDi {QH : Hp → Prop} {n : Int} (F : Fx H L) (m : En.ob a (.dK kvs) ∈ L) (l : kvs.length < 1000000) (pt : Put a (.dK (putK kvs (.inl n) v)) L L') (k : ∀ H', Fx H' L' → QH H') : rSetD (.ref a) (.int n) v H QH :=
  ⟨a, _, rfl, DPut.k (k := .inl n) (F.get m) (Nat.lt_of_lt_of_le l line_big), k _ (F.put pt)⟩
/-- d[n] -/
def DgI (x y : V) (H : Hp) (Q : VK) : Prop := ∃ a v, x = .ref a ∧ DGet H a y (some v) ∧ Q v H
theorem wDG {td ty : TE} {σ : L2.St} (h : td σ H fun x H1 => ty σ H1 fun y H2 => DgI x y H2 Q) : tDGet td ty σ H Q := h
theorem wDgI {n : Int} (F : Fx H L) (m : En.ob a (.dK kvs) ∈ L) (e : valV kvs (.inl n) = some v) (h : Q v H) : DgI (.ref a) (.int n) H Q := by
  refine ⟨a, v, rfl, ?_, h⟩
  have := DGet.k (k := .inl n) (F.get m)
  rw [e] at this
  exact this
/-- list(d) -/
theorem wListD (F : Fx H L) (m : En.ob a (.dK kvs) ∈ L) (k : ∀ p H', Fx H' (.ob p (.lst (kvs.map fun kv => kV kv.1)) :: L) → Q (.ref p) H') : rListD [.ref a] H Q :=
  ⟨a, kvs, rfl, F.get m, wNewF F k⟩
end
end Z
namespace Z
open PySem L2
theorem wNotInDt {K : PySem.W.Frag} {H : Hp} {L : List En} {Q : VK} {x y : V} {d : PyData} {ds : List PyData} (F : Fx H L) (a : Dt L x d) (b : Dt L y (.list ds)) (sd : SeqAt.shaped d = true) (se : SeqAt.shaped (.list ds) = true) (h : Q (.bl (!ds.any fun z => PyData.eqv z d)) H) : L2.rNotInD K x y H Q := ⟨d, ds, a.dp F, b.dp F, sd, se, h⟩
theorem wAny {K : PySem.W.Frag} {H : Hp} {a : Addr} {bs : List Bool} {Q : VK} (s : SqL K H a (bs.map V.bl)) (h : Q (.bl (bs.any id)) H) : rAny K [.ref a] H Q := ⟨a, bs, rfl, s, h⟩
end Z
namespace RZ
open PySem L2
theorem ratio_mul {k l : Nat} {a b : Int} (h : Sz k a) (h2 : Sz l b) (hk : k ≤ 8000 := by decide) (hl : l ≤ 8000 := by decide) : L2.CMulW a b := by
  have := h.log hk
  have := h2.log hl
  show _ < _
  omega
/-! ### places of ratios in ascending order -/
def plc (S : List (Int × Int)) (i : Nat) : Int × Int := S.getD i (1, 1)
structure Scale (S : List (Int × Int)) : Prop where
  one : plc S 0 = (1, 1)
  len : 2 ≤ S.length
  even : S.length % 2 = 0
  ok : ∀ i, i < S.length → 1 ≤ (plc S i).2 ∧ Nat.gcd (plc S i).1.natAbs (plc S i).2.natAbs = 1 ∧ Sz 300 (plc S i).1 ∧ Sz 300 (plc S i).2
  asc : ∀ i j, i < j → j < S.length → (plc S i).1 * (plc S j).2 < (plc S j).1 * (plc S i).2
def sg (i j : Nat) : Int := if i = j then 0 else if i < j then -1 else 1
theorem Scale.inj {S : List (Int × Int)} (s : Scale S) {i j : Nat} (hi : i < S.length) (hj : j < S.length) (h : plc S i = plc S j) : i = j := by
  rcases Nat.lt_trichotomy i j with g | g | g
  · have := s.asc i j g hj
    rw [h] at this
    exact absurd this (Int.lt_irrefl _)
  · exact g
  · have := s.asc j i g hi
    rw [h] at this
    exact absurd this (Int.lt_irrefl _)
theorem sg_neg {i j : Nat} : sg i j < 0 ↔ i < j := by unfold sg; split <;> (try split) <;> omega
theorem sg_le {i j : Nat} : sg i j ≤ 0 ↔ i ≤ j := by unfold sg; split <;> (try split) <;> omega
theorem sg_pos {i j : Nat} : 0 < sg i j ↔ j < i := by unfold sg; split <;> (try split) <;> omega
theorem sg_nn {i j : Nat} : 0 ≤ sg i j ↔ j ≤ i := by unfold sg; split <;> (try split) <;> omega
end RZ
namespace Z
open PySem L2
/-- {} -/
theorem wDNew {σ : L2.St} {H : Hp} {L : List En} {Q : VK} (F : Fx H L) (k : ∀ p H', Fx H' (.ob p (.dK []) :: L) → Q (.ref p) H') : tDNewK σ H Q := wNewF F k
/-- the keys of a table, whole numbers, in their order -/
def DKs (kvs : List (Key × V)) (ks : List Int) : Prop := kvs.map (·.1) = ks.map Sum.inl ∧ ks.Nodup
theorem DKs.nil : DKs [] [] := ⟨rfl, List.nodup_nil⟩
theorem DKs.any {kvs : List (Key × V)} {ks : List Int} (h : DKs kvs ks) (n : Int) : (kvs.any fun kv => decide (kv.1 = Sum.inl n)) = decide (n ∈ ks) := by
  have e : (kvs.any fun kv => decide (kv.1 = Sum.inl n)) = ((kvs.map (·.1)).any fun k => decide (k = Sum.inl n)) := by rw [List.any_map]; rfl
  rw [e, h.1, Bool.eq_iff_iff, List.any_eq_true, decide_eq_true_eq]
  constructor
  · rintro ⟨k, hk, e⟩
    obtain ⟨m, hm, rfl⟩ := List.mem_map.mp hk
    have e := of_decide_eq_true e
    injection e with e
    exact e ▸ hm
  · intro hn
    exact ⟨_, List.mem_map_of_mem hn, decide_eq_true rfl⟩
theorem DKs.some {kvs : List (Key × V)} {ks : List Int} (h : DKs kvs ks) {n : Int} (hn : n ∈ ks) : ∃ v, valV kvs (Sum.inl n) = Option.some v := by
  have e := h.any n
  rw [valV_any, decide_eq_true hn] at e
  exact Option.isSome_iff_exists.mp e
theorem DKs.put {kvs : List (Key × V)} {ks : List Int} (h : DKs kvs ks) (n : Int) (v : V) : DKs (putK kvs (Sum.inl n) v) (if n ∈ ks then ks else ks ++ [n]) := by
  unfold putK
  rw [h.any n]
  by_cases hn : n ∈ ks
  · rw [if_pos (decide_eq_true hn), if_pos hn]
    refine ⟨?_, h.2⟩
    rw [← h.1, List.map_map]
    refine List.map_congr_left fun kv _ => ?_
    show (if kv.1 = Sum.inl n then (kv.1, v) else kv).1 = kv.1
    split <;> rfl
  · rw [if_neg (by rw [decide_eq_false hn]; decide), if_neg hn]
    refine ⟨by rw [List.map_append, List.map_append, h.1]; rfl, ?_⟩
    exact List.nodup_append.mpr ⟨h.2, List.nodup_cons.mpr ⟨by simp, List.nodup_nil⟩, fun a ha b hb => by rw [List.mem_singleton.mp hb]; exact fun e => hn (e ▸ ha)⟩
theorem DKs.list {kvs : List (Key × V)} {ks : List Int} (h : DKs kvs ks) : (kvs.map fun kv => kV kv.1) = ks.map V.int := by
  have e : (kvs.map fun kv => kV kv.1) = (kvs.map (·.1)).map kV := by rw [List.map_map]; rfl
  rw [e, h.1, List.map_map]
  rfl
theorem DKs.len {kvs : List (Key × V)} {ks : List Int} (h : DKs kvs ks) : kvs.length = ks.length := by
  have := congrArg List.length h.1
  simpa using this
end Z

set_option Elab.async false
set_option linter.all false
set_option maxRecDepth 100000
set_option
      maxHeartbeats 4000000
namespace M
open PySem L2 RZ
local macro_rules | `(tactic| walk_at "zm") => `(tactic| with_reducible first | exact List.mem_cons_self | assumption | (refine List.mem_cons_of_mem _ ?_; walk_at "zm"))
local macro_rules | `(tactic| walk_at "zp") => `(tactic| with_reducible first | exact Z.Put.head | (refine Z.Put.tail ?_; walk_at "zp"))
local macro_rules | `(tactic| walk_at "zo") => `(tactic| first | omega | (simp only [List.length_map, List.length_cons, List.length_nil, List.length_append, List.length_range] at *; omega))
local macro_rules | `(tactic| walk_at "zF") => `(tactic| with_reducible assumption)
local macro_rules | `(tactic| walk_at "zsq") => `(tactic| first | exact Z.Fx.lst (by walk_at "zF") (by walk_at "zm") | exact Z.Fx.tup (by walk_at "zF") (by walk_at "zm") | with_reducible assumption | exact Z.Fx.frz (by walk_at "zF") (by walk_at "zm"))
local macro_rules | `(tactic| walk_at "zsL") => `(tactic| first | exact Z.Fx.lst (by walk_at "zF") (by walk_at "zm") | with_reducible assumption | exact Z.Fx.frz (by walk_at "zF") (by walk_at "zm"))
local macro_rules | `(tactic| walk_at "zsT") => `(tactic| first | exact Z.SqT.of (Z.Fx.get (by walk_at "zF") (by walk_at "zm")) | with_reducible assumption)
local macro_rules | `(tactic| walk_at "zcm") => `(tactic| first | exact Or.inr ⟨by decide, by decide⟩ | exact Or.inl ⟨by decide, by decide⟩ | exact Or.inl ⟨by omega, by omega⟩ | exact Or.inr ⟨by omega, by omega⟩)
local macro_rules | `(tactic| walk_at "zcd") => `(tactic| first | exact ⟨by decide, by decide +kernel⟩ | assumption | exact ⟨by omega, by assumption⟩)
local macro_rules | `(tactic| walk_at "zb1") => `(tactic| first | rfl | assumption | exact decide_eq_true (by omega) | exact decide_eq_true (by assumption) | (simp only [Bool.not_eq_true', decide_eq_false_iff_not, bne_iff_ne, ne_eq]; omega))
local macro_rules | `(tactic| walk_at "zb0") => `(tactic| first | rfl | assumption | exact decide_eq_false (by omega) | exact decide_eq_false (by assumption) | (simp only [Bool.not_eq_false', decide_eq_true_iff, bne_eq_false_iff_eq]; omega))
local macro_rules | `(tactic| walk_at "zv") => `(tactic| with_reducible first | refine Z.wV0 ?_ | refine Z.wV1 ?_ | refine Z.wV2 ?_ | refine Z.wV3 ?_ | refine Z.wV4 ?_ | refine Z.wV5 ?_ | refine Z.wV6 ?_ | refine Z.wV7 ?_ | refine Z.wV8 ?_ | refine Z.wV9 ?_ | refine Z.wV10 ?_ | refine Z.wV11 ?_ | refine Z.wV12 ?_ | refine Z.wV13 ?_ | refine Z.wV14 ?_)
local macro_rules | `(tactic| walk_at "zg") => `(tactic| with_reducible first | refine Z.wG0 ?_ | refine Z.wG1 ?_ | refine Z.wG2 ?_ | refine Z.wG3 ?_ | refine Z.wG4 ?_ | refine Z.wG5 ?_ | refine Z.wG6 ?_ | refine Z.wG7 ?_ | refine Z.wG8 ?_ | refine Z.wG9 ?_ | refine Z.wG10 ?_ | refine Z.wG11 ?_ | refine Z.wG12 ?_ | refine Z.wG13 ?_ | refine Z.wG14 ?_)
-- syntax nodes
local macro_rules | `(tactic| walk_at "zt") => `(tactic| with_reducible first | refine Z.wSeq ?_ | refine Z.wAsg ?_ | refine Z.wOp ?_ | refine Z.wC ?_ | refine Z.wCons ?_ | refine Z.wNil ?_ | refine Z.wCB ?_ | refine Z.wTest ?_ | refine Z.wRet ?_ | refine Z.wNext ?_ | refine Z.wDrop ?_ | refine Z.wTruN ?_ | refine Z.wNot ?_ | refine Z.wAnd ?_ | refine Z.wOrb ?_ | refine Z.wCall0 ?_ | refine Z.wAndT ?_ | refine Z.wOrT ?_ | refine Z.wNotT ?_ | refine Z.wUn ?_ | refine Z.wTIf ?_ | refine Z.wChain ?_ | refine Z.wBM ?_ | refine Z.wBM0 ?_ | refine Z.wGSub ?_ | refine Z.wTTup ?_ | refine Z.wTLst ?_ | refine Z.wRetN ?_ | refine Z.wBreak ?_ | refine Z.wCont ?_ | refine Z.wListI ?_)
-- values
local macro_rules | `(tactic| walk_at "zx") => `(tactic| first
  | with_reducible refine Z.wBl ?_ | with_reducible refine Z.wTbl ?_ | with_reducible refine Z.wTint ?_ | with_reducible refine Z.wTnon ?_ | with_reducible refine Z.wIntI ?_ | with_reducible refine Z.wNeg ?_
  | with_reducible refine Z.wI0 ?_ | with_reducible refine Z.wOr1 (Z.wI0 ?_)
  | with_reducible refine Z.wOr1 (Z.wEqII ?_) | with_reducible refine Z.wOr1 (Z.wNeII ?_)
  | with_reducible refine Z.wOr1 (Z.wIsN ?_) | with_reducible refine Z.wOr1 (Z.wNotN ?_) | with_reducible refine Z.wOr2 (Z.wIsB ?_) | with_reducible refine Z.wOr2 (Z.wNotB ?_)
  | ((with_reducible refine' Z.wI ?zc ?_); (case zc => first | omega | decide | (walk_at "zcd") | exact ⟨by decide, by decide, by decide +kernel⟩))
  | ((with_reducible refine' Z.wOr1 (Z.wI (C := L2.CMul) ?zc ?_)); (case zc => walk_at "zcm"))
  | ((with_reducible refine' Z.wSetL ?zf ?zm ?ze ?zp ?_); (case zf => walk_at "zF"); (case zm => walk_at "zm"); (case ze => first | rfl | exact Z.ixN_of (by walk_at "zo") (by walk_at "zo")); (case zp => walk_at "zp"); with_reducible intro _ _)
  | ((with_reducible refine' Z.wIxL ?zs ?ze ?_); (case zs => walk_at "zsL"); (case ze => first | rfl | assumption))
  | ((with_reducible refine' Z.wIxT ?zs ?ze ?_); (case zs => walk_at "zsT"); (case ze => first | rfl | assumption))
  | ((with_reducible refine' Z.wIxLi ?zs ?z0 ?z1 ?_); (case zs => walk_at "zsL"); (case z0 => walk_at "zo"); (case z1 => walk_at "zo"))
  | ((with_reducible refine' Z.wIxTi ?zs ?z0 ?z1 ?_); (case zs => walk_at "zsT"); (case z0 => walk_at "zo"); (case z1 => walk_at "zo"))
  | ((with_reducible refine' Z.wLenLi ?zs ?_); (case zs => walk_at "zsL"))
  | ((with_reducible refine' Z.wLenTi ?zs ?_); (case zs => walk_at "zsT"))
  | ((with_reducible refine' Z.wLenL ?zs ?_); (case zs => walk_at "zsL"))
  | ((with_reducible refine' Z.wLenT ?zs ?_); (case zs => walk_at "zsT"))
  | ((with_reducible refine' Z.wTyL ?zs ?_); (case zs => walk_at "zsL"))
  | ((with_reducible refine' Z.wApp ?zf ?zm ?zp ?zn ?_); (case zf => walk_at "zF"); (case zm => walk_at "zm"); (case zp => walk_at "zp"); (case zn => first | (have := Z.line_big; walk_at "zo") | assumption); with_reducible intro _ _)
  | ((with_reducible refine' Z.wTup ?zn ?zf ?_); (case zn => first | exact Nat.le_of_ble_eq_true rfl | walk_at "zo"); (case zf => walk_at "zF"); with_reducible intro _ _ _)
  | ((with_reducible refine' Z.wLst ?zn ?zf ?_); (case zn => first | exact Nat.le_of_ble_eq_true rfl | walk_at "zo"); (case zf => walk_at "zF"); with_reducible intro _ _ _)
  | ((with_reducible refine' Z.wListL ?zs ?zf ?_); (case zs => walk_at "zsL"); (case zf => walk_at "zF"); with_reducible intro _ _ _)
  | ((with_reducible refine' Z.wListT ?zs ?zf ?_); (case zs => walk_at "zsT"); (case zf => walk_at "zF"); with_reducible intro _ _ _)
  | ((with_reducible refine' Z.wTupleL ?zs ?zf ?_); (case zs => walk_at "zsL"); (case zf => walk_at "zF"); with_reducible intro _ _ _)
  | ((with_reducible refine' Z.wTupleT ?zs ?_); (case zs => walk_at "zsT"))
  | ((with_reducible refine' Z.wTlst ?zs ?_); (case zs => walk_at "zsL"))
  | ((with_reducible refine' Z.wTtup ?zs ?_); (case zs => walk_at "zsT"))
  | with_reducible refine Z.wAbs ?_)
-- branches that the facts decide
local macro_rules | `(tactic| walk_at "zi") => `(tactic| first | ((with_reducible refine' Z.wIfT ?zb ?_); (case zb => walk_at "zb1")) | ((with_reducible refine' Z.wIfF ?zb ?_); (case zb => walk_at "zb0")))
local macro_rules | `(tactic| walk_at "z") => `(tactic| repeat walk_at "z1")
local macro_rules | `(tactic| walk_at "zc") => `(tactic| fail)
local macro_rules | `(tactic| walk_at "zif") => `(tactic| with_reducible first | refine Z.wIfS ?_ | refine Z.wFor ?_)
local macro_rules | `(tactic| walk_at "z1") => `(tactic| first | walk_at "zt" | walk_at "zv" | walk_at "zg" | walk_at "zc" | walk_at "zif" | walk_at "zx" | walk_at "zi")
local macro_rules | `(tactic| walk_at "y1") => `(tactic| first | walk_at "zt" | walk_at "zv" | walk_at "zg" | walk_at "zc" | walk_at "zx" | walk_at "zi")
local macro_rules | `(tactic| walk_at "y") => `(tactic| repeat walk_at "y1")
local macro_rules | `(tactic| walk_at "zfs") => `(tactic| (refine Z.Fx.sub (by walk_at "zF") ?_; walk_at "zsub"))
local macro_rules | `(tactic| walk_at "zs") => `(tactic| first | refine Z.wIfD (fun _ => ?_) (fun _ => ?_) | refine Z.wIfND (fun _ => ?_) (fun _ => ?_) | refine Z.wIf (fun _ => ?_) (fun _ => ?_))
local macro_rules | `(tactic| walk_at "zz") => `(tactic| ((repeat walk_at "z1"); try (walk_at "zs" <;> walk_at "zz")))
local macro_rules | `(tactic| walk_at "zlog") => `(tactic| first | decide +kernel | assumption | exact Z.log_small (by walk_at "zo") (by walk_at "zo"))
local macro_rules | `(tactic| walk_at "zk") => `(tactic| first | with_reducible assumption | exact Z.HasK.int _ | exact Z.HasK.bl _ | exact Z.HasK.str _ | exact Z.HasK.non | exact Z.HasK.lst (by walk_at "zsL") | exact Z.HasK.tup (by walk_at "zsT"))
local macro_rules | `(tactic| walk_at "zsub") => `(tactic| ((try dsimp only [List.cons_append, List.nil_append, List.append_eq]); (with_reducible first | exact List.Sublist.refl _ | (refine List.Sublist.cons_cons _ ?_; walk_at "zsub") | (refine List.Sublist.cons _ ?_; walk_at "zsub"))))
local macro_rules | `(tactic| walk_at "zt") => `(tactic| with_reducible first | refine Z.wIS ?_ | refine Z.wIL ?_ | refine Z.wIT ?_ | refine Z.wIR1 ?_ | refine Z.wIR2 ?_ | refine Z.wIZ ?_ | refine Z.wLc ?_ | refine Z.wSl ?_ | refine Z.wNoPart ?_ | refine Z.wPart ?_ | refine Z.wPartV ?_ | refine Z.wGCons ?_ | refine Z.wGNil ?_ | refine Z.wYes ?_ | refine Z.wMake ?_ | refine Z.wMakeS ?_ | refine Z.wFld ?_ | refine Z.wSFld ?_ | refine Z.wCallS ?_)
local macro_rules | `(tactic| walk_at "zx") => `(tactic| first
  | ((with_reducible refine' Z.wGTup ?zs ?ze ?_); (case zs => walk_at "zsT"); (case ze => first | rfl | assumption))
  | ((with_reducible refine' Z.wGoSL ?zs ?_); (case zs => walk_at "zsL"))
  | ((with_reducible refine' Z.wGoST ?zs ?_); (case zs => walk_at "zsT"))
  | ((with_reducible refine' Z.wGoL ?zs ?_); (case zs => walk_at "zsL"))
  | ((with_reducible refine' Z.wGoT ?zs ?_); (case zs => walk_at "zsT"))
  | ((with_reducible refine' Z.wGoZL ?zs ?zt ?_); (case zs => walk_at "zsL"); (case zt => walk_at "zsL"))
  | ((with_reducible refine' Z.wGoZT ?zs ?zt ?_); (case zs => walk_at "zsT"); (case zt => walk_at "zsT"))
  | ((with_reducible refine' Z.wGoR1 ?za ?zb ?_); (case za => walk_at "zo"); (case zb => walk_at "zo"))
  | ((with_reducible refine' Z.wGoR2 ?za ?zb ?zc ?zd ?_); (case za => walk_at "zo"); (case zb => walk_at "zo"); (case zc => walk_at "zo"); (case zd => walk_at "zo"))
  | ((with_reducible refine' Z.wSlL ?zs ?zf ?_); (case zs => walk_at "zsL"); (case zf => walk_at "zF"); with_reducible intro _ _ _))
local macro_rules | `(tactic| walk_at "zis") => `(tactic| first | with_reducible assumption | exact Z.SeqIs.int _ | exact Z.SeqIs.bl _ | exact Z.SeqIs.str _ | exact Z.SeqIs.non | exact Z.SeqIs.lst (by walk_at "zm") | exact Z.SeqIs.tup (by walk_at "zm") | exact Z.SeqIs.dct (by walk_at "zm"))
local macro_rules | `(tactic| walk_at "zw") => `(tactic| (simp only [List.map_cons, List.map_nil, wipe, List.set_cons_zero, List.set_cons_succ]))
local macro_rules | `(tactic| walk_at "zt") => `(tactic| with_reducible first | refine Z.wListRg2 ?_)
local macro_rules | `(tactic| walk_at "zx") => `(tactic| first
  | ((with_reducible refine' Z.wRgV ?zo ?zf ?_); (case zo => exact L2.RgOk.of_le (by walk_at "zo") (by walk_at "zo") (by walk_at "zo") (by walk_at "zo")); (case zf => walk_at "zF"); with_reducible intro _ _ _))

local macro_rules | `(tactic| walk_at "zt") => `(tactic| with_reducible first | refine Z.wIE ?_ | refine Z.wIR3 ?_ | refine Z.wMin2 ?_ | refine Z.wMax2 ?_ | refine Z.wBody ?_ | refine Z.wAug rfl ?_)
local macro_rules | `(tactic| walk_at "zx") => `(tactic| first
  | ((with_reducible refine' Z.wGoDown ?za ?zb ?zc ?zd ?_); (case za => walk_at "zo"); (case zb => walk_at "zo"); (case zc => walk_at "zo"); (case zd => walk_at "zo"))
  | ((with_reducible refine' Z.wSumL ?zs ?_); (case zs => walk_at "zsL"))
  | ((with_reducible refine' Z.wSumT ?zs ?_); (case zs => walk_at "zsT"))
  | ((with_reducible refine' Z.wRepL ?zf ?zm ?z1 ?z2 ?z3 ?_); (case zf => walk_at "zF"); (case zm => walk_at "zm"); (case z1 => walk_at "zo"); (case z2 => walk_at "zo"); (case z3 => walk_at "zo"); with_reducible intro _ _ _)
  | ((with_reducible refine' Z.wCatL ?zf ?zm ?z1 ?z2 ?_); (case zf => walk_at "zF"); (case zm => walk_at "zm"); (case z1 => walk_at "zm"); (case z2 => walk_at "zo"); with_reducible intro _ _ _))
local macro_rules | `(tactic| walk_at "zx") => `(tactic| ((with_reducible refine Z.wIpI ?_); try simp only [List.set_cons_zero, List.set_cons_succ]))
local macro_rules | `(tactic| walk_at "zt") => `(tactic| with_reducible first | refine Z.wMkO ?_ | refine Z.wCallD ?_ | refine Z.wSpC ?_ | refine Z.wSpN ?_ | refine Z.wSpC1 ?_ | refine Z.wSpN1 ?_ | refine Z.wSpC2 ?_ | refine Z.wSpN2 ?_)
local macro_rules | `(tactic| walk_at "zv") => `(tactic| with_reducible first | refine Z.wV15 ?_ | refine Z.wV16 ?_ | refine Z.wV17 ?_ | refine Z.wV18 ?_ | refine Z.wV19 ?_ | refine Z.wV20 ?_ | refine Z.wV21 ?_ | refine Z.wV22 ?_ | refine Z.wV23 ?_ | refine Z.wV24 ?_ | refine Z.wV25 ?_ | refine Z.wV26 ?_)
local macro_rules | `(tactic| walk_at "zg") => `(tactic| with_reducible first | refine Z.wG15 ?_ | refine Z.wG16 ?_ | refine Z.wG17 ?_ | refine Z.wG18 ?_ | refine Z.wG19 ?_ | refine Z.wG20 ?_ | refine Z.wG21 ?_ | refine Z.wG22 ?_ | refine Z.wG23 ?_ | refine Z.wG24 ?_ | refine Z.wG25 ?_ | refine Z.wG26 ?_)
local macro_rules | `(tactic| walk_at "zt") => `(tactic| with_reducible first | refine Z.wRevS ?_ | refine Z.wTupRev ?_ | refine Z.wIRev ?_)
local macro_rules | `(tactic| walk_at "zx") => `(tactic| first
  | ((with_reducible refine' Z.wRevL ?zs ?zf ?_); (case zs => walk_at "zsL"); (case zf => walk_at "zF"); with_reducible intro _ _ _)
  | ((with_reducible refine' Z.wRevT ?zs ?zf ?_); (case zs => walk_at "zsT"); (case zf => walk_at "zF"); with_reducible intro _ _ _)
  | ((with_reducible refine' Z.wTupRevT ?zs ?zf ?_); (case zs => walk_at "zsT"); (case zf => walk_at "zF"); with_reducible intro _ _ _)
  | ((with_reducible refine' Z.wRevI ?zs ?_); (case zs => walk_at "zsL")))
local macro_rules | `(tactic| walk_at "zt") => `(tactic| with_reducible first | refine Z.wIRG ?_ | refine Z.wGoRG ?_)
local macro_rules | `(tactic| walk_at "zr") => `(tactic| ((walk_at "z"); (try ((first | ((refine' Z.wIfF ?zb ?_); (case zb => (simp; done))) | ((refine' Z.wIfT ?zb ?_); (case zb => (simp; done)))); (walk_at "z")))))
local macro_rules | `(tactic| walk_at "zt") => `(tactic| with_reducible first | refine Z.wDc ?_ | refine Z.wIRevR ?_)
local macro_rules | `(tactic| walk_at "zx") => `(tactic| first
  | ((with_reducible refine' Z.wInD ?zf ?zm ?_); (case zf => walk_at "zF"); (case zm => walk_at "zm"))
  | with_reducible refine Z.wMin3 ?_ | with_reducible refine Z.wEqBB ?_ | with_reducible refine Z.wNeBB ?_)
local macro_rules | `(tactic| walk_at "zt") => `(tactic| with_reducible first | refine Z.wCKw ?_)
local macro_rules | `(tactic| walk_at "zx") => `(tactic| first
  | ((with_reducible refine' Z.wDvm ?z1 ?z2 ?z3 ?zf ?_); (case z1 => omega); (case z2 => omega); (case z3 => omega); (case zf => walk_at "zF"); with_reducible intro _ _ _))
local macro_rules | `(tactic| walk_at "zx") => `(tactic| with_reducible refine Z.wIntB ?_)
local macro_rules | `(tactic| walk_at "zt") => `(tactic| with_reducible refine Z.wTryO ?_)
local macro_rules | `(tactic| walk_at "zt") => `(tactic| with_reducible first | refine Z.wPar ?_ | (refine Z.wPar2 ?_; simp only [List.set_cons_zero, List.set_cons_succ]))
local macro_rules | `(tactic| walk_at "zx") => `(tactic| with_reducible refine Z.wGcd ?_)
local macro_rules | `(tactic| walk_at "zx") => `(tactic| ((with_reducible refine' Z.wMulW ?zc ?_); (case zc => with_reducible assumption)))
local macro_rules | `(tactic| walk_at "zt") => `(tactic| with_reducible refine Z.wCallN ?_)
local macro_rules | `(tactic| walk_at "zt") => `(tactic| with_reducible first | refine Z.wM1 ?_ | refine Z.wFmt ?_ | refine Z.wFs ?_ | refine Z.wJsC ?_ | refine Z.wIStr ?_ | refine Z.wStrA ?_ | refine Z.wJsN ?_ | refine Z.wInSign ?_ | refine Z.wGoStr ?_)
local macro_rules | `(tactic| walk_at "zx") => `(tactic| first
  | ((with_reducible refine' Z.wFmtI ?zl ?_); (case zl => assumption))
  | ((with_reducible refine' Z.wStrI ?zl ?_); (case zl => assumption))
  | ((with_reducible refine' Z.wJsX ?zl ?_); (case zl => first | exact Nat.le_of_ble_eq_true rfl | assumption))
  | ((with_reducible refine' Z.wRmp ?zl ?_); (case zl => assumption))
  | ((with_reducible refine' Z.wLenS ?zl ?_); (case zl => assumption))
  | ((with_reducible refine' Z.wParts ?zb ?zl ?zf ?_); (case zb => rfl); (case zl => assumption); (case zf => walk_at "zF"); with_reducible intro _ _ _))
local macro_rules | `(tactic| walk_at "zS") => `(tactic| first | assumption | exact Nat.le_of_ble_eq_true rfl | decide)
local macro_rules | `(tactic| walk_at "zx") => `(tactic| ((with_reducible refine' Z.wAddSS ?z1 ?z2 ?_); (case z1 => walk_at "zS"); (case z2 => walk_at "zS")))
local macro_rules | `(tactic| walk_at "zS") => `(tactic| first | assumption | exact Nat.le_of_ble_eq_true rfl | ((try simp only [TX.len_app]); omega))
local macro_rules | `(tactic| walk_at "zt") => `(tactic| with_reducible first | refine Z.wStep2 ?_ | refine Z.wReplC ?_)
local macro_rules | `(tactic| walk_at "zt") => `(tactic| with_reducible refine Z.wAugS ?_)
def top (i : Nat) : Stmt := PySem.Challenge.pw_jointsapart_k42_whole_lists_of_stretches.main.body.getD i (.Pass ⟨0, 0, 0, 0⟩)

abbrev s__law_hand : Stmt := top 24
abbrev s__law_gcd : Stmt := top 28
abbrev s__law_ratio : Stmt := top 29
abbrev s_compare : Stmt := top 8
abbrev s__is_below : Stmt := top 14
abbrev s__law_mid : Stmt := top 31
abbrev s__law_mix : Stmt := top 25
abbrev s__law_draw : Stmt := top 26
abbrev s__law_brick_ratio : Stmt := top 34
abbrev s_is_whole : Stmt := top 6
abbrev s_is_ratio : Stmt := top 7
abbrev s__is_high : Stmt := top 13
abbrev s_BadStretch___init__ : Stmt := inClass (top 3) 0
abbrev s_Stretch___init__ : Stmt := inClass (top 12) 0
abbrev s__law_cmp : Stmt := top 30
abbrev s_Stretch___contains__ : Stmt := inClass (top 12) 1
abbrev s_is_in_stretches : Stmt := top 17
abbrev s__by_low : Stmt := top 19
abbrev s__law_points : Stmt := top 36
abbrev s__law_ascending : Stmt := top 35
abbrev s__law_ends : Stmt := top 42
abbrev s__law_made : Stmt := top 43
abbrev s__law_given : Stmt := top 40
abbrev s__law_list_of : Stmt := top 45
abbrev s_greatest_of : Stmt := top 10
abbrev s__greater_high : Stmt := top 16
abbrev s_either_stretches : Stmt := top 18
abbrev s_least_of : Stmt := top 9
abbrev s__lesser_high : Stmt := top 15
abbrev s_both_stretches : Stmt := top 20
abbrev s__law_is_whole : Stmt := top 32
abbrev s__law_is_ratio : Stmt := top 33
abbrev s__law_is_list : Stmt := top 37
abbrev s_Stretch___eq__ : Stmt := inClass (top 12) 2
abbrev s__law_ends_in : Stmt := top 39
abbrev s__law_in : Stmt := top 44
abbrev s__law_has : Stmt := top 38
abbrev s__law_is_made : Stmt := top 46
abbrev s__is_part : Stmt := top 22
abbrev s_are_within : Stmt := top 21
abbrev s__law_truth : Stmt := top 41
abbrev s__law_pick : Stmt := top 27
abbrev s_Stretch_low_shut : Stmt := inClass (top 12) 3
abbrev s__law_refusals : Stmt := top 47
abbrev s_law : Stmt := top 48
structure Txt (K : PySem.W.Frag) (mg : Str → Option Value) (c_BadStretch : Addr) (c_Stretch : Addr) (c_ONE : Addr) : Prop where
  k_ONE : mg "ONE" = some (.ref c_ONE)
  kt_ONE : Z.KT K c_ONE (([1, 1] : List Int).map V.int)
  b_abs : mg "abs" = none
  b_all : mg "all" = none
  b_any : mg "any" = none
  b_bool : mg "bool" = none
  b_int : mg "int" = none
  b_isinstance : mg "isinstance" = none
  b_len : mg "len" = none
  b_list : mg "list" = none
  b_min : mg "min" = none
  b_range : mg "range" = none
  b_sorted : mg "sorted" = none
  b_tuple : mg "tuple" = none
  m_gcd : mg "gcd" = some (.builtin "math.gcd")
  g_BadStretch : mg "BadStretch" = some (.ref c_BadStretch)
  g_Stretch : mg "Stretch" = some (.ref c_Stretch)
  x_BadStretch : Z.ErrF K c_BadStretch
  n_BadStretch_what : PySem.W.findIn K (.ref c_BadStretch) "what" = some none
  i_Stretch : Z.InsF K c_Stretch
  n_Stretch_low : NoAttr K c_Stretch "low"
  n_Stretch_high : NoAttr K c_Stretch "high"
  d__law_hand : ∃ f fd, Fun K "_law_hand" "_law_hand" s__law_hand f fd ∧ mg "_law_hand" = some (.ref f)
  d__law_gcd : ∃ f fd, Fun K "_law_gcd" "_law_gcd" s__law_gcd f fd ∧ mg "_law_gcd" = some (.ref f)
  d__law_ratio : ∃ f fd, Fun K "_law_ratio" "_law_ratio" s__law_ratio f fd ∧ mg "_law_ratio" = some (.ref f)
  d_compare : ∃ f fd, Fun K "compare" "compare" s_compare f fd ∧ mg "compare" = some (.ref f)
  d__is_below : ∃ f fd, Fun K "_is_below" "_is_below" s__is_below f fd ∧ mg "_is_below" = some (.ref f)
  d__law_mid : ∃ f fd, Fun K "_law_mid" "_law_mid" s__law_mid f fd ∧ mg "_law_mid" = some (.ref f)
  d__law_mix : ∃ f fd, Fun K "_law_mix" "_law_mix" s__law_mix f fd ∧ mg "_law_mix" = some (.ref f)
  d__law_draw : ∃ f fd, Fun K "_law_draw" "_law_draw" s__law_draw f fd ∧ mg "_law_draw" = some (.ref f)
  d__law_brick_ratio : ∃ f fd, Fun K "_law_brick_ratio" "_law_brick_ratio" s__law_brick_ratio f fd ∧ mg "_law_brick_ratio" = some (.ref f)
  d_is_whole : ∃ f fd, FunD K "is_whole" "is_whole" (defArgs s_is_whole) (defBody s_is_whole) (defScope s_is_whole) [.non, .non] [] f fd ∧ mg "is_whole" = some (.ref f)
  d_is_ratio : ∃ f fd, Fun K "is_ratio" "is_ratio" s_is_ratio f fd ∧ mg "is_ratio" = some (.ref f)
  d__is_high : ∃ f fd, Fun K "_is_high" "_is_high" s__is_high f fd ∧ mg "_is_high" = some (.ref f)
  d_BadStretch___init__ : ∃ f fd, Fun K "__init__" "BadStretch.__init__" s_BadStretch___init__ f fd ∧ Z.ErrI K c_BadStretch f
  d_Stretch___init__ : ∃ f fd, Fun K "__init__" "Stretch.__init__" s_Stretch___init__ f fd ∧ Mk K c_Stretch f
  d__law_cmp : ∃ f fd, Fun K "_law_cmp" "_law_cmp" s__law_cmp f fd ∧ mg "_law_cmp" = some (.ref f)
  d_Stretch___contains__ : ∃ f fd, Fun K "__contains__" "Stretch.__contains__" s_Stretch___contains__ f fd ∧ Z.OwnInF K c_Stretch f
  d_is_in_stretches : ∃ f fd, Fun K "is_in_stretches" "is_in_stretches" s_is_in_stretches f fd ∧ mg "is_in_stretches" = some (.ref f)
  d__by_low : ∃ f fd, Fun K "_by_low" "_by_low" s__by_low f fd ∧ mg "_by_low" = some (.ref f)
  d__law_points : ∃ f fd, Fun K "_law_points" "_law_points" s__law_points f fd ∧ mg "_law_points" = some (.ref f)
  d__law_ascending : ∃ f fd, Fun K "_law_ascending" "_law_ascending" s__law_ascending f fd ∧ mg "_law_ascending" = some (.ref f)
  d__law_ends : ∃ f fd, Fun K "_law_ends" "_law_ends" s__law_ends f fd ∧ mg "_law_ends" = some (.ref f)
  d__law_made : ∃ f fd, Fun K "_law_made" "_law_made" s__law_made f fd ∧ mg "_law_made" = some (.ref f)
  d__law_given : ∃ f fd, Fun K "_law_given" "_law_given" s__law_given f fd ∧ mg "_law_given" = some (.ref f)
  d__law_list_of : ∃ f fd, Fun K "_law_list_of" "_law_list_of" s__law_list_of f fd ∧ mg "_law_list_of" = some (.ref f)
  d_greatest_of : ∃ f fd, Fun K "greatest_of" "greatest_of" s_greatest_of f fd ∧ mg "greatest_of" = some (.ref f)
  d__greater_high : ∃ f fd, Fun K "_greater_high" "_greater_high" s__greater_high f fd ∧ mg "_greater_high" = some (.ref f)
  d_either_stretches : ∃ f fd, Fun K "either_stretches" "either_stretches" s_either_stretches f fd ∧ mg "either_stretches" = some (.ref f)
  d_least_of : ∃ f fd, Fun K "least_of" "least_of" s_least_of f fd ∧ mg "least_of" = some (.ref f)
  d__lesser_high : ∃ f fd, Fun K "_lesser_high" "_lesser_high" s__lesser_high f fd ∧ mg "_lesser_high" = some (.ref f)
  d_both_stretches : ∃ f fd, Fun K "both_stretches" "both_stretches" s_both_stretches f fd ∧ mg "both_stretches" = some (.ref f)
  d__law_is_whole : ∃ f fd, Fun K "_law_is_whole" "_law_is_whole" s__law_is_whole f fd ∧ mg "_law_is_whole" = some (.ref f)
  d__law_is_ratio : ∃ f fd, Fun K "_law_is_ratio" "_law_is_ratio" s__law_is_ratio f fd ∧ mg "_law_is_ratio" = some (.ref f)
  d__law_is_list : ∃ f fd, Fun K "_law_is_list" "_law_is_list" s__law_is_list f fd ∧ mg "_law_is_list" = some (.ref f)
  d_Stretch___eq__ : ∃ f fd, Fun K "__eq__" "Stretch.__eq__" s_Stretch___eq__ f fd ∧ Z.OwnEqF K c_Stretch f
  d__law_ends_in : ∃ f fd, Fun K "_law_ends_in" "_law_ends_in" s__law_ends_in f fd ∧ mg "_law_ends_in" = some (.ref f)
  d__law_in : ∃ f fd, Fun K "_law_in" "_law_in" s__law_in f fd ∧ mg "_law_in" = some (.ref f)
  d__law_has : ∃ f fd, Fun K "_law_has" "_law_has" s__law_has f fd ∧ mg "_law_has" = some (.ref f)
  d__law_is_made : ∃ f fd, Fun K "_law_is_made" "_law_is_made" s__law_is_made f fd ∧ mg "_law_is_made" = some (.ref f)
  d__is_part : ∃ f fd, Fun K "_is_part" "_is_part" s__is_part f fd ∧ mg "_is_part" = some (.ref f)
  d_are_within : ∃ f fd, Fun K "are_within" "are_within" s_are_within f fd ∧ mg "are_within" = some (.ref f)
  d__law_truth : ∃ f fd, Fun K "_law_truth" "_law_truth" s__law_truth f fd ∧ mg "_law_truth" = some (.ref f)
  d__law_pick : ∃ f fd, Fun K "_law_pick" "_law_pick" s__law_pick f fd ∧ mg "_law_pick" = some (.ref f)
  d_Stretch_low_shut : ∃ p f fd, Fun K "low_shut" "Stretch.low_shut" s_Stretch_low_shut f fd ∧ PropOf K c_Stretch "low_shut" p f
  d__law_refusals : ∃ f fd, Fun K "_law_refusals" "_law_refusals" s__law_refusals f fd ∧ mg "_law_refusals" = some (.ref f)
  d_law : ∃ f fd, Fun K "law" "law" s_law f fd ∧ mg "law" = some (.ref f)
section
variable {P : Program} {w : World} {K : PySem.W.Frag} {mg : Str → Option Value} {base : Heap} {c_BadStretch c_Stretch c_ONE : Addr}
theorem sc__law_hand : FnScope ["_law_script", "_law_total", "_law_cells", "_law_cell"] ["_law_script"] (defScope s__law_hand) := ⟨rfl, rfl, rfl, by decide +kernel, rfl, by decide +kernel, by decide +kernel⟩
def sp__law_hand (K : PySem.W.Frag) : Sp := Z.Sp1 fun a H Q E => ∃ (l : Addr) (ns : List Int), a = .ref l ∧ SqL K H l (ns.map V.int) ∧ ns.length ≤ 63 ∧ ∀ p c H', Z.Fx H' [.hand p c] → Q (.ref p) H'
theorem fn__law_hand (T : Txt K mg c_BadStretch c_Stretch c_ONE) {f : Addr} {fd : FuncData} (F : Fun K "_law_hand" "_law_hand" s__law_hand f fd) : FnOk P w K mg base CX0 1 f fd ["_law_script"] (sp__law_hand K) := by
  refine F.ok sc__law_hand (fun vs H Q E h => ?_) (fun cdv A outer s H vs Q E hr h => ?_)
  · obtain ⟨a, rfl, _⟩ := h; rfl
  · obtain ⟨a, rfl, h⟩ := h
    refine ⟨_, (pss_cons (ps_set (i := 1) sc__law_hand.nd rfl (by first | exact Or.inl rfl | exact Or.inr rfl) (pe_op Z.zAdd (pe_callB Z.zLen (by rfl) T.b_len (by decide +kernel) (pa_cons (pv 0) pa_nil)) pe_int))
      (pss_cons (ps_set (i := 2) sc__law_hand.nd rfl (by first | exact Or.inl rfl | exact Or.inr rfl) (pe_lst pa_nil))
      (pss_cons (ps_for PassesOwn.never (by rfl) (Z.pi_seq (pv 0)) (pg_name (i := 3) sc__law_hand.nd rfl (by first | exact Or.inl rfl | exact Or.inr rfl))
        (pss_cons (ps_set (i := 1) sc__law_hand.nd rfl (by first | exact Or.inl rfl | exact Or.inr rfl) (pe_op Z.zMod (pe_callTy Z.zInt (by rfl) T.b_int (by decide +kernel) (pa_cons (pe_op Z.zAdd (pe_op Z.zMul (pv 1) pe_int) (pe_callTy Z.zInt (by rfl) T.b_int (by decide +kernel) (pa_cons (pv 3) pa_nil))) pa_nil)) pe_int))
        (pss_one (ps_expr (pe_bm PySem.F.plainAttrs_list PySem.F.slot_list_append PySem.F.type_list_append mt_append (pv 2) (pa_cons (pe_callB Z.zAbs (by rfl) T.b_abs (by decide +kernel) (pa_cons (pe_callTy Z.zInt (by rfl) T.b_int (by decide +kernel) (pa_cons (pv 3) pa_nil)) pa_nil)) pa_nil))))))
      (pss_one (ps_ret (pe_lst (pa_cons (pv 2) (pa_cons pe_int (pa_cons pe_int (pa_cons (pv 1) pa_nil)))))))))), ?_⟩
    try dsimp only [cxOf, Cx.nox, Cx.wish]
    refine Z.at_start (σ' := [some a, none, none, none]) rfl ?_
    obtain ⟨l, ns, rfl, hS, hl, k⟩ := h
    obtain ⟨L0, F, keep⟩ := Z.seq_keep hS [] Z.Fx.nil (by simp)
    walk_at "z"
    rename_i p0 H0 F0
    refine Z.wGoSL (keep _ [_] F0) ?_
    refine Z.wForW (walk_list (xs := ns.map V.int)) (fun i σ H2 => ∃ (cs : List Int) (t : Int) (cp : Addr) (v : Option V), σ = [some (.ref l), some (.int t), some (.ref cp), v] ∧ Z.Fx H2 ([Z.En.ob cp (.lst (cs.map V.int))] ++ (L0 ++ [])) ∧ cs.length = i) ?_ ?_ ?_ ?_
    · exact ⟨[], _, _, _, rfl, F0, rfl⟩
    · rintro i σ H2 _ ⟨cs, t, cp, v, rfl, F2, _⟩
      exact keep _ _ F2
    · rintro i x σ H2 H3 _ ⟨cs, t, cp, v, rfl, F2, hc⟩ ⟨rfl, hi⟩
      obtain ⟨z, rfl⟩ := Z.int_of_map hi
      have hil := (List.getElem?_eq_some_iff.mp hi).1
      rw [List.length_map] at hil
      dsimp only [List.cons_append, List.nil_append] at F2
      walk_at "zz"
      refine ⟨cs ++ [if z < 0 then -z else z], _, cp, _, rfl, ?_, by rw [List.length_append, hc]; rfl⟩
      rw [List.map_append]; assumption
    · rintro σ H2 ⟨cs, t, cp, v, rfl, F2, hc⟩
      dsimp only [List.cons_append, List.nil_append] at F2
      walk_at "z"
      refine k _ cp _ ?_
      rename_i p H3 F3
      have F4 := F3.sub (L' := [Z.En.ob p (.lst [.ref cp, .int 0, .int 0, .int t]), Z.En.ob cp (.lst (cs.map V.int))]) (by simp)
      refine ⟨fun e he => ?_, F4.2⟩
      cases List.mem_singleton.mp he
      exact ⟨cs, 0, 0, t, by omega, F4.get List.mem_cons_self, F4.get (List.mem_cons_of_mem _ List.mem_cons_self)⟩
theorem ok__law_hand (T : Txt K mg c_BadStretch c_Stretch c_ONE) : Z.Ok CX0 P w K mg base "_law_hand" 1 ["_law_script"] [] (sp__law_hand K) := by
  obtain ⟨f, fd, F, g⟩ := T.d__law_hand
  exact Z.mkOk F g (F.binds (ps := ["_law_script"]) fun _ _ _ _ _ _ us hl => match us, hl with | [_], _ => rfl) (fn__law_hand T F)
theorem sc__law_gcd : FnScope ["_law_one", "_law_other", "_law_turn", "_law_rest"] ["_law_one", "_law_other"] (defScope s__law_gcd) := ⟨rfl, rfl, rfl, by decide +kernel, rfl, by decide +kernel, by decide +kernel⟩
theorem halve {u v : Nat} (hv : 0 < v) (h : v ≤ u) : 2 * (v * (u % v)) ≤ u * v := by
  have e := Nat.div_add_mod u v
  have r := Nat.mod_lt u hv
  have q : 1 ≤ u / v := Nat.div_pos h hv
  have q2 : v * 1 ≤ v * (u / v) := Nat.mul_le_mul_left v q
  have k : 2 * (u % v) ≤ u := by omega
  calc 2 * (v * (u % v)) = v * (2 * (u % v)) := by rw [Nat.mul_left_comm]
    _ ≤ v * u := Nat.mul_le_mul_left v k
    _ = u * v := Nat.mul_comm _ _
theorem gcd_end {u v P : Nat} (h : v < u) (hp : u * v * 2 ^ 19999 ≤ P) (hP : P < 2 ^ 8000) : v = 0 := by
  rcases Nat.eq_zero_or_pos v with h0 | h0
  · exact h0
  · exfalso
    have uv : 1 ≤ u * v := Nat.mul_pos (by omega) h0
    have a : 1 * 2 ^ 19999 ≤ u * v * 2 ^ 19999 := Nat.mul_le_mul_right _ uv
    have b : (2 : Nat) ^ 8000 ≤ 2 ^ 19999 := Nat.pow_le_pow_right (by decide) (by decide)
    omega
def sp__law_gcd (K : PySem.W.Frag) : Sp := Z.Sp2 fun x y H Q E => ∃ a b : Int, x = .int a ∧ y = .int b ∧ Sz 4000 b ∧ Q (.int ((Nat.gcd a.natAbs b.natAbs : Nat) : Int)) H
theorem fn__law_gcd (T : Txt K mg c_BadStretch c_Stretch c_ONE) {f : Addr} {fd : FuncData} (F : Fun K "_law_gcd" "_law_gcd" s__law_gcd f fd) : FnOk P w K mg base CX0 1 f fd ["_law_one", "_law_other"] (sp__law_gcd K) := by
  refine F.ok sc__law_gcd (fun vs H Q E h => ?_) (fun cdv A outer s H vs Q E hr h => ?_)
  · obtain ⟨a, b, rfl, _⟩ := h; rfl
  · obtain ⟨a, b, rfl, h⟩ := h
    refine ⟨_, (pss_cons (ps_set (i := 0) sc__law_gcd.nd rfl (by first | exact Or.inl rfl | exact Or.inr rfl) (pe_callB Z.zAbs (by rfl) T.b_abs (by decide +kernel) (pa_cons (pv 0) pa_nil)))
      (pss_cons (ps_set (i := 1) sc__law_gcd.nd rfl (by first | exact Or.inl rfl | exact Or.inr rfl) (pe_callB Z.zAbs (by rfl) T.b_abs (by decide +kernel) (pa_cons (pv 1) pa_nil)))
      (pss_cons (ps_for PassesOwn.never (by rfl) (pi_range1 (by rfl) T.b_range (pa_cons pe_int pa_nil)) (pg_name (i := 2) sc__law_gcd.nd rfl (by first | exact Or.inl rfl | exact Or.inr rfl))
        (pss_cons (ps_if (pt_cmpR (Z.zEq (Z.hu0 hr)) (pv 1) pe_int (nomark _))
          (pss_one ps_break)
          pss_nil)
        (pss_cons (ps_set (i := 3) sc__law_gcd.nd rfl (by first | exact Or.inl rfl | exact Or.inr rfl) (pe_op Z.zMod (pe_callTy Z.zInt (by rfl) T.b_int (by decide +kernel) (pa_cons (pv 0) pa_nil)) (pv 1)))
        (pss_cons (ps_set (i := 0) sc__law_gcd.nd rfl (by first | exact Or.inl rfl | exact Or.inr rfl) (pv 1))
        (pss_one (ps_set (i := 1) sc__law_gcd.nd rfl (by first | exact Or.inl rfl | exact Or.inr rfl) (pv 3)))))))
      (pss_one (ps_ret (pv 0)))))), ?_⟩
    try dsimp only [cxOf, Cx.nox, Cx.wish]
    refine Z.at_start (σ' := [some a, some b, none, none]) rfl ?_
    obtain ⟨a, b, rfl, rfl, sb, k⟩ := h
    walk_at "z"
    have ha : ∀ a : Int, (if a < 0 then -a else a) = (a.natAbs : Int) := fun a => by split <;> omega
    rw [ha, ha]
    have hP : b.natAbs * (a.natAbs % b.natAbs) < 2 ^ 8000 := by
      rcases Nat.eq_zero_or_pos b.natAbs with h0 | h0
      · rw [h0, Nat.zero_mul]; exact Nat.two_pow_pos _
      · have r := Nat.mod_lt a.natAbs h0
        have sb' : b.natAbs < 2 ^ 4000 := sb
        have e : (2 : Nat) ^ 8000 = 2 ^ 4000 * 2 ^ 4000 := by rw [← Nat.pow_add]
        rw [e]
        exact Nat.mul_lt_mul'' sb' (Nat.lt_trans r sb')
    generalize hPe : b.natAbs * (a.natAbs % b.natAbs) = P at hP
    refine Z.wForW walk_range (fun i σ H' => ∃ (u v : Nat) (t r : Option V), σ = [some (.int u), some (.int v), t, r] ∧ H' = H ∧ Nat.gcd u v = Nat.gcd a.natAbs b.natAbs ∧ (i = 0 → u = a.natAbs ∧ v = b.natAbs) ∧ ∀ j, i = j + 1 → v < u ∧ u * v * 2 ^ j ≤ P) ⟨_, _, _, _, rfl, rfl, rfl, fun _ => ⟨rfl, rfl⟩, fun j e => nomatch e⟩ (fun _ _ _ _ _ => trivial) ?_ ?_
    · rintro i x σ H1 H2 hi ⟨u, v, t, r, rfl, rfl, hg, h0, h1⟩ ⟨rfl, rfl⟩
      walk_at "zg"
      walk_at "y"
      refine Z.wMidS (fun σ' H' => 0 < v ∧ ∃ t, σ' = [some (.int u), some (.int v), t, r] ∧ H' = H2) (fun N hk => ?_) ?_
      · walk_at "z"
        refine Z.wIfD (fun h => ?_) (fun h => ?_)
        · have hv : v = 0 := by omega
          subst hv
          walk_at "z"
          rw [Nat.gcd_zero_right] at hg
          rw [hg]
          exact k
        · walk_at "z"
          exact hk _ _ ⟨by omega, _, rfl, rfl⟩
      · rintro _ _ ⟨hv, t2, rfl, rfl⟩
        walk_at "z"
        refine ⟨v, u % v, _, some (.int (u % v : Nat)), by rw [Int.natCast_emod], rfl, ?_, (fun e => nomatch e), fun j e => ⟨Nat.mod_lt _ hv, ?_⟩⟩
        · rw [← hg, Nat.gcd_comm u v, Nat.gcd_rec v u, Nat.gcd_comm]
        · cases e
          rcases i with _ | i
          · obtain ⟨rfl, rfl⟩ := h0 rfl
            rw [hPe, Nat.pow_zero, Nat.mul_one]
            exact Nat.le_refl _
          · obtain ⟨lt, hp⟩ := h1 i rfl
            have := halve hv (Nat.le_of_lt lt)
            have e2 : v * (u % v) * 2 ^ (i + 1) = 2 * (v * (u % v)) * 2 ^ i := by rw [Nat.pow_succ]; rw [Nat.mul_comm (2 ^ i) 2, ← Nat.mul_assoc, Nat.mul_comm (v * (u % v)) 2]
            rw [e2]
            exact Nat.le_trans (Nat.mul_le_mul_right _ this) hp
    · rintro σ H1 ⟨u, v, t, r, rfl, rfl, hg, h0, h1⟩
      obtain ⟨lt, hp⟩ := h1 19999 rfl
      obtain rfl := gcd_end lt hp hP
      walk_at "z"
      rw [Nat.gcd_zero_right] at hg
      rw [hg]
      exact k
theorem ok__law_gcd (T : Txt K mg c_BadStretch c_Stretch c_ONE) : Z.Ok CX0 P w K mg base "_law_gcd" 1 ["_law_one", "_law_other"] [] (sp__law_gcd K) := by
  obtain ⟨f, fd, F, g⟩ := T.d__law_gcd
  exact Z.mkOk F g (F.binds (ps := ["_law_one", "_law_other"]) fun _ _ _ _ _ _ us hl => match us, hl with | [_, _], _ => rfl) (fn__law_gcd T F)
theorem use__law_gcd {H : Hp} {Q : VK} {E : XK} {a b : Int} (sb : Sz 4000 b) (k : Q (.int ((Nat.gcd a.natAbs b.natAbs : Nat) : Int)) H) : sp__law_gcd K [.int a, .int b] H Q E := ⟨_, _, rfl, a, b, rfl, rfl, sb, k⟩
theorem sc__law_ratio : FnScope ["_law_top", "_law_bottom", "_law_share"] ["_law_top", "_law_bottom"] (defScope s__law_ratio) := ⟨rfl, rfl, rfl, by decide +kernel, rfl, by decide +kernel, by decide +kernel⟩
def sp__law_ratio (K : PySem.W.Frag) : Sp := Z.Sp2 fun x y H Q E => ∃ (L : List Z.En) (t b : Int), x = .int t ∧ y = .int b ∧ 0 < b ∧ Sz 4000 b ∧ Z.Fx H L ∧ ∀ r H', Z.Fx H' (.ob r (.tup [.int (lowT t b), .int (lowB t b)]) :: L) → Q (.ref r) H'
theorem fn__law_ratio (T : Txt K mg c_BadStretch c_Stretch c_ONE) {f : Addr} {fd : FuncData} (F : Fun K "_law_ratio" "_law_ratio" s__law_ratio f fd) : FnOk P w K mg base CX0 2 f fd ["_law_top", "_law_bottom"] (sp__law_ratio K) := by
  have O__law_gcd := ok__law_gcd (P := P) (w := w) (base := base) T
  refine F.ok sc__law_ratio (fun vs H Q E h => ?_) (fun cdv A outer s H vs Q E hr h => ?_)
  · obtain ⟨a, b, rfl, _⟩ := h; rfl
  · obtain ⟨a, b, rfl, h⟩ := h
    refine ⟨_, (pss_cons (ps_set (i := 2) sc__law_ratio.nd rfl (by first | exact Or.inl rfl | exact Or.inr rfl) (Z.pe_callO O__law_gcd (by rfl) (hr.mono (by decide)) pass0 (pa_cons (pv 0) (pa_cons (pv 1) pa_nil))))
      (pss_one (ps_ret (pe_tup (pa_cons (pe_op Z.zDivA (pv 0) (pv 2)) (pa_cons (pe_op Z.zDivA (pv 1) (pv 2)) pa_nil)))))), ?_⟩
    try dsimp only [cxOf, Cx.nox, Cx.wish]
    refine Z.at_start (σ' := [some a, some b, none]) rfl ?_
    obtain ⟨L, t, b, rfl, rfl, hb, sb, F, k⟩ := h
    have e : ((Nat.gcd t.natAbs b.natAbs : Nat) : Int) = shr t b := by unfold shr; rw [if_neg (by omega)]
    walk_at "z"
    refine use__law_gcd sb ?_
    rw [e]
    have s0 := shr_ne (t := t) (b := b) (by omega)
    have s9 := (Sz.shr (t := t) sb (by omega)).log (by decide)
    walk_at "z"
    exact k _ _ (by assumption)
theorem ok__law_ratio (T : Txt K mg c_BadStretch c_Stretch c_ONE) : Z.Ok CX0 P w K mg base "_law_ratio" 2 ["_law_top", "_law_bottom"] [] (sp__law_ratio K) := by
  obtain ⟨f, fd, F, g⟩ := T.d__law_ratio
  exact Z.mkOk F g (F.binds (ps := ["_law_top", "_law_bottom"]) fun _ _ _ _ _ _ us hl => match us, hl with | [_, _], _ => rfl) (fn__law_ratio T F)
theorem use__law_ratio {H : Hp} {Q : VK} {E : XK} {L : List Z.En} {t b : Int} (hb : 0 < b) (sb : Sz 4000 b) (F : Z.Fx H L) (k : ∀ r H', Z.Fx H' (.ob r (.tup [.int (lowT t b), .int (lowB t b)]) :: L) → Q (.ref r) H') : sp__law_ratio K [.int t, .int b] H Q E := ⟨_, _, rfl, L, t, b, rfl, rfl, hb, sb, F, k⟩
theorem sc_compare : FnScope ["one", "other", "left", "right"] ["one", "other"] (defScope s_compare) := ⟨rfl, rfl, rfl, by decide +kernel, rfl, by decide +kernel, by decide +kernel⟩
/-- how a / b lies to c / d -/
def cmpI (a b c d : Int) : Int := if a * d = c * b then 0 else if a * d < c * b then -1 else 1
def sp_compare (K : PySem.W.Frag) : Sp := Z.Sp2 fun x y H Q E => ∃ (L : List Z.En) (a b c d : Int), Z.Fx H L ∧ Z.Rt K L x a b ∧ Z.Rt K L y c d ∧ Sz 1900 a ∧ Sz 1900 b ∧ Sz 1900 c ∧ Sz 1900 d ∧ Q (.int (cmpI a b c d)) H
theorem fn_compare (T : Txt K mg c_BadStretch c_Stretch c_ONE) {f : Addr} {fd : FuncData} (F : Fun K "compare" "compare" s_compare f fd) : FnOk P w K mg base CX0 1 f fd ["one", "other"] (sp_compare K) := by
  refine F.ok sc_compare (fun vs H Q E h => ?_) (fun cdv A outer s H vs Q E hr h => ?_)
  · obtain ⟨a, b, rfl, _⟩ := h; rfl
  · obtain ⟨a, b, rfl, h⟩ := h
    refine ⟨_, (pss_cons (ps_set (i := 2) sc_compare.nd rfl (by first | exact Or.inl rfl | exact Or.inr rfl) (pe_op Z.zMul (pe_ix ix_seq (pv 0) pe_int (fun _ _ => rfl)) (pe_ix ix_seq (pv 1) pe_int (fun _ _ => rfl))))
      (pss_cons (ps_set (i := 3) sc_compare.nd rfl (by first | exact Or.inl rfl | exact Or.inr rfl) (pe_op Z.zMul (pe_ix ix_seq (pv 1) pe_int (fun _ _ => rfl)) (pe_ix ix_seq (pv 0) pe_int (fun _ _ => rfl))))
      (pss_cons (ps_if (pt_cmpR (Z.zEq (Z.hu0 hr)) (pv 2) (pv 3) (nomark _))
        (pss_one (ps_ret pe_int))
        pss_nil)
      (pss_one (ps_ret (pe_ifExp (pt_cmpR Z.zLt (pv 2) (pv 3) (nomark _)) (pe_un un_neg pe_int) pe_int)))))), ?_⟩
    try dsimp only [cxOf, Cx.nox, Cx.wish]
    refine Z.at_start (σ' := [some a, some b, none, none]) rfl ?_
    obtain ⟨L, a, b, c, d, F, hx, hy, sa, sb, sc, sd, k⟩ := h
    obtain ⟨p, rfl, sp1⟩ := hx.sq F
    obtain ⟨q, rfl, sp2⟩ := hy.sq F
    have c1 : L2.CMulW a d := ratio_mul sa sd
    have c2 : L2.CMulW c b := ratio_mul sc sb
    unfold cmpI at k
    walk_at "z"
    refine Z.wIfD (fun h => ?_) (fun h => ?_)
    · rw [if_pos h] at k
      walk_at "z"
      exact k
    · rw [if_neg h] at k
      walk_at "z"
      refine Z.wIfD (fun h => ?_) (fun h => ?_)
      · rw [if_pos h] at k
        walk_at "z"
        exact k
      · rw [if_neg h] at k
        walk_at "z"
        exact k
theorem ok_compare (T : Txt K mg c_BadStretch c_Stretch c_ONE) : Z.Ok CX0 P w K mg base "compare" 1 ["one", "other"] [] (sp_compare K) := by
  obtain ⟨f, fd, F, g⟩ := T.d_compare
  exact Z.mkOk F g (F.binds (ps := ["one", "other"]) fun _ _ _ _ _ _ us hl => match us, hl with | [_, _], _ => rfl) (fn_compare T F)
theorem use_compare {H : Hp} {Q : VK} {E : XK} {L : List Z.En} {x y : V} {a b c d : Int} (F : Z.Fx H L) (hx : Z.Rt K L x a b) (hy : Z.Rt K L y c d) (sa : Sz 1900 a) (sb : Sz 1900 b) (sc : Sz 1900 c) (sd : Sz 1900 d) (k : Q (.int (cmpI a b c d)) H) : sp_compare K [x, y] H Q E := ⟨_, _, rfl, L, a, b, c, d, F, hx, hy, sa, sb, sc, sd, k⟩
theorem sc__is_below : FnScope ["high", "ratio"] ["high", "ratio"] (defScope s__is_below) := ⟨rfl, rfl, rfl, by decide +kernel, rfl, by decide +kernel, by decide +kernel⟩
/-- v is the ratio at a place -/
def PosV (S : List (Int × Int)) (L : List Z.En) (v : V) (i : Nat) : Prop := i < S.length ∧ ∃ p, v = .ref p ∧ Z.En.ob p (.tup [.int (plc S i).1, .int (plc S i).2]) ∈ L
/-- a high end: none, or a ratio -/
def HiV (S : List (Int × Int)) (L : List Z.En) (v : V) (j : Nat) : Prop := (j = S.length ∧ v = .non) ∨ PosV S L v j
theorem PosV.mono {S : List (Int × Int)} {L L' : List Z.En} {v : V} {i : Nat} (h : PosV S L v i) (s : ∀ e ∈ L, e ∈ L') : PosV S L' v i := let ⟨a, p, e, m⟩ := h; ⟨a, p, e, s _ m⟩
theorem HiV.mono {S : List (Int × Int)} {L L' : List Z.En} {v : V} {i : Nat} (h : HiV S L v i) (s : ∀ e ∈ L, e ∈ L') : HiV S L' v i := h.imp id fun q => q.mono s
theorem PosV.le {S : List (Int × Int)} {L L' : List Z.En} {v : V} {i : Nat} (h : PosV S L v i) (s : L.Sublist L') : PosV S L' v i := h.mono fun _ m => s.subset m
theorem HiV.le {S : List (Int × Int)} {L L' : List Z.En} {v : V} {i : Nat} (h : HiV S L v i) (s : L.Sublist L') : HiV S L' v i := h.mono fun _ m => s.subset m
theorem PosV.rt {K : PySem.W.Frag} {S : List (Int × Int)} {L : List Z.En} {v : V} {i : Nat} (h : PosV S L v i) : Z.Rt K L v (plc S i).1 (plc S i).2 := let ⟨_, p, e, m⟩ := h; ⟨p, e, .inl m⟩
theorem HiV.lt {S : List (Int × Int)} {L : List Z.En} {v : V} {j : Nat} (h : HiV S L v j) : j ≤ S.length := h.elim (fun e => Nat.le_of_eq e.1) fun p => Nat.le_of_lt p.1
theorem scale_cmp {S : List (Int × Int)} (s : Scale S) {i j : Nat} (hi : i < S.length) (hj : j < S.length) : cmpI (plc S i).1 (plc S i).2 (plc S j).1 (plc S j).2 = sg i j := by
  unfold cmpI sg
  rcases Nat.lt_trichotomy i j with g | g | g
  · have := s.asc i j g hj
    have n1 : ¬ (plc S i).1 * (plc S j).2 = (plc S j).1 * (plc S i).2 := by omega
    rw [if_neg n1, if_pos this, if_neg (show ¬ i = j by omega), if_pos g]
  · subst g
    rw [if_pos rfl, if_pos rfl]
  · have := s.asc j i g hi
    have n1 : ¬ (plc S i).1 * (plc S j).2 = (plc S j).1 * (plc S i).2 := by omega
    have n2 : ¬ (plc S i).1 * (plc S j).2 < (plc S j).1 * (plc S i).2 := by omega
    rw [if_neg n1, if_neg n2, if_neg (show ¬ i = j by omega), if_neg (show ¬ i < j by omega)]
theorem use_cmpR {S : List (Int × Int)} {H : Hp} {Q : VK} {E : XK} {L : List Z.En} {x y : V} {i j : Nat} (F : Z.Fx H L) (s : Scale S) (hi : i < S.length) (hj : j < S.length) (hx : Z.Rt K L x (plc S i).1 (plc S i).2) (hy : Z.Rt K L y (plc S j).1 (plc S j).2) (k : Q (.int (sg i j)) H) : sp_compare K [x, y] H Q E := by
  obtain ⟨_, _, a1, a2⟩ := s.ok i hi
  obtain ⟨_, _, b1, b2⟩ := s.ok j hj
  refine use_compare F hx hy (a1.mono (by decide)) (a2.mono (by decide)) (b1.mono (by decide)) (b2.mono (by decide)) ?_
  rw [scale_cmp s hi hj]
  exact k
theorem use_cmpP {S : List (Int × Int)} {H : Hp} {Q : VK} {E : XK} {L : List Z.En} {x y : V} {i j : Nat} (F : Z.Fx H L) (s : Scale S) (hx : PosV S L x i) (hy : PosV S L y j) (k : Q (.int (sg i j)) H) : sp_compare K [x, y] H Q E := use_cmpR F s hx.1 hy.1 hx.rt hy.rt k
def sp__is_below (K : PySem.W.Frag) : Sp := Z.Sp2 fun x y H Q E => ∃ (L : List Z.En) (S : List (Int × Int)) (j i : Nat), Z.Fx H L ∧ Scale S ∧ HiV S L x j ∧ PosV S L y i ∧ Q (.bl (decide (j < i))) H
theorem fn__is_below (T : Txt K mg c_BadStretch c_Stretch c_ONE) {f : Addr} {fd : FuncData} (F : Fun K "_is_below" "_is_below" s__is_below f fd) : FnOk P w K mg base CX0 2 f fd ["high", "ratio"] (sp__is_below K) := by
  have O_compare := ok_compare (P := P) (w := w) (base := base) T
  refine F.ok sc__is_below (fun vs H Q E h => ?_) (fun cdv A outer s H vs Q E hr h => ?_)
  · obtain ⟨a, b, rfl, _⟩ := h; rfl
  · obtain ⟨a, b, rfl, h⟩ := h
    refine ⟨_, (pss_one (ps_ret (pe_andT (pe_cmpR Z.zIsNot (pv 0) pe_non (nomark _)) (pe_one (pe_cmpR Z.zLt (Z.pe_callO O_compare (by rfl) (hr.mono (by decide)) pass0 (pa_cons (pv 0) (pa_cons (pv 1) pa_nil))) pe_int (nomark _)))))), ?_⟩
    try dsimp only [cxOf, Cx.nox, Cx.wish]
    refine Z.at_start (σ' := [some a, some b]) rfl ?_
    obtain ⟨L, S, j, i, F, s, hx, hy, q⟩ := h
    have hi := hy.1
    rcases hx with ⟨rfl, rfl⟩ | hx
    · walk_at "z"
      rw [decide_eq_false (by omega)] at q
      exact q
    · obtain ⟨hj, p, rfl, mp⟩ := id hx
      walk_at "z"
      refine use_cmpP F s hx hy ?_
      walk_at "z"
      rw [decide_eq_decide.mpr sg_neg]
      exact q
theorem ok__is_below (T : Txt K mg c_BadStretch c_Stretch c_ONE) : Z.Ok CX0 P w K mg base "_is_below" 2 ["high", "ratio"] [] (sp__is_below K) := by
  obtain ⟨f, fd, F, g⟩ := T.d__is_below
  exact Z.mkOk F g (F.binds (ps := ["high", "ratio"]) fun _ _ _ _ _ _ us hl => match us, hl with | [_, _], _ => rfl) (fn__is_below T F)
theorem use__is_below {H : Hp} {Q : VK} {E : XK} {L : List Z.En} {S : List (Int × Int)} {x y : V} {j i : Nat} (F : Z.Fx H L) (s : Scale S) (hx : HiV S L x j) (hy : PosV S L y i) (q : Q (.bl (decide (j < i))) H) : sp__is_below K [x, y] H Q E := ⟨_, _, rfl, L, S, j, i, F, s, hx, hy, q⟩
theorem sc__law_mid : FnScope ["_law_one", "_law_other"] ["_law_one", "_law_other"] (defScope s__law_mid) := ⟨rfl, rfl, rfl, by decide +kernel, rfl, by decide +kernel, by decide +kernel⟩
/-- the lowest form of the mean -/
def midR (x y : Int × Int) : Int × Int := (lowT (x.1 * y.2 + y.1 * x.2) (2 * x.2 * y.2), lowB (x.1 * y.2 + y.1 * x.2) (2 * x.2 * y.2))
def sp__law_mid (K : PySem.W.Frag) : Sp := Z.Sp2 fun x y H Q E => ∃ (L : List Z.En) (r t : Int × Int), Z.Fx H L ∧ Z.Rt K L x r.1 r.2 ∧ Z.Rt K L y t.1 t.2 ∧ Sz 110 r.1 ∧ Sz 110 r.2 ∧ Sz 110 t.1 ∧ Sz 110 t.2 ∧ 1 ≤ r.2 ∧ 1 ≤ t.2 ∧ ∀ p H', Z.Fx H' (.ob p (.tup [.int (midR r t).1, .int (midR r t).2]) :: L) → Q (.ref p) H'
theorem fn__law_mid (T : Txt K mg c_BadStretch c_Stretch c_ONE) {f : Addr} {fd : FuncData} (F : Fun K "_law_mid" "_law_mid" s__law_mid f fd) : FnOk P w K mg base CX0 3 f fd ["_law_one", "_law_other"] (sp__law_mid K) := by
  have O__law_ratio := ok__law_ratio (P := P) (w := w) (base := base) T
  refine F.ok sc__law_mid (fun vs H Q E h => ?_) (fun cdv A outer s H vs Q E hr h => ?_)
  · obtain ⟨a, b, rfl, _⟩ := h; rfl
  · obtain ⟨a, b, rfl, h⟩ := h
    refine ⟨_, (pss_one (ps_ret (Z.pe_callO O__law_ratio (by rfl) (hr.mono (by decide)) pass0 (pa_cons (pe_op Z.zAdd (pe_op Z.zMul (pe_ix ix_seq (pv 0) pe_int (fun _ _ => rfl)) (pe_ix ix_seq (pv 1) pe_int (fun _ _ => rfl))) (pe_op Z.zMul (pe_ix ix_seq (pv 1) pe_int (fun _ _ => rfl)) (pe_ix ix_seq (pv 0) pe_int (fun _ _ => rfl)))) (pa_cons (pe_op Z.zMul (pe_op Z.zMul pe_int (pe_ix ix_seq (pv 0) pe_int (fun _ _ => rfl))) (pe_ix ix_seq (pv 1) pe_int (fun _ _ => rfl))) pa_nil))))), ?_⟩
    try dsimp only [cxOf, Cx.nox, Cx.wish]
    refine Z.at_start (σ' := [some a, some b]) rfl ?_
    obtain ⟨L, r, t, F, hx, hy, sa, sb, sc, sd, b1, d1, k⟩ := h
    obtain ⟨p, rfl, sp1⟩ := hx.sq F
    obtain ⟨q, rfl, sp2⟩ := hy.sq F
    have c1 : L2.CMulW r.1 t.2 := ratio_mul sa sd
    have c2 : L2.CMulW t.1 r.2 := ratio_mul sc sb
    have s2 : Sz 2 2 := by unfold Sz; decide
    have c3 : L2.CMulW 2 r.2 := ratio_mul s2 sb
    have c4 : L2.CMulW (2 * r.2) t.2 := ratio_mul (s2.mul sb) sd
    walk_at "z"
    refine use__law_ratio (Int.mul_pos (by omega) (by omega)) (((s2.mul sb).mul sd).mono (by decide)) F fun p H' F' => ?_
    exact k p H' F'
theorem ok__law_mid (T : Txt K mg c_BadStretch c_Stretch c_ONE) : Z.Ok CX0 P w K mg base "_law_mid" 3 ["_law_one", "_law_other"] [] (sp__law_mid K) := by
  obtain ⟨f, fd, F, g⟩ := T.d__law_mid
  exact Z.mkOk F g (F.binds (ps := ["_law_one", "_law_other"]) fun _ _ _ _ _ _ us hl => match us, hl with | [_, _], _ => rfl) (fn__law_mid T F)
theorem use__law_mid {H : Hp} {Q : VK} {E : XK} {L : List Z.En} {x y : V} {r t : Int × Int} (F : Z.Fx H L) (hx : Z.Rt K L x r.1 r.2) (hy : Z.Rt K L y t.1 t.2) (sa : Sz 110 r.1) (sb : Sz 110 r.2) (sc : Sz 110 t.1) (sd : Sz 110 t.2) (b1 : 1 ≤ r.2) (d1 : 1 ≤ t.2) (k : ∀ p H', Z.Fx H' (.ob p (.tup [.int (midR r t).1, .int (midR r t).2]) :: L) → Q (.ref p) H') : sp__law_mid K [x, y] H Q E := ⟨_, _, rfl, L, r, t, F, hx, hy, sa, sb, sc, sd, b1, d1, k⟩
theorem sc__law_mix : FnScope ["_law_number", "_law_turn", "_law_once", "_law_twice"] ["_law_number", "_law_turn"] (defScope s__law_mix) := ⟨rfl, rfl, rfl, by decide +kernel, rfl, by decide +kernel, by decide +kernel⟩
def sp__law_mix : Sp := Z.Sp2 fun a b H Q E => ∃ x y : Int, a = .int x ∧ b = .int y ∧ ∀ v : Int, Q (.int v) H
theorem fn__law_mix (T : Txt K mg c_BadStretch c_Stretch c_ONE) {f : Addr} {fd : FuncData} (F : Fun K "_law_mix" "_law_mix" s__law_mix f fd) : FnOk P w K mg base CX0 1 f fd ["_law_number", "_law_turn"] sp__law_mix := by
  refine F.ok sc__law_mix (fun vs H Q E h => ?_) (fun cdv A outer s H vs Q E hr h => ?_)
  · obtain ⟨a, b, rfl, _⟩ := h; rfl
  · obtain ⟨a, b, rfl, h⟩ := h
    refine ⟨_, (pss_cons (ps_set (i := 2) sc__law_mix.nd rfl (by first | exact Or.inl rfl | exact Or.inr rfl) (pe_op Z.zMod (pe_callTy Z.zInt (by rfl) T.b_int (by decide +kernel) (pa_cons (pe_op Z.zAdd (pe_op Z.zAdd (pe_op Z.zMul (pv 0) pe_int) (pe_op Z.zMul (pv 1) pe_int)) pe_int) pa_nil)) pe_int))
      (pss_cons (ps_set (i := 3) sc__law_mix.nd rfl (by first | exact Or.inl rfl | exact Or.inr rfl) (pe_op Z.zMod (pe_callTy Z.zInt (by rfl) T.b_int (by decide +kernel) (pa_cons (pe_op Z.zAdd (pe_op Z.zAdd (pe_op Z.zMul (pv 2) (pv 2)) (pe_op Z.zMul (pe_op Z.zDiv (pv 2) pe_int) pe_int)) (pe_op Z.zMul (pv 1) pe_int)) pa_nil)) pe_int))
      (pss_one (ps_ret (pe_op Z.zDiv (pe_op Z.zMod (pe_callTy Z.zInt (by rfl) T.b_int (by decide +kernel) (pa_cons (pe_op Z.zAdd (pe_op Z.zDiv (pe_op Z.zMul (pv 3) (pv 3)) pe_int) (pv 2)) pa_nil)) pe_int) pe_int))))), ?_⟩
    try dsimp only [cxOf, Cx.nox, Cx.wish]
    refine Z.at_start (σ' := [some a, some b, none, none]) rfl ?_
    obtain ⟨x, y, rfl, rfl, k⟩ := h
    walk_at "z"
    exact k _
theorem ok__law_mix (T : Txt K mg c_BadStretch c_Stretch c_ONE) : Z.Ok CX0 P w K mg base "_law_mix" 1 ["_law_number", "_law_turn"] [] sp__law_mix := by
  obtain ⟨f, fd, F, g⟩ := T.d__law_mix
  exact Z.mkOk F g (F.binds (ps := ["_law_number", "_law_turn"]) fun _ _ _ _ _ _ us hl => match us, hl with | [_, _], _ => rfl) (fn__law_mix T F)
theorem use__law_mix {H : Hp} {Q : VK} {E : XK} {x y : Int} (k : ∀ v : Int, Q (.int v) H) : sp__law_mix [.int x, .int y] H Q E := ⟨_, _, rfl, x, y, rfl, rfl, k⟩
local macro_rules | `(tactic| walk_at "zc") => `(tactic| (with_reducible refine use__law_mix ?_; intro _))
theorem sc__law_draw : FnScope ["_law_hand_here", "_law_many", "_law_cell", "_law_rest"] ["_law_hand_here", "_law_many"] (defScope s__law_draw) := ⟨rfl, rfl, rfl, by decide +kernel, rfl, by decide +kernel, by decide +kernel⟩
/-- a draw below m -/
def sp__law_draw : Sp := Z.Sp2 fun a b H Q E => ∃ (L : List Z.En) (l c : Addr) (m : Int), a = .ref l ∧ b = .int m ∧ Z.Fx H L ∧ Z.En.hand l c ∈ L ∧ 0 < m ∧ m.natAbs.log2 < 9000 ∧ ∀ (v : Int) H', Z.Fx H' L → 0 ≤ v → v < m → Q (.int v) H'
theorem fn__law_draw (T : Txt K mg c_BadStretch c_Stretch c_ONE) {f : Addr} {fd : FuncData} (F : Fun K "_law_draw" "_law_draw" s__law_draw f fd) : FnOk P w K mg base CX0 2 f fd ["_law_hand_here", "_law_many"] sp__law_draw := by
  have O__law_mix := ok__law_mix (P := P) (w := w) (base := base) T
  refine F.ok sc__law_draw (fun vs H Q E h => ?_) (fun cdv A outer s H vs Q E hr h => ?_)
  · obtain ⟨a, b, rfl, _⟩ := h; rfl
  · obtain ⟨a, b, rfl, h⟩ := h
    refine ⟨_, (pss_cons (ps_if (PW.pt (pw_and (pt_cmpR (Z.zEq (Z.hu0 hr)) (pe_ix ix_seq (pv 0) pe_int (fun _ _ => rfl)) pe_int (nomark _)) (pw_and1 (pt_cmpR Z.zLt (pe_ix ix_seq (pv 0) pe_int (fun _ _ => rfl)) (pe_callB Z.zLen (by rfl) T.b_len (by decide +kernel) (pa_cons (pe_ix ix_seq (pv 0) pe_int (fun _ _ => rfl)) pa_nil)) (nomark _)))))
        (pss_cons (ps_set (i := 2) sc__law_draw.nd rfl (by first | exact Or.inl rfl | exact Or.inr rfl) (pe_ix ix_seq (pe_ix ix_seq (pv 0) pe_int (fun _ _ => rfl)) (pe_ix ix_seq (pv 0) pe_int (fun _ _ => rfl)) (fun _ _ => rfl)))
        (pss_cons (ps_asg (pe_op Z.zAdd (pe_ix ix_seq (pv 0) pe_int (fun _ _ => rfl)) pe_int) (pg_sub (pv 0) pe_int set_list))
        (pss_cons (ps_if (pt_cmpR Z.zLt (pv 2) (pe_op Z.zPow pe_int pe_int) (nomark _))
          (pss_one (ps_ret (pe_op Z.zMod (pe_callTy Z.zInt (by rfl) T.b_int (by decide +kernel) (pa_cons (Z.pe_callO O__law_mix (by rfl) (hr.mono (by decide)) pass0 (pa_cons (pe_op Z.zMod (pe_callTy Z.zInt (by rfl) T.b_int (by decide +kernel) (pa_cons (pv 2) pa_nil)) pe_int) (pa_cons (pe_ix ix_seq (pv 0) pe_int (fun _ _ => rfl)) pa_nil))) pa_nil)) (pv 1))))
          pss_nil)
        (pss_one (ps_asg (pv 2) (pg_sub (pv 0) pe_int set_list))))))
        pss_nil)
      (pss_cons (ps_if (pt_cmpR Z.zGt (pe_ix ix_seq (pv 0) pe_int (fun _ _ => rfl)) pe_int (nomark _))
        (pss_cons (ps_set (i := 3) sc__law_draw.nd rfl (by first | exact Or.inl rfl | exact Or.inr rfl) (pe_ix ix_seq (pv 0) pe_int (fun _ _ => rfl)))
        (pss_cons (ps_asg (pe_op Z.zDiv (pe_callTy Z.zInt (by rfl) T.b_int (by decide +kernel) (pa_cons (pv 3) pa_nil)) (pv 1)) (pg_sub (pv 0) pe_int set_list))
        (pss_one (ps_ret (pe_op Z.zMod (pe_callTy Z.zInt (by rfl) T.b_int (by decide +kernel) (pa_cons (pv 3) pa_nil)) (pv 1))))))
        pss_nil)
      (pss_cons (ps_asg (pe_op Z.zMod (pe_callTy Z.zInt (by rfl) T.b_int (by decide +kernel) (pa_cons (pe_op Z.zAdd (pe_ix ix_seq (pv 0) pe_int (fun _ _ => rfl)) pe_int) pa_nil)) pe_int) (pg_sub (pv 0) pe_int set_list))
      (pss_one (ps_ret (pe_op Z.zMod (pe_callTy Z.zInt (by rfl) T.b_int (by decide +kernel) (pa_cons (Z.pe_callO O__law_mix (by rfl) (hr.mono (by decide)) pass0 (pa_cons (pe_ix ix_seq (pv 0) pe_int (fun _ _ => rfl)) (pa_cons (pe_ix ix_seq (pv 0) pe_int (fun _ _ => rfl)) pa_nil))) pa_nil)) (pv 1))))))), ?_⟩
    try dsimp only [cxOf, Cx.nox, Cx.wish]
    refine Z.at_start (σ' := [some a, some b, none, none]) rfl ?_
    obtain ⟨L, l, c, m, rfl, rfl, F, hm, h0, h9, k⟩ := h
    obtain ⟨ns, i, j, t, L1, hi, G, back⟩ := F.open hm
    clear F hm
    walk_at "zz"
    all_goals (refine' k _ _ (back _ _ _ _ _ ?hiz ?fxz) (Int.emod_nonneg _ (by omega)) (Int.emod_lt_of_pos _ h0); (case fxz => assumption); (case hiz => omega))
theorem ok__law_draw (T : Txt K mg c_BadStretch c_Stretch c_ONE) : Z.Ok CX0 P w K mg base "_law_draw" 2 ["_law_hand_here", "_law_many"] [] sp__law_draw := by
  obtain ⟨f, fd, F, g⟩ := T.d__law_draw
  exact Z.mkOk F g (F.binds (ps := ["_law_hand_here", "_law_many"]) fun _ _ _ _ _ _ us hl => match us, hl with | [_, _], _ => rfl) (fn__law_draw T F)
theorem use__law_draw {H : Hp} {Q : VK} {E : XK} {L : List Z.En} {l c : Addr} {m : Int} (F : Z.Fx H L) (hm : Z.En.hand l c ∈ L) (h0 : 0 < m) (h9 : m.natAbs.log2 < 9000) (k : ∀ (v : Int) H', Z.Fx H' L → 0 ≤ v → v < m → Q (.int v) H') : sp__law_draw [.ref l, .int m] H Q E :=
  ⟨_, _, rfl, L, l, c, m, rfl, rfl, F, hm, h0, h9, k⟩
local macro_rules | `(tactic| walk_at "zc") => `(tactic| ((with_reducible refine' use__law_draw ?zf ?zm ?z0 ?z9 ?_); (case zf => walk_at "zF"); (case zm => walk_at "zm"); (case z0 => first | walk_at "zo" | decide); (case z9 => walk_at "zlog"); with_reducible intro _ _ _ _ _))
theorem sc__law_brick_ratio : FnScope ["_law_hand_here", "_law_manner", "_law_low"] ["_law_hand_here"] (defScope s__law_brick_ratio) := ⟨rfl, rfl, rfl, by decide +kernel, rfl, by decide +kernel, by decide +kernel⟩
/-- a ratio above 1 in lowest terms -/
def BR (r : Int × Int) : Prop := 1 ≤ r.2 ∧ r.2 < r.1 ∧ Nat.gcd r.1.natAbs r.2.natAbs = 1 ∧ Sz 110 r.1 ∧ Sz 110 r.2
theorem low_BR {t b : Int} (hb : 0 < b) (h : b < t) (st : t < 2 ^ 110) : BR (lowT t b, lowB t b) := by
  obtain ⟨e1, e2, l1, g, l3, l4⟩ := low_spec (t := t) (b := b) (by omega)
  have p110 : ((2 ^ 110 : Nat) : Int) = 2 ^ 110 := by rw [Int.natCast_pow]; rfl
  have sT : Sz 110 t := by unfold Sz; omega
  have sB : Sz 110 b := by unfold Sz; omega
  have hs : 0 < shr t b := by
    have := shr_ne (t := t) (b := b) (by omega)
    unfold shr at *
    rw [if_neg (by omega)] at *
    omega
  refine ⟨l1, ?_, g, sT.lowT (by omega), sB.lowB (by omega)⟩
  dsimp only
  rcases Int.lt_or_le (lowB t b) (lowT t b) with h1 | h1
  · exact h1
  · have := Int.mul_le_mul_of_nonneg_left h1 (Int.le_of_lt hs)
    omega
def sp__law_brick_ratio (K : PySem.W.Frag) : Sp := Z.Sp1 fun a H Q E => ∃ (L : List Z.En) (l c : Addr), a = .ref l ∧ Z.Fx H L ∧ Z.En.hand l c ∈ L ∧ ∀ p r H', BR r → Z.Fx H' (.ob p (.tup [.int r.1, .int r.2]) :: L) → Q (.ref p) H'
theorem fn__law_brick_ratio (T : Txt K mg c_BadStretch c_Stretch c_ONE) {f : Addr} {fd : FuncData} (F : Fun K "_law_brick_ratio" "_law_brick_ratio" s__law_brick_ratio f fd) : FnOk P w K mg base CX0 3 f fd ["_law_hand_here"] (sp__law_brick_ratio K) := by
  have O__law_draw := ok__law_draw (P := P) (w := w) (base := base) T
  have O__law_ratio := ok__law_ratio (P := P) (w := w) (base := base) T
  refine F.ok sc__law_brick_ratio (fun vs H Q E h => ?_) (fun cdv A outer s H vs Q E hr h => ?_)
  · obtain ⟨a, rfl, _⟩ := h; rfl
  · obtain ⟨a, rfl, h⟩ := h
    refine ⟨_, (pss_cons (ps_set (i := 1) sc__law_brick_ratio.nd rfl (by first | exact Or.inl rfl | exact Or.inr rfl) (Z.pe_callO O__law_draw (by rfl) (hr.mono (by decide)) pass0 (pa_cons (pv 0) (pa_cons pe_int pa_nil))))
      (pss_cons (ps_if (pt_cmpR (Z.zEq (Z.hu0 hr)) (pv 1) pe_int (nomark _))
        (pss_cons (ps_set (i := 2) sc__law_brick_ratio.nd rfl (by first | exact Or.inl rfl | exact Or.inr rfl) (pe_op Z.zAdd pe_int (Z.pe_callO O__law_draw (by rfl) (hr.mono (by decide)) pass0 (pa_cons (pv 0) (pa_cons (pe_op Z.zPow pe_int pe_int) pa_nil)))))
        (pss_one (ps_ret (Z.pe_callO O__law_ratio (by rfl) (hr.mono (by decide)) pass0 (pa_cons (pe_op Z.zAdd (pe_op Z.zAdd (pv 2) pe_int) (Z.pe_callO O__law_draw (by rfl) (hr.mono (by decide)) pass0 (pa_cons (pv 0) (pa_cons (pe_op Z.zPow pe_int pe_int) pa_nil)))) (pa_cons (pv 2) pa_nil))))))
        pss_nil)
      (pss_cons (ps_if (pt_cmpR (Z.zEq (Z.hu0 hr)) (pv 1) pe_int (nomark _))
        (pss_cons (ps_set (i := 2) sc__law_brick_ratio.nd rfl (by first | exact Or.inl rfl | exact Or.inr rfl) (pe_op Z.zAdd pe_int (Z.pe_callO O__law_draw (by rfl) (hr.mono (by decide)) pass0 (pa_cons (pv 0) (pa_cons (pe_op Z.zPow pe_int pe_int) pa_nil)))))
        (pss_one (ps_ret (Z.pe_callO O__law_ratio (by rfl) (hr.mono (by decide)) pass0 (pa_cons (pe_op Z.zAdd (pv 2) pe_int) (pa_cons (pv 2) pa_nil))))))
        pss_nil)
      (pss_cons (ps_if (pt_cmpR (Z.zEq (Z.hu0 hr)) (pv 1) pe_int (nomark _))
        (pss_one (ps_ret (pe_tup (pa_cons (pe_op Z.zAdd pe_int (Z.pe_callO O__law_draw (by rfl) (hr.mono (by decide)) pass0 (pa_cons (pv 0) (pa_cons pe_int pa_nil)))) (pa_cons pe_int pa_nil)))))
        pss_nil)
      (pss_cons (ps_set (i := 2) sc__law_brick_ratio.nd rfl (by first | exact Or.inl rfl | exact Or.inr rfl) (pe_op Z.zAdd pe_int (Z.pe_callO O__law_draw (by rfl) (hr.mono (by decide)) pass0 (pa_cons (pv 0) (pa_cons pe_int pa_nil)))))
      (pss_one (ps_ret (Z.pe_callO O__law_ratio (by rfl) (hr.mono (by decide)) pass0 (pa_cons (pe_op Z.zAdd (pe_op Z.zAdd (pv 2) pe_int) (Z.pe_callO O__law_draw (by rfl) (hr.mono (by decide)) pass0 (pa_cons (pv 0) (pa_cons (pe_op Z.zMul pe_int (pv 2)) pa_nil)))) (pa_cons (pv 2) pa_nil)))))))))), ?_⟩
    try dsimp only [cxOf, Cx.nox, Cx.wish]
    refine Z.at_start (σ' := [some a, none, none]) rfl ?_
    obtain ⟨L, l, c, rfl, F, hm, q⟩ := h
    have p30 : (10 : Int) ^ Int.toNat 30 = 1000000000000000000000000000000 := by decide
    have p6 : (10 : Int) ^ Int.toNat 6 = 1000000 := by decide
    have p110 : (2 : Int) ^ 110 = 1298074214633706907132624082305024 := by decide
    have sz : ∀ {b : Int}, 0 < b → b < 2 ^ 110 → Sz 4000 b := fun {b} h0 h1 => Sz.mono (k := 110) (by
      have e : ((2 ^ 110 : Nat) : Int) = 2 ^ 110 := by rw [Int.natCast_pow]; rfl
      unfold Sz; omega) (by decide)
    walk_at "z"
    rename_i v1 H1 F1 v10 v11
    refine Z.wIfD (fun h => ?_) (fun h => ?_)
    · walk_at "z"
      rename_i v2 H2 F2 v20 v21 v3 H3 F3 v30 v31
      rw [p30] at *
      refine use__law_ratio (by omega) (sz (by omega) (by omega)) F3 fun r H4 F4 => ?_
      exact q r _ H4 (low_BR (by omega) (by omega) (by omega)) F4
    walk_at "z"
    refine Z.wIfD (fun h => ?_) (fun h => ?_)
    · walk_at "z"
      rename_i v2 H2 F2 v20 v21
      rw [p6] at *
      refine use__law_ratio (by omega) (sz (by omega) (by omega)) F2 fun r H4 F4 => ?_
      exact q r _ H4 (low_BR (by omega) (by omega) (by omega)) F4
    walk_at "z"
    refine Z.wIfD (fun h => ?_) (fun h => ?_)
    · walk_at "z"
      rename_i v2 H2 F2 v20 v21 p3 H3 F3
      refine q p3 (2 + v2, 1) H3 ⟨by show (1 : Int) ≤ 1; decide, by show (1 : Int) < 2 + v2; omega, by simp, ?_, ?_⟩ F3
      · exact Sz.mono (k := 10) (by unfold Sz; simp only; omega) (by decide)
      · exact Sz.mono (k := 10) (by unfold Sz; simp only; omega) (by decide)
    walk_at "z"
    rename_i vL H2 F2 vL0 vL1 v2 H3 F3 v20 v21
    refine use__law_ratio (by omega) (sz (by omega) (by omega)) F3 fun r H4 F4 => ?_
    exact q r _ H4 (low_BR (by omega) (by omega) (by omega)) F4
theorem ok__law_brick_ratio (T : Txt K mg c_BadStretch c_Stretch c_ONE) : Z.Ok CX0 P w K mg base "_law_brick_ratio" 3 ["_law_hand_here"] [] (sp__law_brick_ratio K) := by
  obtain ⟨f, fd, F, g⟩ := T.d__law_brick_ratio
  exact Z.mkOk F g (F.binds (ps := ["_law_hand_here"]) fun _ _ _ _ _ _ us hl => match us, hl with | [_], _ => rfl) (fn__law_brick_ratio T F)
theorem use__law_brick_ratio {H : Hp} {Q : VK} {E : XK} {L : List Z.En} {l c : Addr} (F : Z.Fx H L) (hm : Z.En.hand l c ∈ L) (q : ∀ p r H', BR r → Z.Fx H' (.ob p (.tup [.int r.1, .int r.2]) :: L) → Q (.ref p) H') : sp__law_brick_ratio K [.ref l] H Q E := ⟨_, rfl, L, l, c, rfl, F, hm, q⟩
theorem sc_is_whole : FnScope ["thing", "low", "high"] ["thing", "low", "high"] (defScope s_is_whole) := ⟨rfl, rfl, rfl, by decide +kernel, rfl, by decide +kernel, by decide +kernel⟩
/-- what a bound may be -/
def isBd (v : V) : Prop := v = .non ∨ ∃ i, v = .int i
def sp_is_whole (K : PySem.W.Frag) : Sp := Z.Sp3 fun a b c H Q E => ∃ k, Z.HasK K H a k ∧ isBd b ∧ isBd c ∧ Q (.bl (Z.inB a b c)) H
theorem fn_is_whole (T : Txt K mg c_BadStretch c_Stretch c_ONE) {f : Addr} {fd : FuncData} (F : FunD K "is_whole" "is_whole" (defArgs s_is_whole) (defBody s_is_whole) (defScope s_is_whole) [.non, .non] [] f fd) : FnOk P w K mg base CX0 1 f fd ["thing", "low", "high"] (sp_is_whole K) := by
  refine F.ok (CX := CX0) sc_is_whole (fun vs H Q E h => ?_) (fun cdv A outer s H vs Q E hr h => ?_)
  · obtain ⟨a, b, c, rfl, _⟩ := h; rfl
  · obtain ⟨a, b, c, rfl, h⟩ := h
    refine ⟨_, (pss_cons (ps_if (PW.pt (pw_or (pt_not (Z.pt_truN (pe_callB Z.zIsi (by rfl) T.b_isinstance (by decide +kernel) (pa_cons (pv 0) (pa_cons (pe_bltn (by rfl) T.b_int (by decide +kernel) (show RelV (.ty "int") _ from rfl)) pa_nil))))) (pw_or1 (Z.pt_truN (pe_callB Z.zIsi (by rfl) T.b_isinstance (by decide +kernel) (pa_cons (pv 0) (pa_cons (pe_bltn (by rfl) T.b_bool (by decide +kernel) (show RelV (.ty "bool") _ from rfl)) pa_nil)))))))
        (pss_one (ps_ret pe_bl))
        pss_nil)
      (pss_one (ps_ret (pe_andT (pe_orT (pe_cmpR Z.zIs (pv 1) pe_non (nomark _)) (pe_one (pe_cmpR Z.zGe (pv 0) (pv 1) (nomark _)))) (pe_one (pe_orT (pe_cmpR Z.zIs (pv 2) pe_non (nomark _)) (pe_one (pe_cmpR Z.zLe (pv 0) (pv 2) (nomark _))))))))), ?_⟩
    try dsimp only [cxOf, Cx.nox, Cx.wish]
    refine Z.at_start (σ' := [some a, some b, some c]) rfl ?_
    obtain ⟨k, hk, hb, hc, q⟩ := h
    walk_at "z"
    refine Z.wIsiInt hk ?_
    cases hk with
    | int i =>
      walk_at "z"
      refine Z.wIsiBool (.int i) ?_
      rcases hb with rfl | ⟨lo, rfl⟩ <;> rcases hc with rfl | ⟨hi, rfl⟩ <;> walk_at "zz"
      all_goals simpa [Z.inB, *] using q
    | bl b =>
      walk_at "z"
      refine Z.wIsiBool (.bl b) ?_
      walk_at "z"
      exact q
    | _ =>
      walk_at "z"
      exact q
theorem ok_is_whole_1 (T : Txt K mg c_BadStretch c_Stretch c_ONE) : Z.Ok CX0 P w K mg base "is_whole" 1 ["thing", "low", "high"] [.non, .non] (sp_is_whole K) := by
  obtain ⟨f, fd, F, g⟩ := T.d_is_whole
  obtain ⟨ds, v, b⟩ := F.binds1 (ps := ["thing", "low", "high"]) 1 0 (by decide) rfl fun T kV doc pm an cdv ct us its h1 h2 => match us, h1, its, h2 with | [_], _, [_, _], _ => ⟨_, rfl, rfl⟩
  exact ⟨f, fd, ds, g, F.kp, b, v, fn_is_whole T F⟩
theorem ok_is_whole_2 (T : Txt K mg c_BadStretch c_Stretch c_ONE) : Z.Ok CX0 P w K mg base "is_whole" 1 ["thing", "low", "high"] [.non] (sp_is_whole K) := by
  obtain ⟨f, fd, F, g⟩ := T.d_is_whole
  obtain ⟨ds, v, b⟩ := F.binds1 (ps := ["thing", "low", "high"]) 2 1 (by decide) rfl fun T kV doc pm an cdv ct us its h1 h2 => match us, h1, its, h2 with | [_, _], _, [_, _], _ => ⟨_, rfl, rfl⟩
  exact ⟨f, fd, ds, g, F.kp, b, v, fn_is_whole T F⟩
theorem ok_is_whole_3 (T : Txt K mg c_BadStretch c_Stretch c_ONE) : Z.Ok CX0 P w K mg base "is_whole" 1 ["thing", "low", "high"] [] (sp_is_whole K) := by
  obtain ⟨f, fd, F, g⟩ := T.d_is_whole
  obtain ⟨ds, v, b⟩ := F.binds1 (ps := ["thing", "low", "high"]) 3 2 (by decide) rfl fun T kV doc pm an cdv ct us its h1 h2 => match us, h1, its, h2 with | [_, _, _], _, [_, _], _ => ⟨_, rfl, rfl⟩
  exact ⟨f, fd, ds, g, F.kp, b, v, fn_is_whole T F⟩
theorem use_is_whole {H : Hp} {Q : VK} {E : XK} {a b c : V} {k : Z.Kd} (hk : Z.HasK K H a k) (hb : isBd b) (hc : isBd c) (q : Q (.bl (Z.inB a b c)) H) : sp_is_whole K [a, b, c] H Q E := ⟨_, _, _, rfl, k, hk, hb, hc, q⟩
local macro_rules | `(tactic| walk_at "zc") => `(tactic| ((with_reducible refine' use_is_whole ?zk ?zb ?zc ?_); (case zk => walk_at "zk"); (case zb => first | exact Or.inl rfl | exact Or.inr ⟨_, rfl⟩); (case zc => first | exact Or.inl rfl | exact Or.inr ⟨_, rfl⟩)))
def gLow {α : Type} : List α → List α → List α → List α
  | [x], [_, h], [z] => [x, z, h]
  | _, _, _ => []
def gHigh {α : Type} : List α → List α → List α → List α
  | [x], [l, _], [z] => [x, l, z]
  | _, _, _ => []
theorem gLow_rel {vs ds zs : List V} {us its ws : List Value} (h1 : Vals vs us) (h2 : Vals ds its) (h3 : Vals zs ws) : Vals (gLow vs ds zs) (gLow us its ws) := by
  cases h1 with
  | nil => exact .nil
  | cons a r1 =>
    cases r1 with
    | cons _ _ => exact .nil
    | nil =>
      cases h2 with
      | nil => exact .nil
      | cons b r2 =>
        cases r2 with
        | nil => exact .nil
        | cons c r3 =>
          cases r3 with
          | cons _ _ => exact .nil
          | nil =>
            cases h3 with
            | nil => exact .nil
            | cons d r4 =>
              cases r4 with
              | cons _ _ => exact .nil
              | nil => exact .cons a (.cons d (.cons c .nil))
theorem gHigh_rel {vs ds zs : List V} {us its ws : List Value} (h1 : Vals vs us) (h2 : Vals ds its) (h3 : Vals zs ws) : Vals (gHigh vs ds zs) (gHigh us its ws) := by
  cases h1 with
  | nil => exact .nil
  | cons a r1 =>
    cases r1 with
    | cons _ _ => exact .nil
    | nil =>
      cases h2 with
      | nil => exact .nil
      | cons b r2 =>
        cases r2 with
        | nil => exact .nil
        | cons c r3 =>
          cases r3 with
          | cons _ _ => exact .nil
          | nil =>
            cases h3 with
            | nil => exact .nil
            | cons d r4 =>
              cases r4 with
              | cons _ _ => exact .nil
              | nil => exact .cons a (.cons b (.cons d .nil))
theorem ok_is_whole_low (T : Txt K mg c_BadStretch c_Stretch c_ONE) : Z.OkN CX0 P w K mg base "is_whole" 1 ["thing", "low", "high"] ["low"] 1 (fun vs zs => gLow vs [.non, .non] zs) (sp_is_whole K) := by
  obtain ⟨f, fd, F, g⟩ := T.d_is_whole
  obtain ⟨its, b⟩ := F.kbindsD (ps := ["thing", "low", "high"]) 1 ["low"] gLow (by decide) (fun h1 h2 h3 => gLow_rel h1 h2 h3) fun T kV doc pm an cdv ct us its ws h1 h2 h3 => match us, h1, its, h2, ws, h3 with | [_], _, [_, _], _, [_], _ => ⟨_, rfl, rfl⟩
  exact ⟨f, fd, _, g, F.kp, b, fn_is_whole T F⟩
theorem ok_is_whole_high (T : Txt K mg c_BadStretch c_Stretch c_ONE) : Z.OkN CX0 P w K mg base "is_whole" 1 ["thing", "low", "high"] ["high"] 1 (fun vs zs => gHigh vs [.non, .non] zs) (sp_is_whole K) := by
  obtain ⟨f, fd, F, g⟩ := T.d_is_whole
  obtain ⟨its, b⟩ := F.kbindsD (ps := ["thing", "low", "high"]) 1 ["high"] gHigh (by decide) (fun h1 h2 h3 => gHigh_rel h1 h2 h3) fun T kV doc pm an cdv ct us its ws h1 h2 h3 => match us, h1, its, h2, ws, h3 with | [_], _, [_, _], _, [_], _ => ⟨_, rfl, rfl⟩
  exact ⟨f, fd, _, g, F.kp, b, fn_is_whole T F⟩
theorem sc_is_ratio : FnScope ["thing", "top", "bottom"] ["thing"] (defScope s_is_ratio) := ⟨rfl, rfl, rfl, by decide +kernel, rfl, by decide +kernel, by decide +kernel⟩
/-- what is a ratio in lowest terms -/
def isRt (xs : List V) : Bool := match xs with
  | [.int t, .int b] => decide (1 ≤ b) && decide (Nat.gcd t.natAbs b.natAbs = 1)
  | _ => false
def isRtV (o : Option (List V)) : Bool := match o with
  | some xs => isRt xs
  | none => false
/-- a thing with its items, if it is a tuple -/
def TupIs (K : PySem.W.Frag) (L : List Z.En) (v : V) (o : Option (List V)) : Prop := (∃ k, Z.Thing L v k ∧ k.isTuple = false ∧ o = none) ∨ ∃ p xs, v = .ref p ∧ o = some xs ∧ xs.length ≤ 1000 ∧ (Z.En.ob p (.tup xs) ∈ L ∨ Z.KT K p xs) ∧ ∀ x ∈ xs, ∃ k, Z.Thing L x k
theorem TupIs.sq {K : PySem.W.Frag} {H : Hp} {L : List Z.En} {p : Addr} {xs : List V} (F : Z.Fx H L) (h : Z.En.ob p (.tup xs) ∈ L ∨ Z.KT K p xs) : SqT K H p xs := h.elim (fun m => F.tup m) (fun k => k H)
theorem Rt.tup {K : PySem.W.Frag} {L : List Z.En} {v : V} {a b : Int} (h : Z.Rt K L v a b) : TupIs K L v (some [.int a, .int b]) := by
  obtain ⟨p, rfl, h⟩ := h
  refine .inr ⟨p, _, rfl, rfl, by simp, h, fun x hx => ?_⟩
  simp only [List.mem_cons,
        List.not_mem_nil, or_false] at hx
  rcases hx with rfl | rfl
  · exact ⟨_, .int _⟩
  · exact ⟨_, .int _⟩
def sp_is_ratio (K : PySem.W.Frag) : Sp := Z.Sp1 fun a H Q E => ∃ (L : List Z.En) (o : Option (List V)), Z.Fx H L ∧ TupIs K L a o ∧ Q (.bl (isRtV o)) H
theorem fn_is_ratio (T : Txt K mg c_BadStretch c_Stretch c_ONE) {f : Addr} {fd : FuncData} (F : Fun K "is_ratio" "is_ratio" s_is_ratio f fd) : FnOk P w K mg base CX0 2 f fd ["thing"] (sp_is_ratio K) := by
  have O_is_whole_1 := ok_is_whole_1 (P := P) (w := w) (base := base) T
  have O_is_whole_2 := ok_is_whole_2 (P := P) (w := w) (base := base) T
  have O_is_whole_3 := ok_is_whole_3 (P := P) (w := w) (base := base) T
  refine F.ok sc_is_ratio (fun vs H Q E h => ?_) (fun cdv A outer s H vs Q E hr h => ?_)
  · obtain ⟨a, rfl, _⟩ := h; rfl
  · obtain ⟨a, rfl, h⟩ := h
    refine ⟨_, (pss_cons (ps_if (PW.pt (pw_or (pt_not (Z.pt_truN (pe_callB Z.zIsi (by rfl) T.b_isinstance (by decide +kernel) (pa_cons (pv 0) (pa_cons (pe_bltn (by rfl) T.b_tuple (by decide +kernel) (show RelV (.ty "tuple") _ from rfl)) pa_nil))))) (pw_or1 (pt_cmpR (Z.zNe (Z.hu0 hr)) (pe_callB Z.zLen (by rfl) T.b_len (by decide +kernel) (pa_cons (pv 0) pa_nil)) pe_int (nomark _)))))
        (pss_one (ps_ret pe_bl))
        pss_nil)
      (pss_cons (ps_asg (pv 0) (pg_tup (by rfl) (pgs_cons (pg_name (i := 1) sc_is_ratio.nd rfl (by first | exact Or.inl rfl | exact Or.inr rfl)) (pgs_cons (pg_name (i := 2) sc_is_ratio.nd rfl (by first | exact Or.inl rfl | exact Or.inr rfl)) pgs_nil))))
      (pss_one (ps_ret (pe_andT (Z.pe_callO O_is_whole_1 (by rfl) (hr.mono (by decide)) pass0 (pa_cons (pv 1) pa_nil)) (pe_andT (Z.pe_callO O_is_whole_2 (by rfl) (hr.mono (by decide)) pass0 (pa_cons (pv 2) (pa_cons pe_int pa_nil))) (pe_one (pe_cmpR (Z.zEq (Z.hu0 hr)) (pe_callBfun cr_gcd (by rfl) T.m_gcd (pa_cons (pv 1) (pa_cons (pv 2) pa_nil))) pe_int (nomark _))))))))), ?_⟩
    try dsimp only [cxOf, Cx.nox, Cx.wish]
    refine Z.at_start (σ' := [some a, none, none]) rfl ?_
    obtain ⟨L, o, F, h, q⟩ := h
    rcases h with ⟨k, ht, hk, rfl⟩ | ⟨p, xs, rfl, rfl, hl, hp, hx⟩
    · walk_at "z"
      refine Z.wIsiTuple (ht.has F) ?_
      rw [hk]
      walk_at "z"
      exact q
    have sq := TupIs.sq (K := K) F hp
    walk_at "z"
    refine Z.wIsiTuple (.tup sq) ?_
    walk_at "z"
    by_cases h2 : xs.length = 2
    case neg =>
      have e : isRtV (some xs) = false := by
        unfold isRtV isRt
        dsimp only
        split
        · exact absurd rfl h2
        · rfl
      rw [e] at q
      rw [decide_eq_false (show ¬ (xs.length : Int) = 2 by omega)]
      walk_at "z"
      exact q
    obtain ⟨x, y, rfl⟩ : ∃ x y, xs = [x, y] := by
      match xs, h2 with
      | [x, y], _ => exact ⟨x, y, rfl⟩
    obtain ⟨kx, tx⟩ := hx x (by simp)
    obtain ⟨ky, ty⟩ := hx y (by simp)
    walk_at "z"
    refine use_is_whole (tx.has F) (.inl rfl) (.inl rfl) ?_
    walk_at "z"
    refine Z.wIf (fun h1 => ?_) (fun h1 => ?_)
    case refine_2 =>
      rw [h1]
      have e : isRtV (some [x, y]) = false := by
        cases x with
        | int i => exact absurd h1 (by simp [Z.inB])
        | _ => rfl
      rw [e] at q
      exact q
    obtain ⟨t, rfl⟩ : ∃ t, x = .int t := by
      cases x with
      | int i => exact ⟨i, rfl⟩
      | _ => exact absurd h1 (by simp [Z.inB])
    walk_at "z"
    refine use_is_whole (ty.has F) (.inr ⟨_, rfl⟩) (.inl rfl) ?_
    walk_at "z"
    refine Z.wIf (fun h3 => ?_) (fun h3 => ?_)
    case refine_2 =>
      rw [h3]
      have e : isRtV (some [.int t, y]) = false := by
        cases y with
        | int i =>
          have : ¬ 1 ≤ i := by simpa [Z.inB] using h3
          simp [isRtV, isRt, this]
        | _ => rfl
      rw [e] at q
      exact q
    obtain ⟨d, rfl⟩ : ∃ d, y = .int d := by
      cases y with
      | int i => exact ⟨i, rfl⟩
      | _ => exact absurd h3 (by simp [Z.inB])
    have d1 : 1 ≤ d := by simpa [Z.inB] using h3
    walk_at "z"
    have e : isRtV (some [.int t, .int d]) = decide (((Nat.gcd t.natAbs d.natAbs : Nat) : Int) = 1) := by
      simp only [isRtV, isRt, d1, decide_true, Bool.true_and]
      rw [Bool.eq_iff_iff, decide_eq_true_iff, decide_eq_true_iff]
      omega
    rw [e] at q
    exact q
theorem ok_is_ratio (T : Txt K mg c_BadStretch c_Stretch c_ONE) : Z.Ok CX0 P w K mg base "is_ratio" 2 ["thing"] [] (sp_is_ratio K) := by
  obtain ⟨f, fd, F, g⟩ := T.d_is_ratio
  exact Z.mkOk F g (F.binds (ps := ["thing"]) fun _ _ _ _ _ _ us hl => match us, hl with | [_], _ => rfl) (fn_is_ratio T F)
theorem use_is_ratio {H : Hp} {Q : VK} {E : XK} {L : List Z.En} {a : V} {o : Option (List V)} (F : Z.Fx H L) (h : TupIs K L a o) (q : Q (.bl (isRtV o)) H) : sp_is_ratio K [a] H Q E := ⟨_, rfl, L, o, F, h, q⟩
theorem sc__is_high : FnScope ["low", "high"] ["low", "high"] (defScope s__is_high) := ⟨rfl, rfl, rfl, by decide +kernel, rfl, by decide +kernel, by decide +kernel⟩
/-- whether a thing is a high end for the low one a / b -/
def hiOk (a b : Int) (o : Option (List V)) : Bool := isRtV o && match o with
  | some [.int c, .int d] => decide (cmpI a b c d ≤ 0) && !decide ([c, d] = [1, 1])
  | _ => false
theorem sz1 : Sz 1900 1 := Sz.mono (k := 1) (by unfold Sz; decide) (by decide)
def SzO (o : Option (List V)) : Prop := ∀ c d, o = some [.int c, .int d] → Sz 1900 c ∧ Sz 1900 d
theorem rt_data {o : Option (List V)} (h : isRtV o = true) : ∃ t d : Int, o = some [.int t, .int d] ∧ 1 ≤ d ∧ Nat.gcd t.natAbs d.natAbs = 1 := by
  unfold isRtV at h
  cases o with
  | none => cases h
  | some xs =>
    dsimp only at h
    unfold isRt at h
    split at h
    · rename_i t b
      rw [Bool.and_eq_true, decide_eq_true_eq, decide_eq_true_eq] at h
      exact ⟨t, b, rfl, h.1, h.2⟩
    · cases h
theorem TupIs.rt {K : PySem.W.Frag} {L : List Z.En} {v : V} {c d : Int} (h : TupIs K L v (some [.int c, .int d])) : Z.Rt K L v c d := by
  rcases h with ⟨_, _, _, e⟩ | ⟨p, xs, rfl, e, _, m, _⟩
  · cases e
  · cases e
    exact ⟨p, rfl, m⟩
def sp__is_high (K : PySem.W.Frag) : Sp := Z.Sp2 fun x y H Q E => ∃ (L : List Z.En) (a b : Int) (o : Option (List V)), Z.Fx H L ∧ Z.Rt K L x a b ∧ Sz 1900 a ∧ Sz 1900 b ∧ TupIs K L y o ∧ SzO o ∧ Q (.bl (hiOk a b o)) H
theorem fn__is_high (T : Txt K mg c_BadStretch c_Stretch c_ONE) {f : Addr} {fd : FuncData} (F : Fun K "_is_high" "_is_high" s__is_high f fd) : FnOk P w K mg base CX0 3 f fd ["low", "high"] (sp__is_high K) := by
  have O_compare := ok_compare (P := P) (w := w) (base := base) T
  have O_is_ratio := ok_is_ratio (P := P) (w := w) (base := base) T
  refine F.ok sc__is_high (fun vs H Q E h => ?_) (fun cdv A outer s H vs Q E hr h => ?_)
  · obtain ⟨a, b, rfl, _⟩ := h; rfl
  · obtain ⟨a, b, rfl, h⟩ := h
    refine ⟨_, (pss_one (ps_ret (pe_andT (Z.pe_callO O_is_ratio (by rfl) (hr.mono (by decide)) pass0 (pa_cons (pv 1) pa_nil)) (pe_andT (pe_cmpR Z.zLe (Z.pe_callO O_compare (by rfl) (hr.mono (by decide)) pass0 (pa_cons (pv 0) (pa_cons (pv 1) pa_nil))) pe_int (nomark _)) (pe_one (pe_cmpR (Z.zNe (Z.hu0 hr)) (pv 1) (pe_glob (v := V.ref c_ONE) (by rfl) T.k_ONE (show RelV (V.ref _) _ from rfl)) (nomark _))))))), ?_⟩
    try dsimp only [cxOf, Cx.nox, Cx.wish]
    refine Z.at_start (σ' := [some a, some b]) rfl ?_
    obtain ⟨L, a, b, o, F, hx, sa, sb, hy, so, q⟩ := h
    unfold hiOk at q
    walk_at "z"
    refine use_is_ratio F hy ?_
    walk_at "z"
    refine Z.wIf (fun h => ?_) (fun h => ?_)
    · rw [h, Bool.true_and] at q
      obtain ⟨c, d, rfl, d1, g1⟩ := rt_data h
      obtain ⟨sc, sd⟩ := so c d rfl
      obtain ⟨p, rfl, sq⟩ := hy.rt.sq F
      dsimp only at q
      walk_at "z"
      refine use_compare F hx hy.rt sa sb sc sd ?_
      walk_at "z"
      refine Z.wIfD (fun h => ?_) (fun h => ?_)
      · rw [decide_eq_true h, Bool.true_and] at q
        walk_at "z"
        refine Z.wNeTT (ns := [c, d]) (ms := [1, 1]) sq (T.kt_ONE _) ?_
        exact q
      · rw [decide_eq_false h, Bool.false_and] at q
        rw [decide_eq_false h]
        exact q
    · rw [h, Bool.false_and] at q
      rw [h]
      exact q
theorem ok__is_high (T : Txt K mg c_BadStretch c_Stretch c_ONE) : Z.Ok CX0 P w K mg base "_is_high" 3 ["low", "high"] [] (sp__is_high K) := by
  obtain ⟨f, fd, F, g⟩ := T.d__is_high
  exact Z.mkOk F g (F.binds (ps := ["low", "high"]) fun _ _ _ _ _ _ us hl => match us, hl with | [_, _], _ => rfl) (fn__is_high T F)
theorem use__is_high {H : Hp} {Q : VK} {E : XK} {L : List Z.En} {x y : V} {a b : Int} {o : Option (List V)} (F : Z.Fx H L) (hx : Z.Rt K L x a b) (sa : Sz 1900 a) (sb : Sz 1900 b) (hy : TupIs K L y o) (so : SzO o) (q : Q (.bl (hiOk a b o)) H) : sp__is_high K [x, y] H Q E := ⟨_, _, rfl, L, a, b, o, F, hx, sa, sb, hy, so, q⟩
theorem sc_BadStretch___init__ : FnScope ["self", "what"] ["self", "what"] (defScope s_BadStretch___init__) := ⟨rfl, rfl, rfl, by decide +kernel, rfl, by decide +kernel, by decide +kernel⟩

theorem fn_BadStretch___init__ (T : Txt K mg c_BadStretch c_Stretch c_ONE) {f : Addr} {fd : FuncData} (F : Fun K "__init__" "BadStretch.__init__" s_BadStretch___init__ f fd) : FnOk P w K mg base CX0 1 f fd ["self", "what"] (Z.spErr1 K "what") := by
  refine F.ok sc_BadStretch___init__ (fun vs H Q E h => ?_) (fun cdv A outer s H vs Q E hr h => ?_)
  · obtain ⟨a, b, rfl, _⟩ := h; rfl
  · obtain ⟨a, b, rfl, h⟩ := h
    refine ⟨_, (pss_one (ps_ost (pv 0) (pv 1))), ?_⟩
    try dsimp only [cxOf, Cx.nox, Cx.wish]
    refine Z.at_start (σ' := [some a, some b]) rfl ?_
    exact Z.init1_run h
theorem ok_BadStretch___init__ (T : Txt K mg c_BadStretch c_Stretch c_ONE) : Z.ErrO P w K mg base c_BadStretch 1 ["self", "what"] (Z.spErr1 K "what") := by
  obtain ⟨f, fd, F, i⟩ := T.d_BadStretch___init__
  exact ⟨f, fd, i, (F.binds (ps := ["self", "what"]) fun _ _ _ _ _ _ us hl => match us, hl with | [_, _], _ => rfl), fn_BadStretch___init__ T F⟩
theorem sc_Stretch___init__ : FnScope ["self", "low", "high"] ["self", "low", "high"] (defScope s_Stretch___init__) := ⟨rfl, rfl, rfl, by decide +kernel, rfl, by decide +kernel, by decide +kernel⟩
def strF (x y : V) : List (Str × V) := putF "high" y (putF "low" x [])
theorem str_low (x y : V) : (strF x y).lookup ("low" : Str) = some x := by
  unfold strF
  rw [lookup_putF, if_neg (by decide +kernel), lookup_putF, if_pos rfl]
theorem str_high (x y : V) : (strF x y).lookup ("high" : Str) = some y := by
  unfold strF
  rw [lookup_putF, if_pos rfl]
def lowOk (o : Option (List V)) : Bool := isRtV o && match o with
  | some [.int c, .int d] => !decide (cmpI c d 1 1 < 0)
  | _ => false
/-- the first word that is due of a stretch's ends -/
def strW (o1 : Option (List V)) (c : V) (o2 : Option (List V)) : Option Str := if lowOk o1 = false then some "low" else if c = .non then none else if (match o1 with | some [.int a, .int b] => hiOk a b o2 | _ => false) = false then some "high" else none
def sp_Stretch___init__ (K : PySem.W.Frag) (cS cB : Addr) : Sp := Z.Sp3 fun a b c H Q E => ∃ (L : List Z.En) (y dx : Addr) (o1 o2 : Option (List V)), a = .ref y ∧ Z.Fx H (.ob y (.ins cS dx []) :: .ob dx (.own y) :: L) ∧ TupIs K L b o1 ∧ SzO o1 ∧ TupIs K L c o2 ∧ SzO o2 ∧ (c = .non ∨ ∃ k, Z.Thing L c k ∧ c ≠ .non) ∧
  (∀ w, strW o1 c o2 = some w → ∀ e H', Z.Fx H' (.ob e (.xd [("what", .str w)]) :: L) → E (.ref cB) (some e) H') ∧
  (strW o1 c o2 = none → ∀ H', Z.Fx H' (.ob y (.ins cS dx (strF b c)) :: .ob dx (.own y) :: L) → Q .non H')
theorem fn_Stretch___init__ (T : Txt K mg c_BadStretch c_Stretch c_ONE) {f : Addr} {fd : FuncData} (F : Fun K "__init__" "Stretch.__init__" s_Stretch___init__ f fd) : FnOk P w K mg base (L2.CX P w) 4 f fd ["self", "low", "high"] (sp_Stretch___init__ K c_Stretch c_BadStretch) := by
  have O_BadStretch___init__ := ok_BadStretch___init__ (P := P) (w := w) (base := base) T
  have O__is_high := ok__is_high (P := P) (w := w) (base := base) T
  have O_compare := ok_compare (P := P) (w := w) (base := base) T
  have O_is_ratio := ok_is_ratio (P := P) (w := w) (base := base) T
  refine F.okX sc_Stretch___init__ (fun vs H Q E h => ?_) (fun cdv A outer s H vs Q E hr h => ?_)
  · obtain ⟨a, b, c, rfl, _⟩ := h; rfl
  · obtain ⟨a, b, c, rfl, h⟩ := h
    have TK := takes_of (X := cxOf (L2.CX P w) P w K mg base ["self", "low", "high"] "Stretch.__init__" (defScope s_Stretch___init__) f cdv A outer s H E) rfl rfl rfl rfl
    refine ⟨_, (pss_cons (ps_if (PW.pt (pw_or (pt_not (Z.pt_truN (Z.pe_callO O_is_ratio (by rfl) (hr.mono (by decide)) pass0 (pa_cons (pv 1) pa_nil)))) (pw_or1 (pt_cmpR Z.zLt (Z.pe_callO O_compare (by rfl) (hr.mono (by decide)) pass0 (pa_cons (pv 1) (pa_cons (pe_glob (v := V.ref c_ONE) (by rfl) T.k_ONE (show RelV (V.ref _) _ from rfl)) pa_nil))) pe_int (nomark _)))))
        (pss_one (ps_raise (by rfl) TK (Z.pmk_errO T.x_BadStretch O_BadStretch___init__ (hr.mono (by decide)) T.g_BadStretch (by rfl) (pa_cons pe_str pa_nil))))
        pss_nil)
      (pss_cons (ps_if (PW.pt (pw_and (pt_cmpR Z.zIsNot (pv 2) pe_non (nomark _)) (pw_and1 (pt_not (Z.pt_truN (Z.pe_callO O__is_high (by rfl) (hr.mono (by decide)) pass0 (pa_cons (pv 1) (pa_cons (pv 2) pa_nil))))))))
        (pss_one (ps_raise (by rfl) TK (Z.pmk_errO T.x_BadStretch O_BadStretch___init__ (hr.mono (by decide)) T.g_BadStretch (by rfl) (pa_cons pe_str pa_nil))))
        pss_nil)
      (pss_cons (ps_fld (pv 0) (pv 1) rfl)
      (pss_one (ps_fld (pv 0) (pv 2) rfl))))), ?_⟩
    try dsimp only [cxOf, Cx.nox, Cx.wish]
    refine Z.at_start (σ' := [some a, some b, some c]) rfl ?_
    obtain ⟨L, y, dx, o1, o2, rfl, F, hb, so1, hc, so2, hn, kE, kQ⟩ := h
    have hcl := T.i_Stretch.cl
    have sub : ∀ e ∈ L, e ∈ (Z.En.ob y (.ins c_Stretch dx []) :: Z.En.ob dx (.own y) :: L) := fun e h => .tail _ (.tail _ h)
    have s1 := sz1
    have mono : ∀ {v : V} {o : Option (List V)}, TupIs K L v o → TupIs K (Z.En.ob y (.ins c_Stretch dx []) :: Z.En.ob dx (.own y) :: L) v o := by
      intro v o h
      rcases h with ⟨k, t, e1, e2⟩ | ⟨p, xs, e, e1, e2, m, tx⟩
      · exact .inl ⟨k, t.mono sub, e1, e2⟩
      · exact .inr ⟨p, xs, e, e1, e2, m.imp (sub _) id, fun x hx => let ⟨k, t⟩ := tx x hx; ⟨k, t.mono sub⟩⟩
    unfold strW lowOk at kE kQ
    walk_at "y"
    refine Z.wMidS (fun σ' H' => (lowOk o1 = true) ∧ σ' = [some (.ref y), some b, some c] ∧ Z.Fx H' (.ob y (.ins c_Stretch dx []) :: .ob dx (.own y) :: L)) (fun N hk => ?_) ?_
    · unfold lowOk at hk
      walk_at "z"
      refine use_is_ratio F (mono hb) ?_
      walk_at "z"
      refine Z.wIf (fun h => ?_) (fun h => ?_)
      · have h' : isRtV o1 = false := by simpa using h
        walk_at "z"
        refine Z.wMk1 T.x_BadStretch.oex T.n_BadStretch_what (F.sub (L' := L) (by walk_at "zsub")) fun e H2 F2 => kE _ (by rw [h', Bool.false_and, if_pos rfl]) _ _ F2
      · have h' : isRtV o1 = true := by simpa using h
        obtain ⟨a, d, rfl, d1, g1⟩ := rt_data h'
        obtain ⟨sa, sd⟩ := so1 a d rfl
        rw [h'] at kE hk
        dsimp only at kE hk
        rw [Bool.true_and] at kE hk
        walk_at "z"
        refine use_compare F (mono hb).rt ⟨_, rfl, .inr T.kt_ONE⟩ sa sd s1 s1 ?_
        walk_at "z"
        refine Z.wIfD (fun h => ?_) (fun h => ?_)
        · walk_at "z"
          refine Z.wMk1 T.x_BadStretch.oex T.n_BadStretch_what (F.sub (L' := L) (by walk_at "zsub")) fun e H2 F2 => kE _ (by rw [decide_eq_true h]; rfl) _ _ F2
        · walk_at "z"
          exact hk _ _ ⟨by rw [decide_eq_false h]; rfl, rfl, F⟩
    clear F
    rintro _ H ⟨hlo, rfl, F⟩
    have hlo2 := hlo
    unfold lowOk at hlo
    rw [Bool.and_eq_true] at hlo
    obtain ⟨a, d, rfl, d1, g1⟩ := rt_data hlo.1
    obtain ⟨sa, sd⟩ := so1 a d rfl
    have nl : ¬ ((isRtV (some [V.int a, V.int d]) && !decide (cmpI a d 1 1 < 0)) = false) := by
      have := hlo2
      unfold lowOk at this
      dsimp only at this
      rw [this]
      decide
    dsimp only at kE kQ
    rw [if_neg nl] at kE kQ
    walk_at "y"
    refine Z.wMidS (fun σ' H' => ((c ≠ .non → hiOk a d o2 = true)) ∧ σ' = [some (.ref y), some b, some c] ∧ Z.Fx H' (.ob y (.ins c_Stretch dx []) :: .ob dx (.own y) :: L)) (fun N hk => ?_) ?_
    · rcases hn with rfl | ⟨k, tk, hne⟩
      · walk_at "z"
        exact hk _ _ ⟨fun h => absurd rfl h, rfl, F⟩
      · rw [if_neg hne] at kE
        walk_at "z"
        refine use__is_high F (mono hb).rt sa sd (mono hc) so2 ?_
        walk_at "z"
        refine Z.wIf (fun h => ?_) (fun h => ?_)
        · have h' : hiOk a d o2 = false := by simpa using h
          walk_at "z"
          refine Z.wMk1 T.x_BadStretch.oex T.n_BadStretch_what (F.sub (L' := L) (by walk_at "zsub")) fun e H2 F2 => kE _ (by rw [if_pos h']) _ _ F2
        · have h' : hiOk a d o2 = true := by simpa using h
          walk_at "z"
          exact hk _ _ ⟨fun _ => h', rfl, F⟩
    clear F
    rintro _ H ⟨hhi, rfl, F⟩
    walk_at "z"
    refine Z.wStoreF F (by walk_at "zm") hcl T.n_Stretch_low (by decide) .head fun H3 F3 => ?_
    walk_at "z"
    refine Z.wStoreF F3 (by walk_at "zm") hcl T.n_Stretch_high (Nat.lt_of_le_of_lt (putF_len _ _ _) (by decide)) .head fun H4 F4 => ?_
    refine kQ ?_ _ F4
    by_cases e : c = .non
    · rw [if_pos e]
    · simp [e, hhi e]
theorem ok_Stretch___init___2 (T : Txt K mg c_BadStretch c_Stretch c_ONE) : Z.MkO (L2.CX P w) P w K mg base c_Stretch 4 ["self", "low", "high"] [] (sp_Stretch___init__ K c_Stretch c_BadStretch) := by
  obtain ⟨f, fd, F, i⟩ := T.d_Stretch___init__
  exact ⟨f, fd, [], i, (F.binds (ps := ["self", "low", "high"]) fun _ _ _ _ _ _ us hl => match us, hl with | [_, _, _], _ => rfl), .nil, fn_Stretch___init__ T F⟩
theorem use_StretchX {cS cB : Addr} {H : Hp} {QX : Addr → Hp → Prop} {E : XK} {L : List Z.En} {b c : V} {o1 o2 : Option (List V)} (F : Z.Fx H L) (hb : TupIs K L b o1) (so1 : SzO o1) (hc : TupIs K L c o2) (so2 : SzO o2) (hn : c = .non ∨ ∃ k, Z.Thing L c k ∧ c ≠ .non)
    (kE : ∀ w, strW o1 c o2 = some w → ∀ e H', Z.Fx H' (.ob e (.xd [("what", .str w)]) :: L) → E (.ref cB) (some e) H')
    (kQ : strW o1 c o2 = none → ∀ y dx H', Z.Fx H' (.ob y (.ins cS dx (strF b c)) :: .ob dx (.own y) :: L) → QX y H') :
    ∀ y dx, H y = none → H dx = none → dx ≠ y → sp_Stretch___init__ K cS cB [.ref y, b, c] (upd (upd H dx (.own y)) y (.ins cS dx [])) (fun v H2 => v = .non ∧ QX y H2) E := fun y dx hy hdx ne =>
  ⟨_, _, _, rfl, L, y, dx, o1, o2, rfl, F.inst hy hdx ne, hb, so1, hc, so2, hn, kE, fun w H' F' => ⟨rfl, kQ w y dx H' F'⟩⟩
/-- v is the stretch between two places -/
def StrV (cS : Addr) (S : List (Int × Int)) (L : List Z.En) (v : V) (r : Nat × Nat) : Prop := ∃ p dx x y, v = .ref p ∧ Z.En.ob p (.ins cS dx (strF x y)) ∈ L ∧ PosV S L x r.1 ∧ HiV S L y r.2
theorem StrV.mono {cS : Addr} {S : List (Int × Int)} {L L' : List Z.En} {v : V} {r : Nat × Nat} (h : StrV cS S L v r) (s : ∀ e ∈ L, e ∈ L') : StrV cS S L' v r := let ⟨p, dx, x, y, e, m, a, b⟩ := h; ⟨p, dx, x, y, e, s _ m, a.mono s, b.mono s⟩
theorem StrV.le {cS : Addr} {S : List (Int × Int)} {L L' : List Z.En} {v : V} {r : Nat × Nat} (h : StrV cS S L v r) (s : L.Sublist L') : StrV cS S L' v r := h.mono fun _ m => s.subset m
theorem PosV.tup {K : PySem.W.Frag} {S : List (Int × Int)} {L : List Z.En} {v : V} {i : Nat} (h : PosV S L v i) : TupIs K L v (some [.int (plc S i).1, .int (plc S i).2]) := Rt.tup h.rt
theorem pos_sz {S : List (Int × Int)} (s : Scale S) {i : Nat} (hi : i < S.length) : SzO (some [.int (plc S i).1, .int (plc S i).2]) := fun c d e => by
  cases e
  obtain ⟨_, _, a, b⟩ := s.ok i hi
  exact ⟨a.mono (by decide), b.mono (by decide)⟩
theorem pos_rt {S : List (Int × Int)} (s : Scale S) {i : Nat} (hi : i < S.length) : isRtV (some [.int (plc S i).1, .int (plc S i).2]) = true := by
  obtain ⟨a, b, _, _⟩ := s.ok i hi
  unfold isRtV isRt
  dsimp only
  rw [decide_eq_true a, decide_eq_true b]
  rfl
theorem cmp_one {S : List (Int × Int)} (s : Scale S) {i : Nat} (hi : i < S.length) : cmpI (plc S i).1 (plc S i).2 1 1 = sg i 0 := by
  have := scale_cmp s hi (j := 0) (by have := s.len; omega)
  rw [s.one] at this
  exact this
theorem pos_lowOk {S : List (Int × Int)} (s : Scale S) {i : Nat} (hi : i < S.length) : lowOk (some [.int (plc S i).1, .int (plc S i).2]) = true := by
  unfold lowOk
  rw [pos_rt s hi]
  dsimp only
  rw [cmp_one s hi, decide_eq_false (by rw [sg_neg]; omega)]
  rfl
theorem pos_one {S : List (Int × Int)} (s : Scale S) {j : Nat} (hj : j < S.length) : ([(plc S j).1, (plc S j).2] = [1, 1]) ↔ j = 0 := by
  constructor
  · intro h
    have h0 : (0 : Nat) < S.length := by have := s.len; omega
    refine s.inj hj h0 ?_
    rw [s.one]
    injection h with h1 h2
    injection h2 with h2 _
    exact Prod.ext h1 h2
  · rintro rfl
    rw [s.one]
theorem pos_hiOk {S : List (Int × Int)} (s : Scale S) {i j : Nat} (hi : i < S.length) (hj : j < S.length) : hiOk (plc S i).1 (plc S i).2 (some [.int (plc S j).1, .int (plc S j).2]) = (decide (i ≤ j) && decide (1 ≤ j)) := by
  unfold hiOk
  rw [pos_rt s hj]
  dsimp only
  rw [scale_cmp s hi hj, decide_eq_decide.mpr sg_le, decide_eq_decide.mpr (pos_one s hj), Bool.true_and]
  congr 1
  by_cases h : j = 0
  · rw [decide_eq_true h, decide_eq_false (show ¬ 1 ≤ j by omega)]; rfl
  · rw [decide_eq_false h, decide_eq_true (show 1 ≤ j by omega)]; rfl
theorem HiV.tup {K : PySem.W.Frag} {S : List (Int × Int)} {L : List Z.En} {v : V} {j : Nat} (s : Scale S) (h : HiV S L v j) : ∃ o, TupIs K L v o ∧ SzO o ∧ (v = .non ∨ ∃ k, Z.Thing L v k ∧ v ≠ .non) ∧ ∀ i, i < S.length → i ≤ j → 1 ≤ j → strW (some [.int (plc S i).1, .int (plc S i).2]) v o = none := by
  rcases h with ⟨rfl, rfl⟩ | h
  · refine ⟨none, .inl ⟨_, .non, rfl, rfl⟩, (fun _ _ e => nomatch e), .inl rfl, fun i hi _ _ => ?_⟩
    unfold strW
    rw [pos_lowOk s hi, if_neg (by decide), if_pos rfl]
  · obtain ⟨hj, p, rfl, m⟩ := id h
    refine ⟨_, h.tup, pos_sz s hj, .inr ⟨_, .tup m, nofun⟩, fun i hi hij h1 => ?_⟩
    unfold strW
    rw [pos_lowOk s hi, if_neg (by decide), if_neg nofun]
    simp [pos_hiOk s hi hj, hij, h1]
theorem use_StretchP {cS cB : Addr} {H : Hp} {QX : Addr → Hp → Prop} {E : XK} {L : List Z.En} {S : List (Int × Int)} {b c : V} {i j : Nat} (F : Z.Fx H L) (s : Scale S) (hb : PosV S L b i) (hc : HiV S L c j) (hij : i ≤ j) (h1 : 1 ≤ j)
    (kQ : ∀ y dx H', StrV cS S (.ob y (.ins cS dx (strF b c)) :: .ob dx (.own y) :: L) (.ref y) (i, j) → Z.Fx H' (.ob y (.ins cS dx (strF b c)) :: .ob dx (.own y) :: L) → QX y H') :
    ∀ y dx, H y = none → H dx = none → dx ≠ y → sp_Stretch___init__ K cS cB [.ref y, b, c] (upd (upd H dx (.own y)) y (.ins cS dx [])) (fun v H2 => v = .non ∧ QX y H2) E := by
  obtain ⟨o, t, so, hn, hw⟩ := hc.tup (K := K) s
  have e := hw i hb.1 hij h1
  exact use_StretchX F hb.tup (pos_sz s hb.1) t so hn (fun w h => by rw [e] at h; cases h) fun _ y dx H' F' => kQ y dx H' ⟨y, dx, b, c, rfl, .head _, hb.mono fun _ m => .tail _ (.tail _ m), hc.mono fun _ m => .tail _ (.tail _ m)⟩ F'
theorem PosV.skip {S : List (Int × Int)} {L : List Z.En} {v : V} {i : Nat} {a : Addr} {xs : List V} (h : PosV S (.ob a (.lst xs) :: L) v i) : PosV S L v i := let ⟨h1, p1, e1, m1⟩ := h; ⟨h1, p1, e1, Z.mem_skip m1 nofun⟩
theorem HiV.skip {S : List (Int × Int)} {L : List Z.En} {v : V} {i : Nat} {a : Addr} {xs : List V} (h : HiV S (.ob a (.lst xs) :: L) v i) : HiV S L v i := h.imp id fun q => q.skip
theorem StrV.skip {cS : Addr} {S : List (Int × Int)} {L : List Z.En} {v : V} {r : Nat × Nat} {a : Addr} {xs : List V} (h : StrV cS S (.ob a (.lst xs) :: L) v r) : StrV cS S L v r := by
  obtain ⟨p, dx, x, y, e, m, h1, h2⟩ := h
  exact ⟨p, dx, x, y, e, Z.mem_skip m nofun, h1.skip, h2.skip⟩
theorem sc__law_cmp : FnScope ["_law_one", "_law_other", "_law_difference"] ["_law_one", "_law_other"] (defScope s__law_cmp) := ⟨rfl, rfl, rfl, by decide +kernel, rfl, by decide +kernel, by decide +kernel⟩
def sp__law_cmp (K : PySem.W.Frag) : Sp := Z.Sp2 fun x y H Q E => ∃ (L : List Z.En) (a b c d : Int), Z.Fx H L ∧ Z.Rt K L x a b ∧ Z.Rt K L y c d ∧ Sz 1900 a ∧ Sz 1900 b ∧ Sz 1900 c ∧ Sz 1900 d ∧ Q (.int (cmpI a b c d)) H
theorem fn__law_cmp (T : Txt K mg c_BadStretch c_Stretch c_ONE) {f : Addr} {fd : FuncData} (F : Fun K "_law_cmp" "_law_cmp" s__law_cmp f fd) : FnOk P w K mg base CX0 1 f fd ["_law_one", "_law_other"] (sp__law_cmp K) := by
  refine F.ok sc__law_cmp (fun vs H Q E h => ?_) (fun cdv A outer s H vs Q E hr h => ?_)
  · obtain ⟨a, b, rfl, _⟩ := h; rfl
  · obtain ⟨a, b, rfl, h⟩ := h
    refine ⟨_, (pss_cons (ps_set (i := 2) sc__law_cmp.nd rfl (by first | exact Or.inl rfl | exact Or.inr rfl) (pe_op op_sub (pe_op Z.zMul (pe_ix ix_seq (pv 0) pe_int (fun _ _ => rfl)) (pe_ix ix_seq (pv 1) pe_int (fun _ _ => rfl))) (pe_op Z.zMul (pe_ix ix_seq (pv 1) pe_int (fun _ _ => rfl)) (pe_ix ix_seq (pv 0) pe_int (fun _ _ => rfl)))))
      (pss_one (ps_ret (pe_op op_sub (pe_callTy Z.zInt (by rfl) T.b_int (by decide +kernel) (pa_cons (pe_cmpR Z.zGt (pv 2) pe_int (nomark _)) pa_nil)) (pe_callTy Z.zInt (by rfl) T.b_int (by decide +kernel) (pa_cons (pe_cmpR Z.zLt (pv 2) pe_int (nomark _)) pa_nil)))))), ?_⟩
    try dsimp only [cxOf, Cx.nox, Cx.wish]
    refine Z.at_start (σ' := [some a, some b, none]) rfl ?_
    obtain ⟨L, a, b, c, d, F, hx, hy, sa, sb, sc, sd, k⟩ := h
    obtain ⟨p, rfl, sp1⟩ := hx.sq F
    obtain ⟨q, rfl, sp2⟩ := hy.sq F
    have c1 : L2.CMulW a d := ratio_mul sa sd
    have c2 : L2.CMulW c b := ratio_mul sc sb
    walk_at "z"
    have e : (if (decide (0 < a * d - c * b)) = true then (1 : Int) else 0) - (if (decide (a * d - c * b < 0)) = true then (1 : Int) else 0) = cmpI a b c d := by
      unfold cmpI
      simp only [decide_eq_true_eq]
      split <;> split <;> (try split) <;> (try split) <;> omega
    rw [e]
    exact k
theorem ok__law_cmp (T : Txt K mg c_BadStretch c_Stretch c_ONE) : Z.Ok CX0 P w K mg base "_law_cmp" 1 ["_law_one", "_law_other"] [] (sp__law_cmp K) := by
  obtain ⟨f, fd, F, g⟩ := T.d__law_cmp
  exact Z.mkOk F g (F.binds (ps := ["_law_one", "_law_other"]) fun _ _ _ _ _ _ us hl => match us, hl with | [_, _], _ => rfl) (fn__law_cmp T F)
theorem use__law_cmp {H : Hp} {Q : VK} {E : XK} {L : List Z.En} {x y : V} {a b c d : Int} (F : Z.Fx H L) (hx : Z.Rt K L x a b) (hy : Z.Rt K L y c d) (sa : Sz 1900 a) (sb : Sz 1900 b) (sc : Sz 1900 c) (sd : Sz 1900 d) (k : Q (.int (cmpI a b c d)) H) : sp__law_cmp K [x, y] H Q E := ⟨_, _, rfl, L, a, b, c, d, F, hx, hy, sa, sb, sc, sd, k⟩
theorem use_lcmpR {S : List (Int × Int)} {H : Hp} {Q : VK} {E : XK} {L : List Z.En} {x y : V} {i j : Nat} (F : Z.Fx H L) (s : Scale S) (hi : i < S.length) (hj : j < S.length) (hx : Z.Rt K L x (plc S i).1 (plc S i).2) (hy : Z.Rt K L y (plc S j).1 (plc S j).2) (k : Q (.int (sg i j)) H) : sp__law_cmp K [x, y] H Q E := by
  obtain ⟨_, _, a1, a2⟩ := s.ok i hi
  obtain ⟨_, _, b1, b2⟩ := s.ok j hj
  refine use__law_cmp F hx hy (a1.mono (by decide)) (a2.mono (by decide)) (b1.mono (by decide)) (b2.mono (by decide)) ?_
  rw [scale_cmp s hi hj]
  exact k
theorem use_lcmpP {S : List (Int × Int)} {H : Hp} {Q : VK} {E : XK} {L : List Z.En} {x y : V} {i j : Nat} (F : Z.Fx H L) (s : Scale S) (hx : PosV S L x i) (hy : PosV S L y j) (k : Q (.int (sg i j)) H) : sp__law_cmp K [x, y] H Q E := use_lcmpR F s hx.1 hy.1 hx.rt hy.rt k
/-- a tuple (1, 1) is the lowest place -/
theorem one_pos {S : List (Int × Int)} (s : Scale S) {L : List Z.En} {p : Addr} (m : Z.En.ob p (.tup [.int 1, .int 1]) ∈ L) : PosV S L (.ref p) 0 := ⟨by have := s.len; omega, p, rfl, by rw [s.one]; exact m⟩
theorem sc_Stretch___contains__ : FnScope ["self", "ratio"] ["self", "ratio"] (defScope s_Stretch___contains__) := ⟨rfl, rfl, rfl, by decide +kernel, rfl, by decide +kernel, by decide +kernel⟩
def inRow (r : Nat × Nat) (q : Nat) : Bool := decide (1 ≤ q) && (decide (r.1 ≤ q) && decide (q ≤ r.2))
def sp_Stretch___contains__ (K : PySem.W.Frag) (cS : Addr) : Sp := Z.Sp2 fun a b H Q E => ∃ (L : List Z.En) (S : List (Int × Int)) (r : Nat × Nat), Z.Fx H L ∧ Scale S ∧ StrV cS S L a r ∧
  ((∃ q, PosV S L b q ∧ Q (.bl (inRow r q)) H) ∨ ∃ c d, Z.Rt K L b c d ∧ Sz 1900 c ∧ Sz 1900 d ∧ cmpI c d 1 1 ≤ 0 ∧ Q (.bl false) H)
theorem fn_Stretch___contains__ (T : Txt K mg c_BadStretch c_Stretch c_ONE) {f : Addr} {fd : FuncData} (F : Fun K "__contains__" "Stretch.__contains__" s_Stretch___contains__ f fd) : FnOk P w K mg base CX0 3 f fd ["self", "ratio"] (sp_Stretch___contains__ K c_Stretch) := by
  have O__is_below := ok__is_below (P := P) (w := w) (base := base) T
  have O_compare := ok_compare (P := P) (w := w) (base := base) T
  refine F.ok sc_Stretch___contains__ (fun vs H Q E h => ?_) (fun cdv A outer s H vs Q E hr h => ?_)
  · obtain ⟨a, b, rfl, _⟩ := h; rfl
  · obtain ⟨a, b, rfl, h⟩ := h
    refine ⟨_, (pss_one (ps_ret (pe_andT (pe_cmpR Z.zGt (Z.pe_callO O_compare (by rfl) (hr.mono (by decide)) pass0 (pa_cons (pv 1) (pa_cons (pe_glob (v := V.ref c_ONE) (by rfl) T.k_ONE (show RelV (V.ref _) _ from rfl)) pa_nil))) pe_int (nomark _)) (pe_andT (pe_cmpR Z.zLe (Z.pe_callO O_compare (by rfl) (hr.mono (by decide)) pass0 (pa_cons (pe_fld (pv 0) rfl) (pa_cons (pv 1) pa_nil))) pe_int (nomark _)) (pe_one (pe_notT (Z.pe_callO O__is_below (by rfl) (hr.mono (by decide)) pass0 (pa_cons (pe_fld (pv 0) rfl) (pa_cons (pv 1) pa_nil))))))))), ?_⟩
    try dsimp only [cxOf, Cx.nox, Cx.wish]
    refine Z.at_start (σ' := [some a, some b]) rfl ?_
    obtain ⟨L, S, r, F, s, hs, hq⟩ := h
    obtain ⟨p, dx, x, y, rfl, m, hx, hy⟩ := hs
    have hcl := T.i_Stretch.cl
    have h0 : (0 : Nat) < S.length := by have := s.len; omega
    have h1 : Z.Rt K L (.ref c_ONE) 1 1 := ⟨_, rfl, .inr T.kt_ONE⟩
    rcases hq with ⟨q, hb, k⟩ | ⟨c, d, hb, sc, sd, hle, k⟩
    · unfold inRow at k
      walk_at "z"
      refine use_cmpR F s hb.1 h0 hb.rt (by rw [s.one]; exact h1) ?_
      walk_at "z"
      refine Z.wIfD (fun h => ?_) (fun h => ?_)
      · rw [sg_pos] at h
        rw [decide_eq_true (show 1 ≤ q by omega), Bool.true_and] at k
        walk_at "z"
        refine Z.wFldAt F m hcl T.n_Stretch_low (str_low _ _) ?_
        walk_at "z"
        refine use_cmpP F s hx hb ?_
        walk_at "z"
        refine Z.wIfD (fun h => ?_) (fun h => ?_)
        · rw [sg_le] at h
          rw [decide_eq_true h, Bool.true_and] at k
          walk_at "z"
          refine Z.wFldAt F m hcl T.n_Stretch_high (str_high _ _) ?_
          walk_at "z"
          refine use__is_below F s hy hb ?_
          walk_at "z"
          have e : (!decide (r.2 < q)) = decide (q ≤ r.2) := by
            rw [Bool.eq_iff_iff]
            simp only [Bool.not_eq_true', decide_eq_false_iff_not, decide_eq_true_eq]
            omega
          rw [e]
          exact k
        · have h2 := h
          rw [sg_le] at h
          rw [decide_eq_false h, Bool.false_and] at k
          rw [decide_eq_false h2]
          exact k
      · have h2 := h
        rw [sg_pos] at h
        rw [decide_eq_false (show ¬ 1 ≤ q by omega), Bool.false_and] at k
        rw [decide_eq_false h2]
        exact k
    · walk_at "z"
      refine use_compare F hb h1 sc sd sz1 sz1 ?_
      walk_at "z"
      rw [decide_eq_false
            (by omega)]
      exact k
theorem ok_Stretch___contains__ (T : Txt K mg c_BadStretch c_Stretch c_ONE) : Z.InO P w K mg base c_Stretch 3 ["self", "ratio"] (sp_Stretch___contains__ K c_Stretch) := by
  obtain ⟨f, fd, F, i⟩ := T.d_Stretch___contains__
  exact ⟨f, fd, i, (F.binds (ps := ["self", "ratio"]) fun _ _ _ _ _ _ us hl => match us, hl with | [_, _], _ => rfl), fn_Stretch___contains__ T F⟩
theorem in_str {cS : Addr} {H : Hp} {Q : VK} {L : List Z.En} {S : List (Int × Int)} {a b : V} {r : Nat × Nat} {q : Nat} (F : Z.Fx H L) (s : Scale S) (ha : StrV cS S L a r) (hb : PosV S L b q) (k : Q (.bl (inRow r q)) H) : Z.rInOwn K cS (sp_Stretch___contains__ K cS) b a H Q := by
  obtain ⟨p, dx, x, y, rfl, m, hx, hy⟩ := id ha
  exact Z.wInOwn (F.get m) ⟨_, _, rfl, L, S, r, F, s, ha, .inl ⟨q, hb, _, rfl, k⟩⟩
theorem in_strR {cS : Addr} {H : Hp} {Q : VK} {L : List Z.En} {S : List (Int × Int)} {a b : V} {r : Nat × Nat} {c d : Int} (F : Z.Fx H L) (s : Scale S) (ha : StrV cS S L a r) (hb : Z.Rt K L b c d) (sc : Sz 1900 c) (sd : Sz 1900 d) (hle : cmpI c d 1 1 ≤ 0) (k : Q (.bl false) H) : Z.rInOwn K cS (sp_Stretch___contains__ K cS) b a H Q := by
  obtain ⟨p, dx, x, y, rfl, m, hx, hy⟩ := id ha
  exact Z.wInOwn (F.get m) ⟨_, _, rfl, L, S, r, F, s, ha, .inr ⟨c, d, hb, sc, sd, hle, _, rfl, k⟩⟩
theorem sc_is_in_stretches : FnScope ["stretches", "ratio", "stretch"] ["stretches", "ratio"] (defScope s_is_in_stretches) := ⟨rfl, rfl, rfl, by decide +kernel, rfl, by decide +kernel, by decide +kernel⟩
/-! ### lists of stretches by the places of their ends -/
def Can (rows : List (Nat × Nat)) : Prop := rows.Pairwise (fun a b => a.2 < b.1)
/-- a stretch whose ends are even places below n, none with the end 0 -/
def OkR (n : Nat) (r : Nat × Nat) : Prop := r.1 ≤ r.2 ∧ 1 ≤ r.2 ∧ r.2 ≤ n ∧ r.1 < n ∧ r.1 % 2 = 0 ∧ r.2 % 2 = 0
def hasP (rows : List (Nat × Nat)) (q : Nat) : Bool := rows.any fun r => decide (r.1 ≤ q) && decide (q ≤ r.2)
theorem hasP_iff {rows : List (Nat × Nat)} {q : Nat} : hasP rows q = true ↔ ∃ r ∈ rows, r.1 ≤ q ∧ q ≤ r.2 := by
  unfold hasP
  rw [List.any_eq_true]
  constructor
  · rintro ⟨r, h, k⟩
    rw [Bool.and_eq_true, decide_eq_true_eq, decide_eq_true_eq] at k
    exact ⟨r, h, k⟩
  · rintro ⟨r, h, k⟩
    exact ⟨r, h, by rw [Bool.and_eq_true, decide_eq_true_eq, decide_eq_true_eq]; exact k⟩
theorem can_two {rows : List (Nat × Nat)} (c : Can rows) {a b : Nat × Nat} (ha : a ∈ rows) (hb : b ∈ rows) : a = b ∨ a.2 < b.1 ∨ b.2 < a.1 := by
  induction rows with
  | nil => cases ha
  | cons x r ih =>
    have p := List.pairwise_cons.mp c
    rcases List.mem_cons.mp ha with e | ha1
    · subst e
      rcases List.mem_cons.mp hb with e | hb1
      · exact .inl e.symm
      · exact .inr (.inl (p.1 _ hb1))
    · rcases List.mem_cons.mp hb with e | hb1
      · subst e
        exact .inr (.inr (p.1 _ ha1))
      · exact ih p.2 ha1 hb1
/-- the place behind an end is in none -/
theorem gap {rows : List (Nat × Nat)} {n : Nat} (c : Can rows) (o : ∀ r ∈ rows, OkR n r) {r : Nat × Nat} (h : r ∈ rows) : hasP rows (r.2 + 1) = false := by
  rw [Bool.eq_false_iff]
  intro k
  obtain ⟨t, ht, h1, h2⟩ := hasP_iff.mp k
  have o1 := o r h
  have o2 := o t ht
  unfold OkR at o1 o2
  rcases can_two c h ht with rfl | g | g
  · omega
  · omega
  · omega
/-- unlike canonical lists are unlike sets -/
theorem can_ext {n : Nat} : ∀ {A B : List (Nat × Nat)}, Can A → Can B → (∀ r ∈ A, OkR n r) → (∀ r ∈ B, OkR n r) → n % 2 = 0 → (∀ q, q < n → hasP A q = hasP B q) → A = B := by
  intro A
  induction A with
  | nil =>
    intro B cA cB oA oB hn h
    cases B with
    | nil => rfl
    | cons b r =>
      have o := oB b List.mem_cons_self
      have := h b.1 o.2.2.2.1
      have k : hasP (b :: r) b.1 = true := hasP_iff.mpr ⟨b, List.mem_cons_self, Nat.le_refl _, o.1⟩
      rw [k] at this
      cases this
  | cons a s ih =>
    intro B cA cB oA oB hn h
    have o := oA a List.mem_cons_self
    cases B with
    | nil =>
      have := h a.1 o.2.2.2.1
      have k : hasP (a :: s) a.1 = true := hasP_iff.mpr ⟨a, List.mem_cons_self, Nat.le_refl _, o.1⟩
      rw [k] at this
      cases this
    | cons b r =>
      have p := oB b List.mem_cons_self
      have pA := List.pairwise_cons.mp cA
      have pB := List.pairwise_cons.mp cB
      have low : ∀ {x : Nat × Nat} {t : List (Nat × Nat)} {q : Nat}, Can (x :: t) → (∀ r ∈ x :: t, OkR n r) → hasP (x :: t) q = true → x.1 ≤ q := by
        intro x t q c ok k
        obtain ⟨y, hy, y1, y2⟩ := hasP_iff.mp k
        rcases List.mem_cons.mp
              hy with rfl | hy
        · exact y1
        · have := (List.pairwise_cons.mp c).1 y hy
          have := (ok x List.mem_cons_self).1
          omega
      have e1 : a.1 = b.1 := by
        have k1 : hasP (a :: s) a.1 = true := hasP_iff.mpr ⟨a, List.mem_cons_self, Nat.le_refl _, o.1⟩
        have k2 : hasP (b :: r) b.1 = true := hasP_iff.mpr ⟨b, List.mem_cons_self, Nat.le_refl _, p.1⟩
        have l1 := low cB oB ((h a.1 o.2.2.2.1).symm.trans k1)
        have l2 := low cA oA ((h b.1 p.2.2.2.1).trans k2)
        omega
      have key : ∀ {x y : Nat × Nat} {t u : List (Nat × Nat)}, Can (x :: t) → (∀ r ∈ x :: t, OkR n r) → OkR n y → x.1 = y.1 → (∀ q, q < n → hasP (x :: t) q = hasP (y :: u) q) → y.2 ≤ x.2 := by
        intro x y t u c ok oy e hq
        rcases Nat.lt_or_ge x.2 y.2 with hlt | hge
        · exfalso
          have g := gap c ok List.mem_cons_self
          have ox := ok x List.mem_cons_self
          unfold OkR at ox oy
          have hq' := hq (x.2 + 1) (by omega)
          rw [g] at hq'
          have : hasP (y :: u) (x.2 + 1) = true := hasP_iff.mpr ⟨y, List.mem_cons_self, by omega, by omega⟩
          rw [this] at hq'
          cases hq'
        · exact hge
      have e2 : a.2 = b.2 := Nat.le_antisymm (key cB oB o e1.symm fun q hq => (h q hq).symm) (key cA oA p e1 h)
      have eab : a = b := Prod.ext e1 e2
      subst eab
      rw [ih pA.2 pB.2 (fun r hr => oA r (List.mem_cons_of_mem _ hr)) (fun r hr => oB r (List.mem_cons_of_mem _ hr)) hn fun q hq => ?_]
      have hq' := h q hq
      have split : ∀ (t : List (Nat × Nat)), hasP (a :: t) q = (decide (a.1 ≤ q) && decide (q ≤ a.2) || hasP t q) := fun t => rfl
      rw [split, split] at hq'
      by_cases hc : q ≤ a.2
      · have none : ∀ {t : List (Nat × Nat)}, (∀ y ∈ t, a.2 < y.1) → hasP t q = false := by
          intro t ht
          rw [Bool.eq_false_iff]
          intro k
          obtain ⟨y, hy, y1, y2⟩ := hasP_iff.mp k
          have := ht y hy
          omega
        rw [none pA.1, none pB.1]
      · rw [decide_eq_false hc, Bool.and_false, Bool.false_or, Bool.false_or] at hq'
        exact hq'
/-- what is told of a list made of two -/
def Made (n : Nat) (f : Nat → Bool) (R : List (Nat × Nat)) : Prop := Can R ∧ (∀ r ∈ R, OkR n r) ∧ ∀ q, q < n → hasP R q = f q
theorem Made.uni {n : Nat} {f g : Nat → Bool} {R T : List (Nat × Nat)} (hn : n % 2 = 0) (a : Made n f R) (b : Made n g T) (h : ∀ q, q < n → f q = g q) : R = T :=
  can_ext a.1 b.1 a.2.1 b.2.1 hn fun q hq => by rw [a.2.2 q hq, b.2.2 q hq, h q hq]
/-! ### either -/
def joinN (acc : List (Nat × Nat)) (r : Nat × Nat) : List (Nat × Nat) := match acc.getLast? with
  | none => [r]
  | some l => if l.2 < r.1 then acc ++ [r] else acc.dropLast ++ [(l.1, max l.2 r.2)]
theorem hasP_app (A B : List (Nat × Nat)) (q : Nat) : hasP (A ++ B) q = (hasP A q || hasP B q) := by unfold hasP; rw [List.any_append]
theorem hasP_one (r : Nat × Nat) (q : Nat) : hasP [r] q = (decide (r.1 ≤ q) && decide (q ≤ r.2)) := by simp [hasP]
theorem joinN_ok {n : Nat} {acc : List (Nat × Nat)} {r : Nat × Nat} (c : Can acc) (o : ∀ x ∈ acc, OkR n x) (l : ∀ x ∈ acc, x.1 ≤ r.1) (ro : OkR n r) :
    Can (joinN acc r) ∧ (∀ x ∈ joinN acc r, OkR n x) ∧ (∀ x ∈ joinN acc r, x.1 ≤ r.1) ∧ ∀ q, hasP (joinN acc r) q = (hasP acc q || (decide (r.1 ≤ q) && decide (q ≤ r.2))) := by
  unfold joinN
  cases hl : acc.getLast? with
  | none =>
    have : acc = [] := by simpa using hl
    subst this
    refine ⟨List.pairwise_singleton _ _, fun x hx => ?_, fun x hx => ?_, fun q => by rw [hasP_one]; rfl⟩
    · rw [List.mem_singleton.mp hx]; exact ro
    · rw [List.mem_singleton.mp hx]; exact Nat.le_refl _
  | some z =>
    obtain ⟨ys, rfl⟩ := List.getLast?_eq_some_iff.mp hl
    rw [List.dropLast_concat]
    have cp := List.pairwise_append.mp c
    have oz := o z (by simp)
    have lz := l z (by simp)
    dsimp only
    split
    · rename_i h
      refine ⟨?_, fun x hx => ?_, fun x hx => ?_, fun q => by rw [hasP_app _ [r], hasP_one]⟩
      · refine List.pairwise_append.mpr ⟨c, List.pairwise_singleton _ _, fun x hx y hy => ?_⟩
        rw [List.mem_singleton.mp hy]
        rcases List.mem_append.mp
              hx with hx | hx
        · have := cp.2.2 x hx z (by simp)
          have := oz.1
          omega
        · rw [List.mem_singleton.mp hx]; exact h
      · rcases List.mem_append.mp
            hx with hx | hx
        · exact o x hx
        · rw [List.mem_singleton.mp hx]; exact ro
      · rcases List.mem_append.mp
            hx with hx | hx
        · exact l x hx
        · rw [List.mem_singleton.mp hx]; exact Nat.le_refl _
    · rename_i h
      have nz : OkR n (z.1, max z.2 r.2) := by
        unfold OkR at *
        dsimp only
        rcases Nat.le_total z.2 r.2 with m | m
        · rw [Nat.max_eq_right m]; omega
        · rw [Nat.max_eq_left m]; omega
      refine ⟨?_, fun x hx => ?_, fun x hx => ?_, fun q => ?_⟩
      · refine List.pairwise_append.mpr ⟨cp.1, List.pairwise_singleton _ _, fun x hx y hy => ?_⟩
        rw [List.mem_singleton.mp hy]
        exact cp.2.2 x hx z (by simp)
      · rcases List.mem_append.mp
            hx with hx | hx
        · exact o x (List.mem_append_left _ hx)
        · rw [List.mem_singleton.mp hx]; exact nz
      · rcases List.mem_append.mp
            hx with hx | hx
        · exact l x (List.mem_append_left _ hx)
        · rw [List.mem_singleton.mp hx]; exact lz
      · rw [hasP_app, hasP_app, hasP_one, hasP_one, Bool.or_assoc]
        congr 1
        dsimp only
        rw [Bool.eq_iff_iff]
        simp only [Bool.or_eq_true, Bool.and_eq_true, decide_eq_true_eq]
        have := oz.1
        have := ro.1
        rcases Nat.le_total z.2 r.2 with m | m
        · rw [Nat.max_eq_right m]; omega
        · rw [Nat.max_eq_left m]; omega
theorem foldJ_ok {n : Nat} : ∀ (M : List (Nat × Nat)) (acc : List (Nat × Nat)), Can acc → (∀ x ∈ acc, OkR n x) → M.Pairwise (fun a b => a.1 ≤ b.1) → (∀ x ∈ acc, ∀ y ∈ M, x.1 ≤ y.1) → (∀ y ∈ M, OkR n y) →
    Can (M.foldl joinN acc) ∧ (∀ x ∈ M.foldl joinN acc, OkR n x) ∧ ∀ q, hasP (M.foldl joinN acc) q = (hasP acc q || hasP M q) := by
  intro M
  induction M with
  | nil => intro acc c o _ _ _; exact ⟨c, o, fun q => by simp [hasP]⟩
  | cons r s ih =>
    intro acc c o p l ok
    have pr := List.pairwise_cons.mp p
    obtain ⟨c1, o1, l1, h1⟩ := joinN_ok c o (fun x hx => l x hx r List.mem_cons_self) (ok r List.mem_cons_self)
    obtain ⟨c2, o2, h2⟩ := ih (joinN acc r) c1 o1 pr.2 (fun x hx y hy => Nat.le_trans (l1 x hx) (pr.1 y hy)) (fun y hy => ok y (List.mem_cons_of_mem _ hy))
    refine ⟨c2, o2, fun q => ?_⟩
    rw [List.foldl_cons, h2 q, h1 q, Bool.or_assoc]
    rfl
theorem hasP_perm {A B : List (Nat × Nat)} (p : A.Perm B) (q : Nat) : hasP A q = hasP B q := by
  rw [Bool.eq_iff_iff, hasP_iff, hasP_iff]
  exact ⟨fun ⟨r, h, k⟩ => ⟨r, p.mem_iff.mp h, k⟩, fun ⟨r, h, k⟩ => ⟨r, p.mem_iff.mpr h, k⟩⟩
theorem either_made {n : Nat} {A B M : List (Nat × Nat)} (oA : ∀ r ∈ A, OkR n r) (oB : ∀ r ∈ B, OkR n r) (p : M.Perm (A ++ B)) (s : M.Pairwise (fun a b => a.1 ≤ b.1)) :
    Made n (fun q => hasP A q || hasP B q) (M.foldl joinN []) := by
  have ok : ∀ y ∈ M, OkR n y := fun y hy => by
    rcases List.mem_append.mp (p.mem_iff.mp hy) with h | h
    · exact oA y h
    · exact oB y h
  obtain ⟨c, o, h⟩ := foldJ_ok (n := n) M [] .nil (fun _ h => absurd h (by simp)) s (fun _ h => absurd h (by simp)) ok
  refine ⟨c, o, fun q _ => ?_⟩
  rw [h q, hasP_perm p q, hasP_app]
  rfl
/-! ### both -/
def cutR (a b : Nat × Nat) : List (Nat × Nat) := if min a.2 b.2 < max a.1 b.1 then [] else [(max a.1 b.1, min a.2 b.2)]
def bothN (A B : List (Nat × Nat)) : List (Nat × Nat) := A.flatMap fun a => B.flatMap fun b => cutR a b
theorem mem_cut {a b r : Nat × Nat} : r ∈ cutR a b ↔ r = (max a.1 b.1, min a.2 b.2) ∧ max a.1 b.1 ≤ min a.2 b.2 := by
  unfold cutR
  split
  · exact ⟨fun h => absurd h (by simp), fun ⟨_, h⟩ => by omega⟩
  · rw [List.mem_singleton]
    exact ⟨fun h => ⟨h, by omega⟩, fun h => h.1⟩
theorem both_made {n : Nat} {A B : List (Nat × Nat)} (cA : Can A) (cB : Can B) (oA : ∀ r ∈ A, OkR n r) (oB : ∀ r ∈ B, OkR n r) : Made n (fun q => hasP A q && hasP B q) (bothN A B) := by
  refine ⟨?_, fun r hr => ?_, fun q hq => ?_⟩
  · unfold Can bothN
    rw [List.pairwise_flatMap]
    refine ⟨fun a ha => ?_, ?_⟩
    · rw [List.pairwise_flatMap]
      refine ⟨fun b hb => ?_, ?_⟩
      · unfold cutR
        split
        · exact .nil
        · exact List.pairwise_singleton _ _
      · refine List.Pairwise.imp_of_mem (fun {b1 b2} h1 h2 hlt x hx y hy => ?_) cB
        obtain ⟨rfl, _⟩ := mem_cut.mp hx
        obtain ⟨rfl, _⟩ := mem_cut.mp hy
        dsimp only
        omega
    · refine List.Pairwise.imp_of_mem (fun {a1 a2} h1 h2 hlt x hx y hy => ?_) cA
      obtain ⟨b1, _, hx⟩ := List.mem_flatMap.mp hx
      obtain ⟨b2, _, hy⟩ := List.mem_flatMap.mp hy
      obtain ⟨rfl, _⟩ := mem_cut.mp hx
      obtain ⟨rfl, _⟩ := mem_cut.mp hy
      dsimp only
      omega
  · obtain ⟨a, ha, hr⟩ := List.mem_flatMap.mp hr
    obtain ⟨b, hb, hr⟩ := List.mem_flatMap.mp hr
    obtain ⟨rfl, h⟩ := mem_cut.mp hr
    have o1 := oA a ha
    have o2 := oB b hb
    unfold OkR at *
    dsimp only
    rcases Nat.le_total a.1 b.1 with m | m <;> rcases Nat.le_total a.2 b.2 with m2 | m2
    · rw [Nat.max_eq_right m, Nat.min_eq_left m2] at *; omega
    · rw [Nat.max_eq_right m, Nat.min_eq_right m2] at *; omega
    · rw [Nat.max_eq_left m, Nat.min_eq_left m2] at *; omega
    · rw [Nat.max_eq_left m, Nat.min_eq_right m2] at *; omega
  · rw [Bool.eq_iff_iff, Bool.and_eq_true, hasP_iff, hasP_iff, hasP_iff]
    constructor
    · rintro ⟨r, hr, r1, r2⟩
      obtain ⟨a, ha, hr⟩ := List.mem_flatMap.mp hr
      obtain ⟨b, hb, hr⟩ := List.mem_flatMap.mp hr
      obtain ⟨rfl, h⟩ := mem_cut.mp hr
      dsimp only at r1 r2
      exact ⟨⟨a, ha, by omega, by omega⟩, ⟨b, hb, by omega, by omega⟩⟩
    · rintro ⟨⟨a, ha, a1, a2⟩, ⟨b, hb, b1, b2⟩⟩
      exact ⟨(max a.1 b.1, min a.2 b.2), List.mem_flatMap.mpr ⟨a, ha, List.mem_flatMap.mpr ⟨b, hb, mem_cut.mpr ⟨rfl, by omega⟩⟩⟩, by dsimp only; omega, by dsimp only; omega⟩
/-! ### within -/
def partN (a b : Nat × Nat) : Bool := decide (b.1 ≤ a.1) && decide (a.2 ≤ b.2)
def withinN (A B : List (Nat × Nat)) : Bool := A.all fun a => B.any fun b => partN a b
theorem within_iff {n : Nat} {A B : List (Nat × Nat)} (hn : n % 2 = 0) (n2 : 2 ≤ n) (cB : Can B) (oA : ∀ r ∈ A, OkR n r) (oB : ∀ r ∈ B, OkR n r) :
    withinN A B = true ↔ ∀ q, 1 ≤ q → q < n → hasP A q = true → hasP B q = true := by
  unfold withinN
  rw [List.all_eq_true]
  constructor
  · intro h q q1 q2 k
    obtain ⟨a, ha, a1, a2⟩ := hasP_iff.mp k
    obtain ⟨b, hb, k⟩ := List.any_eq_true.mp (h a ha)
    unfold partN at k
    rw [Bool.and_eq_true, decide_eq_true_eq, decide_eq_true_eq] at k
    exact hasP_iff.mpr ⟨b, hb, by omega, by omega⟩
  · intro h a ha
    have o := oA a ha
    unfold OkR at o
    have k1 := h (max a.1 1) (by omega) (by omega) (hasP_iff.mpr ⟨a, ha, by omega, by omega⟩)
    obtain ⟨b, hb, b1, b2⟩ := hasP_iff.mp k1
    have ob := oB b hb
    unfold OkR at ob
    refine List.any_eq_true.mpr ⟨b, hb, ?_⟩
    unfold partN
    rw [Bool.and_eq_true,
          decide_eq_true_eq, decide_eq_true_eq]
    refine ⟨by omega, ?_⟩
    rcases Nat.lt_or_ge b.2 a.2 with hlt | hge
    · exfalso
      have k2 := h (b.2 + 1) (by omega) (by omega) (hasP_iff.mpr ⟨a, ha, by omega, by omega⟩)
      rw [gap cB oB hb] at k2
      cases k2
    · exact hge
theorem any_inRow {rows : List (Nat × Nat)} {q : Nat} (h : 1 ≤ q) : (rows.any fun r => inRow r q) = hasP rows q := by
  unfold hasP inRow
  rw [decide_eq_true h]
  rfl
theorem any_map_bl {α : Type} {rows : List α} {f : α → Bool} : (rows.map f).any id = rows.any f := by rw [List.any_map]; rfl
theorem all_map_bl {α : Type} {rows : List α} {f : α → Bool} : (rows.map f).all id = rows.all f := by rw [List.all_map]; rfl
def sp_is_in_stretches (K : PySem.W.Frag) (cS : Addr) : Sp := Z.Sp2 fun x y H Q E => ∃ (L : List Z.En) (S : List (Int × Int)) (vs : List V) (rows : List (Nat × Nat)) (q : Nat), Z.Fx H L ∧ Scale S ∧ Z.SeqIs L x (some vs) ∧ Z.Al2 (StrV cS S L) vs rows ∧ vs.length ≤ 10000 ∧ PosV S L y q ∧ 1 ≤ q ∧ ∀ H', Z.Fx H' L → Q (.bl (hasP rows q)) H'
theorem fn_is_in_stretches (T : Txt K mg c_BadStretch c_Stretch c_ONE) {f : Addr} {fd : FuncData} (F : Fun K "is_in_stretches" "is_in_stretches" s_is_in_stretches f fd) : FnOk P w K mg base CX0 5 f fd ["stretches", "ratio"] (sp_is_in_stretches K c_Stretch) := by
  have O_Stretch___contains__ := ok_Stretch___contains__ (P := P) (w := w) (base := base) T
  refine F.ok sc_is_in_stretches (fun vs H Q E h => ?_) (fun cdv A outer s H vs Q E hr h => ?_)
  · obtain ⟨a, b, rfl, _⟩ := h; rfl
  · obtain ⟨a, b, rfl, h⟩ := h
    refine ⟨_, (pss_one (ps_ret (pe_callB (cr_any rfl) (by rfl) T.b_any (by decide +kernel) (pa_cons (by exact (pe_lc (own := [("stretch", 2)]) (g := (gName 2)) (by rfl) sc_is_in_stretches.nd (Z.pi_seq (pv 0)) (blkOk_by (own := [("stretch", 2)]) (N := ["stretches", "ratio", "stretch"]) (sc := defScope s_is_in_stretches) (by decide +kernel)) (fun _ _ _ _ _ => (by exact (pg_name (i := 2) sc_is_in_stretches.nd rfl (by first | exact Or.inl rfl | exact Or.inr rfl)))) (fun _ _ _ _ _ => (by exact pts_nil)) (fun _ _ _ _ _ => (by exact (pe_cmpR (show OpR _ _ (Z.rInOwn K c_Stretch (sp_Stretch___contains__ K c_Stretch)) from Z.op_inO O_Stretch___contains__ (hr.mono (by decide))) (pv 1) (pv 2) (by rfl)))))) pa_nil)))), ?_⟩
    try dsimp only [cxOf, Cx.nox, Cx.wish]
    refine Z.at_start (σ' := [some a, some b, none]) rfl ?_
    obtain ⟨L, S, vs, rows, q, F, s, hs, al, hl, hq, q1, k⟩ := h
    have lb := Z.line_big
    walk_at "z"
    refine Z.wLcS hs F (fun i acc L' => L' = L ∧ acc = (rows.take i).map fun r => V.bl (inRow r q)) ⟨rfl, rfl⟩ (fun i acc L' r e he => r.1 ▸ he) ?_ ?_
    · rintro i x D H2 acc L' hx ⟨rfl, rfl⟩ F2
      obtain ⟨r, hr, sx⟩ := al.getL hx
      walk_at "zw"
      walk_at "z"
      refine ⟨rfl, ?_⟩
      walk_at "z"
      refine in_str F2 s (sx.mono fun _ m => .tail _ m) (hq.mono fun _ m => .tail _ m) ?_
      exact Z.lcPut F2 (by rw [List.length_map, List.length_take]; have := al.len; omega) ⟨rfl, (Z.take_succ_map hr).symm⟩
    rintro D acc L' H2 F2 ⟨rfl, rfl⟩
    rw [al.len, List.take_length] at F2
    have e0 : (rows.map fun r => V.bl (inRow r q)) = (rows.map fun r => inRow r q).map V.bl := by rw [List.map_map]; rfl
    rw [e0] at F2
    walk_at "z"
    refine Z.wAny (F2.lst List.mem_cons_self) ?_
    rw [any_map_bl, any_inRow q1]
    exact k _ (F2.sub (by walk_at "zsub"))
theorem ok_is_in_stretches (T : Txt K mg c_BadStretch c_Stretch c_ONE) : Z.Ok CX0 P w K mg base "is_in_stretches" 5 ["stretches", "ratio"] [] (sp_is_in_stretches K c_Stretch) := by
  obtain ⟨f, fd, F, g⟩ := T.d_is_in_stretches
  exact Z.mkOk F g (F.binds (ps := ["stretches", "ratio"]) fun _ _ _ _ _ _ us hl => match us, hl with | [_, _], _ => rfl) (fn_is_in_stretches T F)
theorem use_is_in_stretches {cS : Addr} {H : Hp} {Q : VK} {E : XK} {L : List Z.En} {S : List (Int × Int)} {x y : V} {vs : List V} {rows : List (Nat × Nat)} {q : Nat} (F : Z.Fx H L) (s : Scale S) (hs : Z.SeqIs L x (some vs)) (al : Z.Al2 (StrV cS S L) vs rows) (hl : vs.length ≤ 10000) (hq : PosV S L y q) (q1 : 1 ≤ q) (k : ∀ H', Z.Fx H' L → Q (.bl (hasP rows q)) H') : sp_is_in_stretches K cS [x, y] H Q E := ⟨_, _, rfl, L, S, vs, rows, q, F, s, hs, al, hl, hq, q1, k⟩
theorem sc__by_low : FnScope ["one", "other", "merged", "at", "stretch"] ["one", "other"] (defScope s__by_low) := ⟨rfl, rfl, rfl, by decide +kernel, rfl, by decide +kernel, by decide +kernel⟩
def LowS (A : List (Nat × Nat)) : Prop := A.Pairwise (fun a b => a.1 ≤ b.1)
theorem LowS.drop {A : List (Nat × Nat)} (h : LowS A) {i : Nat} {a : Nat × Nat} (e : A[i]? = some a) : ∀ b ∈ A.drop (i + 1), a.1 ≤ b.1 := by
  have hi := (List.getElem?_eq_some_iff.mp e).1
  have p : (A.drop i).Pairwise (fun a b => a.1 ≤ b.1) := h.sublist (List.drop_sublist _ _)
  rw [List.drop_eq_getElem_cons hi] at p
  have e2 : A[i] = a := (List.getElem?_eq_some_iff.mp e).2
  rw [e2] at p
  exact (List.pairwise_cons.mp p).1
theorem drop_cons {α : Type} {A : List α} {i : Nat} {a : α} (e : A[i]? = some a) : A.drop i = a :: A.drop (i + 1) := by
  have hi := (List.getElem?_eq_some_iff.mp e).1
  rw [List.drop_eq_getElem_cons hi, (List.getElem?_eq_some_iff.mp e).2]
def sp__by_low (K : PySem.W.Frag) (cS : Addr) : Sp := Z.Sp2 fun x y H Q E => ∃ (L : List Z.En) (S : List (Int × Int)) (vs ws : List V) (A B : List (Nat × Nat)), Z.Fx H L ∧ Scale S ∧ Z.SeqIs L x (some vs) ∧ Z.Al2 (StrV cS S L) vs A ∧ vs.length ≤ 100 ∧ Z.SeqIs L y (some ws) ∧ Z.Al2 (StrV cS S L) ws B ∧ ws.length ≤ 100 ∧ LowS A ∧ LowS B ∧
  ∀ p us M L' H', M.Perm (A ++ B) → LowS M → Z.Al2 (StrV cS S L) us M → L.Sublist L' → Z.Fx H' (.ob p (.lst us) :: L') → Q (.ref p) H'
theorem fn__by_low (T : Txt K mg c_BadStretch c_Stretch c_ONE) {f : Addr} {fd : FuncData} (F : Fun K "_by_low" "_by_low" s__by_low f fd) : FnOk P w K mg base CX0 2 f fd ["one", "other"] (sp__by_low K c_Stretch) := by
  have O_compare := ok_compare (P := P) (w := w) (base := base) T
  refine F.ok sc__by_low (fun vs H Q E h => ?_) (fun cdv A outer s H vs Q E hr h => ?_)
  · obtain ⟨a, b, rfl, _⟩ := h; rfl
  · obtain ⟨a, b, rfl, h⟩ := h
    refine ⟨_, (pss_cons (ps_set (i := 2) sc__by_low.nd rfl (by first | exact Or.inl rfl | exact Or.inr rfl) (pe_lst pa_nil))
      (pss_cons (ps_set (i := 3) sc__by_low.nd rfl (by first | exact Or.inl rfl | exact Or.inr rfl) pe_int)
      (pss_cons (ps_for PassesOwn.never (by rfl) (Z.pi_seq (pv 0)) (pg_name (i := 4) sc__by_low.nd rfl (by first | exact Or.inl rfl | exact Or.inr rfl))
        (pss_cons (ps_while PassesOwn.never (PW.pt (pw_and (pt_cmpR Z.zLt (pv 3) (pe_callB Z.zLen (by rfl) T.b_len (by decide +kernel) (pa_cons (pv 1) pa_nil)) (nomark _)) (pw_and1 (pt_cmpR Z.zLt (Z.pe_callO O_compare (by rfl) (hr.mono (by decide)) pass0 (pa_cons (pe_fld (pe_ix ix_seq (pv 1) (pv 3) (fun _ _ => rfl)) rfl) (pa_cons (pe_fld (pv 4) rfl) pa_nil))) pe_int (nomark _)))))
          (pss_cons (ps_expr (pe_bm PySem.F.plainAttrs_list PySem.F.slot_list_append PySem.F.type_list_append mt_append (pv 2) (pa_cons (pe_ix ix_seq (pv 1) (pv 3) (fun _ _ => rfl)) pa_nil)))
          (pss_one (ps_aug (i := 3) sc__by_low.nd rfl (by first | exact Or.inl rfl | exact Or.inr rfl) pe_int ip_add))))
        (pss_one (ps_expr (pe_bm PySem.F.plainAttrs_list PySem.F.slot_list_append PySem.F.type_list_append mt_append (pv 2) (pa_cons (pv 4) pa_nil))))))
      (pss_one (ps_ret (pe_lst (StX.pa_star (pv 2) (StX.pa_star (pe_slice Z.zSlA (pv 1) (po_some (pv 3)) po_none) pa_nil)))))))), ?_⟩
    try dsimp only [cxOf, Cx.nox, Cx.wish]
    refine Z.at_start (σ' := [some a, some b, none, none, none]) rfl ?_
    obtain ⟨L, S, vs, ws, A, B, F, s, hs, al, hl, hs2, al2, hl2, pA, pB, k⟩ := h
    have lb := Z.line_big
    have hcl := T.i_Stretch.cl
    have la := al.len
    have lb2 := al2.len
    walk_at "z"
    rename_i mp H1 F1
    refine Z.wForQ hs (F1.sub (.cons _ (.refl _))) (fun i σ H' => ∃ (t : Nat) (us : List V) (M : List (Nat × Nat)) (v4 : Option V), σ = [some a, some b, some (.ref mp), some (.int (t : Nat)), v4] ∧ Z.Fx H' (.ob mp (.lst us) :: L) ∧ Z.Al2 (StrV c_Stretch S L) us M ∧ t ≤ ws.length ∧ us.length = i + t ∧ M.Perm (A.take i ++ B.take t) ∧ LowS M ∧ (∀ m ∈ M, (∀ b ∈ B.drop t, m.1 ≤ b.1) ∧ ∀ a ∈ A.drop i, m.1 ≤ a.1)) ⟨0, [], [], none, rfl, F1, .nil, Nat.zero_le _, rfl, by simp, .nil, fun _ h => absurd h (by simp)⟩ ?_ ?_ ?_
    · rintro i σ H' ⟨t, us, M, v4, rfl, F', _⟩
      exact ⟨_, F', fun _ h => .tail _ h⟩
    · rintro i x σ H' hx ⟨t, us, M, v4, rfl, F', au, ht, hu, pm, sm, lm⟩
      have hi := (List.getElem?_eq_some_iff.mp hx).1
      obtain ⟨a1, ha, sx⟩ := al.getL hx
      obtain ⟨p, dx, x1, y1, rfl, m1, hx1, hy1⟩ := id sx
      walk_at "y"
      refine Z.wWhile (fun m σ H' => ∃ (t : Nat) (us : List V) (M : List (Nat × Nat)), σ = [some a, some b, some (.ref mp), some (.int (t : Nat)), some (.ref p)] ∧ Z.Fx H' (.ob mp (.lst us) :: L) ∧ Z.Al2 (StrV c_Stretch S L) us M ∧ t ≤ ws.length ∧ us.length = i + t ∧ M.Perm (A.take i ++ B.take t) ∧ LowS M ∧ (∀ m ∈ M, (∀ b ∈ B.drop t, m.1 ≤ b.1) ∧ ∀ a ∈ A.drop i, m.1 ≤ a.1) ∧ m = ws.length - t) (ws.length - t) ⟨t, us, M, rfl, F', au, ht, hu, pm, sm, lm, rfl⟩ ?_
      clear F' au ht hu pm sm lm
      rintro m σ H' ⟨t, us, M, rfl, F', au, ht, hu, pm, sm, lm, hm⟩
      have dA := drop_cons ha
      have tA : A.take (i + 1) = A.take i ++ [a1] := by rw [List.take_add_one, ha]; rfl
      have pexit : (M ++ [a1]).Perm (A.take (i + 1) ++ B.take t) := by
        refine (pm.append_right [a1]).trans ?_
        rw [tA, List.append_assoc, List.append_assoc]
        exact List.Perm.append_left _ List.perm_append_comm
      have sexit : LowS (M ++ [a1]) := List.pairwise_append.mpr ⟨sm, List.pairwise_singleton _ _, fun m hm y hy => by
        rw [List.mem_singleton.mp hy]
        exact (lm m hm).2 a1 (by rw [dA]; exact List.mem_cons_self)⟩
      have lexit : (∀ b1 ∈ B.drop t, a1.1 ≤ b1.1) → ∀ m ∈ M ++ [a1], (∀ b ∈ B.drop t, m.1 ≤ b.1) ∧ ∀ a ∈ A.drop (i + 1), m.1 ≤ a.1 := fun hB m hm => by
        rcases List.mem_append.mp
              hm with hm | hm
        · exact ⟨(lm m hm).1, fun a h => (lm m hm).2 a (by rw [dA]; exact List.mem_cons_of_mem _ h)⟩
        · rw [List.mem_singleton.mp
              hm]
          exact ⟨hB, pA.drop ha⟩
      walk_at "y"
      refine Z.wLenSq (hs2.mono fun _ m => .tail _ m) F' ?_
      walk_at "y"
      refine Z.wIfD (fun h => ?_) (fun h => ?_)
      · have htl : t < B.length := by omega
        obtain ⟨b1, hb1⟩ : ∃ b1, B[t]? = some b1 := ⟨_, List.getElem?_eq_getElem htl⟩
        obtain ⟨w, hw, sw⟩ := al2.getR hb1
        obtain ⟨p2, dx2, x2, y2, rfl, m2, hx2, hy2⟩ := id sw
        have dB := drop_cons hb1
        walk_at "y"
        refine Z.wIxSq (hs2.mono fun _ m => .tail _ m) F' (v := .ref p2) (L2.atI_nat hw) ?_
        refine Z.wFldAt F' (.tail _ m2) hcl T.n_Stretch_low (str_low _ _) ?_
        walk_at "y"
        refine Z.wFldAt F' (.tail _ m1) hcl T.n_Stretch_low (str_low _ _) ?_
        walk_at "y"
        refine use_cmpP F' s (hx2.mono fun _ m => .tail _ m) (hx1.mono fun _ m => .tail _ m) ?_
        walk_at "y"
        refine Z.wIfD (fun h2 => ?_) (fun h2 => ?_)
        · rw [sg_neg] at h2
          walk_at "y"
          refine Z.wIxSq (hs2.mono fun _ m => .tail _ m) F' (v := .ref p2) (L2.atI_nat hw) ?_
          walk_at "y"
          rename_i H3 F3
          refine ⟨ws.length - (t + 1), by omega, t + 1, us ++ [.ref p2], M ++ [b1], by rw [Int.natCast_add]; rfl, F3, au.snoc sw, by omega, by rw [List.length_append, hu]; rfl, ?_, ?_, ?_, rfl⟩
          · rw [List.take_add_one, hb1, ← List.append_assoc]
            exact pm.append_right [b1]
          · exact List.pairwise_append.mpr ⟨sm, List.pairwise_singleton _ _, fun m hm y hy => by
              rw [List.mem_singleton.mp hy]
              exact (lm m hm).1 b1 (by rw [dB]; exact List.mem_cons_self)⟩
          · intro m hm
            rcases List.mem_append.mp
                  hm with hm | hm
            · exact ⟨fun b h => (lm m hm).1 b (by rw [dB]; exact List.mem_cons_of_mem _ h), (lm m hm).2⟩
            · rw [List.mem_singleton.mp
                  hm]
              refine ⟨pB.drop hb1, fun a h => ?_⟩
              rw [dA] at h
              rcases List.mem_cons.mp
                    h with rfl | h
              · omega
              · have := pA.drop ha a h
                omega
        · rw [sg_neg] at h2
          walk_at "z"
          rename_i H3 F3
          refine ⟨t, us ++ [.ref p], M ++ [a1], _, rfl, F3, au.snoc sx, by omega, by rw [List.length_append, hu]; simp; omega, pexit, sexit, lexit fun b h => ?_⟩
          rw [dB] at h
          rcases List.mem_cons.mp
                h with rfl | h
          · omega
          · have := pB.drop hb1 b h
            omega
      · walk_at "z"
        rename_i H3 F3
        refine ⟨t, us ++ [.ref p], M ++ [a1], _, rfl, F3, au.snoc sx, by omega, by rw [List.length_append, hu]; simp; omega, pexit, sexit, lexit fun b h => ?_⟩
        rw [List.drop_of_length_le (by omega)] at h
        exact absurd h (by simp)
    · rintro σ H' ⟨t, us, M, v4, rfl, F', au, ht, hu, pm, sm, lm⟩
      walk_at "z"
      refine Z.wStarL ?_
      walk_at "z"
      refine Z.starL (F'.lst (.head _)) ?_
      refine Z.wStarL ?_
      walk_at "z"
      refine Z.wSlAS (hs2.mono fun _ m => .tail _ m) (.refl _) F' fun p H2 N hq F2 => ?_
      rw [Z.cut_from] at hq
      have fin : ∀ p3 H3, Z.Fx H3 (.ob p3 (.lst (us ++ ws.drop t)) :: (N ++ (.ob mp (.lst us) :: L))) → Q (.ref p3) H3 := fun p3 H3 F3 => by
        refine k p3 _ (M ++ B.drop t) _ H3 ?_ ?_ (au.app (al2.drop t)) ?_ F3
        · rw [la, List.take_length] at pm
          refine (pm.append_right _).trans ?_
          rw [List.append_assoc, List.take_append_drop]
        · refine List.pairwise_append.mpr ⟨sm, pB.sublist (List.drop_sublist _ _), fun m hm y hy => (lm m hm).1 y hy⟩
        · exact List.Sublist.trans (.cons _ (.refl _)) (List.sublist_append_right _ _)
      have hn : (us ++ (ws.drop t ++ [])).length ≤ 1000 := by rw [List.append_nil, List.length_append, List.length_drop]; omega
      have e9 : us ++ (ws.drop t ++ []) = us ++ ws.drop t := by rw [List.append_nil]
      cases hq with
      | lst _ m2 =>
        refine ⟨p, _, rfl, .inr (F2.lst m2), ?_⟩
        walk_at "z"
        rename_i p3 H3 F3
        rw [e9] at F3
        exact fin p3 H3 F3
      | tup _ m2 =>
        refine ⟨p, _, rfl, .inl (F2.tup m2), ?_⟩
        walk_at "z"
        rename_i p3 H3 F3
        rw [e9] at F3
        exact fin p3 H3 F3
theorem ok__by_low (T : Txt K mg c_BadStretch c_Stretch c_ONE) : Z.Ok CX0 P w K mg base "_by_low" 2 ["one", "other"] [] (sp__by_low K c_Stretch) := by
  obtain ⟨f, fd, F, g⟩ := T.d__by_low
  exact Z.mkOk F g (F.binds (ps := ["one", "other"]) fun _ _ _ _ _ _ us hl => match us, hl with | [_, _], _ => rfl) (fn__by_low T F)
theorem use__by_low {cS : Addr} {H : Hp} {Q : VK} {E : XK} {L : List Z.En} {S : List (Int × Int)} {x y : V} {vs ws : List V} {A B : List (Nat × Nat)} (F : Z.Fx H L) (s : Scale S) (hs : Z.SeqIs L x (some vs)) (al : Z.Al2 (StrV cS S L) vs A) (hl : vs.length ≤ 100) (hs2 : Z.SeqIs L y (some ws)) (al2 : Z.Al2 (StrV cS S L) ws B) (hl2 : ws.length ≤ 100) (pA : LowS A) (pB : LowS B)
  (k : ∀ p us M L' H', M.Perm (A ++ B) → LowS M → Z.Al2 (StrV cS S L) us M → L.Sublist L' → Z.Fx H' (.ob p (.lst us) :: L') → Q (.ref p) H') : sp__by_low K cS [x, y] H Q E := ⟨_, _, rfl, L, S, vs, ws, A, B, F, s, hs, al, hl, hs2, al2, hl2, pA, pB, k⟩
theorem sc__law_points : FnScope ["_law_borders", "_law_found", "_law_low", "_law_border"] ["_law_borders"] (defScope s__law_points) := ⟨rfl, rfl, rfl, by decide +kernel, rfl, by decide +kernel, by decide +kernel⟩
def RLt (x y : Int × Int) : Prop := x.1 * y.2 < y.1 * x.2
theorem RLt.trans {x y z : Int × Int} (hx : 1 ≤ x.2) (hy : 1 ≤ y.2) (hz : 1 ≤ z.2) (h : RLt x y) (h2 : RLt y z) : RLt x z := by
  unfold RLt at *
  have a : x.1 * y.2 * z.2 < y.1 * x.2 * z.2 := Int.mul_lt_mul_of_pos_right h (by omega)
  have b : y.1 * z.2 * x.2 < z.1 * y.2 * x.2 := Int.mul_lt_mul_of_pos_right h2 (by omega)
  have c : y.1 * x.2 * z.2 = y.1 * z.2 * x.2 := by rw [Int.mul_assoc, Int.mul_assoc, Int.mul_comm x.2]
  have d : x.1 * y.2 * z.2 = x.1 * z.2 * y.2 := by rw [Int.mul_assoc, Int.mul_assoc, Int.mul_comm y.2]
  have e : z.1 * y.2 * x.2 = z.1 * x.2 * y.2 := by rw [Int.mul_assoc, Int.mul_assoc, Int.mul_comm y.2]
  have : x.1 * z.2 * y.2 < z.1 * x.2 * y.2 := by omega
  exact Int.lt_of_mul_lt_mul_right this (by omega)
/-- what a ratio of the ends is -/
def OneR (r : Int × Int) : Prop := 1 ≤ r.2 ∧ Nat.gcd r.1.natAbs r.2.natAbs = 1 ∧ Sz 110 r.1 ∧ Sz 110 r.2
def PtR (r : Int × Int) : Prop := 1 ≤ r.2 ∧ Nat.gcd r.1.natAbs r.2.natAbs = 1 ∧ Sz 300 r.1 ∧ Sz 300 r.2
theorem OneR.pt {r : Int × Int} (h : OneR r) : PtR r := ⟨h.1, h.2.1, h.2.2.1.mono (by decide), h.2.2.2.mono (by decide)⟩
theorem mid_ok {x y : Int × Int} (hx : OneR x) (hy : OneR y) (h : RLt x y) : PtR (midR x y) ∧ RLt x (midR x y) ∧ RLt (midR x y) y := by
  obtain ⟨x2, _, sx1, sx2⟩ := hx
  obtain ⟨y2, _, sy1, sy2⟩ := hy
  have hp : 0 < x.2 * y.2 := Int.mul_pos (by omega) (by omega)
  have e0 : 2 * x.2 * y.2 = 2 * (x.2 * y.2) := Int.mul_assoc _ _ _
  have hb : 2 * x.2 * y.2 ≠ 0 := by omega
  obtain ⟨e1, e2, l1, g, _, _⟩ := low_spec (t := x.1 * y.2 + y.1 * x.2) hb
  have hs : 0 < shr (x.1 * y.2 + y.1 * x.2) (2 * x.2 * y.2) := by
    have := shr_ne (t := x.1 * y.2 + y.1 * x.2) hb
    unfold shr at *
    rw [if_neg (by omega)] at *
    omega
  have s2 : Sz 2 2 := by unfold Sz; decide
  have sB : Sz 300 (2 * x.2 * y.2) := ((s2.mul sx2).mul sy2).mono (by decide)
  have sT : Sz 300 (x.1 * y.2 + y.1 * x.2) := ((sx1.mul sy2).add (sy1.mul sx2)).mono (by decide)
  refine ⟨⟨l1, g, sT.lowT hb, sB.lowB hb⟩, ?_, ?_⟩
  · unfold RLt midR at *
    dsimp only
    generalize shr (x.1 * y.2 + y.1 * x.2) (2 * x.2 * y.2) = g0 at *
    generalize lowT (x.1 * y.2 + y.1 * x.2) (2 * x.2 * y.2) = t0 at *
    generalize lowB (x.1 * y.2 + y.1 * x.2) (2 * x.2 * y.2) = b0 at *
    have k : x.1 * (g0 * b0) < g0 * t0 * x.2 := by
      rw [← e1, ← e2]
      have a1 : x.1 * (2 * x.2 * y.2) = (x.1 * y.2 + x.1 * y.2) * x.2 := by
        rw [Int.add_mul, Int.mul_assoc 2, Int.mul_left_comm x.1 2, Int.two_mul, Int.mul_assoc x.1 y.2, Int.mul_comm y.2]
      rw [a1]
      exact Int.mul_lt_mul_of_pos_right (by omega) (by omega)
    rw [Int.mul_left_comm, Int.mul_assoc] at k
    exact Int.lt_of_mul_lt_mul_left k (by omega)
  · unfold RLt midR at *
    dsimp only
    generalize shr (x.1 * y.2 + y.1 * x.2) (2 * x.2 * y.2) = g0 at *
    generalize lowT (x.1 * y.2 + y.1 * x.2) (2 * x.2 * y.2) = t0 at *
    generalize lowB (x.1 * y.2 + y.1 * x.2) (2 * x.2 * y.2) = b0 at *
    have k : g0 * t0 * y.2 < y.1 * (g0 * b0) := by
      rw [← e1, ← e2]
      have a1 : y.1 * (2 * x.2 * y.2) = (y.1 * x.2 + y.1 * x.2) * y.2 := by
        rw [Int.add_mul, Int.mul_assoc 2, Int.mul_left_comm y.1 2, Int.two_mul, ← Int.mul_assoc y.1]
      rw [a1]
      exact Int.mul_lt_mul_of_pos_right (by omega) (by omega)
    rw [Int.mul_left_comm, Int.mul_assoc] at k
    exact Int.lt_of_mul_lt_mul_left k (by omega)
def overR (x : Int × Int) : Int × Int := (x.1 + x.2, x.2)
theorem over_ok {x : Int × Int} (hx : OneR x) : PtR (overR x) ∧ RLt x (overR x) := by
  obtain ⟨x2, g, s1, s2⟩ := hx
  refine ⟨⟨x2, ?_, (s1.add s2).mono (by decide), s2.mono (by decide)⟩, ?_⟩
  · unfold overR
    dsimp only
    have e : Int.gcd (x.1 + x.2) x.2 = Int.gcd x.1 x.2 := by simp
    exact e.trans g
  · unfold RLt overR
    dsimp only
    rw [Int.add_mul]
    have := Int.mul_pos (show 0 < x.2 by omega) (show 0 < x.2 by omega)
    omega
/-- every border and a ratio between each two neighbours, from above low to beyond the last one -/
def ptsGo (low : Int × Int) : List (Int × Int) → List (Int × Int)
  | [] => [overR low]
  | b :: r => midR low b :: b :: ptsGo b r
theorem ptsGo_len : ∀ (r : List (Int × Int)) (low : Int × Int), (ptsGo low r).length = 2 * r.length + 1
  | [], _ => rfl
  | b :: r, low => by
    show (ptsGo b r).length + 1 + 1 = _
    rw [ptsGo_len r b]
    simp only [List.length_cons]
    omega
theorem ptsGo_pt : ∀ (r : List (Int × Int)) (low : Int × Int), OneR low → (∀ x ∈ r, OneR x) → (low :: r).Pairwise RLt → ∀ x ∈ ptsGo low r, PtR x
  | [], low, h, _, _, x, hx => by
    rw [List.mem_singleton.mp hx]
    exact (over_ok h).1
  | b :: r, low, h, hr, p, x, hx => by
    have pc := List.pairwise_cons.mp p
    have hb := hr b List.mem_cons_self
    have m := mid_ok h hb (pc.1 b List.mem_cons_self)
    rcases List.mem_cons.mp
          hx with rfl | hx
    · exact m.1
    rcases List.mem_cons.mp
          hx with rfl | hx
    · exact hb.pt
    · exact ptsGo_pt r b hb (fun y hy => hr y (List.mem_cons_of_mem _ hy)) pc.2 x hx
theorem ptsGo_asc : ∀ (r : List (Int × Int)) (low : Int × Int), OneR low → (∀ x ∈ r, OneR x) → (low :: r).Pairwise RLt → (low :: ptsGo low r).Pairwise RLt
  | [], low, h, _, _ => by
    refine List.pairwise_cons.mpr ⟨fun y hy => ?_, List.pairwise_singleton _ _⟩
    rw [List.mem_singleton.mp hy]
    exact (over_ok h).2
  | b :: r, low, h, hr, p => by
    have pc := List.pairwise_cons.mp p
    have hb := hr b List.mem_cons_self
    have m := mid_ok h hb (pc.1 b List.mem_cons_self)
    have hr2 : ∀ y ∈ r, OneR y := fun y hy => hr y (List.mem_cons_of_mem _ hy)
    have ih := ptsGo_asc r b hb hr2 pc.2
    have ihc := List.pairwise_cons.mp ih
    have hpt := ptsGo_pt r b hb hr2 pc.2
    have up : ∀ z : Int × Int, 1 ≤ z.2 → RLt z b → ∀ y ∈ b :: ptsGo b r, RLt z y := fun z hz hzb y hy => by
      rcases List.mem_cons.mp
            hy with rfl | hy
      · exact hzb
      · exact RLt.trans hz hb.1 (hpt y hy).1 hzb (ihc.1 y hy)
    refine List.pairwise_cons.mpr ⟨fun y hy => ?_, List.pairwise_cons.mpr ⟨up _ m.1.1 m.2.2, ih⟩⟩
    rcases List.mem_cons.mp
          hy with rfl | hy
    · exact m.2.1
    · exact up low h.1 (pc.1 b List.mem_cons_self) y hy
theorem ptsGo_get : ∀ (r : List (Int × Int)) (low : Int × Int) (i : Nat) (x : Int × Int), r[i]? = some x → (ptsGo low r)[2 * i + 1]? = some x
  | [], _, i, x, h => by simp at h
  | b :: r, low, 0, x, h => by
    simp at h
    subst h
    rfl
  | b :: r, low, i + 1, x, h => by
    have e : 2 * (i + 1) + 1 = (2 * i + 1) + 1 + 1 := by omega
    rw [e]
    show (ptsGo b r)[2 * i + 1]? = some x
    exact ptsGo_get r b i x (by simpa using h)
/-- the ends of a turn: ascending, from 1 on -/
def EndsOk (rows : List (Int × Int)) : Prop := rows[0]? = some (1, 1) ∧ (∀ r ∈ rows, OneR r) ∧ rows.Pairwise RLt ∧ rows.length ≤ 10
def scaleOf (rows : List (Int × Int)) : List (Int × Int) := (1, 1) :: ptsGo (1, 1) rows.tail
theorem EndsOk.split {rows : List (Int × Int)} (h : EndsOk rows) : rows = (1, 1) :: rows.tail := by
  cases rows with
  | nil => exact absurd h.1 (by simp)
  | cons a r =>
    have := h.1
    simp at this
    subst this
    rfl
theorem EndsOk.len {rows : List (Int × Int)} (h : EndsOk rows) : (scaleOf rows).length = 2 * rows.length ∧ 1 ≤ rows.length := by
  have e := congrArg List.length h.split
  simp only [List.length_cons] at e
  unfold scaleOf
  rw [List.length_cons, ptsGo_len]
  omega
theorem EndsOk.scale {rows : List (Int × Int)} (h : EndsOk rows) : Scale (scaleOf rows) := by
  obtain ⟨hl, h1⟩ := h.len
  have sp := h.split
  have hone : OneR (1, 1) := h.2.1 _ (by rw [sp]; exact List.mem_cons_self)
  have hr : ∀ x ∈ rows.tail, OneR x := fun x hx => h.2.1 x (by rw [sp]; exact List.mem_cons_of_mem _ hx)
  have hp : ((1, 1) :: rows.tail).Pairwise RLt := by rw [← sp]; exact h.2.2.1
  have asc := ptsGo_asc rows.tail (1, 1) hone hr hp
  have pt := ptsGo_pt rows.tail (1, 1) hone hr hp
  have get : ∀ i (hi : i < (scaleOf rows).length), plc (scaleOf rows) i = (scaleOf rows)[i] := fun i hi => by
    unfold plc
    rw [List.getD_eq_getElem?_getD,
          List.getElem?_eq_getElem hi]
    rfl
  refine ⟨rfl, by omega, by omega, fun i hi => ?_, fun i j hij hj => ?_⟩
  · rw [get i hi]
    have hm : (scaleOf rows)[i] ∈ scaleOf rows := List.getElem_mem _
    rcases List.mem_cons.mp
          hm with e | e
    · rw [e]
      exact hone.pt
    · exact pt _ e
  · rw [get i (by omega), get j hj]
    exact List.pairwise_iff_getElem.mp asc i j (Nat.lt_trans hij hj) hj hij
theorem EndsOk.at {rows : List (Int × Int)} (h : EndsOk rows) {i : Nat} {r : Int × Int} (e : rows[i]? = some r) : plc (scaleOf rows) (2 * i) = r := by
  unfold plc
  rw [List.getD_eq_getElem?_getD]
  have sp := h.split
  rcases i with _ | i
  · rw [h.1] at e
    cases e
    rfl
  · rw [sp] at e
    have e' : rows.tail[i]? = some r := by simpa using e
    have := ptsGo_get rows.tail (1, 1) i r e'
    have e2 : (scaleOf rows)[2 * (i + 1)]? = some r := this
    rw [e2]
    rfl
/-- v is a tuple of a ratio -/
def RowV (L : List Z.En) (v : V) (r : Int × Int) : Prop := ∃ p, v = .ref p ∧ Z.En.ob p (.tup [.int r.1, .int r.2]) ∈ L
theorem RowV.mono {L L' : List Z.En} {v : V} {r : Int × Int} (h : RowV L v r) (s : ∀ e ∈ L, e ∈ L') : RowV L' v r := let ⟨p, e, m⟩ := h; ⟨p, e, s _ m⟩
theorem RowV.rt {K : PySem.W.Frag} {L : List Z.En} {v : V} {r : Int × Int} (h : RowV L v r) : Z.Rt K L v r.1 r.2 := let ⟨p, e, m⟩ := h; ⟨p, e, .inl m⟩
theorem RowV.skip {L : List Z.En} {v : V} {r : Int × Int} {a : Addr} {xs : List V} (h : RowV (.ob a (.lst xs) :: L) v r) : RowV L v r := let ⟨p, e, m⟩ := h; ⟨p, e, Z.mem_skip m nofun⟩
def sp__law_points (K : PySem.W.Frag) : Sp := Z.Sp1 fun a H Q E => ∃ (L : List Z.En) (p : Addr) (bs : List V) (rows : List (Int × Int)), a = .ref p ∧ Z.Fx H L ∧ Z.En.ob p (.lst bs) ∈ L ∧ Z.Al2 (RowV L) bs rows ∧ (∀ r ∈ rows, OneR r) ∧ rows.length ≤ 10 ∧ ∀ q us L' H', Z.Al2 (RowV L') us (ptsGo (1, 1) rows) → L.Sublist L' → Z.Fx H' (.ob q (.lst us) :: L') → Q (.ref q) H'
theorem fn__law_points (T : Txt K mg c_BadStretch c_Stretch c_ONE) {f : Addr} {fd : FuncData} (F : Fun K "_law_points" "_law_points" s__law_points f fd) : FnOk P w K mg base CX0 4 f fd ["_law_borders"] (sp__law_points K) := by
  have O__law_mid := ok__law_mid (P := P) (w := w) (base := base) T
  refine F.ok sc__law_points (fun vs H Q E h => ?_) (fun cdv A outer s H vs Q E hr h => ?_)
  · obtain ⟨a, rfl, _⟩ := h; rfl
  · obtain ⟨a, rfl, h⟩ := h
    refine ⟨_, (pss_cons (ps_set (i := 1) sc__law_points.nd rfl (by first | exact Or.inl rfl | exact Or.inr rfl) (pe_lst pa_nil))
      (pss_cons (ps_set (i := 2) sc__law_points.nd rfl (by first | exact Or.inl rfl | exact Or.inr rfl) (pe_tup (pa_cons pe_int (pa_cons pe_int pa_nil))))
      (pss_cons (ps_for PassesOwn.never (by rfl) (Z.pi_seq (pv 0)) (pg_name (i := 3) sc__law_points.nd rfl (by first | exact Or.inl rfl | exact Or.inr rfl))
        (pss_cons (ps_expr (pe_bm PySem.F.plainAttrs_list PySem.F.slot_list_append PySem.F.type_list_append mt_append (pv 1) (pa_cons (Z.pe_callO O__law_mid (by rfl) (hr.mono (by decide)) pass0 (pa_cons (pv 2) (pa_cons (pv 3) pa_nil))) pa_nil)))
        (pss_cons (ps_expr (pe_bm PySem.F.plainAttrs_list PySem.F.slot_list_append PySem.F.type_list_append mt_append (pv 1) (pa_cons (pv 3) pa_nil)))
        (pss_one (ps_set (i := 2) sc__law_points.nd rfl (by first | exact Or.inl rfl | exact Or.inr rfl) (pv 3))))))
      (pss_cons (ps_expr (pe_bm PySem.F.plainAttrs_list PySem.F.slot_list_append PySem.F.type_list_append mt_append (pv 1) (pa_cons (pe_tup (pa_cons (pe_op Z.zAdd (pe_ix ix_seq (pv 2) pe_int (fun _ _ => rfl)) (pe_ix ix_seq (pv 2) pe_int (fun _ _ => rfl))) (pa_cons (pe_ix ix_seq (pv 2) pe_int (fun _ _ => rfl)) pa_nil))) pa_nil)))
      (pss_one (ps_ret (pv 1))))))), ?_⟩
    try dsimp only [cxOf, Cx.nox, Cx.wish]
    refine Z.at_start (σ' := [some a, none, none, none]) rfl ?_
    obtain ⟨L, p, bs, rows, rfl, F, mp, al, ok, hl, k⟩ := h
    have lb := Z.line_big
    have la := al.len
    have one1 : OneR (1, 1) := ⟨by decide, by decide, by unfold Sz; decide, by unfold Sz; decide⟩
    walk_at "z"
    rename_i fp H1 F1 op H2 F2
    have F3 := F2.perm (List.Perm.swap _ _ _)
    refine Z.wForLi F3 (.tail _ (.tail _ mp)) (fun i σ H' => ∃ (us : List V) (LL : List Z.En) (rs : List (Int × Int)) (low : Int × Int) (vl : V) (v3 : Option V), σ = [some (.ref p), some (.ref fp), some vl, v3] ∧ Z.Fx H' (.ob fp (.lst us) :: LL) ∧ L.Sublist LL ∧ Z.Al2 (RowV LL) us rs ∧ RowV LL vl low ∧ OneR low ∧ rs ++ ptsGo low (rows.drop i) = ptsGo (1, 1) rows ∧ us.length = 2 * i) ⟨[], _, [], (1, 1), _, none, rfl, F3, .cons _ (.refl _), .nil, ⟨op, rfl, .head _⟩, one1, by simp, rfl⟩ ?_ ?_ ?_
    · rintro i σ H' ⟨us, LL, rs, low, vl, v3, rfl, F', sl, _⟩
      exact ⟨_, F', .tail _ (sl.subset mp)⟩
    · rintro i x σ H' hx ⟨us, LL, rs, low, vl, v3, rfl, F', sl, au, hlow, ol, he, hu⟩
      have hi := (List.getElem?_eq_some_iff.mp hx).1
      obtain ⟨b, hb, hbx⟩ := al.getL hx
      have hbL := hbx.mono fun _ m => sl.subset m
      have ob := ok b (List.mem_of_getElem? hb)
      rw [drop_cons hb] at he
      walk_at "z"
      refine use__law_mid F' (r := low) (t := b) (hlow.mono fun _ m => .tail _ m).rt (hbL.mono fun _ m => .tail _ m).rt ol.2.2.1 ol.2.2.2 ob.2.2.1 ob.2.2.2 ol.1 ob.1 fun mp2 H4 F4 => ?_
      walk_at "z"
      refine Z.wApp F4 (.tail _ (.head _)) (.tail .head) (by omega) fun H5 F5 => ?_
      walk_at "z"
      refine Z.wApp F5 (.tail _ (.head _)) (.tail .head) (by rw [List.length_append, hu]; simp; omega) fun H6 F6 => ?_
      walk_at "z"
      refine ⟨(us ++ [.ref mp2]) ++ [x], .ob mp2 (.tup [.int (midR low b).1, .int (midR low b).2]) :: LL, (rs ++ [midR low b]) ++ [b], b, x, _, rfl, F6.perm (List.Perm.swap _ _ _), sl.trans (.cons _ (.refl _)), ?_, hbL.mono fun _ m => .tail _ m, ob, ?_, by simp [hu]; omega⟩
      · exact ((au.mono fun _ _ h => h.mono fun _ m => .tail _ m).snoc ⟨mp2, rfl, .head _⟩).snoc (hbL.mono fun _ m => .tail _ m)
      · rw [← he, List.append_assoc, List.append_assoc]
        rfl
    · rintro σ H' ⟨us, LL, rs, low, vl, v3, rfl, F', sl, au, hlow, ol, he, hu⟩
      rw [la, List.drop_length] at he
      obtain ⟨lp, rfl, ml⟩ := hlow
      walk_at "z"
      rename_i q5 H5 F5
      refine Z.wApp F5 (.tail _ (.head _)) (.tail .head) (by have := al.len; omega) fun H6 F6 => ?_
      walk_at "z"
      refine k fp (us ++ [.ref q5]) (.ob q5 (.tup [.int (low.1 + low.2), .int low.2]) :: LL) H6 ?_ (sl.trans (.cons _ (.refl _))) (F6.perm (List.Perm.swap _ _ _))
      rw [← he]
      exact (au.mono fun _ _ h => h.mono fun _ m => .tail _ m).snoc ⟨q5, rfl, .head _⟩
theorem ok__law_points (T : Txt K mg c_BadStretch c_Stretch c_ONE) : Z.Ok CX0 P w K mg base "_law_points" 4 ["_law_borders"] [] (sp__law_points K) := by
  obtain ⟨f, fd, F, g⟩ := T.d__law_points
  exact Z.mkOk F g (F.binds (ps := ["_law_borders"]) fun _ _ _ _ _ _ us hl => match us, hl with | [_], _ => rfl) (fn__law_points T F)
theorem use__law_points {H : Hp} {Q : VK} {E : XK} {L : List Z.En} {p : Addr} {bs : List V} {rows : List (Int × Int)} (F : Z.Fx H L) (mp : Z.En.ob p (.lst bs) ∈ L) (al : Z.Al2 (RowV L) bs rows) (ok : ∀ r ∈ rows, OneR r) (hl : rows.length ≤ 10) (k : ∀ q us L' H', Z.Al2 (RowV L') us (ptsGo (1, 1) rows) → L.Sublist L' → Z.Fx H' (.ob q (.lst us) :: L') → Q (.ref q) H') : sp__law_points K [.ref p] H Q E := ⟨_, rfl, L, p, bs, rows, rfl, F, mp, al, ok, hl, k⟩
theorem sc__law_ascending : FnScope ["_law_ratios", "_law_whole", "_law_ratio_here", "_law_keys", "_law_key"] ["_law_ratios"] (defScope s__law_ascending) := ⟨rfl, rfl, rfl, by decide +kernel, rfl, by decide +kernel, by decide +kernel⟩
/-- a ratio from 1 on -/
def FromOne (r : Int × Int) : Prop := OneR r ∧ r.2 ≤ r.1
def keyR (W : Nat) (r : Int × Int) : Int := r.1 * ((W : Int) / r.2)
theorem key_lt {W : Nat} (w1 : 1 ≤ W) {a b : Int × Int} (a1 : 1 ≤ a.2) (b1 : 1 ≤ b.2) (da : a.2 ∣ (W : Int)) (db : b.2 ∣ (W : Int)) (h : keyR W a < keyR W b) : RLt a b := by
  unfold keyR at h
  unfold RLt
  have ea : (W : Int) / a.2 * a.2 = W := Int.ediv_mul_cancel da
  have eb : (W : Int) / b.2 * b.2 = W := Int.ediv_mul_cancel db
  have hab : 0 < a.2 * b.2 := Int.mul_pos (by omega) (by omega)
  have h2 := Int.mul_lt_mul_of_pos_right h hab
  have l : a.1 * ((W : Int) / a.2) * (a.2 * b.2) = a.1 * b.2 * W := by
    rw [← Int.mul_assoc, Int.mul_assoc a.1, ea, Int.mul_assoc, Int.mul_comm (W : Int), ← Int.mul_assoc]
  have r : b.1 * ((W : Int) / b.2) * (a.2 * b.2) = b.1 * a.2 * W := by
    rw [Int.mul_comm a.2 b.2, ← Int.mul_assoc, Int.mul_assoc b.1, eb, Int.mul_assoc, Int.mul_comm (W : Int), ← Int.mul_assoc]
  rw [l, r] at h2
  exact Int.lt_of_mul_lt_mul_right h2 (by omega)
theorem key_one {W : Nat} (w1 : 1 ≤ W) {r : Int × Int} (f : FromOne r) (d : r.2 ∣ (W : Int)) (h : keyR W r ≤ W) : r = (1, 1) := by
  obtain ⟨⟨b1, g, _, _⟩, hle⟩ := f
  unfold keyR at h
  have e : (W : Int) / r.2 * r.2 = W := Int.ediv_mul_cancel d
  have hm : 0 < (W : Int) / r.2 := by
    rcases Int.lt_or_le 0 ((W : Int) / r.2) with h | h
    · exact h
    · have := Int.mul_le_mul_of_nonneg_right h (show 0 ≤ r.2 by omega)
      omega
  have h2 : (W : Int) / r.2 * r.1 ≤ (W : Int) / r.2 * r.2 := by rw [e, Int.mul_comm]; exact h
  have h3 := Int.le_of_mul_le_mul_left h2 hm
  have h4 : r.1 = r.2 := by omega
  rw [h4, Nat.gcd_self] at g
  exact Prod.ext (by show r.1 = 1; omega) (by show r.2 = 1; omega)
theorem ends_of {W : Nat} (w1 : 1 ≤ W) {rows rs : List (Int × Int)} {ns : List Int} (ok : ∀ r ∈ rows, FromOne r) (hd : ∀ r ∈ rows, r.2 ∣ (W : Int)) (hm : ∀ r ∈ rs, r ∈ rows) (e : rs.map (keyR W) = ns) (p : ns.Pairwise (· < ·)) (h1 : (W : Int) ∈ ns) (hl : rs.length ≤ 10) : EndsOk rs := by
  subst e
  have p2 := List.pairwise_map.mp p
  refine ⟨?_, fun r hr => (ok r (hm r hr)).1, List.Pairwise.imp_of_mem (fun {a b} ha hb h => key_lt w1 (ok a (hm a ha)).1.1 (ok b (hm b hb)).1.1 (hd a (hm a ha)) (hd b (hm b hb)) h) p2, hl⟩
  obtain ⟨z, hz, ez⟩ := List.mem_map.mp h1
  cases rs with
  | nil => cases hz
  | cons a q =>
    have hle : keyR W a ≤ W := by
      rcases List.mem_cons.mp
            hz with rfl | hz
      · omega
      · have := (List.pairwise_cons.mp p2).1 z hz
        omega
    have := key_one w1 (ok a (hm a List.mem_cons_self)) (hd a (hm a List.mem_cons_self)) hle
    rw [this]
    rfl
theorem lcm_step {W B : Nat} (w1 : 1 ≤ W) (b1 : 1 ≤ B) : W ∣ W / Nat.gcd W B * B ∧ B ∣ W / Nat.gcd W B * B ∧ 1 ≤ W / Nat.gcd W B * B ∧ W / Nat.gcd W B * B ≤ W * B := by
  have g0 : 0 < Nat.gcd W B := Nat.gcd_pos_of_pos_left _ w1
  obtain ⟨c, hc⟩ := Nat.gcd_dvd_right W B
  obtain ⟨d, hdd⟩ := Nat.gcd_dvd_left W B
  have e : W / Nat.gcd W B = d := by
    conv => lhs; arg 1; rw [hdd]
    exact Nat.mul_div_cancel_left _ g0
  rw [e]
  refine ⟨⟨c, ?_⟩, ⟨d, Nat.mul_comm _ _⟩, ?_, ?_⟩
  · conv => lhs; arg 2; rw [hc]
    conv => rhs; arg 1; rw [hdd]
    rw [← Nat.mul_assoc, Nat.mul_comm d]
  · refine Nat.mul_pos ?_ b1
    rcases Nat.eq_zero_or_pos d with h | h
    · rw [h, Nat.mul_zero] at hdd; omega
    · exact h
  · refine Nat.mul_le_mul_right _ ?_
    rw [hdd]
    exact Nat.le_mul_of_pos_left _ g0
def sp__law_ascending (K : PySem.W.Frag) : Sp := Z.Sp1 fun a H Q E => ∃ (L : List Z.En) (p : Addr) (vs : List V) (rows : List (Int × Int)), a = .ref p ∧ Z.Fx H L ∧ Z.En.ob p (.lst vs) ∈ L ∧ Z.Al2 (RowV L) vs rows ∧ (∀ r ∈ rows, FromOne r) ∧ rows.length ≤ 10 ∧ (1, 1) ∈ rows ∧ ∀ q us rs L' H', EndsOk rs → Z.Al2 (RowV L') us rs → L.Sublist L' → Z.Fx H' (.ob q (.lst us) :: L') → Q (.ref q) H'
theorem fn__law_ascending (T : Txt K mg c_BadStretch c_Stretch c_ONE) {f : Addr} {fd : FuncData} (F : Fun K "_law_ascending" "_law_ascending" s__law_ascending f fd) : FnOk P w K mg base CX0 2 f fd ["_law_ratios"] (sp__law_ascending K) := by
  have O__law_gcd := ok__law_gcd (P := P) (w := w) (base := base) T
  refine F.ok sc__law_ascending (fun vs H Q E h => ?_) (fun cdv A outer s H vs Q E hr h => ?_)
  · obtain ⟨a, rfl, _⟩ := h; rfl
  · obtain ⟨a, rfl, h⟩ := h
    refine ⟨_, (pss_cons (ps_set (i := 1) sc__law_ascending.nd rfl (by first | exact Or.inl rfl | exact Or.inr rfl) pe_int)
      (pss_cons (ps_for PassesOwn.never (by rfl) (Z.pi_seq (pv 0)) (pg_name (i := 2) sc__law_ascending.nd rfl (by first | exact Or.inl rfl | exact Or.inr rfl))
        (pss_one (ps_set (i := 1) sc__law_ascending.nd rfl (by first | exact Or.inl rfl | exact Or.inr rfl) (pe_op Z.zMul (pe_op Z.zDiv (pv 1) (Z.pe_callO O__law_gcd (by rfl) (hr.mono (by decide)) pass0 (pa_cons (pv 1) (pa_cons (pe_ix ix_seq (pv 2) pe_int (fun _ _ => rfl)) pa_nil)))) (pe_ix ix_seq (pv 2) pe_int (fun _ _ => rfl))))))
      (pss_cons (ps_set (i := 3) sc__law_ascending.nd rfl (by first | exact Or.inl rfl | exact Or.inr rfl) pe_dnewK)
      (pss_cons (ps_for PassesOwn.never (by rfl) (Z.pi_seq (pv 0)) (pg_name (i := 2) sc__law_ascending.nd rfl (by first | exact Or.inl rfl | exact Or.inr rfl))
        (pss_one (ps_asg (pv 2) (pg_sub (pv 3) (pe_op Z.zMul (pe_ix ix_seq (pv 2) pe_int (fun _ _ => rfl)) (pe_op Z.zDiv (pv 1) (pe_ix ix_seq (pv 2) pe_int (fun _ _ => rfl)))) (set_dict (Z.hu1 hr))))))
      (pss_one (ps_ret (by exact (pe_lc (own := [("_law_key", 4)]) (g := (gName 4)) (by rfl) sc__law_ascending.nd (Z.pi_seq (pe_callB (show CallR _ (Value.builtin "sorted") (rSortedI K) from cr_sortedI) (by rfl) T.b_sorted (by decide +kernel) (pa_cons (pe_callTy (show CallR _ (Value.type "list") rListD from call_list_dK (by rfl)) (by rfl) T.b_list (by decide +kernel) (pa_cons (pv 3) pa_nil)) pa_nil))) (blkOk_by (own := [("_law_key", 4)]) (N := ["_law_ratios", "_law_whole", "_law_ratio_here", "_law_keys", "_law_key"]) (sc := defScope s__law_ascending) (by decide +kernel)) (fun _ _ _ _ _ => (by exact (pg_name (i := 4) sc__law_ascending.nd rfl (by first | exact Or.inl rfl | exact Or.inr rfl)))) (fun _ _ _ _ _ => (by exact pts_nil)) (fun _ _ _ _ _ => (by exact (pe_dget (Z.hu1 hr) (pv 3) (pv 4) (fun _ _ => rfl)))))))))))), ?_⟩
    try dsimp only [cxOf, Cx.nox, Cx.wish]
    refine Z.at_start (σ' := [some a, none, none, none, none]) rfl ?_
    obtain ⟨L, p, vs, rows, rfl, F, mp, al, ok, hl, h1, k⟩ := h
    have lb := Z.line_big
    have la := al.len
    walk_at "z"
    refine Z.wForLi F mp (fun i σ H' => ∃ (W : Nat) (v2 : Option V), σ = [some (.ref p), some (.int W), v2, none, none] ∧ Z.Fx H' L ∧ 1 ≤ W ∧ Sz (1 + 110 * i) (W : Int) ∧ ∀ r ∈ rows.take i, r.2 ∣ (W : Int)) ⟨1, none, rfl, F, Nat.le_refl _, by unfold Sz; decide, fun r hr => absurd hr (by simp)⟩ ?_ ?_ ?_
    · rintro i σ H' ⟨W, v2, rfl, F', _⟩
      exact ⟨_, F', mp⟩
    · rintro i x σ H' hx ⟨W, v2, rfl, F', w1, sw, hd⟩
      have hi := (List.getElem?_eq_some_iff.mp hx).1
      obtain ⟨r, hr, q, rfl, mr⟩ := al.getL hx
      obtain ⟨⟨b1, g1, st, sb⟩, hle⟩ := ok r (List.mem_of_getElem? hr)
      obtain ⟨B, hB⟩ := Int.eq_ofNat_of_zero_le (show 0 ≤ r.2 by omega)
      walk_at "z"
      refine use__law_gcd (sb.mono (by decide)) ?_
      have eg : ((((W : Nat) : Int).natAbs.gcd r.2.natAbs : Nat) : Int) = ((Nat.gcd W B : Nat) : Int) := by rw [hB]; rfl
      rw [eg]
      have g0 : 0 < Nat.gcd W B := Nat.gcd_pos_of_pos_left _ w1
      have gl : ((Nat.gcd W B : Nat) : Int).natAbs.log2 < 9000 := Sz.log (k := 110) (by
        have : Nat.gcd W B ≤ B := Nat.le_of_dvd (by omega) (Nat.gcd_dvd_right _ _)
        have s2 : B < 2 ^ 110 := by have := sb; unfold Sz at this; omega
        show Nat.gcd W B < 2 ^ 110
        omega) (by decide)
      refine Z.wI ⟨by omega, gl⟩ ?_
      walk_at "z"
      obtain ⟨l1, l2, l3, l4⟩ := lcm_step (W := W) (B := B) w1 (by omega)
      have eW : (W : Int) / ((Nat.gcd W B : Nat) : Int) * r.2 = ((W / Nat.gcd W B * B : Nat) : Int) := by rw [hB, Int.natCast_mul, Int.natCast_ediv]
      have sq : Sz (1 + 110 * i) ((W : Int) / ((Nat.gcd W B : Nat) : Int)) := by
        rw [← Int.natCast_ediv]
        unfold Sz at *
        exact Nat.lt_of_le_of_lt (Nat.div_le_self _ _) sw
      refine Z.wMulW (ratio_mul sq sb (by omega) (by decide)) ?_
      walk_at "z"
      rw [eW]
      refine ⟨W / Nat.gcd W B * B, _, rfl, F', l3, ?_, fun t ht => ?_⟩
      · have := (sw.mul sb).mono (l := 1 + 110 * (i + 1)) (by omega)
        rw [hB, ← Int.natCast_mul] at this
        unfold Sz at *
        exact Nat.lt_of_le_of_lt l4 this
      · rw [List.take_add_one, hr] at ht
        rcases List.mem_append.mp ht with ht | ht
        · exact Int.dvd_trans (hd t ht) (Int.natCast_dvd_natCast.mpr l1)
        · have : t = r := by simpa using ht
          rw [this, hB]
          exact Int.natCast_dvd_natCast.mpr l2
    · rintro σ H' ⟨W, v2, rfl, F', w1, sw, hd⟩
      rw [la, List.take_length] at hd
      have sw2 : Sz 1200 (W : Int) := sw.mono (by omega)
      walk_at "z"
      refine Z.wDNew F' fun D H2 F2 => ?_
      walk_at "z"
      refine Z.wForLi F2 (.tail _ mp) (fun i σ H' => ∃ (kvs : List (Key × V)) (ks : List Int) (v2 : Option V), σ = [some (.ref p), some (.int W), v2, some (.ref D), none] ∧ Z.Fx H' (.ob D (.dK kvs) :: L) ∧ Z.DKs kvs ks ∧ ks.length ≤ i ∧ (∀ k v, valV kvs (.inl k) = some v → ∃ r ∈ rows, RowV L v r ∧ k = keyR W r) ∧ ∀ r ∈ rows.take i, keyR W r ∈ ks) ⟨[], [], _, rfl, F2, .nil, Nat.le_refl _, fun k v e => (nomatch e), fun r hr => absurd hr (by simp)⟩ ?_ ?_ ?_
      · rintro i σ H' ⟨kvs, ks, v2, rfl, F', _⟩
        exact ⟨_, F', .tail _ mp⟩
      · rintro i x σ H' hx ⟨kvs, ks, v2, rfl, F', dk, hk, hv, hr2⟩
        have hi := (List.getElem?_eq_some_iff.mp hx).1
        obtain ⟨r, hr, q, rfl, mr⟩ := al.getL hx
        have hrm := List.mem_of_getElem? hr
        obtain ⟨⟨b1, g1, st, sb⟩, hle⟩ := ok r hrm
        walk_at "z"
        refine Z.wI ⟨by omega, sb.log (by decide)⟩ ?_
        have sq : Sz 1200 ((W : Int) / r.2) := by
          obtain ⟨B, hB⟩ := Int.eq_ofNat_of_zero_le (show 0 ≤ r.2 by omega)
          rw [hB, ← Int.natCast_ediv]
          unfold Sz at *
          exact Nat.lt_of_le_of_lt (Nat.div_le_self _ _) sw2
        refine Z.wMulW (ratio_mul st sq (by decide) (by decide)) ?_
        walk_at "z"
        refine Z.wSetDi F' (.head _) (by rw [dk.len]; omega) .head fun H3 F3 => ?_
        refine ⟨_, _, _, rfl, F3, dk.put (keyR W r) _, ?_, fun k v e => ?_, fun t ht => ?_⟩
        · split
          · omega
          · rw [List.length_append];
                simp; omega
        · have e2 : (if (Sum.inl k : Key) = Sum.inl (keyR W r) then some (V.ref q) else valV kvs (.inl k)) = some v := by rw [← valV_put]; exact e
          split at e2
          · rename_i ek
            injection ek with ek
            injection e2 with e2
            exact ⟨r, hrm, ⟨q, e2.symm, mr⟩, ek⟩
          · exact hv k v e2
        · rw [List.take_add_one, hr] at ht
          rcases List.mem_append.mp ht with ht | ht
          · have := hr2 t ht
            split
            · exact this
            · exact List.mem_append_left _ this
          · have : t = r := by simpa using ht
            subst this
            split
            · assumption
            · exact List.mem_append_right _ (List.mem_singleton.mpr rfl)
      · rintro σ H' ⟨kvs, ks, v2, rfl, F', dk, hk, hv, hr2⟩
        rw [la, List.take_length] at hr2
        walk_at "z"
        refine Z.wListD F' (.head _) fun q5 H5 F5 => ?_
        rw [dk.list] at F5
        walk_at "z"
        refine Z.wSortedI (F5.lst (.head _)) F5 fun ns q6 H6 pn sn F6 => ?_
        walk_at "z"
        have hnd : ns.Pairwise (· < ·) := List.Pairwise.imp_of_mem (fun {a b} _ _ h => Int.lt_iff_le_and_ne.mpr h) (sn.and (pn.nodup_iff.mpr dk.2))
        have hmem : ∀ n, n ∈ ns ↔ n ∈ ks := fun n => pn.mem_iff
        refine Z.wLcW (walk_list (K := K) (xs := ns.map V.int)) F6 (fun i acc L' => L' = _ ∧ ∃ rs : List (Int × Int), Z.Al2 (RowV L) acc rs ∧ (∀ r ∈ rs, r ∈ rows) ∧ rs.map (keyR W) = ns.take i) ⟨rfl, [], .nil, fun _ h => absurd h (by simp), rfl⟩ (fun i acc L' D' H' r F' => F'.lst (.tail _ (r.1 ▸ .head _))) ?_ ?_
        · rintro i x D7 H7 H8 acc L' hi ⟨rfl, rs, ar, hm, he⟩ F7 ⟨rfl, hx⟩
          obtain ⟨n, rfl, hn⟩ := Z.int_of_map' hx
          obtain ⟨v, hv1⟩ := dk.some ((hmem n).mp (List.mem_of_getElem? hn))
          obtain ⟨r, hrm, rv, ek⟩ := hv n v hv1
          walk_at "zw"
          walk_at "z"
          refine ⟨rfl, ?_⟩
          walk_at "z"
          refine Z.wDG ?_
          walk_at "z"
          refine Z.wDgI F7 (by walk_at "zm") hv1 ?_
          have hlen : acc.length < sizeLine := by
            have e1 := ar.len
            have e2 := congrArg List.length he
            rw [List.length_map, List.length_take] at e2
            have e3 := pn.length_eq
            omega
          refine Z.lcPut F7 hlen ⟨rfl, rs ++ [r], ar.snoc rv, fun t ht => ?_, ?_⟩
          · rcases List.mem_append.mp ht with ht | ht
            · exact hm t ht
            · rw [List.mem_singleton.mp ht]; exact hrm
          · rw [List.map_append, he, List.take_add_one, hn, ek]
            rfl
        rintro D7 acc L' H7 F7 ⟨rfl, rs, ar, hm, he⟩
        rw [List.length_map, List.take_length] at he
        have hW : (W : Int) ∈ ns := by
          rw [hmem]
          have := hr2 _ h1
          unfold keyR at this
          simpa using this
        have hlr : rs.length ≤ 10 := by
          have e2 := congrArg List.length he
          rw [List.length_map] at e2
          have e3 := pn.length_eq
          omega
        walk_at "z"
        have sub : L.Sublist (Z.En.ob q6 (.lst (ns.map V.int)) :: Z.En.ob q5 (.lst (ks.map V.int)) :: Z.En.ob D (.dK kvs) :: L) := .cons _ (.cons _ (.cons _ (.refl _)))
        exact k D7 acc rs _ H7 (ends_of w1 ok hd hm he hnd hW hlr) (ar.mono fun _ _ h => h.mono fun _ m => sub.subset m) sub F7
theorem ok__law_ascending (T : Txt K mg c_BadStretch c_Stretch c_ONE) : Z.Ok CX0 P w K mg base "_law_ascending" 2 ["_law_ratios"] [] (sp__law_ascending K) := by
  obtain ⟨f, fd, F, g⟩ := T.d__law_ascending
  exact Z.mkOk F g (F.binds (ps := ["_law_ratios"]) fun _ _ _ _ _ _ us hl => match us, hl with | [_], _ => rfl) (fn__law_ascending T F)
theorem use__law_ascending {H : Hp} {Q : VK} {E : XK} {L : List Z.En} {p : Addr} {vs : List V} {rows : List (Int × Int)} (F : Z.Fx H L) (mp : Z.En.ob p (.lst vs) ∈ L) (al : Z.Al2 (RowV L) vs rows) (ok : ∀ r ∈ rows, FromOne r) (hl : rows.length ≤ 10) (h1 : (1, 1) ∈ rows) (k : ∀ q us rs L' H', EndsOk rs → Z.Al2 (RowV L') us rs → L.Sublist L' → Z.Fx H' (.ob q (.lst us) :: L') → Q (.ref q) H') : sp__law_ascending K [.ref p] H Q E := ⟨_, rfl, L, p, vs, rows, rfl, F, mp, al, ok, hl, h1, k⟩
theorem sc__law_ends : FnScope ["_law_hand_here", "_law_found", "_law_turn"] ["_law_hand_here"] (defScope s__law_ends) := ⟨rfl, rfl, rfl, by decide +kernel, rfl, by decide +kernel, by decide +kernel⟩
def sp__law_ends (K : PySem.W.Frag) : Sp := Z.Sp1 fun a H Q E => ∃ (L : List Z.En) (l c : Addr), a = .ref l ∧ Z.Fx H L ∧ Z.En.hand l c ∈ L ∧ ∀ q us rs L' H', EndsOk rs → Z.Al2 (RowV L') us rs → L.Sublist L' → Z.Fx H' (.ob q (.lst us) :: L') → Q (.ref q) H'
theorem BR.from {r : Int × Int} (h : BR r) : FromOne r := ⟨⟨h.1, h.2.2.1, h.2.2.2.1, h.2.2.2.2⟩, Int.le_of_lt h.2.1⟩
theorem fn__law_ends (T : Txt K mg c_BadStretch c_Stretch c_ONE) {f : Addr} {fd : FuncData} (F : Fun K "_law_ends" "_law_ends" s__law_ends f fd) : FnOk P w K mg base CX0 4 f fd ["_law_hand_here"] (sp__law_ends K) := by
  have O__law_ascending := ok__law_ascending (P := P) (w := w) (base := base) T
  have O__law_brick_ratio := ok__law_brick_ratio (P := P) (w := w) (base := base) T
  have O__law_draw := ok__law_draw (P := P) (w := w) (base := base) T
  refine F.ok sc__law_ends (fun vs H Q E h => ?_) (fun cdv A outer s H vs Q E hr h => ?_)
  · obtain ⟨a, rfl, _⟩ := h; rfl
  · obtain ⟨a, rfl, h⟩ := h
    refine ⟨_, (pss_cons (ps_set (i := 1) sc__law_ends.nd rfl (by first | exact Or.inl rfl | exact Or.inr rfl) (pe_lst (pa_cons (pe_tup (pa_cons pe_int (pa_cons pe_int pa_nil))) pa_nil)))
      (pss_cons (ps_for PassesOwn.never (by rfl) (pi_range1 (by rfl) T.b_range (pa_cons (pe_op Z.zAdd pe_int (Z.pe_callO O__law_draw (by rfl) (hr.mono (by decide)) pass0 (pa_cons (pv 0) (pa_cons pe_int pa_nil)))) pa_nil)) (pg_name (i := 2) sc__law_ends.nd rfl (by first | exact Or.inl rfl | exact Or.inr rfl))
        (pss_one (ps_expr (pe_bm PySem.F.plainAttrs_list PySem.F.slot_list_append PySem.F.type_list_append mt_append (pv 1) (pa_cons (Z.pe_callO O__law_brick_ratio (by rfl) (hr.mono (by decide)) pass0 (pa_cons (pv 0) pa_nil)) pa_nil)))))
      (pss_one (ps_ret (Z.pe_callO O__law_ascending (by rfl) (hr.mono (by decide)) pass0 (pa_cons (pv 1) pa_nil)))))), ?_⟩
    try dsimp only [cxOf, Cx.nox, Cx.wish]
    refine Z.at_start (σ' := [some a, none, none]) rfl ?_
    obtain ⟨L, l, c, rfl, F, hm, k⟩ := h
    have lb := Z.line_big
    walk_at "z"
    rename_i op H1 F1 fp H2 F2 n H3 F3 n0 n1
    obtain ⟨N, hN, eN⟩ : ∃ N : Nat, N ≤ 9 ∧ 1 + n = (N : Int) := ⟨(1 + n).toNat, by omega, by omega⟩
    have one1 : FromOne (1, 1) := ⟨⟨by decide, by decide, by unfold Sz; decide, by unfold Sz; decide⟩, by decide⟩
    rw [eN]
    refine Z.wForW walk_range (fun i σ H' => ∃ (us : List V) (LL : List Z.En) (rs : List (Int × Int)) (v2 : Option V), σ = [some (.ref l), some (.ref fp), v2] ∧ Z.Fx H' (.ob fp (.lst us) :: LL) ∧ L.Sublist LL ∧ Z.Al2 (RowV LL) us rs ∧ (∀ r ∈ rs, FromOne r) ∧ (1, 1) ∈ rs ∧ rs.length = i + 1) ⟨[.ref op], _, [(1, 1)], none, rfl, F3, .cons _ (.refl _), .one ⟨op, rfl, .head _⟩, fun r hr => by rw [List.mem_singleton.mp hr]; exact one1, List.mem_singleton.mpr rfl, rfl⟩ (fun _ _ _ _ _ => trivial) ?_ ?_
    · rintro i x σ H1 H2 hi ⟨us, LL, rs, v2, rfl, F', sl, au, ok, h1, hl⟩ ⟨rfl, rfl⟩
      have hul := au.len
      walk_at "z"
      refine use__law_brick_ratio F' (.tail _ (sl.subset hm)) fun p r H4 br F4 => ?_
      walk_at "z"
      refine Z.wApp F4 (.tail _ (.head _)) (.tail .head) (by omega) fun H5 F5 => ?_
      walk_at "z"
      refine ⟨us ++ [.ref p], .ob p (.tup [.int r.1, .int r.2]) :: LL, rs ++ [r], _, rfl, F5.perm (List.Perm.swap _ _ _), sl.trans (.cons _ (.refl _)), (au.mono fun _ _ h => h.mono fun _ m => .tail _ m).snoc ⟨p, rfl, .head _⟩, fun t ht => ?_, List.mem_append_left _ h1, by rw [List.length_append, hl]; rfl⟩
      rcases List.mem_append.mp ht with ht | ht
      · exact ok t ht
      · rw [List.mem_singleton.mp ht]; exact br.from
    · rintro σ H1 ⟨us, LL, rs, v2, rfl, F', sl, au, ok, h1, hl⟩
      walk_at "z"
      have F5 := F'
      refine use__law_ascending F5 (.head _) (au.mono fun _ _ h => h.mono fun _ m => .tail _ m) ok (by omega) h1 fun q us2 rs2 L2 H5 he a2 s2 F6 => ?_
      exact k q us2 rs2 L2 H5 he a2 (sl.trans ((List.Sublist.cons _ (.refl _)).trans s2)) F6
theorem ok__law_ends (T : Txt K mg c_BadStretch c_Stretch c_ONE) : Z.Ok CX0 P w K mg base "_law_ends" 4 ["_law_hand_here"] [] (sp__law_ends K) := by
  obtain ⟨f, fd, F, g⟩ := T.d__law_ends
  exact Z.mkOk F g (F.binds (ps := ["_law_hand_here"]) fun _ _ _ _ _ _ us hl => match us, hl with | [_], _ => rfl) (fn__law_ends T F)
theorem use__law_ends {H : Hp} {Q : VK} {E : XK} {L : List Z.En} {l c : Addr} (F : Z.Fx H L) (hm : Z.En.hand l c ∈ L) (k : ∀ q us rs L' H', EndsOk rs → Z.Al2 (RowV L') us rs → L.Sublist L' → Z.Fx H' (.ob q (.lst us) :: L') → Q (.ref q) H') : sp__law_ends K [.ref l] H Q E := ⟨_, rfl, L, l, c, rfl, F, hm, k⟩
/-- the ends of a turn by their places -/
def EndsAt (S : List (Int × Int)) (L : List Z.En) (us : List V) : Prop := S.length = 2 * us.length ∧ 1 ≤ us.length ∧ us.length ≤ 10 ∧ ∀ i v, us[i]? = some v → PosV S L v (2 * i)
theorem EndsAt.mono {S : List (Int × Int)} {L L' : List Z.En} {us : List V} (h : EndsAt S L us) (s : ∀ e ∈ L, e ∈ L') : EndsAt S L' us := ⟨h.1, h.2.1, h.2.2.1, fun i v e => (h.2.2.2 i v e).mono s⟩
theorem ends_at {L : List Z.En} {us : List V} {rs : List (Int × Int)} (h : EndsOk rs) (al : Z.Al2 (RowV L) us rs) : EndsAt (scaleOf rs) L us := by
  have hl := h.len
  have la := al.len
  refine ⟨by omega, by omega, by have := h.2.2.2; omega, fun i v e => ?_⟩
  obtain ⟨r, hr, p, rfl, m⟩ := al.getL e
  have hi := (List.getElem?_eq_some_iff.mp hr).1
  refine ⟨by omega, p, rfl, ?_⟩
  rw [h.at hr]
  exact m
/-- a couple (low, high) -/
def CouV (S : List (Int × Int)) (L : List Z.En) (v : V) (r : Nat × Nat) : Prop := ∃ p x y, v = .ref p ∧ Z.En.ob p (.tup [x, y]) ∈ L ∧ PosV S L x r.1 ∧ HiV S L y r.2
theorem CouV.mono {S : List (Int × Int)} {L L' : List Z.En} {v : V} {r : Nat × Nat} (h : CouV S L v r) (s : ∀ e ∈ L, e ∈ L') : CouV S L' v r := let ⟨p, x, y, e, m, a, b⟩ := h; ⟨p, x, y, e, s _ m, a.mono s, b.mono s⟩
theorem CouV.skip {S : List (Int × Int)} {L : List Z.En} {v : V} {r : Nat × Nat} {a : Addr} {xs : List V} (h : CouV S (.ob a (.lst xs) :: L) v r) : CouV S L v r := let ⟨p, x, y, e, m, h1, h2⟩ := h; ⟨p, x, y, e, Z.mem_skip m nofun, h1.skip, h2.skip⟩
theorem sc__law_made : FnScope ["_law_hand_here", "_law_ends_here", "_law_found", "_law_at", "_law_low", "_law_more", "_law_last"] ["_law_hand_here", "_law_ends_here"] (defScope s__law_made) := ⟨rfl, rfl, rfl, by decide +kernel, rfl, by decide +kernel, by decide +kernel⟩
def sp__law_made (K : PySem.W.Frag) : Sp := Z.Sp2 fun a b H Q E => ∃ (L : List Z.En) (S : List (Int × Int)) (l c p : Addr) (us : List V), a = .ref l ∧ b = .ref p ∧ Z.Fx H L ∧ Z.En.hand l c ∈ L ∧ Z.En.ob p (.lst us) ∈ L ∧ Scale S ∧ EndsAt S L us ∧
  ∀ q fv R L' H', Can R → (∀ r ∈ R, OkR S.length r) → R.length ≤ 5 → Z.Al2 (CouV S L') fv R → L.Sublist L' → Z.Fx H' (.ob q (.lst fv) :: L') → Q (.ref q) H'
theorem can_snoc {R : List (Nat × Nat)} {t j : Nat} (c : Can R) (b : ∀ r ∈ R, r.2 < 2 * t) : Can (R ++ [(2 * t, j)]) := List.pairwise_append.mpr ⟨c, List.pairwise_singleton _ _, fun x hx y hy => by rw [List.mem_singleton.mp hy]; exact b x hx⟩
theorem ok_snoc {n : Nat} {R : List (Nat × Nat)} {r : Nat × Nat} (o : ∀ x ∈ R, OkR n x) (h : OkR n r) : ∀ x ∈ R ++ [r], OkR n x := fun x hx => by
  rcases List.mem_append.mp
        hx with hx | hx
  · exact o x hx
  · rw [List.mem_singleton.mp hx]; exact h
theorem fn__law_made (T : Txt K mg c_BadStretch c_Stretch c_ONE) {f : Addr} {fd : FuncData} (F : Fun K "_law_made" "_law_made" s__law_made f fd) : FnOk P w K mg base CX0 3 f fd ["_law_hand_here", "_law_ends_here"] (sp__law_made K) := by
  have O__law_draw := ok__law_draw (P := P) (w := w) (base := base) T
  refine F.ok sc__law_made (fun vs H Q E h => ?_) (fun cdv A outer s H vs Q E hr h => ?_)
  · obtain ⟨a, b, rfl, _⟩ := h; rfl
  · obtain ⟨a, b, rfl, h⟩ := h
    refine ⟨_, (pss_cons (ps_set (i := 2) sc__law_made.nd rfl (by first | exact Or.inl rfl | exact Or.inr rfl) (pe_lst pa_nil))
      (pss_cons (ps_set (i := 3) sc__law_made.nd rfl (by first | exact Or.inl rfl | exact Or.inr rfl) (Z.pe_callO O__law_draw (by rfl) (hr.mono (by decide)) pass0 (pa_cons (pv 0) (pa_cons pe_int pa_nil))))
      (pss_cons (ps_while PassesOwn.never (PW.pt (pw_and (pt_cmpR Z.zLt (pv 3) (pe_callB Z.zLen (by rfl) T.b_len (by decide +kernel) (pa_cons (pv 1) pa_nil)) (nomark _)) (pw_and1 (pt_cmpR Z.zLt (pe_callB Z.zLen (by rfl) T.b_len (by decide +kernel) (pa_cons (pv 2) pa_nil)) pe_int (nomark _)))))
        (pss_cons (ps_set (i := 4) sc__law_made.nd rfl (by first | exact Or.inl rfl | exact Or.inr rfl) (pe_ix ix_seq (pv 1) (pv 3) (fun _ _ => rfl)))
        (pss_cons (ps_set (i := 5) sc__law_made.nd rfl (by first | exact Or.inl rfl | exact Or.inr rfl) (Z.pe_callO O__law_draw (by rfl) (hr.mono (by decide)) pass0 (pa_cons (pv 0) (pa_cons pe_int pa_nil))))
        (pss_cons (ps_if (pt_cmpR (Z.zEq (Z.hu0 hr)) (Z.pe_callO O__law_draw (by rfl) (hr.mono (by decide)) pass0 (pa_cons (pv 0) (pa_cons pe_int pa_nil))) pe_int (nomark _))
          (pss_cons (ps_expr (pe_bm PySem.F.plainAttrs_list PySem.F.slot_list_append PySem.F.type_list_append mt_append (pv 2) (pa_cons (pe_tup (pa_cons (pv 4) (pa_cons pe_non pa_nil))) pa_nil)))
          (pss_one (ps_ret (pv 2))))
          pss_nil)
        (pss_cons (ps_set (i := 6) sc__law_made.nd rfl (by first | exact Or.inl rfl | exact Or.inr rfl) (pe_callB (Z.zMin2 rfl) (by rfl) T.b_min (by decide +kernel) (pa_cons (pe_op Z.zAdd (pv 3) (pv 5)) (pa_cons (pe_op op_sub (pe_callB Z.zLen (by rfl) T.b_len (by decide +kernel) (pa_cons (pv 1) pa_nil)) pe_int) pa_nil))))
        (pss_cons (ps_if (pt_cmpR (Z.zNe (Z.hu0 hr)) (pe_ix ix_seq (pv 1) (pv 6) (fun _ _ => rfl)) (pe_tup (pa_cons pe_int (pa_cons pe_int pa_nil))) (nomark _))
          (pss_one (ps_expr (pe_bm PySem.F.plainAttrs_list PySem.F.slot_list_append PySem.F.type_list_append mt_append (pv 2) (pa_cons (pe_tup (pa_cons (pv 4) (pa_cons (pe_ix ix_seq (pv 1) (pv 6) (fun _ _ => rfl)) pa_nil))) pa_nil))))
          pss_nil)
        (pss_one (ps_set (i := 3) sc__law_made.nd rfl (by first | exact Or.inl rfl | exact Or.inr rfl) (pe_op Z.zAdd (pe_op Z.zAdd (pv 6) pe_int) (Z.pe_callO O__law_draw (by rfl) (hr.mono (by decide)) pass0 (pa_cons (pv 0) (pa_cons pe_int pa_nil))))))))))))
      (pss_one (ps_ret (pv 2)))))), ?_⟩
    try dsimp only [cxOf, Cx.nox, Cx.wish]
    refine Z.at_start (σ' := [some a, some b, none, none, none, none, none]) rfl ?_
    obtain ⟨L, S, l, c, p, us, rfl, rfl, F, hm, mp, s, ea, k⟩ := h
    have lb := Z.line_big
    obtain ⟨eS, u1, u10, hp⟩ := id ea
    walk_at "y"
    rename_i fp H1 F1 t0 H2 F2 t00 t01
    obtain ⟨t, ht0, rfl⟩ : ∃ t : Nat, t < 3 ∧ t0 = (t : Int) := ⟨t0.toNat, by omega, by omega⟩
    refine Z.wWhile (fun m σ H' => ∃ (t : Nat) (fv : List V) (R : List (Nat × Nat)) (LL : List Z.En) (v4 v5 v6 : Option V), σ = [some (.ref l), some (.ref p), some (.ref fp), some (.int (t : Nat)), v4, v5, v6] ∧ Z.Fx H' (.ob fp (.lst fv) :: LL) ∧ L.Sublist LL ∧ Z.Al2 (CouV S LL) fv R ∧ Can R ∧ (∀ r ∈ R, OkR S.length r) ∧ (∀ r ∈ R, r.2 < 2 * t) ∧ R.length ≤ 5 ∧ t ≤ 12 ∧ m = 20 - t) (20 - t) ⟨t, [], [], L, none, none, none, rfl, F2, .refl _, .nil, .nil, fun _ h => absurd h (by simp), fun _ h => absurd h (by simp), Nat.zero_le _, by omega, rfl⟩ ?_
    rintro m σ H' ⟨t, fv, R, LL, v4, v5, v6, rfl, F', sl, af, cR, oR, bR, lR, ht, hmm⟩
    have hfl := af.len
    have mp' : Z.En.ob p (.lst us) ∈ (.ob fp (.lst fv) :: LL) := .tail _ (sl.subset mp)
    walk_at "y"
    refine Z.wIfD (fun h1 => ?_) (fun h1 => ?_)
    case refine_2 =>
      walk_at "z"
      exact k fp fv R LL H' cR oR lR af sl F'
    walk_at "y"
    refine Z.wIfD (fun h2 => ?_) (fun h2 => ?_)
    case refine_2 =>
      walk_at "z"
      exact k fp fv R LL H' cR oR lR af sl F'
    have ht1 : t < us.length := by omega
    obtain ⟨w, hw⟩ : ∃ w, us[t]? = some w := ⟨_, List.getElem?_eq_getElem ht1⟩
    have hlow := (hp t w hw).mono fun _ m => sl.subset m
    walk_at "y"
    refine Z.wIxL (F'.lst mp') (v := w) (L2.atI_nat hw) ?_
    have hm' : Z.En.hand l c ∈ (.ob fp (.lst fv) :: LL) := .tail _ (sl.subset hm)
    walk_at "y"
    rename_i g H3 F3 g0 g1
    obtain ⟨g, hg3, rfl⟩ : ∃ n : Nat, n < 3 ∧ g = (n : Int) := ⟨g.toNat, by omega, by omega⟩
    walk_at "z"
    rename_i d H4 F4 d0 d1
    refine Z.wIfD (fun h => ?_) (fun h => ?_)
    · walk_at "z"
      rename_i q5 H5 F5
      refine Z.wApp F5 (.tail _ (.head _)) (.tail .head) (by omega) fun H6 F6 => ?_
      walk_at "z"
      refine k fp (fv ++ [.ref q5]) (R ++ [(2 * t, S.length)]) (.ob q5 (.tup [w, .non]) :: LL) H6 (can_snoc cR bR) (ok_snoc oR ⟨?_, ?_, ?_, ?_, ?_, ?_⟩) (by rw [List.length_append]; simp; omega) ((af.mono fun _ _ h => h.mono fun _ m => .tail _ m).snoc ⟨q5, w, .non, rfl, .head _, hlow.mono fun _ m => .tail _ m, .inl ⟨rfl, rfl⟩⟩) (sl.trans (.cons _ (.refl _))) (F6.perm (List.Perm.swap _ _ _))
      all_goals dsimp only
      all_goals omega
    walk_at "y"
    obtain ⟨la, hla⟩ : ∃ la : Nat, (la : Int) = if (us.length : Int) - 1 < (t : Int) + g then (us.length : Int) - 1 else (t : Int) + g := ⟨(if (us.length : Int) - 1 < (t : Int) + g then (us.length : Int) - 1 else (t : Int) + g).toNat, by split <;> omega⟩
    have la1 : t ≤ la ∧ la < us.length := by split at hla <;> omega
    rw [← hla]
    obtain ⟨w2, hw2⟩ : ∃ w2, us[la]? = some w2 := ⟨_, List.getElem?_eq_getElem la1.2⟩
    have hlast := (hp la w2 hw2).mono fun _ m => sl.subset m
    obtain ⟨h2l, p2, rfl, m2⟩ := id hlast
    walk_at "z"
    refine Z.wIxL (F4.lst mp') (v := .ref p2) (L2.atI_nat hw2) ?_
    walk_at "z"
    rename_i q7 H7 F7
    refine Z.wNeTT (ns := [(plc S (2 * la)).1, (plc S (2 * la)).2]) (ms := [1, 1]) (F7.tup (.tail _ (.tail _ m2))) (F7.tup (.head _)) ?_
    rw [decide_eq_decide.mpr (pos_one s h2l)]
    have F8 := F7.sub (L' := .ob fp (.lst fv) :: LL) (.cons _ (.refl _))
    walk_at "y"
    refine Z.wIfND (fun h3 => ?_) (fun h3 => ?_)
    · walk_at "z"
      refine Z.wIxL (F8.lst mp') (v := .ref p2) (L2.atI_nat hw2) ?_
      walk_at "z"
      rename_i q9 H9 F9
      refine Z.wApp F9 (.tail _ (.head _)) (.tail .head) (by omega) fun H10 F10 => ?_
      walk_at "z"
      have F11 := F10.perm (List.Perm.swap _ _ _)
      have hm2 : Z.En.hand l c ∈ (Z.En.ob fp (.lst (fv ++ [.ref q9])) :: Z.En.ob q9 (.tup [w, .ref p2]) :: LL) := .tail _ (.tail _ (sl.subset hm))
      walk_at "z"
      rename_i e H12 F12 e0 e1
      obtain ⟨en, he, rfl⟩ : ∃ n : Nat, n < 2 ∧ e = (n : Int) := ⟨e.toNat, by omega, by omega⟩
      refine ⟨20 - (la + 1 + en), by omega, la + 1 + en, fv ++ [.ref q9], R ++ [(2 * t, 2 * la)], .ob q9 (.tup [w, .ref p2]) :: LL, _, _, _, by rw [Int.natCast_add, Int.natCast_add]; rfl, F12, sl.trans (.cons _ (.refl _)), (af.mono fun _ _ h => h.mono fun _ m => .tail _ m).snoc ⟨q9, w, .ref p2, rfl, .head _, hlow.mono fun _ m => .tail _ m, .inr (hlast.mono fun _ m => .tail _ m)⟩, can_snoc cR bR, ok_snoc oR ⟨?_, ?_, ?_, ?_, ?_, ?_⟩, fun r hr => ?_, by rw [List.length_append]; simp; omega, by omega, rfl⟩
      case refine_7 =>
        rcases List.mem_append.mp
              hr with hr | hr
        · have := bR r hr
          omega
        · rw [List.mem_singleton.mp
              hr]
          show 2 * la < 2 * (la + 1 + en)
          omega
      all_goals dsimp only
      all_goals omega
    · have hm2 : Z.En.hand l c ∈ (Z.En.ob fp (.lst fv) :: LL) := .tail _ (sl.subset hm)
      walk_at "z"
      rename_i e H12 F12 e0 e1
      obtain ⟨en, he, rfl⟩ : ∃ n : Nat, n < 2 ∧ e = (n : Int) := ⟨e.toNat, by omega, by omega⟩
      exact ⟨20 - (la + 1 + en), by omega, la + 1 + en, fv, R, LL, _, _, _, by rw [Int.natCast_add, Int.natCast_add]; rfl, F12, sl, af, cR, oR, fun r hr => by have := bR r hr; omega, lR, by omega, rfl⟩
theorem ok__law_made (T : Txt K mg c_BadStretch c_Stretch c_ONE) : Z.Ok CX0 P w K mg base "_law_made" 3 ["_law_hand_here", "_law_ends_here"] [] (sp__law_made K) := by
  obtain ⟨f, fd, F, g⟩ := T.d__law_made
  exact Z.mkOk F g (F.binds (ps := ["_law_hand_here", "_law_ends_here"]) fun _ _ _ _ _ _ us hl => match us, hl with | [_, _], _ => rfl) (fn__law_made T F)
theorem use__law_made {H : Hp} {Q : VK} {E : XK} {L : List Z.En} {S : List (Int × Int)} {l c p : Addr} {us : List V} (F : Z.Fx H L) (hm : Z.En.hand l c ∈ L) (mp : Z.En.ob p (.lst us) ∈ L) (s : Scale S) (ea : EndsAt S L us)
  (k : ∀ q fv R L' H', Can R → (∀ r ∈ R, OkR S.length r) → R.length ≤ 5 → Z.Al2 (CouV S L') fv R → L.Sublist L' → Z.Fx H' (.ob q (.lst fv) :: L') → Q (.ref q) H') : sp__law_made K [.ref l, .ref p] H Q E := ⟨_, _, rfl, L, S, l, c, p, us, rfl, rfl, F, hm, mp, s, ea, k⟩
theorem sc__law_given : FnScope ["_law_hand_here", "_law_row"] ["_law_hand_here", "_law_row"] (defScope s__law_given) := ⟨rfl, rfl, rfl, by decide +kernel, rfl, by decide +kernel, by decide +kernel⟩
def sp__law_given (K : PySem.W.Frag) : Sp := Z.Sp2 fun a b H Q E => ∃ (L : List Z.En) (l c p : Addr) (xs : List V), a = .ref l ∧ b = .ref p ∧ Z.Fx H L ∧ Z.En.hand l c ∈ L ∧ Z.En.ob p (.lst xs) ∈ L ∧ ∀ v e H', Z.SeqIs (e :: L) v (some xs) → Z.Fx H' (e :: L) → Q v H'
theorem fn__law_given (T : Txt K mg c_BadStretch c_Stretch c_ONE) {f : Addr} {fd : FuncData} (F : Fun K "_law_given" "_law_given" s__law_given f fd) : FnOk P w K mg base CX0 3 f fd ["_law_hand_here", "_law_row"] (sp__law_given K) := by
  have O__law_draw := ok__law_draw (P := P) (w := w) (base := base) T
  refine F.ok sc__law_given (fun vs H Q E h => ?_) (fun cdv A outer s H vs Q E hr h => ?_)
  · obtain ⟨a, b, rfl, _⟩ := h; rfl
  · obtain ⟨a, b, rfl, h⟩ := h
    refine ⟨_, (pss_one (ps_ret (pe_ifExp (pt_cmpR (Z.zEq (Z.hu0 hr)) (Z.pe_callO O__law_draw (by rfl) (hr.mono (by decide)) pass0 (pa_cons (pv 0) (pa_cons pe_int pa_nil))) pe_int (nomark _)) (pe_callTy Z.zTuple (by rfl) T.b_tuple (by decide +kernel) (pa_cons (pv 1) pa_nil)) (pe_callTy Z.zList (by rfl) T.b_list (by decide +kernel) (pa_cons (pv 1) pa_nil))))), ?_⟩
    try dsimp only [cxOf, Cx.nox, Cx.wish]
    refine Z.at_start (σ' := [some a, some b]) rfl ?_
    obtain ⟨L, l, c, p, xs, rfl, rfl, F, mh, mp, q⟩ := h
    walk_at "z"
    refine Z.wIfD (fun _ => ?_) (fun _ => ?_)
    · walk_at "z"
      rename_i p3 H3 F3
      exact q _ _ _ (.tup (.head _)) F3
    · walk_at "z"
      rename_i p3 H3 F3
      exact q _ _ _ (.lst (.head _)) F3
theorem ok__law_given (T : Txt K mg c_BadStretch c_Stretch c_ONE) : Z.Ok CX0 P w K mg base "_law_given" 3 ["_law_hand_here", "_law_row"] [] (sp__law_given K) := by
  obtain ⟨f, fd, F, g⟩ := T.d__law_given
  exact Z.mkOk F g (F.binds (ps := ["_law_hand_here", "_law_row"]) fun _ _ _ _ _ _ us hl => match us, hl with | [_, _], _ => rfl) (fn__law_given T F)
theorem use__law_given {H : Hp} {Q : VK} {E : XK} {L : List Z.En} {l c p : Addr} {xs : List V} (F : Z.Fx H L) (mh : Z.En.hand l c ∈ L) (mp : Z.En.ob p (.lst xs) ∈ L) (q : ∀ v e H', Z.SeqIs (e :: L) v (some xs) → Z.Fx H' (e :: L) → Q v H') : sp__law_given K [.ref l, .ref p] H Q E := ⟨_, _, rfl, L, l, c, p, xs, rfl, rfl, F, mh, mp, q⟩
theorem sc__law_list_of : FnScope ["_law_rows", "_law_row"] ["_law_rows"] (defScope s__law_list_of) := ⟨rfl, rfl, rfl, by decide +kernel, rfl, by decide +kernel, by decide +kernel⟩
def sp__law_list_of (K : PySem.W.Frag) (cS cZ : Addr) : Sp := Z.Sp1 fun a H Q E => ∃ (L : List Z.En) (S : List (Int × Int)) (p : Addr) (fv : List V) (R : List (Nat × Nat)), a = .ref p ∧ Z.Fx H L ∧ Scale S ∧ Z.En.ob p (.lst fv) ∈ L ∧ Z.Al2 (CouV S L) fv R ∧ (∀ r ∈ R, OkR S.length r) ∧ R.length ≤ 5 ∧ ∀ q us L' H', Z.Al2 (StrV cS S L') us R → L.Sublist L' → Z.Fx H' (.ob q (.lst us) :: L') → Q (.ref q) H'
theorem fn__law_list_of (T : Txt K mg c_BadStretch c_Stretch c_ONE) {f : Addr} {fd : FuncData} (F : Fun K "_law_list_of" "_law_list_of" s__law_list_of f fd) : FnOk P w K mg base CX0 6 f fd ["_law_rows"] (sp__law_list_of K c_Stretch c_BadStretch) := by
  have O_Stretch_2 := ok_Stretch___init___2 (P := P) (w := w) (base := base) T
  refine F.ok sc__law_list_of (fun vs H Q E h => ?_) (fun cdv A outer s H vs Q E hr h => ?_)
  · obtain ⟨a, rfl, _⟩ := h; rfl
  · obtain ⟨a, rfl, h⟩ := h
    refine ⟨_, (pss_one (ps_ret (by exact (pe_lc (own := [("_law_row", 1)]) (g := (gName 1)) (by rfl) sc__law_list_of.nd (Z.pi_seq (pv 0)) (blkOk_by (own := [("_law_row", 1)]) (N := ["_law_rows", "_law_row"]) (sc := defScope s__law_list_of) (by decide +kernel)) (fun _ _ _ _ _ => (by exact (pg_name (i := 1) sc__law_list_of.nd rfl (by first | exact Or.inl rfl | exact Or.inr rfl)))) (fun _ _ _ _ _ => (by exact pts_nil)) (fun _ _ _ _ _ => (by exact (Z.pe_makeO O_Stretch_2 (hr.mono (by decide)) T.g_Stretch (by rfl) passL (pa_cons (pe_ix (show IxR _ (rIx K) from ix_seq) (pv 1) pe_int (fun _ _ => rfl)) (pa_cons (pe_ix (show IxR _ (rIx K) from ix_seq) (pv 1) pe_int (fun _ _ => rfl)) pa_nil))))))))), ?_⟩
    try dsimp only [cxOf, Cx.nox, Cx.wish]
    refine Z.at_start (σ' := [some a, none]) rfl ?_
    obtain ⟨L, S, p, fv, R, rfl, F, s, mp, al, ok, hl, k⟩ := h
    have lb := Z.line_big
    have la := al.len
    walk_at "z"
    refine Z.wLcW (walk_list (K := K) (xs := fv)) F (fun i acc L' => L.Sublist L' ∧ Z.Al2 (StrV c_Stretch S L') acc (R.take i)) ⟨.refl _, .nil⟩ (fun i acc L' D' H' r F' => F'.lst (.tail _ (r.1.subset mp))) ?_ ?_
    · rintro i x D H7 H8 acc L' hi ⟨sl, ar⟩ F7 ⟨rfl, hx⟩
      obtain ⟨r, hr, p2, x2, y2, rfl, m2, hx2, hy2⟩ := al.getL hx
      have okr := ok r (List.mem_of_getElem? hr)
      have ac := ar.len
      rw [List.length_take] at ac
      walk_at "zw"
      walk_at "z"
      refine ⟨rfl, ?_⟩
      walk_at "z"
      have m7 : Z.En.ob p2 (.tup [x2, y2]) ∈ (.ob D (.lst acc) :: L') := .tail _ (sl.subset m2)
      refine Z.wIxT (F7.tup m7) (v := x2) rfl ?_
      walk_at "z"
      have hx3 := hx2.mono fun _ m => sl.subset m
      have hy3 := hy2.mono fun _ m => sl.subset m
      refine use_StretchP F7 s (hx3.mono fun _ m => .tail _ m) (hy3.mono fun _ m => .tail _ m) okr.1 okr.2.1 fun y dx H9 st F9 => ?_
      clear st
      have F10 := F9.perm (((List.Perm.swap _ _ _).cons _).trans (List.Perm.swap _ _ _))
      refine Z.lcPut F10 (by omega) ⟨sl.trans (.cons _ (.cons _ (.refl _))), ?_⟩
      rw [List.take_add_one, hr]
      exact (ar.mono fun _ _ h => h.mono fun _ m => .tail _ (.tail _ m)).snoc ⟨y, dx, x2, y2, rfl, .head _, hx3.mono fun _ m => .tail _ (.tail _ m), hy3.mono fun _ m => .tail _ (.tail _ m)⟩
    rintro D acc L' H7 F7 ⟨sl, ar⟩
    rw [la, List.take_length] at ar
    exact k D acc L' H7 ar sl F7
theorem ok__law_list_of (T : Txt K mg c_BadStretch c_Stretch c_ONE) : Z.Ok CX0 P w K mg base "_law_list_of" 6 ["_law_rows"] [] (sp__law_list_of K c_Stretch c_BadStretch) := by
  obtain ⟨f, fd, F, g⟩ := T.d__law_list_of
  exact Z.mkOk F g (F.binds (ps := ["_law_rows"]) fun _ _ _ _ _ _ us hl => match us, hl with | [_], _ => rfl) (fn__law_list_of T F)
theorem use__law_list_of {cS cZ : Addr} {H : Hp} {Q : VK} {E : XK} {L : List Z.En} {S : List (Int × Int)} {p : Addr} {fv : List V} {R : List (Nat × Nat)} (F : Z.Fx H L) (s : Scale S) (mp : Z.En.ob p (.lst fv) ∈ L) (al : Z.Al2 (CouV S L) fv R) (ok : ∀ r ∈ R, OkR S.length r) (hl : R.length ≤ 5) (k : ∀ q us L' H', Z.Al2 (StrV cS S L') us R → L.Sublist L' → Z.Fx H' (.ob q (.lst us) :: L') → Q (.ref q) H') : sp__law_list_of K cS cZ [.ref p] H Q E := ⟨_, rfl, L, S, p, fv, R, rfl, F, s, mp, al, ok, hl, k⟩
theorem sc_greatest_of : FnScope ["ratios", "greatest", "ratio"] ["ratios"] (defScope s_greatest_of) := ⟨rfl, rfl, rfl, by decide +kernel, rfl, by decide +kernel, by decide +kernel⟩
/-- the greater of two -/
def sp_greatest_of (K : PySem.W.Frag) : Sp := Z.Sp1 fun a H Q E => ∃ (L : List Z.En) (S : List (Int × Int)) (x y : V) (i j : Nat), Z.Fx H L ∧ Scale S ∧ Z.SeqIs L a (some [x, y]) ∧ PosV S L x i ∧ PosV S L y j ∧ ∀ v H', PosV S L v (max i j) → Z.Fx H' L → Q v H'
theorem fn_greatest_of (T : Txt K mg c_BadStretch c_Stretch c_ONE) {f : Addr} {fd : FuncData} (F : Fun K "greatest_of" "greatest_of" s_greatest_of f fd) : FnOk P w K mg base CX0 2 f fd ["ratios"] (sp_greatest_of K) := by
  have O_compare := ok_compare (P := P) (w := w) (base := base) T
  refine F.ok sc_greatest_of (fun vs H Q E h => ?_) (fun cdv A outer s H vs Q E hr h => ?_)
  · obtain ⟨a, rfl, _⟩ := h; rfl
  · obtain ⟨a, rfl, h⟩ := h
    refine ⟨_, (pss_cons (ps_set (i := 1) sc_greatest_of.nd rfl (by first | exact Or.inl rfl | exact Or.inr rfl) (pe_ix ix_seq (pv 0) pe_int (fun _ _ => rfl)))
      (pss_cons (ps_for PassesOwn.never (by rfl) (Z.pi_seq (pe_slice Z.zSlA (pv 0) (po_some pe_int) po_none)) (pg_name (i := 2) sc_greatest_of.nd rfl (by first | exact Or.inl rfl | exact Or.inr rfl))
        (pss_one (ps_if (pt_cmpR Z.zGt (Z.pe_callO O_compare (by rfl) (hr.mono (by decide)) pass0 (pa_cons (pv 2) (pa_cons (pv 1) pa_nil))) pe_int (nomark _))
          (pss_one (ps_set (i := 1) sc_greatest_of.nd rfl (by first | exact Or.inl rfl | exact Or.inr rfl) (pv 2)))
          pss_nil)))
      (pss_one (ps_ret (pv 1))))), ?_⟩
    try dsimp only [cxOf, Cx.nox, Cx.wish]
    refine Z.at_start (σ' := [some a, none, none]) rfl ?_
    obtain ⟨L, S, x, y, i0, j0, F, s, hs, hx, hy, k⟩ := h
    walk_at "z"
    refine Z.wIxSq hs F (v := x) (by rfl) ?_
    walk_at "z"
    refine Z.wSlAS hs (.refl _) F fun p H1 N hq F1 => ?_
    rw [Z.cut_tail] at hq
    walk_at "z"
    refine Z.wForQ (xs := [y]) hq.isR F1 (fun i σ H' => ∃ (v : V) (v2 : Option V), σ = [some a, some v, v2] ∧ H' = H1 ∧ (i = 0 → v = x) ∧ (i = 1 → PosV S L v (max i0 j0))) ⟨_, _, rfl, rfl, fun _ => rfl, fun h => absurd h (by decide)⟩ ?_ ?_ ?_
    · rintro i σ H' ⟨v, v2, rfl, rfl, h0, h1⟩
      exact ⟨_, F1, fun _ h => h⟩
    · rintro i z σ H' hz ⟨v, v2, rfl, rfl, h0, h1⟩
      obtain ⟨rfl, rfl⟩ : i = 0 ∧ z = y := by
        rcases i with _ | i
        · exact ⟨rfl, (Option.some.inj hz).symm⟩
        · simp at hz
      rw [h0 rfl]
      have sub : L.Sublist (N ++ L) := List.sublist_append_right _ _
      walk_at "z"
      refine use_cmpP F1 s (hy.le sub) (hx.le sub) ?_
      walk_at "z"
      refine Z.wIfD (fun h => ?_) (fun h => ?_)
      · rw [sg_pos] at h
        walk_at "z"
        exact ⟨_, _, rfl, rfl, fun h => absurd h (by decide), fun _ => by rw [Nat.max_eq_right (by omega)]; exact hy⟩
      · rw [sg_pos] at h
        walk_at "z"
        exact ⟨_, _, rfl, rfl, fun h => absurd h (by decide), fun _ => by rw [Nat.max_eq_left (by omega)]; exact hx⟩
    · rintro σ H' ⟨v, v2, rfl, rfl, h0, h1⟩
      walk_at "z"
      exact k v H' (h1 rfl) (F1.sub (List.sublist_append_right _ _))
theorem ok_greatest_of (T : Txt K mg c_BadStretch c_Stretch c_ONE) : Z.Ok CX0 P w K mg base "greatest_of" 2 ["ratios"] [] (sp_greatest_of K) := by
  obtain ⟨f, fd, F, g⟩ := T.d_greatest_of
  exact Z.mkOk F g (F.binds (ps := ["ratios"]) fun _ _ _ _ _ _ us hl => match us, hl with | [_], _ => rfl) (fn_greatest_of T F)
theorem use_greatest_of {H : Hp} {Q : VK} {E : XK} {L : List Z.En} {S : List (Int × Int)} {a x y : V} {i j : Nat} (F : Z.Fx H L) (s : Scale S) (hs : Z.SeqIs L a (some [x, y])) (hx : PosV S L x i) (hy : PosV S L y j) (k : ∀ v H', PosV S L v (max i j) → Z.Fx H' L → Q v H') : sp_greatest_of K [a] H Q E := ⟨_, rfl, L, S, x, y, i, j, F, s, hs, hx, hy, k⟩
theorem sc__greater_high : FnScope ["one", "other"] ["one", "other"] (defScope s__greater_high) := ⟨rfl, rfl, rfl, by decide +kernel, rfl, by decide +kernel, by decide +kernel⟩
def sp__greater_high (K : PySem.W.Frag) : Sp := Z.Sp2 fun x y H Q E => ∃ (L : List Z.En) (S : List (Int × Int)) (i j : Nat), Z.Fx H L ∧ Scale S ∧ HiV S L x i ∧ HiV S L y j ∧ ∀ v H', HiV S L v (max i j) → Z.Fx H' L → Q v H'
theorem fn__greater_high (T : Txt K mg c_BadStretch c_Stretch c_ONE) {f : Addr} {fd : FuncData} (F : Fun K "_greater_high" "_greater_high" s__greater_high f fd) : FnOk P w K mg base CX0 3 f fd ["one", "other"] (sp__greater_high K) := by
  have O_greatest_of := ok_greatest_of (P := P) (w := w) (base := base) T
  refine F.ok sc__greater_high (fun vs H Q E h => ?_) (fun cdv A outer s H vs Q E hr h => ?_)
  · obtain ⟨a, b, rfl, _⟩ := h; rfl
  · obtain ⟨a, b, rfl, h⟩ := h
    refine ⟨_, (pss_one (ps_ret (pe_ifExp (PW.pt (pw_or (pt_cmpR Z.zIs (pv 0) pe_non (nomark _)) (pw_or1 (pt_cmpR Z.zIs (pv 1) pe_non (nomark _))))) pe_non (Z.pe_callO O_greatest_of (by rfl) (hr.mono (by decide)) pass0 (pa_cons (pe_lst (pa_cons (pv 0) (pa_cons (pv 1) pa_nil))) pa_nil))))), ?_⟩
    try dsimp only [cxOf, Cx.nox, Cx.wish]
    refine Z.at_start (σ' := [some a, some b]) rfl ?_
    obtain ⟨L, S, i, j, F, s, hx, hy, k⟩ := h
    have li := hx.lt
    have lj := hy.lt
    rcases hx with ⟨rfl, rfl⟩ | hx
    · walk_at "z"
      rw [Nat.max_eq_left lj] at k
      exact k _ _ (.inl ⟨rfl, rfl⟩) F
    · obtain ⟨hi, p, rfl, mp⟩ := id hx
      rcases hy with ⟨rfl, rfl⟩ | hy
      · walk_at "z"
        rw [Nat.max_eq_right li] at k
        exact k _ _ (.inl ⟨rfl, rfl⟩) F
      · obtain ⟨hj, q, rfl, mq⟩ := id hy
        walk_at "z"
        rename_i l H1 F1
        refine use_greatest_of F1 s (.lst (.head _)) (hx.mono fun _ m => .tail _ m) (hy.mono fun _ m => .tail _ m) fun v H2 hv F2 => ?_
        refine k v H2 (.inr ?_) (F2.sub (.cons _ (.refl _)))
        obtain ⟨h1, p2, e2, m2⟩ := hv
        exact ⟨h1, p2, e2, Z.mem_skip m2 nofun⟩
theorem ok__greater_high (T : Txt K mg c_BadStretch c_Stretch c_ONE) : Z.Ok CX0 P w K mg base "_greater_high" 3 ["one", "other"] [] (sp__greater_high K) := by
  obtain ⟨f, fd, F, g⟩ := T.d__greater_high
  exact Z.mkOk F g (F.binds (ps := ["one", "other"]) fun _ _ _ _ _ _ us hl => match us, hl with | [_, _], _ => rfl) (fn__greater_high T F)
theorem use__greater_high {H : Hp} {Q : VK} {E : XK} {L : List Z.En} {S : List (Int × Int)} {x y : V} {i j : Nat} (F : Z.Fx H L) (s : Scale S) (hx : HiV S L x i) (hy : HiV S L y j) (k : ∀ v H', HiV S L v (max i j) → Z.Fx H' L → Q v H') : sp__greater_high K [x, y] H Q E := ⟨_, _, rfl, L, S, i, j, F, s, hx, hy, k⟩
theorem sc_either_stretches : FnScope ["one", "other", "joined", "stretch", "last"] ["one", "other"] (defScope s_either_stretches) := ⟨rfl, rfl, rfl, by decide +kernel, rfl, by decide +kernel, by decide +kernel⟩
theorem snoc_of {α : Type} {R : List α} (h : R ≠ []) : ∃ R1 l, R = R1 ++ [l] := ⟨R.dropLast, R.getLast h, (List.dropLast_concat_getLast h).symm⟩
theorem al_last {α β : Type} {r : α → β → Prop} {js : List α} {R : List β} {l : β} (h : Z.Al2 r js (R ++ [l])) : ∃ ks v, js = ks ++ [v] ∧ Z.Al2 r ks R ∧ r v l := by
  have hl := h.len
  obtain ⟨ks, v, rfl⟩ := snoc_of (R := js) (by rintro rfl; simp at hl)
  have hk : ks.length = R.length := by simpa using hl
  have t := h.take ks.length
  rw [List.take_left' rfl, hk, List.take_left' rfl] at t
  exact ⟨ks, v, rfl, t, h.get ks.length v l (by simp) (by rw [hk]; simp)⟩
theorem at_lastV {ks : List V} {v : V} : atI (ks ++ [v]) (-1) = some v := by
  unfold atI ixN
  have e : ((-1 : Int) + ((ks ++ [v]).length : Nat)).toNat = ks.length := by rw [List.length_append]; simp only [List.length_cons, List.length_nil]; omega
  rw [if_neg (by decide), if_pos (by rw [List.length_append]; simp only [List.length_cons, List.length_nil]; omega), e]
  simp
theorem joinN_none (r : Nat × Nat) : joinN [] r = [r] := rfl
theorem joinN_snoc (ys : List (Nat × Nat)) (l r : Nat × Nat) : joinN (ys ++ [l]) r = if l.2 < r.1 then ys ++ [l] ++ [r] else ys ++ [(l.1, max l.2 r.2)] := by
  unfold joinN
  rw [List.getLast?_append]
  simp
def sp_either_stretches (K : PySem.W.Frag) (cS cZ : Addr) : Sp := Z.Sp2 fun x y H Q E => ∃ (L : List Z.En) (S : List (Int × Int)) (vs ws : List V) (A B : List (Nat × Nat)), Z.Fx H L ∧ Scale S ∧ Z.SeqIs L x (some vs) ∧ Z.Al2 (StrV cS S L) vs A ∧ vs.length ≤ 100 ∧ Z.SeqIs L y (some ws) ∧ Z.Al2 (StrV cS S L) ws B ∧ ws.length ≤ 100 ∧ Can A ∧ Can B ∧ (∀ r ∈ A, OkR S.length r) ∧ (∀ r ∈ B, OkR S.length r) ∧
  ∀ p us R L' H', Made S.length (fun q => hasP A q || hasP B q) R → us.length ≤ 200 → Z.Al2 (StrV cS S L') us R → L.Sublist L' → Z.En.ob p (.tup us) ∈ L' → Z.Fx H' L' → Q (.ref p) H'
theorem Can.low {n : Nat} {A : List (Nat × Nat)} (c : Can A) (o : ∀ r ∈ A, OkR n r) : LowS A := List.Pairwise.imp_of_mem (fun {a b} ha hb h => by have := (o a ha).1; omega) c
theorem fn_either_stretches (T : Txt K mg c_BadStretch c_Stretch c_ONE) {f : Addr} {fd : FuncData} (F : Fun K "either_stretches" "either_stretches" s_either_stretches f fd) : FnOk P w K mg base CX0 6 f fd ["one", "other"] (sp_either_stretches K c_Stretch c_BadStretch) := by
  have O__by_low := ok__by_low (P := P) (w := w) (base := base) T
  have O__greater_high := ok__greater_high (P := P) (w := w) (base := base) T
  have O__is_below := ok__is_below (P := P) (w := w) (base := base) T
  have O_Stretch_2 := ok_Stretch___init___2 (P := P) (w := w) (base := base) T
  refine F.ok sc_either_stretches (fun vs H Q E h => ?_) (fun cdv A outer s H vs Q E hr h => ?_)
  · obtain ⟨a, b, rfl, _⟩ := h; rfl
  · obtain ⟨a, b, rfl, h⟩ := h
    refine ⟨_, (pss_cons (ps_set (i := 2) sc_either_stretches.nd rfl (by first | exact Or.inl rfl | exact Or.inr rfl) (pe_lst pa_nil))
      (pss_cons (ps_for PassesOwn.never (by rfl) (Z.pi_seq (Z.pe_callO O__by_low (by rfl) (hr.mono (by decide)) pass0 (pa_cons (pv 0) (pa_cons (pv 1) pa_nil)))) (pg_name (i := 3) sc_either_stretches.nd rfl (by first | exact Or.inl rfl | exact Or.inr rfl))
        (pss_one (ps_if (PW.pt (pw_and (Z.pt_truN (pv 2)) (pw_and1 (pt_not (Z.pt_truN (Z.pe_callO O__is_below (by rfl) (hr.mono (by decide)) pass0 (pa_cons (pe_fld (pe_ix ix_seq (pv 2) (pe_un un_neg pe_int) (fun _ _ => rfl)) rfl) (pa_cons (pe_fld (pv 3) rfl) pa_nil))))))))
          (pss_cons (ps_set (i := 4) sc_either_stretches.nd rfl (by first | exact Or.inl rfl | exact Or.inr rfl) (pe_bm0 PySem.F.plainAttrs_list PySem.F.slot_list_pop PySem.F.type_list_pop mt_pop (pv 2)))
          (pss_one (ps_expr (pe_bm PySem.F.plainAttrs_list PySem.F.slot_list_append PySem.F.type_list_append mt_append (pv 2) (pa_cons (Z.pe_makeO O_Stretch_2 (hr.mono (by decide)) T.g_Stretch (by rfl) passL (pa_cons (pe_fld (pv 4) rfl) (pa_cons (Z.pe_callO O__greater_high (by rfl) (hr.mono (by decide)) pass0 (pa_cons (pe_fld (pv 4) rfl) (pa_cons (pe_fld (pv 3) rfl) pa_nil))) pa_nil))) pa_nil)))))
          (pss_one (ps_expr (pe_bm PySem.F.plainAttrs_list PySem.F.slot_list_append PySem.F.type_list_append mt_append (pv 2) (pa_cons (Z.pe_makeO O_Stretch_2 (hr.mono (by decide)) T.g_Stretch (by rfl) passL (pa_cons (pe_fld (pv 3) rfl) (pa_cons (pe_fld (pv 3) rfl) pa_nil))) pa_nil)))))))
      (pss_one (ps_ret (pe_callTy Z.zTuple (by rfl) T.b_tuple (by decide +kernel) (pa_cons (pv 2) pa_nil)))))), ?_⟩
    try dsimp only [cxOf, Cx.nox, Cx.wish]
    refine Z.at_start (σ' := [some a, some b, none, none, none]) rfl ?_
    obtain ⟨L, S, vs, ws, A, B, F, s, hs, al, hl, hs2, al2, hl2, cA, cB, oA, oB, k⟩ := h
    have lb := Z.line_big
    have hcl := T.i_Stretch.cl
    walk_at "z"
    rename_i jp H1 F1
    have sub1 : ∀ e ∈ L, e ∈ (Z.En.ob jp (.lst []) :: L) := fun _ m => .tail _ m
    refine use__by_low F1 s (hs.mono sub1) (al.mono fun _ _ h => h.mono sub1) hl (hs2.mono sub1) (al2.mono fun _ _ h => h.mono sub1) hl2 (cA.low oA) (cB.low oB) fun p us M L1 H2 pm sm au sL F2 => ?_
    obtain ⟨L2, pL, sL2⟩ := Z.sub_front sL
    have F3 := F2.perm ((List.Perm.cons _ pL).trans (List.Perm.swap _ _ _))
    have ok : ∀ y ∈ M, OkR S.length y := fun y hy => by
      rcases List.mem_append.mp (pm.mem_iff.mp hy) with h | h
      · exact oA y h
      · exact oB y h
    have hu : us.length ≤ 200 := by
      have := pm.length_eq
      have := au.len
      have := al.len
      have := al2.len
      rw [List.length_append] at *
      omega
    have okR : ∀ i, ∀ x ∈ (M.take i).foldl joinN [], OkR S.length x := fun i => (foldJ_ok (n := S.length) (M.take i) [] .nil (fun _ h => absurd h (by simp)) (sm.sublist (List.take_sublist _ _)) (fun _ h => absurd h (by simp)) fun y hy => ok y (List.mem_of_mem_take hy)).2.1
    have au2 : Z.Al2 (StrV c_Stretch S L2) us M := au.mono fun _ _ h => StrV.skip (h.mono fun _ m => pL.mem_iff.mp (sL.subset m))
    refine Z.wForQ (L := .ob p (.lst us) :: L2) (.lst (.head _)) (F3.sub (.cons _ (.refl _))) (fun i σ H' => ∃ (js : List V) (LL : List Z.En) (v3 v4 : Option V), σ = [some a, some b, some (.ref jp), v3, v4] ∧ Z.Fx H' (.ob jp (.lst js) :: LL) ∧ (.ob p (.lst us) :: L2).Sublist LL ∧ Z.Al2 (StrV c_Stretch S LL) js ((M.take i).foldl joinN []) ∧ js.length ≤ i) ⟨[], _, none, none, rfl, F3, .refl _, .nil, Nat.le_refl _⟩ ?_ ?_ ?_
    · rintro i σ H' ⟨js, LL, v3, v4, rfl, F', sl, aj, hj⟩
      exact ⟨_, F', fun _ m => .tail _ (sl.subset m)⟩
    · rintro i x σ H' hx ⟨js, LL, v3, v4, rfl, F', sl, aj, hj⟩
      have hi := (List.getElem?_eq_some_iff.mp hx).1
      obtain ⟨r, hr, sx0⟩ := au2.getL hx
      have sx := sx0.le ((List.Sublist.cons _ (.refl _)).trans sl)
      have okr := ok r (List.mem_of_getElem? hr)
      obtain ⟨p1, dx1, x1, y1, rfl, m1, hx1, hy1⟩ := id sx
      have step : (M.take (i + 1)).foldl joinN [] = joinN ((M.take i).foldl joinN []) r := by
        rw [List.take_add_one, hr, List.foldl_append]; rfl
      have oki := okR i
      have oki1 := okR (i + 1)
      rw [step] at oki1
      generalize hR : (M.take i).foldl joinN [] = R at *
      -- what is made new at the end
      by_cases hne : R = []
      · subst hne
        obtain rfl : js = [] := List.eq_nil_of_length_eq_zero (by rw [aj.len]; rfl)
        walk_at "z"
        refine Z.wFldAt F' (.tail _ m1) hcl T.n_Stretch_low (str_low _ _) ?_
        walk_at "z"
        refine Z.wFldAt F' (.tail _ m1) hcl T.n_Stretch_high (str_high _ _) ?_
        walk_at "z"
        refine use_StretchP F' s (hx1.mono fun _ m => .tail _ m) (hy1.mono fun _ m => .tail _ m) okr.1 okr.2.1 fun y dx H3 st F4 => ?_
        clear st
        walk_at "z"
        refine Z.wApp F4 (.tail _ (.tail _ (.head _))) (.tail (.tail .head)) (by simp only [List.length_nil]; omega) fun H5 F5 => ?_
        walk_at "z"
        have F6 := F5.perm (((List.Perm.swap _ _ _).cons _).trans (List.Perm.swap _ _ _))
        refine ⟨[.ref y], .ob y (.ins c_Stretch dx (strF x1 y1)) :: .ob dx (.own y) :: LL, _, _, rfl, F6, sl.trans (.cons _ (.cons _ (.refl _))), ?_, by simp⟩
        rw [step, joinN_none]
        exact .one ⟨y, dx, x1, y1, rfl, .head _, hx1.mono fun _ m => .tail _ (.tail _ m), hy1.mono fun _ m => .tail _ (.tail _ m)⟩
      · obtain ⟨R1, l, rfl⟩ := snoc_of hne
        obtain ⟨ks, v, rfl, ak, sv⟩ := al_last aj
        have okl := oki l (by simp)
        obtain ⟨p2, dx2, x2, y2, rfl, m2, hx2, hy2⟩ := id sv
        rw [joinN_snoc] at step
        walk_at "z"
        have ne : (!(ks ++ [V.ref p2]).isEmpty) = true := by simp
        rw [ne, if_pos rfl]
        walk_at "z"
        refine Z.wIxL (F'.lst (.head _)) at_lastV ?_
        refine Z.wFldAt F' (.tail _ m2) hcl T.n_Stretch_high (str_high _ _) ?_
        walk_at "z"
        refine Z.wFldAt F' (.tail _ m1) hcl T.n_Stretch_low (str_low _ _) ?_
        walk_at "z"
        refine use__is_below F' s (hy2.mono fun _ m => .tail _ m) (hx1.mono fun _ m => .tail _ m) ?_
        walk_at "z"
        refine Z.wIfND (fun h => ?_) (fun h => ?_)
        · rw [if_neg h] at step
          walk_at "z"
          refine Z.wPop (v := .ref p2) F' (.head _) (by simp) .head fun H3 F3 => ?_
          rw [List.dropLast_concat] at F3
          walk_at "z"
          refine Z.wFldAt F3 (.tail _ m2) hcl T.n_Stretch_low (str_low _ _) ?_
          walk_at "z"
          refine Z.wFldAt F3 (.tail _ m2) hcl T.n_Stretch_high (str_high _ _) ?_
          walk_at "z"
          refine Z.wFldAt F3 (.tail _ m1) hcl T.n_Stretch_high (str_high _ _) ?_
          walk_at "z"
          refine use__greater_high F3 s (hy2.mono fun _ m => .tail _ m) (hy1.mono fun _ m => .tail _ m) fun vh H4 hvh F4 => ?_
          walk_at "z"
          have o9 := oki1 (l.1, max l.2 r.2) (by rw [joinN_snoc, if_neg h]; simp)
          refine use_StretchP F4 s (hx2.mono fun _ m => .tail _ m) hvh o9.1 o9.2.1 fun y dx H5 st F5 => ?_
          clear st
          walk_at "z"
          have hks : ks.length < sizeLine := by rw [List.length_append] at hj; omega
          refine Z.wApp F5 (.tail _ (.tail _ (.head _))) (.tail (.tail .head)) hks fun H6 F6 => ?_
          walk_at "z"
          have F7 := F6.perm (((List.Perm.swap _ _ _).cons _).trans (List.Perm.swap _ _ _))
          refine ⟨ks ++ [.ref y], .ob y (.ins c_Stretch dx (strF x2 vh)) :: .ob dx (.own y) :: LL, _, _, rfl, F7, sl.trans (.cons _ (.cons _ (.refl _))), ?_, by rw [List.length_append] at hj ⊢; simp at hj ⊢; omega⟩
          rw [step]
          exact (ak.mono fun _ _ h => h.mono fun _ m => .tail _ (.tail _ m)).snoc ⟨y, dx, x2, vh, rfl, .head _, hx2.mono fun _ m => .tail _ (.tail _ m), hvh.skip.mono fun _ m => .tail _ (.tail _ m)⟩
        · rw [if_pos h] at step
          walk_at "z"
          refine Z.wFldAt F' (.tail _ m1) hcl T.n_Stretch_low (str_low _ _) ?_
          walk_at "z"
          refine Z.wFldAt F' (.tail _ m1) hcl T.n_Stretch_high (str_high _ _) ?_
          walk_at "z"
          refine use_StretchP F' s (hx1.mono fun _ m => .tail _ m) (hy1.mono fun _ m => .tail _ m) okr.1 okr.2.1 fun y dx H3 st F4 => ?_
          clear st
          walk_at "z"
          refine Z.wApp F4 (.tail _ (.tail _ (.head _))) (.tail (.tail .head)) (by omega) fun H5 F5 => ?_
          walk_at "z"
          have F6 := F5.perm (((List.Perm.swap _ _ _).cons _).trans (List.Perm.swap _ _ _))
          refine ⟨(ks ++ [.ref p2]) ++ [.ref y], .ob y (.ins c_Stretch dx (strF x1 y1)) :: .ob dx (.own y) :: LL, _, _, rfl, F6, sl.trans (.cons _ (.cons _ (.refl _))), ?_, by rw [List.length_append]; simp at hj ⊢; omega⟩
          rw [step]
          exact (aj.mono fun _ _ h => h.mono fun _ m => .tail _ (.tail _ m)).snoc ⟨y, dx, x1, y1, rfl, .head _, hx1.mono fun _ m => .tail _ (.tail _ m), hy1.mono fun _ m => .tail _ (.tail _ m)⟩
    · rintro σ H' ⟨js, LL, v3, v4, rfl, F', sl, aj, hj⟩
      walk_at "z"
      rename_i p5 H5 F5
      rw [au.len, List.take_length] at aj
      exact k p5 js _ _ H5 (either_made oA oB pm sm) (by omega) (aj.mono fun _ _ h => h.mono fun _ m => .tail _ (.tail _ m)) (sL2.trans ((List.Sublist.cons _ (.refl _)).trans (sl.trans (.cons _ (.cons _ (.refl _)))))) (.head _) F5
theorem ok_either_stretches (T : Txt K mg c_BadStretch c_Stretch c_ONE) : Z.Ok CX0 P w K mg base "either_stretches" 6 ["one", "other"] [] (sp_either_stretches K c_Stretch c_BadStretch) := by
  obtain ⟨f, fd, F, g⟩ := T.d_either_stretches
  exact Z.mkOk F g (F.binds (ps := ["one", "other"]) fun _ _ _ _ _ _ us hl => match us, hl with | [_, _], _ => rfl) (fn_either_stretches T F)
theorem use_either_stretches {cS cZ : Addr} {H : Hp} {Q : VK} {E : XK} {L : List Z.En} {S : List (Int × Int)} {x y : V} {vs ws : List V} {A B : List (Nat × Nat)} (F : Z.Fx H L) (s : Scale S) (hs : Z.SeqIs L x (some vs)) (al : Z.Al2 (StrV cS S L) vs A) (hl : vs.length ≤ 100) (hs2 : Z.SeqIs L y (some ws)) (al2 : Z.Al2 (StrV cS S L) ws B) (hl2 : ws.length ≤ 100) (cA : Can A) (cB : Can B) (oA : ∀ r ∈ A, OkR S.length r) (oB : ∀ r ∈ B, OkR S.length r)
  (k : ∀ p us R L' H', Made S.length (fun q => hasP A q || hasP B q) R → us.length ≤ 200 → Z.Al2 (StrV cS S L') us R → L.Sublist L' → Z.En.ob p (.tup us) ∈ L' → Z.Fx H' L' → Q (.ref p) H') : sp_either_stretches K cS cZ [x, y] H Q E := ⟨_, _, rfl, L, S, vs, ws, A, B, F, s, hs, al, hl, hs2, al2, hl2, cA, cB, oA, oB, k⟩
theorem sc_least_of : FnScope ["ratios", "least", "ratio"] ["ratios"] (defScope s_least_of) := ⟨rfl, rfl, rfl, by decide +kernel, rfl, by decide +kernel, by decide +kernel⟩
/-- the lesser of two -/
def sp_least_of (K : PySem.W.Frag) : Sp := Z.Sp1 fun a H Q E => ∃ (L : List Z.En) (S : List (Int × Int)) (x y : V) (i j : Nat), Z.Fx H L ∧ Scale S ∧ Z.SeqIs L a (some [x, y]) ∧ PosV S L x i ∧ PosV S L y j ∧ ∀ v H', PosV S L v (min i j) → Z.Fx H' L → Q v H'
theorem fn_least_of (T : Txt K mg c_BadStretch c_Stretch c_ONE) {f : Addr} {fd : FuncData} (F : Fun K "least_of" "least_of" s_least_of f fd) : FnOk P w K mg base CX0 2 f fd ["ratios"] (sp_least_of K) := by
  have O_compare := ok_compare (P := P) (w := w) (base := base) T
  refine F.ok sc_least_of (fun vs H Q E h => ?_) (fun cdv A outer s H vs Q E hr h => ?_)
  · obtain ⟨a, rfl, _⟩ := h; rfl
  · obtain ⟨a, rfl, h⟩ := h
    refine ⟨_, (pss_cons (ps_set (i := 1) sc_least_of.nd rfl (by first | exact Or.inl rfl | exact Or.inr rfl) (pe_ix ix_seq (pv 0) pe_int (fun _ _ => rfl)))
      (pss_cons (ps_for PassesOwn.never (by rfl) (Z.pi_seq (pe_slice Z.zSlA (pv 0) (po_some pe_int) po_none)) (pg_name (i := 2) sc_least_of.nd rfl (by first | exact Or.inl rfl | exact Or.inr rfl))
        (pss_one (ps_if (pt_cmpR Z.zLt (Z.pe_callO O_compare (by rfl) (hr.mono (by decide)) pass0 (pa_cons (pv 2) (pa_cons (pv 1) pa_nil))) pe_int (nomark _))
          (pss_one (ps_set (i := 1) sc_least_of.nd rfl (by first | exact Or.inl rfl | exact Or.inr rfl) (pv 2)))
          pss_nil)))
      (pss_one (ps_ret (pv 1))))), ?_⟩
    try dsimp only [cxOf, Cx.nox, Cx.wish]
    refine Z.at_start (σ' := [some a, none, none]) rfl ?_
    obtain ⟨L, S, x, y, i0, j0, F, s, hs, hx, hy, k⟩ := h
    walk_at "z"
    refine Z.wIxSq hs F (v := x) (by rfl) ?_
    walk_at "z"
    refine Z.wSlAS hs (.refl _) F fun p H1 N hq F1 => ?_
    rw [Z.cut_tail] at hq
    walk_at "z"
    refine Z.wForQ (xs := [y]) hq.isR F1 (fun i σ H' => ∃ (v : V) (v2 : Option V), σ = [some a, some v, v2] ∧ H' = H1 ∧ (i = 0 → v = x) ∧ (i = 1 → PosV S L v (min i0 j0))) ⟨_, _, rfl, rfl, fun _ => rfl, fun h => absurd h (by decide)⟩ ?_ ?_ ?_
    · rintro i σ H' ⟨v, v2, rfl, rfl, h0, h1⟩
      exact ⟨_, F1, fun _ h => h⟩
    · rintro i z σ H' hz ⟨v, v2, rfl, rfl, h0, h1⟩
      obtain ⟨rfl, rfl⟩ : i = 0 ∧ z = y := by
        rcases i with _ | i
        · exact ⟨rfl, (Option.some.inj hz).symm⟩
        · simp at hz
      rw [h0 rfl]
      have sub : L.Sublist (N ++ L) := List.sublist_append_right _ _
      walk_at "z"
      refine use_cmpP F1 s (hy.le sub) (hx.le sub) ?_
      walk_at "z"
      refine Z.wIfD (fun h => ?_) (fun h => ?_)
      · rw [sg_neg] at h
        walk_at "z"
        exact ⟨_, _, rfl, rfl, fun h => absurd h (by decide), fun _ => by rw [Nat.min_eq_right (by omega)]; exact hy⟩
      · rw [sg_neg] at h
        walk_at "z"
        exact ⟨_, _, rfl, rfl, fun h => absurd h (by decide), fun _ => by rw [Nat.min_eq_left (by omega)]; exact hx⟩
    · rintro σ H' ⟨v, v2, rfl, rfl, h0, h1⟩
      walk_at "z"
      exact k v H' (h1 rfl) (F1.sub (List.sublist_append_right _ _))
theorem ok_least_of (T : Txt K mg c_BadStretch c_Stretch c_ONE) : Z.Ok CX0 P w K mg base "least_of" 2 ["ratios"] [] (sp_least_of K) := by
  obtain ⟨f, fd, F, g⟩ := T.d_least_of
  exact Z.mkOk F g (F.binds (ps := ["ratios"]) fun _ _ _ _ _ _ us hl => match us, hl with | [_], _ => rfl) (fn_least_of T F)
theorem use_least_of {H : Hp} {Q : VK} {E : XK} {L : List Z.En} {S : List (Int × Int)} {a x y : V} {i j : Nat} (F : Z.Fx H L) (s : Scale S) (hs : Z.SeqIs L a (some [x, y])) (hx : PosV S L x i) (hy : PosV S L y j) (k : ∀ v H', PosV S L v (min i j) → Z.Fx H' L → Q v H') : sp_least_of K [a] H Q E := ⟨_, rfl, L, S, x, y, i, j, F, s, hs, hx, hy, k⟩
theorem sc__lesser_high : FnScope ["one", "other"] ["one", "other"] (defScope s__lesser_high) := ⟨rfl, rfl, rfl, by decide +kernel, rfl, by decide +kernel, by decide +kernel⟩
def sp__lesser_high (K : PySem.W.Frag) : Sp := Z.Sp2 fun x y H Q E => ∃ (L : List Z.En) (S : List (Int × Int)) (i j : Nat), Z.Fx H L ∧ Scale S ∧ HiV S L x i ∧ HiV S L y j ∧ ∀ v H', HiV S L v (min i j) → Z.Fx H' L → Q v H'
theorem fn__lesser_high (T : Txt K mg c_BadStretch c_Stretch c_ONE) {f : Addr} {fd : FuncData} (F : Fun K "_lesser_high" "_lesser_high" s__lesser_high f fd) : FnOk P w K mg base CX0 3 f fd ["one", "other"] (sp__lesser_high K) := by
  have O_least_of := ok_least_of (P := P) (w := w) (base := base) T
  refine F.ok sc__lesser_high (fun vs H Q E h => ?_) (fun cdv A outer s H vs Q E hr h => ?_)
  · obtain ⟨a, b, rfl, _⟩ := h; rfl
  · obtain ⟨a, b, rfl, h⟩ := h
    refine ⟨_, (pss_cons (ps_if (PW.pt (pw_or (pt_cmpR Z.zIs (pv 0) pe_non (nomark _)) (pw_or1 (pt_cmpR Z.zIs (pv 1) pe_non (nomark _)))))
        (pss_one (ps_ret (pe_ifExp (pt_cmpR Z.zIs (pv 0) pe_non (nomark _)) (pv 1) (pv 0))))
        pss_nil)
      (pss_one (ps_ret (Z.pe_callO O_least_of (by rfl) (hr.mono (by decide)) pass0 (pa_cons (pe_lst (pa_cons (pv 0) (pa_cons (pv 1) pa_nil))) pa_nil))))), ?_⟩
    try dsimp only [cxOf, Cx.nox, Cx.wish]
    refine Z.at_start (σ' := [some a, some b]) rfl ?_
    obtain ⟨L, S, i, j, F, s, hx, hy, k⟩ := h
    have li := hx.lt
    have lj := hy.lt
    rcases hx with ⟨rfl, rfl⟩ | hx
    · walk_at "z"
      rw [Nat.min_eq_right lj] at k
      exact k _ _ hy F
    · obtain ⟨hi, p, rfl, mp⟩ := id hx
      rcases hy with ⟨rfl, rfl⟩ | hy
      · walk_at "z"
        rw [Nat.min_eq_left li] at k
        exact k _ _ (.inr hx) F
      · obtain ⟨hj, q, rfl, mq⟩ := id hy
        walk_at "z"
        rename_i l H1 F1
        refine use_least_of F1 s (.lst (.head _)) (hx.mono fun _ m => .tail _ m) (hy.mono fun _ m => .tail _ m) fun v H2 hv F2 => ?_
        refine k v H2 (.inr ?_) (F2.sub (.cons _ (.refl _)))
        obtain ⟨h1, p2, e2, m2⟩ := hv
        exact ⟨h1, p2, e2, Z.mem_skip m2 nofun⟩
theorem ok__lesser_high (T : Txt K mg c_BadStretch c_Stretch c_ONE) : Z.Ok CX0 P w K mg base "_lesser_high" 3 ["one", "other"] [] (sp__lesser_high K) := by
  obtain ⟨f, fd, F, g⟩ := T.d__lesser_high
  exact Z.mkOk F g (F.binds (ps := ["one", "other"]) fun _ _ _ _ _ _ us hl => match us, hl with | [_, _], _ => rfl) (fn__lesser_high T F)
theorem use__lesser_high {H : Hp} {Q : VK} {E : XK} {L : List Z.En} {S : List (Int × Int)} {x y : V} {i j : Nat} (F : Z.Fx H L) (s : Scale S) (hx : HiV S L x i) (hy : HiV S L y j) (k : ∀ v H', HiV S L v (min i j) → Z.Fx H' L → Q v H') : sp__lesser_high K [x, y] H Q E := ⟨_, _, rfl, L, S, i, j, F, s, hx, hy, k⟩
theorem sc_both_stretches : FnScope ["one", "other", "shared", "stretch", "part", "low", "high"] ["one", "other"] (defScope s_both_stretches) := ⟨rfl, rfl, rfl, by decide +kernel, rfl, by decide +kernel, by decide +kernel⟩
theorem cut_ok {n : Nat} {a b : Nat × Nat} (oa : OkR n a) (ob : OkR n b) {r : Nat × Nat} (h : r ∈ cutR a b) : OkR n r := (both_made (n := n) (A := [a]) (B := [b]) (List.pairwise_singleton _ _) (List.pairwise_singleton _ _) (fun x hx => by rw [List.mem_singleton.mp hx]; exact oa) (fun x hx => by rw [List.mem_singleton.mp hx]; exact ob)).2.1 r (by simpa [bothN] using h)
theorem both_step {A B : List (Nat × Nat)} {i : Nat} {a : Nat × Nat} (h : A[i]? = some a) : bothN (A.take (i + 1)) B = bothN (A.take i) B ++ B.flatMap fun b => cutR a b := by
  unfold bothN
  rw [List.take_add_one, h, List.flatMap_append]
  simp
theorem both_stepB {B : List (Nat × Nat)} {a b : Nat × Nat} {j : Nat} (h : B[j]? = some b) : ((B.take (j + 1)).flatMap fun b => cutR a b) = ((B.take j).flatMap fun b => cutR a b) ++ cutR a b := by
  rw [List.take_add_one, h, List.flatMap_append]
  simp
def sp_both_stretches (K : PySem.W.Frag) (cS cZ : Addr) : Sp := Z.Sp2 fun x y H Q E => ∃ (L : List Z.En) (S : List (Int × Int)) (vs ws : List V) (A B : List (Nat × Nat)), Z.Fx H L ∧ Scale S ∧ Z.SeqIs L x (some vs) ∧ Z.Al2 (StrV cS S L) vs A ∧ vs.length ≤ 100 ∧ Z.SeqIs L y (some ws) ∧ Z.Al2 (StrV cS S L) ws B ∧ ws.length ≤ 100 ∧ (∀ r ∈ A, OkR S.length r) ∧ (∀ r ∈ B, OkR S.length r) ∧
  ∀ p us L' H', us.length ≤ 10000 → Z.Al2 (StrV cS S L') us (bothN A B) → L.Sublist L' → Z.En.ob p (.tup us) ∈ L' → Z.Fx H' L' → Q (.ref p) H'
theorem fn_both_stretches (T : Txt K mg c_BadStretch c_Stretch c_ONE) {f : Addr} {fd : FuncData} (F : Fun K "both_stretches" "both_stretches" s_both_stretches f fd) : FnOk P w K mg base CX0 6 f fd ["one", "other"] (sp_both_stretches K c_Stretch c_BadStretch) := by
  have O__is_below := ok__is_below (P := P) (w := w) (base := base) T
  have O__lesser_high := ok__lesser_high (P := P) (w := w) (base := base) T
  have O_greatest_of := ok_greatest_of (P := P) (w := w) (base := base) T
  have O_Stretch_2 := ok_Stretch___init___2 (P := P) (w := w) (base := base) T
  refine F.ok sc_both_stretches (fun vs H Q E h => ?_) (fun cdv A outer s H vs Q E hr h => ?_)
  · obtain ⟨a, b, rfl, _⟩ := h; rfl
  · obtain ⟨a, b, rfl, h⟩ := h
    refine ⟨_, (pss_cons (ps_set (i := 2) sc_both_stretches.nd rfl (by first | exact Or.inl rfl | exact Or.inr rfl) (pe_lst pa_nil))
      (pss_cons (ps_for PassesOwn.never (by rfl) (Z.pi_seq (pv 0)) (pg_name (i := 3) sc_both_stretches.nd rfl (by first | exact Or.inl rfl | exact Or.inr rfl))
        (pss_one (ps_for PassesOwn.never (by rfl) (Z.pi_seq (pv 1)) (pg_name (i := 4) sc_both_stretches.nd rfl (by first | exact Or.inl rfl | exact Or.inr rfl))
          (pss_cons (ps_set (i := 5) sc_both_stretches.nd rfl (by first | exact Or.inl rfl | exact Or.inr rfl) (Z.pe_callO O_greatest_of (by rfl) (hr.mono (by decide)) pass0 (pa_cons (pe_lst (pa_cons (pe_fld (pv 3) rfl) (pa_cons (pe_fld (pv 4) rfl) pa_nil))) pa_nil)))
          (pss_cons (ps_set (i := 6) sc_both_stretches.nd rfl (by first | exact Or.inl rfl | exact Or.inr rfl) (Z.pe_callO O__lesser_high (by rfl) (hr.mono (by decide)) pass0 (pa_cons (pe_fld (pv 3) rfl) (pa_cons (pe_fld (pv 4) rfl) pa_nil))))
          (pss_one (ps_if (pt_not (Z.pt_truN (Z.pe_callO O__is_below (by rfl) (hr.mono (by decide)) pass0 (pa_cons (pv 6) (pa_cons (pv 5) pa_nil)))))
            (pss_one (ps_expr (pe_bm PySem.F.plainAttrs_list PySem.F.slot_list_append PySem.F.type_list_append mt_append (pv 2) (pa_cons (Z.pe_makeO O_Stretch_2 (hr.mono (by decide)) T.g_Stretch (by rfl) passL (pa_cons (pv 5) (pa_cons (pv 6) pa_nil))) pa_nil))))
            pss_nil)))))))
      (pss_one (ps_ret (pe_callTy Z.zTuple (by rfl) T.b_tuple (by decide +kernel) (pa_cons (pv 2) pa_nil)))))), ?_⟩
    try dsimp only [cxOf, Cx.nox, Cx.wish]
    refine Z.at_start (σ' := [some a, some b, none, none, none, none, none]) rfl ?_
    obtain ⟨L, S, vs, ws, A, B, F, s, hs, al, hl, hs2, al2, hl2, oA, oB, k⟩ := h
    have lb := Z.line_big
    have hcl := T.i_Stretch.cl
    have la := al.len
    have lb2 := al2.len
    walk_at "z"
    rename_i jp H1 F1
    refine Z.wForQ hs (F1.sub (.cons _ (.refl _))) (fun i σ H' => ∃ (js : List V) (LL : List Z.En) (v3 v4 v5 v6 : Option V), σ = [some a, some b, some (.ref jp), v3, v4, v5, v6] ∧ Z.Fx H' (.ob jp (.lst js) :: LL) ∧ L.Sublist LL ∧ Z.Al2 (StrV c_Stretch S LL) js (bothN (A.take i) B) ∧ js.length ≤ 100 * i) ⟨[], L, none, none, none, none, rfl, F1, .refl _, .nil, Nat.zero_le _⟩ ?_ ?_ ?_
    · rintro i σ H' ⟨js, LL, v3, v4, v5, v6, rfl, F', sl, aj, hj⟩
      exact ⟨_, F', fun _ m => .tail _ (sl.subset m)⟩
    · rintro i x σ H' hx ⟨js, LL, v3, v4, v5, v6, rfl, F', sl, aj, hj⟩
      have hi := (List.getElem?_eq_some_iff.mp hx).1
      obtain ⟨r, hr, sx0⟩ := al.getL hx
      have okr := oA r (List.mem_of_getElem? hr)
      walk_at "z"
      refine Z.wForQ (L := LL) (hs2.mono fun _ m => sl.subset m) (F'.sub (.cons _ (.refl _))) (fun j σ H' => ∃ (ks : List V) (L3 : List Z.En) (v4 v5 v6 : Option V), σ = [some a, some b, some (.ref jp), some x, v4, v5, v6] ∧ Z.Fx H' (.ob jp (.lst ks) :: L3) ∧ LL.Sublist L3 ∧ Z.Al2 (StrV c_Stretch S L3) ks (bothN (A.take i) B ++ (B.take j).flatMap fun b => cutR r b) ∧ ks.length ≤ 100 * i + j) ⟨js, LL, v4, v5, v6, rfl, F', .refl _, by simpa using aj, hj⟩ ?_ ?_ ?_
      · rintro j σ H2 ⟨ks, L3, v4, v5, v6, rfl, F2, sl3, ak, hk⟩
        exact ⟨_, F2, fun _ m => .tail _ (sl3.subset m)⟩
      · rintro j y σ H2 hy ⟨ks, L3, v4, v5, v6, rfl, F2, sl3, ak, hk⟩
        have hj2 := (List.getElem?_eq_some_iff.mp hy).1
        obtain ⟨t, ht, sy0⟩ := al2.getL hy
        have okt := oB t (List.mem_of_getElem? ht)
        obtain ⟨p1, dx1, x1, y1, rfl, m1, hx1, hy1⟩ := sx0.le (sl.trans sl3)
        obtain ⟨p2, dx2, x2, y2, rfl, m2, hx2, hy2⟩ := sy0.le (sl.trans sl3)
        walk_at "z"
        refine Z.wFldAt F2 (.tail _ m1) hcl T.n_Stretch_low (str_low _ _) ?_
        walk_at "z"
        refine Z.wFldAt F2 (.tail _ m2) hcl T.n_Stretch_low (str_low _ _) ?_
        walk_at "z"
        rename_i l H3 F3
        refine use_greatest_of F3 s (.lst (.head _)) (hx1.mono fun _ m => .tail _ (.tail _ m)) (hx2.mono fun _ m => .tail _ (.tail _ m)) fun v H4 hv F4 => ?_
        have F5 := F4.sub (L' := .ob jp (.lst ks) :: L3) (.cons _ (.refl _))
        have hv5 := hv.skip
        clear F3 F4 hv
        walk_at "z"
        refine Z.wFldAt F5 (.tail _ m1) hcl T.n_Stretch_high (str_high _ _) ?_
        walk_at "z"
        refine Z.wFldAt F5 (.tail _ m2) hcl T.n_Stretch_high (str_high _ _) ?_
        walk_at "z"
        refine use__lesser_high F5 s (hy1.mono fun _ m => .tail _ m) (hy2.mono fun _ m => .tail _ m) fun vh H6 hvh F6 => ?_
        walk_at "z"
        refine use__is_below F6 s hvh hv5 ?_
        walk_at "z"
        refine Z.wIfND (fun h => ?_) (fun h => ?_)
        · have hc : cutR r t = [(max r.1 t.1, min r.2 t.2)] := by unfold cutR; rw [if_neg h]
          have o9 := cut_ok okr okt (r := (max r.1 t.1, min r.2 t.2)) (by rw [hc]; exact List.mem_cons_self)
          walk_at "z"
          refine use_StretchP F6 s hv5 hvh o9.1 o9.2.1 fun y3 dx H7 st F7 => ?_
          clear st
          walk_at "z"
          refine Z.wApp F7 (.tail _ (.tail _ (.head _))) (.tail (.tail .head)) (by omega) fun H8 F8 => ?_
          walk_at "z"
          have F9 := F8.perm (((List.Perm.swap _ _ _).cons _).trans (List.Perm.swap _ _ _))
          refine ⟨ks ++ [.ref y3], .ob y3 (.ins c_Stretch dx (strF v vh)) :: .ob dx (.own y3) :: L3, _, _, _, rfl, F9, sl3.trans (.cons _ (.cons _ (.refl _))), ?_, by rw [List.length_append]; simp; omega⟩
          rw [both_stepB ht, hc, ← List.append_assoc]
          exact (ak.mono fun _ _ h => h.mono fun _ m => .tail _ (.tail _ m)).snoc ⟨y3, dx, v, vh, rfl, .head _, hv5.skip.mono fun _ m => .tail _ (.tail _ m), hvh.skip.mono fun _ m => .tail _ (.tail _ m)⟩
        · have hc : cutR r t = [] := by unfold cutR; rw [if_pos h]
          walk_at "z"
          exact ⟨ks, L3, _, _, _, rfl, F6, sl3, by rw [both_stepB ht, hc, List.append_nil]; exact ak, by omega⟩
      · rintro σ H2 ⟨ks, L3, v4, v5, v6, rfl, F2, sl3, ak, hk⟩
        rw [lb2, List.take_length] at ak
        rw [← both_step hr] at ak
        exact ⟨ks, L3, _, _, _, _, rfl, F2, sl.trans sl3, ak, by omega⟩
    · rintro σ H' ⟨js, LL, v3, v4, v5, v6, rfl, F', sl, aj, hj⟩
      walk_at "z"
      rename_i p5 H5 F5
      rw [la, List.take_length] at aj
      exact k p5 js _ H5 (by omega) (aj.mono fun _ _ h => h.mono fun _ m => .tail _ (.tail _ m)) (sl.trans (.cons _ (.cons _ (.refl _)))) (.head _) F5
theorem ok_both_stretches (T : Txt K mg c_BadStretch c_Stretch c_ONE) : Z.Ok CX0 P w K mg base "both_stretches" 6 ["one", "other"] [] (sp_both_stretches K c_Stretch c_BadStretch) := by
  obtain ⟨f, fd, F, g⟩ := T.d_both_stretches
  exact Z.mkOk F g (F.binds (ps := ["one", "other"]) fun _ _ _ _ _ _ us hl => match us, hl with | [_, _], _ => rfl) (fn_both_stretches T F)
theorem use_both_stretches {cS cZ : Addr} {H : Hp} {Q : VK} {E : XK} {L : List Z.En} {S : List (Int × Int)} {x y : V} {vs ws : List V} {A B : List (Nat × Nat)} (F : Z.Fx H L) (s : Scale S) (hs : Z.SeqIs L x (some vs)) (al : Z.Al2 (StrV cS S L) vs A) (hl : vs.length ≤ 100) (hs2 : Z.SeqIs L y (some ws)) (al2 : Z.Al2 (StrV cS S L) ws B) (hl2 : ws.length ≤ 100) (oA : ∀ r ∈ A, OkR S.length r) (oB : ∀ r ∈ B, OkR S.length r)
  (k : ∀ p us L' H', us.length ≤ 10000 → Z.Al2 (StrV cS S L') us (bothN A B) → L.Sublist L' → Z.En.ob p (.tup us) ∈ L' → Z.Fx H' L' → Q (.ref p) H') : sp_both_stretches K cS cZ [x, y] H Q E := ⟨_, _, rfl, L, S, vs, ws, A, B, F, s, hs, al, hl, hs2, al2, hl2, oA, oB, k⟩
theorem sc__law_is_whole : FnScope ["_law_thing"] ["_law_thing"] (defScope s__law_is_whole) := ⟨rfl, rfl, rfl, by decide +kernel, rfl, by decide +kernel, by decide +kernel⟩
def isI (v : V) : Bool := match v with | .int _ => true | _ => false
def sp__law_is_whole (K : PySem.W.Frag) : Sp := Z.Sp1 fun a H Q E => ∃ k, Z.HasK K H a k ∧ Q (.bl (isI a)) H
theorem fn__law_is_whole (T : Txt K mg c_BadStretch c_Stretch c_ONE) {f : Addr} {fd : FuncData} (F : Fun K "_law_is_whole" "_law_is_whole" s__law_is_whole f fd) : FnOk P w K mg base CX0 1 f fd ["_law_thing"] (sp__law_is_whole K) := by
  refine F.ok sc__law_is_whole (fun vs H Q E h => ?_) (fun cdv A outer s H vs Q E hr h => ?_)
  · obtain ⟨a, rfl, _⟩ := h; rfl
  · obtain ⟨a, rfl, h⟩ := h
    refine ⟨_, (pss_one (ps_ret (pe_andT (pe_callB Z.zIsi (by rfl) T.b_isinstance (by decide +kernel) (pa_cons (pv 0) (pa_cons (pe_bltn (by rfl) T.b_int (by decide +kernel) (show RelV (.ty "int") _ from rfl)) pa_nil))) (pe_one (pe_notT (pe_callB Z.zIsi (by rfl) T.b_isinstance (by decide +kernel) (pa_cons (pv 0) (pa_cons (pe_bltn (by rfl) T.b_bool (by decide +kernel) (show RelV (.ty "bool") _ from rfl)) pa_nil)))))))), ?_⟩
    try dsimp only [cxOf, Cx.nox, Cx.wish]
    refine Z.at_start (σ' := [some a]) rfl ?_
    obtain ⟨k, hk, q⟩ := h
    walk_at "z"
    refine Z.wIsiInt hk ?_
    cases hk with
    | int i =>
      walk_at "z"
      refine Z.wIsiBool (.int i) ?_
      walk_at "z"
      exact q
    | bl b =>
      walk_at "z"
      refine Z.wIsiBool (.bl b) ?_
      walk_at "z"
      exact q
    | _ =>
      walk_at "z"
      exact q
theorem ok__law_is_whole (T : Txt K mg c_BadStretch c_Stretch c_ONE) : Z.Ok CX0 P w K mg base "_law_is_whole" 1 ["_law_thing"] [] (sp__law_is_whole K) := by
  obtain ⟨f, fd, F, g⟩ := T.d__law_is_whole
  exact Z.mkOk F g (F.binds (ps := ["_law_thing"]) fun _ _ _ _ _ _ us hl => match us, hl with | [_], _ => rfl) (fn__law_is_whole T F)
theorem use__law_is_whole {H : Hp} {Q : VK} {E : XK} {a : V} {k : Z.Kd} (hk : Z.HasK K H a k) (q : Q (.bl (isI a)) H) : sp__law_is_whole K [a] H Q E := ⟨_, rfl, k, hk, q⟩
local macro_rules | `(tactic| walk_at "zc") => `(tactic| ((with_reducible refine' use__law_is_whole ?zk ?_); (case zk => walk_at "zk")))
theorem sc__law_is_ratio : FnScope ["_law_thing"] ["_law_thing"] (defScope s__law_is_ratio) := ⟨rfl, rfl, rfl, by decide +kernel, rfl, by decide +kernel, by decide +kernel⟩
def sp__law_is_ratio (K : PySem.W.Frag) : Sp := Z.Sp1 fun a H Q E => ∃ (L : List Z.En) (o : Option (List V)), Z.Fx H L ∧ TupIs K L a o ∧ SzO o ∧ Q (.bl (isRtV o)) H
theorem fn__law_is_ratio (T : Txt K mg c_BadStretch c_Stretch c_ONE) {f : Addr} {fd : FuncData} (F : Fun K "_law_is_ratio" "_law_is_ratio" s__law_is_ratio f fd) : FnOk P w K mg base CX0 2 f fd ["_law_thing"] (sp__law_is_ratio K) := by
  have O__law_gcd := ok__law_gcd (P := P) (w := w) (base := base) T
  have O__law_is_whole := ok__law_is_whole (P := P) (w := w) (base := base) T
  refine F.ok sc__law_is_ratio (fun vs H Q E h => ?_) (fun cdv A outer s H vs Q E hr h => ?_)
  · obtain ⟨a, rfl, _⟩ := h; rfl
  · obtain ⟨a, rfl, h⟩ := h
    refine ⟨_, (pss_cons (ps_if (PW.pt (pw_or (pt_not (Z.pt_truN (pe_callB Z.zIsi (by rfl) T.b_isinstance (by decide +kernel) (pa_cons (pv 0) (pa_cons (pe_bltn (by rfl) T.b_tuple (by decide +kernel) (show RelV (.ty "tuple") _ from rfl)) pa_nil))))) (pw_or1 (pt_cmpR (Z.zNe (Z.hu0 hr)) (pe_callB Z.zLen (by rfl) T.b_len (by decide +kernel) (pa_cons (pv 0) pa_nil)) pe_int (nomark _)))))
        (pss_one (ps_ret pe_bl))
        pss_nil)
      (pss_cons (ps_if (PW.pt (pw_or (pt_not (Z.pt_truN (Z.pe_callO O__law_is_whole (by rfl) (hr.mono (by decide)) pass0 (pa_cons (pe_ix ix_seq (pv 0) pe_int (fun _ _ => rfl)) pa_nil)))) (pw_or (pt_not (Z.pt_truN (Z.pe_callO O__law_is_whole (by rfl) (hr.mono (by decide)) pass0 (pa_cons (pe_ix ix_seq (pv 0) pe_int (fun _ _ => rfl)) pa_nil)))) (pw_or1 (pt_cmpR Z.zLt (pe_ix ix_seq (pv 0) pe_int (fun _ _ => rfl)) pe_int (nomark _))))))
        (pss_one (ps_ret pe_bl))
        pss_nil)
      (pss_one (ps_ret (pe_cmpR (Z.zEq (Z.hu0 hr)) (Z.pe_callO O__law_gcd (by rfl) (hr.mono (by decide)) pass0 (pa_cons (pe_ix ix_seq (pv 0) pe_int (fun _ _ => rfl)) (pa_cons (pe_ix ix_seq (pv 0) pe_int (fun _ _ => rfl)) pa_nil))) pe_int (nomark _)))))), ?_⟩
    try dsimp only [cxOf, Cx.nox, Cx.wish]
    refine Z.at_start (σ' := [some a]) rfl ?_
    obtain ⟨L, o, F, h, so, q⟩ := h
    rcases h with ⟨k, ht, hk, rfl⟩ | ⟨p, xs, rfl, rfl, hl, hp, hx⟩
    · walk_at "z"
      refine Z.wIsiTuple (ht.has F) ?_
      rw [hk]
      walk_at "z"
      exact q
    have sq := TupIs.sq (K := K) F hp
    walk_at "z"
    refine Z.wIsiTuple (.tup sq) ?_
    walk_at "z"
    by_cases h2 : xs.length = 2
    case neg =>
      have e : isRtV (some xs) = false := by
        unfold isRtV isRt
        dsimp only
        split
        · exact absurd rfl h2
        · rfl
      rw [e] at q
      rw [decide_eq_false (show ¬ (xs.length : Int) = 2 by omega)]
      walk_at "z"
      exact q
    obtain ⟨x, y, rfl⟩ : ∃ x y, xs = [x, y] := by
      match xs, h2 with
      | [x, y], _ => exact ⟨x, y, rfl⟩
    obtain ⟨kx, tx⟩ := hx x (by simp)
    obtain ⟨ky, ty⟩ := hx y (by simp)
    have hkx := tx.has (K := K) F
    have hky := ty.has (K := K) F
    walk_at "z"
    refine Z.wIf (fun h1 => ?_) (fun h1 => ?_)
    case refine_1 =>
      have e : isRtV (some [x, y]) = false := by
        cases x with
        | int i => exact absurd h1 (by simp [isI])
        | _ => rfl
      rw [e] at q
      walk_at "z"
      exact q
    obtain ⟨t, rfl⟩ : ∃ t, x = .int t := by
      cases x with
      | int i => exact ⟨i, rfl⟩
      | _ => simp [isI] at h1
    walk_at "z"
    refine Z.wIf (fun h3 => ?_) (fun h3 => ?_)
    case refine_1 =>
      have e : isRtV (some [.int t, y]) = false := by
        cases y with
        | int i => exact absurd h3 (by simp [isI])
        | _ => rfl
      rw [e] at q
      walk_at "z"
      exact q
    obtain ⟨d, rfl⟩ : ∃ d, y = .int d := by
      cases y with
      | int i => exact ⟨i, rfl⟩
      | _ => simp [isI] at h3
    walk_at "z"
    refine Z.wIfD (fun h4 => ?_) (fun h4 => ?_)
    · have e : isRtV (some [.int t, .int d]) = false := by
        have : ¬ 1 ≤ d := by omega
        simp [isRtV, isRt, this]
      rw [e] at q
      walk_at "z"
      exact q
    have d1 : 1 ≤ d := by omega
    walk_at "z"
    refine use__law_gcd ((so t d rfl).2.mono (by decide)) ?_
    walk_at "z"
    have e : isRtV (some [.int t, .int d]) = decide (((Nat.gcd t.natAbs d.natAbs : Nat) : Int) = 1) := by
      simp only [isRtV, isRt, d1, decide_true, Bool.true_and]
      rw [Bool.eq_iff_iff, decide_eq_true_iff, decide_eq_true_iff]
      omega
    rw [e] at q
    exact q
theorem ok__law_is_ratio (T : Txt K mg c_BadStretch c_Stretch c_ONE) : Z.Ok CX0 P w K mg base "_law_is_ratio" 2 ["_law_thing"] [] (sp__law_is_ratio K) := by
  obtain ⟨f, fd, F, g⟩ := T.d__law_is_ratio
  exact Z.mkOk F g (F.binds (ps := ["_law_thing"]) fun _ _ _ _ _ _ us hl => match us, hl with | [_], _ => rfl) (fn__law_is_ratio T F)
theorem use__law_is_ratio {H : Hp} {Q : VK} {E : XK} {L : List Z.En} {a : V} {o : Option (List V)} (F : Z.Fx H L) (h : TupIs K L a o) (so : SzO o) (q : Q (.bl (isRtV o)) H) : sp__law_is_ratio K [a] H Q E := ⟨_, rfl, L, o, F, h, so, q⟩
theorem sc__law_is_list : FnScope ["_law_told", "_law_before", "_law_row"] ["_law_told"] (defScope s__law_is_list) := ⟨rfl, rfl, rfl, by decide +kernel, rfl, by decide +kernel, by decide +kernel⟩
def sp__law_is_list (K : PySem.W.Frag) (cS : Addr) : Sp := Z.Sp1 fun a H Q E => ∃ (L : List Z.En) (S : List (Int × Int)) (p : Addr) (us : List V) (R : List (Nat × Nat)), a = .ref p ∧ Z.Fx H L ∧ Scale S ∧ Z.En.ob p (.tup us) ∈ L ∧ Z.Al2 (StrV cS S L) us R ∧ Can R ∧ (∀ r ∈ R, OkR S.length r) ∧ ∀ H', Z.Fx H' L → Q (.bl true) H'
theorem fn__law_is_list (T : Txt K mg c_BadStretch c_Stretch c_ONE) {f : Addr} {fd : FuncData} (F : Fun K "_law_is_list" "_law_is_list" s__law_is_list f fd) : FnOk P w K mg base CX0 3 f fd ["_law_told"] (sp__law_is_list K c_Stretch) := by
  have O__law_cmp := ok__law_cmp (P := P) (w := w) (base := base) T
  have O__law_is_ratio := ok__law_is_ratio (P := P) (w := w) (base := base) T
  refine F.ok sc__law_is_list (fun vs H Q E h => ?_) (fun cdv A outer s H vs Q E hr h => ?_)
  · obtain ⟨a, rfl, _⟩ := h; rfl
  · obtain ⟨a, rfl, h⟩ := h
    refine ⟨_, (pss_cons (ps_if (pt_not (Z.pt_truN (pe_callB Z.zIsi (by rfl) T.b_isinstance (by decide +kernel) (pa_cons (pv 0) (pa_cons (pe_bltn (by rfl) T.b_tuple (by decide +kernel) (show RelV (.ty "tuple") _ from rfl)) pa_nil)))))
        (pss_one (ps_ret pe_bl))
        pss_nil)
      (pss_cons (ps_set (i := 1) sc__law_is_list.nd rfl (by first | exact Or.inl rfl | exact Or.inr rfl) pe_non)
      (pss_cons (ps_for PassesOwn.never (by rfl) (Z.pi_seq (pv 0)) (pg_name (i := 2) sc__law_is_list.nd rfl (by first | exact Or.inl rfl | exact Or.inr rfl))
        (pss_cons (ps_if (PW.pt (pw_or (pt_not (Z.pt_truN (pe_callB Z.zIsi (by rfl) T.b_isinstance (by decide +kernel) (pa_cons (pv 2) (pa_cons (pe_glob (v := V.ref c_Stretch) (by rfl) T.g_Stretch (show RelV (V.ref _) _ from rfl)) pa_nil))))) (pw_or (pt_not (Z.pt_truN (Z.pe_callO O__law_is_ratio (by rfl) (hr.mono (by decide)) pass0 (pa_cons (pe_fld (pv 2) rfl) pa_nil)))) (pw_or1 (pt_cmpR Z.zLt (Z.pe_callO O__law_cmp (by rfl) (hr.mono (by decide)) pass0 (pa_cons (pe_fld (pv 2) rfl) (pa_cons (pe_tup (pa_cons pe_int (pa_cons pe_int pa_nil))) pa_nil))) pe_int (nomark _))))))
          (pss_one (ps_ret pe_bl))
          pss_nil)
        (pss_cons (ps_if (pt_cmpR Z.zIsNot (pe_fld (pv 2) rfl) pe_non (nomark _))
          (pss_one (ps_if (PW.pt (pw_or (pt_not (Z.pt_truN (Z.pe_callO O__law_is_ratio (by rfl) (hr.mono (by decide)) pass0 (pa_cons (pe_fld (pv 2) rfl) pa_nil)))) (pw_or (pt_cmpR Z.zLt (Z.pe_callO O__law_cmp (by rfl) (hr.mono (by decide)) pass0 (pa_cons (pe_fld (pv 2) rfl) (pa_cons (pe_fld (pv 2) rfl) pa_nil))) pe_int (nomark _)) (pw_or1 (pt_cmpR (Z.zEq (Z.hu0 hr)) (pe_fld (pv 2) rfl) (pe_tup (pa_cons pe_int (pa_cons pe_int pa_nil))) (nomark _))))))
            (pss_one (ps_ret pe_bl))
            pss_nil))
          pss_nil)
        (pss_cons (ps_if (PW.pt (pw_and (pt_cmpR Z.zIsNot (pv 1) pe_non (nomark _)) (pw_and1 (PW.pt (pw_or (pt_cmpR Z.zIs (pe_fld (pv 1) rfl) pe_non (nomark _)) (pw_or1 (pt_cmpR Z.zGe (Z.pe_callO O__law_cmp (by rfl) (hr.mono (by decide)) pass0 (pa_cons (pe_fld (pv 1) rfl) (pa_cons (pe_fld (pv 2) rfl) pa_nil))) pe_int (nomark _))))))))
          (pss_one (ps_ret pe_bl))
          pss_nil)
        (pss_one (ps_set (i := 1) sc__law_is_list.nd rfl (by first | exact Or.inl rfl | exact Or.inr rfl) (pv 2)))))))
      (pss_one (ps_ret pe_bl))))), ?_⟩
    try dsimp only [cxOf, Cx.nox, Cx.wish]
    refine Z.at_start (σ' := [some a, none, none]) rfl ?_
    obtain ⟨L, S, p, us, R, rfl, F, s, mp, al, cR, ok, k⟩ := h
    have hcl := T.i_Stretch.cl
    have h0 : (0 : Nat) < S.length := by have := s.len; omega
    walk_at "z"
    refine Z.wIsiTuple (.tup (F.tup mp)) ?_
    walk_at "z"
    refine Z.wForW (walk_tup (K := K) (xs := us)) (fun i σ H' => ∃ (v1 : V) (v2 : Option V), σ = [some (.ref p), some v1, v2] ∧ Z.Fx H' L ∧ (i = 0 → v1 = .non) ∧ ∀ j, i = j + 1 → us[j]? = some v1) ⟨_, none, rfl, F, fun _ => rfl, fun j e => nomatch e⟩ ?_ ?_ ?_
    · rintro i σ H' _ ⟨v1, v2, rfl, F', _⟩
      exact F'.tup mp
    · rintro i x σ H1 H' hi ⟨v1, v2, rfl, F', hv0, hv1⟩ ⟨rfl, hx⟩
      obtain ⟨r, hr, p2, dx, x2, y2, rfl, m2, hx2, hy2⟩ := al.getL hx
      obtain ⟨r1, r2, r3, r4, r5, r6⟩ := ok r (List.mem_of_getElem? hr)
      obtain ⟨h2l, p3, rfl, m3⟩ := id hx2
      walk_at "y"
      refine Z.wMidS (fun σ' H' => σ' = [some (.ref p), some v1, some (.ref p2)] ∧ Z.Fx H' L) (fun N hk => ?_) ?_
      · walk_at "z"
        refine Z.wIsiOwn T.i_Stretch (F'.get m2) ?_
        walk_at "z"
        refine Z.wFldAt F' m2 hcl T.n_Stretch_low (str_low _ _) ?_
        walk_at "z"
        refine use__law_is_ratio F' hx2.tup (pos_sz s h2l) ?_
        rw [pos_rt s h2l]
        walk_at "z"
        refine Z.wFldAt F' m2 hcl T.n_Stretch_low (str_low _ _) ?_
        walk_at "z"
        rename_i q7 H7 F7
        refine use_lcmpP F7 s (hx2.mono fun _ m => .tail _ m) (one_pos s (L := .ob q7 (.tup [.int 1, .int 1]) :: L) (.head _)) ?_
        have F8 := F7.sub (L' := L) (.cons _ (.refl _))
        walk_at "z"
        rw [decide_eq_false (by rw [sg_neg]; omega)]
        walk_at "z"
        exact hk _ _ ⟨rfl, F8⟩
      rintro _ H8 ⟨rfl, F8⟩
      walk_at "y"
      refine Z.wMidS (fun σ' H' => σ' = [some (.ref p), some v1, some (.ref p2)] ∧ Z.Fx H' L) (fun N hk => ?_) ?_
      · walk_at "z"
        refine Z.wFldAt F8 m2 hcl T.n_Stretch_high (str_high _ _) ?_
        rcases hy2 with ⟨e, rfl⟩ | hy2
        · walk_at "z"
          exact hk _ _ ⟨rfl, F8⟩
        · obtain ⟨hj, p5, rfl, m5⟩ := id hy2
          walk_at "z"
          refine Z.wFldAt F8 m2 hcl T.n_Stretch_high (str_high _ _) ?_
          walk_at "z"
          refine use__law_is_ratio F8 hy2.tup (pos_sz s hj) ?_
          rw [pos_rt s hj]
          walk_at "z"
          refine Z.wFldAt F8 m2 hcl T.n_Stretch_high (str_high _ _) ?_
          walk_at "z"
          refine Z.wFldAt F8 m2 hcl T.n_Stretch_low (str_low _ _) ?_
          walk_at "z"
          refine use_lcmpP F8 s hy2 hx2 ?_
          walk_at "z"
          rw [decide_eq_false (by rw [sg_neg]; omega)]
          walk_at "z"
          refine Z.wFldAt F8 m2 hcl T.n_Stretch_high (str_high _ _) ?_
          walk_at "z"
          rename_i q7 H7 F7
          refine Z.wEqTT (ns := [(plc S r.2).1, (plc S r.2).2]) (ms := [1, 1]) (F7.tup (.tail _ m5)) (F7.tup (.head _)) ?_
          rw [decide_eq_decide.mpr (pos_one s hj), decide_eq_false (show ¬ r.2 = 0 by omega)]
          have F9 := F7.sub (L' := L) (.cons _ (.refl _))
          walk_at "z"
          exact hk _ _ ⟨rfl, F9⟩
      clear F8
      rintro _ H8 ⟨rfl, F8⟩
      rcases i with _ | i
      · obtain rfl := hv0 rfl
        walk_at "z"
        exact ⟨_, _, rfl, F8, (fun e => nomatch e), fun j e => by cases e; exact hx⟩
      · have hpr := hv1 i rfl
        obtain ⟨t, ht, p6, dx6, x6, y6, rfl, m6, hx6, hy6⟩ := al.getL hpr
        have htr : t.2 < r.1 := by
          have hi1 := (List.getElem?_eq_some_iff.mp ht)
          have hi2 := (List.getElem?_eq_some_iff.mp hr)
          have := List.pairwise_iff_getElem.mp cR i (i + 1) hi1.1 hi2.1 (by omega)
          rw [hi1.2, hi2.2] at this
          exact this
        rcases hy6 with ⟨e, rfl⟩ | hy6
        · omega
        obtain ⟨hj, p5, rfl, m5⟩ := id hy6
        walk_at "z"
        refine Z.wFldAt F8 m6 hcl T.n_Stretch_high (str_high _ _) ?_
        walk_at "z"
        refine Z.wFldAt F8 m6 hcl T.n_Stretch_high (str_high _ _) ?_
        walk_at "z"
        refine Z.wFldAt F8 m2 hcl T.n_Stretch_low (str_low _ _) ?_
        walk_at "z"
        refine use_lcmpP F8 s hy6 hx2 ?_
        walk_at "z"
        rw [decide_eq_false (by rw [sg_nn]; omega)]
        walk_at "z"
        exact ⟨_, _, rfl, F8, (fun e => nomatch e), fun j e => by cases e; exact hx⟩
    · rintro σ H' ⟨v1, v2, rfl, F', _⟩
      walk_at "z"
      exact k _ F'
theorem ok__law_is_list (T : Txt K mg c_BadStretch c_Stretch c_ONE) : Z.Ok CX0 P w K mg base "_law_is_list" 3 ["_law_told"] [] (sp__law_is_list K c_Stretch) := by
  obtain ⟨f, fd, F, g⟩ := T.d__law_is_list
  exact Z.mkOk F g (F.binds (ps := ["_law_told"]) fun _ _ _ _ _ _ us hl => match us, hl with | [_], _ => rfl) (fn__law_is_list T F)
theorem use__law_is_list {cS : Addr} {H : Hp} {Q : VK} {E : XK} {L : List Z.En} {S : List (Int × Int)} {p : Addr} {us : List V} {R : List (Nat × Nat)} (F : Z.Fx H L) (s : Scale S) (mp : Z.En.ob p (.tup us) ∈ L) (al : Z.Al2 (StrV cS S L) us R) (cR : Can R) (ok : ∀ r ∈ R, OkR S.length r) (k : ∀ H', Z.Fx H' L → Q (.bl true) H') : sp__law_is_list K cS [.ref p] H Q E := ⟨_, rfl, L, S, p, us, R, rfl, F, s, mp, al, cR, ok, k⟩
theorem sc_Stretch___eq__ : FnScope ["self", "other"] ["self", "other"] (defScope s_Stretch___eq__) := ⟨rfl, rfl, rfl, by decide +kernel, rfl, by decide +kernel, by decide +kernel⟩
/-- an end as data -/
def hiD (S : List (Int × Int)) (j : Nat) : PyData := if j = S.length then .none else .tuple [.int (plc S j).1, .int (plc S j).2]
theorem HiV.dt {S : List (Int × Int)} {L : List Z.En} {v : V} {j : Nat} (h : HiV S L v j) : Z.Dt L v (hiD S j) := by
  unfold hiD
  rcases h with ⟨rfl, rfl⟩ | ⟨hj, p, rfl, m⟩
  · rw [if_pos rfl]; exact .non
  · rw [if_neg (by omega)]
    exact .tup m (.cons (.int _) (.cons (.int _) .nil))
theorem PosV.dt {S : List (Int × Int)} {L : List Z.En} {v : V} {j : Nat} (h : PosV S L v j) : Z.Dt L v (hiD S j) := HiV.dt (.inr h)
theorem hiD_sh (S : List (Int × Int)) (j : Nat) : Z.Sh (hiD S j) 1 := by
  unfold hiD
  split
  · exact ⟨rfl, Nat.zero_le _⟩
  · exact Z.Sh.tup (n := 0) (Z.ShA.cons (n := 0) (m := 0) (.int _) (Z.ShA.cons (n := 0) (m := 0) (.int _) .nil))
theorem hiD_eqv {S : List (Int × Int)} (s : Scale S) {i j : Nat} (hi : i ≤ S.length) (hj : j ≤ S.length) : PyData.eqv (hiD S i) (hiD S j) = decide (i = j) := by
  unfold hiD
  by_cases h : i = S.length <;> by_cases h2 : j = S.length
  · rw [if_pos h, if_pos h2, decide_eq_true (h.trans h2.symm)]; rfl
  · rw [if_pos h, if_neg h2, decide_eq_false (by omega)]; rfl
  · rw [if_neg h, if_pos h2, decide_eq_false (by omega)]; rfl
  · rw [if_neg h, if_neg h2]
    show ((plc S i).1 == (plc S j).1 && ((plc S i).2 == (plc S j).2 && true)) = _
    rw [Bool.eq_iff_iff, Bool.and_true, Bool.and_eq_true, beq_iff_eq, beq_iff_eq, decide_eq_true_eq]
    exact ⟨fun h => s.inj (by omega) (by omega) (Prod.ext h.1 h.2), fun h => by rw [h]; exact ⟨rfl, rfl⟩⟩
def sp_Stretch___eq__ (K : PySem.W.Frag) (cS : Addr) : Sp := Z.Sp2 fun a b H Q E => ∃ (L : List Z.En) (S : List (Int × Int)) (r : Nat × Nat), Z.Fx H L ∧ Scale S ∧ StrV cS S L a r ∧
  ((∃ t, StrV cS S L b t ∧ Q (.bl (decide (r = t))) H) ∨ ∃ p xs, b = .ref p ∧ Z.En.ob p (.tup xs) ∈ L ∧ Q (.bl false) H)
theorem fn_Stretch___eq__ (T : Txt K mg c_BadStretch c_Stretch c_ONE) {f : Addr} {fd : FuncData} (F : Fun K "__eq__" "Stretch.__eq__" s_Stretch___eq__ f fd) : FnOk P w K mg base CX0 1 f fd ["self", "other"] (sp_Stretch___eq__ K c_Stretch) := by
  refine F.ok sc_Stretch___eq__ (fun vs H Q E h => ?_) (fun cdv A outer s H vs Q E hr h => ?_)
  · obtain ⟨a, b, rfl, _⟩ := h; rfl
  · obtain ⟨a, b, rfl, h⟩ := h
    refine ⟨_, (pss_one (ps_ret (pe_andT (pe_callB Z.zIsi (by rfl) T.b_isinstance (by decide +kernel) (pa_cons (pv 1) (pa_cons (pe_glob (v := V.ref c_Stretch) (by rfl) T.g_Stretch (show RelV (V.ref _) _ from rfl)) pa_nil))) (pe_andT (pe_cmpR (Z.zEq (Z.hu0 hr)) (pe_fld (pv 0) rfl) (pe_fld (pv 1) rfl) (nomark _)) (pe_one (pe_cmpR (Z.zEq (Z.hu0 hr)) (pe_fld (pv 0) rfl) (pe_fld (pv 1) rfl) (nomark _))))))), ?_⟩
    try dsimp only [cxOf, Cx.nox, Cx.wish]
    refine Z.at_start (σ' := [some a, some b]) rfl ?_
    obtain ⟨L, S, r, F, s, ⟨p, dx, x, y, rfl, m, hx, hy⟩, h⟩ := h
    have hcl := T.i_Stretch.cl
    rcases h with ⟨t, ⟨p', dx', x', y', rfl, m', hx', hy'⟩, q⟩ | ⟨p', xs, rfl, mp, q⟩
    · have e : decide (r = t) = (decide (r.1 = t.1) && decide (r.2 = t.2)) := by
        rw [Bool.eq_iff_iff, Bool.and_eq_true, decide_eq_true_eq, decide_eq_true_eq, decide_eq_true_eq]
        exact ⟨fun h => by rw [h]; exact ⟨rfl, rfl⟩, fun h => Prod.ext h.1 h.2⟩
      rw [e] at q
      walk_at "z"
      refine Z.wIsiOwn T.i_Stretch (F.get m') ?_
      walk_at "z"
      refine Z.wFldAt F m hcl T.n_Stretch_low (str_low _ _) ?_
      walk_at "z"
      refine Z.wFldAt F m' hcl T.n_Stretch_low (str_low _ _) ?_
      refine Z.wEqD F hx.dt hx'.dt (hiD_sh _ _).ok (hiD_sh _ _).ok ?_
      rw [hiD_eqv s (Nat.le_of_lt hx.1) (Nat.le_of_lt hx'.1)]
      walk_at "z"
      refine Z.wIfD (fun h => ?_) (fun h => ?_)
      · rw [decide_eq_true h, Bool.true_and] at q
        walk_at "z"
        refine Z.wFldAt F m hcl T.n_Stretch_high (str_high _ _) ?_
        walk_at "z"
        refine Z.wFldAt F m' hcl T.n_Stretch_high (str_high _ _) ?_
        refine Z.wEqD F hy.dt hy'.dt (hiD_sh _ _).ok (hiD_sh _ _).ok ?_
        rw [hiD_eqv s hy.lt hy'.lt]
        exact q
      · rw [decide_eq_false h, Bool.false_and] at q
        rw [decide_eq_false h]
        exact q
    · walk_at "z"
      refine Z.wIsiTupOwn T.i_Stretch (F.tup mp) ?_
      walk_at "z"
      exact q
theorem ok_Stretch___eq__ (T : Txt K mg c_BadStretch c_Stretch c_ONE) : Z.EqO P w K mg base c_Stretch 1 ["self", "other"] (sp_Stretch___eq__ K c_Stretch) := by
  obtain ⟨f, fd, F, i⟩ := T.d_Stretch___eq__
  exact ⟨f, fd, i, (F.binds (ps := ["self", "other"]) fun _ _ _ _ _ _ us hl => match us, hl with | [_, _], _ => rfl), fn_Stretch___eq__ T F⟩
theorem eq_str {cS : Addr} {H : Hp} {L : List Z.En} {S : List (Int × Int)} {a b : V} {r t : Nat × Nat} {g : Bool → Bool} {QB : V → Hp → Prop} (c : Z.InsF K cS) (F : Z.Fx H L) (s : Scale S) (ha : StrV cS S L a r) (hb : StrV cS S L b t) (h : QB (.bl (g (decide (r = t)))) H) : Z.rOwn K cS (sp_Stretch___eq__ K cS) g a b H QB := by
  obtain ⟨p, dx, x, y, rfl, m, _⟩ := id ha
  obtain ⟨p', dx', x', y', rfl, m', _⟩ := id hb
  exact ⟨p, dx, _, .ref cS, rfl, F.get m, c.ty (F.get m'), c.nf, _, _, rfl, L, S, r, F, s, ha, .inl ⟨t, hb, _, rfl, h⟩⟩
theorem eq_strT {cS : Addr} {H : Hp} {L : List Z.En} {S : List (Int × Int)} {a : V} {p : Addr} {xs : List V} {r : Nat × Nat} {g : Bool → Bool} {QB : V → Hp → Prop} (c : Z.InsF K cS) (F : Z.Fx H L) (s : Scale S) (ha : StrV cS S L a r) (mp : Z.En.ob p (.tup xs) ∈ L) (h : QB (.bl (g false)) H) : Z.rOwn K cS (sp_Stretch___eq__ K cS) g a (.ref p) H QB := by
  obtain ⟨p1, dx, x, y, rfl, m, _⟩ := id ha
  exact ⟨p1, dx, _, .type "tuple", rfl, F.get m, (Z.HasK.tup (F.tup mp)).tyx, c.nft, _, _, rfl, L, S, r, F, s, ha, .inr ⟨p, xs, rfl, mp, _, rfl, h⟩⟩
theorem sc__law_ends_in : FnScope ["_law_told", "_law_borders", "_law_row"] ["_law_told", "_law_borders"] (defScope s__law_ends_in) := ⟨rfl, rfl, rfl, by decide +kernel, rfl, by decide +kernel, by decide +kernel⟩
theorem dtA_of {L : List Z.En} : ∀ (us : List V) (ds : List PyData), us.length = ds.length → (∀ (i : Nat) (v : V) (d : PyData), us[i]? = some v → ds[i]? = some d → Z.Dt L v d) → Z.DtA L us ds
  | [], [], _, _ => .nil
  | [], _ :: _, h,
        _ => by simp at h
  | _ :: _, [], h,
        _ => by simp at h
  | u :: us, d :: ds, h, k => .cons (k 0 u d rfl rfl) (dtA_of us ds (by simpa using h) fun i v e h1 h2 => k (i + 1) v e (by simpa using h1) (by simpa using h2))
/-- the ends as data -/
def endsD (S : List (Int × Int)) (n : Nat) : List PyData := (List.range n).map fun i => hiD S (2 * i)
theorem EndsAt.dt {S : List (Int × Int)} {L : List Z.En} {us : List V} (h : EndsAt S L us) : Z.DtA L us (endsD S us.length) := by
  refine dtA_of _ _ (by simp [endsD]) fun i v d h1 h2 => ?_
  have hi := (List.getElem?_eq_some_iff.mp h1).1
  have e : (endsD S us.length)[i]? = some (hiD S (2 * i)) := by unfold endsD; rw [List.getElem?_map, List.getElem?_range hi]; rfl
  rw [e] at h2
  cases h2
  exact (h.2.2.2 i v h1).dt
theorem endsD_sh (S : List (Int × Int)) (n : Nat) : SeqAt.shaped (.list (endsD S n)) = true := (Z.Sh.lst (Z.ShA.map (n := 1) fun i _ => hiD_sh S (2 * i))).ok
theorem endsD_any {S : List (Int × Int)} {n j : Nat} (s : Scale S) (hn : S.length = 2 * n) (hj : j < S.length) (he : j % 2 = 0) : ((endsD S n).any fun z => PyData.eqv z (hiD S j)) = true := by
  refine List.any_eq_true.mpr ⟨hiD S (2 * (j / 2)), List.mem_map_of_mem (List.mem_range.mpr (by omega)), ?_⟩
  rw [hiD_eqv s (by omega) (by omega), decide_eq_true_eq]
  omega
def sp__law_ends_in (K : PySem.W.Frag) (cS : Addr) : Sp := Z.Sp2 fun a b H Q E => ∃ (L : List Z.En) (S : List (Int × Int)) (p q : Addr) (us bs : List V) (R : List (Nat × Nat)), a = .ref p ∧ b = .ref q ∧ Z.Fx H L ∧ Scale S ∧ Z.En.ob p (.tup us) ∈ L ∧ Z.Al2 (StrV cS S L) us R ∧ (∀ r ∈ R, OkR S.length r) ∧ Z.En.ob q (.lst bs) ∈ L ∧ EndsAt S L bs ∧ ∀ H', Z.Fx H' L → Q (.bl true) H'
theorem fn__law_ends_in (T : Txt K mg c_BadStretch c_Stretch c_ONE) {f : Addr} {fd : FuncData} (F : Fun K "_law_ends_in" "_law_ends_in" s__law_ends_in f fd) : FnOk P w K mg base CX0 1 f fd ["_law_told", "_law_borders"] (sp__law_ends_in K c_Stretch) := by
  refine F.ok sc__law_ends_in (fun vs H Q E h => ?_) (fun cdv A outer s H vs Q E hr h => ?_)
  · obtain ⟨a, b, rfl, _⟩ := h; rfl
  · obtain ⟨a, b, rfl, h⟩ := h
    refine ⟨_, (pss_cons (ps_for PassesOwn.never (by rfl) (Z.pi_seq (pv 0)) (pg_name (i := 2) sc__law_ends_in.nd rfl (by first | exact Or.inl rfl | exact Or.inr rfl))
        (pss_cons (ps_if (PW.pt (pw_and (pt_cmpR (Z.zNe (Z.hu0 hr)) (pe_fld (pv 2) rfl) (pe_tup (pa_cons pe_int (pa_cons pe_int pa_nil))) (nomark _)) (pw_and1 (pt_cmpR (L2.op_notInD (Z.hu65 hr)) (pe_fld (pv 2) rfl) (pv 1) (by rfl)))))
          (pss_one (ps_ret pe_bl))
          pss_nil)
        (pss_one (ps_if (PW.pt (pw_and (pt_cmpR Z.zIsNot (pe_fld (pv 2) rfl) pe_non (nomark _)) (pw_and1 (pt_cmpR (L2.op_notInD (Z.hu65 hr)) (pe_fld (pv 2) rfl) (pv 1) (by rfl)))))
          (pss_one (ps_ret pe_bl))
          pss_nil))))
      (pss_one (ps_ret
            pe_bl))), ?_⟩
    try dsimp only [cxOf, Cx.nox, Cx.wish]
    refine Z.at_start (σ' := [some a, some b, none]) rfl ?_
    obtain ⟨L, S, p, q, us, bs, R, rfl, rfl, F, s, mp, al, ok, mq, eb, k⟩ := h
    have hcl := T.i_Stretch.cl
    walk_at "z"
    refine Z.wForW (walk_tup (K := K) (xs := us)) (fun i σ H' => ∃ (v2 : Option V), σ = [some (.ref p), some (.ref q), v2] ∧ Z.Fx H' L) ⟨none, rfl, F⟩ ?_ ?_ ?_
    · rintro i σ H' _ ⟨v2, rfl, F'⟩
      exact F'.tup mp
    · rintro i x σ H1 H' _ ⟨v2, rfl, F'⟩ ⟨rfl, hx⟩
      obtain ⟨r, hr, p2, dx, x2, y2, rfl, m2, hx2, hy2⟩ := al.getL hx
      obtain ⟨r1, r2, r3, r4, r5, r6⟩ := ok r (List.mem_of_getElem? hr)
      obtain ⟨h2l, p3, rfl, m3⟩ := id hx2
      walk_at "y"
      refine Z.wMidS (fun σ' H' => σ' = [some (.ref p), some (.ref q), some (.ref p2)] ∧ Z.Fx H' L) (fun N hk => ?_) ?_
      · walk_at "z"
        refine Z.wFldAt F' m2 hcl T.n_Stretch_low (str_low _ _) ?_
        walk_at "z"
        rename_i q7 H7 F7
        refine Z.wNeTT (ns := [(plc S r.1).1, (plc S r.1).2]) (ms := [1, 1]) (F7.tup (.tail _ m3)) (F7.tup (.head _)) ?_
        have F8 := F7.sub (L' := L) (.cons _ (.refl _))
        walk_at "z"
        refine Z.wIfND (fun h3 => ?_) (fun h3 => ?_)
        · walk_at "z"
          refine Z.wFldAt F8 m2 hcl T.n_Stretch_low (str_low _ _) ?_
          walk_at "z"
          refine Z.wNotInDt F8 hx2.dt (.lst mq eb.dt) (hiD_sh _ _).ok (endsD_sh _ _) ?_
          rw [endsD_any s eb.1 h2l r5]
          walk_at "z"
          exact hk _ _ ⟨rfl, F8⟩
        · walk_at "z"
          exact hk _ _ ⟨rfl, F8⟩
      · rintro _ H8 ⟨rfl, F8⟩
        walk_at "z"
        refine Z.wFldAt F8 m2 hcl T.n_Stretch_high (str_high _ _) ?_
        rcases hy2 with ⟨e, rfl⟩ | hy2
        · walk_at "z"
          exact ⟨_, rfl, F8⟩
        · obtain ⟨hj, p5, rfl, m5⟩ := id hy2
          walk_at "z"
          refine Z.wFldAt F8 m2 hcl T.n_Stretch_high (str_high _ _) ?_
          walk_at "z"
          refine Z.wNotInDt F8 hy2.dt (.lst mq eb.dt) (hiD_sh _ _).ok (endsD_sh _ _) ?_
          rw [endsD_any s eb.1 hj r6]
          walk_at "z"
          exact ⟨_, rfl, F8⟩
    · rintro σ H' ⟨v2, rfl, F'⟩
      walk_at "z"
      exact k _ F'
theorem ok__law_ends_in (T : Txt K mg c_BadStretch c_Stretch c_ONE) : Z.Ok CX0 P w K mg base "_law_ends_in" 1 ["_law_told", "_law_borders"] [] (sp__law_ends_in K c_Stretch) := by
  obtain ⟨f, fd, F, g⟩ := T.d__law_ends_in
  exact Z.mkOk F g (F.binds (ps := ["_law_told", "_law_borders"]) fun _ _ _ _ _ _ us hl => match us, hl with | [_, _], _ => rfl) (fn__law_ends_in T F)
theorem use__law_ends_in {cS : Addr} {H : Hp} {Q : VK} {E : XK} {L : List Z.En} {S : List (Int × Int)} {p q : Addr} {us bs : List V} {R : List (Nat × Nat)} (F : Z.Fx H L) (s : Scale S) (mp : Z.En.ob p (.tup us) ∈ L) (al : Z.Al2 (StrV cS S L) us R) (ok : ∀ r ∈ R, OkR S.length r) (mq : Z.En.ob q (.lst bs) ∈ L) (eb : EndsAt S L bs) (k : ∀ H', Z.Fx H' L → Q (.bl true) H') : sp__law_ends_in K cS [.ref p, .ref q] H Q E := ⟨_, _, rfl, L, S, p, q, us, bs, R, rfl, rfl, F, s, mp, al, ok, mq, eb, k⟩
theorem sc__law_in : FnScope ["_law_rows", "_law_ratio_here", "_law_low", "_law_high"] ["_law_rows", "_law_ratio_here"] (defScope s__law_in) := ⟨rfl, rfl, rfl, by decide +kernel, rfl, by decide +kernel, by decide +kernel⟩
def sp__law_in (K : PySem.W.Frag) : Sp := Z.Sp2 fun a b H Q E => ∃ (L : List Z.En) (S : List (Int × Int)) (p : Addr) (fv : List V) (R : List (Nat × Nat)), a = .ref p ∧ Z.Fx H L ∧ Scale S ∧ Z.En.ob p (.lst fv) ∈ L ∧ Z.Al2 (CouV S L) fv R ∧
  ((∃ q, PosV S L b q ∧ ∀ H', Z.Fx H' L → Q (.bl (R.any fun r => inRow r q)) H') ∨ ∃ c d, Z.Rt K L b c d ∧ Sz 1900 c ∧ Sz 1900 d ∧ cmpI c d 1 1 ≤ 0 ∧ ∀ H', Z.Fx H' L → Q (.bl false) H')
theorem fn__law_in (T : Txt K mg c_BadStretch c_Stretch c_ONE) {f : Addr} {fd : FuncData} (F : Fun K "_law_in" "_law_in" s__law_in f fd) : FnOk P w K mg base CX0 2 f fd ["_law_rows", "_law_ratio_here"] (sp__law_in K) := by
  have O__law_cmp := ok__law_cmp (P := P) (w := w) (base := base) T
  refine F.ok sc__law_in (fun vs H Q E h => ?_) (fun cdv A outer s H vs Q E hr h => ?_)
  · obtain ⟨a, b, rfl, _⟩ := h; rfl
  · obtain ⟨a, b, rfl, h⟩ := h
    refine ⟨_, (pss_cons (ps_if (pt_cmpR Z.zLe (Z.pe_callO O__law_cmp (by rfl) (hr.mono (by decide)) pass0 (pa_cons (pv 1) (pa_cons (pe_tup (pa_cons pe_int (pa_cons pe_int pa_nil))) pa_nil))) pe_int (nomark _))
        (pss_one (ps_ret pe_bl))
        pss_nil)
      (pss_cons (ps_for PassesOwn.never (by rfl) (Z.pi_seq (pv 0)) (pg_tup (by rfl) (pgs_cons (pg_name (i := 2) sc__law_in.nd rfl (by first | exact Or.inl rfl | exact Or.inr rfl)) (pgs_cons (pg_name (i := 3) sc__law_in.nd rfl (by first | exact Or.inl rfl | exact Or.inr rfl)) pgs_nil)))
        (pss_one (ps_if (PW.pt (pw_and (pt_cmpR Z.zLe (Z.pe_callO O__law_cmp (by rfl) (hr.mono (by decide)) pass0 (pa_cons (pv 2) (pa_cons (pv 1) pa_nil))) pe_int (nomark _)) (pw_and1 (PW.pt (pw_or (pt_cmpR Z.zIs (pv 3) pe_non (nomark _)) (pw_or1 (pt_cmpR Z.zLe (Z.pe_callO O__law_cmp (by rfl) (hr.mono (by decide)) pass0 (pa_cons (pv 1) (pa_cons (pv 3) pa_nil))) pe_int (nomark _))))))))
          (pss_one (ps_ret pe_bl))
          pss_nil)))
      (pss_one (ps_ret
            pe_bl)))), ?_⟩
    try dsimp only [cxOf, Cx.nox, Cx.wish]
    refine Z.at_start (σ' := [some a, some b, none, none]) rfl ?_
    obtain ⟨L, S, p, fv, R, rfl, F, s, mp, al, hq⟩ := h
    have la := al.len
    have h0 : (0 : Nat) < S.length := by have := s.len; omega
    rcases hq with ⟨q, hb, k⟩ | ⟨c, d, hb, sc, sd, hle, k⟩
    · walk_at "z"
      rename_i op H1 F1
      have ho := one_pos s (L := .ob op (.tup [.int 1, .int 1]) :: L) (.head _)
      refine use_lcmpP F1 s (hb.mono fun _ m => .tail _ m) ho ?_
      walk_at "z"
      refine Z.wIfD (fun h => ?_) (fun h => ?_)
      · rw [sg_le] at h
        have e : (R.any fun r => inRow r q) = false := by
          rw [Bool.eq_false_iff]
          intro h2
          obtain ⟨r, _, h3⟩ := List.any_eq_true.mp h2
          unfold inRow at h3
          rw [decide_eq_false (show ¬ 1 ≤ q by omega)] at h3
          cases h3
        rw [e] at k
        walk_at "z"
        exact k _ (F1.sub (.cons _ (.refl _)))
      rw [sg_le] at h
      have F2 := F1.sub (L' := L) (.cons _ (.refl _))
      clear F1 ho F
      walk_at "z"
      refine Z.wForLi F2 mp (fun i σ H' => ∃ (v2 v3 : Option V), σ = [some (.ref p), some b, v2, v3] ∧ Z.Fx H' L ∧ ((R.take i).any fun r => inRow r q) = false) ⟨none, none, rfl, F2, rfl⟩ ?_ ?_ ?_
      · rintro i σ H' ⟨v2, v3, rfl, F', _⟩
        exact ⟨_, F', mp⟩
      · rintro i x σ H' hx ⟨v2, v3, rfl, F', hn⟩
        obtain ⟨r, hr, p2, x2, y2, rfl, m2, hx2, hy2⟩ := al.getL hx
        have hrm := List.mem_of_getElem? hr
        have yes : inRow r q = true → (R.any fun r => inRow r q) = true := fun h => List.any_eq_true.mpr ⟨r, hrm, h⟩
        have no : inRow r q = false → ((R.take (i + 1)).any fun r => inRow r q) = false := fun h => by
          rw [List.take_add_one, hr, List.any_append, hn]
          simp [h]
        have inr : inRow r q = (decide (r.1 ≤ q) && decide (q ≤ r.2)) := by unfold inRow; rw [decide_eq_true (show 1 ≤ q by omega), Bool.true_and]
        rw [inr] at yes no
        walk_at "z"
        refine use_lcmpP F' s hx2 hb ?_
        walk_at "z"
        refine Z.wIfD (fun h => ?_) (fun h => ?_)
        · rw [sg_le] at h
          rw [decide_eq_true h, Bool.true_and] at yes no
          rcases hy2 with ⟨e, rfl⟩ | hy2
          · walk_at "z"
            have kk := k _ F'
            rw [yes (decide_eq_true (by have := hb.1; omega))] at kk
            exact kk
          · obtain ⟨hj, p3, rfl, m3⟩ := id hy2
            walk_at "z"
            refine use_lcmpP F' s hb hy2 ?_
            walk_at "z"
            refine Z.wIfD (fun h2 => ?_) (fun h2 => ?_)
            · rw [sg_le] at h2
              walk_at "z"
              have kk := k _ F'
              rw [yes (decide_eq_true h2)] at kk
              exact kk
            · rw [sg_le] at h2
              walk_at "z"
              exact ⟨_, _, rfl, F', no (decide_eq_false h2)⟩
        · rw [sg_le] at h
          rw [decide_eq_false h, Bool.false_and] at no
          walk_at "z"
          exact ⟨_, _, rfl, F', no rfl⟩
      · rintro σ H' ⟨v2, v3, rfl, F', hn⟩
        rw [la, List.take_length] at hn
        rw [hn] at k
        walk_at "z"
        exact k _ F'
    · walk_at "z"
      rename_i op H1 F1
      refine use__law_cmp F1 (hb.mono fun _ m => .tail _ m) ⟨op, rfl, .inl (.head _)⟩ sc sd sz1 sz1 ?_
      walk_at "z"
      exact k _ (F1.sub (.cons _ (.refl _)))
theorem ok__law_in (T : Txt K mg c_BadStretch c_Stretch c_ONE) : Z.Ok CX0 P w K mg base "_law_in" 2 ["_law_rows", "_law_ratio_here"] [] (sp__law_in K) := by
  obtain ⟨f, fd, F, g⟩ := T.d__law_in
  exact Z.mkOk F g (F.binds (ps := ["_law_rows", "_law_ratio_here"]) fun _ _ _ _ _ _ us hl => match us, hl with | [_, _], _ => rfl) (fn__law_in T F)
theorem use__law_in {H : Hp} {Q : VK} {E : XK} {L : List Z.En} {S : List (Int × Int)} {b : V} {p : Addr} {fv : List V} {R : List (Nat × Nat)} {q : Nat} (F : Z.Fx H L) (s : Scale S) (mp : Z.En.ob p (.lst fv) ∈ L) (al : Z.Al2 (CouV S L) fv R) (hb : PosV S L b q) (k : ∀ H', Z.Fx H' L → Q (.bl (R.any fun r => inRow r q)) H') : sp__law_in K [.ref p, b] H Q E := ⟨_, _, rfl, L, S, p, fv, R, rfl, F, s, mp, al, .inl ⟨q, hb, k⟩⟩
theorem use__law_inR {H : Hp} {Q : VK} {E : XK} {L : List Z.En} {S : List (Int × Int)} {b : V} {p : Addr} {fv : List V} {R : List (Nat × Nat)} {c d : Int} (F : Z.Fx H L) (s : Scale S) (mp : Z.En.ob p (.lst fv) ∈ L) (al : Z.Al2 (CouV S L) fv R) (hb : Z.Rt K L b c d) (sc : Sz 1900 c) (sd : Sz 1900 d) (hle : cmpI c d 1 1 ≤ 0) (k : ∀ H', Z.Fx H' L → Q (.bl false) H') : sp__law_in K [.ref p, b] H Q E := ⟨_, _, rfl, L, S, p, fv, R, rfl, F, s, mp, al, .inr ⟨c, d, hb, sc, sd, hle, k⟩⟩
theorem sc__law_has : FnScope ["_law_told", "_law_ratio_here", "_law_row"] ["_law_told", "_law_ratio_here"] (defScope s__law_has) := ⟨rfl, rfl, rfl, by decide +kernel, rfl, by decide +kernel, by decide +kernel⟩
def sp__law_has (K : PySem.W.Frag) (cS : Addr) : Sp := Z.Sp2 fun a b H Q E => ∃ (L : List Z.En) (S : List (Int × Int)) (p : Addr) (us : List V) (R : List (Nat × Nat)) (q : Nat), a = .ref p ∧ Z.Fx H L ∧ Scale S ∧ Z.En.ob p (.tup us) ∈ L ∧ Z.Al2 (StrV cS S L) us R ∧ PosV S L b q ∧ ∀ H', Z.Fx H' L → Q (.bl (hasP R q)) H'
theorem fn__law_has (T : Txt K mg c_BadStretch c_Stretch c_ONE) {f : Addr} {fd : FuncData} (F : Fun K "_law_has" "_law_has" s__law_has f fd) : FnOk P w K mg base CX0 2 f fd ["_law_told", "_law_ratio_here"] (sp__law_has K c_Stretch) := by
  have O__law_cmp := ok__law_cmp (P := P) (w := w) (base := base) T
  refine F.ok sc__law_has (fun vs H Q E h => ?_) (fun cdv A outer s H vs Q E hr h => ?_)
  · obtain ⟨a, b, rfl, _⟩ := h; rfl
  · obtain ⟨a, b, rfl, h⟩ := h
    refine ⟨_, (pss_cons (ps_for PassesOwn.never (by rfl) (Z.pi_seq (pv 0)) (pg_name (i := 2) sc__law_has.nd rfl (by first | exact Or.inl rfl | exact Or.inr rfl))
        (pss_one (ps_if (PW.pt (pw_and (pt_cmpR Z.zLe (Z.pe_callO O__law_cmp (by rfl) (hr.mono (by decide)) pass0 (pa_cons (pe_fld (pv 2) rfl) (pa_cons (pv 1) pa_nil))) pe_int (nomark _)) (pw_and1 (PW.pt (pw_or (pt_cmpR Z.zIs (pe_fld (pv 2) rfl) pe_non (nomark _)) (pw_or1 (pt_cmpR Z.zLe (Z.pe_callO O__law_cmp (by rfl) (hr.mono (by decide)) pass0 (pa_cons (pv 1) (pa_cons (pe_fld (pv 2) rfl) pa_nil))) pe_int (nomark _))))))))
          (pss_one (ps_ret pe_bl))
          pss_nil)))
      (pss_one (ps_ret
            pe_bl))), ?_⟩
    try dsimp only [cxOf, Cx.nox, Cx.wish]
    refine Z.at_start (σ' := [some a, some b, none]) rfl ?_
    obtain ⟨L, S, p, us, R, q, rfl, F, s, mp, al, hb, k⟩ := h
    have la := al.len
    have hcl := T.i_Stretch.cl
    have walkT : SqT K H p us := F.tup mp
    walk_at "z"
    refine Z.wForW (walk_tup (K := K) (xs := us)) (fun i σ H' => ∃ (v2 : Option V), σ = [some (.ref p), some b, v2] ∧ Z.Fx H' L ∧ hasP (R.take i) q = false) ⟨none, rfl, F, rfl⟩ ?_ ?_ ?_
    · rintro i σ H' _ ⟨v2, rfl, F', _⟩
      exact F'.tup mp
    · rintro i x σ H1 H' _ ⟨v2, rfl, F', hn⟩ ⟨rfl, hx⟩
      obtain ⟨r, hr, p2, dx, x2, y2, rfl, m2, hx2, hy2⟩ := al.getL hx
      have hrm := List.mem_of_getElem? hr
      have yes : r.1 ≤ q → q ≤ r.2 → hasP R q = true := fun h h2 => hasP_iff.mpr ⟨r, hrm, h, h2⟩
      have no : ¬ (r.1 ≤ q ∧ q ≤ r.2) → hasP (R.take (i + 1)) q = false := fun h => by
        rw [List.take_add_one, hr, hasP_app, hn]
        show (false || hasP [r] q) = false
        rw [hasP_one, Bool.false_or, Bool.eq_false_iff]
        intro h2
        rw [Bool.and_eq_true, decide_eq_true_eq, decide_eq_true_eq] at h2
        exact h h2
      walk_at "z"
      refine Z.wFldAt F' m2 hcl T.n_Stretch_low (str_low _ _) ?_
      walk_at "z"
      refine use_lcmpP F' s hx2 hb ?_
      walk_at "z"
      refine Z.wIfD (fun h => ?_) (fun h => ?_)
      · rw [sg_le] at h
        walk_at "z"
        refine Z.wFldAt F' m2 hcl T.n_Stretch_high (str_high _ _) ?_
        rcases hy2 with ⟨e, rfl⟩ | hy2
        · walk_at "z"
          have kk := k _ F'
          rw [yes h (by have := hb.1; omega)] at kk
          exact kk
        · obtain ⟨hj, p3, rfl, m3⟩ := id hy2
          walk_at "z"
          refine Z.wFldAt F' m2 hcl T.n_Stretch_high (str_high _ _) ?_
          walk_at "z"
          refine use_lcmpP F' s hb hy2 ?_
          walk_at "z"
          refine Z.wIfD (fun h2 => ?_) (fun h2 => ?_)
          · rw [sg_le] at h2
            walk_at "z"
            have kk := k _ F'
            rw [yes h h2] at kk
            exact kk
          · rw [sg_le] at h2
            walk_at "z"
            exact ⟨_, rfl, F', no fun q => h2 q.2⟩
      · rw [sg_le] at h
        walk_at "z"
        exact ⟨_, rfl, F', no fun q => h q.1⟩
    · rintro σ H' ⟨v2, rfl, F', hn⟩
      rw [la, List.take_length] at hn
      rw [hn] at k
      walk_at "z"
      exact k _ F'
theorem ok__law_has (T : Txt K mg c_BadStretch c_Stretch c_ONE) : Z.Ok CX0 P w K mg base "_law_has" 2 ["_law_told", "_law_ratio_here"] [] (sp__law_has K c_Stretch) := by
  obtain ⟨f, fd, F, g⟩ := T.d__law_has
  exact Z.mkOk F g (F.binds (ps := ["_law_told", "_law_ratio_here"]) fun _ _ _ _ _ _ us hl => match us, hl with | [_, _], _ => rfl) (fn__law_has T F)
theorem use__law_has {cS : Addr} {H : Hp} {Q : VK} {E : XK} {L : List Z.En} {S : List (Int × Int)} {b : V} {p : Addr} {us : List V} {R : List (Nat × Nat)} {q : Nat} (F : Z.Fx H L) (s : Scale S) (mp : Z.En.ob p (.tup us) ∈ L) (al : Z.Al2 (StrV cS S L) us R) (hb : PosV S L b q) (k : ∀ H', Z.Fx H' L → Q (.bl (hasP R q)) H') : sp__law_has K cS [.ref p, b] H Q E := ⟨_, _, rfl, L, S, p, us, R, q, rfl, F, s, mp, al, hb, k⟩
theorem sc__law_is_made : FnScope ["_law_told", "_law_rows", "_law_points_here", "_law_ends_here", "_law_ratio_here", "_law_due"] ["_law_told", "_law_rows", "_law_points_here", "_law_ends_here"] (defScope s__law_is_made) := ⟨rfl, rfl, rfl, by decide +kernel, rfl, by decide +kernel, by decide +kernel⟩
/-- the points by their places -/
def PtsAt (S : List (Int × Int)) (L : List Z.En) (ps : List V) : Prop := ps.length + 1 = S.length ∧ ∀ (k : Nat) (v : V), ps[k]? = some v → PosV S L v (k + 1)
theorem PtsAt.mono {S : List (Int × Int)} {L L' : List Z.En} {us : List V} (h : PtsAt S L us) (s : ∀ e ∈ L, e ∈ L') : PtsAt S L' us := ⟨h.1, fun i v e => (h.2 i v e).mono s⟩
def wantR (w : Bool) (A B : List (Nat × Nat)) (q : Nat) : Bool := if w then hasP A q && hasP B q else hasP A q || hasP B q
def sp__law_is_made (K : PySem.W.Frag) (cS : Addr) : Sp := Z.Sp4 fun a b c d H Q E => ∃ (L : List Z.En) (S : List (Int × Int)) (p q t u f g : Addr) (us bs ps fa fb : List V) (R A B : List (Nat × Nat)) (w : Bool), a = .ref p ∧ b = .ref q ∧ c = .ref t ∧ d = .ref u ∧ Z.Fx H L ∧ Scale S ∧ Z.En.ob p (.tup us) ∈ L ∧ us.length ≤ 10000 ∧ Z.Al2 (StrV cS S L) us R ∧ Made S.length (wantR w A B) R ∧ Z.En.ob q (.lst [.ref f, .ref g, .bl w]) ∈ L ∧ Z.En.ob f (.lst fa) ∈ L ∧ Z.En.ob g (.lst fb) ∈ L ∧ Z.Al2 (CouV S L) fa A ∧ Z.Al2 (CouV S L) fb B ∧ Z.En.ob t (.lst ps) ∈ L ∧ PtsAt S L ps ∧ Z.En.ob u (.lst bs) ∈ L ∧ EndsAt S L bs ∧ ∀ H', Z.Fx H' L → Q (.bl true) H'
theorem fn__law_is_made (T : Txt K mg c_BadStretch c_Stretch c_ONE) {f : Addr} {fd : FuncData} (F : Fun K "_law_is_made" "_law_is_made" s__law_is_made f fd) : FnOk P w K mg base CX0 6 f fd ["_law_told", "_law_rows", "_law_points_here", "_law_ends_here"] (sp__law_is_made K c_Stretch) := by
  have O__law_ends_in := ok__law_ends_in (P := P) (w := w) (base := base) T
  have O__law_has := ok__law_has (P := P) (w := w) (base := base) T
  have O__law_in := ok__law_in (P := P) (w := w) (base := base) T
  have O__law_is_list := ok__law_is_list (P := P) (w := w) (base := base) T
  have O_is_in_stretches := ok_is_in_stretches (P := P) (w := w) (base := base) T
  refine F.ok sc__law_is_made (fun vs H Q E h => ?_) (fun cdv A outer s H vs Q E hr h => ?_)
  · obtain ⟨a, b, c, d, rfl, _⟩ := h; rfl
  · obtain ⟨a, b, c, d, rfl, h⟩ := h
    refine ⟨_, (pss_cons (ps_if (PW.pt (pw_or (pt_not (Z.pt_truN (Z.pe_callO O__law_is_list (by rfl) (hr.mono (by decide)) pass0 (pa_cons (pv 0) pa_nil)))) (pw_or1 (pt_not (Z.pt_truN (Z.pe_callO O__law_ends_in (by rfl) (hr.mono (by decide)) pass0 (pa_cons (pv 0) (pa_cons (pv 3) pa_nil))))))))
        (pss_one (ps_ret pe_bl))
        pss_nil)
      (pss_cons (ps_for PassesOwn.never (by rfl) (Z.pi_seq (pv 2)) (pg_name (i := 4) sc__law_is_made.nd rfl (by first | exact Or.inl rfl | exact Or.inr rfl))
        (pss_cons (ps_set (i := 5) sc__law_is_made.nd rfl (by first | exact Or.inl rfl | exact Or.inr rfl) (pe_orT (Z.pe_callO O__law_in (by rfl) (hr.mono (by decide)) pass0 (pa_cons (pe_ix ix_seq (pv 1) pe_int (fun _ _ => rfl)) (pa_cons (pv 4) pa_nil))) (pe_one (Z.pe_callO O__law_in (by rfl) (hr.mono (by decide)) pass0 (pa_cons (pe_ix ix_seq (pv 1) pe_int (fun _ _ => rfl)) (pa_cons (pv 4) pa_nil))))))
        (pss_cons (ps_if (Z.pt_truN (pe_ix ix_seq (pv 1) pe_int (fun _ _ => rfl)))
          (pss_one (ps_set (i := 5) sc__law_is_made.nd rfl (by first | exact Or.inl rfl | exact Or.inr rfl) (pe_andT (Z.pe_callO O__law_in (by rfl) (hr.mono (by decide)) pass0 (pa_cons (pe_ix ix_seq (pv 1) pe_int (fun _ _ => rfl)) (pa_cons (pv 4) pa_nil))) (pe_one (Z.pe_callO O__law_in (by rfl) (hr.mono (by decide)) pass0 (pa_cons (pe_ix ix_seq (pv 1) pe_int (fun _ _ => rfl)) (pa_cons (pv 4) pa_nil)))))))
          pss_nil)
        (pss_one (ps_if (PW.pt (pw_or (pt_cmpR (Z.zNe (Z.hu0 hr)) (Z.pe_callO O__law_has (by rfl) (hr.mono (by decide)) pass0 (pa_cons (pv 0) (pa_cons (pv 4) pa_nil))) (pv 5) (nomark _)) (pw_or1 (pt_cmpR (Z.zNe (Z.hu0 hr)) (Z.pe_callO O_is_in_stretches (by rfl) (hr.mono (by decide)) pass0 (pa_cons (pv 0) (pa_cons (pv 4) pa_nil))) (pv 5) (nomark _)))))
          (pss_one (ps_ret pe_bl))
          pss_nil)))))
      (pss_one (ps_ret
            pe_bl)))), ?_⟩
    try dsimp only [cxOf, Cx.nox, Cx.wish]
    refine Z.at_start (σ' := [some a, some b, some c, some d, none, none]) rfl ?_
    obtain ⟨L, S, p, q, t, u, f1, g1, us, bs, ps, fa, fb, R, A, B, wb, rfl, rfl, rfl, rfl, F, s, mp, hu, al, md, mq, mf, mg1, aA, aB, mt, pt, mu, eb, k⟩ := h
    obtain ⟨cR, oR, hR⟩ := id md
    walk_at "z"
    refine use__law_is_list F s mp al cR oR fun H1 F1 => ?_
    walk_at "z"
    refine use__law_ends_in F1 s mp al oR mu eb fun H2 F2 => ?_
    walk_at "z"
    refine Z.wForLi F2 mt (fun i σ H' => ∃ (v4 v5 : Option V), σ = [some (.ref p), some (.ref q), some (.ref t), some (.ref u), v4, v5] ∧ Z.Fx H' L) ⟨none, none, rfl, F2⟩ ?_ ?_ ?_
    · rintro i σ H' ⟨v4, v5, rfl, F'⟩
      exact ⟨_, F', mt⟩
    · rintro i x σ H' hx ⟨v4, v5, rfl, F'⟩
      have hp := pt.2 i x hx
      have q1 : 1 ≤ i + 1 := by omega
      have eA := any_inRow (rows := A) q1
      have eB := any_inRow (rows := B) q1
      have hf := hR (i + 1) hp.1
      walk_at "zg"
      refine Z.wSeq ?_
      refine Z.wMidS (fun σ' H' => σ' = [some (.ref p), some (.ref q), some (.ref t), some (.ref u), some x, some (.bl (hasP A (i + 1) || hasP B (i + 1)))] ∧ Z.Fx H' L) (fun N hk => ?_) ?_
      · walk_at "z"
        refine use__law_in F' s mf aA hp fun H3 F3 => ?_
        rw [eA]
        walk_at "z"
        refine Z.wIf (fun h => ?_) (fun h => ?_)
        · rw [h, Bool.true_or] at hk
          rw [h]
          walk_at "z"
          exact hk _ _ ⟨rfl, F3⟩
        · rw [h, Bool.false_or] at hk
          walk_at "z"
          refine use__law_in F3 s mg1 aB hp fun H4 F4 => ?_
          rw [eB]
          walk_at "z"
          exact hk _ _ ⟨rfl, F4⟩
      rintro _ H3 ⟨rfl, F3⟩
      refine Z.wSeq ?_
      refine Z.wMidS (fun σ' H' => σ' = [some (.ref p), some (.ref q), some (.ref t), some (.ref u), some x, some (.bl (wantR wb A B (i + 1)))] ∧ Z.Fx H' L) (fun N hk => ?_) ?_
      · unfold wantR at hk
        cases wb with
        | false =>
          rw [if_neg (by decide)] at hk
          walk_at "z"
          exact hk _ _ ⟨rfl, F3⟩
        | true =>
          rw [if_pos rfl] at hk
          walk_at "z"
          refine use__law_in F3 s mf aA hp fun H4 F4 => ?_
          rw [eA]
          walk_at "z"
          refine Z.wIf (fun h => ?_) (fun h => ?_)
          · rw [h, Bool.true_and] at hk
            walk_at "z"
            refine use__law_in F4 s mg1 aB hp fun H5 F5 => ?_
            rw [eB]
            walk_at "z"
            exact hk _ _ ⟨rfl, F5⟩
          · rw [h, Bool.false_and] at hk
            rw [h]
            walk_at "z"
            exact hk _ _ ⟨rfl, F4⟩
      rintro _ H4 ⟨rfl, F4⟩
      walk_at "z"
      refine use__law_has F4 s mp al hp fun H5 F5 => ?_
      rw [hf]
      walk_at "z"
      rw [beq_self_eq_true]
      walk_at "z"
      refine use_is_in_stretches F5 s (.tup mp) al hu hp q1 fun H6 F6 => ?_
      rw [hf]
      walk_at "z"
      rw [beq_self_eq_true]
      walk_at "z"
      exact ⟨_, _, rfl, F6⟩
    · rintro σ H' ⟨v4, v5, rfl, F'⟩
      walk_at "z"
      exact k _ F'
theorem ok__law_is_made (T : Txt K mg c_BadStretch c_Stretch c_ONE) : Z.Ok CX0 P w K mg base "_law_is_made" 6 ["_law_told", "_law_rows", "_law_points_here", "_law_ends_here"] [] (sp__law_is_made K c_Stretch) := by
  obtain ⟨f, fd, F, g⟩ := T.d__law_is_made
  exact Z.mkOk F g (F.binds (ps := ["_law_told", "_law_rows", "_law_points_here", "_law_ends_here"]) fun _ _ _ _ _ _ us hl => match us, hl with | [_, _, _, _], _ => rfl) (fn__law_is_made T F)
theorem use__law_is_made {cS : Addr} {H : Hp} {Q : VK} {E : XK} {L : List Z.En} {S : List (Int × Int)} {p q t u f g : Addr} {us bs ps fa fb : List V} {R A B : List (Nat × Nat)} {w : Bool} (F : Z.Fx H L) (s : Scale S) (mp : Z.En.ob p (.tup us) ∈ L) (hu : us.length ≤ 10000) (al : Z.Al2 (StrV cS S L) us R) (md : Made S.length (wantR w A B) R) (mq : Z.En.ob q (.lst [.ref f, .ref g, .bl w]) ∈ L) (mf : Z.En.ob f (.lst fa) ∈ L) (mg1 : Z.En.ob g (.lst fb) ∈ L) (aA : Z.Al2 (CouV S L) fa A) (aB : Z.Al2 (CouV S L) fb B) (mt : Z.En.ob t (.lst ps) ∈ L) (pt : PtsAt S L ps) (mu : Z.En.ob u (.lst bs) ∈ L) (eb : EndsAt S L bs) (k : ∀ H', Z.Fx H' L → Q (.bl true) H') : sp__law_is_made K cS [.ref p, .ref q, .ref t, .ref u] H Q E := ⟨_, _, _, _, rfl, L, S, p, q, t, u, f, g, us, bs, ps, fa, fb, R, A, B, w, rfl, rfl, rfl, rfl, F, s, mp, hu, al, md, mq, mf, mg1, aA, aB, mt, pt, mu, eb, k⟩
theorem sc__is_part : FnScope ["stretch", "part"] ["stretch", "part"] (defScope s__is_part) := ⟨rfl, rfl, rfl, by decide +kernel, rfl, by decide +kernel, by decide +kernel⟩
def sp__is_part (K : PySem.W.Frag) (cS : Addr) : Sp := Z.Sp2 fun x y H Q E => ∃ (L : List Z.En) (S : List (Int × Int)) (a b : Nat × Nat), Z.Fx H L ∧ Scale S ∧ StrV cS S L x a ∧ StrV cS S L y b ∧ Q (.bl (partN a b)) H
theorem fn__is_part (T : Txt K mg c_BadStretch c_Stretch c_ONE) {f : Addr} {fd : FuncData} (F : Fun K "_is_part" "_is_part" s__is_part f fd) : FnOk P w K mg base CX0 2 f fd ["stretch", "part"] (sp__is_part K c_Stretch) := by
  have O_compare := ok_compare (P := P) (w := w) (base := base) T
  refine F.ok sc__is_part (fun vs H Q E h => ?_) (fun cdv A outer s H vs Q E hr h => ?_)
  · obtain ⟨a, b, rfl, _⟩ := h; rfl
  · obtain ⟨a, b, rfl, h⟩ := h
    refine ⟨_, (pss_cons (ps_if (pt_cmpR Z.zLt (Z.pe_callO O_compare (by rfl) (hr.mono (by decide)) pass0 (pa_cons (pe_fld (pv 0) rfl) (pa_cons (pe_fld (pv 1) rfl) pa_nil))) pe_int (nomark _))
        (pss_one (ps_ret pe_bl))
        pss_nil)
      (pss_one (ps_ret (pe_orT (pe_cmpR Z.zIs (pe_fld (pv 1) rfl) pe_non (nomark _)) (pe_one (pe_andT (pe_cmpR Z.zIsNot (pe_fld (pv 0) rfl) pe_non (nomark _)) (pe_one (pe_cmpR Z.zLe (Z.pe_callO O_compare (by rfl) (hr.mono (by decide)) pass0 (pa_cons (pe_fld (pv 0) rfl) (pa_cons (pe_fld (pv 1) rfl) pa_nil))) pe_int (nomark _))))))))), ?_⟩
    try dsimp only [cxOf, Cx.nox, Cx.wish]
    refine Z.at_start (σ' := [some a, some b]) rfl ?_
    obtain ⟨L, S, a, b, F, s, ⟨p, dx, x, y, rfl, m, hx, hy⟩, ⟨p', dx', x', y', rfl, m', hx', hy'⟩, k⟩ := h
    have hcl := T.i_Stretch.cl
    have ly := hy.lt
    unfold partN at k
    walk_at "z"
    refine Z.wFldAt F m hcl T.n_Stretch_low (str_low _ _) ?_
    walk_at "z"
    refine Z.wFldAt F m' hcl T.n_Stretch_low (str_low _ _) ?_
    walk_at "z"
    refine use_cmpP F s hx hx' ?_
    walk_at "z"
    refine Z.wIfD (fun h => ?_) (fun h => ?_)
    · rw [sg_neg] at h
      rw [decide_eq_false (show ¬ b.1 ≤ a.1 by omega), Bool.false_and] at k
      walk_at "z"
      exact k
    rw [sg_neg] at h
    rw [decide_eq_true (show b.1 ≤ a.1 by omega), Bool.true_and] at k
    walk_at "z"
    refine Z.wFldAt F m' hcl T.n_Stretch_high (str_high _ _) ?_
    rcases hy' with ⟨e, rfl⟩ | hy'
    · rw [decide_eq_true (show a.2 ≤ b.2 by omega)] at k
      walk_at "z"
      exact k
    obtain ⟨hj, q, rfl, mq⟩ := id hy'
    walk_at "z"
    refine Z.wFldAt F m hcl T.n_Stretch_high (str_high _ _) ?_
    rcases hy with ⟨e, rfl⟩ | hy
    · rw [decide_eq_false (show ¬ a.2 ≤ b.2 by omega)] at k
      walk_at "z"
      exact k
    obtain ⟨hi, q2, rfl, mq2⟩ := id hy
    walk_at "z"
    refine Z.wFldAt F m hcl T.n_Stretch_high (str_high _ _) ?_
    walk_at "z"
    refine Z.wFldAt F m' hcl T.n_Stretch_high (str_high _ _) ?_
    walk_at "z"
    refine use_cmpP F s hy hy' ?_
    walk_at "z"
    rw [decide_eq_decide.mpr sg_le]
    exact k
theorem ok__is_part (T : Txt K mg c_BadStretch c_Stretch c_ONE) : Z.Ok CX0 P w K mg base "_is_part" 2 ["stretch", "part"] [] (sp__is_part K c_Stretch) := by
  obtain ⟨f, fd, F, g⟩ := T.d__is_part
  exact Z.mkOk F g (F.binds (ps := ["stretch", "part"]) fun _ _ _ _ _ _ us hl => match us, hl with | [_, _], _ => rfl) (fn__is_part T F)
theorem use__is_part {cS : Addr} {H : Hp} {Q : VK} {E : XK} {L : List Z.En} {S : List (Int × Int)} {x y : V} {a b : Nat × Nat} (F : Z.Fx H L) (s : Scale S) (hx : StrV cS S L x a) (hy : StrV cS S L y b) (k : Q (.bl (partN a b)) H) : sp__is_part K cS [x, y] H Q E := ⟨_, _, rfl, L, S, a, b, F, s, hx, hy, k⟩
theorem sc_are_within : FnScope ["one", "other", "stretch", "part"] ["one", "other"] (defScope s_are_within) := ⟨rfl, rfl, rfl, by decide +kernel, rfl, by decide +kernel, by decide +kernel⟩
def sp_are_within (K : PySem.W.Frag) (cS : Addr) : Sp := Z.Sp2 fun x y H Q E => ∃ (L : List Z.En) (S : List (Int × Int)) (vs ws : List V) (A B : List (Nat × Nat)), Z.Fx H L ∧ Scale S ∧ Z.SeqIs L x (some vs) ∧ Z.Al2 (StrV cS S L) vs A ∧ vs.length ≤ 10000 ∧ Z.SeqIs L y (some ws) ∧ Z.Al2 (StrV cS S L) ws B ∧ ws.length ≤ 10000 ∧ ∀ H', Z.Fx H' L → Q (.bl (withinN A B)) H'
theorem fn_are_within (T : Txt K mg c_BadStretch c_Stretch c_ONE) {f : Addr} {fd : FuncData} (F : Fun K "are_within" "are_within" s_are_within f fd) : FnOk P w K mg base CX0 3 f fd ["one", "other"] (sp_are_within K c_Stretch) := by
  have O__is_part := ok__is_part (P := P) (w := w) (base := base) T
  refine F.ok sc_are_within (fun vs H Q E h => ?_) (fun cdv A outer s H vs Q E hr h => ?_)
  · obtain ⟨a, b, rfl, _⟩ := h; rfl
  · obtain ⟨a, b, rfl, h⟩ := h
    refine ⟨_, (pss_one (ps_ret (pe_callB (cr_all rfl) (by rfl) T.b_all (by decide +kernel) (pa_cons (by exact (pe_lc (own := [("stretch", 2)]) (g := (gName 2)) (by rfl) sc_are_within.nd (Z.pi_seq (pv 0)) (blkOk_by (own := [("stretch", 2)]) (N := ["one", "other", "stretch", "part"]) (sc := defScope s_are_within) (by decide +kernel)) (fun _ _ _ _ _ => (by exact (pg_name (i := 2) sc_are_within.nd rfl (by first | exact Or.inl rfl | exact Or.inr rfl)))) (fun _ _ _ _ _ => (by exact pts_nil)) (fun _ _ _ _ _ => (by exact (pe_callB (show CallR _ (Value.builtin "any") (rAny K) from cr_any rfl) (by rfl) T.b_any (by decide +kernel) (pa_cons (by exact (pe_lc (own := [("part", 3)]) (g := (gName 3)) (by rfl) sc_are_within.nd (show PI _ _ _ (Z.iSeq K _) from Z.pi_seq (pv 1)) (blkOk_by (own := [("part", 3)]) (N := ["one", "other", "stretch", "part"]) (sc := (Scope.mk .function [(".0", .local), ("stretch", .cell), ("any", .globalImplicit), ("other", .cell)] false false [])) (by decide +kernel)) (fun _ _ _ _ _ => (by exact (pg_name (i := 3) sc_are_within.nd rfl (by first | exact Or.inl rfl | exact Or.inr rfl)))) (fun _ _ _ _ _ => (by exact pts_nil)) (fun _ _ _ _ _ => (by exact (Z.pe_callO O__is_part (by rfl) (hr.mono (by decide)) pass0 (pa_cons (pv 2) (pa_cons (pv 3) pa_nil))))))) pa_nil)))))) pa_nil)))), ?_⟩
    try dsimp only [cxOf, Cx.nox, Cx.wish]
    refine Z.at_start (σ' := [some a, some b, none, none]) rfl ?_
    obtain ⟨L, S, vs, ws, A, B, F, s, hs, al, hl, hs2, al2, hl2, k⟩ := h
    have lb := Z.line_big
    walk_at "z"
    refine Z.wLcS hs F (fun i acc L' => L' = L ∧ acc = (A.take i).map fun a => V.bl (B.any fun b => partN a b)) ⟨rfl, rfl⟩ (fun i acc L' r e he => r.1 ▸ he) ?_ ?_
    · rintro i x D H2 acc L' hx ⟨rfl, rfl⟩ F2
      obtain ⟨a, ha, sx⟩ := al.getL hx
      walk_at "zw"
      walk_at "z"
      refine ⟨rfl, ?_⟩
      walk_at "z"
      refine Z.wLcS (hs2.mono fun _ m => .tail _ m) F2 (fun j acc L2 => L2 = _ ∧ acc = (B.take j).map fun b => V.bl (partN a b)) ⟨rfl, rfl⟩ (fun i acc L' r e he => r.1 ▸ he) ?_ ?_
      · rintro j y D2 H3 acc L2 hy ⟨rfl, rfl⟩ F3
        obtain ⟨b2, hb2, sy⟩ := al2.getL hy
        walk_at "zw"
        walk_at "z"
        refine ⟨rfl, ?_⟩
        walk_at "z"
        refine use__is_part F3 s (sx.mono fun _ m => .tail _ (.tail _ m)) (sy.mono fun _ m => .tail _ (.tail _ m)) ?_
        exact Z.lcPut F3 (by rw [List.length_map, List.length_take]; have := al2.len; omega) ⟨rfl, (Z.take_succ_map hb2).symm⟩
      rintro D2 acc L2 H3 F3 ⟨rfl, rfl⟩
      rw [al2.len, List.take_length] at F3
      have e0 : (B.map fun b => V.bl (partN a b)) = (B.map fun b => partN a b).map V.bl := by rw [List.map_map]; rfl
      rw [e0] at F3
      walk_at "z"
      refine Z.wAny (F3.lst List.mem_cons_self) ?_
      rw [any_map_bl]
      have F4 := F3.sub (L' := (Z.En.ob D (.lst ((A.take i).map fun a => V.bl (B.any fun b => partN a b))) :: L')) (by walk_at "zsub")
      exact Z.lcPut F4 (by rw [List.length_map, List.length_take]; have := al.len; omega) ⟨rfl, (Z.take_succ_map ha).symm⟩
    rintro D acc L' H2 F2 ⟨rfl, rfl⟩
    rw [al.len, List.take_length] at F2
    have e0 : (A.map fun a => V.bl (B.any fun b => partN a b)) = (A.map fun a => B.any fun b => partN a b).map V.bl := by rw [List.map_map]; rfl
    rw [e0] at F2
    walk_at "z"
    refine Z.wAll (F2.lst List.mem_cons_self) ?_
    rw [all_map_bl]
    exact k _ (F2.sub (by walk_at "zsub"))
theorem ok_are_within (T : Txt K mg c_BadStretch c_Stretch c_ONE) : Z.Ok CX0 P w K mg base "are_within" 3 ["one", "other"] [] (sp_are_within K c_Stretch) := by
  obtain ⟨f, fd, F, g⟩ := T.d_are_within
  exact Z.mkOk F g (F.binds (ps := ["one", "other"]) fun _ _ _ _ _ _ us hl => match us, hl with | [_, _], _ => rfl) (fn_are_within T F)
theorem use_are_within {cS : Addr} {H : Hp} {Q : VK} {E : XK} {L : List Z.En} {S : List (Int × Int)} {x y : V} {vs ws : List V} {A B : List (Nat × Nat)} (F : Z.Fx H L) (s : Scale S) (hs : Z.SeqIs L x (some vs)) (al : Z.Al2 (StrV cS S L) vs A) (hl : vs.length ≤ 10000) (hs2 : Z.SeqIs L y (some ws)) (al2 : Z.Al2 (StrV cS S L) ws B) (hl2 : ws.length ≤ 10000) (k : ∀ H', Z.Fx H' L → Q (.bl (withinN A B)) H') : sp_are_within K cS [x, y] H Q E := ⟨_, _, rfl, L, S, vs, ws, A, B, F, s, hs, al, hl, hs2, al2, hl2, k⟩
theorem sc__law_truth : FnScope ["_law_told", "_law_due"] ["_law_told", "_law_due"] (defScope s__law_truth) := ⟨rfl, rfl, rfl, by decide +kernel, rfl, by decide +kernel, by decide +kernel⟩
def sp__law_truth : Sp := Z.Sp2 fun x y H Q E => ∃ a b : Bool, x = .bl a ∧ y = .bl b ∧ Q (.bl (a == b)) H
theorem fn__law_truth (T : Txt K mg c_BadStretch c_Stretch c_ONE) {f : Addr} {fd : FuncData} (F : Fun K "_law_truth" "_law_truth" s__law_truth f fd) : FnOk P w K mg base CX0 1 f fd ["_law_told", "_law_due"] (sp__law_truth) := by
  refine F.ok sc__law_truth (fun vs H Q E h => ?_) (fun cdv A outer s H vs Q E hr h => ?_)
  · obtain ⟨a, b, rfl, _⟩ := h; rfl
  · obtain ⟨a, b, rfl, h⟩ := h
    refine ⟨_, (pss_one (ps_ret (pe_andT (pe_callB Z.zIsi (by rfl) T.b_isinstance (by decide +kernel) (pa_cons (pv 0) (pa_cons (pe_bltn (by rfl) T.b_bool (by decide +kernel) (show RelV (.ty "bool") _ from rfl)) pa_nil))) (pe_one (pe_cmpR (Z.zEq (Z.hu0 hr)) (pv 0) (pv 1) (nomark _)))))), ?_⟩
    try dsimp only [cxOf, Cx.nox, Cx.wish]
    refine Z.at_start (σ' := [some a, some b]) rfl ?_
    obtain ⟨a, b,
          rfl, rfl, q⟩ := h
    walk_at "z"
    refine Z.wIsiBool (.bl a) ?_
    walk_at "z"
    exact q
theorem ok__law_truth (T : Txt K mg c_BadStretch c_Stretch c_ONE) : Z.Ok CX0 P w K mg base "_law_truth" 1 ["_law_told", "_law_due"] [] (sp__law_truth) := by
  obtain ⟨f, fd, F, g⟩ := T.d__law_truth
  exact Z.mkOk F g (F.binds (ps := ["_law_told", "_law_due"]) fun _ _ _ _ _ _ us hl => match us, hl with | [_, _], _ => rfl) (fn__law_truth T F)
theorem use__law_truth {H : Hp} {Q : VK} {E : XK} {a b : Bool} (q : Q (.bl (a == b)) H) : sp__law_truth [.bl a, .bl b] H Q E := ⟨_, _, rfl, a, b, rfl, rfl, q⟩
theorem sc__law_pick : FnScope ["_law_hand_here", "_law_things"] ["_law_hand_here", "_law_things"] (defScope s__law_pick) := ⟨rfl, rfl, rfl, by decide +kernel, rfl, by decide +kernel, by decide +kernel⟩
/-- one of a list's things -/
def sp__law_pick (K : PySem.W.Frag) : Sp := Z.Sp2 fun a b H Q E => ∃ (L : List Z.En) (l c p : Addr) (vs : List V), a = .ref l ∧ b = .ref p ∧ Z.Fx H L ∧ Z.En.hand l c ∈ L ∧ Z.En.ob p (.lst vs) ∈ L ∧ 1 ≤ vs.length ∧ vs.length ≤ 1000 ∧ ∀ v H', v ∈ vs → Z.Fx H' L → Q v H'
theorem fn__law_pick (T : Txt K mg c_BadStretch c_Stretch c_ONE) {f : Addr} {fd : FuncData} (F : Fun K "_law_pick" "_law_pick" s__law_pick f fd) : FnOk P w K mg base CX0 3 f fd ["_law_hand_here", "_law_things"] (sp__law_pick K) := by
  have O__law_draw := ok__law_draw (P := P) (w := w) (base := base) T
  refine F.ok sc__law_pick (fun vs H Q E h => ?_) (fun cdv A outer s H vs Q E hr h => ?_)
  · obtain ⟨a, b, rfl, _⟩ := h; rfl
  · obtain ⟨a, b, rfl, h⟩ := h
    refine ⟨_, (pss_one (ps_ret (pe_ix ix_seq (pv 1) (Z.pe_callO O__law_draw (by rfl) (hr.mono (by decide)) pass0 (pa_cons (pv 0) (pa_cons (pe_callB Z.zLen (by rfl) T.b_len (by decide +kernel) (pa_cons (pv 1) pa_nil)) pa_nil))) (fun _ _ => rfl)))), ?_⟩
    try dsimp only [cxOf, Cx.nox, Cx.wish]
    refine Z.at_start (σ' := [some a, some b]) rfl ?_
    obtain ⟨L, l, c, p, vs, rfl, rfl, F, hm, mp, h1, h2, q⟩ := h
    walk_at "z"
    rename_i v H1 F1 v0 v1
    obtain ⟨n, rfl⟩ := Int.eq_ofNat_of_zero_le v0
    have hn : n < vs.length := by omega
    refine Z.wIxL (F1.lst mp) (v := vs[n]) (L2.atI_nat (List.getElem?_eq_getElem hn)) ?_
    exact q _ _ (List.getElem_mem _) F1
theorem ok__law_pick (T : Txt K mg c_BadStretch c_Stretch c_ONE) : Z.Ok CX0 P w K mg base "_law_pick" 3 ["_law_hand_here", "_law_things"] [] (sp__law_pick K) := by
  obtain ⟨f, fd, F, g⟩ := T.d__law_pick
  exact Z.mkOk F g (F.binds (ps := ["_law_hand_here", "_law_things"]) fun _ _ _ _ _ _ us hl => match us, hl with | [_, _], _ => rfl) (fn__law_pick T F)
theorem use__law_pick {H : Hp} {Q : VK} {E : XK} {L : List Z.En} {l c p : Addr} {vs : List V} (F : Z.Fx H L) (hm : Z.En.hand l c ∈ L) (mp : Z.En.ob p (.lst vs) ∈ L) (h1 : 1 ≤ vs.length) (h2 : vs.length ≤ 1000) (q : ∀ v H', v ∈ vs → Z.Fx H' L → Q v H') : sp__law_pick K [.ref l, .ref p] H Q E :=
  ⟨_, _, rfl, L, l, c, p, vs, rfl, rfl, F, hm, mp, h1, h2, q⟩
theorem sc_Stretch_low_shut : FnScope ["self"] ["self"] (defScope s_Stretch_low_shut) := ⟨rfl, rfl, rfl, by decide +kernel, rfl, by decide +kernel, by decide +kernel⟩
def sp_Stretch_low_shut (K : PySem.W.Frag) (cS : Addr) : Sp := Z.Sp1 fun a H Q E => ∃ (L : List Z.En) (p dx : Addr) (x y : V) (c d : Int), a = .ref p ∧ Z.Fx H L ∧ Z.En.ob p (.ins cS dx (strF x y)) ∈ L ∧ Z.Rt K L x c d ∧ Q (.bl (!decide ([c, d] = [1, 1]))) H
theorem fn_Stretch_low_shut (T : Txt K mg c_BadStretch c_Stretch c_ONE) {f : Addr} {fd : FuncData} (F : Fun K "low_shut" "Stretch.low_shut" s_Stretch_low_shut f fd) : FnOk P w K mg base CX0 1 f fd ["self"] (sp_Stretch_low_shut K c_Stretch) := by
  refine F.ok sc_Stretch_low_shut (fun vs H Q E h => ?_) (fun cdv A outer s H vs Q E hr h => ?_)
  · obtain ⟨a, rfl, _⟩ := h; rfl
  · obtain ⟨a, rfl, h⟩ := h
    refine ⟨_, (pss_one (ps_ret (pe_cmpR (Z.zNe (Z.hu0 hr)) (pe_fld (pv 0) rfl) (pe_glob (v := V.ref c_ONE) (by rfl) T.k_ONE (show RelV (V.ref _) _ from rfl)) (nomark _)))), ?_⟩
    try dsimp only [cxOf, Cx.nox, Cx.wish]
    refine Z.at_start (σ' := [some a]) rfl ?_
    obtain ⟨L, p, dx, x, y, c, d, rfl, F, m, hx, q⟩ := h
    obtain ⟨p2, rfl, sq⟩ := hx.sq F
    walk_at "z"
    refine Z.wFldAt F m T.i_Stretch.cl T.n_Stretch_low (str_low _ _) ?_
    walk_at "z"
    refine Z.wNeTT (ns := [c, d]) (ms := [1, 1]) sq (T.kt_ONE _) ?_
    exact q
theorem ok_Stretch_low_shut (T : Txt K mg c_BadStretch c_Stretch c_ONE) : Z.PropO CX0 P w K mg base c_Stretch "low_shut" 1 ["self"] (sp_Stretch_low_shut K c_Stretch) := by
  obtain ⟨p, f, fd, F, i⟩ := T.d_Stretch_low_shut
  exact ⟨p, f, fd, i, (F.binds (ps := ["self"]) fun _ _ _ _ _ _ us hl => match us, hl with | [_], _ => rfl), fn_Stretch_low_shut T F⟩
theorem sc__law_refusals : FnScope ["_law_hand_here", "_law_ends_here", "_law_pool", "_law_low", "_law_high", "_law_due", "_law_told", "caught"] ["_law_hand_here", "_law_ends_here"] (defScope s__law_refusals) := ⟨rfl, rfl, rfl, by decide +kernel, rfl, by decide +kernel, by decide +kernel⟩
/-- a drawn end: its data, and what it is as a tuple -/
def EndV (K : PySem.W.Frag) (L : List Z.En) (v : V) (o : Option (List V)) (d : PyData) : Prop := TupIs K L v o ∧ SzO o ∧ Z.Dt L v d ∧ Z.Sh d 1 ∧ (v = .non ∨ ∃ k, Z.Thing L v k ∧ v ≠ .non)
theorem endV_tup {K : PySem.W.Frag} {L : List Z.En} {p : Addr} {a b : Int} (m : Z.En.ob p (.tup [.int a, .int b]) ∈ L) (sa : Sz 1900 a) (sb : Sz 1900 b) : ∃ o d, EndV K L (.ref p) o d :=
  ⟨_, _, Rt.tup ⟨p, rfl, .inl m⟩, fun c d e => by cases e; exact ⟨sa, sb⟩, .tup m (.cons (.int _) (.cons (.int _) .nil)), Z.Sh.tup (n := 0) (Z.ShA.cons (n := 0) (m := 0) (.int _) (Z.ShA.cons (n := 0) (m := 0) (.int _) .nil)), .inr ⟨_, .tup m, nofun⟩⟩
theorem endV_pos {K : PySem.W.Frag} {S : List (Int × Int)} {L : List Z.En} {v : V} {i : Nat} (s : Scale S) (h : PosV S L v i) : ∃ o d, EndV K L v o d := by
  obtain ⟨hi, p, rfl, m⟩ := h
  obtain ⟨_, _, a, b⟩ := s.ok i hi
  exact endV_tup m (a.mono (by decide)) (b.mono (by decide))
theorem EndV.mono {K : PySem.W.Frag} {L L' : List Z.En} {v : V} {o : Option (List V)} {d : PyData} (h : EndV K L v o d) (s : ∀ e ∈ L, e ∈ L') : EndV K L' v o d := by
  obtain ⟨t, so, dt, sh, n⟩ := h
  refine ⟨?_, so, dt.mono s, sh, n.imp id fun ⟨k, t, ne⟩ => ⟨k, t.mono s, ne⟩⟩
  rcases t with ⟨k, t, e1, e2⟩ | ⟨p, xs, e, e1, e2, m, tx⟩
  · exact .inl ⟨k, t.mono s, e1, e2⟩
  · exact .inr ⟨p, xs, e, e1, e2, m.imp (s _) id, fun x hx => let ⟨k, t⟩ := tx x hx; ⟨k, t.mono s⟩⟩
theorem sz_small {a : Int} (h : a.natAbs < 8) : Sz 1900 a := Sz.mono (k := 3) h (by decide)
def dueV : Option Str → V
  | none => .non
  | some w => .str w
theorem cmp_flip (a b c d : Int) : cmpI c d a b < 0 ↔ ¬ cmpI a b c d ≤ 0 := by
  unfold cmpI
  split <;> split <;> (try split) <;> (try split) <;> omega
theorem cmp_low (c d : Int) : cmpI c d 1 1 < 0 ↔ c < d := by
  unfold cmpI
  rw [Int.mul_one, Int.one_mul]
  split <;> (try split) <;> omega
theorem strW_low {o1 o2 : Option (List V)} {v : V} (h : lowOk o1 = false) : strW o1 v o2 = some ("low" : Str) := by unfold strW; rw [if_pos h]
theorem strW_non {o1 o2 : Option (List V)} (h : lowOk o1 = true) : strW o1 .non o2 = none := by unfold strW; rw [h, if_neg (by decide), if_pos rfl]
theorem strW_hi {a b : Int} {o2 : Option (List V)} {v : V} (h : lowOk (some [.int a, .int b]) = true) (n : v ≠ .non) : strW (some [.int a, .int b]) v o2 = if hiOk a b o2 = false then some ("high" : Str) else none := by unfold strW; rw [h, if_neg (by decide), if_neg n]
theorem lowOk_rt {a b : Int} (h : isRtV (some [.int a, .int b]) = true) : lowOk (some [.int a, .int b]) = !decide (a < b) := by
  unfold lowOk
  rw [h, Bool.true_and]
  dsimp only
  rw [decide_eq_decide.mpr (cmp_low a b)]
theorem hiOk_rt {a b c d : Int} (h : isRtV (some [.int c, .int d]) = true) : hiOk a b (some [.int c, .int d]) = (decide (cmpI a b c d ≤ 0) && !decide ([c, d] = [1, 1])) := by
  unfold hiOk
  rw [h, Bool.true_and]
def sp__law_refusals (K : PySem.W.Frag) (cS cZ : Addr) : Sp := Z.Sp2 fun a b H Q E => ∃ (L : List Z.En) (S : List (Int × Int)) (l c q : Addr) (bs : List V), a = .ref l ∧ b = .ref q ∧ Z.Fx H L ∧ Z.En.hand l c ∈ L ∧ Scale S ∧ Z.En.ob q (.lst bs) ∈ L ∧ EndsAt S L bs ∧ ∀ L' H', L.Sublist L' → Z.Fx H' L' → Q (.bl true) H'
theorem fn__law_refusals (T : Txt K mg c_BadStretch c_Stretch c_ONE) {f : Addr} {fd : FuncData} (F : Fun K "_law_refusals" "_law_refusals" s__law_refusals f fd) : FnOk P w K mg base CX0 6 f fd ["_law_hand_here", "_law_ends_here"] (sp__law_refusals K c_Stretch c_BadStretch) := by
  have O__law_cmp := ok__law_cmp (P := P) (w := w) (base := base) T
  have O__law_is_ratio := ok__law_is_ratio (P := P) (w := w) (base := base) T
  have O__law_pick := ok__law_pick (P := P) (w := w) (base := base) T
  have O__law_truth := ok__law_truth (P := P) (w := w) (base := base) T
  have O_Stretch_2 := ok_Stretch___init___2 (P := P) (w := w) (base := base) T
  have O_Stretch_low_shut := ok_Stretch_low_shut (P := P) (w := w) (base := base) T
  refine F.ok sc__law_refusals (fun vs H Q E h => ?_) (fun cdv A outer s H vs Q E hr h => ?_)
  · obtain ⟨a, b, rfl, _⟩ := h; rfl
  · obtain ⟨a, b, rfl, h⟩ := h
    refine ⟨_, (pss_cons (ps_set (i := 2) sc__law_refusals.nd rfl (by first | exact Or.inl rfl | exact Or.inr rfl) (pe_op Z.zAdd (pv 1) (pe_lst (pa_cons (pe_tup (pa_cons pe_int (pa_cons pe_int pa_nil))) (pa_cons (pe_tup (pa_cons pe_int (pa_cons pe_int pa_nil))) (pa_cons (pe_tup (pa_cons (pe_un un_neg pe_int) (pa_cons pe_int pa_nil))) (pa_cons (pe_tup (pa_cons pe_int (pa_cons pe_int pa_nil))) (pa_cons (pe_lst (pa_cons pe_int (pa_cons pe_int pa_nil))) (pa_cons pe_int (pa_cons pe_bl pa_nil))))))))))
      (pss_cons (ps_set (i := 3) sc__law_refusals.nd rfl (by first | exact Or.inl rfl | exact Or.inr rfl) (Z.pe_callO O__law_pick (by rfl) (hr.mono (by decide)) pass0 (pa_cons (pv 0) (pa_cons (pv 2) pa_nil))))
      (pss_cons (ps_set (i := 4) sc__law_refusals.nd rfl (by first | exact Or.inl rfl | exact Or.inr rfl) (Z.pe_callO O__law_pick (by rfl) (hr.mono (by decide)) pass0 (pa_cons (pv 0) (pa_cons (pe_op Z.zAdd (pv 2) (pe_lst (pa_cons pe_non pa_nil))) pa_nil))))
      (pss_cons (ps_set (i := 5) sc__law_refusals.nd rfl (by first | exact Or.inl rfl | exact Or.inr rfl) pe_non)
      (pss_cons (ps_if (PW.pt (pw_or (pt_not (Z.pt_truN (Z.pe_callO O__law_is_ratio (by rfl) (hr.mono (by decide)) pass0 (pa_cons (pv 3) pa_nil)))) (pw_or1 (pt_cmpR Z.zLt (pe_ix ix_seq (pv 3) pe_int (fun _ _ => rfl)) (pe_ix ix_seq (pv 3) pe_int (fun _ _ => rfl)) (nomark _)))))
        (pss_one (ps_set (i := 5) sc__law_refusals.nd rfl (by first | exact Or.inl rfl | exact Or.inr rfl) pe_str))
        (pss_one (ps_if (PW.pt (pw_and (pt_cmpR Z.zIsNot (pv 4) pe_non (nomark _)) (pw_and1 (PW.pt (pw_or (pt_not (Z.pt_truN (Z.pe_callO O__law_is_ratio (by rfl) (hr.mono (by decide)) pass0 (pa_cons (pv 4) pa_nil)))) (pw_or (pt_cmpR Z.zLt (Z.pe_callO O__law_cmp (by rfl) (hr.mono (by decide)) pass0 (pa_cons (pv 4) (pa_cons (pv 3) pa_nil))) pe_int (nomark _)) (pw_or1 (pt_cmpR (Z.zEq (Z.hu0 hr)) (pv 4) (pe_tup (pa_cons pe_int (pa_cons pe_int pa_nil))) (nomark _)))))))))
          (pss_one (ps_set (i := 5) sc__law_refusals.nd rfl (by first | exact Or.inl rfl | exact Or.inr rfl) pe_str))
          pss_nil)))
      (pss_cons (ps_try_as (i := 7) rfl rfl sc__law_refusals.nd rfl rfl ⟨rfl, by decide, Or.inl T.g_BadStretch⟩ takes0 (fun W pn xe tk _ => (by exact (pss_one (ps_set (i := 6) sc__law_refusals.nd rfl (by first | exact Or.inl rfl | exact Or.inr rfl) (Z.pe_makeSO O_Stretch_2 (hr.mono (by decide)) T.g_Stretch (by rfl) (fun σ => passAt tk σ) (pa_cons (pv 3) (pa_cons (pv 4) pa_nil)))))))
        (fun a oe cls d pn hz hf => (by exact (pss_one (ps_ret (show PE _ _ (tAndT K _ _) from (pe_andT (pe_cmpR (show OpR _ _ (Z.rOr rEq (rEqD K)) from Z.zEq hr.units) (pe_xf T.x_BadStretch.xf T.n_BadStretch_what hz hf (pv 7)) (pv 5) (nomark _)) (pe_one (pe_cmpR Z.zIsNot (pv 5) pe_non (nomark _))))))))))
      (pss_one (ps_ret (pe_andT (pe_cmpR Z.zIs (pv 5) pe_non (nomark _)) (pe_andT (pe_cmpR (Z.zEq (Z.hu0 hr)) (pe_fld (pv 6) rfl) (pv 3) (nomark _)) (pe_andT (pe_cmpR (Z.zEq (Z.hu0 hr)) (pe_fld (pv 6) rfl) (pv 4) (nomark _)) (pe_one (Z.pe_callO O__law_truth (by rfl) (hr.mono (by decide)) pass0 (pa_cons (Z.pe_propO O_Stretch_low_shut T.i_Stretch.cl (hr.mono (by decide)) pass0 (pv 6)) (pa_cons (pe_cmpR (Z.zNe (Z.hu0 hr)) (pv 3) (pe_tup (pa_cons pe_int (pa_cons pe_int pa_nil))) (nomark _)) pa_nil))))))))))))))), ?_⟩
    try dsimp only [cxOf, Cx.nox, Cx.wish]
    refine Z.at_start (σ' := [some a, some b, none, none, none, none, none, none]) rfl ?_
    obtain ⟨L, S, l, c, q, bs, rfl, rfl, F, hm, s, mq, eb, k⟩ := h
    have lb := Z.line_big
    walk_at "z"
    rename_i p5 H5 F5 p4 H4 F4 p3 H3 F3 p2 H2 F2 p1 H1 F1 p0 H0 F0
    have eb10 := eb.2.2.1
    refine Z.wCatL (xs := bs) (ys := [V.ref p5, V.ref p4, V.ref p3, V.ref p2, V.ref p1, V.int 2, V.bl true]) F0 (by walk_at "zm") (.head _) (by show bs.length + 7 ≤ 1000000; omega) fun pp H6 F6 => ?_
    generalize hLL : (Z.En.ob p0 (.lst [V.ref p5, V.ref p4, V.ref p3, V.ref p2, V.ref p1, V.int 2, V.bl true]) :: Z.En.ob p1 (.lst [V.int 3, V.int 2]) :: Z.En.ob p2 (.tup [V.int 2, V.int 2]) :: Z.En.ob p3 (.tup [V.int (-3), V.int 1]) :: Z.En.ob p4 (.tup [V.int 0, V.int 1]) :: Z.En.ob p5 (.tup [V.int 1, V.int 2]) :: L) = LL at *
    have sub : L.Sublist LL := by rw [← hLL]; exact .cons _ (.cons _ (.cons _ (.cons _ (.cons _ (.cons _ (.refl _))))))
    have all : ∀ v ∈ bs ++ [V.ref p5, V.ref p4, V.ref p3, V.ref p2, V.ref p1, V.int 2, V.bl true], ∃ o d, EndV K LL v o d := fun v hv => by
      rcases List.mem_append.mp hv with hv | hv
      · obtain ⟨i, hi⟩ := List.getElem?_of_mem hv
        exact endV_pos s ((eb.2.2.2 i v hi).le sub)
      · simp only [List.mem_cons, List.not_mem_nil, or_false] at hv
        subst hLL
        rcases hv with rfl | rfl | rfl | rfl | rfl | rfl | rfl
        · exact endV_tup (a := 1) (b := 2) (by walk_at "zm") (sz_small (by decide)) (sz_small (by decide))
        · exact endV_tup (a := 0) (b := 1) (by walk_at "zm") (sz_small (by decide)) (sz_small (by decide))
        · exact endV_tup (a := -3) (b := 1) (by walk_at "zm") (sz_small (by decide)) (sz_small (by decide))
        · exact endV_tup (a := 2) (b := 2) (by walk_at "zm") (sz_small (by decide)) (sz_small (by decide))
        · exact ⟨none, _, .inl ⟨_, .lst (xs := [V.int 3, V.int 2]) (by walk_at "zm"), rfl, rfl⟩, (fun _ _ e => nomatch e), .lst (xs := [V.int 3, V.int 2]) (by walk_at "zm") (.cons (.int _) (.cons (.int _) .nil)), Z.Sh.lst (n := 0) (Z.ShA.cons (n := 0) (m := 0) (.int _) (Z.ShA.cons (n := 0) (m := 0) (.int _) .nil)), .inr ⟨_, .lst (xs := [V.int 3, V.int 2]) (by walk_at "zm"), nofun⟩⟩
        · exact ⟨none, _, .inl ⟨_, .int 2, rfl, rfl⟩, (fun _ _ e => nomatch e), .int 2, ⟨rfl, Nat.zero_le _⟩, .inr ⟨_, .int 2, nofun⟩⟩
        · exact ⟨none, _, .inl ⟨_, .bl true, rfl, rfl⟩, (fun _ _ e => nomatch e), .bl true, ⟨rfl, Nat.zero_le _⟩, .inr ⟨_, .bl true, nofun⟩⟩
    have hm6 : Z.En.hand l c ∈ (.ob pp (.lst (bs ++ [V.ref p5, V.ref p4, V.ref p3, V.ref p2, V.ref p1, V.int 2, V.bl true])) :: LL) := .tail _ (sub.subset hm)
    clear hLL F0 F1 F2 F3 F4 F5
    generalize hpool : bs ++ [V.ref p5, V.ref p4, V.ref p3, V.ref p2, V.ref p1, V.int 2, V.bl true] = pool at *
    have hpl : pool.length = bs.length + 7 := by rw [← hpool, List.length_append]; rfl
    walk_at "z"
    refine use__law_pick F6 hm6 (.head _) (by omega) (by omega) fun v1 H7 hv1 F7 => ?_
    walk_at "z"
    rename_i pn H8 F8 pq H9 F9
    refine use__law_pick F9 (.tail _ (.tail _ hm6)) (.head _) (by rw [List.length_append]; simp) (by rw [List.length_append]; simp; omega) fun v2 H10 hv2 F10 => ?_
    obtain ⟨o1, d1, ev1⟩ := all v1 hv1
    obtain ⟨o2, d2, ev2⟩ : ∃ o d, EndV K LL v2 o d := by
      rcases List.mem_append.mp hv2 with h | h
      · exact all v2 h
      · rw [List.mem_singleton.mp h]
        exact ⟨none, _, .inl ⟨_, .non, rfl, rfl⟩, (fun _ _ e => nomatch e), .non, ⟨rfl, Nat.zero_le _⟩, .inl rfl⟩
    have F11 := F10.sub (L' := LL) (.cons _ (.cons _ (.cons _ (.refl _))))
    clear F6 F7 F8 F9 F10 hm6 all
    obtain ⟨t1, so1, dt1, sh1, n1⟩ := ev1
    obtain ⟨t2, so2, dt2, sh2, n2⟩ := ev2
    walk_at "y"
    refine Z.wMidS (fun σ' H' => σ' = [some (.ref l), some (.ref q), some (.ref pp), some v1, some v2, some (dueV (strW o1 v2 o2)), none, none] ∧ Z.Fx H' LL) (fun N hk => ?_) ?_
    · walk_at "z"
      refine use__law_is_ratio F11 t1 so1 ?_
      walk_at "z"
      refine Z.wIf (fun h => ?_) (fun h => ?_)
      · have h' : isRtV o1 = false := by simpa using h
        rw [strW_low (by unfold lowOk; rw [h']; rfl)] at hk
        walk_at "z"
        exact hk _ _ ⟨rfl, F11⟩
      have h' : isRtV o1 = true := by simpa using h
      obtain ⟨a, b, rfl, b1, _⟩ := rt_data h'
      have rt1 := t1.rt
      obtain ⟨sa, sb⟩ := so1 a b rfl
      obtain ⟨pv, rfl, sq⟩ := rt1.sq F11
      have lo := lowOk_rt h'
      walk_at "z"
      refine Z.wIfD (fun h2 => ?_) (fun h2 => ?_)
      · rw [decide_eq_true h2] at lo
        rw [strW_low lo] at hk
        walk_at "z"
        exact hk _ _ ⟨rfl, F11⟩
      rw [decide_eq_false h2] at lo
      rcases n2 with rfl | ⟨k2, tk2, ne2⟩
      · rw [strW_non lo] at hk
        walk_at "z"
        exact hk _ _ ⟨rfl, F11⟩
      rw [strW_hi lo ne2] at hk
      walk_at "z"
      refine use__law_is_ratio F11 t2 so2 ?_
      walk_at "z"
      refine Z.wIf (fun h3 => ?_) (fun h3 => ?_)
      · have h3' : isRtV o2 = false := by simpa using h3
        rw [show hiOk a b o2 = false by unfold hiOk; rw [h3']; rfl, if_pos rfl] at hk
        walk_at "z"
        exact hk _ _ ⟨rfl, F11⟩
      have h3' : isRtV o2 = true := by simpa using h3
      obtain ⟨c2, e2, rfl, e21, _⟩ := rt_data h3'
      have rt2 := t2.rt
      obtain ⟨sc, se⟩ := so2 c2 e2 rfl
      obtain ⟨pw, rfl, sq2⟩ := rt2.sq F11
      rw [hiOk_rt h3'] at hk
      walk_at "z"
      refine use__law_cmp F11 rt2 rt1 sc se sa sb ?_
      walk_at "z"
      refine Z.wIfD (fun h4 => ?_) (fun h4 => ?_)
      · rw [cmp_flip] at h4
        rw [decide_eq_false h4, Bool.false_and, if_pos rfl] at hk
        walk_at "z"
        exact hk _ _ ⟨rfl, F11⟩
      rw [cmp_flip] at h4
      rw [decide_eq_true (Classical.not_not.mp h4), Bool.true_and] at hk
      walk_at "z"
      rename_i pz H13 F13
      obtain ⟨py, ey, sq3⟩ := (rt2.mono (L' := .ob pz (.tup [.int 1, .int 1]) :: LL) fun _ m => .tail _ m).sq F13
      cases ey
      refine Z.wEqTT (ns := [c2, e2]) (ms := [1, 1]) sq3 (F13.tup (.head _)) ?_
      have F14 := F13.sub (L' := LL) (.cons _ (.refl _))
      walk_at "z"
      refine Z.wIf (fun h5 => ?_) (fun h5 => ?_)
      · rw [h5, if_pos (show (!true) = false from rfl)] at hk
        walk_at "z"
        exact hk _ _ ⟨rfl, F14⟩
      · rw [h5, if_neg (by decide)] at hk
        walk_at "z"
        exact hk _ _ ⟨rfl, F14⟩
    rintro _ H12 ⟨rfl, F12⟩
    walk_at "z"
    refine use_StretchX F12 t1 so1 t2 so2 n2 (fun w hw e H13 F13 => ?_) fun hw y dx H13 F13 => ?_
    · rw [hw]
      refine Z.wAs_yes T.x_BadStretch.me fun qe hq => ?_
      simp only [List.set_cons_zero, List.set_cons_succ]
      walk_at "z"
      refine Z.wXf ?_
      walk_at "z"
      refine ⟨rfl, rfl, e, _, V.str w, rfl, F13.get List.mem_cons_self, by simp [List.lookup], ?_⟩
      walk_at "z"
      rw [show dueV (some w) = V.str w from rfl]
      refine Z.wEqStr ?_
      rw [decide_eq_true rfl]
      walk_at "z"
      exact k _ _ (sub.trans (.cons _ (.refl _))) F13
    · have hcl := T.i_Stretch.cl
      have hlo : lowOk o1 = true := by
        rcases Bool.eq_false_or_eq_true (lowOk o1) with h | h
        · exact h
        · unfold strW at hw
          rw [h, if_pos rfl] at hw
          cases hw
      have h' : isRtV o1 = true := by
        unfold lowOk at hlo
        rw [Bool.and_eq_true] at hlo
        exact hlo.1
      obtain ⟨a, b, rfl, b1, _⟩ := rt_data h'
      have rt1 := t1.rt
      rw [hw, show dueV none = V.non from rfl]
      have sub2 : ∀ e ∈ LL, e ∈ (Z.En.ob y (.ins c_Stretch dx (strF v1 v2)) :: Z.En.ob dx (.own y) :: LL) := fun _ m => .tail _ (.tail _ m)
      walk_at "z"
      refine Z.wFldAt F13 (.head _) hcl T.n_Stretch_low (str_low _ _) ?_
      walk_at "z"
      refine Z.wEqSame F13 (dt1.mono sub2) (dt1.mono sub2) sh1.ok ?_
      walk_at "z"
      refine Z.wFldAt F13 (.head _) hcl T.n_Stretch_high (str_high _ _) ?_
      walk_at "z"
      refine Z.wEqSame F13 (dt2.mono sub2) (dt2.mono sub2) sh2.ok ?_
      walk_at "z"
      refine Z.wProp ?_
      walk_at "z"
      refine ⟨y, dx, _, rfl, F13.get (.head _), _, rfl, _, y, dx, v1, v2, a, b, rfl, F13, .head _, rt1.mono sub2, ?_⟩
      walk_at "z"
      rename_i pz H14 F14
      obtain ⟨pv, rfl, sq⟩ := (rt1.mono (L' := .ob pz (.tup [.int 1, .int 1]) :: Z.En.ob y (.ins c_Stretch dx (strF v1 v2)) :: Z.En.ob dx (.own y) :: LL) fun _ m => .tail _ (sub2 _ m)).sq F14
      refine Z.wNeTT (ns := [a, b]) (ms := [1, 1]) sq (F14.tup (.head _)) ?_
      walk_at "z"
      refine use__law_truth ?_
      rw [beq_self_eq_true]
      exact k _ _ (sub.trans (.cons _ (.cons _ (.cons _ (.refl _))))) F14
theorem ok__law_refusals (T : Txt K mg c_BadStretch c_Stretch c_ONE) : Z.Ok CX0 P w K mg base "_law_refusals" 6 ["_law_hand_here", "_law_ends_here"] [] (sp__law_refusals K c_Stretch c_BadStretch) := by
  obtain ⟨f, fd, F, g⟩ := T.d__law_refusals
  exact Z.mkOk F g (F.binds (ps := ["_law_hand_here", "_law_ends_here"]) fun _ _ _ _ _ _ us hl => match us, hl with | [_, _], _ => rfl) (fn__law_refusals T F)
theorem use__law_refusals {cS cZ : Addr} {H : Hp} {Q : VK} {E : XK} {L : List Z.En} {S : List (Int × Int)} {l c q : Addr} {bs : List V} (F : Z.Fx H L) (hm : Z.En.hand l c ∈ L) (s : Scale S) (mq : Z.En.ob q (.lst bs) ∈ L) (eb : EndsAt S L bs) (k : ∀ L' H', L.Sublist L' → Z.Fx H' L' → Q (.bl true) H') : sp__law_refusals K cS cZ [.ref l, .ref q] H Q E := ⟨_, _, rfl, L, S, l, c, q, bs, rfl, rfl, F, hm, s, mq, eb, k⟩
theorem sc_law : FnScope ["_law_script", "_law_hand_here", "_law_turn", "_law_ends_here", "_law_one", "_law_other", "_law_points_here", "_law_firsts", "_law_seconds", "_law_either", "_law_both", "_law_within", "_law_k", "_law_ratio_here", "_law_mate", "_law_again"] ["_law_script"] (defScope s_law) := ⟨rfl, rfl, rfl, by decide +kernel, rfl, by decide +kernel, by decide +kernel⟩
def sp_law (K : PySem.W.Frag) : Sp := Z.Sp1 fun a H Q E => ∃ (l : Addr) (ns : List Int), a = .ref l ∧ SqL K H l (ns.map V.int) ∧ ns.length ≤ 63 ∧ ∀ H', Q (.bl true) H'
/-- two stretches are told alike -/
def StrR (cS : Addr) (a b : Addr) (H : Hp) : Prop := ∃ (L : List Z.En) (S : List (Int × Int)) (r : Nat × Nat), Z.Fx H L ∧ Scale S ∧ StrV cS S L (.ref a) r ∧ StrV cS S L (.ref b) r
theorem StrR.ext {cS : Addr} (a b : Addr) (H H' : Hp) (e : Ext H H') (h : StrR cS a b H) : StrR cS a b H' := let ⟨L, S, r, F, s, x, y⟩ := h; ⟨L, S, r, F.same e, s, x, y⟩
theorem StrR.spec {K : PySem.W.Frag} {cS : Addr} (vs : List V) (H : Hp) (Q : VK) (E : XK) (h : spEq (StrR cS) vs H Q E) : sp_Stretch___eq__ K cS vs H Q E := by
  obtain ⟨a, b, rfl, ⟨L, S, r, F, s, x, y⟩, q⟩ := h
  exact ⟨_, _, rfl, L, S, r, F, s, x, .inl ⟨r, y, by rw [decide_eq_true rfl]; exact q H Ext.rfl'⟩⟩
structure Fa (S : List (Int × Int)) (L : List Z.En) (hp cp q p1 p2 : Addr) (us fa fb : List V) (A B : List (Nat × Nat)) : Prop where
  hm : Z.En.hand hp cp ∈ L
  mq : Z.En.ob q (.lst us) ∈ L
  ea : EndsAt S L us
  m1 : Z.En.ob p1 (.lst fa) ∈ L
  m2 : Z.En.ob p2 (.lst fb) ∈ L
  aA : Z.Al2 (CouV S L) fa A
  aB : Z.Al2 (CouV S L) fb B
theorem Fa.mono {S : List (Int × Int)} {L L' : List Z.En} {hp cp q p1 p2 : Addr} {us fa fb : List V} {A B : List (Nat × Nat)} (h : Fa S L hp cp q p1 p2 us fa fb A B) (s : ∀ e ∈ L, e ∈ L') : Fa S L' hp cp q p1 p2 us fa fb A B :=
  ⟨s _ h.hm, s _ h.mq, h.ea.mono s, s _ h.m1, s _ h.m2, h.aA.mono fun _ _ x => x.mono s, h.aB.mono fun _ _ x => x.mono s⟩
theorem pts_at {L : List Z.En} {ps : List V} {rs : List (Int × Int)} (h : EndsOk rs) (al : Z.Al2 (RowV L) ps (ptsGo (1, 1) rs.tail)) : PtsAt (scaleOf rs) L ps := by
  have la := al.len
  have e : (scaleOf rs).length = (ptsGo (1, 1) rs.tail).length + 1 := rfl
  refine ⟨by omega, fun k v hk => ?_⟩
  obtain ⟨r, hr, p, rfl, m⟩ := al.getL hk
  have hi := (List.getElem?_eq_some_iff.mp hr).1
  refine ⟨by omega, p, rfl, ?_⟩
  have e2 : plc (scaleOf rs) (k + 1) = r := by
    unfold plc
    rw [List.getD_eq_getElem?_getD]
    have : (scaleOf rs)[k + 1]? = some r := hr
    rw [this]
    rfl
  rw [e2]
  exact m
theorem tail_al {L : List Z.En} {us : List V} {rs : List (Int × Int)} (al : Z.Al2 (RowV L) us rs) : Z.Al2 (RowV L) us.tail rs.tail := by
  have := al.drop 1
  rwa [List.drop_one, List.drop_one] at this
/-- rows as data -/
theorem rowsD {L : List Z.En} {us : List V} {rs : List (Int × Int)} (al : Z.Al2 (RowV L) us rs) : Z.DtA L us (rs.map fun r => PyData.tuple [.int r.1, .int r.2]) := by
  refine dtA_of _ _ (by rw [List.length_map]; exact al.len) fun i v d h1 h2 => ?_
  obtain ⟨r, hr, p, rfl, m⟩ := al.getL h1
  rw [List.getElem?_map, hr] at h2
  cases h2
  exact .tup m (.cons (.int _) (.cons (.int _) .nil))
theorem rowsD_sh (rs : List (Int × Int)) : SeqAt.shaped (.list (rs.map fun r => PyData.tuple [.int r.1, .int r.2])) = true :=
  (Z.Sh.lst (Z.ShA.map (n := 1) fun r _ => Z.Sh.tup (n := 0) (Z.ShA.cons (n := 0) (m := 0) (.int _) (Z.ShA.cons (n := 0) (m := 0) (.int _) .nil)))).ok
theorem eqv_nil (ds : List PyData) : PyData.eqv (.list ds) (.list []) = ds.isEmpty := by cases ds <;> rfl
theorem Made.want {n : Nat} {f g : Nat → Bool} {R : List (Nat × Nat)} (h : Made n f R) (e : ∀ q, f q = g q) : Made n g R := ⟨h.1, h.2.1, fun q hq => by rw [h.2.2 q hq, e q]⟩
theorem prs_str {K : PySem.W.Frag} {cS : Addr} {H : Hp} {L : List Z.En} {S : List (Int × Int)} {us ws : List V} {R : List (Nat × Nat)} (F : Z.Fx H L) (s : Scale S) (a : Z.Al2 (StrV cS S L) us R) (b : Z.Al2 (StrV cS S L) ws R) : Prs (DIns cS (StrR cS)) us ws H := by
  refine ⟨by rw [a.len, b.len], fun i x y hx hy => ?_⟩
  obtain ⟨r, hr, sx⟩ := a.getL hx
  obtain ⟨t, ht, sy⟩ := b.getL hy
  rw [hr] at ht
  cases ht
  obtain ⟨p, dx, x1, y1, rfl, m, _⟩ := id sx
  obtain ⟨p', dx', x2, y2, rfl, m', _⟩ := id sy
  exact ⟨p, p', dx, dx', _, _, rfl, rfl, F.get m, F.get m', L, S, r, F, s, sx, sy⟩
theorem within_pts {n : Nat} {A B : List (Nat × Nat)} (hn : n % 2 = 0) (n2 : 2 ≤ n) (cB : Can B) (oA : ∀ r ∈ A, OkR n r) (oB : ∀ r ∈ B, OkR n r) {m : Nat} (h : m = 0 ↔ ∀ k, k + 1 < n → hasP A (k + 1) = true → hasP B (k + 1) = true) : withinN A B = decide (m = 0) := by
  rw [Bool.eq_iff_iff, within_iff hn n2 cB oA oB, decide_eq_true_eq, h]
  constructor
  · intro q k hk a
    exact q (k + 1) (by omega) hk a
  · intro q k h1 h2 a
    obtain ⟨j, rfl⟩ : ∃ j, k = j + 1 := ⟨k - 1, by omega⟩
    exact q j h2 a
theorem ones_nil (m : Nat) : PyData.eqv (.list (Z.iD (List.replicate m 1))) (.list []) = decide (m = 0) := by
  rw [eqv_nil]
  cases m with
  | zero => rfl
  | succ m => rw [decide_eq_false (by omega)]; rfl
theorem CouV.dt {S : List (Int × Int)} {L : List Z.En} {v : V} {r : Nat × Nat} (h : CouV S L v r) : Z.Dt L v (.tuple [hiD S r.1, hiD S r.2]) := by
  obtain ⟨p, x, y, rfl, m, hx, hy⟩ := h
  exact .tup m (.cons hx.dt (.cons hy.dt .nil))
theorem cou_sh (S : List (Int × Int)) (r : Nat × Nat) : SeqAt.shaped (.tuple [hiD S r.1, hiD S r.2]) = true := (Z.Sh.tup (n := 1) (Z.ShA.cons (n := 1) (m := 1) (hiD_sh S r.1) (Z.ShA.cons (n := 1) (m := 0) (hiD_sh S r.2) .nil))).ok
theorem cou_eqv {S : List (Int × Int)} (s : Scale S) {r t : Nat × Nat} (hr : OkR S.length r) (ht : OkR S.length t) : PyData.eqv (.tuple [hiD S r.1, hiD S r.2]) (.tuple [hiD S t.1, hiD S t.2]) = decide (r = t) := by
  show (PyData.eqv (hiD S r.1) (hiD S t.1) && (PyData.eqv (hiD S r.2) (hiD S t.2) && true)) = _
  unfold OkR at hr ht
  rw [hiD_eqv s (by omega) (by omega), hiD_eqv s (by omega) (by omega), Bool.and_true, Bool.eq_iff_iff, Bool.and_eq_true, decide_eq_true_eq, decide_eq_true_eq, decide_eq_true_eq]
  exact ⟨fun h => Prod.ext h.1 h.2, fun h => by rw [h]; exact ⟨rfl, rfl⟩⟩
structure Fb (cS : Addr) (S : List (Int × Int)) (L : List Z.En) (pp : Addr) (ps : List V) (v7 v8 : V) (w7 w8 : List V) (p9 p10 : Addr) (u9 u10 : List V) (A B R T : List (Nat × Nat)) : Prop where
  mp : Z.En.ob pp (.lst ps) ∈ L
  pt : PtsAt S L ps
  s7 : Z.SeqIs L v7 (some w7)
  a7 : Z.Al2 (StrV cS S L) w7 A
  s8 : Z.SeqIs L v8 (some w8)
  a8 : Z.Al2 (StrV cS S L) w8 B
  m9 : Z.En.ob p9 (.tup u9) ∈ L
  a9 : Z.Al2 (StrV cS S L) u9 R
  m10 : Z.En.ob p10 (.tup u10) ∈ L
  a10 : Z.Al2 (StrV cS S L) u10 T
theorem Fb.mono {cS : Addr} {S : List (Int × Int)} {L L' : List Z.En} {pp : Addr} {ps : List V} {v7 v8 : V} {w7 w8 : List V} {p9 p10 : Addr} {u9 u10 : List V} {A B R T : List (Nat × Nat)} (h : Fb cS S L pp ps v7 v8 w7 w8 p9 p10 u9 u10 A B R T) (s : ∀ e ∈ L, e ∈ L') : Fb cS S L' pp ps v7 v8 w7 w8 p9 p10 u9 u10 A B R T :=
  ⟨s _ h.mp, h.pt.mono s, h.s7.mono s, h.a7.mono fun _ _ x => x.mono s, h.s8.mono s, h.a8.mono fun _ _ x => x.mono s, s _ h.m9, h.a9.mono fun _ _ x => x.mono s, s _ h.m10, h.a10.mono fun _ _ x => x.mono s⟩
theorem fn_law (T : Txt K mg c_BadStretch c_Stretch c_ONE) {f : Addr} {fd : FuncData} (F : Fun K "law" "law" s_law f fd) : FnOk P w K mg base CX0 7 f fd ["_law_script"] (sp_law K) := by
  have O__law_ends := ok__law_ends (P := P) (w := w) (base := base) T
  have O__law_given := ok__law_given (P := P) (w := w) (base := base) T
  have O__law_hand := ok__law_hand (P := P) (w := w) (base := base) T
  have O__law_in := ok__law_in (P := P) (w := w) (base := base) T
  have O__law_is_made := ok__law_is_made (P := P) (w := w) (base := base) T
  have O__law_list_of := ok__law_list_of (P := P) (w := w) (base := base) T
  have O__law_made := ok__law_made (P := P) (w := w) (base := base) T
  have O__law_points := ok__law_points (P := P) (w := w) (base := base) T
  have O__law_refusals := ok__law_refusals (P := P) (w := w) (base := base) T
  have O__law_truth := ok__law_truth (P := P) (w := w) (base := base) T
  have O_are_within := ok_are_within (P := P) (w := w) (base := base) T
  have O_both_stretches := ok_both_stretches (P := P) (w := w) (base := base) T
  have O_either_stretches := ok_either_stretches (P := P) (w := w) (base := base) T
  have O_Stretch_2 := ok_Stretch___init___2 (P := P) (w := w) (base := base) T
  have O_Stretch___eq__ := ok_Stretch___eq__ (P := P) (w := w) (base := base) T
  have O_Stretch___contains__ := ok_Stretch___contains__ (P := P) (w := w) (base := base) T
  refine F.ok sc_law (fun vs H Q E h => ?_) (fun cdv A outer s H vs Q E hr h => ?_)
  · obtain ⟨a, rfl, _⟩ := h; rfl
  · obtain ⟨a, rfl, h⟩ := h
    refine ⟨_, (pss_cons (ps_set (i := 1) sc_law.nd rfl (by first | exact Or.inl rfl | exact Or.inr rfl) (Z.pe_callO O__law_hand (by rfl) (hr.mono (by decide)) pass0 (pa_cons (pv 0) pa_nil)))
      (pss_cons (ps_for PassesOwn.never (by rfl) (pi_range1 (by rfl) T.b_range (pa_cons pe_int pa_nil)) (pg_name (i := 2) sc_law.nd rfl (by first | exact Or.inl rfl | exact Or.inr rfl))
        (pss_cons (ps_set (i := 3) sc_law.nd rfl (by first | exact Or.inl rfl | exact Or.inr rfl) (Z.pe_callO O__law_ends (by rfl) (hr.mono (by decide)) pass0 (pa_cons (pv 1) pa_nil)))
        (pss_cons (ps_set (i := 4) sc_law.nd rfl (by first | exact Or.inl rfl | exact Or.inr rfl) (Z.pe_callO O__law_made (by rfl) (hr.mono (by decide)) pass0 (pa_cons (pv 1) (pa_cons (pv 3) pa_nil))))
        (pss_cons (ps_set (i := 5) sc_law.nd rfl (by first | exact Or.inl rfl | exact Or.inr rfl) (Z.pe_callO O__law_made (by rfl) (hr.mono (by decide)) pass0 (pa_cons (pv 1) (pa_cons (pv 3) pa_nil))))
        (pss_cons (ps_set (i := 6) sc_law.nd rfl (by first | exact Or.inl rfl | exact Or.inr rfl) (pe_ifExp (pt_cmpR (Z.zNe (Z.hu0 hr)) (pe_slice Z.zSl (pv 3) (po_some pe_int) po_none) (pe_lst pa_nil) (nomark _)) (Z.pe_callO O__law_points (by rfl) (hr.mono (by decide)) pass0 (pa_cons (pe_slice Z.zSl (pv 3) (po_some pe_int) po_none) pa_nil)) (pe_lst (pa_cons (pe_tup (pa_cons pe_int (pa_cons pe_int pa_nil))) pa_nil))))
        (pss_cons (ps_set (i := 7) sc_law.nd rfl (by first | exact Or.inl rfl | exact Or.inr rfl) (Z.pe_callO O__law_given (by rfl) (hr.mono (by decide)) pass0 (pa_cons (pv 1) (pa_cons (Z.pe_callO O__law_list_of (by rfl) (hr.mono (by decide)) pass0 (pa_cons (pv 4) pa_nil)) pa_nil))))
        (pss_cons (ps_set (i := 8) sc_law.nd rfl (by first | exact Or.inl rfl | exact Or.inr rfl) (Z.pe_callO O__law_given (by rfl) (hr.mono (by decide)) pass0 (pa_cons (pv 1) (pa_cons (Z.pe_callO O__law_list_of (by rfl) (hr.mono (by decide)) pass0 (pa_cons (pv 5) pa_nil)) pa_nil))))
        (pss_cons (ps_set (i := 9) sc_law.nd rfl (by first | exact Or.inl rfl | exact Or.inr rfl) (Z.pe_callO O_either_stretches (by rfl) (hr.mono (by decide)) pass0 (pa_cons (pv 7) (pa_cons (pv 8) pa_nil))))
        (pss_cons (ps_set (i := 10) sc_law.nd rfl (by first | exact Or.inl rfl | exact Or.inr rfl) (Z.pe_callO O_both_stretches (by rfl) (hr.mono (by decide)) pass0 (pa_cons (pv 7) (pa_cons (pv 8) pa_nil))))
        (pss_cons (ps_if (pt_not (Z.pt_truN (Z.pe_callO O__law_is_made (by rfl) (hr.mono (by decide)) pass0 (pa_cons (pv 9) (pa_cons (pe_lst (pa_cons (pv 4) (pa_cons (pv 5) (pa_cons pe_bl pa_nil)))) (pa_cons (pv 6) (pa_cons (pv 3) pa_nil)))))))
          (pss_one (ps_ret pe_bl))
          pss_nil)
        (pss_cons (ps_if (pt_not (Z.pt_truN (Z.pe_callO O__law_is_made (by rfl) (hr.mono (by decide)) pass0 (pa_cons (pv 10) (pa_cons (pe_lst (pa_cons (pv 4) (pa_cons (pv 5) (pa_cons pe_bl pa_nil)))) (pa_cons (pv 6) (pa_cons (pv 3) pa_nil)))))))
          (pss_one (ps_ret pe_bl))
          pss_nil)
        (pss_cons (ps_if (PW.pt (pw_or (pt_cmpR (show OpR _ _ (Z.rNeG (DTup K (DIns c_Stretch (StrR c_Stretch)))) from Z.op_neTupO O_Stretch___eq__ (StrR c_Stretch) StrR.ext (StrR.spec (K := K)) (hr.mono (by decide))) (Z.pe_callO O_either_stretches (by rfl) (hr.mono (by decide)) pass0 (pa_cons (pv 8) (pa_cons (pv 7) pa_nil))) (pv 9) (nomark _)) (pw_or1 (pt_cmpR (show OpR _ _ (Z.rNeG (DTup K (DIns c_Stretch (StrR c_Stretch)))) from Z.op_neTupO O_Stretch___eq__ (StrR c_Stretch) StrR.ext (StrR.spec (K := K)) (hr.mono (by decide))) (Z.pe_callO O_both_stretches (by rfl) (hr.mono (by decide)) pass0 (pa_cons (pv 8) (pa_cons (pv 7) pa_nil))) (pv 10) (nomark _)))))
          (pss_one (ps_ret pe_bl))
          pss_nil)
        (pss_cons (ps_set (i := 11) sc_law.nd rfl (by first | exact Or.inl rfl | exact Or.inr rfl) (pe_cmpR (Z.zEq (Z.hu0 hr)) (by exact (pe_lc (own := [("_law_ratio_here", 13)]) (g := (gName 13)) (by rfl) sc_law.nd (Z.pi_seq (pv 6)) (blkOk_by (own := [("_law_ratio_here", 13)]) (N := ["_law_script", "_law_hand_here", "_law_turn", "_law_ends_here", "_law_one", "_law_other", "_law_points_here", "_law_firsts", "_law_seconds", "_law_either", "_law_both", "_law_within", "_law_k", "_law_ratio_here", "_law_mate", "_law_again"]) (sc := defScope s_law) (by decide +kernel)) (fun _ _ _ _ _ => (by exact (pg_name (i := 13) sc_law.nd rfl (by first | exact Or.inl rfl | exact Or.inr rfl)))) (fun _ _ _ _ _ => (by exact (pts_one (PW.pt (pw_and (show PT _ _ (Z.rTru K _) from Z.pt_truN (Z.pe_callO O__law_in (by rfl) (hr.mono (by decide)) pass0 (pa_cons (pv 4) (pa_cons (pv 13) pa_nil)))) (pw_and1 (pt_not (show PT _ _ (Z.rTru K _) from Z.pt_truN (Z.pe_callO O__law_in (by rfl) (hr.mono (by decide)) pass0 (pa_cons (pv 5) (pa_cons (pv 13) pa_nil))))))))))) (fun _ _ _ _ _ => (by exact pe_int)))) (pe_lst pa_nil) (nomark _)))
        (pss_cons (ps_if (pt_not (Z.pt_truN (Z.pe_callO O__law_truth (by rfl) (hr.mono (by decide)) pass0 (pa_cons (Z.pe_callO O_are_within (by rfl) (hr.mono (by decide)) pass0 (pa_cons (pv 7) (pa_cons (pv 8) pa_nil))) (pa_cons (pv 11) pa_nil)))))
          (pss_one (ps_ret pe_bl))
          pss_nil)
        (pss_cons (ps_if (PW.pt (pw_or (pt_cmpR Z.zIsNot (Z.pe_callO O_are_within (by rfl) (hr.mono (by decide)) pass0 (pa_cons (pv 10) (pa_cons (pv 7) pa_nil))) pe_bl (nomark _)) (pw_or (pt_cmpR Z.zIsNot (Z.pe_callO O_are_within (by rfl) (hr.mono (by decide)) pass0 (pa_cons (pv 7) (pa_cons (pv 9) pa_nil))) pe_bl (nomark _)) (pw_or1 (pt_cmpR Z.zIsNot (Z.pe_callO O_are_within (by rfl) (hr.mono (by decide)) pass0 (pa_cons (pe_tup pa_nil) (pa_cons (pv 8) pa_nil))) pe_bl (nomark _))))))
          (pss_one (ps_ret pe_bl))
          pss_nil)
        (pss_cons (ps_for PassesOwn.never (by rfl) (pi_range1 (by rfl) T.b_range (pa_cons (pe_callB Z.zLen (by rfl) T.b_len (by decide +kernel) (pa_cons (pv 4) pa_nil)) pa_nil)) (pg_name (i := 12) sc_law.nd rfl (by first | exact Or.inl rfl | exact Or.inr rfl))
          (pss_cons (ps_if (PW.pt (pw_or (pt_not (Z.pt_truN (Z.pe_callO O__law_truth (by rfl) (hr.mono (by decide)) pass0 (pa_cons (pe_cmpR (Z.op_eqOwnO O_Stretch___eq__ (hr.mono (by decide))) (pe_ix ix_seq (pv 7) (pv 12) (fun _ _ => rfl)) (Z.pe_makeO O_Stretch_2 (hr.mono (by decide)) T.g_Stretch (by rfl) passL (pa_cons (pe_ix ix_seq (pe_ix ix_seq (pv 4) (pv 12) (fun _ _ => rfl)) pe_int (fun _ _ => rfl)) (pa_cons (pe_ix ix_seq (pe_ix ix_seq (pv 4) (pv 12) (fun _ _ => rfl)) pe_int (fun _ _ => rfl)) pa_nil))) (nomark _)) (pa_cons pe_bl pa_nil))))) (pw_or1 (pt_cmpR (Z.op_eqOwnO O_Stretch___eq__ (hr.mono (by decide))) (pe_ix ix_seq (pv 7) (pv 12) (fun _ _ => rfl)) (pe_ix ix_seq (pv 4) (pv 12) (fun _ _ => rfl)) (nomark _)))))
            (pss_one (ps_ret pe_bl))
            pss_nil)
          (pss_cons (ps_for PassesOwn.never (by rfl) (Z.pi_seq (pe_op Z.zAdd (pv 6) (pe_lst (pa_cons (pe_tup (pa_cons pe_int (pa_cons pe_int pa_nil))) (pa_cons (pe_tup (pa_cons pe_int (pa_cons pe_int pa_nil))) (pa_cons (pe_tup (pa_cons (pe_un un_neg pe_int) (pa_cons pe_int pa_nil))) pa_nil)))))) (pg_name (i := 13) sc_law.nd rfl (by first | exact Or.inl rfl | exact Or.inr rfl))
            (pss_one (ps_if (pt_not (Z.pt_truN (Z.pe_callO O__law_truth (by rfl) (hr.mono (by decide)) pass0 (pa_cons (pe_cmpR (Z.op_inO O_Stretch___contains__ (hr.mono (by decide))) (pv 13) (pe_ix ix_seq (pv 7) (pv 12) (fun _ _ => rfl)) (by rfl)) (pa_cons (Z.pe_callO O__law_in (by rfl) (hr.mono (by decide)) pass0 (pa_cons (pe_lst (pa_cons (pe_ix ix_seq (pv 4) (pv 12) (fun _ _ => rfl)) pa_nil)) (pa_cons (pv 13) pa_nil))) pa_nil)))))
              (pss_one (ps_ret pe_bl))
              pss_nil)))
          (pss_one (ps_for PassesOwn.never (by rfl) (Z.pi_seq (pv 5)) (pg_name (i := 14) sc_law.nd rfl (by first | exact Or.inl rfl | exact Or.inr rfl))
            (pss_one (ps_if (pt_not (Z.pt_truN (Z.pe_callO O__law_truth (by rfl) (hr.mono (by decide)) pass0 (pa_cons (pe_cmpR (Z.op_eqOwnO O_Stretch___eq__ (hr.mono (by decide))) (pe_ix ix_seq (pv 7) (pv 12) (fun _ _ => rfl)) (Z.pe_makeO O_Stretch_2 (hr.mono (by decide)) T.g_Stretch (by rfl) passL (pa_cons (pe_ix ix_seq (pv 14) pe_int (fun _ _ => rfl)) (pa_cons (pe_ix ix_seq (pv 14) pe_int (fun _ _ => rfl)) pa_nil))) (nomark _)) (pa_cons (pe_cmpR (Z.zEq (Z.hu0 hr)) (pe_ix ix_seq (pv 4) (pv 12) (fun _ _ => rfl)) (pv 14) (nomark _)) pa_nil)))))
              (pss_one (ps_ret pe_bl))
              pss_nil)))))))
        (pss_cons (ps_for PassesOwn.never (by rfl) (pi_range1 (by rfl) T.b_range (pa_cons pe_int pa_nil)) (pg_name (i := 15) sc_law.nd rfl (by first | exact Or.inl rfl | exact Or.inr rfl))
          (pss_one (ps_if (pt_not (Z.pt_truN (Z.pe_callO O__law_refusals (by rfl) (hr.mono (by decide)) pass0 (pa_cons (pv 1) (pa_cons (pv 3) pa_nil)))))
            (pss_one (ps_ret pe_bl))
            pss_nil)))
        (pss_one (ps_if (PW.pt (pw_or (pt_cmpR (Z.zNe (Z.hu0 hr)) (pe_callB Z.zLen (by rfl) T.b_len (by decide +kernel) (pa_cons (pv 7) pa_nil)) (pe_callB Z.zLen (by rfl) T.b_len (by decide +kernel) (pa_cons (pv 4) pa_nil)) (nomark _)) (pw_or1 (pt_cmpR (Z.zNe (Z.hu0 hr)) (pe_callB Z.zLen (by rfl) T.b_len (by decide +kernel) (pa_cons (pv 8) pa_nil)) (pe_callB Z.zLen (by rfl) T.b_len (by decide +kernel) (pa_cons (pv 5) pa_nil)) (nomark _)))))
          (pss_one (ps_ret pe_bl))
          pss_nil)))))))))))))))))))
      (pss_one (ps_ret
            pe_bl)))), ?_⟩
    try dsimp only [cxOf, Cx.nox, Cx.wish]
    refine Z.at_start (σ' := [some a, none, none, none, none, none, none, none, none, none, none, none, none, none, none, none]) rfl ?_
    obtain ⟨l, ns0, rfl, hS, hl, q⟩ := h
    walk_at "z"
    refine ⟨_, rfl, l, ns0, rfl, hS, hl, fun hp cp H1 F1 => ?_⟩
    walk_at "z"
    refine Z.wForW walk_range (fun i σ H' => ∃ (LL : List Z.En) (v2 v3 v4 v5 v6 v7 v8 v9 v10 v11 v12 v13 v14 v15 : Option V), σ = [some (.ref l), some (.ref hp), v2, v3, v4, v5, v6, v7, v8, v9, v10, v11, v12, v13, v14, v15] ∧ Z.En.hand hp cp ∈ LL ∧ Z.Fx H' LL) ⟨_, none, none, none, none, none, none, none, none, none, none, none, none, none, none, rfl, .head _, F1⟩ (fun _ _ _ _ _ => trivial) ?_ ?_
    case refine_2 =>
      rintro σ H2 ⟨LL, v2, v3, v4, v5, v6, v7, v8, v9, v10, v11, v12, v13, v14, v15, rfl, hm, F2⟩
      walk_at "z"
      exact q _
    rintro i x σ H2 H3 hi ⟨LL, v2, v3, v4, v5, v6, v7, v8, v9, v10, v11, v12, v13, v14, v15, rfl, hm, F2⟩ ⟨rfl, rfl⟩
    clear F1 hS
    walk_at "zg"
    walk_at "y"
    refine use__law_ends F2 hm fun q us rs L1 H4 he au s1 F4 => ?_
    have sc := he.scale
    have ea := ends_at he au
    generalize hSS : scaleOf rs = S at *
    walk_at "y"
    refine use__law_made F4 (.tail _ (s1.subset hm)) (.head _) sc (ea.mono fun _ m => .tail _ m) fun p1 fa' A L5 H5 cA oA lA aA s5 F5 => ?_
    have hm5 := s5.subset (.tail _ (s1.subset hm))
    have mq5 := s5.subset (.head _)
    have sub5 : ∀ e ∈ L1, e ∈ L5 := fun _ m => s5.subset (.tail _ m)
    walk_at "y"
    refine use__law_made F5 (.tail _ hm5) (.tail _ mq5) sc (ea.mono fun _ m => .tail _ (sub5 _ m)) fun p2 fb' B L6 H6 cB oB lB aB s6 F6 => ?_
    have fa6 : Fa S (.ob p2 (.lst fb') :: L6) hp cp q p1 p2 us fa' fb' A B := ⟨.tail _ (s6.subset (.tail _ hm5)), .tail _ (s6.subset (.tail _ mq5)), ea.mono fun _ m => .tail _ (s6.subset (.tail _ (sub5 _ m))), .tail _ (s6.subset (.head _)), .head _, aA.mono fun _ _ h => h.mono fun _ m => .tail _ (s6.subset (.tail _ m)), aB.mono fun _ _ h => h.mono fun _ m => .tail _ m⟩
    have au6 : Z.Al2 (RowV (.ob p2 (.lst fb') :: L6)) us rs := au.mono fun _ _ h => h.mono fun _ m => .tail _ (s6.subset (.tail _ (sub5 _ m)))
    clear F4 F5 ea aA aB au hm5 mq5 sub5 s5 s6 s1 F2 hm
    generalize hL6 : (Z.En.ob p2 (.lst fb') :: L6) = L6' at *
    walk_at "zg"
    refine Z.wSeq ?_
    refine Z.wAsg ?_
    refine Z.wMidE (fun v H' => ∃ (pp : Addr) (ps : List V) (L7 : List Z.En), v = .ref pp ∧ L6'.Sublist L7 ∧ Z.Fx H' (.ob pp (.lst ps) :: L7) ∧ Z.Al2 (RowV L7) ps (ptsGo (1, 1) rs.tail)) (fun R hR => ?_) ?_
    · have msl : Z.En.ob q (.lst us) ∈ L6' := fa6.mq
      walk_at "z"
      rename_i p7 H7 F7 p8 H8 F8
      rw [Z.cut_tail] at F7 F8
      have at7 := tail_al au6
      refine Z.wNeD F8 (.lst (.tail _ (.head _)) (rowsD (at7.mono fun _ _ h => h.mono fun _ m => .tail _ (.tail _ m)))) (.lst (.head _) .nil) (rowsD_sh _) rfl ?_
      rw [eqv_nil]
      walk_at "z"
      refine Z.wIf (fun h => ?_) (fun h => ?_)
      · have F8' := F8
        walk_at "z"
        rename_i p9 H9 F9
        rw [Z.cut_tail] at F9
        refine use__law_points F9 (.head _) (at7.mono fun _ _ h => h.mono fun _ m => .tail _ (.tail _ (.tail _ m))) (fun r hr => he.2.1 r (List.mem_of_mem_tail hr)) (by rw [List.length_tail]; have := he.2.2.2; omega) fun q9 u9 L9 H9 a9 s9 F9 => ?_
        exact hR _ _ ⟨q9, u9, L9, rfl, (List.Sublist.cons _ (.cons _ (.cons _ (.refl _)))).trans s9, F9, a9⟩
      · have hnil : rs.tail = [] := by
          have : (rs.tail.map fun r => PyData.tuple [.int r.1, .int r.2]).isEmpty = true := by simpa using h
          rw [List.isEmpty_iff, List.map_eq_nil_iff] at this
          exact this
        walk_at "z"
        rename_i p9 H9 F9 p10 H10 F10
        refine hR _ _ ⟨p10, [.ref p9], _, rfl, .cons _ (.cons _ (.cons _ (.refl _))), F10, ?_⟩
        rw [hnil]
        exact .one ⟨p9, rfl, .head _⟩
    rintro _ H7 ⟨pp, ps, L7, rfl, s7, F7, aps⟩
    have pt7 := pts_at he aps
    rw [hSS] at pt7
    have fa7 := fa6.mono (L' := .ob pp (.lst ps) :: L7) fun _ m => .tail _ (s7.subset m)
    have mpp7 : Z.En.ob pp (.lst ps) ∈ (Z.En.ob pp (.lst ps) :: L7) := .head _
    have pt7' := pt7.mono (L' := .ob pp (.lst ps) :: L7) fun _ m => .tail _ m
    clear fa6 s7 hL6 au6 aps pt7 F6
    generalize (Z.En.ob pp (.lst ps) :: L7) = M7 at *
    walk_at "zg"
    walk_at "y"
    refine use__law_list_of F7 sc fa7.m1 fa7.aA oA lA fun q8 w7 L8 H8 a7 s8 F8 => ?_
    walk_at "y"
    refine use__law_given F8 (.tail _ (s8.subset fa7.hm)) (.head _) fun vv7 e9 H9 sq7 F9 => ?_
    have fa9 := fa7.mono (L' := e9 :: .ob q8 (.lst w7) :: L8) fun _ m => .tail _ (.tail _ (s8.subset m))
    have mpp9 := (List.mem_cons_of_mem e9 (List.mem_cons_of_mem (Z.En.ob q8 (.lst w7)) (s8.subset mpp7)))
    have pt9 := pt7'.mono (L' := e9 :: .ob q8 (.lst w7) :: L8) fun _ m => .tail _ (.tail _ (s8.subset m))
    have a79 := a7.mono (R' := StrV c_Stretch S (e9 :: .ob q8 (.lst w7) :: L8)) fun _ _ h => h.mono fun _ m => .tail _ (.tail _ m)
    clear fa7 mpp7 pt7' a7 F7 F8 s8
    generalize (e9 :: Z.En.ob q8 (.lst w7) :: L8) = M9 at *
    walk_at "y"
    refine use__law_list_of F9 sc fa9.m2 fa9.aB oB lB fun q10 w8 L10 H10 a8 s10 F10 => ?_
    walk_at "y"
    refine use__law_given F10 (.tail _ (s10.subset fa9.hm)) (.head _) fun vv8 e11 H11 sq8 F11 => ?_
    have fa11 := fa9.mono (L' := e11 :: .ob q10 (.lst w8) :: L10) fun _ m => .tail _ (.tail _ (s10.subset m))
    have mpp11 := (List.mem_cons_of_mem e11 (List.mem_cons_of_mem (Z.En.ob q10 (.lst w8)) (s10.subset mpp9)))
    have pt11 := pt9.mono (L' := e11 :: .ob q10 (.lst w8) :: L10) fun _ m => .tail _ (.tail _ (s10.subset m))
    have a711 := a79.mono (R' := StrV c_Stretch S (e11 :: .ob q10 (.lst w8) :: L10)) fun _ _ h => h.mono fun _ m => .tail _ (.tail _ (s10.subset m))
    have sq711 := sq7.mono (L' := e11 :: .ob q10 (.lst w8) :: L10) fun _ m => .tail _ (.tail _ (s10.subset m))
    have a811 := a8.mono (R' := StrV c_Stretch S (e11 :: .ob q10 (.lst w8) :: L10)) fun _ _ h => h.mono fun _ m => .tail _ (.tail _ m)
    clear fa9 mpp9 pt9 a79 sq7 a8 F9 F10 s10
    generalize (e11 :: Z.En.ob q10 (.lst w8) :: L10) = M11 at *
    have l7 : w7.length ≤ 100 := by rw [a711.len]; omega
    have l8 : w8.length ≤ 100 := by rw [a811.len]; omega
    walk_at "y"
    refine use_either_stretches F11 sc sq711 a711 l7 sq8 a811 l8 cA cB oA oB fun p9 u9 R M12 H12 mR hu9 a9 s12 m9 F12 => ?_
    walk_at "y"
    refine use_both_stretches F12 sc (sq711.mono fun _ m => s12.subset m) (a711.mono fun _ _ h => h.le s12) l7 (sq8.mono fun _ m => s12.subset m) (a811.mono fun _ _ h => h.le s12) l8 oA oB fun p10 u10 M13 H13 hu10 a10 s13 m10 F13 => ?_
    have s1213 := s12.trans s13
    have fa := fa11.mono (L' := M13) fun _ m => s1213.subset m
    have fb : Fb c_Stretch S M13 pp ps vv7 vv8 w7 w8 p9 p10 u9 u10 A B R (bothN A B) := ⟨s1213.subset mpp11, pt11.mono fun _ m => s1213.subset m, sq711.mono fun _ m => s1213.subset m, a711.mono fun _ _ h => h.le s1213, sq8.mono fun _ m => s1213.subset m, a811.mono fun _ _ h => h.le s1213, s13.subset m9, a9.mono fun _ _ h => h.le s13, m10, a10⟩
    clear fa11 mpp11 pt11 sq711 a711 sq8 a811 a9 m9 a10 m10 s12 s13 s1213 F11 F12
    have mT := both_made cA cB oA oB
    have mq2 : Made S.length (wantR false A B) R := mR.want fun q => rfl
    have mq3 : Made S.length (wantR true A B) (bothN A B) := mT.want fun q => rfl
    walk_at "z"
    rename_i t14 H14 F14
    have up14 : ∀ e ∈ M13, e ∈ (Z.En.ob t14 (.lst [.ref p1, .ref p2, .bl false]) :: M13) := fun _ m => .tail _ m
    have fa14 := fa.mono up14
    have fb14 := fb.mono up14
    refine use__law_is_made F14 sc fb14.m9 (by omega) fb14.a9 mq2 (.head _) fa14.m1 fa14.m2 fa14.aA fa14.aB fb14.mp fb14.pt fa14.mq fa14.ea fun H15 F15 => ?_
    have F16 := F15.sub (L' := M13) (.cons _ (.refl _))
    clear up14 fa14 fb14 F14 F15
    walk_at "z"
    rename_i t14 H14 F14
    have up14 : ∀ e ∈ M13, e ∈ (Z.En.ob t14 (.lst [.ref p1, .ref p2, .bl true]) :: M13) := fun _ m => .tail _ m
    have fa14 := fa.mono up14
    have fb14 := fb.mono up14
    refine use__law_is_made F14 sc fb14.m10 hu10 fb14.a10 mq3 (.head _) fa14.m1 fa14.m2 fa14.aA fa14.aB fb14.mp fb14.pt fa14.mq fa14.ea fun H15 F15 => ?_
    have F17 := F15.sub (L' := M13) (.cons _ (.refl _))
    clear up14 fa14 fb14 F14 F15
    walk_at "z"
    refine use_either_stretches F17 sc fb.s8 fb.a8 l8 fb.s7 fb.a7 l7 cB cA oB oA fun p11 u11 R2 M14 H14 mR2 hu11 a11 s14 m11 F14 => ?_
    have eR : R2 = R := mR2.uni sc.even mR fun q _ => Bool.or_comm _ _
    subst eR
    walk_at "z"
    refine ⟨⟨p11, p9, u11, u9, rfl, rfl, F14.tup m11, F14.tup (s14.subset fb.m9), prs_str (K := K) F14 sc a11 (fb.a9.mono fun _ _ h => h.le s14)⟩, fun H15 ex => ?_⟩
    have F15 := (F14.same ex).sub s14
    clear F14 a11 m11 s14
    walk_at "z"
    refine use_both_stretches F15 sc fb.s8 fb.a8 l8 fb.s7 fb.a7 l7 oB oA fun p11 u11 M14 H14 hu11 a11 s14 m11 F14 => ?_
    have eT : bothN B A = bothN A B := (both_made cB cA oB oA).uni sc.even mT fun q _ => Bool.and_comm _ _
    rw [eT] at a11
    walk_at "z"
    refine ⟨⟨p11, p10, u11, u10, rfl, rfl, F14.tup m11, F14.tup (s14.subset fb.m10), prs_str (K := K) F14 sc a11 (fb.a10.mono fun _ _ h => h.le s14)⟩, fun H18 ex => ?_⟩
    have F18 := (F14.same ex).sub s14
    clear F14 a11 m11 s14
    walk_at "z"
    have hpl : ps.length + 1 = S.length := fb.pt.1
    have lb := Z.line_big
    have hps : ps.length ≤ 20 := by
      have := fa.ea.1
      have := fa.ea.2.2.1
      omega
    refine Z.wLcS (.lst fb.mp) F18 (fun i acc L' => L' = M13 ∧ ∃ m : Nat, m ≤ i ∧ acc = (List.replicate m (1 : Int)).map V.int ∧ (m = 0 ↔ ∀ k, k < i → hasP A (k + 1) = true → hasP B (k + 1) = true)) ⟨rfl, 0, Nat.le_refl _, rfl, by simp⟩ (fun i acc L' r e he => r.1 ▸ he) ?_ ?_
    · rintro j x D H19 acc L' hx ⟨rfl, m, hmj, rfl, hm⟩ F19
      have hj := (List.getElem?_eq_some_iff.mp hx).1
      have hp := fb.pt.2 j x hx
      have no : ¬ (hasP A (j + 1) = true ∧ hasP B (j + 1) = false) → (m = 0 ↔ ∀ k, k < j + 1 → hasP A (k + 1) = true → hasP B (k + 1) = true) := fun h => by
        rw [hm]
        constructor
        · intro q k hk a
          rcases Nat.lt_or_ge k j with g | g
          · exact q k g a
          · obtain rfl : k = j := by omega
            rcases Bool.eq_false_or_eq_true (hasP B (k + 1)) with e | e
            · exact e
            · exact absurd ⟨a, e⟩ h
        · intro q k hk
          exact q k (by omega)
      walk_at "zw"
      walk_at "z"
      refine ⟨rfl, ?_⟩
      walk_at "z"
      refine use__law_in F19 sc (.tail _ fa.m1) (fa.aA.mono fun _ _ h => h.mono fun _ m => .tail _ m) (hp.mono fun _ m => .tail _ m) fun H20 F20 => ?_
      rw [any_inRow (by omega)]
      walk_at "z"
      refine Z.wIf (fun h => ?_) (fun h => ?_)
      · walk_at "z"
        refine use__law_in F20 sc (.tail _ fa.m2) (fa.aB.mono fun _ _ h => h.mono fun _ m => .tail _ m) (hp.mono fun _ m => .tail _ m) fun H21 F21 => ?_
        rw [any_inRow (by omega)]
        walk_at "z"
        refine Z.wIf (fun h2 => ?_) (fun h2 => ?_)
        · have h2' : hasP B (j + 1) = false := by simpa using h2
          walk_at "z"
          refine Z.lcPut F21 (by rw [List.length_map, List.length_replicate]; omega) ⟨rfl, m + 1, by omega, by rw [List.replicate_succ', List.map_append]; rfl, ?_⟩
          constructor
          · intro e; omega
          · intro q
            have := q j (by omega) h
            rw [h2'] at this
            cases this
        · have h2' : hasP B (j + 1) = true := by simpa using h2
          exact ⟨_, _, F21, rfl, m, by omega, rfl, no fun q => by rw [h2'] at q; cases q.2⟩
      · walk_at "z"
        exact ⟨_, _, F20, rfl, m, by omega, rfl, no fun q => by rw [h] at q; cases q.1⟩
    rintro D acc L' H19 F19 ⟨rfl, m, hml, rfl, hm⟩
    have hwi : withinN A B = decide (m = 0) := within_pts sc.even sc.len cB oA oB (hm.trans ⟨fun q k hk => q k (by omega), fun q k hk => q k (by omega)⟩)
    walk_at "z"
    rename_i pe H20 F20
    refine Z.wEqD F20 (.lst (.tail _ (.head _)) (Z.DtA.ints _)) (.lst (.head _) .nil) (Z.Sh.lst (Z.ShA.ints _)).ok rfl ?_
    rw [ones_nil, ← hwi]
    have F21 := F20.sub (L' := L') (.cons _ (.cons _ (.refl _)))
    clear F20 F19 F18
    have l710 : w7.length ≤ 10000 := by omega
    have l810 : w8.length ≤ 10000 := by omega
    walk_at "z"
    refine use_are_within F21 sc fb.s7 fb.a7 l710 fb.s8 fb.a8 l810 fun H22 F22 => ?_
    walk_at "z"
    refine use__law_truth ?_
    rw [beq_self_eq_true]
    walk_at "z"
    have wTA : withinN (bothN A B) A = true := (within_iff sc.even sc.len cA mT.2.1 oA).mpr fun q _ h2 h3 => by
      have := mT.2.2 q h2
      rw [h3] at this
      simp only [Bool.true_eq, Bool.and_eq_true] at this
      exact this.1
    have wAR : withinN A R2 = true := (within_iff sc.even sc.len mR.1 oA mR.2.1).mpr fun q _ h2 h3 => by
      rw [mR.2.2 q h2]
      show (hasP A q || hasP B q) = true
      rw [h3]
      rfl
    refine use_are_within F22 sc (.tup fb.m10) fb.a10 hu10 fb.s7 fb.a7 l710 fun H23 F23 => ?_
    rw [wTA]
    walk_at "z"
    refine use_are_within F23 sc fb.s7 fb.a7 l710 (.tup fb.m9) fb.a9 (by omega) fun H24 F24 => ?_
    rw [wAR]
    walk_at "z"
    rename_i pz H25 F25
    refine use_are_within F25 sc (.tup (.head _)) .nil (Nat.zero_le _) (fb.s8.mono fun _ m => .tail _ m) (fb.a8.mono fun _ _ h => h.mono fun _ m => .tail _ m) l810 fun H26 F26 => ?_
    have F27 := F26.sub (L' := L') (.cons _ (.refl _))
    rw [show withinN [] B = true from rfl]
    clear F21 F22 F23 F24 F25 F26
    walk_at "z"
    have lfa : fa'.length ≤ 5 := by rw [fa.aA.len]; exact lA
    refine Z.wLenL (F27.lst fa.m1) ?_
    walk_at "z"
    refine Z.wForW walk_range (fun j σ H' => ∃ (v12 v13 v14 : Option V), σ = [some (.ref l), some (.ref hp), some (.int (0 + (i : Nat))), some (.ref q), some (.ref p1), some (.ref p2), some (.ref pp), some vv7, some vv8, some (.ref p9), some (.ref p10), some (.bl (withinN A B)), v12, v13, v14, v15] ∧ Z.Fx H' L') ⟨_, _, _, rfl, F27⟩ (fun _ _ _ _ _ => trivial) ?_ ?_
    · rintro j x σ H28 H29 hj ⟨v12, v13, v14, rfl, F28⟩ ⟨rfl, hx⟩
      have hx : x = .int (j : Nat) := by rw [hx]; show V.int (0 + (j : Int)) = _; rw [Int.zero_add]
      subst hx
      have hjl : j < fa'.length := by simpa using hj
      obtain ⟨c1, hc1⟩ : ∃ c1, fa'[j]? = some c1 := ⟨_, List.getElem?_eq_getElem hjl⟩
      obtain ⟨r, hr, cv⟩ := fa.aA.getL hc1
      obtain ⟨s1, hs1, sv⟩ := fb.a7.getR hr
      have okr := oA r (List.mem_of_getElem? hr)
      obtain ⟨pc, xc, yc, rfl, mc, hxc, hyc⟩ := id cv
      walk_at "zg"
      walk_at "y"
      refine Z.wMidS (fun σ' H' => σ' = [some (.ref l), some (.ref hp), some (.int (0 + (i : Nat))), some (.ref q), some (.ref p1), some (.ref p2), some (.ref pp), some vv7, some vv8, some (.ref p9), some (.ref p10), some (.bl (withinN A B)), some (.int (j : Nat)), v13, v14, v15] ∧ Z.Fx H' L') (fun N hk => ?_) ?_
      · walk_at "z"
        refine Z.wIxSq fb.s7 F28 (v := s1) (L2.atI_nat hs1) ?_
        walk_at "z"
        refine Z.wIxL (F28.lst fa.m1) (v := .ref pc) (L2.atI_nat hc1) ?_
        walk_at "z"
        refine Z.wIxL (F28.lst fa.m1) (v := .ref pc) (L2.atI_nat hc1) ?_
        walk_at "z"
        refine use_StretchP F28 sc hxc hyc okr.1 okr.2.1 fun y dx H31 st F31 => ?_
        refine eq_str T.i_Stretch F31 sc (sv.mono fun _ m => .tail _ (.tail _ m)) st ?_
        rw [decide_eq_true (show r = (r.1, r.2) from rfl)]
        walk_at "z"
        refine use__law_truth ?_
        walk_at "z"
        refine Z.wIxSq (fb.s7.mono fun _ m => .tail _ (.tail _ m)) F31 (v := s1) (L2.atI_nat hs1) ?_
        walk_at "z"
        refine Z.wIxL (F31.lst (.tail _ (.tail _ fa.m1))) (v := .ref pc) (L2.atI_nat hc1) ?_
        refine eq_strT T.i_Stretch F31 sc (sv.mono fun _ m => .tail _ (.tail _ m)) (.tail _ (.tail _ mc)) ?_
        walk_at "z"
        exact hk _ _ ⟨rfl, F31.sub (.cons _ (.cons _ (.refl _)))⟩
      rintro _ H30 ⟨rfl, F30⟩
      refine Z.wSeq ?_
      refine Z.wMidS (fun σ' H' => ∃ v13, σ' = [some (.ref l), some (.ref hp), some (.int (0 + (i : Nat))), some (.ref q), some (.ref p1), some (.ref p2), some (.ref pp), some vv7, some vv8, some (.ref p9), some (.ref p10), some (.bl (withinN A B)), some (.int (j : Nat)), v13, v14, v15] ∧ Z.Fx H' L') (fun N hk => ?_) ?_
      · refine Z.wFor ?_
        walk_at "z"
        rename_i o1 H1 F1 o2 H2 F2 o3 H3 F3 o4 H4 F4
        have mp4 : Z.En.ob pp (.lst ps) ∈ (Z.En.ob o4 (.lst [.ref o1, .ref o2, .ref o3]) :: Z.En.ob o3 (.tup [.int (-2), .int 1]) :: Z.En.ob o2 (.tup [.int 1, .int 2]) :: Z.En.ob o1 (.tup [.int 1, .int 1]) :: L') := .tail _ (.tail _ (.tail _ (.tail _ fb.mp)))
        refine Z.wCatL (xs := ps) (ys := [.ref o1, .ref o2, .ref o3]) F4 mp4 (.head _) (by show ps.length + 3 ≤ 1000000; omega) fun pq H5 F5 => ?_
        have r1 : Z.Rt K (Z.En.ob pq (.lst (ps ++ [.ref o1, .ref o2, .ref o3])) :: Z.En.ob o4 (.lst [.ref o1, .ref o2, .ref o3]) :: Z.En.ob o3 (.tup [.int (-2), .int 1]) :: Z.En.ob o2 (.tup [.int 1, .int 2]) :: Z.En.ob o1 (.tup [.int 1, .int 1]) :: L') (.ref o1) 1 1 := ⟨o1, rfl, .inl (by walk_at "zm")⟩
        have r2 : Z.Rt K (Z.En.ob pq (.lst (ps ++ [.ref o1, .ref o2, .ref o3])) :: Z.En.ob o4 (.lst [.ref o1, .ref o2, .ref o3]) :: Z.En.ob o3 (.tup [.int (-2), .int 1]) :: Z.En.ob o2 (.tup [.int 1, .int 2]) :: Z.En.ob o1 (.tup [.int 1, .int 1]) :: L') (.ref o2) 1 2 := ⟨o2, rfl, .inl (by walk_at "zm")⟩
        have r3 : Z.Rt K (Z.En.ob pq (.lst (ps ++ [.ref o1, .ref o2, .ref o3])) :: Z.En.ob o4 (.lst [.ref o1, .ref o2, .ref o3]) :: Z.En.ob o3 (.tup [.int (-2), .int 1]) :: Z.En.ob o2 (.tup [.int 1, .int 2]) :: Z.En.ob o1 (.tup [.int 1, .int 1]) :: L') (.ref o3) (-2) 1 := ⟨o3, rfl, .inl (by walk_at "zm")⟩
        have subQ : L'.Sublist (Z.En.ob pq (.lst (ps ++ [.ref o1, .ref o2, .ref o3])) :: Z.En.ob o4 (.lst [.ref o1, .ref o2, .ref o3]) :: Z.En.ob o3 (.tup [.int (-2), .int 1]) :: Z.En.ob o2 (.tup [.int 1, .int 2]) :: Z.En.ob o1 (.tup [.int 1, .int 1]) :: L') := .cons _ (.cons _ (.cons _ (.cons _ (.cons _ (.refl _)))))
        have mpq : Z.En.ob pq (.lst (ps ++ [.ref o1, .ref o2, .ref o3])) ∈ (Z.En.ob pq (.lst (ps ++ [.ref o1, .ref o2, .ref o3])) :: Z.En.ob o4 (.lst [.ref o1, .ref o2, .ref o3]) :: Z.En.ob o3 (.tup [.int (-2), .int 1]) :: Z.En.ob o2 (.tup [.int 1, .int 2]) :: Z.En.ob o1 (.tup [.int 1, .int 1]) :: L') := .head _
        generalize (Z.En.ob pq (.lst (ps ++ [.ref o1, .ref o2, .ref o3])) :: Z.En.ob o4 (.lst [.ref o1, .ref o2, .ref o3]) :: Z.En.ob o3 (.tup [.int (-2), .int 1]) :: Z.En.ob o2 (.tup [.int 1, .int 2]) :: Z.En.ob o1 (.tup [.int 1, .int 1]) :: L') = LQ at *
        clear F1 F2 F3 F4 mp4
        refine Z.wForQ (L := LQ) (.lst mpq) F5 (fun k2 σ H' => ∃ (v13 : Option V), σ = [some (.ref l), some (.ref hp), some (.int (0 + (i : Nat))), some (.ref q), some (.ref p1), some (.ref p2), some (.ref pp), some vv7, some vv8, some (.ref p9), some (.ref p10), some (.bl (withinN A B)), some (.int (j : Nat)), v13, v14, v15] ∧ Z.Fx H' LQ) ⟨_, rfl, F5⟩ ?_ ?_ ?_
        · rintro k2 σ H' ⟨v13, rfl, F'⟩
          exact ⟨_, F', fun _ h => h⟩
        · rintro k2 x σ H6 hx ⟨v13, rfl, F6⟩
          have cases4 : (∃ k3, PosV S L' x k3) ∨ ∃ a b : Int, Z.Rt K LQ x a b ∧ Sz 1900 a ∧ Sz 1900 b ∧ cmpI a b 1 1 ≤ 0 := by
            by_cases hk : k2 < ps.length
            · rw [List.getElem?_append_left hk] at hx
              exact .inl ⟨_, fb.pt.2 k2 x hx⟩
            · rw [List.getElem?_append_right (by omega)] at hx
              generalize k2 - ps.length = k4 at hx
              rcases k4 with _ | _ | _ | k4
              · cases hx
                exact .inr ⟨1, 1, r1, sz_small (by decide), sz_small (by decide), by decide⟩
              · cases hx
                exact .inr ⟨1, 2, r2, sz_small (by decide), sz_small (by decide), by decide⟩
              · cases hx
                exact .inr ⟨-2, 1, r3, sz_small (by decide), sz_small (by decide), by decide⟩
              · simp at hx
          walk_at "z"
          refine Z.wIxSq (fb.s7.mono fun _ m => subQ.subset m) F6 (v := s1) (L2.atI_nat hs1) ?_
          rcases cases4 with ⟨k3, hp3⟩ | ⟨a, b, ra, sa, sb, hab⟩
          · refine in_str F6 sc (sv.le subQ) (hp3.le subQ) ?_
            walk_at "z"
            refine Z.wIxL (F6.lst (subQ.subset fa.m1)) (v := .ref pc) (L2.atI_nat hc1) ?_
            walk_at "z"
            rename_i t7 H7 F7
            refine use__law_in F7 sc (R := [r]) (.head _) (.one (cv.mono fun _ m => .tail _ (subQ.subset m))) (hp3.mono fun _ m => .tail _ (subQ.subset m)) fun H8 F8 => ?_
            rw [show ([r].any fun r => inRow r k3) = inRow r k3 by simp]
            walk_at "z"
            refine use__law_truth ?_
            rw [beq_self_eq_true]
            walk_at "z"
            exact ⟨_, rfl, F8.sub (.cons _ (.refl _))⟩
          · refine in_strR F6 sc (sv.le subQ) ra sa sb hab ?_
            walk_at "z"
            refine Z.wIxL (F6.lst (subQ.subset fa.m1)) (v := .ref pc) (L2.atI_nat hc1) ?_
            walk_at "z"
            rename_i t7 H7 F7
            refine use__law_inR F7 sc (R := [r]) (.head _) (.one (cv.mono fun _ m => .tail _ (subQ.subset m))) (ra.mono fun _ m => .tail _ m) sa sb hab fun H8 F8 => ?_
            walk_at "z"
            refine use__law_truth ?_
            walk_at "z"
            exact ⟨_, rfl, F8.sub (.cons _ (.refl _))⟩
        · rintro σ H6 ⟨v13, rfl, F6⟩
          exact hk _ _ ⟨_, rfl, F6.sub subQ⟩
      rintro _ H31 ⟨v13, rfl, F31⟩
      refine Z.wFor ?_
      walk_at "z"
      refine Z.wForQ (L := L') (.lst fa.m2) F31 (fun k2 σ H' => ∃ (v14 : Option V), σ = [some (.ref l), some (.ref hp), some (.int (0 + (i : Nat))), some (.ref q), some (.ref p1), some (.ref p2), some (.ref pp), some vv7, some vv8, some (.ref p9), some (.ref p10), some (.bl (withinN A B)), some (.int (j : Nat)), v13, v14, v15] ∧ Z.Fx H' L') ⟨_, rfl, F31⟩ ?_ ?_ ?_
      · rintro k2 σ H' ⟨v14, rfl, F'⟩
        exact ⟨_, F', fun _ h => h⟩
      · rintro k2 x σ H32 hx ⟨v14, rfl, F32⟩
        obtain ⟨t, ht, ct⟩ := fa.aB.getL hx
        have okt := oB t (List.mem_of_getElem? ht)
        obtain ⟨pt2, xt, yt, rfl, mt2, hxt, hyt⟩ := id ct
        walk_at "z"
        refine Z.wIxSq fb.s7 F32 (v := s1) (L2.atI_nat hs1) ?_
        walk_at "z"
        refine use_StretchP F32 sc hxt hyt okt.1 okt.2.1 fun y dx H33 st F33 => ?_
        refine eq_str T.i_Stretch F33 sc (sv.mono fun _ m => .tail _ (.tail _ m)) st ?_
        walk_at "z"
        refine Z.wIxL (F33.lst (.tail _ (.tail _ fa.m1))) (v := .ref pc) (L2.atI_nat hc1) ?_
        walk_at "zv"
        refine Z.wEqD F33 (cv.mono fun _ m => .tail _ (.tail _ m)).dt (ct.mono fun _ m => .tail _ (.tail _ m)).dt (cou_sh _ _) (cou_sh _ _) ?_
        rw [cou_eqv sc okr okt]
        walk_at "z"
        refine use__law_truth ?_
        rw [show id (decide (r = (t.1, t.2))) = decide (r = t) from rfl, beq_self_eq_true]
        walk_at "z"
        exact ⟨_, rfl, F33.sub (.cons _ (.cons _ (.refl _)))⟩
      · rintro σ H32 ⟨v14, rfl, F32⟩
        exact ⟨_, _, _, rfl, F32⟩
    rintro σ H28 ⟨v12, v13, v14, rfl, F28⟩
    walk_at "z"
    refine Z.wForW walk_range (fun j σ H' => ∃ (LL : List Z.En) (v15 : Option V), σ = [some (.ref l), some (.ref hp), some (.int (0 + (i : Nat))), some (.ref q), some (.ref p1), some (.ref p2), some (.ref pp), some vv7, some vv8, some (.ref p9), some (.ref p10), some (.bl (withinN A B)), v12, v13, v14, v15] ∧ L'.Sublist LL ∧ Z.Fx H' LL) ⟨L', v15, rfl, .refl _, F28⟩ (fun _ _ _ _ _ => trivial) ?_ ?_
    · rintro j x σ H29 H30 hj ⟨LL, v15, rfl, sl, F29⟩ ⟨rfl, rfl⟩
      walk_at "z"
      refine use__law_refusals F29 (sl.subset fa.hm) sc (sl.subset fa.mq) (fa.ea.mono fun _ m => sl.subset m) fun L31 H31 s31 F31 => ?_
      walk_at "z"
      exact ⟨L31, _, rfl, sl.trans s31, F31⟩
    rintro σ H29 ⟨LL, v15, rfl, sl, F29⟩
    have e7 : w7.length = fa'.length := by rw [fb.a7.len, fa.aA.len]
    have e8 : w8.length = fb'.length := by rw [fb.a8.len, fa.aB.len]
    walk_at "z"
    refine Z.wLenSq (fb.s7.mono fun _ m => sl.subset m) F29 ?_
    walk_at "z"
    refine Z.wLenL (F29.lst (sl.subset fa.m1)) ?_
    rw [e7]
    walk_at "z"
    rw [decide_eq_true rfl]
    walk_at "z"
    refine Z.wLenSq (fb.s8.mono fun _ m => sl.subset m) F29 ?_
    walk_at "z"
    refine Z.wLenL (F29.lst (sl.subset fa.m2)) ?_
    rw [e8]
    walk_at "z"
    rw [decide_eq_true rfl]
    walk_at "z"
    exact ⟨LL, _, _, _, _, _, _, _, _, _, _, _, _, _, _, rfl, sl.subset fa.hm, F29⟩
theorem ok_law (T : Txt K mg c_BadStretch c_Stretch c_ONE) : Z.Ok CX0 P w K mg base "law" 7 ["_law_script"] [] (sp_law K) := by
  obtain ⟨f, fd, F, g⟩ := T.d_law
  exact Z.mkOk F g (F.binds (ps := ["_law_script"]) fun _ _ _ _ _ _ us hl => match us, hl with | [_], _ => rfl) (fn_law T F)
end
section
open PyProof.Rows
theorem all_facts {l : PySem.W.OpenLaw} {w : World} {K : PySem.W.Frag} {h : Heap} {mg : Str → Option Value} {fa : Addr} (X : K.In h) (G : h.Ns mainGlobals mg)
    (hfa : mg "law" = some (.ref fa))
    {c_BadStretch N_BadStretch c_Stretch c_ONE f0 f1 f2 f3 f4 f5 f6 f7 f8 f9 f10 f11 f12 f13 f14 f15 f16 f17 f18 f19 f20 f21 f22 f23 f24 f25 f26 f27 f28 f29 f30 f31 f32 f33 f34 f35 f36 f37 f38 f39 f40 f41 p42 f42 f43 f44 : Addr} {ok_ONE od0 an0 od1 an1 od2 an2 od3 an3 od4 an4 od5 an5 od6 an6 od7 an7 od8 an8 od9 an9 od10 an10 od11 an11 od12 an12 od13 an13 od14 an14 od15 an15 od16 an16 od17 an17 od18 an18 od19 an19 od20 an20 od21 an21 od22 an22 od23 an23 od24 an24 od25 an25 od26 an26 od27 an27 od28 an28 od29 an29 od30 an30 od31 an31 od32 an32 od33 an33 od34 an34 od35 an35 od36 an36 od37 an37 od38 an38 od39 an39 od40 an40 od41 an41 od42 an42 od43 an43 od44 an44 : Option Addr} {ks_ONE sl0 sl1 sl2 sl3 sl4 sl5 sl6 sl7 sl8 sl9 sl10 sl11 sl12 sl13 sl14 sl15 sl16 sl17 sl18 sl19 sl20 sl21 sl22 sl23 sl24 sl25 sl26 sl27 sl28 sl29 sl30 sl31 sl32 sl33 sl34 sl35 sl36 sl37 sl38 sl39 sl40 sl41 sl42 sl43 sl44 : Array (Option Value)}
    {oc0 kV0 dc0 pm0 cd0 ct0 oc1 kV1 dc1 pm1 cd1 ct1 oc2 kV2 dc2 pm2 cd2 ct2 oc3 kV3 dc3 pm3 cd3 ct3 oc4 kV4 dc4 pm4 cd4 ct4 oc5 kV5 dc5 pm5 cd5 ct5 oc6 kV6 dc6 pm6 cd6 ct6 oc7 kV7 dc7 pm7 cd7 ct7 oc8 kV8 dc8 pm8 cd8 ct8 oc9 kV9 dc9 pm9 cd9 ct9 dV9 oc10 kV10 dc10 pm10 cd10 ct10 oc11 kV11 dc11 pm11 cd11 ct11 oc12 kV12 dc12 pm12 cd12 ct12 oc13 kV13 dc13 pm13 cd13 ct13 oc14 kV14 dc14 pm14 cd14 ct14 oc15 kV15 dc15 pm15 cd15 ct15 oc16 kV16 dc16 pm16 cd16 ct16 oc17 kV17 dc17 pm17 cd17 ct17 oc18 kV18 dc18 pm18 cd18 ct18 oc19 kV19 dc19 pm19 cd19 ct19 oc20 kV20 dc20 pm20 cd20 ct20 oc21 kV21 dc21 pm21 cd21 ct21 oc22 kV22 dc22 pm22 cd22 ct22 oc23 kV23 dc23 pm23 cd23 ct23 oc24 kV24 dc24 pm24 cd24 ct24 oc25 kV25 dc25 pm25 cd25 ct25 oc26 kV26 dc26 pm26 cd26 ct26 oc27 kV27 dc27 pm27 cd27 ct27 oc28 kV28 dc28 pm28 cd28 ct28 oc29 kV29 dc29 pm29 cd29 ct29 oc30 kV30 dc30 pm30 cd30 ct30 oc31 kV31 dc31 pm31 cd31 ct31 oc32 kV32 dc32 pm32 cd32 ct32 oc33 kV33 dc33 pm33 cd33 ct33 oc34 kV34 dc34 pm34 cd34 ct34 oc35 kV35 dc35 pm35 cd35 ct35 oc36 kV36 dc36 pm36 cd36 ct36 oc37 kV37 dc37 pm37 cd37 ct37 oc38 kV38 dc38 pm38 cd38 ct38 oc39 kV39 dc39 pm39 cd39 ct39 oc40 kV40 dc40 pm40 cd40 ct40 oc41 kV41 dc41 pm41 cd41 ct41 oc42 kV42 dc42 pm42 cd42 ct42 oc43 kV43 dc43 pm43 cd43 ct43 oc44 kV44 dc44 pm44 cd44 ct44 : Value}
    {nm_BadStretch : Str} {qq_BadStretch : Str} {bs_BadStretch : List Value} {bm_BadStretch : List Value} {sn_BadStretch : List Str} {sub_BadStretch : List Value} {ab_BadStretch : Bool} {col_BadStretch : Option Bool} {dd_BadStretch : Option Addr} {m0_BadStretch : Option Value} {m1_BadStretch : Option Value} {m2_BadStretch : Option Value} {m3_BadStretch : Option Value} {m5_BadStretch : Option Value} {ki_ONE : Array Value} {kn_ONE : Nat} {rest42 : List Value}
    (g_BadStretch : PySem.W.nsIn K mainGlobals "BadStretch" = some (some (.ref c_BadStretch)))
    (xL_BadStretch : K.lookup c_BadStretch = some (excClassObj nm_BadStretch qq_BadStretch c_BadStretch N_BadStretch bs_BadStretch bm_BadStretch true sn_BadStretch sub_BadStretch ab_BadStretch col_BadStretch dd_BadStretch m0_BadStretch m1_BadStretch m2_BadStretch m3_BadStretch m5_BadStretch "ValueError.__new__"))
    (rv_BadStretch : PySem.HandSPX.refsVE bm_BadStretch = true)
    (sa_BadStretch : PySem.W.findIn K (.ref c_BadStretch) "__setattr__" = some (some (.builtin "object.__setattr__")))
    (ex_BadStretch : PySem.W.subIn K (.ref c_BadStretch) (.type "BaseException") = some true)
    (ty_BadStretch : PySem.W.typeIn K (.ref c_BadStretch) = some (.type "type"))
    (kc_BadStretch : PySem.W.keepIn K (.ref c_BadStretch) = true)
    (ga_BadStretch : PySem.W.findIn K (.ref c_BadStretch) "__getattribute__" = some (some (.builtin "BaseException.__getattribute__")))
    (gg_BadStretch : PySem.W.findIn K (.ref c_BadStretch) "__getattr__" = some none)
    (hd_BadStretch : PySem.W.hasDictIn K c_BadStretch = true)
    (ic_BadStretch : PySem.W.isClsIn K c_BadStretch = true)
    (ss_BadStretch : PySem.W.subIn K (.ref c_BadStretch) (.ref c_BadStretch) = some true)
    (n_BadStretch_what : PySem.W.findIn K (.ref c_BadStretch) "what" = some none)
    (g_Stretch : PySem.W.nsIn K mainGlobals "Stretch" = some (some (.ref c_Stretch)))
    (pg_Stretch : PySem.W.plainGet K c_Stretch Str.empty = true)
    (hd_Stretch : PySem.W.hasDictIn K c_Stretch = true)
    (po_Stretch : PySem.W.plainOver K c_Stretch = true)
    (sa_Stretch : PySem.W.findIn K (.ref c_Stretch) "__setattr__" = some (some (.builtin "object.__setattr__")))
    (ha_Stretch : PySem.W.findIn K (.ref c_Stretch) "__class__" = some (some (.builtin "object.__class__")))
    (hn_Stretch : PySem.W.specialIn K (.builtin "object.__class__") "__get__" = some (some (.builtin "getset_descriptor.__get__")))
    (tk_Stretch : PySem.W.takesIn K (.builtin "object.__class__") = some true)
    (hm_Stretch : PySem.W.mroIn K c_Stretch (.type "object") = some true)
    (me_Stretch : PySem.W.kitOne K (.ref c_Stretch) (.ref c_Stretch) = some true)
    (nt_Stretch : PySem.W.kitOne K (.type "tuple") (.ref c_Stretch) = some false)
    (nl_Stretch : PySem.W.kitOne K (.type "list") (.ref c_Stretch) = some false)
    (ns_Stretch : PySem.W.kitOne K (.type "str") (.ref c_Stretch) = some false)
    (nf_Stretch : PySem.W.notFirst K c_Stretch (.type "tuple") = true)
    (n_Stretch_low : PySem.W.findIn K (.ref c_Stretch) "low" = some none)
    (n_Stretch_high : PySem.W.findIn K (.ref c_Stretch) "high" = some none)
    (kg_ONE : PySem.W.nsIn K mainGlobals "ONE" = some (some (.ref c_ONE)))
    (kl_ONE : K.lookup c_ONE = some ⟨.type "tuple", ok_ONE, .seq ki_ONE kn_ONE, ks_ONE⟩)
    (kc_ONE : Z.constI ki_ONE.toList [1, 1] = true)
    (kz_ONE : ki_ONE.size ≤ 100)
    (z_abs : PySem.W.nsIn K mainGlobals "abs" = some none)
    (z_all : PySem.W.nsIn K mainGlobals "all" = some none)
    (z_any : PySem.W.nsIn K mainGlobals "any" = some none)
    (z_bool : PySem.W.nsIn K mainGlobals "bool" = some none)
    (z_int : PySem.W.nsIn K mainGlobals "int" = some none)
    (z_isinstance : PySem.W.nsIn K mainGlobals "isinstance" = some none)
    (z_len : PySem.W.nsIn K mainGlobals "len" = some none)
    (z_list : PySem.W.nsIn K mainGlobals "list" = some none)
    (z_min : PySem.W.nsIn K mainGlobals "min" = some none)
    (z_range : PySem.W.nsIn K mainGlobals "range" = some none)
    (z_sorted : PySem.W.nsIn K mainGlobals "sorted" = some none)
    (z_tuple : PySem.W.nsIn K mainGlobals "tuple" = some none)
    (zi_gcd : PySem.W.nsIn K mainGlobals "gcd" = some (some (.builtin "math.gcd")))
    (a0 : PySem.W.nsIn K mainGlobals "_law_hand" = some (some (.ref f0)))
    (l0 : K.lookup f0 = some ⟨oc0, od0, .func (PySem.W.fnOf "_law_hand" "_law_hand" (defArgs s__law_hand) (defBody s__law_hand) (defScope s__law_hand) .none kV0 dc0 pm0 an0 cd0 ct0), sl0⟩)
    (c0 : PySem.W.codeIn K cd0 "_law_hand" = true)
    (k0 : PySem.W.keepIn K (.ref f0) = true)
    (a1 : PySem.W.nsIn K mainGlobals "_law_gcd" = some (some (.ref f1)))
    (l1 : K.lookup f1 = some ⟨oc1, od1, .func (PySem.W.fnOf "_law_gcd" "_law_gcd" (defArgs s__law_gcd) (defBody s__law_gcd) (defScope s__law_gcd) .none kV1 dc1 pm1 an1 cd1 ct1), sl1⟩)
    (c1 : PySem.W.codeIn K cd1 "_law_gcd" = true)
    (k1 : PySem.W.keepIn K (.ref f1) = true)
    (a2 : PySem.W.nsIn K mainGlobals "_law_ratio" = some (some (.ref f2)))
    (l2 : K.lookup f2 = some ⟨oc2, od2, .func (PySem.W.fnOf "_law_ratio" "_law_ratio" (defArgs s__law_ratio) (defBody s__law_ratio) (defScope s__law_ratio) .none kV2 dc2 pm2 an2 cd2 ct2), sl2⟩)
    (c2 : PySem.W.codeIn K cd2 "_law_ratio" = true)
    (k2 : PySem.W.keepIn K (.ref f2) = true)
    (a3 : PySem.W.nsIn K mainGlobals "compare" = some (some (.ref f3)))
    (l3 : K.lookup f3 = some ⟨oc3, od3, .func (PySem.W.fnOf "compare" "compare" (defArgs s_compare) (defBody s_compare) (defScope s_compare) .none kV3 dc3 pm3 an3 cd3 ct3), sl3⟩)
    (c3 : PySem.W.codeIn K cd3 "compare" = true)
    (k3 : PySem.W.keepIn K (.ref f3) = true)
    (a4 : PySem.W.nsIn K mainGlobals "_is_below" = some (some (.ref f4)))
    (l4 : K.lookup f4 = some ⟨oc4, od4, .func (PySem.W.fnOf "_is_below" "_is_below" (defArgs s__is_below) (defBody s__is_below) (defScope s__is_below) .none kV4 dc4 pm4 an4 cd4 ct4), sl4⟩)
    (c4 : PySem.W.codeIn K cd4 "_is_below" = true)
    (k4 : PySem.W.keepIn K (.ref f4) = true)
    (a5 : PySem.W.nsIn K mainGlobals "_law_mid" = some (some (.ref f5)))
    (l5 : K.lookup f5 = some ⟨oc5, od5, .func (PySem.W.fnOf "_law_mid" "_law_mid" (defArgs s__law_mid) (defBody s__law_mid) (defScope s__law_mid) .none kV5 dc5 pm5 an5 cd5 ct5), sl5⟩)
    (c5 : PySem.W.codeIn K cd5 "_law_mid" = true)
    (k5 : PySem.W.keepIn K (.ref f5) = true)
    (a6 : PySem.W.nsIn K mainGlobals "_law_mix" = some (some (.ref f6)))
    (l6 : K.lookup f6 = some ⟨oc6, od6, .func (PySem.W.fnOf "_law_mix" "_law_mix" (defArgs s__law_mix) (defBody s__law_mix) (defScope s__law_mix) .none kV6 dc6 pm6 an6 cd6 ct6), sl6⟩)
    (c6 : PySem.W.codeIn K cd6 "_law_mix" = true)
    (k6 : PySem.W.keepIn K (.ref f6) = true)
    (a7 : PySem.W.nsIn K mainGlobals "_law_draw" = some (some (.ref f7)))
    (l7 : K.lookup f7 = some ⟨oc7, od7, .func (PySem.W.fnOf "_law_draw" "_law_draw" (defArgs s__law_draw) (defBody s__law_draw) (defScope s__law_draw) .none kV7 dc7 pm7 an7 cd7 ct7), sl7⟩)
    (c7 : PySem.W.codeIn K cd7 "_law_draw" = true)
    (k7 : PySem.W.keepIn K (.ref f7) = true)
    (a8 : PySem.W.nsIn K mainGlobals "_law_brick_ratio" = some (some (.ref f8)))
    (l8 : K.lookup f8 = some ⟨oc8, od8, .func (PySem.W.fnOf "_law_brick_ratio" "_law_brick_ratio" (defArgs s__law_brick_ratio) (defBody s__law_brick_ratio) (defScope s__law_brick_ratio) .none kV8 dc8 pm8 an8 cd8 ct8), sl8⟩)
    (c8 : PySem.W.codeIn K cd8 "_law_brick_ratio" = true)
    (k8 : PySem.W.keepIn K (.ref f8) = true)
    (a9 : PySem.W.nsIn K mainGlobals "is_whole" = some (some (.ref f9)))
    (l9 : K.lookup f9 = some ⟨oc9, od9, .func (PySem.W.fnOf "is_whole" "is_whole" (defArgs s_is_whole) (defBody s_is_whole) (defScope s_is_whole) dV9 kV9 dc9 pm9 an9 cd9 ct9), sl9⟩)
    (c9 : PySem.W.codeIn K cd9 "is_whole" = true)
    (k9 : PySem.W.keepIn K (.ref f9) = true)
    (v9 : He.dflB K dV9 [.non, .non] = true)
    (a10 : PySem.W.nsIn K mainGlobals "is_ratio" = some (some (.ref f10)))
    (l10 : K.lookup f10 = some ⟨oc10, od10, .func (PySem.W.fnOf "is_ratio" "is_ratio" (defArgs s_is_ratio) (defBody s_is_ratio) (defScope s_is_ratio) .none kV10 dc10 pm10 an10 cd10 ct10), sl10⟩)
    (c10 : PySem.W.codeIn K cd10 "is_ratio" = true)
    (k10 : PySem.W.keepIn K (.ref f10) = true)
    (a11 : PySem.W.nsIn K mainGlobals "_is_high" = some (some (.ref f11)))
    (l11 : K.lookup f11 = some ⟨oc11, od11, .func (PySem.W.fnOf "_is_high" "_is_high" (defArgs s__is_high) (defBody s__is_high) (defScope s__is_high) .none kV11 dc11 pm11 an11 cd11 ct11), sl11⟩)
    (c11 : PySem.W.codeIn K cd11 "_is_high" = true)
    (k11 : PySem.W.keepIn K (.ref f11) = true)
    (a12 : PySem.W.findIn K (.ref c_BadStretch) "__init__" = some (some (.ref f12)))
    (l12 : K.lookup f12 = some ⟨oc12, od12, .func (PySem.W.fnOf "__init__" "BadStretch.__init__" (defArgs s_BadStretch___init__) (defBody s_BadStretch___init__) (defScope s_BadStretch___init__) .none kV12 dc12 pm12 an12 cd12 ct12), sl12⟩)
    (c12 : PySem.W.codeIn K cd12 "BadStretch.__init__" = true)
    (k12 : PySem.W.keepIn K (.ref f12) = true)
    (t12 : PySem.W.typeIn K (.ref f12) = some (.type "function"))
    (a13 : PySem.W.findIn K (.ref c_Stretch) "__init__" = some (some (.ref f13)))
    (l13 : K.lookup f13 = some ⟨oc13, od13, .func (PySem.W.fnOf "__init__" "Stretch.__init__" (defArgs s_Stretch___init__) (defBody s_Stretch___init__) (defScope s_Stretch___init__) .none kV13 dc13 pm13 an13 cd13 ct13), sl13⟩)
    (c13 : PySem.W.codeIn K cd13 "Stretch.__init__" = true)
    (k13 : PySem.W.keepIn K (.ref f13) = true)
    (i13 : PySem.W.isFn K (.ref f13) = true)
    (mk_Stretch : PySem.W.makesIn K c_Stretch = true)
    (kc_Stretch : PySem.W.keepIn K (.ref c_Stretch) = true)
    (a14 : PySem.W.nsIn K mainGlobals "_law_cmp" = some (some (.ref f14)))
    (l14 : K.lookup f14 = some ⟨oc14, od14, .func (PySem.W.fnOf "_law_cmp" "_law_cmp" (defArgs s__law_cmp) (defBody s__law_cmp) (defScope s__law_cmp) .none kV14 dc14 pm14 an14 cd14 ct14), sl14⟩)
    (c14 : PySem.W.codeIn K cd14 "_law_cmp" = true)
    (k14 : PySem.W.keepIn K (.ref f14) = true)
    (a15 : PySem.W.findIn K (.ref c_Stretch) "__contains__" = some (some (.ref f15)))
    (l15 : K.lookup f15 = some ⟨oc15, od15, .func (PySem.W.fnOf "__contains__" "Stretch.__contains__" (defArgs s_Stretch___contains__) (defBody s_Stretch___contains__) (defScope s_Stretch___contains__) .none kV15 dc15 pm15 an15 cd15 ct15), sl15⟩)
    (c15 : PySem.W.codeIn K cd15 "Stretch.__contains__" = true)
    (k15 : PySem.W.keepIn K (.ref f15) = true)
    (t15 : PySem.W.typeIn K (.ref f15) = some (.type "function"))
    (a16 : PySem.W.nsIn K mainGlobals "is_in_stretches" = some (some (.ref f16)))
    (l16 : K.lookup f16 = some ⟨oc16, od16, .func (PySem.W.fnOf "is_in_stretches" "is_in_stretches" (defArgs s_is_in_stretches) (defBody s_is_in_stretches) (defScope s_is_in_stretches) .none kV16 dc16 pm16 an16 cd16 ct16), sl16⟩)
    (c16 : PySem.W.codeIn K cd16 "is_in_stretches" = true)
    (k16 : PySem.W.keepIn K (.ref f16) = true)
    (a17 : PySem.W.nsIn K mainGlobals "_by_low" = some (some (.ref f17)))
    (l17 : K.lookup f17 = some ⟨oc17, od17, .func (PySem.W.fnOf "_by_low" "_by_low" (defArgs s__by_low) (defBody s__by_low) (defScope s__by_low) .none kV17 dc17 pm17 an17 cd17 ct17), sl17⟩)
    (c17 : PySem.W.codeIn K cd17 "_by_low" = true)
    (k17 : PySem.W.keepIn K (.ref f17) = true)
    (a18 : PySem.W.nsIn K mainGlobals "_law_points" = some (some (.ref f18)))
    (l18 : K.lookup f18 = some ⟨oc18, od18, .func (PySem.W.fnOf "_law_points" "_law_points" (defArgs s__law_points) (defBody s__law_points) (defScope s__law_points) .none kV18 dc18 pm18 an18 cd18 ct18), sl18⟩)
    (c18 : PySem.W.codeIn K cd18 "_law_points" = true)
    (k18 : PySem.W.keepIn K (.ref f18) = true)
    (a19 : PySem.W.nsIn K mainGlobals "_law_ascending" = some (some (.ref f19)))
    (l19 : K.lookup f19 = some ⟨oc19, od19, .func (PySem.W.fnOf "_law_ascending" "_law_ascending" (defArgs s__law_ascending) (defBody s__law_ascending) (defScope s__law_ascending) .none kV19 dc19 pm19 an19 cd19 ct19), sl19⟩)
    (c19 : PySem.W.codeIn K cd19 "_law_ascending" = true)
    (k19 : PySem.W.keepIn K (.ref f19) = true)
    (a20 : PySem.W.nsIn K mainGlobals "_law_ends" = some (some (.ref f20)))
    (l20 : K.lookup f20 = some ⟨oc20, od20, .func (PySem.W.fnOf "_law_ends" "_law_ends" (defArgs s__law_ends) (defBody s__law_ends) (defScope s__law_ends) .none kV20 dc20 pm20 an20 cd20 ct20), sl20⟩)
    (c20 : PySem.W.codeIn K cd20 "_law_ends" = true)
    (k20 : PySem.W.keepIn K (.ref f20) = true)
    (a21 : PySem.W.nsIn K mainGlobals "_law_made" = some (some (.ref f21)))
    (l21 : K.lookup f21 = some ⟨oc21, od21, .func (PySem.W.fnOf "_law_made" "_law_made" (defArgs s__law_made) (defBody s__law_made) (defScope s__law_made) .none kV21 dc21 pm21 an21 cd21 ct21), sl21⟩)
    (c21 : PySem.W.codeIn K cd21 "_law_made" = true)
    (k21 : PySem.W.keepIn K (.ref f21) = true)
    (a22 : PySem.W.nsIn K mainGlobals "_law_given" = some (some (.ref f22)))
    (l22 : K.lookup f22 = some ⟨oc22, od22, .func (PySem.W.fnOf "_law_given" "_law_given" (defArgs s__law_given) (defBody s__law_given) (defScope s__law_given) .none kV22 dc22 pm22 an22 cd22 ct22), sl22⟩)
    (c22 : PySem.W.codeIn K cd22 "_law_given" = true)
    (k22 : PySem.W.keepIn K (.ref f22) = true)
    (a23 : PySem.W.nsIn K mainGlobals "_law_list_of" = some (some (.ref f23)))
    (l23 : K.lookup f23 = some ⟨oc23, od23, .func (PySem.W.fnOf "_law_list_of" "_law_list_of" (defArgs s__law_list_of) (defBody s__law_list_of) (defScope s__law_list_of) .none kV23 dc23 pm23 an23 cd23 ct23), sl23⟩)
    (c23 : PySem.W.codeIn K cd23 "_law_list_of" = true)
    (k23 : PySem.W.keepIn K (.ref f23) = true)
    (a24 : PySem.W.nsIn K mainGlobals "greatest_of" = some (some (.ref f24)))
    (l24 : K.lookup f24 = some ⟨oc24, od24, .func (PySem.W.fnOf "greatest_of" "greatest_of" (defArgs s_greatest_of) (defBody s_greatest_of) (defScope s_greatest_of) .none kV24 dc24 pm24 an24 cd24 ct24), sl24⟩)
    (c24 : PySem.W.codeIn K cd24 "greatest_of" = true)
    (k24 : PySem.W.keepIn K (.ref f24) = true)
    (a25 : PySem.W.nsIn K mainGlobals "_greater_high" = some (some (.ref f25)))
    (l25 : K.lookup f25 = some ⟨oc25, od25, .func (PySem.W.fnOf "_greater_high" "_greater_high" (defArgs s__greater_high) (defBody s__greater_high) (defScope s__greater_high) .none kV25 dc25 pm25 an25 cd25 ct25), sl25⟩)
    (c25 : PySem.W.codeIn K cd25 "_greater_high" = true)
    (k25 : PySem.W.keepIn K (.ref f25) = true)
    (a26 : PySem.W.nsIn K mainGlobals "either_stretches" = some (some (.ref f26)))
    (l26 : K.lookup f26 = some ⟨oc26, od26, .func (PySem.W.fnOf "either_stretches" "either_stretches" (defArgs s_either_stretches) (defBody s_either_stretches) (defScope s_either_stretches) .none kV26 dc26 pm26 an26 cd26 ct26), sl26⟩)
    (c26 : PySem.W.codeIn K cd26 "either_stretches" = true)
    (k26 : PySem.W.keepIn K (.ref f26) = true)
    (a27 : PySem.W.nsIn K mainGlobals "least_of" = some (some (.ref f27)))
    (l27 : K.lookup f27 = some ⟨oc27, od27, .func (PySem.W.fnOf "least_of" "least_of" (defArgs s_least_of) (defBody s_least_of) (defScope s_least_of) .none kV27 dc27 pm27 an27 cd27 ct27), sl27⟩)
    (c27 : PySem.W.codeIn K cd27 "least_of" = true)
    (k27 : PySem.W.keepIn K (.ref f27) = true)
    (a28 : PySem.W.nsIn K mainGlobals "_lesser_high" = some (some (.ref f28)))
    (l28 : K.lookup f28 = some ⟨oc28, od28, .func (PySem.W.fnOf "_lesser_high" "_lesser_high" (defArgs s__lesser_high) (defBody s__lesser_high) (defScope s__lesser_high) .none kV28 dc28 pm28 an28 cd28 ct28), sl28⟩)
    (c28 : PySem.W.codeIn K cd28 "_lesser_high" = true)
    (k28 : PySem.W.keepIn K (.ref f28) = true)
    (a29 : PySem.W.nsIn K mainGlobals "both_stretches" = some (some (.ref f29)))
    (l29 : K.lookup f29 = some ⟨oc29, od29, .func (PySem.W.fnOf "both_stretches" "both_stretches" (defArgs s_both_stretches) (defBody s_both_stretches) (defScope s_both_stretches) .none kV29 dc29 pm29 an29 cd29 ct29), sl29⟩)
    (c29 : PySem.W.codeIn K cd29 "both_stretches" = true)
    (k29 : PySem.W.keepIn K (.ref f29) = true)
    (a30 : PySem.W.nsIn K mainGlobals "_law_is_whole" = some (some (.ref f30)))
    (l30 : K.lookup f30 = some ⟨oc30, od30, .func (PySem.W.fnOf "_law_is_whole" "_law_is_whole" (defArgs s__law_is_whole) (defBody s__law_is_whole) (defScope s__law_is_whole) .none kV30 dc30 pm30 an30 cd30 ct30), sl30⟩)
    (c30 : PySem.W.codeIn K cd30 "_law_is_whole" = true)
    (k30 : PySem.W.keepIn K (.ref f30) = true)
    (a31 : PySem.W.nsIn K mainGlobals "_law_is_ratio" = some (some (.ref f31)))
    (l31 : K.lookup f31 = some ⟨oc31, od31, .func (PySem.W.fnOf "_law_is_ratio" "_law_is_ratio" (defArgs s__law_is_ratio) (defBody s__law_is_ratio) (defScope s__law_is_ratio) .none kV31 dc31 pm31 an31 cd31 ct31), sl31⟩)
    (c31 : PySem.W.codeIn K cd31 "_law_is_ratio" = true)
    (k31 : PySem.W.keepIn K (.ref f31) = true)
    (a32 : PySem.W.nsIn K mainGlobals "_law_is_list" = some (some (.ref f32)))
    (l32 : K.lookup f32 = some ⟨oc32, od32, .func (PySem.W.fnOf "_law_is_list" "_law_is_list" (defArgs s__law_is_list) (defBody s__law_is_list) (defScope s__law_is_list) .none kV32 dc32 pm32 an32 cd32 ct32), sl32⟩)
    (c32 : PySem.W.codeIn K cd32 "_law_is_list" = true)
    (k32 : PySem.W.keepIn K (.ref f32) = true)
    (a33 : PySem.W.findIn K (.ref c_Stretch) "__eq__" = some (some (.ref f33)))
    (l33 : K.lookup f33 = some ⟨oc33, od33, .func (PySem.W.fnOf "__eq__" "Stretch.__eq__" (defArgs s_Stretch___eq__) (defBody s_Stretch___eq__) (defScope s_Stretch___eq__) .none kV33 dc33 pm33 an33 cd33 ct33), sl33⟩)
    (c33 : PySem.W.codeIn K cd33 "Stretch.__eq__" = true)
    (k33 : PySem.W.keepIn K (.ref f33) = true)
    (i33 : PySem.W.isFn K (.ref f33) = true)
    (ne_Stretch : PySem.W.findIn K (.ref c_Stretch) "__ne__" = some (some (.builtin "object.__ne__")))
    (a34 : PySem.W.nsIn K mainGlobals "_law_ends_in" = some (some (.ref f34)))
    (l34 : K.lookup f34 = some ⟨oc34, od34, .func (PySem.W.fnOf "_law_ends_in" "_law_ends_in" (defArgs s__law_ends_in) (defBody s__law_ends_in) (defScope s__law_ends_in) .none kV34 dc34 pm34 an34 cd34 ct34), sl34⟩)
    (c34 : PySem.W.codeIn K cd34 "_law_ends_in" = true)
    (k34 : PySem.W.keepIn K (.ref f34) = true)
    (a35 : PySem.W.nsIn K mainGlobals "_law_in" = some (some (.ref f35)))
    (l35 : K.lookup f35 = some ⟨oc35, od35, .func (PySem.W.fnOf "_law_in" "_law_in" (defArgs s__law_in) (defBody s__law_in) (defScope s__law_in) .none kV35 dc35 pm35 an35 cd35 ct35), sl35⟩)
    (c35 : PySem.W.codeIn K cd35 "_law_in" = true)
    (k35 : PySem.W.keepIn K (.ref f35) = true)
    (a36 : PySem.W.nsIn K mainGlobals "_law_has" = some (some (.ref f36)))
    (l36 : K.lookup f36 = some ⟨oc36, od36, .func (PySem.W.fnOf "_law_has" "_law_has" (defArgs s__law_has) (defBody s__law_has) (defScope s__law_has) .none kV36 dc36 pm36 an36 cd36 ct36), sl36⟩)
    (c36 : PySem.W.codeIn K cd36 "_law_has" = true)
    (k36 : PySem.W.keepIn K (.ref f36) = true)
    (a37 : PySem.W.nsIn K mainGlobals "_law_is_made" = some (some (.ref f37)))
    (l37 : K.lookup f37 = some ⟨oc37, od37, .func (PySem.W.fnOf "_law_is_made" "_law_is_made" (defArgs s__law_is_made) (defBody s__law_is_made) (defScope s__law_is_made) .none kV37 dc37 pm37 an37 cd37 ct37), sl37⟩)
    (c37 : PySem.W.codeIn K cd37 "_law_is_made" = true)
    (k37 : PySem.W.keepIn K (.ref f37) = true)
    (a38 : PySem.W.nsIn K mainGlobals "_is_part" = some (some (.ref f38)))
    (l38 : K.lookup f38 = some ⟨oc38, od38, .func (PySem.W.fnOf "_is_part" "_is_part" (defArgs s__is_part) (defBody s__is_part) (defScope s__is_part) .none kV38 dc38 pm38 an38 cd38 ct38), sl38⟩)
    (c38 : PySem.W.codeIn K cd38 "_is_part" = true)
    (k38 : PySem.W.keepIn K (.ref f38) = true)
    (a39 : PySem.W.nsIn K mainGlobals "are_within" = some (some (.ref f39)))
    (l39 : K.lookup f39 = some ⟨oc39, od39, .func (PySem.W.fnOf "are_within" "are_within" (defArgs s_are_within) (defBody s_are_within) (defScope s_are_within) .none kV39 dc39 pm39 an39 cd39 ct39), sl39⟩)
    (c39 : PySem.W.codeIn K cd39 "are_within" = true)
    (k39 : PySem.W.keepIn K (.ref f39) = true)
    (a40 : PySem.W.nsIn K mainGlobals "_law_truth" = some (some (.ref f40)))
    (l40 : K.lookup f40 = some ⟨oc40, od40, .func (PySem.W.fnOf "_law_truth" "_law_truth" (defArgs s__law_truth) (defBody s__law_truth) (defScope s__law_truth) .none kV40 dc40 pm40 an40 cd40 ct40), sl40⟩)
    (c40 : PySem.W.codeIn K cd40 "_law_truth" = true)
    (k40 : PySem.W.keepIn K (.ref f40) = true)
    (a41 : PySem.W.nsIn K mainGlobals "_law_pick" = some (some (.ref f41)))
    (l41 : K.lookup f41 = some ⟨oc41, od41, .func (PySem.W.fnOf "_law_pick" "_law_pick" (defArgs s__law_pick) (defBody s__law_pick) (defScope s__law_pick) .none kV41 dc41 pm41 an41 cd41 ct41), sl41⟩)
    (c41 : PySem.W.codeIn K cd41 "_law_pick" = true)
    (k41 : PySem.W.keepIn K (.ref f41) = true)
    (pa42 : PySem.W.findIn K (.ref c_Stretch) "low_shut" = some (some (.ref p42)))
    (pb42 : PySem.W.specialIn K (.ref p42) "__get__" = some (some (.builtin "property.__get__")))
    (pc42 : PySem.W.takesIn K (.ref p42) = some true)
    (a42 : PySem.W.recIn K p42 "property" = some (.ref f42 :: rest42))
    (l42 : K.lookup f42 = some ⟨oc42, od42, .func (PySem.W.fnOf "low_shut" "Stretch.low_shut" (defArgs s_Stretch_low_shut) (defBody s_Stretch_low_shut) (defScope s_Stretch_low_shut) .none kV42 dc42 pm42 an42 cd42 ct42), sl42⟩)
    (c42 : PySem.W.codeIn K cd42 "Stretch.low_shut" = true)
    (k42 : PySem.W.keepIn K (.ref f42) = true)
    (a43 : PySem.W.nsIn K mainGlobals "_law_refusals" = some (some (.ref f43)))
    (l43 : K.lookup f43 = some ⟨oc43, od43, .func (PySem.W.fnOf "_law_refusals" "_law_refusals" (defArgs s__law_refusals) (defBody s__law_refusals) (defScope s__law_refusals) .none kV43 dc43 pm43 an43 cd43 ct43), sl43⟩)
    (c43 : PySem.W.codeIn K cd43 "_law_refusals" = true)
    (k43 : PySem.W.keepIn K (.ref f43) = true)
    (a44 : PySem.W.nsIn K mainGlobals "law" = some (some (.ref f44)))
    (l44 : K.lookup f44 = some ⟨oc44, od44, .func (PySem.W.fnOf "law" "law" (defArgs s_law) (defBody s_law) (defScope s_law) .none kV44 dc44 pm44 an44 cd44 ct44), sl44⟩)
    (c44 : PySem.W.codeIn K cd44 "law" = true)
    (k44 : PySem.W.keepIn K (.ref f44) = true)
    : ∃ fd : FuncData, (∀ (s : Shared) (u : Value), BindsTo s fd ⟨[u], []⟩ [("_law_script", u)]) ∧ ∀ base : Heap, K.In base → base.Ns mainGlobals mg → FnOk l.prog w K mg base CX0 7 fa fd ["_law_script"] (sp_law K) := by
  have e := hfa.symm.trans (PySem.W.mg_of X G a44)
  cases e
  have T : Txt K mg c_BadStretch c_Stretch c_ONE :=
    { g_BadStretch := PySem.W.mg_of X G g_BadStretch,
      x_BadStretch := ⟨⟨⟨_, _, _, _, _, _, _, _, _, _, _, _, _, _, _, xL_BadStretch, rv_BadStretch⟩, sa_BadStretch, ex_BadStretch, ty_BadStretch, kc_BadStretch⟩, ⟨ga_BadStretch, gg_BadStretch, ex_BadStretch, hd_BadStretch⟩, Z.exm_of ex_BadStretch ic_BadStretch ty_BadStretch ss_BadStretch⟩,
      n_BadStretch_what := n_BadStretch_what,
      g_Stretch := PySem.W.mg_of X G g_Stretch,
      i_Stretch := ⟨⟨pg_Stretch, hd_Stretch, po_Stretch, sa_Stretch⟩, ha_Stretch, hn_Stretch, tk_Stretch, hm_Stretch, me_Stretch, nt_Stretch, nl_Stretch, ns_Stretch, nf_Stretch⟩,
      n_Stretch_low := n_Stretch_low,
      n_Stretch_high := n_Stretch_high,
      k_ONE := PySem.W.mg_of X G kg_ONE,
      kt_ONE := Z.KT.of kl_ONE kc_ONE kz_ONE,
      b_abs := PySem.W.mg_none_of X G z_abs,
      b_all := PySem.W.mg_none_of X G z_all,
      b_any := PySem.W.mg_none_of X G z_any,
      b_bool := PySem.W.mg_none_of X G z_bool,
      b_int := PySem.W.mg_none_of X G z_int,
      b_isinstance := PySem.W.mg_none_of X G z_isinstance,
      b_len := PySem.W.mg_none_of X G z_len,
      b_list := PySem.W.mg_none_of X G z_list,
      b_min := PySem.W.mg_none_of X G z_min,
      b_range := PySem.W.mg_none_of X G z_range,
      b_sorted := PySem.W.mg_none_of X G z_sorted,
      b_tuple := PySem.W.mg_none_of X G z_tuple,
      m_gcd := PySem.W.mg_of X G zi_gcd,
      d__law_hand := ⟨f0, _, fun_mk (st := s__law_hand) l0 c0 k0, PySem.W.mg_of X G a0⟩,
      d__law_gcd := ⟨f1, _, fun_mk (st := s__law_gcd) l1 c1 k1, PySem.W.mg_of X G a1⟩,
      d__law_ratio := ⟨f2, _, fun_mk (st := s__law_ratio) l2 c2 k2, PySem.W.mg_of X G a2⟩,
      d_compare := ⟨f3, _, fun_mk (st := s_compare) l3 c3 k3, PySem.W.mg_of X G a3⟩,
      d__is_below := ⟨f4, _, fun_mk (st := s__is_below) l4 c4 k4, PySem.W.mg_of X G a4⟩,
      d__law_mid := ⟨f5, _, fun_mk (st := s__law_mid) l5 c5 k5, PySem.W.mg_of X G a5⟩,
      d__law_mix := ⟨f6, _, fun_mk (st := s__law_mix) l6 c6 k6, PySem.W.mg_of X G a6⟩,
      d__law_draw := ⟨f7, _, fun_mk (st := s__law_draw) l7 c7 k7, PySem.W.mg_of X G a7⟩,
      d__law_brick_ratio := ⟨f8, _, fun_mk (st := s__law_brick_ratio) l8 c8 k8, PySem.W.mg_of X G a8⟩,
      d_is_whole := ⟨f9, _, ⟨⟨_, _, _, _, _, _, _, _, _, _, rfl, l9, c9, He.dflB_ok v9, .inl rfl⟩, k9⟩, PySem.W.mg_of X G a9⟩,
      d_is_ratio := ⟨f10, _, fun_mk (st := s_is_ratio) l10 c10 k10, PySem.W.mg_of X G a10⟩,
      d__is_high := ⟨f11, _, fun_mk (st := s__is_high) l11 c11 k11, PySem.W.mg_of X G a11⟩,
      d_BadStretch___init__ := ⟨f12, _, fun_mk (st := s_BadStretch___init__) l12 c12 k12, ⟨a12, t12⟩⟩,
      d_Stretch___init__ := ⟨f13, _, fun_mk (st := s_Stretch___init__) l13 c13 k13, ⟨mk_Stretch, a13, i13, kc_Stretch⟩⟩,
      d__law_cmp := ⟨f14, _, fun_mk (st := s__law_cmp) l14 c14 k14, PySem.W.mg_of X G a14⟩,
      d_Stretch___contains__ := ⟨f15, _, fun_mk (st := s_Stretch___contains__) l15 c15 k15, ⟨a15, t15⟩⟩,
      d_is_in_stretches := ⟨f16, _, fun_mk (st := s_is_in_stretches) l16 c16 k16, PySem.W.mg_of X G a16⟩,
      d__by_low := ⟨f17, _, fun_mk (st := s__by_low) l17 c17 k17, PySem.W.mg_of X G a17⟩,
      d__law_points := ⟨f18, _, fun_mk (st := s__law_points) l18 c18 k18, PySem.W.mg_of X G a18⟩,
      d__law_ascending := ⟨f19, _, fun_mk (st := s__law_ascending) l19 c19 k19, PySem.W.mg_of X G a19⟩,
      d__law_ends := ⟨f20, _, fun_mk (st := s__law_ends) l20 c20 k20, PySem.W.mg_of X G a20⟩,
      d__law_made := ⟨f21, _, fun_mk (st := s__law_made) l21 c21 k21, PySem.W.mg_of X G a21⟩,
      d__law_given := ⟨f22, _, fun_mk (st := s__law_given) l22 c22 k22, PySem.W.mg_of X G a22⟩,
      d__law_list_of := ⟨f23, _, fun_mk (st := s__law_list_of) l23 c23 k23, PySem.W.mg_of X G a23⟩,
      d_greatest_of := ⟨f24, _, fun_mk (st := s_greatest_of) l24 c24 k24, PySem.W.mg_of X G a24⟩,
      d__greater_high := ⟨f25, _, fun_mk (st := s__greater_high) l25 c25 k25, PySem.W.mg_of X G a25⟩,
      d_either_stretches := ⟨f26, _, fun_mk (st := s_either_stretches) l26 c26 k26, PySem.W.mg_of X G a26⟩,
      d_least_of := ⟨f27, _, fun_mk (st := s_least_of) l27 c27 k27, PySem.W.mg_of X G a27⟩,
      d__lesser_high := ⟨f28, _, fun_mk (st := s__lesser_high) l28 c28 k28, PySem.W.mg_of X G a28⟩,
      d_both_stretches := ⟨f29, _, fun_mk (st := s_both_stretches) l29 c29 k29, PySem.W.mg_of X G a29⟩,
      d__law_is_whole := ⟨f30, _, fun_mk (st := s__law_is_whole) l30 c30 k30, PySem.W.mg_of X G a30⟩,
      d__law_is_ratio := ⟨f31, _, fun_mk (st := s__law_is_ratio) l31 c31 k31, PySem.W.mg_of X G a31⟩,
      d__law_is_list := ⟨f32, _, fun_mk (st := s__law_is_list) l32 c32 k32, PySem.W.mg_of X G a32⟩,
      d_Stretch___eq__ := ⟨f33, _, fun_mk (st := s_Stretch___eq__) l33 c33 k33, ⟨a33, ne_Stretch, i33, hm_Stretch⟩⟩,
      d__law_ends_in := ⟨f34, _, fun_mk (st := s__law_ends_in) l34 c34 k34, PySem.W.mg_of X G a34⟩,
      d__law_in := ⟨f35, _, fun_mk (st := s__law_in) l35 c35 k35, PySem.W.mg_of X G a35⟩,
      d__law_has := ⟨f36, _, fun_mk (st := s__law_has) l36 c36 k36, PySem.W.mg_of X G a36⟩,
      d__law_is_made := ⟨f37, _, fun_mk (st := s__law_is_made) l37 c37 k37, PySem.W.mg_of X G a37⟩,
      d__is_part := ⟨f38, _, fun_mk (st := s__is_part) l38 c38 k38, PySem.W.mg_of X G a38⟩,
      d_are_within := ⟨f39, _, fun_mk (st := s_are_within) l39 c39 k39, PySem.W.mg_of X G a39⟩,
      d__law_truth := ⟨f40, _, fun_mk (st := s__law_truth) l40 c40 k40, PySem.W.mg_of X G a40⟩,
      d__law_pick := ⟨f41, _, fun_mk (st := s__law_pick) l41 c41 k41, PySem.W.mg_of X G a41⟩,
      d_Stretch_low_shut := ⟨p42, f42, _, fun_mk (st := s_Stretch_low_shut) l42 c42 k42, ⟨pa42, pb42, pc42, ⟨_, a42⟩⟩⟩,
      d__law_refusals := ⟨f43, _, fun_mk (st := s__law_refusals) l43 c43 k43, PySem.W.mg_of X G a43⟩,
      d_law := ⟨fa, _, fun_mk (st := s_law) l44 c44 k44, PySem.W.mg_of X G a44⟩ }
  exact ⟨PySem.W.fnOf "law" "law" (defArgs s_law) (defBody s_law) (defScope s_law) .none kV44 dc44 pm44 an44 cd44 ct44, fun s u => .of_eq rfl, fun base _ _ => fn_law T (fun_mk (st := s_law) l44 c44 k44)⟩
theorem walk {l : PySem.W.OpenLaw} {q : Program} {loose : List Str} {XP : (Str → Option Value) → Heap → Prop} {YP : World → Heap → Prop}
    {d : DefRec} {K : Params → PySem.W.Frag} (hn : l.most = some 63) (hdf : d.params.defaults = [])
    (hY : ∀ (w : World) (h : Heap),
          YP w h → (K w.params).In h)
    (F : ∀ (w : World) (mg : Str → Option Value) (fa : Addr) (h : Heap),
      (K w.params).In h → h.Ns mainGlobals mg → mg d.name = some (.ref fa) →
      ∃ fd : FuncData, (∀ (s : Shared) (u : Value), BindsTo s fd ⟨[u], []⟩ [("_law_script", u)]) ∧
        ∀ base : Heap, (K w.params).In base → base.Ns mainGlobals mg → FnOk l.prog w (K w.params) mg base CX0 7 fa fd ["_law_script"] (sp_law (K w.params))) :
    PySem.W.WalkO q loose XP YP l.row.toRowW
          d [] (fun f vs => PySem.call f vs) :=
  L2.walk_of (n := 63) (k := 7) (x := "_law_script") (CX := fun _ => CX0) (sp := fun w => sp_law (K w.params)) hn (by decide) hdf ⟨rfl, by decide, by decide⟩
    hY F (fun _ _ a ns hl _ hS => ⟨_, rfl, a, ns, rfl, hS, hl, fun _ => rfl⟩) fun _ _ _ _ _ z => z
end
end M
open PySem PySem.W
      PyProof.Rows
set_option
      maxRecDepth 100000 in
set_option maxHeartbeats 0 in
theorem PySem.Challenge.cw_jointsapart_k42_whole_lists_of_stretches_holds : PySem.Challenge.rw_jointsapart_k42_whole_lists_of_stretches.Holds := by
  w_on; o_law; k_head;
        (case hw => w_witness2)
  k_fill
  refine M.walk (l := PySem.Challenge.rw_jointsapart_k42_whole_lists_of_stretches) rfl rfl (fun w h Y => PySem.W.kIn_of Y) ?F
  case F =>
    intro w mg fa h KX G hmg
    refine' M.all_facts (l := PySem.Challenge.rw_jointsapart_k42_whole_lists_of_stretches) KX G hmg ?h_g_BadStretch ?h_xL_BadStretch ?h_rv_BadStretch ?h_sa_BadStretch ?h_ex_BadStretch ?h_ty_BadStretch ?h_kc_BadStretch ?h_ga_BadStretch ?h_gg_BadStretch ?h_hd_BadStretch ?h_ic_BadStretch ?h_ss_BadStretch ?h_n_BadStretch_what ?h_g_Stretch ?h_pg_Stretch ?h_hd_Stretch ?h_po_Stretch ?h_sa_Stretch ?h_ha_Stretch ?h_hn_Stretch ?h_tk_Stretch ?h_hm_Stretch ?h_me_Stretch ?h_nt_Stretch ?h_nl_Stretch ?h_ns_Stretch ?h_nf_Stretch ?h_n_Stretch_low ?h_n_Stretch_high ?h_kg_ONE ?h_kl_ONE ?h_kc_ONE ?h_kz_ONE ?h_z_abs ?h_z_all ?h_z_any ?h_z_bool ?h_z_int ?h_z_isinstance ?h_z_len ?h_z_list ?h_z_min ?h_z_range ?h_z_sorted ?h_z_tuple ?h_zi_gcd ?h_a0 ?h_l0 ?h_c0 ?h_k0 ?h_a1 ?h_l1 ?h_c1 ?h_k1 ?h_a2 ?h_l2 ?h_c2 ?h_k2 ?h_a3 ?h_l3 ?h_c3 ?h_k3 ?h_a4 ?h_l4 ?h_c4 ?h_k4 ?h_a5 ?h_l5 ?h_c5 ?h_k5 ?h_a6 ?h_l6 ?h_c6 ?h_k6 ?h_a7 ?h_l7 ?h_c7 ?h_k7 ?h_a8 ?h_l8 ?h_c8 ?h_k8 ?h_a9 ?h_l9 ?h_c9 ?h_k9 ?h_v9 ?h_a10 ?h_l10 ?h_c10 ?h_k10 ?h_a11 ?h_l11 ?h_c11 ?h_k11 ?h_a12 ?h_l12 ?h_c12 ?h_k12 ?h_t12 ?h_a13 ?h_l13 ?h_c13 ?h_k13 ?h_i13 ?h_mk_Stretch ?h_kc_Stretch ?h_a14 ?h_l14 ?h_c14 ?h_k14 ?h_a15 ?h_l15 ?h_c15 ?h_k15 ?h_t15 ?h_a16 ?h_l16 ?h_c16 ?h_k16 ?h_a17 ?h_l17 ?h_c17 ?h_k17 ?h_a18 ?h_l18 ?h_c18 ?h_k18 ?h_a19 ?h_l19 ?h_c19 ?h_k19 ?h_a20 ?h_l20 ?h_c20 ?h_k20 ?h_a21 ?h_l21 ?h_c21 ?h_k21 ?h_a22 ?h_l22 ?h_c22 ?h_k22 ?h_a23 ?h_l23 ?h_c23 ?h_k23 ?h_a24 ?h_l24 ?h_c24 ?h_k24 ?h_a25 ?h_l25 ?h_c25 ?h_k25 ?h_a26 ?h_l26 ?h_c26 ?h_k26 ?h_a27 ?h_l27 ?h_c27 ?h_k27 ?h_a28 ?h_l28 ?h_c28 ?h_k28 ?h_a29 ?h_l29 ?h_c29 ?h_k29 ?h_a30 ?h_l30 ?h_c30 ?h_k30 ?h_a31 ?h_l31 ?h_c31 ?h_k31 ?h_a32 ?h_l32 ?h_c32 ?h_k32 ?h_a33 ?h_l33 ?h_c33 ?h_k33 ?h_i33 ?h_ne_Stretch ?h_a34 ?h_l34 ?h_c34 ?h_k34 ?h_a35 ?h_l35 ?h_c35 ?h_k35 ?h_a36 ?h_l36 ?h_c36 ?h_k36 ?h_a37 ?h_l37 ?h_c37 ?h_k37 ?h_a38 ?h_l38 ?h_c38 ?h_k38 ?h_a39 ?h_l39 ?h_c39 ?h_k39 ?h_a40 ?h_l40 ?h_c40 ?h_k40 ?h_a41 ?h_l41 ?h_c41 ?h_k41 ?h_pa42 ?h_pb42 ?h_pc42 ?h_a42 ?h_l42 ?h_c42 ?h_k42 ?h_a43 ?h_l43 ?h_c43 ?h_k43 ?h_a44 ?h_l44 ?h_c44 ?h_k44
    case h_g_BadStretch => first | k_is | rfl | decide +kernel
    case h_xL_BadStretch => first | k_is | rfl | decide +kernel
    case h_rv_BadStretch => first | k_is | rfl | decide +kernel
    case h_sa_BadStretch => first | k_is | rfl | decide +kernel
    case h_ex_BadStretch => first | k_is | rfl | decide +kernel
    case h_ty_BadStretch => first | k_is | rfl | decide +kernel
    case h_kc_BadStretch => first | k_is | rfl | decide +kernel
    case h_ga_BadStretch => first | k_is | rfl | decide +kernel
    case h_gg_BadStretch => first | k_is | rfl | decide +kernel
    case h_hd_BadStretch => first | k_is | rfl | decide +kernel
    case h_ic_BadStretch => first | k_is | rfl | decide +kernel
    case h_ss_BadStretch => first | k_is | rfl | decide +kernel
    case h_n_BadStretch_what => first | k_is | rfl | decide +kernel
    case h_g_Stretch => first | k_is | rfl | decide +kernel
    case h_pg_Stretch => first | k_is | rfl | decide +kernel
    case h_hd_Stretch => first | k_is | rfl | decide +kernel
    case h_po_Stretch => first | k_is | rfl | decide +kernel
    case h_sa_Stretch => first | k_is | rfl | decide +kernel
    case h_ha_Stretch => first | k_is | rfl | decide +kernel
    case h_hn_Stretch => first | k_is | rfl | decide +kernel
    case h_tk_Stretch => first | k_is | rfl | decide +kernel
    case h_hm_Stretch => first | k_is | rfl | decide +kernel
    case h_me_Stretch => first | k_is | rfl | decide +kernel
    case h_nt_Stretch => first | k_is | rfl | decide +kernel
    case h_nl_Stretch => first | k_is | rfl | decide +kernel
    case h_ns_Stretch => first | k_is | rfl | decide +kernel
    case h_nf_Stretch => first | k_is | rfl | decide +kernel
    case h_n_Stretch_low => first | k_is | rfl | decide +kernel
    case h_n_Stretch_high => first | k_is | rfl | decide +kernel
    case h_kg_ONE => first | k_is | rfl | decide +kernel
    case h_kl_ONE => first | k_is | rfl | decide +kernel
    case h_kc_ONE => first | k_is | rfl | decide +kernel
    case h_kz_ONE => first | k_is | rfl | decide +kernel
    case h_z_abs => first | k_is | rfl | decide +kernel
    case h_z_all => first | k_is | rfl | decide +kernel
    case h_z_any => first | k_is | rfl | decide +kernel
    case h_z_bool => first | k_is | rfl | decide +kernel
    case h_z_int => first | k_is | rfl | decide +kernel
    case h_z_isinstance => first | k_is | rfl | decide +kernel
    case h_z_len => first | k_is | rfl | decide +kernel
    case h_z_list => first | k_is | rfl | decide +kernel
    case h_z_min => first | k_is | rfl | decide +kernel
    case h_z_range => first | k_is | rfl | decide +kernel
    case h_z_sorted => first | k_is | rfl | decide +kernel
    case h_z_tuple => first | k_is | rfl | decide +kernel
    case h_zi_gcd => first | k_is | rfl | decide +kernel
    case h_a0 => first | k_is | rfl | decide +kernel
    case h_l0 => first | k_is | rfl | decide +kernel
    case h_c0 => first | k_is | rfl | decide +kernel
    case h_k0 => first | k_is | rfl | decide +kernel
    case h_a1 => first | k_is | rfl | decide +kernel
    case h_l1 => first | k_is | rfl | decide +kernel
    case h_c1 => first | k_is | rfl | decide +kernel
    case h_k1 => first | k_is | rfl | decide +kernel
    case h_a2 => first | k_is | rfl | decide +kernel
    case h_l2 => first | k_is | rfl | decide +kernel
    case h_c2 => first | k_is | rfl | decide +kernel
    case h_k2 => first | k_is | rfl | decide +kernel
    case h_a3 => first | k_is | rfl | decide +kernel
    case h_l3 => first | k_is | rfl | decide +kernel
    case h_c3 => first | k_is | rfl | decide +kernel
    case h_k3 => first | k_is | rfl | decide +kernel
    case h_a4 => first | k_is | rfl | decide +kernel
    case h_l4 => first | k_is | rfl | decide +kernel
    case h_c4 => first | k_is | rfl | decide +kernel
    case h_k4 => first | k_is | rfl | decide +kernel
    case h_a5 => first | k_is | rfl | decide +kernel
    case h_l5 => first | k_is | rfl | decide +kernel
    case h_c5 => first | k_is | rfl | decide +kernel
    case h_k5 => first | k_is | rfl | decide +kernel
    case h_a6 => first | k_is | rfl | decide +kernel
    case h_l6 => first | k_is | rfl | decide +kernel
    case h_c6 => first | k_is | rfl | decide +kernel
    case h_k6 => first | k_is | rfl | decide +kernel
    case h_a7 => first | k_is | rfl | decide +kernel
    case h_l7 => first | k_is | rfl | decide +kernel
    case h_c7 => first | k_is | rfl | decide +kernel
    case h_k7 => first | k_is | rfl | decide +kernel
    case h_a8 => first | k_is | rfl | decide +kernel
    case h_l8 => first | k_is | rfl | decide +kernel
    case h_c8 => first | k_is | rfl | decide +kernel
    case h_k8 => first | k_is | rfl | decide +kernel
    case h_a9 => first | k_is | rfl | decide +kernel
    case h_l9 => first | k_is | rfl | decide +kernel
    case h_c9 => first | k_is | rfl | decide +kernel
    case h_k9 => first | k_is | rfl | decide +kernel
    case h_v9 => first | k_is | rfl | decide +kernel
    case h_a10 => first | k_is | rfl | decide +kernel
    case h_l10 => first | k_is | rfl | decide +kernel
    case h_c10 => first | k_is | rfl | decide +kernel
    case h_k10 => first | k_is | rfl | decide +kernel
    case h_a11 => first | k_is | rfl | decide +kernel
    case h_l11 => first | k_is | rfl | decide +kernel
    case h_c11 => first | k_is | rfl | decide +kernel
    case h_k11 => first | k_is | rfl | decide +kernel
    case h_a12 => first | k_is | rfl | decide +kernel
    case h_l12 => first | k_is | rfl | decide +kernel
    case h_c12 => first | k_is | rfl | decide +kernel
    case h_k12 => first | k_is | rfl | decide +kernel
    case h_t12 => first | k_is | rfl | decide +kernel
    case h_a13 => first | k_is | rfl | decide +kernel
    case h_l13 => first | k_is | rfl | decide +kernel
    case h_c13 => first | k_is | rfl | decide +kernel
    case h_k13 => first | k_is | rfl | decide +kernel
    case h_i13 => first | k_is | rfl | decide +kernel
    case h_mk_Stretch => first | k_is | rfl | decide +kernel
    case h_kc_Stretch => first | k_is | rfl | decide +kernel
    case h_a14 => first | k_is | rfl | decide +kernel
    case h_l14 => first | k_is | rfl | decide +kernel
    case h_c14 => first | k_is | rfl | decide +kernel
    case h_k14 => first | k_is | rfl | decide +kernel
    case h_a15 => first | k_is | rfl | decide +kernel
    case h_l15 => first | k_is | rfl | decide +kernel
    case h_c15 => first | k_is | rfl | decide +kernel
    case h_k15 => first | k_is | rfl | decide +kernel
    case h_t15 => first | k_is | rfl | decide +kernel
    case h_a16 => first | k_is | rfl | decide +kernel
    case h_l16 => first | k_is | rfl | decide +kernel
    case h_c16 => first | k_is | rfl | decide +kernel
    case h_k16 => first | k_is | rfl | decide +kernel
    case h_a17 => first | k_is | rfl | decide +kernel
    case h_l17 => first | k_is | rfl | decide +kernel
    case h_c17 => first | k_is | rfl | decide +kernel
    case h_k17 => first | k_is | rfl | decide +kernel
    case h_a18 => first | k_is | rfl | decide +kernel
    case h_l18 => first | k_is | rfl | decide +kernel
    case h_c18 => first | k_is | rfl | decide +kernel
    case h_k18 => first | k_is | rfl | decide +kernel
    case h_a19 => first | k_is | rfl | decide +kernel
    case h_l19 => first | k_is | rfl | decide +kernel
    case h_c19 => first | k_is | rfl | decide +kernel
    case h_k19 => first | k_is | rfl | decide +kernel
    case h_a20 => first | k_is | rfl | decide +kernel
    case h_l20 => first | k_is | rfl | decide +kernel
    case h_c20 => first | k_is | rfl | decide +kernel
    case h_k20 => first | k_is | rfl | decide +kernel
    case h_a21 => first | k_is | rfl | decide +kernel
    case h_l21 => first | k_is | rfl | decide +kernel
    case h_c21 => first | k_is | rfl | decide +kernel
    case h_k21 => first | k_is | rfl | decide +kernel
    case h_a22 => first | k_is | rfl | decide +kernel
    case h_l22 => first | k_is | rfl | decide +kernel
    case h_c22 => first | k_is | rfl | decide +kernel
    case h_k22 => first | k_is | rfl | decide +kernel
    case h_a23 => first | k_is | rfl | decide +kernel
    case h_l23 => first | k_is | rfl | decide +kernel
    case h_c23 => first | k_is | rfl | decide +kernel
    case h_k23 => first | k_is | rfl | decide +kernel
    case h_a24 => first | k_is | rfl | decide +kernel
    case h_l24 => first | k_is | rfl | decide +kernel
    case h_c24 => first | k_is | rfl | decide +kernel
    case h_k24 => first | k_is | rfl | decide +kernel
    case h_a25 => first | k_is | rfl | decide +kernel
    case h_l25 => first | k_is | rfl | decide +kernel
    case h_c25 => first | k_is | rfl | decide +kernel
    case h_k25 => first | k_is | rfl | decide +kernel
    case h_a26 => first | k_is | rfl | decide +kernel
    case h_l26 => first | k_is | rfl | decide +kernel
    case h_c26 => first | k_is | rfl | decide +kernel
    case h_k26 => first | k_is | rfl | decide +kernel
    case h_a27 => first | k_is | rfl | decide +kernel
    case h_l27 => first | k_is | rfl | decide +kernel
    case h_c27 => first | k_is | rfl | decide +kernel
    case h_k27 => first | k_is | rfl | decide +kernel
    case h_a28 => first | k_is | rfl | decide +kernel
    case h_l28 => first | k_is | rfl | decide +kernel
    case h_c28 => first | k_is | rfl | decide +kernel
    case h_k28 => first | k_is | rfl | decide +kernel
    case h_a29 => first | k_is | rfl | decide +kernel
    case h_l29 => first | k_is | rfl | decide +kernel
    case h_c29 => first | k_is | rfl | decide +kernel
    case h_k29 => first | k_is | rfl | decide +kernel
    case h_a30 => first | k_is | rfl | decide +kernel
    case h_l30 => first | k_is | rfl | decide +kernel
    case h_c30 => first | k_is | rfl | decide +kernel
    case h_k30 => first | k_is | rfl | decide +kernel
    case h_a31 => first | k_is | rfl | decide +kernel
    case h_l31 => first | k_is | rfl | decide +kernel
    case h_c31 => first | k_is | rfl | decide +kernel
    case h_k31 => first | k_is | rfl | decide +kernel
    case h_a32 => first | k_is | rfl | decide +kernel
    case h_l32 => first | k_is | rfl | decide +kernel
    case h_c32 => first | k_is | rfl | decide +kernel
    case h_k32 => first | k_is | rfl | decide +kernel
    case h_a33 => first | k_is | rfl | decide +kernel
    case h_l33 => first | k_is | rfl | decide +kernel
    case h_c33 => first | k_is | rfl | decide +kernel
    case h_k33 => first | k_is | rfl | decide +kernel
    case h_i33 => first | k_is | rfl | decide +kernel
    case h_ne_Stretch => first | k_is | rfl | decide +kernel
    case h_a34 => first | k_is | rfl | decide +kernel
    case h_l34 => first | k_is | rfl | decide +kernel
    case h_c34 => first | k_is | rfl | decide +kernel
    case h_k34 => first | k_is | rfl | decide +kernel
    case h_a35 => first | k_is | rfl | decide +kernel
    case h_l35 => first | k_is | rfl | decide +kernel
    case h_c35 => first | k_is | rfl | decide +kernel
    case h_k35 => first | k_is | rfl | decide +kernel
    case h_a36 => first | k_is | rfl | decide +kernel
    case h_l36 => first | k_is | rfl | decide +kernel
    case h_c36 => first | k_is | rfl | decide +kernel
    case h_k36 => first | k_is | rfl | decide +kernel
    case h_a37 => first | k_is | rfl | decide +kernel
    case h_l37 => first | k_is | rfl | decide +kernel
    case h_c37 => first | k_is | rfl | decide +kernel
    case h_k37 => first | k_is | rfl | decide +kernel
    case h_a38 => first | k_is | rfl | decide +kernel
    case h_l38 => first | k_is | rfl | decide +kernel
    case h_c38 => first | k_is | rfl | decide +kernel
    case h_k38 => first | k_is | rfl | decide +kernel
    case h_a39 => first | k_is | rfl | decide +kernel
    case h_l39 => first | k_is | rfl | decide +kernel
    case h_c39 => first | k_is | rfl | decide +kernel
    case h_k39 => first | k_is | rfl | decide +kernel
    case h_a40 => first | k_is | rfl | decide +kernel
    case h_l40 => first | k_is | rfl | decide +kernel
    case h_c40 => first | k_is | rfl | decide +kernel
    case h_k40 => first | k_is | rfl | decide +kernel
    case h_a41 => first | k_is | rfl | decide +kernel
    case h_l41 => first | k_is | rfl | decide +kernel
    case h_c41 => first | k_is | rfl | decide +kernel
    case h_k41 => first | k_is | rfl | decide +kernel
    case h_pa42 => first | k_is | rfl | decide +kernel
    case h_pb42 => first | k_is | rfl | decide +kernel
    case h_pc42 => first | k_is | rfl | decide +kernel
    case h_a42 => first | k_is | rfl | decide +kernel
    case h_l42 => first | k_is | rfl | decide +kernel
    case h_c42 => first | k_is | rfl | decide +kernel
    case h_k42 => first | k_is | rfl | decide +kernel
    case h_a43 => first | k_is | rfl | decide +kernel
    case h_l43 => first | k_is | rfl | decide +kernel
    case h_c43 => first | k_is | rfl | decide +kernel
    case h_k43 => first | k_is | rfl | decide +kernel
    case h_a44 => first | k_is | rfl | decide +kernel
    case h_l44 => first | k_is | rfl | decide +kernel
    case h_c44 => first | k_is | rfl | decide +kernel
    case h_k44 => first | k_is | rfl | decide +kernel