import PyProof.Rows.All
import Wide.All
import OpenK.AllK
import Wide.FinOn
import HandS.ForExc
import HandS.Comp
import HandS.Iter
import HandS.Wide
import HandS.IsInst
import HandS.TupLe
import HandS.Flow
import HandS.Defaults
import HandS.MakeKw
import HandS.ExcInit
import HandS.ExcField
import HandS.TryMany
import HandS.Zip
import HandS.OwnEq
import HandS.Property
import HandS.TupMul
import HandS.Conv
import HandS.Style
import HandS.Star
import HandS.Rev
import HandS.Small
import HandS.Walk
import KE.GoesEnum
import KE.GoesMore
import KE.KTupSum
import HandS.TupAny
import HandS.RevTup
import HandS.Gcd
import KE.KMathGC
import PyProof.LongRange
import KE.GoesZip
import HandS.Dict
import KE.DatumOrd
import HandS.SortInts
import HandS.RevRange
import HandS.DictComp
import HandS.Flt
import HandS.SortKw
import HandS.WideBits
import HandS.Text
import HandS.FStr
import HandS.StrMore
import HandS.Replace
import HandS.Codes
import HandS.SuiteRaise
import HandS.RaiseFrom
import HandS.ExcInitHot
import HandS.ReplaceLit
import HandS.Deep
import HandS.HeadHook2
import HandS.Ends
import PySem.Challenge.RW_jointsapart_k66_whole_walls_written_seen
set_option Elab.async false
set_option linter.all false
set_option maxRecDepth 100000
/-! ### Z: a ledger of what stands in the heap, and rules for readings over it -/
namespace Z
open PySem L2
/-- an entry of the ledger: an object with all that it holds; the draws' list l with its cells c -/
inductive En where
  | ob (a : Addr) (o : HO)
  | hand (l c : Addr)
  | hand5 (l c : Addr)
def En.fp : En → List Addr
  | .ob a _ => [a]
  | .hand l c => [l, c]
  | .hand5 l c => [l, c]
def HandAt (H : Hp) (l c : Addr) : Prop := ∃ (ns : List Int) (i j t : Int), 0 ≤ i ∧ H l = some (.lst [.ref c, .int i, .int j, .int t]) ∧ H c = some (.lst (ns.map V.int))
def HandAt5 (H : Hp) (l c : Addr) : Prop := ∃ (ns : List Int) (i j t u : Int), 0 ≤ i ∧ H l = some (.lst [.ref c, .int i, .int j, .int t, .int u]) ∧ H c = some (.lst (ns.map V.int))
def En.sat (H : Hp) : En → Prop
  | .ob a o => H a = some o
  | .hand l c => HandAt H l c
  | .hand5 l c => HandAt5 H l c
def Fx (H : Hp) (L : List En) : Prop := (∀ e ∈ L, e.sat H) ∧ (L.flatMap En.fp).Nodup
theorem En.there {H : Hp} {e : En} (h : e.sat H) {a : Addr} (ha : a ∈ e.fp) : ∃ o, H a = some o := by
  cases e with
  | ob b o =>
    have e : a = b := List.mem_singleton.mp ha
    subst e
    exact ⟨o, h⟩
  | hand l c =>
    obtain ⟨ns, i, j, t, h0, h1, h2⟩ := (show HandAt H l c from h)
    rcases List.mem_cons.mp (show a ∈ [l, c] from ha) with e | e
    · subst e
      exact ⟨_, h1⟩
    · have e := List.mem_singleton.mp e
      subst e
      exact ⟨_, h2⟩
  | hand5 l c =>
    obtain ⟨ns, i, j, t, u, h0, h1, h2⟩ := (show HandAt5 H l c from h)
    rcases List.mem_cons.mp (show a ∈ [l, c] from ha) with e | e
    · subst e
      exact ⟨_, h1⟩
    · have e := List.mem_singleton.mp e
      subst e
      exact ⟨_, h2⟩
theorem En.keep {H H' : Hp} {e : En} (h : e.sat H) (k : ∀ a ∈ e.fp, ∀ o, H a = some o → H' a = some o) : e.sat H' := by
  cases e with
  | ob b o => exact k b List.mem_cons_self o h
  | hand l c =>
    obtain ⟨ns, i, j, t, h0, h1, h2⟩ := (show HandAt H l c from h)
    exact ⟨ns, i, j, t, h0, k l List.mem_cons_self _ h1, k c (List.mem_cons_of_mem _ List.mem_cons_self) _ h2⟩
  | hand5 l c =>
    obtain ⟨ns, i, j, t, u, h0, h1, h2⟩ := (show HandAt5 H l c from h)
    exact ⟨ns, i, j, t, u, h0, k l List.mem_cons_self _ h1, k c (List.mem_cons_of_mem _ List.mem_cons_self) _ h2⟩
section
variable {H H' : Hp} {L L' : List En} {a p : Addr} {o o' : HO}
theorem Fx.get (F : Fx H L) (h : En.ob a o ∈ L) : H a = some o := F.1 _ h
theorem Fx.gh {l c : Addr} (F : Fx H L) (h : En.hand l c ∈ L) : HandAt H l c := F.1 _ h
theorem Fx.nil : Fx H [] := ⟨fun e h => (nomatch h), List.nodup_nil⟩
theorem Fx.notin (F : Fx H L) (h : H p = none) : p ∉ L.flatMap En.fp := fun hp => by
  obtain ⟨e, he, ha⟩ := List.mem_flatMap.mp hp
  obtain ⟨o, q⟩ := En.there (F.1 e he) ha
  rw [h] at q
  cases q
theorem Fx.new (F : Fx H L) (h : H p = none) : Fx (upd H p o) (.ob p o :: L) := by
  have ni := F.notin h
  refine ⟨fun e he => ?_, ?_⟩
  · rcases List.mem_cons.mp he with e1 | he
    · subst e1
      exact upd_same
    · refine En.keep (F.1 e he) fun a ha o q => ?_
      rw [upd_ne (ne_of_none q h)]
      exact q
  · show (p :: L.flatMap En.fp).Nodup
    exact List.nodup_cons.mpr ⟨ni, F.2⟩
theorem Fx.same (F : Fx H L) (k : Same H H') : Fx H' L := ⟨fun e he => En.keep (F.1 e he) fun a _ o q => k a o q, F.2⟩
theorem Fx.add (F : Fx H L) (h : H p = some o) (n : p ∉ L.flatMap En.fp) : Fx H (.ob p o :: L) := by
  refine ⟨fun e he => ?_, ?_⟩
  · rcases List.mem_cons.mp he with e1 | he
    · subst e1
      exact h
    · exact F.1 e he
  · show (p :: L.flatMap En.fp).Nodup
    exact List.nodup_cons.mpr ⟨n, F.2⟩
theorem Fx.sub (F : Fx H L) (h : L'.Sublist L) : Fx H L' := by
  refine ⟨fun e he => F.1 e (h.subset he), ?_⟩
  have : (L'.flatMap En.fp).Sublist (L.flatMap En.fp) := by
    induction h with
    | slnil => exact List.Sublist.refl _
    | cons a _ ih =>
      rw [List.flatMap_cons]
      exact List.Sublist.trans (ih ⟨fun e he => F.1 e (List.mem_cons_of_mem _ he), (List.nodup_append.mp (by have := F.2; rwa [List.flatMap_cons] at this)).2.1⟩) (List.sublist_append_right _ _)
    | cons_cons a _ ih =>
      rw [List.flatMap_cons, List.flatMap_cons]
      exact (List.Sublist.refl _).append (ih ⟨fun e he => F.1 e (List.mem_cons_of_mem _ he), (List.nodup_append.mp (by have := F.2; rwa [List.flatMap_cons] at this)).2.1⟩)
  exact List.Sublist.nodup this F.2
/-- p's object is exchanged -/
inductive Put (p : Addr) (o' : HO) : List En → List En → Prop where
  | head {o : HO} {L : List En} : Put p o' (.ob p o :: L) (.ob p o' :: L)
  | tail {e : En} {L L' : List En} (h : Put p o' L L') : Put p o' (e :: L) (e :: L')
theorem Put.fps (h : Put p o' L L') : L'.flatMap En.fp = L.flatMap En.fp := by
  induction h with
  | head => rfl
  | tail _ ih => rw [List.flatMap_cons, List.flatMap_cons, ih]
theorem Put.mem (h : Put p o' L L') : p ∈ L.flatMap En.fp := by
  induction h with
  | head => exact List.mem_cons_self
  | tail _ ih =>
    rw [List.flatMap_cons]
    exact List.mem_append_right _ ih
theorem Put.sat (h : Put p o' L L') (nd : (L.flatMap En.fp).Nodup) (s : ∀ e ∈ L, e.sat H) : ∀ e ∈ L', e.sat (upd H p o') := by
  induction h with
  | @head o L =>
    intro e he
    rcases List.mem_cons.mp he with e1 | he
    · subst e1
      exact upd_same
    · refine En.keep (s e (List.mem_cons_of_mem _ he)) fun a ha u q => ?_
      have n := (List.nodup_cons.mp (show (p :: L.flatMap En.fp).Nodup from nd)).1
      rw [upd_ne (fun z => n (by rw [← z]; exact List.mem_flatMap.mpr ⟨e, he, ha⟩))]
      exact q
  | @tail x L L' h ih =>
    rw [List.flatMap_cons] at nd
    obtain ⟨n1, n2, n3⟩ := List.nodup_append.mp nd
    intro e he
    rcases List.mem_cons.mp he with e1 | he
    · subst e1
      refine En.keep (s e List.mem_cons_self) fun a ha u q => ?_
      rw [upd_ne (n3 a ha p h.mem)]
      exact q
    · exact ih n2 (fun e he => s e (List.mem_cons_of_mem _ he)) e he
theorem Fx.put (F : Fx H L) (h : Put p o' L L') : Fx (upd H p o') L' := ⟨h.sat F.2 F.1, by rw [h.fps]; exact F.2⟩
/-- all but the list l stands; the draws go on at l -/
theorem Fx.drawn {l c : Addr} (F : Fx H L) (h : En.hand l c ∈ L) (k : ∀ b o, H b = some o → b ≠ l → H' b = some o) (d : HandAt H' l c) : Fx H' L := by
  refine ⟨fun e he => ?_, F.2⟩
  by_cases hl : l ∈ e.fp
  · have key : e = En.hand l c := by
      have nd := F.2
      have h' := h
      have he' := he
      clear d k F
      induction L with
      | nil => cases he
      | cons x L ih =>
        rw [List.flatMap_cons] at nd
        obtain ⟨n1, n2, n3⟩ := List.nodup_append.mp nd
        rcases List.mem_cons.mp h with e1 | h1
        · rcases List.mem_cons.mp he with e2 | h2
          · rw [e1, e2]
          · exact absurd rfl (n3 l (e1 ▸ List.mem_cons_self) l (List.mem_flatMap.mpr ⟨e, h2, hl⟩))
        · rcases List.mem_cons.mp he with e2 | h2
          · exact absurd rfl (n3 l (e2 ▸ hl) l (List.mem_flatMap.mpr ⟨_, h1, List.mem_cons_self⟩))
          · exact ih h1 h2 n2 h1 h2
    rw [key]
    exact d
  · exact En.keep (F.1 e he) fun a ha o q => k a o q fun z => hl (z ▸ ha)
end
end Z

set_option Elab.async false
set_option linter.all false
set_option maxRecDepth 100000
namespace Z
open PySem L2
/-! ### rules -/
theorem hu0 {X : Cx} {k : Nat} (hr : Room k X.A) : X.A.units + 64 < cLine := hr.units
section
variable {CX : CXT} {P : Program} {w : World} {K : PySem.W.Frag} {mg : Str → Option Value} {base : Heap}
/-- the def x keeps its promise; dvs: the defaults that fill up the call -/
def Ok (CX : CXT) (P : Program) (w : World) (K : PySem.W.Frag) (mg : Str → Option Value) (base : Heap) (x : Str) (k : Nat) (ps : List Str) (dvs : List V) (sp : Sp) : Prop :=
  ∃ (f : Addr) (fd : FuncData) (ds : List Value), mg x = some (.ref f) ∧ PySem.W.keepIn K (.ref f) = true ∧ Binds K fd ps ds ∧ Vals dvs ds ∧ FnOk P w K mg base CX k f fd ps sp
theorem mkOk {x : Str} {k : Nat} {ps : List Str} {sp : Sp} {st : Stmt} {f : Addr} {fd : FuncData} (F : Fun K x x st f fd) (g : mg x = some (.ref f)) (b : Binds K fd ps []) (G : FnOk P w K mg base CX k f fd ps sp) : Ok CX P w K mg base x k ps [] sp :=
  ⟨f, fd, [], g, F.kp, b, .nil, G⟩
end
section
variable {X : Cx} {CX : CXT} {k : Nat} {ps : List Str} {sp : Sp} {E : XK} {x : Str} {p pos apos : Pos} {e : Expr} {es : List Expr} {t : TA} {dvs : List V}
theorem pe_callO (O : Ok CX X.prog X.w X.K X.mg X.base x k ps dvs sp) (hg : Gl X x) (hr : Room k X.A) (hx : Passes CX X E) (ha : PA X (e :: es) t)
    (hdb : (x == ("__debug__" : Str)) = false := by decide) (he : starEach (e :: es) X.env = (false, eval e
          X.env) :: starEach es X.env := by rfl) (hpl : (backTo pos (starEach es X.env)).any (·.1) = false := by rfl) :
    PE X (.Call (.Name x p) (e :: es)
          [] pos) (tCall sp dvs E t) := by
  obtain ⟨f, fd, ds, g, kp, b, v, F⟩ := O
  exact pe_call F hr hg g kp b v hx ha hdb he hpl
theorem pt_tru {a : Expr} {ta : TE} (ha : PE X a ta) (he : ∀ whole, isTrue a X.env whole = (do let v ← whole; standAt a.pos; holding [v] (truthy v)) := by intro _; rfl) :
    PT X a (fun σ H Q => ta σ H fun x H' => ∃ k, TruV X.K x H' k ∧ Q k H') := pt_truth ha he
end
/-! named readings -/
def rTru (K : PySem.W.Frag) (ta : TE) : TT := fun σ H Q => ta σ H fun x H' => ∃ k, TruV K x H' k ∧ Q k H'
theorem pt_truN {X : Cx} {a : Expr} {ta : TE} (ha : PE X a ta) (he : ∀ whole, isTrue a X.env whole = (do let v ← whole; standAt a.pos; holding [v] (truthy v)) := by intro _; rfl) : PT X a (rTru X.K ta) := pt_truth ha he
def rAddS : R2 := fun x y H Q => ∃ i j, x = .str i ∧ y = .str j ∧ i.length + j.length ≤ sizeLine ∧ Q (.str (i ++ j)) H
def rOr (r r' : R2) : R2 := fun x y H Q => r x y H Q ∨ r' x y H Q
theorem opOr {X : Cx} {f : Value → Value → Sem Value} {r r' : R2} (h : OpR X f r) (h' : OpR X f r') : OpR X f (rOr r r') := h.or h'
abbrev rAddI : R2 := rI0 fun i j => .int (i + j)
abbrev rSubI : R2 := rI0 fun i j => .int (i - j)
theorem zAdd {X : Cx} : OpR X (binaryOp .Add) (rOr rAddI (rOr rAddS (rOr rCat (rCatT X.K)))) := opOr op_add (opOr op_add_str (opOr op_cat op_catT))
abbrev rMulI : R2 := rI CMulW fun i j => .int (i * j)
abbrev rMulC : R2 := rI CMul fun i j => .int (i * j)
theorem zMul {X : Cx} : OpR X (binaryOp .Mult) (rOr rMulC (rOr rMulI (rOr rRep (rRepT X.K)))) := opOr op_mul (opOr op_mulW (opOr op_rep op_repT))
abbrev rDivI : R2 := rI CDivW fun i j => .int (i / j)
theorem zDiv {X : Cx} : OpR X (binaryOp .FloorDiv) rDivI := op_fdivW
abbrev rModI : R2 := rI (fun _ j => 0 < j) fun i j => .int (i % j)
theorem zMod {X : Cx} : OpR X (binaryOp .Mod) rModI := op_mod
abbrev rPowI : R2 := rI CPow fun i j => .int (i ^ j.toNat)
theorem zPow {X : Cx} : OpR X (binaryOp .Pow) rPowI := op_pow
abbrev rLtI : R2 := rI0 fun i j => .bl (decide (i < j))
abbrev rLeI : R2 := rI0 fun i j => .bl (decide (i ≤ j))
abbrev rGtI : R2 := rI0 fun i j => .bl (decide (j < i))
abbrev rGeI : R2 := rI0 fun i j => .bl (decide (j ≤ i))
theorem zLt {X : Cx} : OpR X (compareOp .Lt) rLtI := op_lt
theorem zLe {X : Cx} : OpR X (compareOp .LtE) rLeI := op_le
theorem zGt {X : Cx} : OpR X (compareOp .Gt) rGtI := op_gt
theorem zGe {X : Cx} : OpR X (compareOp .GtE) rGeI := op_ge
theorem zEq {X : Cx} (hu : X.A.units + 64 < cLine) : OpR X (compareOp .Eq) (rOr rEq (rEqD X.K)) := opOr op_eq (op_eqD hu)
theorem zNe {X : Cx} (hu : X.A.units + 64 < cLine) : OpR X (compareOp .NotEq) (rOr rNe (rNeD X.K)) := opOr op_ne (op_neD hu)
def rIsN : R2 := fun x y H Q => y =
      .non ∧ Q (.bl (decide (x = .non))) H
def rNotN : R2 := fun x y H Q => y =
      .non ∧ Q (.bl (!decide (x = .non))) H
theorem zIs {X : Cx} : OpR X (compareOp .Is) (rOr rIsN rIsB) := opOr op_isN op_isBl
theorem zIsNot {X : Cx} : OpR X (compareOp .IsNot) (rOr rNotN rNotB) := opOr op_notN op_notBl
theorem zIn {X : Cx} : OpR X (compareOp .In) (rIn X.K false) := op_in_seq
theorem zNotIn {X : Cx} : OpR X (compareOp .NotIn) (rIn X.K true) := op_notIn_seq
def rLen (K : PySem.W.Frag) : List V → Hp → VK → Prop :=
      fun xs H Q => ∃ x n, xs = [x] ∧ LenV K x H n ∧ Q (.int n) H
theorem zLen {X : Cx} : CallR X (.builtin "len") (rLen X.K) := call_len
def rOrC (r r' : List V → Hp → VK → Prop) : List V → Hp → VK → Prop := fun xs H Q => r xs H Q ∨ r' xs H Q
theorem zIsi {X : Cx} : CallR X (.builtin "isinstance") (rOrC (rIsi X.K) (rIsiT X.K)) := CallR.or call_isi call_isiT
def rInt : List V → Hp → VK → Prop := fun xs H Q => (∃ i, xs = [.int i] ∧ Q (.int i) H) ∨ ∃ k, xs = [.bl k] ∧ Q (.int (if k then 1 else 0)) H
theorem zInt {X : Cx} : CallR X (.type "int") rInt := call_int1
def rList (K : PySem.W.Frag) : List V → Hp → VK → Prop := fun xs H Q => ∃ p ys, xs = [.ref p] ∧ (SqL K H p ys ∨ SqT K H p ys) ∧ ∀ l, H l = none → Q (.ref l) (upd H l (.lst ys))
theorem zList {X : Cx} : CallR X (.type "list") (rList X.K) := call_list_of
def rTuple (K : PySem.W.Frag) : List V → Hp → VK → Prop := fun xs H Q => ∃ p ys, xs = [.ref p] ∧ ((SqL K H p ys ∧ ∀ l, H l = none → Q (.ref l) (upd H l (.tup ys))) ∨ (SqT K H p ys ∧ Q (.ref p) H))
theorem zTuple {X : Cx} : CallR X (.type "tuple") (rTuple X.K) := call_tuple_of
def rAbs : List V → Hp → VK → Prop := fun xs H Q => ∃ i, xs = [.int i] ∧ Q (.int (if i < 0 then -i else i)) H
theorem zAbs {X : Cx} : CallR X (.builtin "abs") rAbs := call_abs
def rOrS (r r' : V → Option Int → Option Int → Hp → VK → Prop) : V → Option Int → Option Int → Hp → VK → Prop := fun x lo hi H Q => r x lo hi H Q ∨ r' x lo hi H Q
theorem zSl {X : Cx} : SlR X (rOrS (rSlL X.K) (rSlT X.K)) := SlR.or sl_list sl_tup

def NewT (xs : List V) (H : Hp) (Q : VK) : Prop := xs.length ≤ sizeLine ∧ ∀ p, H p = none → Q (.ref p) (upd H p (.tup xs))
def NewL (xs : List V) (H : Hp) (Q : VK) : Prop := xs.length ≤ sizeLine ∧ ∀ p, H p = none → Q (.ref p) (upd H p (.lst xs))
/-! ### how a reading is answered -/
section
variable {K : PySem.W.Frag} {H : Hp} {Q : VK} {L : List En} {σ : St} {v w : V} {i j : Int} {t u : TS} {nx bk ct : St → Hp → Prop} {rt : VK} {te ta tb tc : TE} {tt tt' : TT} {ts : TA} {g : TG} {r r' : R2} {QB : Bool → Hp → Prop} {QA : List V → Hp → Prop}
theorem at_start {σ' : St} {N : List Str} {vs : List V} {D : Ends} (e : start N vs = σ') (h : t D σ' H) : t D (start N vs) H := by rw [e]; exact h
theorem wSeq (h : t ⟨u ⟨nx, rt, bk, ct⟩, rt, bk, ct⟩ σ H) : tSeq t u ⟨nx, rt, bk, ct⟩ σ H := h
theorem wNext (h : nx σ H) : tNext ⟨nx, rt, bk, ct⟩ σ H := h
theorem wBreak (h : bk σ H) : tBreak ⟨nx, rt, bk, ct⟩ σ H := h
theorem wCont (h : ct σ H) : tCont ⟨nx, rt, bk, ct⟩ σ H := h
theorem wDrop (h : te σ H fun _ H1 => nx σ H1) : tDrop te ⟨nx, rt, bk, ct⟩ σ H := h
theorem wRet (h : te σ H rt) : tRet te ⟨nx, rt, bk, ct⟩ σ H := h
theorem wRetN (h : rt .non H) : tRetN ⟨nx, rt, bk, ct⟩ σ H := h
theorem wIfS (h : tt σ H fun b H1 => if b = true then t ⟨nx, rt, bk, ct⟩ σ H1 else u ⟨nx, rt, bk, ct⟩ σ H1) : tIfS tt t u ⟨nx, rt, bk, ct⟩ σ H := h
theorem wAsg (h : te σ H fun x H1 => g x σ H1 nx) : tAsg te g ⟨nx, rt, bk, ct⟩ σ H := h
theorem wFor {wi : TI} {tb : TS} (h : wi σ H fun J H1 => ∃ W : Nat → Nat → St → Hp → Prop, (∃ m, W 0 m σ H1) ∧ ∀ i m σ H, W i m σ H →
  (J.stop i H ∧ nx σ H) ∨ (J.go i H ∧ ∃ N : St → Hp → Prop, (∀ σ' H', N σ' H' → ∃ m', m' < m ∧ W (i + 1) m' σ' H') ∧ ∀ x H', J.yld i H x H' → g x σ H' fun σ2 H2 => tb ⟨N, rt, nx, N⟩ σ2 H2)) : tFor wi g tb ⟨nx, rt, bk, ct⟩ σ H := h
variable {a0 a1 a2 a3 a4 a5 a6 a7 a8 a9 b0 b1 b2 b3 b4 b5 b6 b7 : Option V} {ρ : St} {N : St → Hp → Prop}
theorem wG0 (h : N (some v :: ρ) H) : gName 0 v (a0 :: ρ) H N := h
theorem wG1 (h : N (a0 :: some v :: ρ) H) : gName 1 v (a0 :: a1 :: ρ) H N := h
theorem wG2 (h : N (a0 :: a1 :: some v :: ρ) H) : gName 2 v (a0 :: a1 :: a2 :: ρ) H N := h
theorem wG3 (h : N (a0 :: a1 :: a2 :: some v :: ρ) H) : gName 3 v (a0 :: a1 :: a2 :: a3 :: ρ) H N := h
theorem wG4 (h : N (a0 :: a1 :: a2 :: a3 :: some v :: ρ) H) : gName 4 v (a0 :: a1 :: a2 :: a3 :: a4 :: ρ) H N := h
theorem wG5 (h : N (a0 :: a1 :: a2 :: a3 :: a4 :: some v :: ρ) H) : gName 5 v (a0 :: a1 :: a2 :: a3 :: a4 :: a5 :: ρ) H N := h
theorem wG6 (h : N (a0 :: a1 :: a2 :: a3 :: a4 :: a5 :: some v :: ρ) H) : gName 6 v (a0 :: a1 :: a2 :: a3 :: a4 :: a5 :: a6 :: ρ) H N := h
theorem wG7 (h : N (a0 :: a1 :: a2 :: a3 :: a4 :: a5 :: a6 :: some v :: ρ) H) : gName 7 v (a0 :: a1 :: a2 :: a3 :: a4 :: a5 :: a6 :: a7 :: ρ) H N := h
theorem wG8 (h : N (a0 :: a1 :: a2 :: a3 :: a4 :: a5 :: a6 :: a7 :: some v :: ρ) H) : gName 8 v (a0 :: a1 :: a2 :: a3 :: a4 :: a5 :: a6 :: a7 :: a8 :: ρ) H N := h
theorem wG9 (h : N (a0 :: a1 :: a2 :: a3 :: a4 :: a5 :: a6 :: a7 :: a8 :: some v :: ρ) H) : gName 9 v (a0 :: a1 :: a2 :: a3 :: a4 :: a5 :: a6 :: a7 :: a8 :: a9 :: ρ) H N := h
theorem wG10 (h : N (a0 :: a1 :: a2 :: a3 :: a4 :: a5 :: a6 :: a7 :: a8 :: a9 :: some v :: ρ) H) : gName 10 v (a0 :: a1 :: a2 :: a3 :: a4 :: a5 :: a6 :: a7 :: a8 :: a9 :: b0 :: ρ) H N := h
theorem wG11 (h : N (a0 :: a1 :: a2 :: a3 :: a4 :: a5 :: a6 :: a7 :: a8 :: a9 :: b0 :: some v :: ρ) H) : gName 11 v (a0 :: a1 :: a2 :: a3 :: a4 :: a5 :: a6 :: a7 :: a8 :: a9 :: b0 :: b1 :: ρ) H N := h
theorem wG12 (h : N (a0 :: a1 :: a2 :: a3 :: a4 :: a5 :: a6 :: a7 :: a8 :: a9 :: b0 :: b1 :: some v :: ρ) H) : gName 12 v (a0 :: a1 :: a2 :: a3 :: a4 :: a5 :: a6 :: a7 :: a8 :: a9 :: b0 :: b1 :: b2 :: ρ) H N := h
theorem wG13 (h : N (a0 :: a1 :: a2 :: a3 :: a4 :: a5 :: a6 :: a7 :: a8 :: a9 :: b0 :: b1 :: b2 :: some v :: ρ) H) : gName 13 v (a0 :: a1 :: a2 :: a3 :: a4 :: a5 :: a6 :: a7 :: a8 :: a9 :: b0 :: b1 :: b2 :: b3 :: ρ) H N := h
theorem wG14 (h : N (a0 :: a1 :: a2 :: a3 :: a4 :: a5 :: a6 :: a7 :: a8 :: a9 :: b0 :: b1 :: b2 :: b3 :: some v :: ρ) H) : gName 14 v (a0 :: a1 :: a2 :: a3 :: a4 :: a5 :: a6 :: a7 :: a8 :: a9 :: b0 :: b1 :: b2 :: b3 :: b4 :: ρ) H N := h
theorem wV {n : Nat} (e : σ[n]? = some (some v)) (h : Q v H) : tVar n σ H Q := ⟨v, e, h⟩
theorem wV0 (h : Q v H) : tVar 0 (some v :: ρ) H Q := ⟨v, rfl, h⟩
theorem wV1 (h : Q v H) : tVar 1 (a0 :: some v :: ρ) H Q := ⟨v, rfl, h⟩
theorem wV2 (h : Q v H) : tVar 2 (a0 :: a1 :: some v :: ρ) H Q := ⟨v, rfl, h⟩
theorem wV3 (h : Q v H) : tVar 3 (a0 :: a1 :: a2 :: some v :: ρ) H Q := ⟨v, rfl, h⟩
theorem wV4 (h : Q v H) : tVar 4 (a0 :: a1 :: a2 :: a3 :: some v :: ρ) H Q := ⟨v, rfl, h⟩
theorem wV5 (h : Q v H) : tVar 5 (a0 :: a1 :: a2 :: a3 :: a4 :: some v :: ρ) H Q := ⟨v, rfl, h⟩
theorem wV6 (h : Q v H) : tVar 6 (a0 :: a1 :: a2 :: a3 :: a4 :: a5 :: some v :: ρ) H Q := ⟨v, rfl, h⟩
theorem wV7 (h : Q v H) : tVar 7 (a0 :: a1 :: a2 :: a3 :: a4 :: a5 :: a6 :: some v :: ρ) H Q := ⟨v, rfl, h⟩
theorem wV8 (h : Q v H) : tVar 8 (a0 :: a1 :: a2 :: a3 :: a4 :: a5 :: a6 :: a7 :: some v :: ρ) H Q := ⟨v, rfl, h⟩
theorem wV9 (h : Q v H) : tVar 9 (a0 :: a1 :: a2 :: a3 :: a4 :: a5 :: a6 :: a7 :: a8 :: some v :: ρ) H Q := ⟨v, rfl, h⟩
theorem wV10 (h : Q v H) : tVar 10 (a0 :: a1 :: a2 :: a3 :: a4 :: a5 :: a6 :: a7 :: a8 :: a9 :: some v :: ρ) H Q := ⟨v, rfl, h⟩
theorem wV11 (h : Q v H) : tVar 11 (a0 :: a1 :: a2 :: a3 :: a4 :: a5 :: a6 :: a7 :: a8 :: a9 :: b0 :: some v :: ρ) H Q := ⟨v, rfl, h⟩
theorem wV12 (h : Q v H) : tVar 12 (a0 :: a1 :: a2 :: a3 :: a4 :: a5 :: a6 :: a7 :: a8 :: a9 :: b0 :: b1 :: some v :: ρ) H Q := ⟨v, rfl, h⟩
theorem wV13 (h : Q v H) : tVar 13 (a0 :: a1 :: a2 :: a3 :: a4 :: a5 :: a6 :: a7 :: a8 :: a9 :: b0 :: b1 :: b2 :: some v :: ρ) H Q := ⟨v, rfl, h⟩
theorem wV14 (h : Q v H) : tVar 14 (a0 :: a1 :: a2 :: a3 :: a4 :: a5 :: a6 :: a7 :: a8 :: a9 :: b0 :: b1 :: b2 :: b3 :: some v :: ρ) H Q := ⟨v, rfl, h⟩
theorem wC (h : Q v H) : tC v σ H Q := h
theorem wOp (h : ta σ H fun x H1 => tb σ H1 fun y H2 => r x y H2 Q) : tOp r ta tb σ H Q := h
theorem wUn {rr : V → Hp → VK → Prop} (h : ta σ H fun x H1 => rr x H1 Q) : tUn rr ta σ H Q := h
theorem wNeg (h : Q (.int (-i)) H) : rU (fun i => .int (-i)) (.int i) H Q := ⟨i, rfl, h⟩
theorem wI0 {f : Int → Int → V} (h : Q (f i j) H) : rI0 f (.int i) (.int j) H Q := ⟨i, j, rfl, rfl, h⟩
theorem wI {C : Int → Int → Prop} {f : Int → Int → V} (c : C i j) (h : Q (f i j) H) : rI C f (.int i) (.int j) H Q := ⟨i, j, rfl, rfl, c, h⟩
theorem wOr1 (h : r v w H Q) : rOr r r' v w H Q := .inl h
theorem wOr2 (h : r' v w H Q) : rOr r r' v w H Q := .inr h
theorem wNil (h : QA [] H) : tNil σ H QA := h
theorem wCons (h : ta σ H fun x H1 => ts σ H1 fun xs H2 => QA (x :: xs) H2) : tCons ta ts σ H QA := h
theorem wCB {rr : List V → Hp → VK → Prop} (h : ts σ H fun vs H1 => rr vs H1 Q) : tCB rr ts σ H Q := h
theorem wTest (h : te σ H fun x H' => ∃ k, x = .bl k ∧ QB k H') : tTest te σ H QB := h
theorem wBl {b : Bool} {QP : Bool → Prop} (h : QP b) : ∃ k, V.bl b = .bl k ∧ QP k := ⟨b, rfl, h⟩
theorem wTruN (h : te σ H fun x H' => ∃ k, TruV K x H' k ∧ QB k H') : rTru K te σ H QB := h
theorem wTbl {b : Bool} {QP : Bool → Prop} (h : QP b) : ∃ k, TruV K (.bl b) H k ∧ QP k := ⟨b, rfl, h⟩
theorem wTint {QP : Bool → Prop} (h : QP (i != 0)) : ∃ k, TruV K (.int i) H k ∧ QP k := ⟨_, rfl, h⟩
theorem wTnon {QP : Bool → Prop} (h : QP false) : ∃ k, TruV K .non H k ∧ QP k := ⟨_, rfl, h⟩
theorem wTlst {a : Addr} {xs : List V} (s : SqL K H a xs) {QP : Bool → Prop} (h : QP (!xs.isEmpty)) : ∃ k, TruV K (.ref a) H k ∧ QP k := ⟨_, .inl ⟨xs, s, rfl⟩, h⟩
theorem wTtup {a : Addr} {xs : List V} (s : SqT K H a xs) {QP : Bool → Prop} (h : QP (!xs.isEmpty)) : ∃ k, TruV K (.ref a) H k ∧ QP k := ⟨_, .inr (.inl ⟨xs, s, rfl⟩), h⟩
theorem wNot (h : tt σ H fun c H1 => QB (!c) H1) : tNot tt σ H QB := h
theorem wAnd (h : tt σ H fun c H1 => if c = true then tt' σ H1 QB else QB false H1) : tAnd tt tt' σ H QB := h
theorem wOrb (h : tt σ H fun c H1 => if c = true then QB true H1 else tt' σ H1 QB) : tOr tt tt' σ H QB := h
theorem wAndT (h : ta σ H fun x H1 => ∃ k, TruV K x H1 k ∧ if k = true then tb σ H1 Q else Q x H1) : tAndT K ta tb σ H Q := h
theorem wOrT (h : ta σ H fun x H1 => ∃ k, TruV K x H1 k ∧ if k = true then Q x H1 else tb σ H1 Q) : tOrT K ta tb σ H Q := h
theorem wNotT (h : ta σ H fun x H1 => ∃ k, TruV K x H1 k ∧ Q (.bl (!k)) H1) : tNotT K ta σ H Q := h
theorem wTIf (h : tt σ H fun c H1 => if c = true then ta σ H1 Q else tb σ H1 Q) : tIf tt ta tb σ H Q := h
theorem wChain (h : ta σ H fun x H1 => tb σ H1 fun y H2 => r x y H2 fun z H3 => ∃ k, z = .bl k ∧ (if k = true then tc σ H3 fun w' H4 => r' y w' H4 Q else Q (.bl false) H3)) : tChain r r' ta tb tc σ H Q := h
theorem wIfT {b : Bool} {A B : Prop} (e : b = true) (h : A) : if b = true then A else B := by rw [if_pos e]; exact h
theorem wIfF {b : Bool} {A B : Prop} (e : b = false) (h : B) : if b = true then A else B := by rw [if_neg (by rw [e]; exact Bool.false_ne_true)]; exact h
theorem wIf {b : Bool} {A B : Prop} (h : b = true → A) (h' : b = false → B) : if b = true then A else B := by
  cases b with
  | true => exact wIfT rfl (h rfl)
  | false => exact wIfF rfl (h' rfl)
theorem wIfD {p : Prop} [Decidable p] {A B : Prop} (h : p → A) (h' : ¬ p → B) : if decide p = true then A else B := wIf (fun e => h (of_decide_eq_true e)) fun e => h' (of_decide_eq_false e)
theorem wIfND {p : Prop} [Decidable p] {A B : Prop} (h : ¬ p → A) (h' : p → B) : if (!decide p) = true then A else B := wIf (fun e => h (by simpa using e)) fun e => h' (by simpa using e)
theorem wEqII (h : Q (.bl (decide (i = j))) H) : rEq (.int i) (.int j) H Q := ⟨rfl, by
  have e : decide (V.int i = V.int j) = decide (i = j) := by
    by_cases q : i = j
    · rw [q, decide_eq_true rfl, decide_eq_true rfl]
    · rw [decide_eq_false q, decide_eq_false (fun z => q (by injection z))]
  rw [e]; exact h⟩
theorem wNeII (h : Q (.bl (!decide (i = j))) H) : rNe (.int i) (.int j) H Q := ⟨rfl, by
  have e : decide (V.int i = V.int j) = decide (i = j) := by
    by_cases q : i = j
    · rw [q, decide_eq_true rfl, decide_eq_true rfl]
    · rw [decide_eq_false q, decide_eq_false (fun z => q (by injection z))]
  rw [e]; exact h⟩
theorem wEqS {x y : V} (s : scal x y = true) (h : Q (.bl (decide (x = y))) H) : rEq x y H Q := ⟨s, h⟩
theorem wNeS {x y : V} (s : scal x y = true) (h : Q (.bl (!decide (x = y))) H) : rNe x y H Q := ⟨s, h⟩
theorem wIsN {x : V} (h : Q (.bl (decide (x = .non))) H) : rIsN x .non H Q := ⟨rfl, h⟩
theorem wNotN {x : V} (h : Q (.bl (!decide (x = .non))) H) : rNotN x .non H Q := ⟨rfl, h⟩
theorem wIsB {b c : Bool} (h : Q (.bl (decide (b = c))) H) : rIsB (.bl b) (.bl c) H Q := ⟨b, c, rfl, rfl, h⟩
theorem wNotB {b c : Bool} (h : Q (.bl (!decide (b = c))) H) : rNotB (.bl b) (.bl c) H Q := ⟨b, c, rfl, rfl, h⟩
theorem wIntI (h : Q (.int i) H) : rInt [.int i] H Q := .inl ⟨i, rfl, h⟩
theorem wAbs (h : Q (.int (if i < 0 then -i else i)) H) : rAbs [.int i] H Q := ⟨i, rfl, h⟩
variable {a b : Addr} {xs ys : List V} {o : HO}
theorem wLenL (s : SqL K H a xs) (h : Q (.int xs.length) H) : rLen K [.ref a] H Q := ⟨_, _, rfl, .inl ⟨_, s, rfl⟩, h⟩
theorem wLenT (s : SqT K H a xs) (h : Q (.int xs.length) H) : rLen K [.ref a] H Q := ⟨_, _, rfl, .inr ⟨_, s, rfl⟩, h⟩
theorem wLenS {z : Str} (s : z.length ≤ sizeLine) (h : Q (.int z.length) H) : rLen K [.str z] H Q := ⟨_, _, rfl, ⟨s, rfl⟩, h⟩
theorem wIxL (s : SqL K H a xs) (e : atI xs i = some v) (h : Q v H) : rIx K (.ref a) (.int i) H Q := .inl ⟨a, xs, i, v, rfl, rfl, s, e, h⟩
theorem wIxT (s : SqT K H a xs) (e : atI xs i = some v) (h : Q v H) : rIx K (.ref a) (.int i) H Q := .inr (.inl ⟨a, xs, i, v, rfl, rfl, s, e, h⟩)
theorem wIxS {z : Str} {c : Nat} (n : z.length ≤ sizeLine) (e : atI z.cps.toList i = some c) (h : Q (.str ⟨#[c]⟩) H) : rIx K (.str z) (.int i) H Q := .inr (.inr ⟨z, i, c, rfl, rfl, n, e, h⟩)
theorem SqT.of {K : PySem.W.Frag} {H : Hp} {a : Addr} {xs : List V} (h : H a = some (.tup xs)) : SqT K H a xs := .inl (.inl h)
/-- from the ledger -/
theorem Fx.lst (F : Fx H L) (m : En.ob a (.lst xs) ∈ L) : SqL K H a xs := SqL.of (F.get m)
theorem Fx.tup (F : Fx H L) (m : En.ob a (.tup xs) ∈ L) : SqT K H a xs := SqT.of (F.get m)
theorem Fx.frz {ob : Obj} (F : Fx H L) (m : En.ob a (.frz ob (.lst xs)) ∈ L) : SqL K H a xs := .inl (.inr ⟨ob, F.get m⟩)
/-- new objects -/
theorem wNewF (F : Fx H L) (k : ∀ p H', Fx H' (.ob p o :: L) → Q (.ref p) H') : ∀ p, H p = none → Q (.ref p) (upd H p o) := fun p n => k p _ (F.new n)
theorem wTup (n : xs.length ≤ 1000) (F : Fx H L) (k : ∀ p H', Fx H' (.ob p (.tup xs) :: L) → Q (.ref p) H') : NewT xs H Q := ⟨Nat.le_of_lt (small1000 n), wNewF F k⟩
theorem wLst (n : xs.length ≤ 1000) (F : Fx H L) (k : ∀ p H', Fx H' (.ob p (.lst xs) :: L) → Q (.ref p) H') : NewL xs H Q := ⟨Nat.le_of_lt (small1000 n), wNewF F k⟩
theorem wTTup (h : ts σ H fun xs H1 => NewT xs H1 Q) : tTup ts σ H Q := h
theorem wTLst (h : ts σ H fun xs H1 => NewL xs H1 Q) : tLst ts σ H Q := h
theorem wListL (s : SqL K H a xs) (F : Fx H L) (k : ∀ p H', Fx H' (.ob p (.lst xs) :: L) → Q (.ref p) H') : rList K [.ref a] H Q := ⟨a, xs, rfl, .inl s, wNewF F k⟩
theorem wListT (s : SqT K H a xs) (F : Fx H L) (k : ∀ p H', Fx H' (.ob p (.lst xs) :: L) → Q (.ref p) H') : rList K [.ref a] H Q := ⟨a, xs, rfl, .inr s, wNewF F k⟩
theorem wTupleL (s : SqL K H a xs) (F : Fx H L) (k : ∀ p H', Fx H' (.ob p (.tup xs) :: L) → Q (.ref p) H') : rTuple K [.ref a] H Q := ⟨a, xs, rfl, .inl ⟨s, wNewF F k⟩⟩
theorem wTupleT (s : SqT K H a xs) (h : Q (.ref a) H) : rTuple K [.ref a] H Q := ⟨a, xs, rfl, .inr ⟨s, h⟩⟩
/-- xs.append(v) -/
theorem wBM {T : String} {rr : V → List V → Hp → VK → Prop} (h : ta σ H fun x H1 => tyV K T x H1 ∧ ts σ H1 fun xs H2 => rr x xs H2 Q) : tBM K T rr ta ts σ H Q := h
theorem wBM0 {T : String} {rr : V → List V → Hp → VK → Prop} (h : ta σ H fun x H1 => tyV K T x H1 ∧ rr x [] H1 Q) : tBM0 K T rr ta σ H Q := h
theorem wTyL (s : SqL K H a xs) {B : Prop} (h : B) : tyV K "list" (.ref a) H ∧ B := ⟨.inl ⟨rfl, _, s⟩, h⟩
theorem wApp {L' : List En} (F : Fx H L) (m : En.ob a (.lst xs) ∈ L) (pt : Put a (.lst (xs ++ [v])) L L') (n : xs.length < sizeLine) (k : ∀ H', Fx H' L' → Q .non H') : rAppend (.ref a) [v] H Q :=
  ⟨a, xs, v, rfl, rfl, F.get m, n, k _ (F.put pt)⟩
theorem wPopAt {L' : List En} {n : Nat} (F : Fx H L) (m : En.ob a (.lst xs) ∈ L) (pt : Put a (.lst (xs.eraseIdx n)) L L') (h1 : -(2 ^ 63) ≤ i) (h2 : i < 2 ^ 63) (hi : seqIndex? i xs.length = some n) (hv : xs[n]? = some v) (k : ∀ H', Fx H' L' → Q v H') : rPopAt (.ref a) [.int i] H Q :=
  ⟨a, xs, i, n, v, rfl, rfl, F.get m, h1, h2, hi, hv, k _ (F.put pt)⟩
/-- a[i] = v -/
theorem wGSub {to ti : TE} {ts : TSet} (h : to σ H fun o H1 => ti σ H1 fun i H2 => ts o i v H2 fun H3 => N σ H3) : gSub to ti ts v σ H N := h
theorem wSetL {L' : List En} {QH : Hp → Prop} {n : Nat} (F : Fx H L) (m : En.ob a (.lst xs) ∈ L) (e : ixN xs.length i = some n) (pt : Put a (.lst (xs.set n v)) L L') (k : ∀ H', Fx H' L' → QH H') : rSetL (.ref a) (.int i) v H QH :=
  ⟨a, xs, i, n, rfl, rfl, F.get m, e, k _ (F.put pt)⟩
/-- calls -/
theorem wCall0 {sp : Sp} {E : XK} (h : ts σ H fun vs H1 => sp vs H1 Q E) : tCall sp [] E ts σ H Q := by unfold tCall; simpa only [List.append_nil] using h
theorem wCallD {sp : Sp} {E : XK} {d : V} {ds : List V} (h : ts σ H fun vs H1 => sp (vs ++ (d :: ds)) H1 Q E) : tCall sp (d :: ds) E ts σ H Q := h
/-- promises by the number of their arguments -/
def Sp1 (f : V → Hp → VK → XK → Prop) : Sp := fun vs H Q E => ∃ a, vs = [a] ∧ f a H Q E
def Sp2 (f : V → V → Hp → VK → XK → Prop) : Sp := fun vs H Q E => ∃ a b, vs = [a, b] ∧ f a b H Q E
def Sp3 (f : V → V → V → Hp → VK → XK → Prop) : Sp := fun vs H Q E => ∃ a b c, vs = [a, b, c] ∧ f a b c H Q E
def Sp4 (f : V → V → V → V → Hp → VK → XK → Prop) : Sp := fun vs H Q E => ∃ a b c d, vs = [a, b, c, d] ∧ f a b c d H Q E
theorem wSp1 {f : V → Hp → VK → XK → Prop} {E : XK} {x : V} (h : f x H Q E) : Sp1 f [x] H Q E := ⟨x, rfl, h⟩
theorem wSp2 {f : V → V → Hp → VK → XK → Prop} {E : XK} {x y : V} (h : f x y H Q E) : Sp2 f [x, y] H Q E := ⟨x, y, rfl, h⟩
theorem wSp3 {f : V → V → V → Hp → VK → XK → Prop} {E : XK} {x y z : V} (h : f x y z H Q E) : Sp3 f [x, y, z] H Q E := ⟨x, y, z, rfl, h⟩
theorem wSp4 {f : V → V → V → V → Hp → VK → XK → Prop} {E : XK} {x y z z' : V} (h : f x y z z' H Q E) : Sp4 f [x, y, z, z'] H Q E := ⟨x, y, z, z', rfl, h⟩
/-- loops -/
theorem wListI {R : It → Hp → Prop} {tl : TE} (h : tl σ H fun x H1 => ∃ a, x = .ref a ∧ (∃ xs, SqL K H1 a xs) ∧ R (Itl K a) H1) : iList K tl σ H R := h
theorem wForL {tb : TS} (s : SqL K H a xs) (Pv : Nat → St → Hp → Prop) (h0 : Pv 0 σ H) (hl : ∀ i σ H, i ≤ xs.length → Pv i σ H → SqL K H a xs)
    (hs : ∀ i x σ H, xs[i]? = some x → Pv i σ H → g x σ H fun σ2 H2 => tb ⟨Pv (i + 1), rt, nx, Pv (i + 1)⟩ σ2 H2) (hd : ∀ σ H, Pv xs.length σ H → nx σ H) :
    ∃ a', V.ref a = .ref a' ∧ (∃ xs, SqL K H a' xs) ∧ ∃ W : Nat → Nat → St → Hp → Prop, (∃ m, W 0 m σ H) ∧ ∀ i m σ H, W i m σ H →
  ((Itl K a').stop i H ∧ nx σ H) ∨ ((Itl K a').go i H ∧ ∃ N : St → Hp → Prop, (∀ σ' H', N σ' H' → ∃ m', m' < m ∧ W (i + 1) m' σ' H') ∧ ∀ x H', (Itl K a').yld i H x H' → g x σ H' fun σ2 H2 => tb ⟨N, rt, nx, N⟩ σ2 H2) :=
  ⟨a, rfl, ⟨xs, s⟩, for_list (D := ⟨nx, rt, fun _ _ => False, fun _ _ => False⟩) Pv h0 hl hs hd⟩
end
end Z

set_option Elab.async false
set_option linter.all false
set_option maxRecDepth 100000
namespace Z
open PySem L2
/-! ### kinds of things -/
inductive Kd where
  | non | bl | int | str | lst | tup | dct
def Kd.ty : Kd → Value
  | .non => .type "NoneType"
  | .bl => .type "bool"
  | .int => .type "int"
  | .str => .type "str"
  | .lst => .type "list"
  | .tup => .type "tuple"
  | .dct => .type "dict"
/-- isinstance's answers -/
def Kd.isInt : Kd → Bool | .int => true | .bl => true | _ => false
def Kd.isBool : Kd → Bool | .bl => true | _ => false
def Kd.isStr : Kd → Bool | .str => true | _ => false
def Kd.isList : Kd → Bool | .lst => true | _ => false
def Kd.isTuple : Kd → Bool | .tup => true | _ => false
inductive HasK (K : PySem.W.Frag) (H : Hp) : V → Kd → Prop where
  | non : HasK K H .non .non
  | bl (b : Bool) : HasK K H (.bl b) .bl
  | int (i : Int) : HasK K H (.int i) .int
  | str (z : Str) : HasK K H (.str z) .str
  | lst {a : Addr} {xs : List V} (s : SqL K H a xs) : HasK K H (.ref a) .lst
  | tup {a : Addr} {xs : List V} (s : SqT K H a xs) : HasK K H (.ref a) .tup
  | dct {a : Addr} {kvs : List (Key × V)} (e : H a = some (.dK kvs)) : HasK K H (.ref a) .dct
section
variable {K : PySem.W.Frag} {H H' : Hp} {x : V} {k : Kd} {Q : VK} {L : List En} {a p : Addr}
theorem HasK.tyx (h : HasK K H x k) : TyX K H x k.ty := by
  cases h with
  | non => exact .base .non
  | bl b => exact .base (.bl b)
  | int i => exact .base (.int i)
  | str z => exact .base (.str z)
  | lst s =>
    rcases s with (h | ⟨o, h⟩) | ⟨o, its, n, h1, h2, _⟩
    · exact .base (.lst h)
    · exact .base (.frz h)
    · exact .kList h1 h2
  | tup s =>
    rcases s with (h | ⟨o, h⟩) | h
    · exact .base (.tup h)
    · exact .fTuple h
    · obtain ⟨o, its, n, h1, h2, _⟩ := h
      exact .kTuple h1 h2
  | dct e => exact .base (.dK e)
theorem HasK.mono (h : HasK K H x k) (e : Same H H') : HasK K H' x k := by
  cases h with
  | non => exact .non
  | bl b => exact .bl b
  | int i => exact .int i
  | str z => exact .str z
  | lst s => exact .lst (e.seq s)
  | @tup b ys s =>
    have s' : SqT K H' b ys := by
      rcases s with (h | ⟨o, h⟩) | h
      · exact .inl (.inl (e _ _ h))
      · exact .inl (.inr
            ⟨o, e _ _ h⟩)
      · exact .inr h
    exact .tup s'
  | dct h => exact .dct (e _ _ h)
theorem kit_int : PySem.W.kitOne K k.ty (.type "int") = some k.isInt := by cases k <;> exact kit_ty (by decide +kernel)
theorem kit_bool : PySem.W.kitOne K k.ty (.type "bool") = some k.isBool := by cases k <;> exact kit_ty (by decide +kernel)
theorem kit_str : PySem.W.kitOne K k.ty (.type "str") = some k.isStr := by cases k <;> exact kit_ty (by decide +kernel)
theorem kit_list : PySem.W.kitOne K k.ty (.type "list") = some k.isList := by cases k <;> exact kit_ty (by decide +kernel)
theorem kit_tuple : PySem.W.kitOne K k.ty (.type "tuple") = some k.isTuple := by cases k <;> exact kit_ty (by decide +kernel)
theorem wIsiInt (h : HasK K H x k) (q : Q (.bl k.isInt) H) : rOrC (rIsi K) (rIsiT K) [x, .ty "int"] H Q := .inl ⟨x, _, _, _, _, rfl, .ty _, h.tyx, kit_int, q⟩
theorem wIsiBool (h : HasK K H x k) (q : Q (.bl k.isBool) H) : rOrC (rIsi K) (rIsiT K) [x, .ty "bool"] H Q := .inl ⟨x, _, _, _, _, rfl, .ty _, h.tyx, kit_bool, q⟩
theorem wIsiStr (h : HasK K H x k) (q : Q (.bl k.isStr) H) : rOrC (rIsi K) (rIsiT K) [x, .ty "str"] H Q := .inl ⟨x, _, _, _, _, rfl, .ty _, h.tyx, kit_str, q⟩
theorem wIsiList (h : HasK K H x k) (q : Q (.bl k.isList) H) : rOrC (rIsi K) (rIsiT K) [x, .ty "list"] H Q := .inl ⟨x, _, _, _, _, rfl, .ty _, h.tyx, kit_list, q⟩
theorem wIsiTuple (h : HasK K H x k) (q : Q (.bl k.isTuple) H) : rOrC (rIsi K) (rIsiT K) [x, .ty "tuple"] H Q := .inl ⟨x, _, _, _, _, rfl, .ty _, h.tyx, kit_tuple, q⟩
theorem wIsiLT (h : HasK K H x k) (F : Fx H L) (m : En.ob p (.tup [.ty "list", .ty "tuple"]) ∈ L) (q : Q (.bl (k.isList || k.isTuple)) H) : rOrC (rIsi K) (rIsiT K) [x, .ref p] H Q :=
  .inr ⟨x, p, _, _, _, _, rfl, F.get m, .cons (.ty _) (.cons (.ty _) .nil), h.tyx, kitAny_cons kit_list (fun e => by rw [e]; exact kitAny_cons kit_tuple (fun e => by rw [e]; exact kitAny_nil) (fun e => by rw [e]; rfl)) (fun e => by rw [e]; rfl), q⟩
/-- a whole number within bounds, by is_whole's own words -/
def inB (x : V) (lo hi : V) : Bool := match x with
  | .int i => (match lo with | .int l => decide (l ≤ i) | _ => true) && (match hi with | .int h => decide (i ≤ h) | _ => true)
  | _ => false
end
/-! ### a fact of the heap as an entry: a sequence of the script's kind -/
theorem seq_keep {K : PySem.W.Frag} {H : Hp} {a : Addr} {xs : List V} (s : SqL K H a xs) (L : List En) (F : Fx H L) (n : a ∉ L.flatMap En.fp) : ∃ L0 : List En, Fx H (L0 ++ L) ∧ ∀ H' L', Fx H' (L' ++ (L0 ++ L)) → SqL K H' a xs := by
  rcases s with (h | ⟨o, h⟩) | h
  · exact ⟨[.ob a (.lst xs)], F.add h n, fun H' L' F' => .inl (.inl (F'.get (List.mem_append_right _ (List.mem_append_left _ List.mem_cons_self))))⟩
  · exact ⟨[.ob a (.frz o (.lst xs))], F.add h n, fun H' L' F' => .inl (.inr ⟨o, F'.get (List.mem_append_right _ (List.mem_append_left _ List.mem_cons_self))⟩)⟩
  · exact ⟨[], F, fun H' L' F' => .inr h⟩
end Z
namespace Z
open PySem L2
theorem Fx.perm {H : Hp} {L L' : List En} (F : Fx H L) (p : L.Perm L') : Fx H L' := by
  refine ⟨fun e he => F.1 e (p.mem_iff.mpr he), ?_⟩
  have q : (L.flatMap En.fp).Perm (L'.flatMap En.fp) := by
    induction p with
    | nil => exact List.Perm.refl _
    | cons x _ ih =>
      rw [List.flatMap_cons, List.flatMap_cons]
      exact (ih ⟨fun e he => F.1 e (List.mem_cons_of_mem _ he), (List.nodup_append.mp (by have := F.2; rwa [List.flatMap_cons] at this)).2.1⟩).append_left _
    | swap x y l =>
      rw [List.flatMap_cons, List.flatMap_cons, List.flatMap_cons, List.flatMap_cons, ← List.append_assoc, ← List.append_assoc]
      exact List.perm_append_comm.append_right _
    | trans p1 p2 ih1 ih2 =>
      have q1 := ih1 F
      exact q1.trans (ih2 ⟨fun e he => F.1 e (p1.mem_iff.mpr he), q1.nodup_iff.mp F.2⟩)
  exact q.nodup_iff.mp F.2
/-- the draws' list, opened and shut again -/
theorem Fx.open {H : Hp} {L : List En} {l c : Addr} (F : Fx H L) (hm : En.hand l c ∈ L) : ∃ (ns : List Int) (i j t : Int) (L1 : List En), 0 ≤ i ∧ Fx H (.ob l (.lst [.ref c, .int i, .int j, .int t]) :: .ob c (.lst (ns.map V.int)) :: L1) ∧
    ∀ H' (ns' : List Int) (i' j' t' : Int), 0 ≤ i' → Fx H' (.ob l (.lst [.ref c, .int i', .int j', .int t']) :: .ob c (.lst (ns'.map V.int)) :: L1) → Fx H' L := by
  obtain ⟨ns, i, j, t, h0, h1, h2⟩ := F.gh hm
  obtain ⟨A, B, rfl⟩ := List.append_of_mem hm
  have G := F.perm List.perm_middle
  refine ⟨ns, i, j, t, A ++ B, h0, ⟨fun e he => ?_, G.2⟩, fun H' ns' i' j' t' h0' G' => ?_⟩
  · rcases List.mem_cons.mp he with e1 | he
    · subst e1; exact h1
    · rcases List.mem_cons.mp he with e1 | he
      · subst e1; exact h2
      · exact G.1 e (List.mem_cons_of_mem _ he)
  · have G2 : Fx H' (.hand l c :: (A ++ B)) := by
      refine ⟨fun e he => ?_, G'.2⟩
      rcases List.mem_cons.mp he with e1 | he
      · subst e1
        exact ⟨ns', i', j', t', h0', G'.get List.mem_cons_self, G'.get (List.mem_cons_of_mem _ List.mem_cons_self)⟩
      · exact G'.1 e (List.mem_cons_of_mem _ (List.mem_cons_of_mem _ he))
    exact G2.perm List.perm_middle.symm
/-- the draws' list, opened and shut again -/
theorem Fx.open5 {H : Hp} {L : List En} {l c : Addr} (F : Fx H L) (hm : En.hand5 l c ∈ L) : ∃ (ns : List Int) (i j t u : Int) (L1 : List En), 0 ≤ i ∧ Fx H (.ob l (.lst [.ref c, .int i, .int j, .int t, .int u]) :: .ob c (.lst (ns.map V.int)) :: L1) ∧
    ∀ H' (ns' : List Int) (i' j' t' u' : Int), 0 ≤ i' → Fx H' (.ob l (.lst [.ref c, .int i', .int j', .int t', .int u']) :: .ob c (.lst (ns'.map V.int)) :: L1) → Fx H' L := by
  obtain ⟨ns, i, j, t, u, h0, h1, h2⟩ : HandAt5 H l c := F.1 _ hm
  obtain ⟨A, B, rfl⟩ := List.append_of_mem hm
  have G := F.perm List.perm_middle
  refine ⟨ns, i, j, t, u, A ++ B, h0, ⟨fun e he => ?_, G.2⟩, fun H' ns' i' j' t' u' h0' G' => ?_⟩
  · rcases List.mem_cons.mp he with e1 | he
    · subst e1; exact h1
    · rcases List.mem_cons.mp he with e1 | he
      · subst e1; exact h2
      · exact G.1 e (List.mem_cons_of_mem _ he)
  · have G2 : Fx H' (.hand5 l c :: (A ++ B)) := by
      refine ⟨fun e he => ?_, G'.2⟩
      rcases List.mem_cons.mp he with e1 | he
      · subst e1
        exact ⟨ns', i', j', t', u', h0', G'.get List.mem_cons_self, G'.get (List.mem_cons_of_mem _ List.mem_cons_self)⟩
      · exact G'.1 e (List.mem_cons_of_mem _ (List.mem_cons_of_mem _ he))
    exact G2.perm List.perm_middle.symm
theorem at_ints {ns : List Int} {i : Nat} (h : i < ns.length) : atI (ns.map V.int) (i : Int) = some (V.int (ns.getD i 0)) := by
  have e : (ns.map V.int)[i]? = some (V.int (ns.getD i 0)) := by
    rw [List.getElem?_map, List.getElem?_eq_getElem h,
          List.getD_eq_getElem?_getD, List.getElem?_eq_getElem h]
    rfl
  exact at_of rfl e

theorem ixN_of {n : Nat} {k : Int} (h0 : 0 ≤ k) (h1 : k < n) : ixN n k = some k.toNat := by
  unfold ixN
  rw [if_pos h0, if_pos h1]
theorem at_intsI {ns : List Int} {k : Int} (h0 : 0 ≤ k) (h1 : k < ns.length) : atI (ns.map V.int) k = some (V.int (ns.getD k.toNat 0)) := by
  have e : k = ((k.toNat : Nat) : Int) := (Int.toNat_of_nonneg h0).symm
  have h2 : k.toNat < ns.length := by omega
  have q := at_ints (ns := ns) h2
  rw [← e] at q
  exact q
section
variable {K : PySem.W.Frag} {H : Hp} {Q : VK} {L : List En} {a : Addr} {ns : List Int} {k : Int} {xs : List V}
theorem wIxLi (s : SqL K H a (ns.map V.int)) (h0 : 0 ≤ k) (h1 : k < ns.length) (h : Q (.int (ns.getD k.toNat 0)) H) : rIx K (.ref a) (.int k) H Q := wIxL s (at_intsI h0 h1) h
theorem wIxTi (s : SqT K H a (ns.map V.int)) (h0 : 0 ≤ k) (h1 : k < ns.length) (h : Q (.int (ns.getD k.toNat 0)) H) : rIx K (.ref a) (.int k) H Q := wIxT s (at_intsI h0 h1) h
theorem wLenLi (s : SqL K H a (ns.map V.int)) (h : Q (.int ns.length) H) : rLen K [.ref a] H Q := by
  have := wLenL (Q := Q) s
  rw [List.length_map] at this
  exact this h
theorem wLenTi (s : SqT K H a (ns.map V.int)) (h : Q (.int ns.length) H) : rLen K [.ref a] H Q := by
  have := wLenT (Q := Q) s
  rw [List.length_map] at this
  exact this h
end

theorem log_small {m : Int} (h0 : 0 ≤ m) (h1 : m < 1000000000000) : m.natAbs.log2 < 9000 := by
  have h2 : m.natAbs < 2 ^ 40 := by omega
  exact Nat.lt_of_lt_of_le (PySem.Flt.log2_lt_of (by decide) h2) (by decide)

theorem int_of_map {ns : List Int} {i : Nat} {x : V} (h : (ns.map V.int)[i]? = some x) : ∃ z, x = V.int z := by
  rw [List.getElem?_map] at h
  cases e : ns[i]? with
  | none => rw [e]
        at h; cases h
  | some z => rw [e] at h; exact ⟨z, (Option.some.inj h).symm⟩
theorem int_of_map' {ns : List Int} {i : Nat} {x : V} (h : (ns.map V.int)[i]? = some x) : ∃ z, x = V.int z ∧ ns[i]? = some z := by
  rw [List.getElem?_map] at h
  cases e : ns[i]? with
  | none => rw [e]
        at h; cases h
  | some z => rw [e] at h; exact ⟨z, (Option.some.inj h).symm, rfl⟩
theorem line_big : 1000000 ≤ sizeLine := by rw [sizeLine_eq]; decide
end Z

set_option Elab.async false
set_option linter.all false
set_option maxRecDepth 100000
set_option maxHeartbeats 2000500
namespace Z
open PySem L2 PySem.W
/-! ### == and != of an instance by its class's own __eq__ -/
section
variable {prog : Program} {w : World} {A : Around} {E : Value → Shared → Prop} {s : Shared} {K : Frag} {x C L f : Addr} {h₀ : Heap} {m : Str → Option Value} {ox : Obj} {od : Option Obj} {b tb : Value}
theorem ifBound_ne {args : List Value} {Q : Option Value → Shared → Prop} (X : K.In s.heap) (I : InstAt s.heap x ox C od) (hs : findIn K (.ref C) "__ne__" = some (some (.builtin "object.__ne__")))
    (h : wpAny (model prog w) A (call (.builtin "object.__ne__") (.ref x :: args)) (fun v => Q (some v)) E s) : wpAny (model prog w) A (callSpecialIfBound? (.ref x) "__ne__" args) Q E s := by
  simp only [callSpecialIfBound?,
        bindSpecialIfBound?]
  refine wpAny_holding (wpAny_bind (wpAny_bind (wpAny_bind
        (I.type.here ((looks_findIn X hs).here ?_)))))
  refine wpAny_bind
        (wpAny_askSetting (wpAny_ite ?_))
  have fin : wpAny (model prog w) A (call (.builtin "object.__ne__") ([.ref x] ++ args) >>= fun v => pure (some v)) Q E s := wpAny_bind (wpAny_mono h (fun v s' h' => wpAny_pure h') fun _ _ h' => h')
  have S := F.cmp_object.ne
  split
  · simp only [S.bind]
    exact wpAny_bind (wpAny_pure (wpAny_pure (by exact fin)))
  · simp only [S.bind]
    exact wpAny_tryCatch (wpAny_bind (wpAny_pure (wpAny_pure (by exact fin))))

theorem cmp_one {op : CmpOp} {Q : Value → Shared → Prop} (hu : A.units < cLine) (X : K.In s.heap) (I : InstAt s.heap x ox C od) (hb : Looks (model prog w) s.heap (typeOf b) tb) (hn : notFirst K C tb = true)
    (one : wpAny (model prog w) A (tryCompare (.ref x) (cmpInfo op).2.1 b) (fun r s' => ∃ v, r = some v ∧ Q v s') E s) : wpAny (model prog w) A (richCompare op (.ref x) b) Q E s := by
  unfold richCompare
  simp only [oneThing_ref]
  refine wpAny_holding (wpAny_bind
        (wpAny_cRoomFor hu ?_))
  refine wpAny_bind (I.type.here
        (wpAny_bind (hb.here ?_)))
  split
  · rename_i q
    have e : subIn K tb (.ref
          C) = some false := by
      rcases Bool.or_eq_true_iff.mp
            hn with e | e
      · rw [beq_iff_eq.mp
            e] at q; simp at q
      · exact beq_iff_eq.mp e
    refine wpAny_bind
          ((looks_subIn X e).here ?_)
    simp only [Bool.false_eq_true,
          if_false]
    refine wpAny_bind (wpAny_mono one
          (fun r s' z => ?_) fun _ _ e => e)
    obtain ⟨v, rfl, hq⟩ := z
    exact wpAny_pure hq
  · refine wpAny_bind
        (wpAny_pure ?_)
    simp only [Bool.false_eq_true,
          if_false]
    refine wpAny_bind (wpAny_mono one
          (fun r s' z => ?_) fun _ _ e => e)
    obtain ⟨v, rfl, hq⟩ := z
    exact wpAny_pure hq
theorem ne_entry {Q : Fin → Shared → Prop} (hu : A.units < cLine) (X : K.In s.heap) (I : InstAt s.heap x ox C od) (hs : findIn K (.ref C) "__eq__" = some (some (.ref f))) (hf : isFn K (.ref f) = true)
    (h : wpAny (model prog w) A (call (.ref f) [.ref x, b]) (fun v s' => ∃ r : Bool, v = .bool r ∧ Q (.done (.ret (.bool (!r)))) s') E s) : wpAny (model prog w) A (Builtin.«object.__ne__» ⟨[.ref x, b], []⟩) Q E s := by
  have key : wpAny (model prog w) A (callSpecialIfBound? (.ref x) "__eq__" [b]) (fun o s' => ∃ r : Bool, o = some (.bool r) ∧ Q (.done (.ret (.bool (!r)))) s') E s := by
    refine ifBound_K X I hs hf (wpAny_mono h (fun v s' hv => ?_) fun _ _ e => e)
    obtain ⟨r, rfl, q⟩ := hv
    exact ⟨r, rfl, q⟩
  unfold
        Builtin.«object.__ne__»
  show wpAny (model prog w) A (cRoomFor "comparison" [.ref x, b] >>= _) Q E s
  refine wpAny_bind
        (wpAny_cRoomFor hu ?_)
  refine wpAny_bind (wpAny_mono key (fun o s' z => ?_) fun _ _ e => e)
  obtain ⟨r, rfl, q⟩ := z
  show wpAny (model prog w) A (truthy (.bool r) >>= _) Q E s'
  exact wpAny_bind (wpAny_truthy_bool (wpAny_pure q))
theorem cmp_Kne {Q : Value → Shared → Prop} (hu : A.units + 1 < cLine) (X : K.In s.heap) (I : InstAt s.heap x ox C od) (hb : Looks (model prog w) s.heap (typeOf b) tb) (hn : notFirst K C tb = true)
    (hne : findIn K (.ref C) "__ne__" = some (some (.builtin "object.__ne__"))) (hs : findIn K (.ref C) "__eq__" = some (some (.ref f))) (hf : isFn K (.ref f) = true) (hm : mroIn K C (.type "object") = some true)
    (h : wpAny (model prog w) A.in1 (call (.ref f) [.ref x, b]) (fun v s' => ∃ r : Bool, v = .bool r ∧ Q (.bool (!r)) s') E s) : wpAny (model prog w) A (richCompare .NotEq (.ref x) b) Q E s := by
  refine cmp_one (Nat.lt_of_succ_lt hu) X I hb hn ?_
  show wpAny (model prog w) A (tryCompare (.ref x) "__ne__" b) _ E s
  unfold tryCompare
  have sub : Looks (model prog w) s.heap (isInstance (.ref x) (.type "object")) true := I.type.andThen (looks_mroIn X hm)
  refine wpAny_bind (ifBound_ne X I hne (wpAny_call (codeAny_call_builtin F.cmp_object.ne.plain F.cmpEntry_ne (@check_slot (model prog w) _ _ s "object.__ne__" "object" "__ne__" (.ref x) [b] [] _ F.cmpKind_ne F.cmpSplit_ne sub (F.cmpArgs_ne _ _) ?_))))
  refine ne_entry (A := A.in1) hu X I hs hf (wpAny_mono h (fun v s' z => ?_) fun _ _ e => e)
  obtain ⟨r, rfl, q⟩ := z
  exact ⟨r, rfl, wpAny_pure ⟨_, rfl, q⟩⟩
end

structure OwnEqF (K : PySem.W.Frag) (C f : Addr) : Prop where
  eq : PySem.W.findIn K (.ref C) "__eq__" = some (some (.ref f))
  ne : PySem.W.findIn K (.ref C) "__ne__" = some (some (.builtin "object.__ne__"))
  fn : PySem.W.isFn
        K (.ref f) = true
  ob : PySem.W.mroIn K C (.type "object") = some true
def rOwn (K : PySem.W.Frag) (C : Addr) (sp : Sp) (g : Bool → Bool) : R2 := fun x y H Q => ∃ a dx fs tb, x = .ref a ∧ H a = some (.ins C dx fs) ∧ TyX K H y tb ∧ PySem.W.notFirst K C tb = true ∧ sp [x, y] H (fun v H' => ∃ b, v = .bl b ∧ Q (.bl (g b)) H') E0
section
variable {X : Cx} {k : Nat} {C f : Addr} {fd : FuncData} {ps : List Str} {sp : Sp}
theorem own_call {A : Around} {pins : List (Addr × Obj)} {σ : St} {H : Hp} {s : Shared} {Q : VK} {x y : V} {u v : Value} (F : FnOk X.prog X.w X.K X.mg X.base CX0 k f fd ps sp) (hb : Binds X.K fd ps []) (hr : Room k A) (hf : A.frames = X.A.frames)
    (I : L2.Inv X pins σ H s) (rx : RelV x u) (ry : RelV y v) (h : sp [x, y] H Q E0) : wpAny (model X.prog X.w) A (call (.ref f) [u, v]) (EP X pins σ Q) X.xe s := by
  have e0 : Env0 X.prog X.w X.K
        X.mg X.base A X.stack s H := by
    have e := I.env0
    exact ⟨by rw [hf]; exact e.frames, e.mod, e.bs, e.bsz, e.funs, e.frf, e.hok, e.bare⟩
  have hl := F.len _ _ _ _ h
  have r2 : Vals [x, y] [u, v] := .cons rx (.cons ry .nil)
  refine wpAny_call (codeAny_mono (F.run A X.stack s H ⟨[u, v], []⟩ [u, v] [x, y] _ E0 hr e0 (by
    have := hb s [u, v] I.kIn (by simpa using hl)
    simpa using this) r2 h) fun r s' hq => ?_)
  cases r with
  | error e => exact
        False.elim hq
  | ok fl =>
    cases fl with
    | ret w => exact I.after hq
    | next => exact False.elim hq
    | brk => exact False.elim hq
    | cont => exact False.elim hq
theorem op_eqOwn (F : FnOk X.prog X.w X.K X.mg X.base CX0 k f fd ps sp) (q : OwnEqF X.K C f) (hb : Binds X.K fd ps []) (hr : Room k X.A) : OpR X (compareOp .Eq) (rOwn X.K C sp id) := by
  intro pins s σ H x
        y v u Q I rx ry h
  obtain ⟨a, dx, fs, tb, rfl, ha, ty, nf, hsp⟩ := h
  cases rx
  obtain ⟨mA, J, _⟩
        := ins_get I.hok ha
  obtain ⟨od, J, _⟩ := J.look
  obtain ⟨P, Z, p, _⟩ := kit_of I ry ty
  show wpAny (model X.prog X.w) X.A (richCompare .Eq (.ref a) u) (EP X pins σ Q) X.xe s
  refine cmp_one hr.units0 I.kIn J (Z.ty _ _ I.kIn p) nf ?_
  show wpAny (model X.prog X.w) X.A (tryCompare (.ref a) "__eq__" u) _ X.xe s
  unfold tryCompare
  refine wpAny_bind (PySem.W.ifBound_K I.kIn J q.eq q.fn (wpAny_mono (own_call F hb hr rfl I (show RelV (V.ref a) (Value.ref a) from rfl) ry hsp) (fun v s' z => ?_) fun _ _ e => e))
  obtain ⟨v', H', I', rv, b, eb, hq⟩ := z
  subst eb
  cases rv
  exact wpAny_pure ⟨_, rfl, .bl b, H', I', rfl, hq⟩
theorem op_neOwn (F : FnOk X.prog X.w X.K X.mg X.base CX0 k f fd ps sp) (q : OwnEqF X.K C f) (hb : Binds X.K fd ps []) (hr : Room (k + 1) X.A) : OpR X (compareOp .NotEq) (rOwn X.K C sp not) := by
  intro pins s σ H x
        y v u Q I rx ry h
  obtain ⟨a, dx, fs, tb, rfl, ha, ty, nf, hsp⟩ := h
  cases rx
  obtain ⟨mA, J, _⟩
        := ins_get I.hok ha
  obtain ⟨od, J, _⟩ := J.look
  obtain ⟨P, Z, p, _⟩ := kit_of I ry ty
  show wpAny (model X.prog X.w) X.A (richCompare .NotEq (.ref a) u) (EP X pins σ Q) X.xe s
  refine cmp_Kne (by have := hr.units; omega) I.kIn J (Z.ty _ _ I.kIn p) nf q.ne q.eq q.fn q.ob (wpAny_mono (own_call F hb hr.in1 rfl I (show RelV (V.ref a) (Value.ref a) from rfl) ry hsp) (fun v s' z => ?_) fun _ _ e => e)
  obtain ⟨v', H', I', rv, b, eb, hq⟩ := z
  subst eb
  cases rv
  exact ⟨b, rfl, .bl (!b), H', I', rfl, hq⟩
end
end Z

set_option Elab.async false
set_option linter.all false
set_option maxRecDepth 100000
set_option maxHeartbeats 2000500
namespace Z
open PySem L2
/-! ### errors -/
/-- what the written part says of an error class: it is raised, caught by its own name -/
structure ErrF (K : PySem.W.Frag) (C : Addr) : Prop where
  oex : OexC K C
  xf : XfC K C
  me : PySem.W.exmOne K (.ref C) (.ref C) = some true
/-- its __init__ at fI -/
structure ErrI (K : PySem.W.Frag) (C fI : Addr) : Prop where
  iC : PySem.W.findIn K (.ref C) "__init__" = some (some (.ref fI))
  tI : PySem.W.typeIn K (.ref fI) = some (.type "function")
section
variable {X : Cx} {CX : CXT} {C fI : Addr} {k : Nat} {fd : FuncData} {ps : List Str} {sp : Sp} {ta : TA} {x : Str} {e : Expr} {es : List Expr} {p pos : Pos}
theorem pmk_err (T : ErrF X.K C) (iC : ErrI X.K C fI) (F1 : FnOk X.prog X.w X.K X.mg X.base CX0 k fI fd ps sp) (hb : Binds X.K fd ps []) (hr : Room (k + 1) X.A) (hm : X.mg x = some (.ref C)) (hg : Gl X x) (ha : PA X (e :: es) ta)
    (hdb : (x == ("__debug__" : Str)) = false := by decide) (he : starEach (e :: es) X.env = (false, eval e
          X.env) :: starEach es X.env := by rfl) (hpl : (backTo pos (starEach es X.env)).any (·.1) = false := by rfl) :
    PMk X (.Call (.Name x p) (e :: es) [] pos) (tMkO C sp [] ta) :=
  pmk_oex (dvs := []) (ds := []) T.oex iC.iC iC.tI F1 hr hb .nil (fun _ _ _ _ _ _ _ h => h.elim) hg hm ha hdb he hpl
end
/-- an __init__ that keeps one thing under one name -/
def spErr1 (K : PySem.W.Frag) (f : Str) : Sp := Sp2 fun a b H Q E => ∃ (q C : Addr), a = .ref q ∧ OexC K C ∧ PySem.W.findIn K (.ref C) f = some none ∧ H q = some (exo q C none) ∧
  ∀ d, H d = none → d ≠ q → Q .non (upd (upd H d (exd d [(f, b)])) q (exo q C (some d)))
def spErr2 (K : PySem.W.Frag) (f g : Str) : Sp := Sp3 fun a b c H Q E => ∃ (q C : Addr), a = .ref q ∧ OexC K C ∧ PySem.W.findIn K (.ref C) f = some none ∧ PySem.W.findIn K (.ref C) g = some none ∧ H q = some (exo q C none) ∧
  ∀ d, H d = none → d ≠ q → Q .non (upd (upd (upd H d (exd d [(f, b)])) q (exo q C (some d))) d (exd d [(g, c), (f, b)]))
theorem exd_ne {q C d : Addr} {o : Option Addr} {fs : List (Str × V)} : exo q C o ≠ exo q C o → False := fun h => h rfl
section
variable {K : PySem.W.Frag} {H H' : Hp} {L : List En} {C : Addr} {E : XK} {EK : XK} {ts : TA} {f g : Str} {v w : V}
/-- the heap behind an error's making -/
theorem Fx.made {a d : Addr} {o : HO} {H2 : Hp} (F : Fx H L) (ha : H a = none) (hd : H d = none) (k : ∀ b, b ≠ a → b ≠ d → H2 b = H b) : Fx (upd (del H2 a) d o) (.ob d o :: L) := by
  have F1 : Fx (upd (del H2 a) d o) L := F.same fun b u q => by
    have nb := ne_of_none q hd
    have na := ne_of_none q ha
    rw [upd_ne nb, del_ne na, k b na nb]
    exact q
  refine F1.add upd_same fun h => ?_
  obtain ⟨e, he, hm⟩ := List.mem_flatMap.mp h
  obtain ⟨o, q⟩ := En.there (F.1 e he) hm
  rw [hd] at q
  cases q
theorem wMk1 (T : OexC K C) (n : PySem.W.findIn K (.ref C) f = some none) (F : Fx H L) (k : ∀ d H', Fx H' (.ob d (.xd [(f, v)]) :: L) → EK (.ref C) (some d) H') :
    [v].length ≤ 1000 ∧ ∀ a, H a = none → spErr1 K f (.ref a :: ([v] ++ [])) (upd H a (exo a C none))
  (fun v H2 => v = .non ∧ ∃ (d : Addr) (fs : List (Str × V)), H2 a = some (exo a C (some d)) ∧ H2 d = some (exd d fs) ∧ H d = none ∧ EK (.ref C) (some d) (upd (del H2 a) d (.xd fs))) (fun _ _ _ => False) := by
  refine ⟨Nat.le_of_ble_eq_true rfl, fun a ha => ⟨_, _, rfl, a, C, rfl, T, n, upd_same, fun d hd hn => ⟨rfl, d, _, upd_same, ?_, ?_, k d _ (F.made ha ?_ fun b h1 h2 => ?_)⟩⟩⟩
  · rw [upd_ne hn, upd_same]
  · rw [upd_ne hn] at hd; exact hd
  · rw [upd_ne hn] at hd; exact hd
  · rw [upd_ne h1, upd_ne h2, upd_ne h1]
theorem wMk2 (T : OexC K C) (n : PySem.W.findIn K (.ref C) f = some none) (n' : PySem.W.findIn K (.ref C) g = some none) (F : Fx H L) (k : ∀ d H', Fx H' (.ob d (.xd [(g, w), (f, v)]) :: L) → EK (.ref C) (some d) H') :
    [v, w].length ≤ 1000 ∧ ∀ a, H a = none → spErr2 K f g (.ref a :: ([v, w] ++ [])) (upd H a (exo a C none))
  (fun v H2 => v = .non ∧ ∃ (d : Addr) (fs : List (Str × V)), H2 a = some (exo a C (some d)) ∧ H2 d = some (exd d fs) ∧ H d = none ∧ EK (.ref C) (some d) (upd (del H2 a) d (.xd fs))) (fun _ _ _ => False) := by
  refine ⟨Nat.le_of_ble_eq_true rfl, fun a ha => ⟨_, _, _, rfl, a, C, rfl, T, n, n', upd_same, fun d hd hn => ⟨rfl, d, _, ?_, upd_same, ?_, k d _ (F.made ha ?_ fun b h1 h2 => ?_)⟩⟩⟩
  · rw [upd_ne (Ne.symm hn), upd_same]
  · rw [upd_ne hn] at hd; exact hd
  · rw [upd_ne hn] at hd; exact hd
  · rw [upd_ne h2, upd_ne h1, upd_ne h2, upd_ne h1]
end
theorem owns {X : Cx} {K : Value → Shared → Prop} {E₁ : Value → Shared → Prop} (hx : X.xe = fun e s' => wpAny (model X.prog X.w) X.A (leaving X.env e) (fun _ s'' => K e s'') E₁ s') : PassesOwn (model X.prog X.w) X.A X.env X.xe := passes_of hx
/-! ### an instance is made in a try -/
section
variable {X : Cx} {CX : CXT} {k : Nat} {f C : Addr} {fd : FuncData} {ps : List Str} {ds : List Value} {dvs : List V} {sp : Sp} {E : St → XK} {x : Str} {p pos : Pos} {e : Expr} {es : List Expr} {t : TA}
def tMakeS (C : Addr) (sp : Sp) (dvs : List V) (E : St → XK) (t : TA) : TE := fun σ H Q => t σ H fun vs H1 => ∀ x dx, H1 x = none → H1 dx = none → dx ≠ x →
  sp (.ref x :: (vs ++ dvs)) (upd (upd H1 dx (.own x)) x (.ins C dx [])) (fun v H2 => v = .non ∧ Q (.ref x) H2) (E σ)
theorem run_makeS {pins : List (Addr × Obj)} {σ : St} {H : Hp} {s : Shared} {Q : VK} {us : List Value} {vs : List V} (M : Mk X.K C f) (F : FnOk X.prog X.w X.K X.mg X.base CX k f fd ps sp) (hr : Room (k + 1) X.A) (hb : Binds X.K fd ps ds) (hd : Vals dvs ds)
    (hx : PassesAt CX X σ (E σ)) (I : L2.Inv X pins σ H s) (r : Vals vs us)
    (h : ∀ x dx, H x = none → H dx = none → dx ≠ x → sp (.ref x :: (vs ++ dvs)) (upd (upd H dx (.own x)) x (.ins C dx [])) (fun v H2 => v = .non ∧ Q (.ref x) H2) (E σ)) :
    wpAny (model X.prog X.w) X.A (call (.ref
          C) us) (EP X pins σ Q) X.xe s := by
  have hq := h (s.heap.objs.size + 1) s.heap.objs.size (I.hok.fresh (Nat.le_succ
        _)) (I.hok.fresh (Nat.le_refl _)) (Nat.ne_of_lt (Nat.lt_succ_self _))
  have I2 := Inv.made
        (C := C) I
  have r2 : Vals (V.ref (s.heap.objs.size + 1) :: (vs ++ dvs)) (Value.ref
        (s.heap.objs.size + 1) :: (us ++ ds)) := .cons rfl (r.append hd)
  have hl : (Value.ref (s.heap.objs.size +
        1) :: us ++ ds).length = ps.length := by
    have e := r2.length
    rw [F.len _ _ _ _ hq] at e
    exact e.symm
  refine wpAny_call (make_map (f := f) I.kIn M.makes M.init (beq_iff_eq.mp M.fn) (codeAny_mono (F.run _ X.stack _ _ ⟨Value.ref (s.heap.objs.size + 1) :: us, []⟩ (Value.ref (s.heap.objs.size + 1) :: (us ++ ds)) _ _ (E σ) (hr.make C us [])
    (I2.env0.make C us []) (hb _ (Value.ref (s.heap.objs.size
          + 1) :: us) I2.kIn hl) r2 hq) fun r s' hq' => ?_))
  cases r with
  | error e => exact hx pins _ _ e s' I2 hq'
  | ok fl =>
    cases fl with
    | ret u =>
      obtain ⟨v, H', I3, rv,
            ev, q3⟩ := I2.after hq'
      subst ev
      exact ⟨rv, ⟨V.ref (s.heap.objs.size
            + 1), H', I3, rfl, q3⟩⟩
    | next => exact
          False.elim hq'
    | brk => exact False.elim hq'
    | cont => exact
          False.elim hq'
theorem pe_makeS (M : Mk X.K C f) (F : FnOk X.prog X.w X.K X.mg X.base CX k f fd ps sp) (hr : Room (k + 1) X.A) (hg : Gl X x) (hm : X.mg x = some (.ref C)) (hb : Binds X.K fd ps ds) (hd : Vals dvs ds) (hx : ∀ σ, PassesAt CX X σ (E σ))
    (ha : PA X (e :: es) t) (hdb : (x == ("__debug__" : Str)) = false := by decide) (he : starEach (e :: es) X.env = (false,
          eval e X.env) :: starEach es X.env := by rfl) (hpl : (backTo pos (starEach es X.env)).any (·.1) = false := by rfl) :
    PE X (.Call (.Name x p) (e :: es) [] pos) (tMakeS C sp dvs E t) := by
  refine ⟨fun pins
        s σ H Q I h => ?_⟩
  refine wpAny_Call_Name_kw
        (ld_glob I hg hm ?_ hdb)
  refine PySem.W.callWith_K (h₀ := X.base) I.ok.mod.kin M.kp (thn (ha.run
        pos pins s σ H _ I h) fun us s1 ⟨vs, H1, I1, r, q⟩ => ⟨I1.kIn, ?_⟩) he hpl
  exact run_makeS M F hr hb hd (hx σ) I1 r q
end
/-- the new instance and its dict, as entries -/
theorem Fx.inst {H : Hp} {L : List En} {C x dx : Addr} (F : Fx H L) (hx : H x = none) (hd : H dx = none) (ne : dx ≠ x) : Fx (upd (upd H dx (.own x)) x (.ins C dx [])) (.ob x (.ins C dx []) :: .ob dx (.own x) :: L) := by
  have F1 := F.new (o := .own x) hd
  exact F1.new (by rw [upd_ne (Ne.symm ne)]; exact hx)
theorem wMake {sp : Sp} {C : Addr} {dvs : List V} {E : XK} {t : TA} {σ : St} {H : Hp} {Q : VK} (h : t σ H fun vs H1 => ∀ x dx, H1 x = none → H1 dx = none → dx ≠ x →
  sp (.ref x :: (vs ++ dvs)) (upd (upd H1 dx (.own x)) x (.ins C dx [])) (fun v H2 => v = .non ∧ Q (.ref x) H2) E) : tMake C sp dvs E t σ H Q := h
theorem wMakeS {sp : Sp} {C : Addr} {dvs : List V} {E : St → XK} {t : TA} {σ : St} {H : Hp} {Q : VK} (h : t σ H fun vs H1 => ∀ x dx, H1 x = none → H1 dx = none → dx ≠ x →
  sp (.ref x :: (vs ++ dvs)) (upd (upd H1 dx (.own x)) x (.ins C dx [])) (fun v H2 => v = .non ∧ Q (.ref x) H2) (E σ)) : tMakeS C sp dvs E t σ H Q := h
/-- o.f and self.f = v of an instance -/
theorem wFld {K : PySem.W.Frag} {ta : TE} {f : Str} {σ : St} {H : Hp} {Q : VK} (h : ta σ H fun x H1 => ∃ a C dx fs v, x = .ref a ∧ H1 a = some (.ins C dx fs) ∧ Cls K C ∧ NoAttr K C f ∧ fs.lookup f = some v ∧ Q v H1) : tFld K ta f σ H Q := h
theorem wFldAt {K : PySem.W.Frag} {f : Str} {H : Hp} {L : List En} {a C dx : Addr} {fs : List (Str × V)} {v : V} {QP : V → Prop} (F : Fx H L) (m : En.ob a (.ins C dx fs) ∈ L) (c : Cls K C) (n : NoAttr K C f) (e : fs.lookup f = some v) (h : QP v) :
    ∃ a' C dx fs v, V.ref a = .ref a' ∧ H a' = some (.ins C dx fs) ∧ Cls K C ∧ NoAttr K C f ∧ fs.lookup f = some v ∧ QP v := ⟨a, C, dx, fs, v, rfl, F.get m, c, n, e, h⟩

def StoreF (K : PySem.W.Frag) (f : Str) (x y : V) (H : Hp) (N : Hp → Prop) : Prop := ∃ a C dx fs, x = .ref a ∧ H a = some (.ins C dx fs) ∧ Cls K C ∧ NoAttr K C f ∧ fs.length < 1000 ∧ N (upd H a (.ins C dx (putF f y fs)))
theorem wSFld {K : PySem.W.Frag} {ta tv : TE} {f : Str} {σ : St} {H : Hp} {nx bk ct : St → Hp → Prop} {rt : VK} (h : tv σ H fun y H1 => ta σ H1 fun x H2 => StoreF K f x y H2 (fun H3 => nx σ H3)) : sFld K ta tv f ⟨nx, rt, bk, ct⟩ σ H := h
theorem wStoreF {K : PySem.W.Frag} {f : Str} {y : V} {H : Hp} {N : Hp → Prop} {L L' : List En} {a C dx : Addr} {fs : List (Str × V)} (F : Fx H L) (m : En.ob a (.ins C dx fs) ∈ L) (c : Cls K C) (n : NoAttr K C f) (l : fs.length < 1000) (pt : Put a (.ins C dx (putF f y fs)) L L') (k : ∀ H', Fx H' L' → N H') : StoreF K f (.ref a) y H N :=
  ⟨a, C, dx, fs, rfl, F.get m, c, n, l, k _ (F.put pt)⟩
/-- self.f = v in an error's __init__ -/
theorem init1_run {K : PySem.W.Frag} {f : Str} {a b : V} {H : Hp} {Q : VK} {rt : VK} {bk ct : St → Hp → Prop} (h : ∃ (q C : Addr), a = .ref q ∧ OexC K C ∧ PySem.W.findIn K (.ref C) f = some none ∧ H q = some (exo q C none) ∧
  ∀ d, H d = none → d ≠ q → Q .non (upd (upd H d (exd d [(f, b)])) q (exo q C (some d)))) : tOst K f (tVar 0) (tVar 1) ⟨fun _ H' => Q .non H', rt, bk, ct⟩ [some a, some b] H := by
  obtain ⟨q, C, rfl, T, n, hq, k⟩ := h
  exact ⟨_, rfl, _, rfl, q, C, rfl, T, n, .inl ⟨hq, fun dx hd ne => k dx hd ne⟩⟩
theorem init2_run {K : PySem.W.Frag} {f g : Str} {a b c : V} {H : Hp} {Q : VK} {rt : VK} {bk ct : St → Hp → Prop} (h : ∃ (q C : Addr), a = .ref q ∧ OexC K C ∧ PySem.W.findIn K (.ref C) f = some none ∧ PySem.W.findIn K (.ref C) g = some none ∧ H q = some (exo q C none) ∧
  ∀ d, H d = none → d ≠ q → Q .non (upd (upd (upd H d (exd d [(f, b)])) q (exo q C (some d))) d (exd d [(g, c), (f, b)]))) : tSeq (tOst K f (tVar 0) (tVar 1)) (tOst K g (tVar 0) (tVar 2)) ⟨fun _ H' => Q .non H', rt, bk, ct⟩ [some a, some b, some c] H := by
  obtain ⟨q, C, rfl, T, n, n', hq, k⟩ := h
  exact ⟨_, rfl, _, rfl, q, C, rfl, T, n, .inl ⟨hq, fun dx hd ne => ⟨_, rfl, _, rfl, q, C, rfl, T, n', .inr ⟨dx, _, upd_same, by rw [upd_ne ne, upd_same], Nat.le_of_ble_eq_true rfl, k dx hd ne⟩⟩⟩⟩
end Z

set_option Elab.async false
set_option linter.all false
set_option maxRecDepth 100000
set_option maxHeartbeats 2000500
namespace Z
open PySem L2
section
variable (CX : CXT) (P : Program) (w : World) (K : PySem.W.Frag) (mg : Str → Option Value) (base : Heap)
def ErrO (C : Addr) (k : Nat) (ps : List Str) (sp : Sp) : Prop := ∃ (f : Addr) (fd : FuncData), ErrI K C f ∧ Binds K fd ps [] ∧ FnOk P w K mg base CX0 k f fd ps sp
def MkO (C : Addr) (k : Nat) (ps : List Str) (dvs : List V) (sp : Sp) : Prop := ∃ (f : Addr) (fd : FuncData) (ds : List Value), Mk K C f ∧ Binds K fd ps ds ∧ Vals dvs ds ∧ FnOk P w K mg base CX k f fd ps sp
def MkKO (C : Addr) (k : Nat) (ps ks : List Str) (n : Nat) (gV : List V → List V → List V) (sp : Sp) : Prop := ∃ (f : Addr) (fd : FuncData) (g : List Value → List Value → List Value), Mk K C f ∧ KBn K fd ps (n + 1) ks g gV ∧ FnOk P w K mg base CX k f fd ps sp
def EqO (C : Addr) (k : Nat) (ps : List Str) (sp : Sp) : Prop := ∃ (f : Addr) (fd : FuncData), OwnEqF K C f ∧ Binds K fd ps [] ∧ FnOk P w K mg base CX0 k f fd ps sp
def PropO (C : Addr) (x : Str) (k : Nat) (ps : List Str) (sp : Sp) : Prop := ∃ (p f : Addr) (fd : FuncData), PropOf K C x p f ∧ Binds K fd ps [] ∧ FnOk P w K mg base CX k f fd ps sp
def MethO (C : Addr) (x : Str) (k : Nat) (ps : List Str) (dvs : List V) (sp : Sp) : Prop := ∃ (f : Addr) (fd : FuncData) (ds : List Value), Meth K C x f ∧ Binds K fd ps ds ∧ Vals dvs ds ∧ FnOk P w K mg base CX k f fd ps sp
end
section
variable {X : Cx} {CX : CXT} {C : Addr} {k : Nat} {ps ks : List Str} {sp : Sp} {ta t tk : TA} {x : Str} {e o : Expr} {es : List Expr} {p pos apos : Pos} {E : XK} {ES : St → XK} {dvs : List V} {te : TE} {n : Nat} {gV : List V → List V → List V} {kws : List Keyword}
theorem pmk_errO (T : ErrF X.K C) (O : ErrO X.prog X.w X.K X.mg X.base C k ps sp) (hr : Room (k + 1) X.A) (hm : X.mg x = some (.ref C)) (hg : Gl X x) (ha : PA X (e :: es) ta)
    (hdb : (x == ("__debug__" : Str)) = false := by decide) (he : starEach (e :: es) X.env = (false, eval e
          X.env) :: starEach es X.env := by rfl) (hpl : (backTo pos (starEach es X.env)).any (·.1) = false := by rfl) :
    PMk X (.Call (.Name x p) (e :: es) [] pos) (tMkO C sp [] ta) := by
  obtain ⟨f, fd, i, b, F⟩ := O
  exact pmk_err T i F b hr hm hg ha hdb he hpl
theorem pe_makeO (O : MkO CX X.prog X.w X.K X.mg X.base C k ps dvs sp) (hr : Room (k + 1) X.A) (hm : X.mg x = some (.ref C)) (hg : Gl X x) (hx : Passes CX X E) (ha : PA X (e :: es) t)
    (hdb : (x == ("__debug__" : Str)) = false := by decide) (he : starEach (e :: es) X.env = (false, eval e
          X.env) :: starEach es X.env := by rfl) (hpl : (backTo pos (starEach es X.env)).any (·.1) = false := by rfl) :
    PE X (.Call (.Name x p) (e :: es)
          [] pos) (tMake C sp dvs E t) := by
  obtain ⟨f, fd, ds, M, b, v, F⟩ := O
  exact pe_make M F hr hg hm b v hx ha hdb he hpl
theorem pe_makeSO (O : MkO CX X.prog X.w X.K X.mg X.base C k ps dvs sp) (hr : Room (k + 1) X.A) (hm : X.mg x = some (.ref C)) (hg : Gl X x) (hx : ∀ σ, PassesAt CX X σ (ES σ)) (ha : PA X (e :: es) t)
    (hdb : (x == ("__debug__" : Str)) = false := by decide) (he : starEach (e :: es) X.env = (false, eval e
          X.env) :: starEach es X.env := by rfl) (hpl : (backTo pos (starEach es X.env)).any (·.1) = false := by rfl) :
    PE X (.Call (.Name x p) (e :: es) [] pos) (tMakeS C sp dvs ES t) := by
  obtain ⟨f, fd, ds, M, b, v, F⟩ := O
  exact pe_makeS M F hr hg hm b v hx ha hdb he hpl
theorem pe_makeKO (O : MkKO CX X.prog X.w X.K X.mg X.base C k ps ks n gV sp) (hr : Room (k + 1) X.A) (hm : X.mg x = some (.ref C)) (hg : Gl X x) (hx : Passes CX X E) (ha : PA X (e :: es) t) (hkw : PK X kws tk)
    (hall : (backToKw pos (keywordEach kws X.env)).all (·.1.isSome) = true := by rfl) (hks : (backToKw pos (keywordEach kws X.env)).filterMap (·.1) = ks := by rfl)
    (hdb : (x == ("__debug__" : Str)) = false := by decide) (he : starEach
          (e :: es) X.env = (false, eval e X.env) :: starEach es X.env := by rfl)
    (hpl : ((backTo pos (starEach (e :: es) X.env)).any (·.1) || (backToKw
          pos (keywordEach kws X.env)).any (·.1.isNone)) = false := by rfl) :
    PE X (.Call (.Name x p) (e :: es) kws pos)
          (tMakeN C n ks.length sp gV E t tk) := by
  obtain ⟨f, fd, g, M, b, F⟩ := O
  exact pe_makeN M F hr hg hm b hx ha hkw hall hks hdb he hpl
theorem pe_propO (O : PropO CX X.prog X.w X.K X.mg X.base C x k ps sp) (c : Cls X.K C) (hr : Room (k + 1) X.A) (hx : Passes CX X.nox E) (he : PE X e te) (hab : attributeBase e x X.env (eval e X.env) = eval e X.env := by rfl) :
    PE X (.Attribute e x pos) (tProp C sp [] E te) := by
  obtain ⟨p, f, fd, q, b, F⟩ := O
  exact pe_prop he c q F hr b .nil hx hab
theorem op_eqOwnO (O : EqO X.prog X.w X.K X.mg X.base C k ps sp) (hr : Room k X.A) : OpR X (compareOp .Eq) (rOwn X.K C sp id) := by
  obtain ⟨f, fd, q, b, F⟩ := O
  exact op_eqOwn F q b hr
theorem op_neOwnO (O : EqO X.prog X.w X.K X.mg X.base C k ps sp) (hr : Room (k + 1) X.A) : OpR X (compareOp .NotEq) (rOwn X.K C sp not) := by
  obtain ⟨f, fd, q, b, F⟩ := O
  exact op_neOwn F q b hr
end
/-- what the written part says of an own class whose instances are asked for their kind -/
structure InsF (K : PySem.W.Frag) (C : Addr) : Prop where
  cl : Cls K C
  ha : PySem.W.findIn K (.ref C) "__class__"
        = some (some (.builtin "object.__class__"))
  hn : PySem.W.specialIn K (.builtin "object.__class__")
        "__get__" = some (some (.builtin "getset_descriptor.__get__"))
  htk : PySem.W.takesIn K (.builtin
        "object.__class__") = some true
  hm : PySem.W.mroIn K C
        (.type "object") = some true
  me : PySem.W.kitOne K (.ref
        C) (.ref C) = some true
  tup : PySem.W.kitOne K (.type "tuple") (.ref C) = some false
  lst : PySem.W.kitOne K (.type "list") (.ref C) = some false
  str : PySem.W.kitOne K (.type "str") (.ref C) = some false
  nft : PySem.W.notFirst K C (.type "tuple") = true
section
variable {K : PySem.W.Frag} {C a dx : Addr} {H : Hp} {L : List En} {fs : List (Str × V)} {Q : VK} {xs : List V}
theorem InsF.ty (c : InsF K C) (h : H a = some (.ins C dx fs)) : TyX K H (.ref a) (.ref C) := .base (.ins h c.cl c.ha c.hn c.htk c.hm)
theorem InsF.nf (c : InsF K C) : PySem.W.notFirst K C (.ref C) = true := by
  show ((Value.ref C == .ref C) || _) = true
  rw [beq_self_eq_true]
  rfl
theorem wIsiOwn (c : InsF K C) (h : H a = some (.ins C dx fs)) (q : Q (.bl true) H) : rOrC (rIsi K) (rIsiT K) [.ref a, .ref C] H Q := .inl ⟨_, _, _, _, _, rfl, .own _, c.ty h, c.me, q⟩
theorem wIsiTupOwn (c : InsF K C) (s : SqT K H a xs) (q : Q (.bl false) H) : rOrC (rIsi K) (rIsiT K) [.ref a, .ref C] H Q := .inl ⟨_, _, _, _, _, rfl, .own _, (HasK.tup s).tyx, c.tup, q⟩
end
end Z
namespace Z
open PySem L2
section
variable {X : Cx} {CX : CXT} {k : Nat} {ps : List Str} {sp : Sp} {E : St → XK} {x : Str} {p pos : Pos} {e : Expr} {es : List Expr} {t : TA}
theorem pe_callSO (O : Ok CX X.prog X.w X.K X.mg X.base x k ps [] sp) (hg : Gl X x) (hr : Room k X.A) (hx : ∀ σ, PassesAt CX X σ (E σ)) (ha : PA X (e :: es) t)
    (hdb : (x == ("__debug__" : Str)) = false := by decide) (he : starEach (e :: es) X.env = (false, eval e
          X.env) :: starEach es X.env := by rfl) (hpl : (backTo pos (starEach es X.env)).any (·.1) = false := by rfl) :
    PE X (.Call (.Name x p) (e ::
          es) [] pos) (tCallS sp E t) := by
  obtain ⟨f, fd, ds, g, kp, b, v, F⟩ := O
  cases v
  exact pe_callS F hr hg g kp b hx ha hdb he hpl
end
theorem wCallS {sp : Sp} {E : St → XK} {t : TA} {σ : St} {H : Hp} {Q : VK} (h : t σ H fun vs H1 => sp vs H1 Q (E σ)) : tCallS sp E t σ H Q := h
end Z

set_option Elab.async false
set_option linter.all false
set_option maxRecDepth 100000
set_option maxHeartbeats 2000500
namespace Z
open PySem L2 RZ
/-! ### things by the ledger alone -/
inductive Thing (L : List En) : V → Kd → Prop where
  | non : Thing L .non .non
  | bl (b : Bool) : Thing L (.bl b) .bl
  | int (i : Int) : Thing L (.int i) .int
  | str (z : Str) : Thing L (.str z) .str
  | lst {a : Addr} {xs : List V} (m : En.ob a (.lst xs) ∈ L) : Thing L (.ref a) .lst
  | tup {a : Addr} {xs : List V} (m : En.ob a (.tup xs) ∈ L) : Thing L (.ref a) .tup
  | dct {a : Addr} {kvs : List (Key × V)} (m : En.ob a (.dK kvs) ∈ L) : Thing L (.ref a) .dct
theorem Thing.has {K : PySem.W.Frag} {H : Hp} {L : List En} {x : V} {k : Kd} (F : Fx H L) (t : Thing L x k) : HasK K H x k := by
  cases t with
  | non => exact .non
  | bl b => exact .bl b
  | int i => exact .int i
  | str z => exact .str z
  | lst m => exact .lst (F.lst m)
  | tup m => exact .tup (F.tup m)
  | dct m => exact .dct (F.get m)
theorem Thing.mono {L L' : List En} {x : V} {k : Kd} (t : Thing L x k) (h : ∀ e ∈ L, e ∈ L') : Thing L' x k := by
  cases t with
  | non => exact .non
  | bl b => exact .bl b
  | int i => exact .int i
  | str z => exact .str z
  | lst m => exact .lst (h _ m)
  | tup m => exact .tup (h _ m)
  | dct m => exact .dct (h _ m)
theorem Thing.cons {L : List En} {x : V} {k : Kd} {e : En} (t : Thing L x k) : Thing (e :: L) x k := t.mono fun _ h => List.mem_cons_of_mem _ h
/-- its items, where it is a sequence -/
inductive SeqIs (L : List En) : V → Option (List V) → Prop where
  | non : SeqIs L .non none
  | bl (b : Bool) : SeqIs L (.bl b) none
  | int (i : Int) : SeqIs L (.int i) none
  | str (z : Str) : SeqIs L (.str z) none
  | lst {a : Addr} {xs : List V} (m : En.ob a (.lst xs) ∈ L) : SeqIs L (.ref a) (some xs)
  | tup {a : Addr} {xs : List V} (m : En.ob a (.tup xs) ∈ L) : SeqIs L (.ref a) (some xs)
  | dct {a : Addr} {kvs : List (Key × V)} (m : En.ob a (.dK kvs) ∈ L) : SeqIs L (.ref a) none
def inLen (lo hi : Int) : Option (List V) → Bool
  | some xs => decide (lo ≤ (xs.length : Int)) && decide ((xs.length : Int) ≤ hi)
  | none => false
/-! ### comprehensions -/
section
variable {D : Addr} {R : Nat → List V → List En → Prop}
def LcP (D : Addr) (R : Nat → List V → List En → Prop) (i : Nat) (H : Hp) : Prop := ∃ acc L, Fx H (.ob D (.lst acc) :: L) ∧ R i acc L
def LcPut (D : Addr) (R : Nat → List V → List En → Prop) (i : Nat) (y : V) (H : Hp) : Prop := ∃ acc, H D = some (.lst acc) ∧ acc.length < sizeLine ∧ LcP D R (i + 1) (upd H D (.lst (acc ++ [y])))
theorem lcPut {i : Nat} {y : V} {H : Hp} {acc : List V} {L : List En} (F : Fx H (.ob D (.lst acc) :: L)) (n : acc.length < sizeLine) (r : R (i + 1) (acc ++ [y]) L) : LcPut D R i y H :=
  ⟨acc, F.get List.mem_cons_self, n, acc ++ [y], L, F.put .head, r⟩
variable {J : It} {n : Nat} {G : Hp → Prop} {Y : Nat → Hp → V → Hp → Prop} {g : TG} {tt : TT} {te : TE} {vs : List Nat} {σ : St} {H : Hp} {Q : VK} {L : List En}
theorem wLcW {QD : Addr → Hp → Prop} (w : Walk J n G Y) (F : Fx H L) (R : Nat → List V → List En → Prop) (h0 : R 0 [] L) (hG : ∀ i acc L' D H', R i acc L' → Fx H' (.ob D (.lst acc) :: L') → G H')
    (hs : ∀ i x D H' H'' acc L', i < n → R i acc L' → Fx H' (.ob D (.lst acc) :: L') → Y i H' x H'' → g x (wipe σ vs) H'' fun σ2 H2 => wipe σ2 vs = wipe σ vs ∧ tt σ2 H2 fun b H3 =>
      if b = true then te σ2 H3 fun y H4 => LcPut D R i y H4 else LcP D R (i + 1) H3)
    (hd : ∀ D acc L' H', Fx H' (.ob D (.lst acc) :: L') → R n acc L' → QD D H') :
    ∀ D, H D = none → ∃ W : Nat → Nat → Hp → Prop, (∃ m, W 0 m (upd H D (.lst []))) ∧ ∀ i m H, W i m H →
  (J.stop i H ∧ QD D H) ∨ (J.go i H ∧ ∃ Nx : Hp → Prop, (∀ H', Nx H' → ∃ m', m' < m ∧ W (i + 1) m' H') ∧ ∀ x H', J.yld i H x H' → g x (wipe σ vs) H' fun σ2 H2 => wipe σ2 vs = wipe σ vs ∧ tt σ2 H2 fun b H3 =>
    if b = true then te σ2 H3 fun y H4 => ∃ acc, H4 D = some (.lst acc) ∧ acc.length < sizeLine ∧ Nx (upd H4 D (.lst (acc ++ [y]))) else Nx H3) := fun D hD =>
  lc_it w (Qd := fun H' => QD D H') (LcP D R) ⟨[], L, F.new hD, h0⟩ (fun i H' _ ⟨acc, L', F', r⟩ => hG i acc L' D H' r F')
    (fun i x H' H'' hi ⟨acc, L', F', r⟩ y => hs i x D H' H'' acc L' hi r F' y) (fun H' ⟨acc, L', F', r⟩ => hd D acc L' H' F' r)
end
theorem wLc {wi : TI} {g : TG} {tt : TT} {te : TE} {vs : List Nat} {σ : St} {H : Hp} {Q : VK} (h : wi σ H fun J H1 => ∀ D, H1 D = none → ∃ W : Nat → Nat → Hp → Prop, (∃ m, W 0 m (upd H1 D (.lst []))) ∧ ∀ i m H, W i m H →
  (J.stop i H ∧ Q (.ref D) H) ∨ (J.go i H ∧ ∃ Nx : Hp → Prop, (∀ H', Nx H' → ∃ m', m' < m ∧ W (i + 1) m' H')
        ∧ ∀ x H', J.yld i H x H' → g x (wipe σ vs) H' fun σ2 H2 => wipe σ2 vs = wipe σ vs ∧ tt σ2 H2 fun b H3 =>
    if b = true then te σ2 H3 fun y H4 => ∃ acc, H4 D = some (.lst acc) ∧ acc.length < sizeLine ∧ Nx (upd H4 D (.lst (acc ++ [y]))) else Nx H3)) : tLc wi g tt te vs σ H Q := h
/-! what a loop or a comprehension walks -/
section
variable {K : PySem.W.Frag} {H : Hp} {L : List En} {a b : Addr} {xs ys : List V} {RI : It → Hp → Prop} {σ : St} {te : TE} {ta : TA}
def GoL (K : PySem.W.Frag) (x : V) (H : Hp) (R : It → Hp → Prop) : Prop := ∃ a, x = .ref a ∧ (∃ xs, SqL K H a xs) ∧ R (Itl K a) H
def GoT (K : PySem.W.Frag) (x : V) (H : Hp) (R : It → Hp → Prop) : Prop := ∃ a, x = .ref a ∧ (∃ xs, SqT K H a xs) ∧ R (Itt K a) H
theorem wIL (h : te σ H fun x H1 => GoL K x H1 RI) : iList K te σ H RI := h
theorem wIT (h : te σ H fun x H1 => GoT K x H1 RI) : iTup K te σ H RI := h
theorem wGoL (s : SqL K H a xs) (h : RI (Itl K a) H) : GoL K (.ref a) H RI := ⟨a, rfl, ⟨xs, s⟩, h⟩
theorem wGoT (s : SqT K H a xs) (h : RI (Itt K a) H) : GoT K (.ref a) H RI := ⟨a, rfl, ⟨xs, s⟩, h⟩
def GoR1 (vs : List V) (H : Hp) (R : It → Hp → Prop) : Prop := ∃ j : Int, vs = [.int j] ∧ -(2 ^ 62) ≤ j ∧ j < 2 ^ 62 ∧ R (Itr 0 j.toNat) H
def GoR2 (vs : List V) (H : Hp) (R : It → Hp → Prop) : Prop := ∃ i j : Int, vs = [.int i, .int j] ∧ (-(2 ^ 62) ≤ i ∧ i < 2 ^ 62 ∧ -(2 ^ 62) ≤ j ∧ j < 2 ^ 62) ∧ R (Itr i (j - i).toNat) H
theorem wIR1 (h : ta σ H fun vs H1 => GoR1 vs H1 RI) : iRng1 ta σ H RI := h
theorem wIR2 (h : ta σ H fun vs H1 => GoR2 vs H1 RI) : iRng2 ta σ H RI := h
theorem wGoR1 {j : Int} (h1 : -(2 ^ 62) ≤ j) (h2 : j < 2 ^ 62) (h : RI (Itr 0 j.toNat) H) : GoR1 [.int j] H RI := ⟨j, rfl, h1, h2, h⟩
theorem wGoR2 {i j : Int} (h1 : -(2 ^ 62) ≤ i) (h2 : i < 2 ^ 62) (h3 : -(2 ^ 62) ≤ j) (h4 : j < 2 ^ 62) (h : RI (Itr i (j - i).toNat) H) : GoR2 [.int i, .int j] H RI := ⟨i, j, rfl, ⟨h1, h2, h3, h4⟩, h⟩
def GoZ (K : PySem.W.Frag) (vs : List V) (H : Hp) (R : It → Hp → Prop) : Prop := ∃ a b xs ys, vs = [.ref a, .ref b] ∧ ((SqL K H a xs ∧ SqL K H b ys ∧ R (Itz K a b) H) ∨ (SqT K H a xs ∧ SqT K H b ys ∧ R (ItzT K a b) H))
theorem wIZ (h : ta σ H fun vs H1 => GoZ K vs H1 RI) : iZipA K ta σ H RI := h
theorem wGoZL (s : SqL K H a xs) (s' : SqL K H b ys) (h : RI (Itz K a b) H) : GoZ K [.ref a, .ref b] H RI := ⟨a, b, xs, ys, rfl, .inl ⟨s, s', h⟩⟩
theorem wGoZT (s : SqT K H a xs) (s' : SqT K H b ys) (h : RI (ItzT K a b) H) : GoZ K [.ref a, .ref b] H RI := ⟨a, b, xs, ys, rfl, .inr ⟨s, s', h⟩⟩
theorem walk_zipT {n : Nat} (hn : n = min xs.length ys.length) : Walk (ItzT K a b) n (fun H => SqT K H a xs ∧ SqT K H b ys) (YPair (fun i => xs[i]?) (fun i => ys[i]?)) := by
  subst hn
  refine ⟨fun i _ hi q => ?_, fun _ q => ⟨xs, ys,
        q.1, q.2, by omega⟩, fun i H v H' _ q y => ?_⟩
  · have h1 : i <
        xs.length := by omega
    have h2 : i <
          ys.length := by omega
    exact ⟨xs, ys, xs[i], ys[i], q.1,
          q.2, by simp [h1], by simp [h2]⟩
  · obtain ⟨T, x, z, h1,
        h2, h3, h4, h5⟩ := y
    exact ⟨T, x, z, h1, h2,
          h3, h4 xs q.1, h5 ys q.2⟩
theorem wYes {QB : Bool → Hp → Prop} (h : QB true H) : tYes σ H QB := h
end
/-- a for over a walk -/
theorem wForW {J : It} {n : Nat} {G : Hp → Prop} {Y : Nat → Hp → V → Hp → Prop} (w : Walk J n G Y) {g : TG} {tb : TS} {nx : St → Hp → Prop} {rt : VK} {σ : St} {H : Hp} (Pv : Nat → St → Hp → Prop) (h0 : Pv 0 σ H) (hG : ∀ i σ H, i ≤ n → Pv i σ H → G H)
    (hs : ∀ i x σ H H', i < n → Pv i σ H → Y i H x H' → g x σ H' fun σ2 H2 => tb ⟨Pv (i + 1), rt, nx, Pv (i + 1)⟩ σ2 H2) (hd : ∀ σ H, Pv n σ H → nx σ H) :
    ∃ W : Nat → Nat → St → Hp → Prop, (∃
          m, W 0 m σ H) ∧ ∀ i m σ H, W i m σ H →
      (J.stop i H ∧ nx σ H) ∨ (J.go i H ∧ ∃ N : St → Hp → Prop, (∀ σ' H', N σ' H' → ∃ m', m' < m ∧ W (i + 1) m' σ' H') ∧ ∀ x H', J.yld i H x H' → g x σ H' fun σ2 H2 => tb ⟨N, rt, nx, N⟩ σ2 H2) :=
  for_it (D := ⟨nx, rt, fun _ _ => False, fun _ _ => False⟩) w Pv h0 hG hs hd
/-- a tuple's items to names -/
theorem wGTup {K : PySem.W.Frag} {n : Nat} {t : TGs} {a : Addr} {xs : List V} {σ : St} {H : Hp} {N : St → Hp → Prop} (s : SqT K H a xs) (e : xs.length = n) (h : t xs σ H N) : gTup K n t (.ref a) σ H N := ⟨a, xs, rfl, s, e, h⟩
theorem wGCons {t : TG} {u : TGs} {v : V} {r : List V} {σ : St} {H : Hp} {N : St → Hp → Prop} (h : t v σ H fun σ' H' => u r σ' H' N) : gCons t u (v :: r) σ H N := ⟨v, r, rfl, h⟩
theorem wGNil {σ : St} {H : Hp} {N : St → Hp → Prop} (h : N σ H) : gNil [] σ H N := ⟨rfl, h⟩
/-! slices -/
section
variable {K : PySem.W.Frag} {H : Hp} {L : List En} {a : Addr} {xs : List V} {Q : VK} {σ : St} {r : V → Option Int → Option Int → Hp → VK → Prop} {te : TE} {tl th : TO} {lo hi : Option Int} {i : Int}
theorem wSl (h : te σ H fun x H1 => tl σ H1 fun l H2 => th σ H2 fun u H3 => r x l u H3 Q) : tSl r te tl th σ H Q := h
theorem wNoPart {QO : Option Int → Hp → Prop} (h : QO none H) : tNoPart σ H QO := h
def PartV (x : V) (H : Hp) (QO : Option Int → Hp → Prop) : Prop := ∃ i, x = .int i ∧ QO (some i) H
theorem wPart {QO : Option Int → Hp → Prop} {t : TE} (h : t σ H fun x H1 => PartV x H1 QO) : tPart t σ H QO := h
theorem wPartV {QO : Option Int → Hp → Prop} (h : QO (some i) H) : PartV (.int i) H QO := ⟨i, rfl, h⟩
theorem wSlL (s : SqL K H a xs) (F : Fx H L) (k : ∀ p H', Fx H' (.ob p (.lst (cutV xs lo hi)) :: L) → Q (.ref p) H') : rOrS (rSlL K) (rSlT K) (.ref a) lo hi H Q := .inl ⟨a, xs, rfl, s, wNewF F k⟩
theorem wSlT (s : SqT K H a xs) (n : ¬ (HT.sIx xs.length 0 lo = 0 ∧ HT.sIx xs.length xs.length hi = xs.length)) (F : Fx H L) (k : ∀ p H', Fx H' (.ob p (.tup (cutV xs lo hi)) :: L) → Q (.ref p) H') : rOrS (rSlL K) (rSlT K) (.ref a) lo hi H Q := .inr ⟨a, xs, rfl, s, n, wNewF F k⟩
theorem cut_tail : cutV xs (some 1) none = xs.tail := by
  unfold cutV HT.sIx
  cases xs with
  | nil => rfl
  | cons x r =>
    simp only [List.length_cons]
    have e : (min (1 : Int).toNat (r.length + 1)) = 1 := by
      have : (1 : Int).toNat = 1 := rfl
      omega
    simp
end

/-! a list or a tuple, walked -/
section
variable {X : Cx} {tg : Expr}
def GoS (K : PySem.W.Frag) (x : V) (H : Hp) (R : It → Hp → Prop) : Prop := GoL K x H R ∨ GoT K x H R
def iSeq (K : PySem.W.Frag) (tl : TE) : TI := fun σ H R => tl σ H fun x H1 => GoS K x H1 R
theorem pi_seq {l : Expr} {tl : TE} (hl : PE X l tl) : PI X tg l (iSeq X.K tl) := by
  refine ⟨fun pins
        s σ H R I h => ?_⟩
  refine thn (hl.run pins s σ H _ I h)
        fun v s1 ⟨x, H1, I1, r1, q1⟩ => ?_
  rcases q1 with q1 | q1
  · obtain ⟨a, e, ⟨xs, hq⟩, q⟩ := q1
    subst e
    cases r1
    obtain ⟨its, rv, p,
          hz⟩ := I1.list hq
    refine wpAny_pyIter_list
          p.isList ?_
    refine ⟨s1.heap.objs.size, [s1.heap.objs.size], _, _, H1, rfl, I1.kept (t' := s1.toks) fun b o e =>
          Heap.get?_push_of_some _ e, turn_list a _, ⟨_, Heap.get?_push_size _ rfl, rfl, rfl⟩, fun b hb => ?_, q⟩
    have e : b = s1.heap.objs.size
          := by simpa using hb
    subst e
    exact I1.fpOk (Nat.le_refl _)
          (I1.hok.fresh (Nat.le_refl _))
  · obtain ⟨a, e, ⟨xs, hq⟩, q⟩ := q1
    subst e
    cases r1
    obtain ⟨its, rv, p,
          hz⟩ := I1.tuple hq
    refine wpAny_pyIter_tuple (show
          s1.heap.IsTuple a its.toArray from p) ?_
    refine ⟨s1.heap.objs.size, [s1.heap.objs.size], _, _, H1, rfl, I1.kept (t' := s1.toks) fun b o e =>
          Heap.get?_push_of_some _ e, turn_tuple a _, ⟨_, Heap.get?_push_size _ rfl, rfl, rfl⟩, fun b hb => ?_, q⟩
    have e : b = s1.heap.objs.size
          := by simpa using hb
    subst e
    exact I1.fpOk (Nat.le_refl _)
          (I1.hok.fresh (Nat.le_refl _))
end
section
variable {K : PySem.W.Frag} {H : Hp} {L : List En} {a : Addr} {xs : List V} {RI : It → Hp → Prop} {σ : St} {te : TE}
theorem wIS (h : te σ H fun x H1 => GoS K x H1 RI) : iSeq K te σ H RI := h
theorem wGoSL (s : SqL K H a xs) (h : RI (Itl K a) H) : GoS K (.ref a) H RI := .inl (wGoL s h)
theorem wGoST (s : SqT K H a xs) (h : RI (Itt K a) H) : GoS K (.ref a) H RI := .inr (wGoT s h)
end
end Z
namespace Z
open PySem L2 RZ
theorem SeqIs.mono {L L' : List En} {a : V} {o : Option (List V)} (s : SeqIs L a o) (h : ∀ e ∈ L, e ∈ L') : SeqIs L' a o := by
  cases s with
  | non => exact .non
  | bl b => exact .bl b
  | int i => exact .int i
  | str z => exact .str z
  | lst m => exact .lst (h _ m)
  | tup m => exact .tup (h _ m)
  | dct m => exact .dct (h _ m)
end Z

set_option Elab.async false
set_option linter.all false
set_option maxRecDepth 100000
set_option maxHeartbeats 2000500
namespace Z
open PySem L2 RZ
theorem wAll {K : PySem.W.Frag} {H : Hp} {a : Addr} {bs : List Bool} {Q : VK} (s : SqL K H a (bs.map V.bl)) (h : Q (.bl (bs.all id)) H) : rAll K [.ref a] H Q := ⟨a, bs, rfl, s, h⟩
theorem wSum {K : PySem.W.Frag} {H : Hp} {a : Addr} {ns : List Int} {Q : VK} (s : SqL K H a (ns.map V.int)) (h : Q (.int ns.sum) H) : rSum K [.ref a] H Q := ⟨a, ns, rfl, s, h⟩
theorem wSorted {K : PySem.W.Frag} {H : Hp} {L : List En} {a : Addr} {ns : List Int} {Q : VK} (s : SqL K H a (ns.map V.int)) (n : ns.length < 64) (F : Fx H L) (k : ∀ (ms : List Int) p H', ms.Perm ns → ms.Pairwise (· ≤ ·) → Fx H' (.ob p (.lst (ms.map V.int)) :: L) → Q (.ref p) H') : rSorted K [.ref a] H Q :=
  ⟨a, ns, rfl, s, n, fun ms p q r hp => k ms p _ q r (F.new hp)⟩
/-- neighbours ascend -/
def asc : List Int → Bool
  | a :: b :: r => decide (a < b) && asc (b :: r)
  | _ => true
theorem asc_pw : ∀ {l : List Int}, asc l = true ↔ l.Pairwise (· < ·)
  | [] => by simp [asc]
  | [a] => by simp [asc]
  | a :: b :: r => by
    have ih := asc_pw (l := b :: r)
    have e : asc (a :: b :: r) = (decide (a < b) && asc (b :: r)) := by rw [asc]
    rw [e, Bool.and_eq_true, ih, decide_eq_true_iff]
    constructor
    · intro hp
      obtain ⟨h, p⟩ := hp
      refine List.pairwise_cons.mpr ⟨fun x hx => ?_, p⟩
      rcases List.mem_cons.mp hx with e1 | hx
      · rw [e1]; exact h
      · exact Int.lt_trans h ((List.pairwise_cons.mp p).1 x hx)
    · intro hp
      obtain ⟨h, p⟩ := List.pairwise_cons.mp hp
      exact ⟨h b List.mem_cons_self, p⟩
theorem asc_zip : ∀ {l : List Int}, ((l.zip l.tail).all fun p => decide (p.1 < p.2)) = asc l
  | [] => rfl
  | [a] => rfl
  | a :: b :: r => by
    have ih := asc_zip (l := b :: r)
    have e : asc (a :: b :: r) = (decide (a < b) && asc (b :: r)) := by rw [asc]
    rw [e, ← ih]
    rfl
theorem ints_of {xs : List V} {lo hi : V} (h : xs.all (fun x => inB x lo hi) = true) : ∃ ns : List Int, xs = ns.map V.int := by
  induction xs with
  | nil => exact ⟨[], rfl⟩
  | cons x r ih =>
    rw [List.all_cons,
          Bool.and_eq_true] at h
    obtain ⟨ns, e⟩ := ih h.2
    cases x with
    | int i => exact ⟨i :: ns, by rw [e]; rfl⟩
    | _ => exact absurd h.1 (by simp [inB])
theorem take_succ_map {α β : Type} {f : α → β} {l : List α} {i : Nat} {x : α} (h : l[i]? = some x) : (l.take (i + 1)).map f = (l.take i).map f ++ [f x] := by
  rw [List.take_add_one, h, List.map_append]
  rfl

section
variable {K : PySem.W.Frag} {H : Hp} {L : List En} {a b : V} {xs ys : List V} {Q : VK} {g : TG} {tt : TT} {te : TE} {vs : List Nat} {σ : St}
theorem wLcS {QD : Addr → Hp → Prop} (hq : SeqIs L a (some xs)) (F : Fx H L) (R : Nat → List V → List En → Prop) (h0 : R 0 [] L) (keep : ∀ i acc L', R i acc L' → ∀ e ∈ L, e ∈ L')
    (hs : ∀ i x D H' acc L', xs[i]? = some x → R i acc L' → Fx H' (.ob D (.lst acc) :: L') → g x (wipe σ vs) H' fun σ2 H2 => wipe σ2 vs = wipe σ vs ∧ tt σ2 H2 fun b H3 =>
      if b = true then te σ2 H3 fun y H4 => LcPut D R i y H4 else LcP D R (i + 1) H3)
    (hd : ∀ D acc L' H', Fx H' (.ob D (.lst acc) :: L') → R xs.length acc L' → QD D H') :
    GoS K a H fun J H1 => ∀ D, H1 D = none → ∃ W : Nat → Nat → Hp → Prop, (∃ m, W 0 m (upd H1 D (.lst []))) ∧ ∀ i m H, W i m H →
  (J.stop i H ∧ QD D H) ∨ (J.go i H ∧ ∃ Nx : Hp → Prop, (∀ H', Nx H' → ∃ m', m' < m ∧ W (i + 1) m' H') ∧ ∀ x H', J.yld i H x H' → g x (wipe σ vs) H' fun σ2 H2 => wipe σ2 vs = wipe σ vs ∧ tt σ2 H2 fun b H3 =>
    if b = true then te σ2 H3 fun y H4 => ∃ acc, H4 D = some (.lst acc) ∧
          acc.length < sizeLine ∧ Nx (upd H4 D (.lst (acc ++ [y]))) else Nx H3) := by
  cases hq with
  | lst m =>
    refine wGoSL (F.lst m) (wLcW (walk_list (K := K) (xs := xs)) F R h0 (fun i acc L' D H' r F' => F'.lst (List.mem_cons_of_mem _ (keep _ _ _ r _ m))) ?_ hd)
    rintro i x D H' H'' acc L' _ r F' ⟨rfl, e⟩
    exact hs i x D H'' acc L' e r F'
  | tup m =>
    refine wGoST (F.tup m) (wLcW (walk_tup (K := K) (xs := xs)) F R h0 (fun i acc L' D H' r F' => F'.tup (List.mem_cons_of_mem _ (keep _ _ _ r _ m))) ?_ hd)
    rintro i x D H' H'' acc L' _ r F' ⟨rfl, e⟩
    exact hs i x D H'' acc L' e r F'
/-- zip of two lists, or of two tuples -/
inductive Seq2 (L : List En) : V → V → List V → List V → Prop where
  | lst {a b : Addr} {xs ys : List V} (m : En.ob a (.lst xs) ∈ L) (m' : En.ob b (.lst ys) ∈ L) : Seq2 L (.ref a) (.ref b) xs ys
  | tup {a b : Addr} {xs ys : List V} (m : En.ob a (.tup xs) ∈ L) (m' : En.ob b (.tup ys) ∈ L) : Seq2 L (.ref a) (.ref b) xs ys
theorem wLcZ {QD : Addr → Hp → Prop} (hq : Seq2 L a b xs ys) (F : Fx H L) (R : Nat → List V → List En → Prop) (h0 : R 0 [] L) (keep : ∀ i acc L', R i acc L' → ∀ e ∈ L, e ∈ L')
    (hs : ∀ i x y T D H' acc L', xs[i]? = some x → ys[i]? = some y → R i acc L' → Fx H' (.ob T (.tup [x, y]) :: .ob D (.lst acc) :: L') → g (.ref T) (wipe σ vs) H' fun σ2 H2 => wipe σ2 vs = wipe σ vs ∧ tt σ2 H2 fun b H3 =>
      if b = true then te σ2 H3 fun y H4 => LcPut D R i y H4 else LcP D R (i + 1) H3)
    (hd : ∀ D acc L' H', Fx H' (.ob D (.lst acc) :: L') → R (min xs.length ys.length) acc L' → QD D H') :
    GoZ K [a, b] H fun J H1 => ∀ D, H1 D = none → ∃ W : Nat → Nat → Hp → Prop, (∃ m, W 0 m (upd H1 D (.lst []))) ∧ ∀ i m H, W i m H →
  (J.stop i H ∧ QD D H) ∨ (J.go i H ∧ ∃ Nx : Hp → Prop, (∀ H', Nx H' → ∃ m', m' < m ∧ W (i + 1) m' H') ∧ ∀ x H', J.yld i H x H' → g x (wipe σ vs) H' fun σ2 H2 => wipe σ2 vs = wipe σ vs ∧ tt σ2 H2 fun b H3 =>
    if b = true then te σ2 H3 fun y H4 => ∃ acc, H4 D = some (.lst acc) ∧
          acc.length < sizeLine ∧ Nx (upd H4 D (.lst (acc ++ [y]))) else Nx H3) := by
  cases hq with
  | lst m m' =>
    refine wGoZL (F.lst m) (F.lst m') (wLcW (walk_zip (K := K) (xs := xs) (ys := ys) rfl) F R h0 (fun i acc L' D H' r F' => ⟨F'.lst (List.mem_cons_of_mem _ (keep _ _ _ r _ m)), F'.lst (List.mem_cons_of_mem _ (keep _ _ _ r _ m'))⟩) ?_ hd)
    rintro i v D H' H'' acc L' _ r F' ⟨T, x, y, rfl, hT, rfl, e1, e2⟩
    exact hs i x y T D _ acc L' e1 e2 r (F'.new hT)
  | tup m m' =>
    refine wGoZT (F.tup m) (F.tup m') (wLcW (walk_zipT (K := K) (xs := xs) (ys := ys) rfl) F R h0 (fun i acc L' D H' r F' => ⟨F'.tup (List.mem_cons_of_mem _ (keep _ _ _ r _ m)), F'.tup (List.mem_cons_of_mem _ (keep _ _ _ r _ m'))⟩) ?_ hd)
    rintro i v D H' H'' acc L' _ r F' ⟨T, x, y, rfl, hT, rfl, e1, e2⟩
    exact hs i x y T D _ acc L' e1 e2 r (F'.new hT)
/-- a for over a list or a tuple -/
theorem wForS {tb : TS} {nx : St → Hp → Prop} {rt : VK} (hq : SeqIs L a (some xs)) (F : Fx H L) (Pv : Nat → St → Hp → Prop) (h0 : Pv 0 σ H) (keep : ∀ i σ H', Pv i σ H' → ∃ L', Fx H' L' ∧ ∀ p o, En.ob p o ∈ L → En.ob p o ∈ L')
    (hs : ∀ i x σ H', xs[i]? = some x → Pv i σ H' → g x σ H' fun σ2 H2 => tb ⟨Pv (i + 1), rt, nx, Pv (i + 1)⟩ σ2 H2) (hd : ∀ σ H', Pv xs.length σ H' → nx σ H') :
    GoS K a H fun J H1 => ∃ W : Nat → Nat → St → Hp → Prop, (∃ m, W 0 m σ H1) ∧ ∀ i m σ H, W i m σ H →
      (J.stop i H ∧ nx σ H) ∨ (J.go i H ∧ ∃ N : St → Hp → Prop, (∀ σ' H', N σ' H' → ∃ m', m' < m ∧ W (i + 1) m' σ' H') ∧ ∀ x H', J.yld i H x H' → g x σ H' fun σ2 H2 => tb ⟨N, rt, nx, N⟩ σ2 H2) := by
  cases hq with
  | lst m =>
    refine wGoSL (F.lst m) (wForW (walk_list (K := K) (xs := xs)) Pv h0 (fun i σ H' _ p => ?_) ?_ hd)
    · obtain ⟨L', F', k⟩ := keep i σ H' p
      exact F'.lst (k _ _ m)
    · rintro i x σ H' H'' _ p ⟨rfl, e⟩
      exact hs i x σ H'' e p
  | tup m =>
    refine wGoST (F.tup m) (wForW (walk_tup (K := K) (xs := xs)) Pv h0 (fun i σ H' _ p => ?_) ?_ hd)
    · obtain ⟨L', F', k⟩ := keep i σ H' p
      exact F'.tup (k _ _ m)
    · rintro i x σ H' H'' _ p ⟨rfl, e⟩
      exact hs i x σ H'' e p
/-- the tail of a list or of a tuple that is not empty -/
theorem wSlS (hq : SeqIs L a (some xs)) (n : xs ≠ []) (F : Fx H L) (k : ∀ p H' e, Fx H' (e :: L) → Seq2 (e :: L) a (.ref p) xs xs.tail → Q (.ref p) H') : rOrS (rSlL K) (rSlT K) a (some 1) none H Q := by
  cases hq with
  | lst m => exact wSlL (F.lst m) F fun p H' F' => k p H' _ F' (.lst (List.mem_cons_of_mem _ m) (by rw [cut_tail]; exact List.mem_cons_self))
  | tup m =>
    refine wSlT (F.tup m) (fun h => ?_) F fun p H' F' => k p H' _ F' (.tup (List.mem_cons_of_mem _ m) (by rw [cut_tail]; exact List.mem_cons_self))
    have e := h.1
    cases xs with
    | nil => exact n rfl
    | cons x r => simp [HT.sIx] at e
end

/-! list(range(a, b)) -/
def rgI (a b : Int) : List Int := (List.range (b - a).toNat).map fun i => a + (i : Nat)
theorem rgV_ints (a b : Int) : rgV a b = (rgI a b).map V.int := by
  unfold rgV rgI
  rw [List.map_map]
  rfl
theorem rgI_len (a b : Int) : (rgI a b).length = (b - a).toNat := by unfold rgI; rw [List.length_map, List.length_range]
theorem rgI_mem {a b n : Int} (h : n ∈ rgI a b) : a ≤ n ∧ n < b := by
  unfold rgI at h
  obtain ⟨i, hi, rfl⟩
        := List.mem_map.mp h
  have := List.mem_range.mp hi
  omega
theorem rgI_nodup (a b : Int) : (rgI a b).Nodup := by
  unfold rgI
  refine List.Pairwise.map _ (fun x y h => ?_) List.nodup_range
  intro e
  exact h (by omega)
section
variable {H : Hp} {L : List En} {Q : VK} {σ : St} {ta tb : TE} {i j : Int}
def RgV (x y : V) (H : Hp) (Q : VK) : Prop := ∃ i j, x = .int i ∧ y = .int j ∧ RgOk i j ∧ ∀ q, H q = none → Q (.ref q) (upd H q (.lst (rgV i j)))
theorem wListRg2 (h : ta σ H fun x H1 => tb σ H1 fun y H2 => RgV x y H2 Q) : tLstRg (tRg2 ta tb) σ H Q := h
theorem wListRg1 (h : ta σ H fun x H1 => RgV (.int 0) x H1 Q) (mono : ∀ (P P' : V → Hp → Prop) , (∀ x H, P x H → P' x H) → ta σ H P → ta σ H P') : tLstRg (tRg1 ta) σ H Q := by
  refine mono _ _ (fun x H1 z => ?_) h
  obtain ⟨i, j, e1, e2, r, q⟩ := z
  cases e1
  exact ⟨j, e2, r, q⟩
theorem wRgV (ok : RgOk i j) (F : Fx H L) (k : ∀ p H', Fx H' (.ob p (.lst ((rgI i j).map V.int)) :: L) → Q (.ref p) H') : RgV (.int i) (.int j) H Q := ⟨i, j, rfl, rfl, ok, by rw [rgV_ints]; exact wNewF F k⟩
end
theorem pw_lt {l : List Int} (h : l.Pairwise (· ≤ ·)) (n : l.Nodup) : l.Pairwise (· < ·) := by
  have q : l.Pairwise (fun a b => a ≤ b ∧ a ≠ b) := h.and n
  exact q.imp fun ⟨a, b⟩ => by omega
theorem erase_perm {α : Type} : ∀ {l : List α} {k : Nat} {x : α}, l[k]? = some x → (x :: l.eraseIdx k).Perm l
  | [], k, x, h => by simp at h
  | a :: r, 0, x, h => by
    have e : a = x :=
          Option.some.inj h
    subst e
    exact List.Perm.refl _
  | a :: r, k + 1, x, h => by
    have ih := erase_perm (l := r) (k := k) (x := x) h
    exact (List.Perm.swap a x _).trans (ih.cons a)
theorem seqIx {v : Int} {n : Nat} (h0 : 0 ≤ v) (h1 : v < n) : seqIndex? v n = some v.toNat := by
  unfold seqIndex?
  simp [h0, h1]
  try omega
theorem map_get {ns : List Int} {k : Nat} (h : k < ns.length) : (ns.map V.int)[k]? = some (V.int (ns.getD k 0)) := by
  rw [List.getElem?_map, List.getElem?_eq_getElem h,
        List.getD_eq_getElem?_getD, List.getElem?_eq_getElem h]
  rfl
theorem get_getD {ns : List Int} {k : Nat} (h : k < ns.length) : ns[k]? = some (ns.getD k 0) := by
  rw [List.getElem?_eq_getElem h,
        List.getD_eq_getElem?_getD, List.getElem?_eq_getElem h]
  rfl
theorem map_erase : ∀ {ns : List Int} {k : Nat}, (ns.map V.int).eraseIdx k = (ns.eraseIdx k).map V.int
  | [], _ => rfl
  | _ :: _, 0 => rfl
  | a :: r, k + 1 => by
    have ih := map_erase (ns := r) (k := k)
    show V.int a :: (r.map V.int).eraseIdx k = V.int a :: (r.eraseIdx k).map V.int
    rw [ih]
end Z

set_option Elab.async false
set_option linter.all false
set_option maxRecDepth 100000
set_option maxHeartbeats 2000500
namespace Z
open PySem L2 RZ
/-! ### data of whole numbers, compared -/
def iD (ns : List Int) : List PyData := ns.map PyData.int
theorem dpAll_ints {K : PySem.W.Frag} {H : Hp} : ∀ ns : List Int, DpAll K H (ns.map V.int) (iD ns)
  | [] => .nil
  | n :: r => .cons (.int n) (dpAll_ints r)
theorem eqvAll_ints : ∀ ns ms : List Int, PyData.eqvAll (iD ns) (iD ms) = decide (ns = ms)
  | [], [] => rfl
  | [], _ :: _ => rfl
  | _ :: _, [] => rfl
  | n :: r, m :: q => by
    show (PyData.eqv (.int n) (.int m) && PyData.eqvAll (iD r) (iD q)) = decide (n :: r = m :: q)
    rw [eqvAll_ints r q]
    show ((n == m) && decide (r = q)) = decide (n :: r = m :: q)
    by_cases h : n = m
    · subst h
      by_cases h' : r = q
      · subst h'; simp
      · simp [h']
    · simp [h]
theorem canLay_ints : ∀ ns : List Int, PyData.canLayAll0 (iD ns) = true
  | [] => rfl
  | n :: r => by
    show (PyData.canLay0 (.int n) && PyData.canLayAll0 (iD r)) = true
    rw [canLay_ints r]
    rfl
theorem depth_ints : ∀ ns : List Int, PyData.depthAll (iD ns) = 0
  | [] => rfl
  | n :: r => by
    show max (PyData.depth (.int n)) (PyData.depthAll (iD r)) = 0
    rw [depth_ints r]
    rfl
theorem shaped_tup (ns : List Int) : SeqAt.shaped (.tuple (iD ns)) = true := by
  unfold SeqAt.shaped
  rw [Bool.and_eq_true]
  refine ⟨canLay_ints ns, decide_eq_true ?_⟩
  show PyData.depthAll (iD ns) + 1 ≤ 64
  rw [depth_ints]
  decide
theorem shaped_lst (ns : List Int) : SeqAt.shaped (.list (iD ns)) = true := shaped_tup ns
section
variable {K : PySem.W.Frag} {H : Hp} {Q : VK} {a b : Addr} {ns ms : List Int} {x y : V} {r : R2}
theorem wEqTT (s : SqT K H a (ns.map V.int)) (t : SqT K H b (ms.map V.int)) (h : Q (.bl (decide (ns = ms))) H) : rOr rEq (rEqD K) (.ref a) (.ref b) H Q :=
  .inr ⟨_, _, .tup s (dpAll_ints ns), .tup t (dpAll_ints ms), shaped_tup ns, shaped_tup ms, by
    have e : PyData.eqv (.tuple (iD ns)) (.tuple (iD ms)) = decide (ns = ms) := eqvAll_ints ns ms
    rw [e]; exact h⟩
theorem wEqLL (s : SqL K H a (ns.map V.int)) (t : SqL K H b (ms.map V.int)) (h : Q (.bl (decide (ns = ms))) H) : rOr rEq (rEqD K) (.ref a) (.ref b) H Q :=
  .inr ⟨_, _, .lst s (dpAll_ints ns), .lst t (dpAll_ints ms), shaped_lst ns, shaped_lst ms, by
    have e : PyData.eqv (.list (iD ns)) (.list (iD ms)) = decide (ns = ms) := eqvAll_ints ns ms
    rw [e]; exact h⟩
theorem wNeTT (s : SqT K H a (ns.map V.int)) (t : SqT K H b (ms.map V.int)) (h : Q (.bl (!decide (ns = ms))) H) : rOr rNe (rNeD K) (.ref a) (.ref b) H Q :=
  .inr ⟨_, _, .tup s (dpAll_ints ns), .tup t (dpAll_ints ms), shaped_tup ns, shaped_tup ms, by
    have e : PyData.eqv (.tuple (iD ns)) (.tuple (iD ms)) = decide (ns = ms) := eqvAll_ints ns ms
    rw [e]; exact h⟩
theorem wNeLL (s : SqL K H a (ns.map V.int)) (t : SqL K H b (ms.map V.int)) (h : Q (.bl (!decide (ns = ms))) H) : rOr rNe (rNeD K) (.ref a) (.ref b) H Q :=
  .inr ⟨_, _, .lst s (dpAll_ints ns), .lst t (dpAll_ints ms), shaped_lst ns, shaped_lst ms, by
    have e : PyData.eqv (.list (iD ns)) (.list (iD ms)) = decide (ns = ms) := eqvAll_ints ns ms
    rw [e]; exact h⟩
/-- two texts, one of them known -/
theorem wNeStr {z z' : Str} (h : Q (.bl (!decide (z = z'))) H) : rOr rNe (rNeD K) (.str z) (.str z') H Q := .inl ⟨rfl, by
  have e : decide (V.str z = V.str z') = decide (z = z') := by
    by_cases q : z = z'
    · rw [q, decide_eq_true rfl, decide_eq_true rfl]
    · rw [decide_eq_false q, decide_eq_false (fun z => q (by injection z))]
  rw [e]; exact h⟩
theorem wEqStr {z z' : Str} (h : Q (.bl (decide (z = z'))) H) : rOr rEq (rEqD K) (.str z) (.str z') H Q := .inl ⟨rfl, by
  have e : decide (V.str z = V.str z') = decide (z = z') := by
    by_cases q : z = z'
    · rw [q, decide_eq_true rfl, decide_eq_true rfl]
    · rw [decide_eq_false q, decide_eq_false (fun z => q (by injection z))]
  rw [e]; exact h⟩
theorem wProp {C : Addr} {sp : Sp} {E : XK} {te : TE} {σ : St} (h : te σ H fun x H1 => ∃ a dx fs, x = .ref a ∧ H1 a = some (.ins C dx fs) ∧ sp [.ref a] H1 Q E) : tProp C sp [] E te σ H Q := h
theorem wSqTof {L : List En} (F : Fx H L) {xs : List V} (m : En.ob a (.tup xs) ∈ L) : SqT K H a xs := F.tup m
end
end Z
namespace Z
open PySem L2 RZ
theorem at_last {ns : List Int} (h : 0 < ns.length) : atI (ns.map V.int) (-1) = some (V.int (ns.getD (ns.length - 1) 0)) := by
  unfold atI ixN
  rw [if_neg (by decide), if_pos (by rw [List.length_map]; omega)]
  have e : ((-1 : Int) + (ns.map V.int).length).toNat = ns.length - 1 := by rw [List.length_map]; omega
  rw [e]
  exact map_get (by omega)
end Z
namespace Z
open PySem L2 RZ
theorem wXf {a : Addr} {cls : Value} {d : Option Addr} {C : Addr} {f : Str} {te : TE} {σ : St} {H : Hp} {Q : VK} (h : te σ H fun x H1 => x = .ref a ∧ cls = .ref C ∧ ∃ (dd : Addr) (fs : List (Str × V)) (v : V), d = some dd ∧ H1 dd = some (.xd fs) ∧ fs.lookup f = some v ∧ Q v H1) : tXf a cls d C f te σ H Q := h
theorem wAs_yes {K : PySem.W.Frag} {c : Value} {i : Nat} {ts : Addr → Value → Option Addr → TS} {Wout : WX} {nx bk ct : St → Hp → Prop} {rt : VK} {d : Option Addr} {σ : St} {H : Hp} (e : PySem.W.exmOne K c c = some true)
    (h : ∀ a, H a = none → ts a c d ⟨fun σ' H' => nx (σ'.set i none) H', rt, fun σ' H' => bk (σ'.set i none) H', fun σ' H' => ct (σ'.set i none) H'⟩ (σ.set i (some (.ref a))) H) : WE (wAs K c i ts Wout ⟨nx, rt, bk, ct⟩) σ c d H :=
  ⟨true, e, fun _ a ha => h a ha, fun q => Bool.noConfusion q⟩
end Z

set_option Elab.async false
set_option linter.all false
set_option maxRecDepth 100000
set_option maxHeartbeats 2000500
namespace Z
open PySem L2 RZ PySem.Spec PyProof.Rows
/-! ### a try whose clauses have a name or none, mixed -/
/-- a clause: the class, the slot of its name if it has one, the suite -/
structure Cl where
  c : Value
  i : Option Nat
  ts : Addr → Value → Option Addr → TS
/-- behind a suite the name is gone -/
def gone (D : Ends) : Option Nat → Ends
  | none => D
  | some i => ⟨fun σ H => D.nx (σ.set i none) H, D.rt, fun σ H => D.bk (σ.set i none) H, fun σ H => D.ct (σ.set i none) H⟩
def held (a : Addr) (σ : L2.St) : Option Nat → L2.St
  | none => σ
  | some i => σ.set i (some (.ref a))
def wMix (K : PySem.W.Frag) (Wout : WX) (D : Ends) : List Cl → WX
  | [] => Wout
  | k :: r => fun cls d σ H => ∃ b, PySem.W.exmOne K cls k.c = some b ∧
    (b = true → ∀ a, H a = none → k.ts a cls d (gone D k.i) (held a σ k.i) H) ∧
    (b = false → wMix K Wout D r cls d σ H)
inductive ClsOk (X : Cx) : List ExceptHandler → List Cl → Prop
  | nil : ClsOk X [] []
  | bare {x : Str} {c : Value} {ts : Addr → Value → Option Addr → TS} {b₀ : Stmt} {su : List Stmt} {np ps : Pos} {hs : List ExceptHandler} {l : List Cl}
      (hc : Names X x c) (hsu : ∀ (a : Addr) (oe : Obj) (cls : Value) (d : Option Addr) (pn : List (Addr × Obj)), Zc cls d oe →
        (∃ vs, oe.data = .fields vs) → PSs (X.suite a ((a, oe) :: pn)) (b₀ :: su) (ts a cls d)) (r : ClsOk X hs l) :
      ClsOk X (.ExceptHandler (some (.Name x np)) none (b₀ :: su) ps :: hs) (⟨c, none, ts⟩ :: l)
  | named {x n : Str} {i : Nat} {c : Value} {ts : Addr → Value → Option Addr → TS} {b₀ : Stmt} {su : List Stmt} {np ps : Pos} {hs : List ExceptHandler} {l : List Cl}
      (hN : X.N.Nodup) (hi : X.N[i]? = some n) (hln : X.env.kindOf n = some .local)
      (hc : Names X x c) (hsu : ∀ (a : Addr) (oe : Obj) (cls : Value) (d : Option Addr) (pn : List (Addr × Obj)), Zc cls d oe →
        (∃ vs, oe.data = .fields vs) → PSs (X.suite a ((a, oe) :: pn)) (b₀ :: su) (ts a cls d)) (r : ClsOk X hs l) :
      ClsOk X (.ExceptHandler (some (.Name x np)) (some n) (b₀ :: su) ps :: hs) (⟨c, some i, ts⟩ :: l)
section
variable {X : Cx} {body : List Stmt} {h₀ : ExceptHandler} {hds : List ExceptHandler} {l : List Cl} {pos : Pos} {tb : WX → TS} {Wout : WX}
theorem ps_try_mix (hs : X.stack = X.env :: X.outer) (hf : X.env.frame = some X.env.locals) (tk : Takes X Wout)
    (hb : ∀ (W : WX) (pn : List (Addr × Obj)) (xe : Value → Shared → Prop), Takes (X.tr pn xe) W →
      PassesOwn (model X.prog X.w) X.A X.env xe → PSs (X.tr pn xe) body (tb W))
    (hh : ClsOk X (h₀ :: hds) l) : PS X (.Try body (h₀ :: hds) [] [] pos) (fun D σ H => tb (wMix X.K Wout D l) D σ H) := by
  refine ⟨fun pins
        s σ H D I h => ?_⟩
  have ok := I.ok
  have frs0 : X.A.frames = some (X.env :: X.outer) := by rw [ok.frames, hs]
  have run := (hb (wMix X.K Wout D l) (X.pn ++ pins)
    (fun e s₁ => wpAny (model X.prog X.w) X.A (noteFrame e X.env) (fun _ s₂ => wpAny (model X.prog X.w) X.A (setFlight e none)
      (fun _ s₃ => wpAny (model X.prog X.w) X.A (handleBy e X.env (h₀ :: hds)) (SP X pins D) X.xe s₃) X.xe s₂) X.xe s₁)
    (fun u s' xx => ?caught) PassesOwn.looking).run [] s σ H D (I.toTry _) h
  · refine wpAny_Try_except (wpAny_mono run (fun f s1 done => ?_) fun e s1 z => z)
    cases f with
    | next =>
      obtain ⟨σ1, H1, J1, q1⟩ := done
      exact wpAny_execs_nil ⟨σ1, H1, J1.ofTry ok, q1⟩
    | brk => exact done.imp fun σ1 ⟨H1, J1, q1⟩ => ⟨H1, J1.ofTry ok, q1⟩
    | cont => exact done.imp fun σ1 ⟨H1, J1, q1⟩ => ⟨H1, J1.ofTry ok, q1⟩
    | ret u =>
      obtain ⟨v, σ1, H1, J1, r1, q1⟩ := done
      exact ⟨v, σ1, H1, J1.ofTry ok, r1, q1⟩
  obtain ⟨a, B, sI, pins', σ', H', cls, d, rfl, J', nb, up, sky, na, os, ag, wish⟩ := xx
  have J : Inv X pins σ'
        H' sI := J'.ofTry ok
  have sky1 : Sky B (X.env :: X.outer) a (Zc cls d) X.env.locals s'.heap := by rw [← hs]; exact sky
  show wpAny (model X.prog X.w) X.A
        (noteFrame (.ref a) X.env) _ _ _
  refine Sky.land Zc.steady frs0 hf sky1 fun h3 fl3 up3 => ?_
  have up13 := up.trans up3
  have J3 : Inv X pins σ' H' { s' with heap := h3 } := J.landed nb fl3.1 up13 os ag
  obtain ⟨oe3, vs3, he3,
        hz3, hd3⟩ := fl3.there
  have away : a ∉ frs (X.env :: X.outer) := fun hm => by
    obtain ⟨_, o', e', q⟩ := fl3.2.2.1.mem hm
    rw [he3] at e'
    cases e'
    exact q _ hd3
  have nL : a ≠ X.env.locals := fun z => away (List.mem_filterMap.mpr ⟨X.env, List.mem_cons_self, by rw [hf, z]⟩)
  have nF : a ∉ X.fs
        := fun hm => by
    obtain ⟨e, he, q⟩ :=
          List.mem_filterMap.mp hm
    exact away (List.mem_filterMap.mpr ⟨e, List.mem_cons_of_mem _ he, q⟩)
  have S3 := J3.suite
        he3 hd3 na nL nF
  have asks : ∀ {x : Str} {c : Value} {np : Pos} {Q E : Value → Shared → Prop}, Names X x c → Q c { s' with heap := h3 } →
      wpAny (model X.prog X.w) (X.A.mark (some (.ref a))) (eval (.Name x np) X.env) Q E { s' with heap := h3 } := fun {x c np Q E} hc q => by
    obtain ⟨hg, hdbg, hm
          | ⟨hm, hv, hnn⟩⟩ := hc
    · exact ld_glob (X := X.suite a ((a,
          oe3) :: (X.pn ++ pins))) S3 hg hm q hdbg
    · exact ld_blt (X := X.suite a ((a, oe3)
          :: (X.pn ++ pins))) S3 hg hm hv q hnn hdbg
  have LT : PySem.W.Looks (model X.prog X.w) h3 (typeOf (.ref a)) cls :=
    fun A Q E s k q => wpAny_typeOf_ref (k _ _ he3) (by rw [hz3.1]; exact q)
  have each : ∀ {hs' : List ExceptHandler} {l' : List Cl}, ClsOk X hs' l' → wMix X.K Wout D l' cls d σ' H' →
      wpAny (model X.prog X.w) X.A (handleBy (.ref a) X.env hs') (SP X pins D) X.xe { s' with heap := h3 } := by
    intro hs' l' hk
    induction hk with
    | nil =>
      intro w
      refine wpAny_handleBy_nil ?_
      obtain ⟨k1, k2, k3, oe, vs, T, oT,
            ts', he, hz, hd, h1, hr⟩ := id fl3
      unfold PySem.passOn
      refine wpAny_bind
            (wpAny_field he hd h1 ?_)
      rw [if_neg (show ¬ ((Value.ref T ==
            Value.none) = true) from by simp)]
      have out : wpAny (model X.prog X.w) X.A (setFlight (.ref a) X.env.frame)
          (fun _ s4 => wpAny (model X.prog X.w) X.A (throw (.ref a) : Sem Flow) (SP X pins D) X.xe s4) X.xe { s' with heap := h3 } := by
        rw [hf]
        refine HandSPX.setFlight_upZ fl3 fun
              h4 hh4 up4 => wpAny_throw (tk _ _ ?_)
        exact ⟨a, B, sI, pins, σ', H', cls, d, rfl, J, nb, up13.trans up4, .inr (.inr (by rw [hs]; exact hh4)), na, os, ag, w⟩
      first
        | exact wpAny_bind (wpAny_pure (wpAny_bind out))
        | exact wpAny_bind out
    | @bare x c ts b₀ su np ps hs2 l2 hc hsu r ih =>
      intro w
      obtain ⟨b, hb1, yes, no⟩ := w
      refine wpAny_handleBy_cons
            (codeAny_handlers_test ?_) (by intro q; cases q)
      have LM := PySem.W.exm_one (M := model X.prog X.w) J3.kIn LT hb1
      refine asks hc (LM.here ?_)
      cases b with
      | false =>
        show wpAny _ X.A (handleBy (.ref a) X.env hs2) _ _ _
        exact ih (no rfl)
      | true =>
        refine codeAny_handlers_suite (HandSPX.lands_againZ fl3 fun h4 fl4 up4 => ?_)
        have J4 : Inv X pins σ' H' { s' with heap := h4 } := J.landed nb fl4.1 (up13.trans up4) os ag
        obtain ⟨oe4, vs4, he4,
              hz4, hd4⟩ := fl4.there
        have S4 := J4.suite
              he4 hd4 na nL nF
        refine wpAny_mono ((hsu a oe4 cls d (X.pn ++ pins) hz4 ⟨_, hd4⟩).run [] _ _ H' _ S4 (yes rfl a na)) (fun f s6 done => ?_) (fun _ _ z => False.elim z)
        cases f with
        | ret u =>
          obtain ⟨v6, σ6, H6, S6, r6, q6⟩ := done
          exact ⟨_, _, _,
                S6.unsuite ok, r6, q6⟩
        | next => exact done.imp fun σ6 ⟨H6, S6, q6⟩ => ⟨H6, S6.unsuite ok, q6⟩
        | brk => exact done.imp fun σ6 ⟨H6, S6, q6⟩ => ⟨H6, S6.unsuite ok, q6⟩
        | cont => exact done.imp fun σ6 ⟨H6, S6, q6⟩ => ⟨H6, S6.unsuite ok, q6⟩
    | @named x n i c ts b₀ su np ps hs2 l2 hN hi hln hc hsu r ih =>
      intro w
      obtain ⟨b, hb1, yes, no⟩ := w
      refine wpAny_handleBy_cons
            (codeAny_handlers_test ?_) (by intro q; cases q)
      have LM := PySem.W.exm_one (M := model X.prog X.w) J3.kIn LT hb1
      refine asks hc (LM.here ?_)
      cases b with
      | false =>
        show wpAny _ X.A (handleBy (.ref a) X.env hs2) _ _ _
        exact ih (no rfl)
      | true =>
        refine codeAny_handlers_suite_as (HandSPX.lands_againZ fl3 fun h4 fl4 up4 => ?_)
        have J4 : Inv X pins σ' H' { s' with heap := h4 } := J.landed nb fl4.1 (up13.trans up4) os ag
        obtain ⟨oe4, vs4, he4,
              hz4, hd4⟩ := fl4.there
        have S4 := J4.suite
              he4 hd4 na nL nF
        refine store_ok (X := X.suite a ((a, oe4) :: (X.pn ++ pins))) (v := .ref a) S4 hN hi (.inl hln) rfl (fun s5 S5 => ?_) (.inr hln)
        refine wpAny_mono ((hsu a oe4 cls d (X.pn ++ pins) hz4 ⟨_, hd4⟩).run [] s5 _ H' _ S5 (yes rfl a na)) (fun f s6 done => ?_) (fun _ _ z => False.elim z)
        have free : ∀ {σ6 : L2.St} {H6 : Hp} {Q : Shared → Prop}, Inv (X.suite a ((a, oe4) :: (X.pn ++ pins))) [] σ6 H6 s6 →
            (∀ s7, Inv X pins (σ6.set i none) H6 s7 → Q s7) →
            wpAny (model X.prog X.w) X.A (do bindName X.env n .none; unbindBehindTheSuite X.env n ps) (fun _ s7 => Q s7) X.xe s6 :=
          fun {σ6 H6 Q} S6 hq => gone_ok (S6.unsuite ok) hN hi hln hq
        cases f with
        | ret u =>
          obtain ⟨v6, σ6, H6, S6, r6, q6⟩ := done
          exact free S6 fun s7 J7 => ⟨_, _, _, J7, r6, q6⟩
        | next =>
          obtain ⟨σ6, H6, S6, q6⟩ := done
          exact free S6 fun s7 J7 => ⟨_, _, J7, q6⟩
        | brk =>
          obtain ⟨σ6, H6, S6, q6⟩ := done
          exact free S6 fun s7 J7 => ⟨_, _, J7, q6⟩
        | cont =>
          obtain ⟨σ6, H6, S6, q6⟩ := done
          exact free S6 fun s7 J7 => ⟨_, _, J7, q6⟩
  exact each hh wish
end
end Z
namespace Z
open PySem L2 RZ PySem.Spec PyProof.Rows
section
variable {X : Cx} {C : Addr} {bmB :
      List Value} {B newId initId : String}
/-- X() of an own error without an __init__ -/
theorem pmk_own0 {x : Str} {p pos : Pos} (F : ExcBaseFacts B newId initId bmB) (q : PySem.W.excIn X.K C bmB newId = true)
    (gC : X.mg x = some (.ref C)) (kC : PySem.W.keepIn X.K (.ref C) = true) (r : Raises X (.ref C)) (hg : Gl X x)
    (hdb : (x == ("__debug__" : Str)) = false := by decide) : PMk X (.Call (.Name x p) [] [] pos) (fun _ H Q => Q (.ref C) none H) := by
  intro pins s σ H Q I h
  refine wpAny_Call_Name_kw
        (ld_glob I hg gC ?_ hdb)
  refine PySem.W.callWith_K0 I.kIn kC ?_
  show wpAny _ _ (call (.ref C) []) _ _ _
  obtain ⟨bm, N, nm, qn, bs, hdct, sn, sub, ab, col, dd, k0, k1, k2, k3, k5, mN, hC, hN, hni, T⟩ := exc_obj I.kIn q
  refine wpAny_call_exc_subT F T hC hN hni (fun h' e hm => ?_) (Nat.zero_le _)
  exact mk_of I hm r h (I.hok.gone hm.new)
end
end Z
/-! ### a method is called in a try; an own error without arguments is raised -/
namespace Z
open PySem L2 RZ
section
variable {X : Cx} {CX : CXT} {k : Nat} {C : Addr} {ps : List Str} {sp : Sp} {E : L2.St → XK} {m x : Str} {p pos apos : Pos} {e o : Expr} {es : List Expr} {ta : TE} {t : TA}
def tMethS (C : Addr) (m : Str) (sp : Sp) (E : L2.St → XK) (ta : TE) (t : TA) : TE := fun σ H Q => ta σ H fun x H1 =>
  ∃ a dx fs, x = .ref a ∧ H1 a = some (.ins C dx fs) ∧ fs.lookup m = none ∧ t σ H1 fun vs H2 => sp (x :: vs) H2 Q (E σ)
theorem pe_methSO {pl : Sem Bool} (O : MethO CX X.prog X.w X.K X.mg X.base C m k ps [] sp) (c : Cls X.K C) (hr : Room k X.A)
    (hx : ∀ σ, PassesAt CX X σ (E σ)) (he : PE X o ta) (ha : PA X (e :: es) t)
    (hst : starEach (e :: es) X.env = (false, eval e X.env) :: starEach es X.env := by rfl)
    (hpl : (backTo pos (starEach es X.env)).any (·.1) = false := by rfl)
    (ht : eval (.Call (.Attribute o m
          apos) (e :: es) [] pos) X.env = (do
      let ov ← eval o X.env
      standAt apos.atName
      let (f, first) ← holding
            [ov] (getMethod ov m pl)
      callWith pos f first (backTo pos (starEach (e :: es)
            X.env)) (backToKw pos (keywordEach [] X.env))) := by rfl) :
    PE X (.Call (.Attribute o m apos) (e ::
          es) [] pos) (tMethS C m sp E ta t) := by
  obtain ⟨f, fd, ds, hm, hb, v, F⟩ := O
  cases v
  refine ⟨fun pins
        s σ H Q I h => ?_⟩
  refine PySem.W.methodCall_KW (pl := pl) (thn (he.run pins s σ H _
        I h) fun u s1 ⟨x, H1, I1, rx, a, dx, fs, ex, ea, l, q⟩ => ?_) ht
  subst ex
  cases rx
  refine getmeth_ok
        I1 ea c hm l ?_
  refine PySem.W.callWith_K (first := [.ref a]) (h₀ := X.base) I.ok.mod.kin hm.kp (thn
        (ha.run pos pins s1 σ H1 _ I1 q) fun us s2 ⟨vs, H2, I2, r, q2⟩ => ⟨I2.kIn, ?_⟩) hst hpl
  exact run_fnS (us := .ref a :: us) (vs := .ref
        a :: vs) F hr hb (hx σ) I2 (.cons rfl r) q2
theorem wMethS {σ : L2.St} {H : Hp} {Q : VK} (h : ta σ H fun x H1 => ∃ a dx fs, x = .ref a ∧ H1 a = some (.ins C dx fs) ∧ fs.lookup m = none ∧ t σ H1 fun vs H2 => sp (x :: vs) H2 Q (E σ)) : tMethS C m sp E ta t σ H Q := h
theorem wMeth {dvs : List V} {E : XK} {σ : L2.St} {H : Hp} {Q : VK} (h : ta σ H fun x H1 => ∃ a dx fs, x = .ref a ∧ H1 a = some (.ins C dx fs) ∧ fs.lookup m = none ∧ t σ H1 fun vs H2 => sp (x :: (vs ++ dvs)) H2 Q E) : tMeth C m sp dvs E ta t σ H Q := h
/-- an own error class that is made without arguments -/
structure ErrF0 (K : PySem.W.Frag) (C : Addr) : Prop where
  ex0 : PySem.W.excIn K C [.type "ValueError", .type "Exception", .type "BaseException", .type "object"] "ValueError.__new__" = true
  kp : PySem.W.keepIn
        K (.ref C) = true
  exC : PySem.W.subIn K (.ref C)
        (.type "BaseException") = some true
  tyC : PySem.W.typeIn K (.ref
        C) = some (.type "type")
theorem pmk_err00 (T : ErrF0 X.K C) (hm : X.mg x = some (.ref C)) (hg : Gl X x) (hdb : (x == ("__debug__" : Str)) = false := by decide) :
    PMk X (.Call (.Name x p) [] [] pos) (fun _ H Q => Q (.ref C) none H) :=
  pmk_own0 PySem.F.excBase_ValueError T.ex0 hm T.kp (raises_own T.exC T.tyC) hg hdb
end
end Z
namespace Z
open PySem L2
theorem exm_of {K : PySem.W.Frag} {cls : Value} {C : Addr} {b : Bool} (hb : PySem.W.subIn K (.ref C) (.type "BaseException") = some true)
    (ic : PySem.W.isClsIn K C = true) (ty : PySem.W.typeIn K (.ref C) = some (.type "type")) (q : PySem.W.subIn K cls (.ref C) = some b) :
    PySem.W.exmOne K cls (.ref C) = some b := by
  have i' : (PySem.W.clsIn K C).isSome = true := ic
  have e2 : ((PySem.W.clsIn K C).isSome && PySem.W.typeIn K (.ref C) == some (.type "type")) = true := by
    rw [i', ty]
    rfl
  have e3 : PySem.W.kitCls K cls (.ref C) = some b := by
    unfold PySem.W.kitCls
    exact (if_pos e2).trans q
  unfold PySem.W.exmOne
  rw [hb]
  exact e3
end Z
namespace Z
open PySem L2
/-- what a callee lets out is let out -/
theorem passE {X : Cx} {E : XK} (tk : Takes X (fun cls d _ H => E cls d H)) : Passes (L2.CX X.prog X.w) X E := fun pins σ H s e s' I c => passAt (W := fun cls d _ H => E cls d H) tk σ pins H s e s' I c
end Z
namespace Z
open PySem L2
theorem wStarL {K : PySem.W.Frag} {te : TE} {t : TA} {σ : L2.St} {H : Hp} {Q : List V → Hp → Prop} (h : te σ H fun x H1 => ∃ p xs, x = V.ref p ∧ (SqT K H1 p xs ∨ SqL K H1 p xs) ∧ t σ H1 fun ys H2 => Q (xs ++ ys) H2) : StX.tStar K te t σ H Q := h
theorem starL {K : PySem.W.Frag} {a : Addr} {xs : List V} {H : Hp} {R : List V → Prop} (s : SqL K H a xs) (h : R xs) : ∃ p xs, V.ref a = V.ref p ∧ (SqT K H p xs ∨ SqL K H p xs) ∧ R xs := ⟨a, xs, rfl, .inr s, h⟩
end Z
namespace Z
open PySem L2
section
variable {K : PySem.W.Frag} {Wout : WX} {D : Ends} {k : Cl} {r : List Cl} {cls : Value} {d : Option Addr} {σ : L2.St} {H : Hp}
theorem wMix_yes (e : PySem.W.exmOne K cls k.c = some true) (h : ∀ a, H a = none → k.ts a cls d (gone D k.i) (held a σ k.i) H) : WE (wMix K Wout D (k :: r)) σ cls d H :=
  ⟨true, e, fun _ => h, fun q => Bool.noConfusion q⟩
theorem wMix_no (e : PySem.W.exmOne K cls k.c = some false) (h : WE (wMix K Wout D r) σ cls d H) : WE (wMix K Wout D (k :: r)) σ cls d H :=
  ⟨false, e, fun q => Bool.noConfusion q, fun _ => h⟩
end
end Z

set_option Elab.async false
set_option linter.all false
set_option maxRecDepth 100000
set_option maxHeartbeats 2000500
namespace Z
open PySem PySem.Spec
      PyProof.Rows
/-- a new list, then all of vs in it -/
abbrev poured (h : Heap) (vs : List Value) : Heap := (h.push (seqObj "list" #[] 0)).update h.objs.size (Obj.mapSeq (· ++ vs.toArray))
section
variable {prog : Program} {w : World} {A :
      Around} {E : Value → Shared → Prop} {s : Shared}
theorem collect_tuple {l : Addr} {vs : List Value} {Q : List Value → Shared → Prop} (hl : s.heap.IsTuple l vs.toArray)
    (h : Q vs { s with heap := poured s.heap vs })
    (hsz : vs.length ≤ sizeLine := by size_fits) : wpAny (model prog w) A (collect (.ref l)) Q E s := by
  obtain ⟨o, ho, hc,
        n, hd⟩ := id hl
  unfold collect
  refine wpAny_bind (wpAny_runValue
        (codeAny_builtin entry_proto_collect' ?_))
  show wpAny _ _ (do again (.builtin "list.__iadd__"
        ⟨[← newList [], .ref l], []⟩)) _ _ s
  refine wpAny_bind (wpAny_newList (wpAny_pure ⟨Code.quiet_builtin
        _ (by decide +kernel), codeAny_builtin entry_list_iadd' ?_⟩))
  show wpAny _ _ (Builtin.List.listExtendWith (.ref s.heap.objs.size) (.ref l) (.ref s.heap.objs.size)) _ _
    { s with heap := s.heap.push (seqObj "list" #[] 0) }
  unfold
        Builtin.List.listExtendWith
  have there : (s.heap.push (seqObj "list" #[] 0)).get? l = some o := Heap.get?_push_of_some _ ho
  refine wpAny_bind (wpAny_typeOf (T := "tuple") ⟨o, there, hc⟩ ?_)
  have tt : (Value.type "tuple" == Value.type "tuple") = true := by rfl
  rw [if_pos (by rw [tt, Bool.or_true])]
  refine wpAny_bind (listItems_at there hd (wpAny_bind (listItems_at (xs := #[]) (n := 0) (Heap.get?_push_size _ rfl) rfl ?_)))
  rw [if_neg (by simp)]
  refine wpAny_bind (listUpdate_at (xs := #[]) (n := 0) (Heap.get?_push_size _ rfl) rfl ?_ (Nat.zero_le _)
    (by show (#[] ++ vs.toArray).size ≤ sizeLine + 1; simp only [Array.size_append, List.size_toArray, List.length_nil]; omega))
  refine wpAny_pure ?_
  show wpAny (model
        prog w) A (do
      let o ← load s.heap.objs.size
      match o.data with
      | .seq xs _ => pure xs.toList
      | _ => unsupported "internal:collect") Q E { s with heap := poured s.heap vs }
  refine wpAny_bind (wpAny_load (get?_update_seq
        (Heap.get?_push_size _ rfl) _) ?_)
  show wpAny _ _ (pure ((#[] : Array
        Value) ++ vs.toArray).toList) Q E _
  have e : ((#[] : Array Value) ++ vs.toArray).toList = vs := by simp
  rw [e]
  exact wpAny_pure h
theorem sorted_intsT {l : Addr} {vs : List Value} {ns : List Int} {Q : Value → Shared → Prop} (ht : s.heap.IsTuple l vs.toArray) (hI : IntsAre vs ns) (h64 : vs.length < 64)
    (h : ∀ (out : Array Value) (ns' : List Int), IntsAre out.toList ns' → ns'.Perm ns → ns'.Pairwise (· ≤ ·) →
      Q (.ref (s.heap.objs.size + 1)) { s with heap := sortedAll s.heap vs out }) :
    wpAny (model prog w) A (call (.builtin
          "sorted") [.ref l]) Q E s := by
  refine Calls.call_function_entry kind_sorted
        plain_sorted entry_sorted (args_sorted1 _) ?_
  unfold Builtin.«sorted»
  refine wpAny_bind (m := checkCount "sorted" 1 1 _) (wpAny_pure (wpAny_bind (collect_tuple ht (wpAny_bind (wpAny_newList ?_)))))
  have sz : (poured s.heap vs).objs.size = s.heap.objs.size + 1 := by
    rw [Heap.size_update,
          size_push']
  have at1 : ((poured s.heap vs).push (seqObj "list" vs.toArray 0)).get? (s.heap.objs.size + 1) =
      some (seqObj "list" vs.toArray 0) := by
    rw [← sz]
    exact Heap.get?_push_size
          _ rfl
  show wpAny _ _ _ _ _ { s with heap := (poured s.heap vs).push (seqObj "list" vs.toArray 0) }
  rw [sz]
  exact wpAny_bind (wpAny_holding (wpAny_call_entry slot_list_sort ⟨_, at1, rfl⟩ entry_list_sort
    (list_sort_tree at1 hI h64 fun out ns' a1 a2 a3 => ⟨_, rfl, wpAny_pure ⟨_, rfl, h out ns' a1 a2 a3⟩⟩) (args_list_sort _)))
end
open L2
/-- sorted of a tuple of ints -/
def rSortedTu (K : PySem.W.Frag) : List V → Hp → VK → Prop := fun vs H Q => ∃ (a : Addr) (ns : List Int), vs = [V.ref a] ∧ SqT K H a (ns.map V.int) ∧ ns.length < 64 ∧
  ∀ (ns' : List Int) (p : Addr), ns'.Perm ns → ns'.Pairwise (· ≤
        ·) → H p = none → Q (.ref p) (upd H p (.lst (ns'.map V.int)))
theorem cr_sortedTu {X : Cx} : CallR X (.builtin "sorted") (rSortedTu X.K) := by
  intro pins s σ
        H vs us Q I r h
  obtain ⟨a, ns, rfl,
        hs, h64, q⟩ := h
  obtain ⟨its, rv, hl, _⟩ := I.tuple hs
  rw [Vals.ref1 r]
  have hi := rv.ints
  refine sorted_intsT (show s.heap.IsTuple a its.toArray from hl) hi (by rw [hi.length]; exact h64) fun out ns' h1 h2 h3 => ?_
  obtain ⟨ep, he'⟩ :=
        PyProof.Rows.sortedAll_at s.heap its out
  have len : (ns'.map V.int).length ≤ sizeLine := by rw [List.length_map, h2.length_eq]; exact small64 h64
  exact ⟨.ref _, upd H (s.heap.objs.size + 1) (.lst (ns'.map V.int)),
    I.laid (t' := s.toks) (fun _ _ => PyProof.Rows.sortedAll_old) (Nat.le_succ _) ⟨len, out.toList, ep, vals_of_ints h1, he'⟩, rfl, q ns' _ h2 h3 (I.hok.fresh (Nat.le_succ _))⟩
theorem wSortedTu {K : PySem.W.Frag} {H : Hp} {L : List En} {a : Addr} {ns : List Int} {Q : VK} (s : SqT K H a (ns.map V.int)) (n : ns.length < 64) (F : Fx H L)
    (k : ∀ (ms : List Int) p H', ms.Perm ns → ms.Pairwise (· ≤ ·) → Fx H' (.ob p (.lst (ms.map V.int)) :: L) → Q (.ref p) H') : rSortedTu K [.ref a] H Q :=
  ⟨a, ns, rfl, s, n, fun ms p q r hp => k ms p _ q r (F.new hp)⟩
end Z
namespace Z
open PySem L2
section
variable {K : PySem.W.Frag} {H : Hp} {L : List En} {a b : Addr} {ns ms : List Int} {z : Int} {Q : VK}
theorem inV_ints (z : Int) : ∀ ns : List Int, inV (.int z) (ns.map V.int) = decide (z ∈ ns)
  | [] => rfl
  | a :: r => by
    have ih := inV_ints z r
    show (eqV (.int a) (.int z) || inV (.int z) (r.map V.int)) = decide (z ∈ a :: r)
    have e : eqV (.int a) (.int z) = decide (a = z) := by
      show (a == z) = decide (a = z)
      by_cases q : a = z <;> simp [q]
    rw [ih, e]
    by_cases h : a = z
    · subst h; simp
    · have h' : ¬ z = a := fun q => h q.symm
      simp [h, h']
theorem flat_ints (ns : List Int) : (ns.map V.int).all flatV = true := by
  rw [List.all_eq_true]
  intro x hx
  obtain ⟨z, _, rfl⟩ := List.mem_map.mp hx
  rfl
theorem wInTu (s : SqT K H a (ns.map V.int)) (h : Q (.bl (decide (z ∈ ns))) H) : rIn K false (.int z) (.ref a) H Q :=
  ⟨a, _, rfl, .inr s, rfl, flat_ints ns, by rw [← inV_ints] at h; exact h⟩
theorem wCatTu (s : SqT K H a (ns.map V.int)) (t : SqT K H b (ms.map V.int)) (n : ns ≠ []) (n' : ms ≠ []) (l : ns.length + ms.length ≤ 1000000) (F : Fx H L)
    (k : ∀ p H', Fx H' (.ob p (.tup ((ns ++ ms).map V.int)) :: L) → Q (.ref p) H') : rOr rAddI (rOr rAddS (rOr rCat (rCatT K))) (.ref a) (.ref b) H Q :=
  .inr (.inr (.inr ⟨a, b, _, _, rfl, rfl, s, t, by simpa using n, by rw [List.length_map, List.length_map]; exact Nat.le_trans l line_big, fun e => absurd e (by simpa using n'), fun _ p hp => by
    rw [← List.map_append]
    exact k p _ (F.new hp)⟩))
end
end Z
namespace Z
open PySem L2
section
variable {K : PySem.W.Frag} {H : Hp} {L : List En} {q q' p p' : Addr} {ns : List Int} {l r : Int} {Q : VK}
/-- a list of a row of ints and two ints -/
def nestD (ns : List Int) (l r : Int) : List PyData := [.tuple (iD ns), .int l, .int r]
theorem nest_dp (F : Fx H L) (n : En.ob p (.tup (ns.map V.int)) ∈ L) : DpAll K H [.ref p, .int l, .int r] (nestD ns l r) :=
  .cons (.tup (F.tup n) (dpAll_ints ns)) (.cons (.int l) (.cons (.int r) .nil))
theorem nest_shaped (ns : List Int) (l r : Int) : SeqAt.shaped (.list (nestD ns l r)) = true := by
  unfold SeqAt.shaped
  rw [Bool.and_eq_true]
  refine ⟨?_, decide_eq_true ?_⟩
  · show (PyData.canLayAll0 (iD ns) && (PyData.canLayAll0 [PyData.int l, PyData.int r])) = true
    rw [canLay_ints]
    rfl
  · show max (PyData.depthAll (iD ns) + 1) (PyData.depthAll [PyData.int l, PyData.int r]) + 1 ≤ 64
    rw [depth_ints]
    show max (0 + 1) (max 0 (max 0 0)) + 1 ≤ 64
    decide
theorem nest_eqv (ns : List Int) (l r : Int) : PyData.eqv (.list (nestD ns l r)) (.list (nestD ns l r)) = true := by
  show (PyData.eqvAll (iD ns) (iD ns) && ((l == l) && ((r == r) && true))) = true
  rw [eqvAll_ints, decide_eq_true rfl, beq_self_eq_true, beq_self_eq_true]
  rfl
theorem wNeNest (F : Fx H L) (m : En.ob q (.lst [.ref p, .int l, .int r]) ∈ L) (n : En.ob p (.tup (ns.map V.int)) ∈ L)
    (m' : En.ob q' (.lst [.ref p', .int l, .int r]) ∈ L) (n' : En.ob p' (.tup (ns.map V.int)) ∈ L) (h : Q (.bl false) H) :
    rOr rNe (rNeD K) (.ref q) (.ref q') H Q :=
  .inr ⟨_, _, .lst (F.lst m) (nest_dp F n), .lst (F.lst m') (nest_dp F n'), nest_shaped ns l r, nest_shaped ns l r, by
    rw [nest_eqv ns l r]
    exact h⟩
end
end Z
namespace Z
open PySem L2
section
variable {X : Cx} {CX : CXT} {k : Nat} {C : Addr} {ps : List Str} {sp : Sp} {E : XK} {m : Str} {pos apos : Pos} {e o : Expr} {es : List Expr} {ta : TE} {t : TA}
theorem pe_methO {pl : Sem Bool} (O : MethO CX X.prog X.w X.K X.mg X.base C m k ps [] sp) (c : Cls X.K C) (hr : Room k X.A)
    (hx : Passes CX X E) (he : PE X o ta) (ha : PA X (e :: es) t)
    (hst : starEach (e :: es) X.env = (false, eval e X.env) :: starEach es X.env := by rfl)
    (hpl : (backTo pos (starEach es X.env)).any (·.1) = false := by rfl)
    (ht : eval (.Call (.Attribute o m
          apos) (e :: es) [] pos) X.env = (do
      let ov ← eval o X.env
      standAt apos.atName
      let (f, first) ← holding
            [ov] (getMethod ov m pl)
      callWith pos f first (backTo pos (starEach (e :: es)
            X.env)) (backToKw pos (keywordEach [] X.env))) := by rfl) :
    PE X (.Call (.Attribute o m apos) (e :: es) [] pos) (tMeth C m sp [] E ta t) := by
  obtain ⟨f, fd, ds, hm, hb, v, F⟩ := O
  cases v
  exact pe_meth he c hm F hr hb .nil hx ha hst hpl ht
end
end Z

set_option Elab.async false
set_option linter.all false
set_option maxRecDepth 100000
set_option maxHeartbeats 2000500
namespace Z
open PySem L2 RZ
/-! ### a middle: what holds where two ways meet -/
section
variable {σ : L2.St} {H : Hp} {Q : VK} {ts tu : TS} {te tf : TE} {nx bk ct : L2.St → Hp → Prop} {rt : VK} {b : Bool}
theorem wMidS (C : L2.St → Hp → Prop) (h : ∀ N : L2.St → Hp → Prop, (∀ σ' H', C σ' H' → N σ' H') → ts ⟨N, rt, bk, ct⟩ σ H) (k : ∀ σ' H', C σ' H' → nx σ' H') : ts ⟨nx, rt, bk, ct⟩ σ H := h nx k
theorem wMidI (C : L2.St → Hp → Prop) (h : ∀ N : L2.St → Hp → Prop, (∀ σ' H', C σ' H' → N σ' H') → if b = true then ts ⟨N, rt, bk, ct⟩ σ H else tu ⟨N, rt, bk, ct⟩ σ H) (k : ∀ σ' H', C σ' H' → nx σ' H') :
    if b = true then ts ⟨nx, rt, bk, ct⟩ σ H else tu ⟨nx, rt, bk, ct⟩ σ H := h nx k
theorem wMidE (C : V → Hp → Prop) (h : ∀ R : VK, (∀ v H', C v H' → R v H') → te σ H R) (k : ∀ v H', C v H' → Q v H') : te σ H Q := h Q k
theorem wMidV (C : V → Hp → Prop) (h : ∀ R : VK, (∀ v H', C v H' → R v H') → if b = true then te σ H R else tf σ H R) (k : ∀ v H', C v H' → Q v H') :
    if b = true then te σ H Q else tf σ H Q := h Q k
end
end Z
/-! ### data by the ledger -/
namespace Z
open PySem L2 RZ
mutual
inductive Dt (L : List En) : V → PyData → Prop
  | non : Dt L .non .none
  | bl (b : Bool) : Dt L (.bl b) (.bool b)
  | int (i : Int) : Dt L (.int i) (.int i)
  | str (x : Str) : Dt L (.str x) (.str x)
  | lst {a : Addr} {xs : List V} {ds : List PyData} (m : En.ob a (.lst xs) ∈ L) (h : DtA L xs ds) : Dt L (.ref a) (.list ds)
  | tup {a : Addr} {xs : List V} {ds : List PyData} (m : En.ob a (.tup xs) ∈ L) (h : DtA L xs ds) : Dt L (.ref a) (.tuple ds)
inductive DtA (L : List En) : List V → List PyData → Prop
  | nil : DtA L [] []
  | cons {v : V} {vs : List V} {d : PyData} {ds : List PyData} (h : Dt L v d) (r : DtA L vs ds) : DtA L (v :: vs) (d :: ds)
end
section
variable {L L' : List En} {K : PySem.W.Frag} {H : Hp}
mutual
theorem Dt.mono' (s : ∀ e ∈ L, e ∈ L') : ∀ (d : PyData) (v : V), Dt L v d → Dt L' v d
  | .none, _, h => by cases h; exact .non
  | .bool b, _, h => by cases h; exact .bl b
  | .int i, _, h => by cases h; exact .int i
  | .str x, _, h => by cases h; exact .str x
  | .list ds, _, h => by
    cases h with
    | lst m a => exact .lst (s _ m) (DtA.mono' s ds _ a)
  | .tuple ds, _, h => by
    cases h with
    | tup m a => exact .tup (s _ m) (DtA.mono' s ds _ a)
  | .dict _, _, h => by cases h
theorem DtA.mono' (s : ∀ e ∈ L, e ∈ L') : ∀ (ds : List PyData) (vs : List V), DtA L vs ds → DtA L' vs ds
  | [], _, h => by cases h; exact .nil
  | d :: ds, _, h => by
    cases h with
    | cons a r => exact .cons (Dt.mono' s d _ a) (DtA.mono' s ds _ r)
end
mutual
theorem Dt.dp' (F : Fx H L) : ∀ (d : PyData) (v : V), Dt L v d → Dp K H v d
  | .none, _, h => by cases h; exact .non
  | .bool b, _, h => by cases h; exact .bl b
  | .int i, _, h => by cases h; exact .int i
  | .str x, _, h => by cases h; exact .str x
  | .list ds, _, h => by
    cases h with
    | lst m a => exact .lst (F.lst m) (DtA.dp' F ds _ a)
  | .tuple ds, _, h => by
    cases h with
    | tup m a => exact .tup (F.tup m) (DtA.dp' F ds _ a)
  | .dict _, _, h => by cases h
theorem DtA.dp' (F : Fx H L) : ∀ (ds : List PyData) (vs : List V), DtA L vs ds → DpAll K H vs ds
  | [], _, h => by cases h; exact .nil
  | d :: ds, _, h => by
    cases h with
    | cons a r => exact .cons (Dt.dp' F d _ a) (DtA.dp' F ds _ r)
end
variable {v : V} {d : PyData} {vs : List V} {ds : List PyData}
theorem Dt.mono (h : Dt L v d) (s : ∀ e ∈ L, e ∈ L') : Dt L' v d := Dt.mono' s d v h
theorem DtA.mono (h : DtA L vs ds) (s : ∀ e ∈ L, e ∈ L') : DtA L' vs ds := DtA.mono' s ds vs h
theorem Dt.sub (h : Dt L v d) (s : L.Sublist L') : Dt L' v d := h.mono fun _ m => s.subset m
theorem DtA.sub (h : DtA L vs ds) (s : L.Sublist L') : DtA L' vs ds := h.mono fun _ m => s.subset m
theorem Dt.dp (h : Dt L v d) (F : Fx H L) : Dp K H v d := Dt.dp' F d v h
theorem DtA.len : ∀ {vs : List V} {ds : List PyData}, DtA L vs ds → vs.length = ds.length
  | _, [], h => by cases h; rfl
  | _, _ :: _, h => by
    cases h with
    | cons a r => rw [List.length_cons, List.length_cons, r.len]
theorem DtA.get : ∀ {vs : List V} {ds : List PyData} {i : Nat} {d : PyData}, DtA L vs ds → ds[i]? = some d → ∃ v, vs[i]? = some v ∧ Dt L v d
  | _, [], i, d, h, e => by simp at e
  | _, x :: ds, 0, d, h, e => by
    cases h with
    | cons a r =>
      cases e
      exact ⟨_, rfl, a⟩
  | _, x :: ds, i + 1, d, h, e => by
    cases h with
    | cons a r => exact r.get e
theorem DtA.getV : ∀ {ds : List PyData} {vs : List V} {i : Nat} {v : V}, DtA L vs ds → vs[i]? = some v → ∃ d, ds[i]? = some d ∧ Dt L v d
  | [], _, i, d, h, e => by cases h; simp at e
  | x :: ds, _, 0, d, h, e => by
    cases h with
    | cons a r =>
      cases e
      exact ⟨_, rfl, a⟩
  | x :: ds, _, i + 1, d, h, e => by
    cases h with
    | cons a r => exact r.getV e
theorem DtA.app : ∀ {ds ds' : List PyData} {vs vs' : List V}, DtA L vs ds → DtA L vs' ds' → DtA L (vs ++ vs') (ds ++ ds')
  | [], _, _, _, h, h' => by cases h; exact h'
  | _ :: _, _, _, _, h, h' => by
    cases h with
    | cons a r => exact .cons a (r.app h')
theorem DtA.ints : ∀ ns : List Int, DtA L (ns.map V.int) (iD ns)
  | [] => .nil
  | n :: r => .cons (.int n) (DtA.ints r)
theorem DtA.ints_eq : ∀ {ns : List Int} {vs : List V}, DtA L vs (iD ns) → vs = ns.map V.int
  | [], _, h => by cases h; rfl
  | n :: r, _, h => by
    cases h with
    | cons a r =>
      cases a
      rw [r.ints_eq]
      rfl
theorem Dt.tupI {a : Addr} {ns : List Int} (m : En.ob a (.tup (ns.map V.int)) ∈ L) : Dt L (.ref a) (.tuple (iD ns)) := .tup m (DtA.ints ns)
theorem Dt.lstI {a : Addr} {ns : List Int} (m : En.ob a (.lst (ns.map V.int)) ∈ L) : Dt L (.ref a) (.list (iD ns)) := .lst m (DtA.ints ns)
theorem Dt.tupI_mem {v : V} {ns : List Int} (h : Dt L v (.tuple (iD ns))) : ∃ a, v = .ref a ∧ En.ob a (.tup (ns.map V.int)) ∈ L := by
  cases h with
  | tup m r =>
    have e := r.ints_eq
    subst e
    exact ⟨_, rfl, m⟩
theorem Dt.lstI_mem {v : V} {ns : List Int} (h : Dt L v (.list (iD ns))) : ∃ a, v = .ref a ∧ En.ob a (.lst (ns.map V.int)) ∈ L := by
  cases h with
  | lst m r =>
    have e := r.ints_eq
    subst e
    exact ⟨_, rfl, m⟩
/-! shapes -/
def ShA (ds : List PyData) (n : Nat) : Prop := PyData.canLayAll0 ds = true ∧ PyData.depthAll ds ≤ n
def Sh (d : PyData) (n : Nat) : Prop := PyData.canLay0 d = true ∧ PyData.depth d ≤ n
theorem Sh.ok {n : Nat} (h : Sh d n) (hn : n ≤ 64 := by decide) : SeqAt.shaped d = true := by
  unfold SeqAt.shaped
  rw [Bool.and_eq_true]
  exact ⟨h.1, decide_eq_true (Nat.le_trans h.2 hn)⟩
theorem Sh.int (i : Int) : Sh (.int i) 0 := ⟨rfl, Nat.le_refl _⟩
theorem Sh.tup {n : Nat} (h : ShA ds n) : Sh (.tuple ds) (n + 1) := ⟨h.1, Nat.succ_le_succ h.2⟩
theorem Sh.lst {n : Nat} (h : ShA ds n) : Sh (.list ds) (n + 1) := ⟨h.1, Nat.succ_le_succ h.2⟩
theorem ShA.ints (ns : List Int) : ShA (iD ns) 0 := ⟨canLay_ints ns, Nat.le_of_eq (depth_ints ns)⟩
theorem ShA.nil : ShA [] 0 := ⟨rfl, Nat.le_refl _⟩
theorem ShA.cons {n m : Nat} (h : Sh d n) (r : ShA ds m) : ShA (d :: ds) (max n m) := by
  refine ⟨?_, ?_⟩
  · show (PyData.canLay0 d && PyData.canLayAll0 ds) = true
    rw [h.1, r.1]
    rfl
  · show max (PyData.depth d) (PyData.depthAll ds) ≤ _
    have := h.2
    have := r.2
    omega
theorem ShA.map {α : Type} {f : α → PyData} {n : Nat} : ∀ {xs : List α}, (∀ x ∈ xs, Sh (f x) n) → ShA (xs.map f) n
  | [], _ => ⟨rfl, Nat.zero_le _⟩
  | x :: r, h => by
    have a := h x List.mem_cons_self
    have b := ShA.map (f := f) (n := n) (xs := r) fun y hy => h y (List.mem_cons_of_mem _ hy)
    have c := ShA.cons a b
    rw [Nat.max_self] at c
    exact c
end
/-! what == and != say -/
section
variable {L : List En} {K : PySem.W.Frag} {H : Hp} {x y : V} {d e : PyData} {Q : VK}
theorem wEqD (F : Fx H L) (a : Dt L x d) (b : Dt L y e) (sd : SeqAt.shaped d = true) (se : SeqAt.shaped e = true) (h : Q (.bl (PyData.eqv d e)) H) : rOr rEq (rEqD K) x y H Q :=
  .inr ⟨d, e, a.dp F, b.dp F, sd, se, h⟩
theorem wNeD (F : Fx H L) (a : Dt L x d) (b : Dt L y e) (sd : SeqAt.shaped d = true) (se : SeqAt.shaped e = true) (h : Q (.bl (!PyData.eqv d e)) H) : rOr rNe (rNeD K) x y H Q :=
  .inr ⟨d, e, a.dp F, b.dp F, sd, se, h⟩
theorem wNeSame (F : Fx H L) (a : Dt L x d) (b : Dt L y d) (sd : SeqAt.shaped d = true) (h : Q (.bl false) H) : rOr rNe (rNeD K) x y H Q :=
  wNeD F a b sd sd (by rw [SeqAt.eqv_refl _ (SeqAt.canLay_of_shaped sd)]; exact h)
theorem wEqSame (F : Fx H L) (a : Dt L x d) (b : Dt L y d) (sd : SeqAt.shaped d = true) (h : Q (.bl true) H) : rOr rEq (rEqD K) x y H Q :=
  wEqD F a b sd sd (by rw [SeqAt.eqv_refl _ (SeqAt.canLay_of_shaped sd)]; exact h)
end
end Z

set_option Elab.async false
set_option linter.all false
set_option maxRecDepth 100000
set_option maxHeartbeats 2000500
namespace Z
open PySem PySem.Spec PyProof.Rows Builtin Builtin.Str
open Sem (wp)
/-! ### enumerate over a tuple -/
theorem meets_enum1 {v : Value} {o : Obj} {H : Heap → Prop} (B : Begins v o H) :
    Meets (Builtin.«enumerate.__new__» ⟨[.type "enumerate", v], []⟩) (fun _ R s => H s.heap ∧
      R (.ok (.ret (.ref (s.heap.push o).objs.size))) { s with heap := (s.heap.push o).push { cls := .type "enumerate", data := .fields #[.none, .bool false, .ref s.heap.objs.size, rawInt 0, .none, .none] } }) :=
  .of_wp fun prog
        w A R s h => by
    obtain ⟨hp, g, d, tk, os⟩
          := s; obtain ⟨h1, h⟩ := h
    have hsub := sub_enumerate
    have q1 : ∀ {A' : Around} {E : Value → Shared → Prop} {Q : Value → Shared → Prop}, Q (.ref
          hp.objs.size) ⟨hp.push o, g, d, tk, os⟩ → wpAny (model prog w) A' (pyIter v) Q E ⟨hp, g, d, tk, os⟩ :=
      fun q => B.iter prog w _ _
            ⟨hp, g, d, tk, os⟩ _ h1 q
    wp_walk using q1
    refine wpAny_stack_any
          fun st => wpAny_pure ?_
    split
    · rename_i c _ _ _ _ _
      cases (c == Value.type
            "enumerate")
      · wp_walk using q1
        exact ⟨_, rfl, h⟩
      · wp_walk using q1
        exact ⟨_, rfl, h⟩
    · wp_walk using q1
      exact ⟨_, rfl, h⟩
section
variable {prog : Program} {w : World} {A :
      Around} {E : Value → Shared → Prop} {s : Shared}
theorem enum_begins1 {v : Value} {o : Obj} {H : Heap → Prop} {Q : Value → Shared → Prop} (B : Begins v o H) (h1 : H s.heap)
    (h : ∀ h', IsEnum h' (s.heap.objs.size + 1) s.heap.objs.size 0 .none → h'.get? s.heap.objs.size = some o →
      (∀ b o, s.heap.get? b = some o → h'.get? b = some o) →
            Q (.ref (s.heap.objs.size +
                  1)) { s with heap := h' }) :
    wpAny (model prog w) A (call (.type "enumerate") [v]) Q E s := by
  refine callType_new F.called_enumerate (by decide) (F.typeCall_enumerate_1 _)
        (F.newCall_enumerate_1 _) (fun obj => F.args_object_init_2 obj _) F.entry_enumerate_new
    (meets_enum1 B) ⟨h1, ?_⟩
  have hz : (s.heap.push o).objs.size =
        s.heap.objs.size + 1 := Heap.size_push ..
  show _ ∧ _
  rw [hz]
  have he : IsEnum ((s.heap.push o).push { cls := .type "enumerate", data := .fields #[.none, .bool false, .ref s.heap.objs.size, rawInt 0, .none, .none] }) (s.heap.objs.size + 1) s.heap.objs.size 0 .none := by
    have := Heap.get?_push_size (s.heap.push o) (o := { cls := .type "enumerate", data := .fields #[.none, .bool false, .ref s.heap.objs.size, rawInt 0, .none, .none] }) rfl
    rw [hz] at this; exact this
  exact ⟨⟨_, he, rfl⟩, h _ he (Heap.get?_push_of_some _ (Heap.get?_push_size _ B.free)) fun b o x => Heap.get?_push_of_some _ (Heap.get?_push_of_some _ x)⟩
end
end Z
namespace Z
open PySem PySem.Spec
      PyProof.Rows L2
def IteT (K : PySem.W.Frag) (a : Addr) : It :=
  ⟨fun i H => ∃ (xs : List V) (x : V), SqT K H a xs ∧ xs[i]? = some x, fun i H v H' => ∃ T x, v = .ref T ∧ H T = none ∧ H' = upd H T (.tup [.int (i : Nat), x]) ∧ ∀ xs, SqT K H a xs → xs[i]? = some x,
    fun i H => ∃ xs : List V, SqT K H a xs ∧ xs.length ≤ i⟩
theorem turn_enumT {P : Program} {w : World} {K : PySem.W.Frag} {elts : List Expr} {kk : Nat} {tpos : Pos} (a e it : Addr) :
    Turn P w K (.Tuple elts kk tpos) (IteT K a) [e, it] e (fun i h => (∃ old, IsEnum h e it ((i : Nat) : Int) old) ∧ h.IsTupleIter it a i ∧ e ≠ it) where
  mem := by simp
  obj := fun i h st b hb => by
    obtain ⟨⟨old, he⟩, ⟨o,
          ho, hc, hd⟩, _⟩ := st
    have e' : b = e ∨ b = it
          := by simpa using hb
    rcases e' with z | z
    · rw [z]; exact ⟨_, he,
          fun v q => nomatch q⟩
    · rw [z]; exact ⟨o, ho, fun v
          q => by rw [hd] at q; cases q⟩
  keep := fun i h h' st k => let ⟨⟨old, he⟩, hi, hne⟩ := st; ⟨⟨old,
        k e (by simp) _ he⟩, hi.at fun o q => k it (by simp) o q, hne⟩
  item := by
    intro X hP hw hK hc i
          pins s σ H E I hf st hg
    subst hP hw hK
    obtain ⟨⟨old, he⟩,
          hit, hne⟩ := st
    obtain ⟨xs, x, hq,
          hx⟩ := hg
    obtain ⟨its, rv, p,
          hz⟩ := I.tuple hq
    obtain ⟨u, hu, ru⟩
          := rv.get hx
    have hel : e < s.heap.objs.size
          := Heap.lt_size he
    have hil : it < s.heap.objs.size := by
          obtain ⟨_, q, _⟩ := hit; exact Heap.lt_size q
    have ht : s.heap.IsTuple a its.toArray := p
    have hai : a ≠ it
          := fun z => by
      obtain ⟨o1, e1, c1, _⟩ := hit
      obtain ⟨o2, e2, c2, _⟩ := id ht
      rw [z, e1] at e2
      cases e2
      rw [c1] at c2
      exact absurd c2 (by simp)
    have hae : e ∉ [it, a] := fun z => by
      rcases List.mem_cons.mp
            z with z | z
      · exact hne z
      · have z :=
            List.mem_singleton.mp z
        obtain ⟨o2, e2, c2, _⟩ := id ht
        have he' : s.heap.get? e = some _ := he
        rw [z, e2] at he'
        cases he'
        exact absurd c2 (by simp)
    have il : i < its.toArray.size := by
      have := (List.getElem?_eq_some_iff.mp hu).1
      simpa using this
    refine wpAny_pyNext_enum_itemD (Draws.tuple (by exact (I.ok.hd hc)) it a hai its.toArray) he ⟨hit, ht⟩ il hne hae fun x' h' tk hP ho hs' hT hsz hk => ?_
    have hxu : x' = u := by
      have e1 : its.toArray[i]? = some x' := hP
      have e2 : its.toArray[i]? = some u := by simpa using hu
      rw [e2] at e1
      exact (Option.some.inj e1).symm
    subst hxu
    refine ⟨_, rfl, wpAny_letOwnedTupleGo_enum (s := { s with heap := h', toks := tk + 1 }) ho fun h'' he' sb => ?_⟩
    have hT2 : h''.get? s.heap.objs.size = some { cls := .type "tuple", data := .seq #[.int i tk, x'] } := (sb.2 _ (Nat.ne_of_gt hel)).trans hT
    have new : ObjOk X.prog X.w (upd H s.heap.objs.size (.tup [.int (i
          : Nat), x])) h'' s.heap.objs.size (.tup [.int (i : Nat), x]) :=
      ⟨by show 2 ≤ sizeLine; decide, [.int i tk, x'], .cons ⟨_, rfl⟩ (.cons ru .nil), ⟨_, hT2, rfl, _, rfl⟩⟩
    have I1 : Inv X pins σ (upd H s.heap.objs.size (.tup [.int (i : Nat), x])) { s with heap := h'', toks := tk + 1 } :=
      I.turnedNew (ch := [e, it]) (fun b ob hb q => (sb.2 b (fun z => hb (by simp [z]))).trans
            (hk b ob (fun z => hb (by simp [z])) (fun z => hb (by simp [z])) q)) hf (Nat.le_refl _) new
    refine ⟨.ref s.heap.objs.size, _, I1, rfl, ⟨_, x, rfl, I.hok.fresh (Nat.le_refl _), rfl, fun ys hy => ?_⟩, ⟨⟨x', ?_⟩, hs'.1.at fun o q => (sb.2 it (Ne.symm hne)).trans q, hne⟩, fun b hb => ?_⟩
    · rw [I.tuple_inj hy hq]; exact hx
    · have e1 : ((i + 1 : Nat) :
          Int) = (i : Int) + 1 := by omega
      rw [e1]; exact he'
    · have hb' : b <
          s.heap.objs.size := by
        have e' : b = e ∨ b = it
              := by simpa using hb
        rcases e' with z | z
        · rw [z]; exact hel
        · rw [z]; exact hil
      rw [upd_ne
            (Nat.ne_of_lt hb')]
      exact (hf b hb).1
  done := by
    intro X hP hw hK hc i pins
          s σ H E I hf st hg
    subst hP hw hK
    obtain ⟨⟨old, he⟩,
          hit, hne⟩ := st
    obtain ⟨xs, hq, hx⟩
          := hg
    obtain ⟨its, rv, p,
          hz⟩ := I.tuple hq
    obtain ⟨f0, f1, f2, f3,
          f4, f5⟩ := hf it (by simp)
    have hl := rv.length
    have ht : s.heap.IsTuple a its.toArray := p
    have hT : s.TypeIs (.ref e)
          "enumerate" := ⟨_, he, rfl⟩
    unfold pyNext
    refine wpAny_bind (wpAny_attempt (wpAny_callSpecial?_slot
          (name := Str.ofString "__next__") hT F.slot_enumerate_next
      (wpAny_call_entry F.slot_enumerate_next hT
            F.entry_enumerate_next ?_ (F.args_enumerate_next_1 _))))
    show wpAny _ _ (field
          (.ref e) 2 >>= _) _ _ _
    refine wpAny_bind (wpAny_field
          he rfl (x := .ref it) rfl ?_)
    refine wpAny_bind (wpAny_nextOf_tuple_end (by exact (I.ok.hd hc)) hit ht (by simp; omega) fun h' x eb hx' => ?_)
    obtain ⟨o, ho, hc'⟩ := hx'
    refine wpAny_bind (wpAny_isInstance (T := "StopIteration") (b := true) ⟨o, ho, hc'⟩ isSubtype_stop ?_)
    exact wpAny_pure ⟨rfl, I.turned (t' := s.toks) (fun b o hb q => eb b o hb q) f0 f1 f3 f4 f5⟩
  self := fun A i s Q E st h => let ⟨⟨_,
        he⟩, _⟩ := st; wpAny_pyIter_enum he h
section
variable {X : Cx}
/-- a list or a tuple, counted along -/
def iEnumS (K : PySem.W.Frag) (ta : TA) : TI := fun σ H R => ta σ H fun vs H1 => ∃ a, vs = [.ref a] ∧ ((∃ xs, SqL K H1 a xs ∧ R (Ite K a) H1) ∨ ∃ xs, SqT K H1 a xs ∧ R (IteT K a) H1)
theorem pi_enumS {e : Expr} {ta : TA} {p pos tpos : Pos} {elts : List Expr} {kk : Nat} (hg : Gl X "enumerate") (hm : X.mg "enumerate" = none) (ha : PA X [e] ta) (hs : starEach [e] X.env = [(false, eval e X.env)] := by rfl) :
    PI X (.Tuple elts kk tpos) (.Call (.Name "enumerate" p) [e] [] pos) (iEnumS X.K ta) := by
  refine ⟨fun pins
        s σ H R I h => ?_⟩
  refine Call_ (ld_blt I hg hm boot_enumerate (PyProof.Rows.callWith_type1 (thn (ha.run
        pos pins s σ H _ I h) fun us s1 ⟨vs, H1, I1, r1, q1⟩ => ?_) hs rfl))
  obtain ⟨a, ex, q⟩ := q1
  subst ex
  cases r1 with
  | cons r rr =>
    cases rr
    cases r
    rcases q with ⟨xs, hq, q⟩ | ⟨xs, hq, q⟩
    · obtain ⟨its, rv,
          p', hz⟩ := I1.list hq
      refine call_enumerate_list p'.isList
            fun h' he hit hsz hk => wpAny_pyIter_enum he ?_
      have I2 : Inv X pins σ H1 { s1 with
            heap := h' } := I1.kept (t' := s1.toks) hk
      refine ⟨s1.heap.objs.size + 1, [s1.heap.objs.size + 1, s1.heap.objs.size], _, _, H1, rfl, I2, turn_enum a
            (s1.heap.objs.size + 1) s1.heap.objs.size, ⟨⟨.none, he⟩, hit, Nat.succ_ne_self _⟩, fun b hb => ?_, q⟩
      have e' : b = s1.heap.objs.size + 1 ∨
            b = s1.heap.objs.size := by simpa using hb
      have hle :
            s1.heap.objs.size ≤ b := by
        rcases e' with z | z
        · rw [z]; exact
              Nat.le_add_right _ _
        · rw [z]; exact Nat.le_refl _
      exact I1.fpOk hle
            (I1.hok.fresh hle)
    · obtain ⟨its, rv,
          p', hz⟩ := I1.tuple hq
      refine enum_begins1 (begins_tuple a its.toArray) p' fun h' he hit hk => wpAny_pyIter_enum he ?_
      have I2 : Inv X pins σ H1 { s1 with
            heap := h' } := I1.kept (t' := s1.toks) hk
      refine ⟨s1.heap.objs.size + 1, [s1.heap.objs.size + 1, s1.heap.objs.size], _, _, H1, rfl, I2, turn_enumT a
            (s1.heap.objs.size + 1) s1.heap.objs.size, ⟨⟨.none, he⟩, ⟨_, hit, rfl, rfl⟩, Nat.succ_ne_self _⟩, fun b hb => ?_, q⟩
      have e' : b = s1.heap.objs.size + 1 ∨
            b = s1.heap.objs.size := by simpa using hb
      have hle :
            s1.heap.objs.size ≤ b := by
        rcases e' with z | z
        · rw [z]; exact
              Nat.le_add_right _ _
        · rw [z]; exact Nat.le_refl _
      exact I1.fpOk hle
            (I1.hok.fresh hle)
end
theorem walk_enumT {K : PySem.W.Frag} {a : Addr} {xs : List V} : Walk (IteT K a) xs.length (fun H => SqT K H a xs) (YPair (fun i => some (.int (i : Nat))) (fun i => xs[i]?)) := by
  refine ⟨fun i _ hi q => ⟨xs, xs[i], q, by simp [hi]⟩, fun _ q
        => ⟨xs, q, Nat.le_refl _⟩, fun i H v H' _ q y => ?_⟩
  obtain ⟨T, x, h1,
        h2, h3, h4⟩ := y
  exact ⟨T, .int (i : Nat), x, h1,
        h2, h3, rfl, h4 xs q⟩
section
variable {K : PySem.W.Frag} {H : Hp} {L : List En} {a : V} {xs : List V} {RI : It → Hp → Prop} {σ : L2.St} {ta : TA} {g : TG} {tb : TS} {nx : L2.St → Hp → Prop} {rt : VK}
def GoE (K : PySem.W.Frag) (vs : List V) (H : Hp) (R : It → Hp → Prop) : Prop := ∃ a, vs = [.ref a] ∧ ((∃ xs, SqL K H a xs ∧ R (Ite K a) H) ∨ ∃ xs, SqT K H a xs ∧ R (IteT K a) H)
theorem wIE (h : ta σ H fun vs H1 => GoE K vs H1 RI) : iEnumS K ta σ H RI := h
/-- a for over enumerate(list or tuple) -/
theorem wForE (hq : SeqIs L a (some xs)) (F : Fx H L) (Pv : Nat → L2.St → Hp → Prop) (h0 : Pv 0 σ H) (keep : ∀ i σ H', Pv i σ H' → ∃ L', Fx H' L' ∧ ∀ p o, En.ob p o ∈ L → En.ob p o ∈ L')
    (hs : ∀ i x T σ H', xs[i]? = some x → Pv i σ H' → H' T = none → g (.ref T) σ (upd H' T (.tup [.int (i : Nat), x])) fun σ2 H2 => tb ⟨Pv (i + 1), rt, nx, Pv (i + 1)⟩ σ2 H2) (hd : ∀ σ H', Pv xs.length σ H' → nx σ H') :
    GoE K [a] H fun J H1 => ∃ W : Nat → Nat → L2.St → Hp → Prop, (∃ m, W 0 m σ H1) ∧ ∀ i m σ H, W i m σ H →
      (J.stop i H ∧ nx σ H) ∨ (J.go i H ∧ ∃ N : L2.St → Hp → Prop, (∀ σ' H', N σ' H' → ∃ m', m' < m ∧ W (i + 1) m' σ' H') ∧ ∀ x H', J.yld i H x H' → g x σ H' fun σ2 H2 => tb ⟨N, rt, nx, N⟩ σ2 H2) := by
  cases hq with
  | @lst p xs m =>
    refine ⟨p, rfl, .inl ⟨xs, F.lst m, wForW (walk_enum (K := K) (xs := xs)) Pv h0 (fun i σ H' _ q => ?_) ?_ hd⟩⟩
    · obtain ⟨L', F', k⟩ := keep i σ H' q
      exact F'.lst (k _ _ m)
    · rintro i x σ H' H'' _ q ⟨T, u, v, rfl, hT, rfl, e1, e2⟩
      cases e1
      exact hs i v T σ H' e2 q hT
  | @tup p xs m =>
    refine ⟨p, rfl, .inr ⟨xs, F.tup m, wForW (walk_enumT (K := K) (xs := xs)) Pv h0 (fun i σ H' _ q => ?_) ?_ hd⟩⟩
    · obtain ⟨L', F', k⟩ := keep i σ H' q
      exact F'.tup (k _ _ m)
    · rintro i x σ H' H'' _ q ⟨T, u, v, rfl, hT, rfl, e1, e2⟩
      cases e1
      exact hs i v T σ H' e2 q hT
end
/-! ### sum of a tuple -/
def rSumT (K : PySem.W.Frag) : List V → Hp → VK → Prop := fun vs H Q => ∃ (a : Addr) (ns : List Int), vs = [V.ref a] ∧ SqT K H a (ns.map V.int) ∧ Q (.int ns.sum) H
theorem cr_sumT {X : Cx} (hc : X.calm = true) : CallR X (.builtin "sum") (rSumT X.K) := by
  intro pins s σ
        H vs us Q I r h
  obtain ⟨a, ns,
        rfl, hs, q⟩ := h
  obtain ⟨its, rv, hl, _⟩ := I.tuple hs
  rw [Vals.ref1 r]
  have hi := rv.ints
  obtain ⟨xs, hx⟩ :=
        hi.allInts.items
  have hn : numsOf its.toArray.toList = ns := by rw [show its.toArray.toList = its from rfl, hi.numsOf]
  have ht : s.heap.IsTuple a its.toArray := hl
  rw [hx] at ht hn
  rw [nums_intItems] at hn
  refine PySem.W.ktm_sumG (I.ok.hd hc) ht fun h' tk t' hk => ?_
  refine ⟨.int ns.sum, H, I.kept hk, ?_, q⟩
  rw [preSum_eq, List.take_of_length_le
        (by simp), hn]
  exact ⟨_, rfl⟩
theorem cr_sumS {X : Cx} (hc : X.calm = true) : CallR X (.builtin "sum") (rOrC (rSum X.K) (rSumT X.K)) := CallR.or (cr_sum hc) (cr_sumT hc)
section
variable {K : PySem.W.Frag} {H : Hp} {L : List En} {a : Addr} {b : V} {ns : List Int} {Q : VK}
theorem wSumL (s : SqL K H a (ns.map V.int)) (h : Q (.int ns.sum) H) : rOrC (rSum K) (rSumT K) [.ref a] H Q := .inl ⟨a, ns, rfl, s, h⟩
theorem wSumT (s : SqT K H a (ns.map V.int)) (h : Q (.int ns.sum) H) : rOrC (rSum K) (rSumT K) [.ref a] H Q := .inr ⟨a, ns, rfl, s, h⟩
theorem wSumS (s : SeqIs L b (some (ns.map V.int))) (F : Fx H L) (h : Q (.int ns.sum) H) : rOrC (rSum K) (rSumT K) [b] H Q := by
  generalize e : ns.map V.int = xs at s
  cases s with
  | lst m => exact wSumL (F.lst (e ▸ m)) h
  | tup m => exact wSumT (F.tup (e ▸ m)) h
end
/-! ### while -/
section
variable {σ : L2.St} {H : Hp} {tc : TT} {tb : TS} {nx bk ct : L2.St → Hp → Prop} {rt : VK}
def WBody (tb : TS) (Pv : Nat → L2.St → Hp → Prop) (m : Nat) (nx : L2.St → Hp → Prop) (rt : VK) (σ : L2.St) (H : Hp) : Prop :=
  ∃ N : L2.St → Hp → Prop, (∀ σ' H', N σ' H' → ∃ m', m' < m ∧ Pv m' σ' H') ∧ tb ⟨N, rt, nx, N⟩ σ H
theorem wWhile (Pv : Nat → L2.St → Hp → Prop) (m : Nat) (h0 : Pv m σ H) (hs : ∀ m σ H, Pv m σ H → tc σ H fun b H1 => if b = true then WBody tb Pv m nx rt σ H1 else nx σ H1) :
    tWhile tc tb ⟨nx, rt, bk, ct⟩ σ H := ⟨Pv, ⟨m, h0⟩, hs⟩
theorem wBody {Pv : Nat → L2.St → Hp → Prop} {m : Nat} (h : tb ⟨fun σ' H' => ∃ m', m' < m ∧ Pv m' σ' H', rt, nx, fun σ' H' => ∃ m', m' < m ∧ Pv m' σ' H'⟩ σ H) : WBody tb Pv m nx rt σ H := ⟨_, fun _ _ h => h, h⟩
end
/-! ### range with a step, lists made of lists, order of tuples, min and max -/
section
variable {K : PySem.W.Frag} {H : Hp} {L : List En} {a b : Addr} {xs ys : List V} {RI : It → Hp → Prop} {σ : L2.St} {ta : TA} {Q : VK} {i j : Int} {ns ms : List Int}
def GoR3 (vs : List V) (H : Hp) (R : It → Hp → Prop) : Prop := ∃ (i j c : Int) (n : Nat), vs = [.int i, .int j, .int c] ∧ RgC i j c n ∧ R (Itc i c n) H
theorem wIR3 (h : ta σ H fun vs H1 => GoR3 vs H1 RI) : iRng3 ta σ H RI := h
theorem wGoDown (ha : -(2 ^ 62) ≤ i) (ha' : i < 2 ^ 62) (hb : -(2 ^ 62) ≤ j) (hb' : j < 2 ^ 62) (h : RI (Itc i (-1) (i - j).toNat) H) : GoR3 [.int i, .int j, .int (-1)] H RI := ⟨i, j, -1, _, rfl, RgC.neg ha ha' hb hb', h⟩
theorem wRepL {n : Int} (F : Fx H L) (m : En.ob a (.lst xs) ∈ L) (n1 : -(2 ^ 63) ≤ n) (n2 : n < 2 ^ 63) (n3 : xs.length * n.toNat ≤ 1000000)
    (k : ∀ p H', Fx H' (.ob p (.lst (List.replicate n.toNat xs).flatten) :: L) → Q (.ref p) H') : rOr rMulC (rOr rMulI (rOr rRep (rRepT K))) (.ref a) (.int n) H Q :=
  .inr (.inr (.inl ⟨a, n, xs, rfl, rfl, F.get m, n1, n2, Nat.le_trans n3 line_big, wNewF F k⟩))
theorem wCatL (F : Fx H L) (m : En.ob a (.lst xs) ∈ L) (m' : En.ob b (.lst ys) ∈ L) (l : xs.length + ys.length ≤ 1000000)
    (k : ∀ p H', Fx H' (.ob p (.lst (xs ++ ys)) :: L) → Q (.ref p) H') : rOr rAddI (rOr rAddS (rOr rCat (rCatT K))) (.ref a) (.ref b) H Q :=
  .inr (.inr (.inl ⟨a, b, xs, ys, rfl, rfl, F.get m, F.get m', Nat.le_trans l line_big, wNewF F k⟩))
theorem wLtT (s : SqT K H a (ns.map V.int)) (t : SqT K H b (ms.map V.int)) (h : Q (.bl (HT.lexLt ns ms)) H) : rOr rLtI (rLtT K) (.ref a) (.ref b) H Q := .inr ⟨a, b, ns, ms, rfl, rfl, s, t, h⟩
theorem flat_one (n : Nat) (x : V) : (List.replicate n [x]).flatten = List.replicate n x := by
  induction n with
  | zero => rfl
  | succ n ih => rw [List.replicate_succ, List.flatten_cons, ih]; rfl
end
theorem zLtS {X : Cx} (hu : X.A.units < cLine) : OpR X (compareOp .Lt) (rOr rLtI (rLtT X.K)) := opOr op_lt (op_ltT hu)
def rMin2 : List V → Hp → VK → Prop := fun xs H Q => ∃ i j, xs = [V.int i, V.int j] ∧ Q (.int (if j < i then j else i)) H
def rMax2 : List V → Hp → VK → Prop := fun xs H Q => ∃ i j, xs = [V.int i, V.int j] ∧ Q (.int (if j > i then j else i)) H
theorem zMin2 {X : Cx} (hc : X.calm = true) : CallR X (.builtin "min") rMin2 := call_min2 hc
theorem zMax2 {X : Cx} (hc : X.calm = true) : CallR X (.builtin "max") rMax2 := call_max2 hc
theorem wMin2 {H : Hp} {Q : VK} {i j : Int} (h : Q (.int (if j < i then j else i)) H) : rMin2 [.int i, .int j] H Q := ⟨i, j, rfl, h⟩
theorem wMax2 {H : Hp} {Q : VK} {i j : Int} (h : Q (.int (if j > i then j else i)) H) : rMax2 [.int i, .int j] H Q := ⟨i, j, rfl, h⟩
/-! ### comprehensions and loops over a tuple or a list of the ledger -/
section
variable {K : PySem.W.Frag} {H : Hp} {L : List En} {a : Addr} {xs : List V} {g : TG} {tt : TT} {te : TE} {vs : List Nat} {σ : L2.St} {QD : Addr → Hp → Prop}
theorem wLcT (m : En.ob a (.tup xs) ∈ L) (F : Fx H L) (R : Nat → List V → List En → Prop) (h0 : R 0 [] L) (keep : ∀ i acc L', R i acc L' → En.ob a (.tup xs) ∈ L')
    (hs : ∀ i x D H' acc L', xs[i]? = some x → R i acc L' → Fx H' (.ob D (.lst acc) :: L') → g x (wipe σ vs) H' fun σ2 H2 => wipe σ2 vs = wipe σ vs ∧ tt σ2 H2 fun b H3 =>
      if b = true then te σ2 H3 fun y H4 => LcPut D R i y H4 else LcP D R (i + 1) H3)
    (hd : ∀ D acc L' H', Fx H' (.ob D (.lst acc) :: L') → R xs.length acc L' → QD D H') :
    ∀ D, H D = none → ∃ W : Nat → Nat → Hp → Prop, (∃ m, W 0 m (upd H D (.lst []))) ∧ ∀ i m H, W i m H →
  ((Itt K a).stop i H ∧ QD D H) ∨ ((Itt K a).go i H ∧ ∃ Nx : Hp → Prop, (∀ H', Nx H' → ∃ m', m' < m ∧ W (i + 1) m' H') ∧ ∀ x H', (Itt K a).yld i H x H' → g x (wipe σ vs) H' fun σ2 H2 => wipe σ2 vs = wipe σ vs ∧ tt σ2 H2 fun b H3 =>
    if b = true then te σ2 H3 fun y H4 => ∃ acc, H4 D = some (.lst acc) ∧
          acc.length < sizeLine ∧ Nx (upd H4 D (.lst (acc ++ [y]))) else Nx H3) :=
  wLcW (walk_tup (K := K) (xs := xs)) F R h0 (fun i acc L' D H' r F' => F'.tup (List.mem_cons_of_mem _ (keep _ _ _ r))) (fun i x D H' H'' acc L' _ r F' y => by
    obtain ⟨rfl, e⟩ := y
    exact hs i x D H'' acc L' e r F') hd
theorem wLcL (m : En.ob a (.lst xs) ∈ L) (F : Fx H L) (R : Nat → List V → List En → Prop) (h0 : R 0 [] L) (keep : ∀ i acc L', R i acc L' → En.ob a (.lst xs) ∈ L')
    (hs : ∀ i x D H' acc L', xs[i]? = some x → R i acc L' → Fx H' (.ob D (.lst acc) :: L') → g x (wipe σ vs) H' fun σ2 H2 => wipe σ2 vs = wipe σ vs ∧ tt σ2 H2 fun b H3 =>
      if b = true then te σ2 H3 fun y H4 => LcPut D R i y H4 else LcP D R (i + 1) H3)
    (hd : ∀ D acc L' H', Fx H' (.ob D (.lst acc) :: L') → R xs.length acc L' → QD D H') :
    ∀ D, H D = none → ∃ W : Nat → Nat → Hp → Prop, (∃ m, W 0 m (upd H D (.lst []))) ∧ ∀ i m H, W i m H →
  ((Itl K a).stop i H ∧ QD D H) ∨ ((Itl K a).go i H ∧ ∃ Nx : Hp → Prop, (∀ H', Nx H' → ∃ m', m' < m ∧ W (i + 1) m' H') ∧ ∀ x H', (Itl K a).yld i H x H' → g x (wipe σ vs) H' fun σ2 H2 => wipe σ2 vs = wipe σ vs ∧ tt σ2 H2 fun b H3 =>
    if b = true then te σ2 H3 fun y H4 => ∃ acc, H4 D = some (.lst acc) ∧
          acc.length < sizeLine ∧ Nx (upd H4 D (.lst (acc ++ [y]))) else Nx H3) :=
  wLcW (walk_list (K := K) (xs := xs)) F R h0 (fun i acc L' D H' r F' => F'.lst (List.mem_cons_of_mem _ (keep _ _ _ r))) (fun i x D H' H'' acc L' _ r F' y => by
    obtain ⟨rfl, e⟩ := y
    exact hs i x D H'' acc L' e r F') hd
variable {tb : TS} {nx : L2.St → Hp → Prop} {rt : VK}
theorem wForT (F : Fx H L) (m : En.ob a (.tup xs) ∈ L) (Pv : Nat → L2.St → Hp → Prop) (h0 : Pv 0 σ H) (keep : ∀ i σ H', Pv i σ H' → ∃ L', Fx H' L' ∧ En.ob a (.tup xs) ∈ L')
    (hs : ∀ i x σ H', xs[i]? = some x → Pv i σ H' → g x σ H' fun σ2 H2 => tb ⟨Pv (i + 1), rt, nx, Pv (i + 1)⟩ σ2 H2) (hd : ∀ σ H', Pv xs.length σ H' → nx σ H') :
    ∃ W : Nat → Nat → L2.St → Hp → Prop, (∃
          m, W 0 m σ H) ∧ ∀ i m σ H, W i m σ H →
      ((Itt K a).stop i H ∧ nx σ H) ∨ ((Itt K a).go i H ∧ ∃ N : L2.St → Hp → Prop, (∀ σ' H', N σ' H' → ∃ m', m' < m ∧ W (i + 1) m' σ' H') ∧ ∀ x H', (Itt K a).yld i H x H' → g x σ H' fun σ2 H2 => tb ⟨N, rt, nx, N⟩ σ2 H2) :=
  wForW (walk_tup (K := K) (xs := xs)) Pv h0 (fun i σ H' _ q => let ⟨_, F', k⟩ := keep i σ H' q; F'.tup k) (fun i x σ H' H'' _ q y => by
    obtain ⟨rfl, e⟩ := y
    exact hs i x σ H'' e q) hd
theorem wForLi (F : Fx H L) (m : En.ob a (.lst xs) ∈ L) (Pv : Nat → L2.St → Hp → Prop) (h0 : Pv 0 σ H) (keep : ∀ i σ H', Pv i σ H' → ∃ L', Fx H' L' ∧ En.ob a (.lst xs) ∈ L')
    (hs : ∀ i x σ H', xs[i]? = some x → Pv i σ H' → g x σ H' fun σ2 H2 => tb ⟨Pv (i + 1), rt, nx, Pv (i + 1)⟩ σ2 H2) (hd : ∀ σ H', Pv xs.length σ H' → nx σ H') :
    ∃ W : Nat → Nat → L2.St → Hp → Prop, (∃
          m, W 0 m σ H) ∧ ∀ i m σ H, W i m σ H →
      ((Itl K a).stop i H ∧ nx σ H) ∨ ((Itl K a).go i H ∧ ∃ N : L2.St → Hp → Prop, (∀ σ' H', N σ' H' → ∃ m', m' < m ∧ W (i + 1) m' σ' H') ∧ ∀ x H', (Itl K a).yld i H x H' → g x σ H' fun σ2 H2 => tb ⟨N, rt, nx, N⟩ σ2 H2) :=
  wForW (walk_list (K := K) (xs := xs)) Pv h0 (fun i σ H' _ q => let ⟨_, F', k⟩ := keep i σ H' q; F'.lst k) (fun i x σ H' H'' _ q y => by
    obtain ⟨rfl, e⟩ := y
    exact hs i x σ H'' e q) hd
end
section
variable {σ : L2.St} {H : Hp} {te : TE} {ti : TIp} {nx bk ct : L2.St → Hp → Prop} {rt : VK} {i : Nat} {x : V} {f : Int → Int → Int} {a b : Int} {Q : VK}
theorem wAug (e : σ[i]? = some (some x)) (h : te σ H fun y H1 => ti x y H1 fun z H2 => nx (σ.set i (some z)) H2) : tAug i te ti ⟨nx, rt, bk, ct⟩ σ H := ⟨x, e, h⟩
theorem wIpI (h : Q (.int (f a b)) H) : ipI f (.int a) (.int b) H Q := ⟨a, b, rfl, rfl, h⟩
end
section
variable {K : PySem.W.Frag} {H : Hp} {a : Addr} {ns : List Int} {z : Int} {Q : VK}
theorem wNotInTu (s : SqT K H a (ns.map V.int)) (h : Q (.bl (!decide (z ∈ ns))) H) : rIn K true (.int z) (.ref a) H Q :=
  ⟨a, _, rfl, .inr s, rfl, flat_ints ns, by rw [← inV_ints] at h; exact h⟩
end
section
variable {sp : Sp} {v : V} {vs ds : List V} {H : Hp} {Q : VK} {E : XK}
theorem wSpC (h : sp (v :: (vs ++ ds)) H Q E) : sp ((v :: vs) ++ ds) H Q E := h
theorem wSpN (h : sp ds H Q E) : sp ([] ++ ds) H Q E := h
theorem wSpC1 {u : V} (h : sp (u :: v :: (vs ++ ds)) H Q E) : sp (u :: ((v :: vs) ++ ds)) H Q E := h
theorem wSpN1 {u : V} (h : sp (u :: ds) H Q E) : sp (u :: ([] ++ ds)) H Q E := h
theorem wSpC2 {u u' : V} (h : sp (u :: u' :: v :: (vs ++ ds)) H Q E) : sp (u :: u' :: ((v :: vs) ++ ds)) H Q E := h
theorem wSpN2 {u u' : V} (h : sp (u :: u' :: ds) H Q E) : sp (u :: u' :: ([] ++ ds)) H Q E := h
end
theorem wMkO {C : Addr} {sp : Sp} {dvs : List V} {ta : TA} {σ : L2.St} {H : Hp} {EK : XK} (h : ta σ H fun vs H1 => vs.length ≤ 1000 ∧ ∀ a, H1 a = none → sp (.ref a :: (vs ++ dvs)) (upd H1 a (exo a C none))
  (fun v H2 => v = .non ∧ ∃ (d : Addr) (fs : List (Str × V)), H2 a = some (exo a C (some d)) ∧ H2 d = some (exd d fs) ∧ H1 d = none ∧ EK (.ref C) (some d) (upd (del H2 a) d (.xd fs))) (fun _ _ _ => False)) : tMkO C sp dvs ta σ H EK := h
section
variable {x0 x1 x2 x3 x4 x5 x6 x7 x8 x9 x10 x11 x12 x13 x14 x15 x16 x17 x18 x19 x20 x21 x22 x23 x24 x25 x26 : Option V} {v : V} {ρ : L2.St} {H : Hp} {Q : VK} {N : L2.St → Hp → Prop}
theorem wV15 (h : Q v H) : tVar 15 (x0 :: x1 :: x2 :: x3 :: x4 :: x5 :: x6 :: x7 :: x8 :: x9 :: x10 :: x11 :: x12 :: x13 :: x14 :: some v :: ρ) H Q := ⟨v, rfl, h⟩
theorem wG15 (h : N (x0 :: x1 :: x2 :: x3 :: x4 :: x5 :: x6 :: x7 :: x8 :: x9 :: x10 :: x11 :: x12 :: x13 :: x14 :: some v :: ρ) H) : gName 15 v (x0 :: x1 :: x2 :: x3 :: x4 :: x5 :: x6 :: x7 :: x8 :: x9 :: x10 :: x11 :: x12 :: x13 :: x14 :: x15 :: ρ) H N := h
theorem wV16 (h : Q v H) : tVar 16 (x0 :: x1 :: x2 :: x3 :: x4 :: x5 :: x6 :: x7 :: x8 :: x9 :: x10 :: x11 :: x12 :: x13 :: x14 :: x15 :: some v :: ρ) H Q := ⟨v, rfl, h⟩
theorem wG16 (h : N (x0 :: x1 :: x2 :: x3 :: x4 :: x5 :: x6 :: x7 :: x8 :: x9 :: x10 :: x11 :: x12 :: x13 :: x14 :: x15 :: some v :: ρ) H) : gName 16 v (x0 :: x1 :: x2 :: x3 :: x4 :: x5 :: x6 :: x7 :: x8 :: x9 :: x10 :: x11 :: x12 :: x13 :: x14 :: x15 :: x16 :: ρ) H N := h
theorem wV17 (h : Q v H) : tVar 17 (x0 :: x1 :: x2 :: x3 :: x4 :: x5 :: x6 :: x7 :: x8 :: x9 :: x10 :: x11 :: x12 :: x13 :: x14 :: x15 :: x16 :: some v :: ρ) H Q := ⟨v, rfl, h⟩
theorem wG17 (h : N (x0 :: x1 :: x2 :: x3 :: x4 :: x5 :: x6 :: x7 :: x8 :: x9 :: x10 :: x11 :: x12 :: x13 :: x14 :: x15 :: x16 :: some v :: ρ) H) : gName 17 v (x0 :: x1 :: x2 :: x3 :: x4 :: x5 :: x6 :: x7 :: x8 :: x9 :: x10 :: x11 :: x12 :: x13 :: x14 :: x15 :: x16 :: x17 :: ρ) H N := h
theorem wV18 (h : Q v H) : tVar 18 (x0 :: x1 :: x2 :: x3 :: x4 :: x5 :: x6 :: x7 :: x8 :: x9 :: x10 :: x11 :: x12 :: x13 :: x14 :: x15 :: x16 :: x17 :: some v :: ρ) H Q := ⟨v, rfl, h⟩
theorem wG18 (h : N (x0 :: x1 :: x2 :: x3 :: x4 :: x5 :: x6 :: x7 :: x8 :: x9 :: x10 :: x11 :: x12 :: x13 :: x14 :: x15 :: x16 :: x17 :: some v :: ρ) H) : gName 18 v (x0 :: x1 :: x2 :: x3 :: x4 :: x5 :: x6 :: x7 :: x8 :: x9 :: x10 :: x11 :: x12 :: x13 :: x14 :: x15 :: x16 :: x17 :: x18 :: ρ) H N := h
theorem wV19 (h : Q v H) : tVar 19 (x0 :: x1 :: x2 :: x3 :: x4 :: x5 :: x6 :: x7 :: x8 :: x9 :: x10 :: x11 :: x12 :: x13 :: x14 :: x15 :: x16 :: x17 :: x18 :: some v :: ρ) H Q := ⟨v, rfl, h⟩
theorem wG19 (h : N (x0 :: x1 :: x2 :: x3 :: x4 :: x5 :: x6 :: x7 :: x8 :: x9 :: x10 :: x11 :: x12 :: x13 :: x14 :: x15 :: x16 :: x17 :: x18 :: some v :: ρ) H) : gName 19 v (x0 :: x1 :: x2 :: x3 :: x4 :: x5 :: x6 :: x7 :: x8 :: x9 :: x10 :: x11 :: x12 :: x13 :: x14 :: x15 :: x16 :: x17 :: x18 :: x19 :: ρ) H N := h
theorem wV20 (h : Q v H) : tVar 20 (x0 :: x1 :: x2 :: x3 :: x4 :: x5 :: x6 :: x7 :: x8 :: x9 :: x10 :: x11 :: x12 :: x13 :: x14 :: x15 :: x16 :: x17 :: x18 :: x19 :: some v :: ρ) H Q := ⟨v, rfl, h⟩
theorem wG20 (h : N (x0 :: x1 :: x2 :: x3 :: x4 :: x5 :: x6 :: x7 :: x8 :: x9 :: x10 :: x11 :: x12 :: x13 :: x14 :: x15 :: x16 :: x17 :: x18 :: x19 :: some v :: ρ) H) : gName 20 v (x0 :: x1 :: x2 :: x3 :: x4 :: x5 :: x6 :: x7 :: x8 :: x9 :: x10 :: x11 :: x12 :: x13 :: x14 :: x15 :: x16 :: x17 :: x18 :: x19 :: x20 :: ρ) H N := h
theorem wV21 (h : Q v H) : tVar 21 (x0 :: x1 :: x2 :: x3 :: x4 :: x5 :: x6 :: x7 :: x8 :: x9 :: x10 :: x11 :: x12 :: x13 :: x14 :: x15 :: x16 :: x17 :: x18 :: x19 :: x20 :: some v :: ρ) H Q := ⟨v, rfl, h⟩
theorem wG21 (h : N (x0 :: x1 :: x2 :: x3 :: x4 :: x5 :: x6 :: x7 :: x8 :: x9 :: x10 :: x11 :: x12 :: x13 :: x14 :: x15 :: x16 :: x17 :: x18 :: x19 :: x20 :: some v :: ρ) H) : gName 21 v (x0 :: x1 :: x2 :: x3 :: x4 :: x5 :: x6 :: x7 :: x8 :: x9 :: x10 :: x11 :: x12 :: x13 :: x14 :: x15 :: x16 :: x17 :: x18 :: x19 :: x20 :: x21 :: ρ) H N := h
theorem wV22 (h : Q v H) : tVar 22 (x0 :: x1 :: x2 :: x3 :: x4 :: x5 :: x6 :: x7 :: x8 :: x9 :: x10 :: x11 :: x12 :: x13 :: x14 :: x15 :: x16 :: x17 :: x18 :: x19 :: x20 :: x21 :: some v :: ρ) H Q := ⟨v, rfl, h⟩
theorem wG22 (h : N (x0 :: x1 :: x2 :: x3 :: x4 :: x5 :: x6 :: x7 :: x8 :: x9 :: x10 :: x11 :: x12 :: x13 :: x14 :: x15 :: x16 :: x17 :: x18 :: x19 :: x20 :: x21 :: some v :: ρ) H) : gName 22 v (x0 :: x1 :: x2 :: x3 :: x4 :: x5 :: x6 :: x7 :: x8 :: x9 :: x10 :: x11 :: x12 :: x13 :: x14 :: x15 :: x16 :: x17 :: x18 :: x19 :: x20 :: x21 :: x22 :: ρ) H N := h
theorem wV23 (h : Q v H) : tVar 23 (x0 :: x1 :: x2 :: x3 :: x4 :: x5 :: x6 :: x7 :: x8 :: x9 :: x10 :: x11 :: x12 :: x13 :: x14 :: x15 :: x16 :: x17 :: x18 :: x19 :: x20 :: x21 :: x22 :: some v :: ρ) H Q := ⟨v, rfl, h⟩
theorem wG23 (h : N (x0 :: x1 :: x2 :: x3 :: x4 :: x5 :: x6 :: x7 :: x8 :: x9 :: x10 :: x11 :: x12 :: x13 :: x14 :: x15 :: x16 :: x17 :: x18 :: x19 :: x20 :: x21 :: x22 :: some v :: ρ) H) : gName 23 v (x0 :: x1 :: x2 :: x3 :: x4 :: x5 :: x6 :: x7 :: x8 :: x9 :: x10 :: x11 :: x12 :: x13 :: x14 :: x15 :: x16 :: x17 :: x18 :: x19 :: x20 :: x21 :: x22 :: x23 :: ρ) H N := h
theorem wV24 (h : Q v H) : tVar 24 (x0 :: x1 :: x2 :: x3 :: x4 :: x5 :: x6 :: x7 :: x8 :: x9 :: x10 :: x11 :: x12 :: x13 :: x14 :: x15 :: x16 :: x17 :: x18 :: x19 :: x20 :: x21 :: x22 :: x23 :: some v :: ρ) H Q := ⟨v, rfl, h⟩
theorem wG24 (h : N (x0 :: x1 :: x2 :: x3 :: x4 :: x5 :: x6 :: x7 :: x8 :: x9 :: x10 :: x11 :: x12 :: x13 :: x14 :: x15 :: x16 :: x17 :: x18 :: x19 :: x20 :: x21 :: x22 :: x23 :: some v :: ρ) H) : gName 24 v (x0 :: x1 :: x2 :: x3 :: x4 :: x5 :: x6 :: x7 :: x8 :: x9 :: x10 :: x11 :: x12 :: x13 :: x14 :: x15 :: x16 :: x17 :: x18 :: x19 :: x20 :: x21 :: x22 :: x23 :: x24 :: ρ) H N := h
theorem wV25 (h : Q v H) : tVar 25 (x0 :: x1 :: x2 :: x3 :: x4 :: x5 :: x6 :: x7 :: x8 :: x9 :: x10 :: x11 :: x12 :: x13 :: x14 :: x15 :: x16 :: x17 :: x18 :: x19 :: x20 :: x21 :: x22 :: x23 :: x24 :: some v :: ρ) H Q := ⟨v, rfl, h⟩
theorem wG25 (h : N (x0 :: x1 :: x2 :: x3 :: x4 :: x5 :: x6 :: x7 :: x8 :: x9 :: x10 :: x11 :: x12 :: x13 :: x14 :: x15 :: x16 :: x17 :: x18 :: x19 :: x20 :: x21 :: x22 :: x23 :: x24 :: some v :: ρ) H) : gName 25 v (x0 :: x1 :: x2 :: x3 :: x4 :: x5 :: x6 :: x7 :: x8 :: x9 :: x10 :: x11 :: x12 :: x13 :: x14 :: x15 :: x16 :: x17 :: x18 :: x19 :: x20 :: x21 :: x22 :: x23 :: x24 :: x25 :: ρ) H N := h
theorem wV26 (h : Q v H) : tVar 26 (x0 :: x1 :: x2 :: x3 :: x4 :: x5 :: x6 :: x7 :: x8 :: x9 :: x10 :: x11 :: x12 :: x13 :: x14 :: x15 :: x16 :: x17 :: x18 :: x19 :: x20 :: x21 :: x22 :: x23 :: x24 :: x25 :: some v :: ρ) H Q := ⟨v, rfl, h⟩
theorem wG26 (h : N (x0 :: x1 :: x2 :: x3 :: x4 :: x5 :: x6 :: x7 :: x8 :: x9 :: x10 :: x11 :: x12 :: x13 :: x14 :: x15 :: x16 :: x17 :: x18 :: x19 :: x20 :: x21 :: x22 :: x23 :: x24 :: x25 :: some v :: ρ) H) : gName 26 v (x0 :: x1 :: x2 :: x3 :: x4 :: x5 :: x6 :: x7 :: x8 :: x9 :: x10 :: x11 :: x12 :: x13 :: x14 :: x15 :: x16 :: x17 :: x18 :: x19 :: x20 :: x21 :: x22 :: x23 :: x24 :: x25 :: x26 :: ρ) H N := h
end
theorem perm4 {A : Type} {a b c d r : A} {L : List A} : (a :: b :: c :: d :: r :: L).Perm (r :: a :: b :: c :: d :: L) := List.perm_middle (l₁ := [a, b, c, d])
end Z

set_option Elab.async false
set_option linter.all false
set_option maxRecDepth 100000
set_option maxHeartbeats 2000500
/-! ### t[::-1] of a tuple -/
namespace Z
open PySem PySem.Spec PyProof.Rows L2 HT
section
variable {prog : Program} {w : World} {A :
      Around} {E : Value → Shared → Prop} {s : Shared}
theorem adjust_rev (n : Nat) : Builtin.Slice.sliceAdjust none none (-1) (n : Int) = ((n : Int) - 1, -1) := by
  unfold
        Builtin.Slice.sliceAdjust
  simp
theorem places_rev (n : Nat) : Builtin.Slice.slicePlaces ((n : Int) - 1) (-1) (-1) = n := by
  unfold
        Builtin.Slice.slicePlaces
  have h1 : ¬ ((-1 : Int) > 0) := by omega
  simp only [h1, if_false, Int.neg_neg, Int.ediv_one]
  split <;> omega
theorem sliceApplied_rev {sl : Addr} {vs : Value} {n : Nat} {Q : Int × Int × Nat → Shared → Prop} (hs : s.heap.IsSliceOf sl .none .none vs) (ps : IsPart vs (some (-1)))
    (h : Q ((n : Int) - 1, -1, n) s) : wpAny (model prog w) A (Builtin.Slice.sliceApplied (.ref sl) (pure (n : Int))) Q E s := by
  obtain ⟨os, hos,
        hcs, hds⟩ := id hs
  unfold Builtin.Slice.sliceApplied
        Builtin.Slice.sliceFields
  refine wpAny_bind (wpAny_bind (wpAny_field hos hds (x := .none) rfl (wpAny_bind (wpAny_field hos hds (x := .none) rfl (wpAny_bind (wpAny_field hos hds (x := vs) rfl (wpAny_pure ?_)))))))
  refine wpAny_bind (slicePart_ ps ?_)
  show wpAny _ _ (if ((-1 : Int) == 0) = true then _ else _) _ _ s
  rw [if_neg (by decide)]
  refine wpAny_bind (slicePart_none (wpAny_bind (slicePart_none (wpAny_bind (wpAny_pure ?_)))))
  show wpAny _ _ (match Builtin.Slice.sliceAdjust none none (-1) (n : Int) with | (lo, hi) => pure (lo, (-1 : Int), Builtin.Slice.slicePlaces lo hi (-1))) _ _ s
  rw [adjust_rev]
  show wpAny _ _ (pure ((n : Int) - 1, (-1 : Int), Builtin.Slice.slicePlaces ((n : Int) - 1) (-1) (-1))) _ _ s
  rw [places_rev]
  exact wpAny_pure h
theorem fmap_map {α β : Type} {f : α → Option β} {g : α → β} : ∀ {l : List α}, (∀ x ∈ l, f x = some (g x)) → l.filterMap f = l.map g
  | [], _ => rfl
  | x :: r, h => by
    rw [List.filterMap_cons, h x List.mem_cons_self, List.map_cons]
    show _ :: _ = _ :: _
    rw [fmap_map fun y hy => h y (List.mem_cons_of_mem _ hy)]
theorem pick_rev (xs : Array Value) : ((List.range xs.size).filterMap fun (m : Nat) => xs[((xs.size : Int) - 1 + (m : Int) * -1).toNat]?).toArray = xs.toList.reverse.toArray := by
  congr 1
  apply List.ext_getElem?
  intro j
  have e : (List.range xs.size).filterMap (fun (m : Nat) => xs[((xs.size : Int) - 1 + (m : Int) * -1).toNat]?) = (List.range xs.size).map (fun m => xs.toList.reverse.getD m .none) := by
    refine fmap_map fun m hm => ?_
    have hm := List.mem_range.mp hm
    have e1 : ((xs.size : Int) - 1 + (m : Int) * -1).toNat = xs.size - 1 - m := by omega
    rw [e1]
    show xs[xs.size - 1 - m]? = some (xs.toList.reverse.getD m .none)
    rw [← Array.getElem?_toList, List.getD_eq_getElem?_getD, List.getElem?_reverse (by simpa using hm)]
    have hl : xs.toList.length - 1 - m < xs.toList.length := by rw [Array.length_toList]; omega
    rw [Array.length_toList, List.getElem?_eq_getElem (by rw [Array.length_toList]; omega)]
    rfl
  rw [e, List.getElem?_map]
  by_cases hj : j < xs.size
  · rw [List.getElem?_range hj]
    have hl : j < xs.toList.reverse.length := by rw [List.length_reverse, Array.length_toList]; exact hj
    rw [List.getElem?_eq_getElem hl]
    show some (xs.toList.reverse.getD j .none) = _
    rw [List.getD_eq_getElem?_getD, List.getElem?_eq_getElem hl]
    rfl
  · rw [List.getElem?_eq_none (by rw [List.length_range]; omega), List.getElem?_eq_none (by rw [List.length_reverse, Array.length_toList]; omega)]
    rfl
theorem getItem_tuple_rev {t sl : Addr} {items : Array Value} {vs : Value} {Q : Value → Shared → Prop} (ht : IsTup s.heap t items) (hs : s.heap.IsSliceOf sl .none .none vs) (ps : IsPart vs (some (-1)))
    (h : Q (.ref s.heap.objs.size) { s with heap := s.heap.push { cls := .type "tuple", data := .seq items.toList.reverse.toArray } })
    (hsz : items.size ≤ sizeLine) : wpAny (model prog
          w) A (getItem (.ref t) (.ref sl)) Q E s := by
  have htake : sizeOk (.seq items.toList.reverse.toArray) := by
    show items.toList.reverse.toArray.size ≤ sizeLine
    rw [List.size_toArray, List.length_reverse, Array.length_toList]
    exact hsz
  obtain ⟨os, hos,
        hcs, hds⟩ := id hs
  have hTs : s.TypeIs (.ref sl)
        "slice" := ⟨os, hos, hcs⟩
  unfold getItem
  try (with_reducible refine wpAny_holding ?_)
  first | (refine wpAny_bind (wpAny_pure ?_)) | skip
  refine wpAny_bind (wpAny_sequenceKey
        ht.typeIs (by decide) ?_)
  refine wpAny_bind (wpAny_callSpecial?_slot (name := Str.ofString
        "__getitem__") ht.typeIs PyProof.Rows.slot_tuple_getitem
    (wpAny_call_entry PyProof.Rows.slot_tuple_getitem
          ht.typeIs entry_tuple_getitem ?_ (args_tuple_getitem _ _)))
  show wpAny _ _ (Builtin.Tuple.tupleItemsOf
        (.ref t) >>= _) _ _ s
  refine wpAny_bind
        (tupleItemsOf_ ht ?_)
  refine wpAny_bind
        (wpAny_typeOf hTs ?_)
  rw [if_pos (by decide)]
  refine wpAny_bind (sliceApplied_rev hs ps ?_)
  show wpAny _ _ (if (((items.size : Int) - 1) == 0 && (-1 : Int) == 1 && items.size == items.size) = true then _ else _) _ _ s
  rw [if_neg (by simp), pick_rev]
  first
    | exact wpAny_bind (m := Builtin.Tuple.tupleExact _)
          (wpAny_newObj_type (wpAny_pure ⟨_, rfl, wpAny_pure h⟩) htake)
    | exact wpAny_bind (m := Builtin.Tuple.tupleExact _) (wpAny_newObj_type
          (wpAny_bind (wpAny_pure (wpAny_pure ⟨_, rfl, wpAny_pure h⟩))) htake)
    | exact wpAny_bind (wpAny_bind (m := Builtin.Tuple.tupleExact _)
          (wpAny_newObj_type (wpAny_pure (wpAny_pure ⟨_, rfl, wpAny_pure h⟩)) htake))
    | exact wpAny_bind (wpAny_bind (m := Builtin.Tuple.tupleExact _)
          (wpAny_newObj_type (wpAny_pure ⟨_, rfl, wpAny_pure h⟩) htake))
end
section
variable {X : Cx}
/-- x[::-1] of a list or of a tuple -/
def tRevS (K : PySem.W.Frag) (te : TE) : TE := fun σ H Q => te σ H fun x H1 => ∃ a xs, x = .ref a ∧ ((SqL K H1 a xs ∧ ∀ p, H1 p = none → Q (.ref p) (upd H1 p (.lst xs.reverse))) ∨ (SqT K H1 a xs ∧ ∀ p, H1 p = none → Q (.ref p) (upd H1 p (.tup xs.reverse))))
theorem pe_revS {e : Expr} {te : TE} {k : Nat} {p1 p2 p3 pos : Pos} (he : PE X e te) : PE X (.Subscript e (.Slice none none (some (.UnaryOp .USub (.Constant (.int 1) k p1) p2)) p3) pos) (tRevS X.K te) := by
  refine ⟨fun pins
        s σ H Q I h => ?_⟩
  refine Subscript_ (thn (he.run pins s σ H
        _ I h) fun v s1 ⟨x, H1, I1, r1, q1⟩ => ?_)
  obtain ⟨a, xs, ex, q⟩ := q1
  subst ex
  cases r1
  have hst : PO X (some (.UnaryOp .USub (.Constant (.int 1) k p1) p2)) (tPart
        (tUn (rU fun i => .int (-i)) (tC (.int 1)))) := po_some (pe_un un_neg pe_int)
  refine wpAny_Slice (thn (po_none.run pins s1 σ H1 (fun o H2 => o = none
        ∧ H2 = H1) I1 ⟨rfl, rfl⟩) fun vl s2 ⟨l, H2, I2, pl, el, e2⟩ => ?_)
  subst el e2
  refine thn (po_none.run pins s2 σ H2 (fun o H3 => o = none ∧ H3
        = H2) I2 ⟨rfl, rfl⟩) fun vu s3 ⟨u, H3, I3, pu, eu, e3⟩ => ?_
  subst eu e3
  refine thn (hst.run pins s3 σ H3 (fun o H4 => o = some (-1) ∧ H4 = H3)
        I3 ⟨1, rfl, -1, rfl, rfl, rfl⟩) fun vs s4 ⟨o, H4, I4, ps, eo, e4⟩ => ?_
  subst eo e4
  have I5 : Inv X pins σ H4 {
        s4 with heap := s4.heap.push { cls := .type "slice", data := .fields #[vl, vu, vs] } } := I4.kept (t' := s4.toks) fun b ob q => Heap.get?_push_of_some _ q
  rcases q with ⟨hx, q⟩ | ⟨hx, q⟩
  · obtain ⟨its, r, ht, hz⟩ := I5.list hx
    have hlen := r.length
    show wpAny (model X.prog X.w) X.A (subscriptTail e (.Slice none none (some (.UnaryOp .USub (.Constant (.int 1) k p1) p2)) p3) (.ref a)
          (.ref s4.heap.objs.size)) (EP X pins σ Q) X.xe { s4 with heap := s4.heap.push { cls := .type "slice", data := .fields #[vl, vu, vs] } }
    refine tail_any (ops := [.ref a, .ref s4.heap.objs.size]) ht.isList.typeIs
          (PySem.slot_list_getitem.lookup) ?_ (by with_unfolding_all rfl)
    refine wpAny_getItem_list_slice ht.isList (Heap.IsSliceOf.new _ vl
          vu vs) pl pu ps (by decide) ?_ (by rw [List.size_toArray]; omega)
    rw [PySem.W.krv_pick]
    refine ⟨.ref _, _, I5.laid (t' := s4.toks) (o := .lst xs.reverse) (fun b ob q =>
          Heap.get?_push_of_some _ q) (Nat.le_refl _) ?_, rfl, q _ (I5.hok.fresh (Nat.le_refl _))⟩
    exact ⟨by rw [List.length_reverse]; exact hz,
          _, 0, r.reverse, Heap.get?_push_size _ rfl⟩
  · obtain ⟨its, r, ht, hz⟩ := I5.tuple hx
    have hlen := r.length
    cases pl
    cases pu
    show wpAny (model X.prog X.w) X.A (subscriptTail e (.Slice none none (some (.UnaryOp .USub (.Constant (.int 1) k p1) p2)) p3) (.ref a) (.ref s4.heap.objs.size)) (EP X pins σ Q) X.xe { s4 with heap := s4.heap.push { cls := .type "slice", data := .fields #[.none, .none, vs] } }
    refine tail_any (ops := [.ref a, .ref s4.heap.objs.size]) ht.typeIs (PyProof.Rows.slot_tuple_getitem.lookup) ?_ (by with_unfolding_all rfl)
    refine getItem_tuple_rev ht (Heap.IsSliceOf.new _ .none .none vs) ps ?_ (by rw [List.size_toArray]; omega)
    refine ⟨.ref _, _, I5.laid (t' := s4.toks) (o := .tup xs.reverse) (fun b ob q => Heap.get?_push_of_some _ q) (Nat.le_refl _) ?_, rfl, q _ (I5.hok.fresh (Nat.le_refl _))⟩
    exact ⟨by rw [List.length_reverse]; exact hz, _, r.reverse, IsTup.new _ _⟩
end
end Z
/-! ### tuple(reversed(t)) of a tuple -/
namespace Z
open PySem PySem.Spec PyProof.Rows RT
theorem nolen_rt : typeLookup (.type "reversed") "__len__" = pure none := by rw [typeLookup_type, builtinLookup_eq_fast]; kernel_rfl
theorem hint_rt : typeLookup (.type "reversed") "__length_hint__" = pure (some (.builtin "reversed.__length_hint__")) := by rw [typeLookup_type, builtinLookup_eq_fast]; kernel_rfl
theorem slot_rt_hint : Slot "reversed" (Str.ofString "__length_hint__") "reversed.__length_hint__" := by
  refine Slot.of (owner := "reversed") (n := "__length_hint__") hint_rt ?_ ?_ ?_ (Or.inr ?_) ?_ ?_
  all_goals first | (rw [isSubtype_type]; kernel_rfl) | kernel_rfl | decide +kernel
theorem entry_rt_hint : entryFor table "reversed.__length_hint__" = some Builtin.«reversed.__length_hint__» := entryFor_of_tree (by kernel_rfl)
theorem args_rt_hint (a : Value) : argsOk "reversed.__length_hint__" { pos := [a] } := by
  show (match Manifest.signature? "reversed.__length_hint__" with | some sig => Bind.checkArgs "reversed.__length_hint__" sig { pos := [a] } | none => pure ()) = pure ()
  rw [signature?_of (n := "__length_hint__".toList.reverse) (o := "reversed".toList.reverse) (by kernel_rfl) RT.owner_rt]
  kernel_rfl
section
variable {prog : Program} {w : World} {A :
      Around} {E : Value → Shared → Prop} {s : Shared}
theorem call_hint_rt {it l : Addr} {items : Array Value} {Q : Value → Shared → Prop} (hit : IsRt s.heap it l ((items.size : Int) - 1)) (hl : IsTup s.heap l items) (hn : items.size ≤ sizeLine)
    (hQ : ∀ tk tk', Q (.int (items.size : Int) tk) { s with toks := tk' }) :
    wpAny (model prog w) A (call (.builtin "reversed.__length_hint__") [.ref it]) Q E s := by
  refine wpAny_call_entry slot_rt_hint hit.typeIs entry_rt_hint ?_ (args_rt_hint _)
  obtain ⟨o, ho,
        hc, hd⟩ := id hit
  unfold Builtin.«reversed.__length_hint__»
  have hz : ((items.size : Nat) : Int) < 2 ^ 63 := by
    have : sizeLine < 2 ^ 63 := by decide +kernel
    omega
  wp_walk using wpAny_field ho hd (i := 0) (x := .ref l) rfl, wpAny_field ho hd (i := 1) (x := rawInt ((items.size : Int) - 1)) rfl, len_tuple hl hz
  rw [hd]
  wp_walk
  rw [show ((items.size : Int) - 1) + 1 = items.size from by omega]
  exact ⟨_, rfl, hQ _ _⟩
end
theorem Walks.tupRev {prog : Program} {w : World} {A : Around} (hh : A.handled = none) (I l : Addr) (hne : l ≠ I) (items : Array Value) (hz : items.size ≤ sizeLine) :
    Walks prog w A I [I, l] [I] items.size (fun i v => items[items.size - 1 - i]? = some v) (fun i h => i ≤ items.size ∧ IsRt h I l ((items.size : Int) - 1 - (i : Int)) ∧ IsTup h l items) where
  sub := fun b hb => by
    simp at hb; simp [hb]
  frame := fun _ _ _ x hk => ⟨x.1, x.2.1.at fun o e => hk I (by simp) o e, by
    obtain ⟨o, ho, r⟩ := x.2.2
    exact ⟨o, hk l (by simp) o ho, r⟩⟩
  item := fun i s
        Q E hi x hQ => by
    have e : (items.size : Int) - 1 - (i : Int) =
          ((items.size - 1 - i : Nat) : Int) := by omega
    have hit := x.2.1
    rw [e] at hit
    have hx : items[items.size - 1 - i]? = some (items[items.size - 1 - i]'(by
          omega)) := Array.getElem?_eq_getElem (by omega)
    refine next_rt_item hit x.2.2 hx hz fun h' hit' hs' => ?_
    have e2 : ((items.size - 1 - i : Nat) : Int) - 1 = (items.size : Int) - 1 -
          ((i + 1 : Nat) : Int) := by omega
    rw [e2] at hit'
    refine hQ _ h' (s.toks + 1) hx ⟨hi, hit', ?_⟩ fun b o hb eo => hs'.extBut b o (fun h => hb (by simp [h])) eo
    obtain ⟨o, ho, r⟩ := x.2.2
    exact ⟨o, (hs'.2 l hne).trans ho, r⟩
  done := fun s Q E x hQ => by
    have e : (items.size : Int) - 1 -
          (items.size : Int) = -1 := by omega
    have hit := x.2.1
    rw [e] at hit
    exact next_rt_end hh hit fun h' he' => hQ h' s.toks fun b o hb eo => he' b o (fun h => hb (by simp [h])) eo
  self := fun _ _ _ _ x hQ => iter_rt x.2.1 hQ
section
variable {prog : Program} {w : World} {A :
      Around} {E : Value → Shared → Prop} {s : Shared}
theorem fits_size {n : Nat} (hn : n ≤ sizeLine) : Builtin.List.listFitsIndex (n : Int) = true := by
  have : sizeLine < 2 ^ 63 := by decide +kernel
  unfold
        Builtin.List.listFitsIndex
  rw [Bool.and_eq_true,
        decide_eq_true_eq, decide_eq_true_eq]
  omega
theorem notlong_size {n : Nat} (hn : n ≤ sizeLine) : Builtin.List.listTooLong (n : Int).toNat = false := by
  unfold
        Builtin.List.listTooLong
  rw [decide_eq_false_iff_not]
  omega
theorem hint_wp {it l : Addr} {items : Array Value} {Q : Bool → Shared → Prop} (hit : IsRt s.heap it l ((items.size : Int) - 1)) (hl : IsTup s.heap l items) (hn : items.size ≤ sizeLine)
    (hQ : ∀ b tk', Q b { s with toks := tk' }) :
    wpAny (model prog w) A (Builtin.List.listLengthHint (.ref it)) Q E s := by
  have hT : s.TypeIs (.ref it) "reversed" := hit.typeIs
  unfold
        Builtin.List.listLengthHint
  refine wpAny_bind (wpAny_specialOf hT nolen_rt ?_)
  show wpAny _ A (specialOf (Value.ref it) (Str.ofString "__length_hint__") >>= _) _ _ _
  refine wpAny_bind (wpAny_specialOf hT hint_rt ?_)
  generalize hid : ("reversed.__length_hint__" : String) = id0
  wp_delta
  rw [show splitId id0 = some ("reversed", "__length_hint__") from by subst hid; decide +kernel]
  subst hid
  refine wpAny_bind (wpAny_isInstance (b := true)
        hT (by rw [isSubtype_type]; kernel_rfl) ?_)
  rw [if_neg (by decide)]
  rw [if_neg (by
        decide +kernel)]
  refine wpAny_bind
        (wpAny_rule ?_)
  rw [slot_rt_hint.bind]
  refine wpAny_bind
        (wpAny_pure ?_)
  refine wpAny_bind (wpAny_attempt (call_hint_rt hit hl hn fun tk tk' => ?_))
  have hfit := fits_size hn
  have hlong := notlong_size hn
  have hneg : ¬ (items.size : Int) < 0 := by omega
  generalize (items.size : Int) = nn at hfit hlong hneg ⊢
  dsimp only
  rw [asInt?.eq_1]
  refine wpAny_bind
        (wpAny_pure ?_)
  dsimp only
  rw [hfit, hlong]
  rw [if_neg (by decide), if_neg hneg, if_neg (by decide)]
  exact wpAny_pure (hQ _ _)
theorem collect_revT {it l : Addr} {items : Array Value} {Q : List Value → Shared → Prop} (hh : A.handled = none) (hit : IsRt s.heap it l ((items.size : Int) - 1)) (hl : IsTup s.heap l items) (hne : l ≠ it) (hn : items.size ≤ sizeLine)
    (hQ : ∀ (h' : Heap) (tk : Nat) (acc : Array Value), (∀ b o, b ≠ it → s.heap.get? b = some o → h'.get? b = some o) →
          ItemsOf (fun i v => items[items.size - 1 - i]? = some v) acc items.size → Q acc.toList { s with heap := h', toks := tk }) :
    wpAny (model prog w) A (collect
          (.ref it)) Q E s := by
  have W := (Walks.tupRev (prog := prog) (w := w) (A := A.in1) hh it l hne items hn).toS
  obtain ⟨oi, hoi, _⟩ := id hit
  obtain ⟨ol, hol, hrl⟩ := id hl
  have hSi : s.heap.objs.size ≠ it :=
        Nat.ne_of_gt (Heap.lt_size hoi)
  have hSl : s.heap.objs.size ≠ l :=
        Nat.ne_of_gt (Heap.lt_size hol)
  have hSf : s.heap.objs.size ∉ [it, l] := by
    simp only [List.mem_cons, List.not_mem_nil, or_false, not_or]; exact ⟨hSi, hSl⟩
  unfold collect
  refine wpAny_bind (wpAny_runValue (codeAny_builtin
        F.entry_proto_collect ?_))
  rw [Around.under_plainId
        F.plain_proto_collect _]
  show wpAny _ A.in1 (newList [] >>= fun l' =>
    again (.builtin "list.__iadd__" ⟨[l', .ref it], []⟩)) _ _ s
  refine wpAny_bind
        (wpAny_newObj_type ?_)
  refine wpAny_pure ⟨plainId_quiet F.plain_list_iadd _,
        codeAny_builtin F.entry_list_iadd ?_⟩
  rw [Around.under_plainId
        F.plain_list_iadd _]
  have hS₁ : (s.heap.push { cls := .type "list", data := .seq ([] : List Value).toArray }).get? s.heap.objs.size =
      some { cls := .type "list", data := .seq ([] : List Value).toArray } := Heap.get?_push_size _ rfl
  have hit1 : IsRt (s.heap.push { cls := .type "list", data := .seq ([] : List Value).toArray }) it l ((items.size : Int) - 1) := hit.at fun o e => Heap.get?_push_of_some _ e
  have hl1 : IsTup (s.heap.push { cls := .type "list", data := .seq ([] : List Value).toArray }) l items := ⟨ol, Heap.get?_push_of_some _ hol, hrl⟩
  have hT : ({ s with heap := s.heap.push { cls := .type "list", data := .seq ([] : List Value).toArray } } : Shared).TypeIs (.ref it) "reversed" := IsRt.typeIs (s := { s with heap := s.heap.push { cls := .type "list", data := .seq ([] : List Value).toArray } }) hit1
  have h1 : Builtin.List.listSameRef (.ref s.heap.objs.size) (.ref it) = false := by
    simp [Builtin.List.listSameRef, hSi]
  show wpAny _ A.in1 (Builtin.List.listExtendWith (.ref s.heap.objs.size)
        (.ref it) (.ref s.heap.objs.size)) _ _ _
  unfold
        Builtin.List.listExtendWith
  refine wpAny_bind
        (wpAny_typeOf hT ?_)
  rw [if_neg (show ¬ _ = true by rw [h1]; decide)]
  refine wpAny_bind (iter_rt (s := { s with heap := s.heap.push { cls := .type "list", data := .seq ([] : List Value).toArray } }) hit1 ?_)
  refine wpAny_bind
        (wpAny_holding ?_)
  have e0 : ((items.size : Nat) : Int) - 1 - ((0 : Nat) : Int) =
        (items.size : Int) - 1 := by omega
  have key : ∀ (R : Result → Shared → Prop) (h2 : Heap) (c tk2 : Nat), h2.get? s.heap.objs.size = some { cls := .type "list", data := .seq #[] c } →
      (∀ b o, b ≠ s.heap.objs.size → s.heap.get? b = some o → h2.get? b = some o) →
      (∀ (h' : Heap) (tk3 c' : Nat) (acc : Array Value), h'.get? s.heap.objs.size = some { cls := .type "list", data := .seq acc c' } →
        (∀ b o, b ≠ it → s.heap.get? b = some o → h'.get? b = some o) → ItemsOf (fun i v => items[items.size - 1 - i]? = some v) acc items.size → R (Except.ok (Flow.ret (.ref s.heap.objs.size))) { s with heap := h', toks := tk3 }) →
      codeAny (model prog w) A (.builtin "list.extend.loop" { pos := [.ref s.heap.objs.size, .ref it, .ref s.heap.objs.size] }) R { s with heap := h2, toks := tk2 } := by
    intro R h2 c tk2 g2 f2 hR
    have g3 : ({ s with heap := h2, toks := tk2 } : Shared).heap.get? s.heap.objs.size = some { cls := .type "list", data := .seq #[] c } := g2
    refine codeAny_extend_loopS W hn _ hSf _ items.size 0 _ _ _ rfl (Nat.zero_le _) ⟨Nat.zero_le _, ?_, ?_⟩ g3 (ItemsOf.nil _) fun s' acc' c' hm hS' hacc => ?_
    · rw [e0]
      obtain ⟨o9, h9, r9⟩ := hit
      exact ⟨o9, f2 _ _ (Ne.symm hSi) h9, r9⟩
    · exact ⟨ol, f2 _ _ (Ne.symm hSl) hol, hrl⟩
    have em := Moved.eq_with hm
    have frame : ∀ b o, b ≠ it → s.heap.get? b = some o → s'.heap.get? b = some o := fun b o hb e => hm.heap b o (fun hmem => by
      rcases List.mem_cons.mp
            hmem with e' | hmem
      · exact absurd (Heap.lt_size e)
            (by rw [e']; exact Nat.lt_irrefl _)
      · exact hb (List.mem_singleton.mp hmem)) (f2 b o (fun e' => absurd (Heap.lt_size e) (by rw [e']; exact Nat.lt_irrefl _)) e)
    rw [em]
    exact hR s'.heap s'.toks c' acc' hS' frame hacc
  refine hint_wp hit1 hl1 hn fun b tk' => ?_
  have fin : ∀ (h2 : Heap) (c : Nat), h2.get? s.heap.objs.size = some { cls := .type "list", data := .seq #[] c } →
      (∀ b o, b ≠ s.heap.objs.size → s.heap.get? b = some o → h2.get? b = some o) →
      codeAny (model prog w) A (.builtin "list.extend.loop" { pos := [.ref s.heap.objs.size, .ref it, .ref s.heap.objs.size] })
        (fun r s' => match r with
          | Except.ok (Flow.ret v) => wpAny (model prog w) A (match v with
            | .ref a => load a >>= fun o => match o.data with
              | .seq xs _ => pure xs.toList
              | _ => unsupported
                    "internal:collect"
            | _ => unsupported "internal:collect") Q E s'
          | Except.ok _ => False
          | Except.error e => E e s') { s with heap := h2, toks := tk' } := by
    intro h2 c g2 f2
    refine key _ h2 c tk' g2 f2 fun h' tk3 c' acc g3 f3 hacc => ?_
    show wpAny (model prog w) A (load s.heap.objs.size >>= _) _ _ _
    refine wpAny_bind (wpAny_load g3 ?_)
    exact wpAny_pure (hQ h' tk3 acc f3 hacc)
  have f1 : ∀ b o, b ≠ s.heap.objs.size → s.heap.get? b = some o → (s.heap.push { cls := .type "list", data := .seq ([] : List Value).toArray }).get? b = some o := fun b o _ e => Heap.get?_push_of_some _ e
  rw [show (Bool.or b _) = b from ?hb]
  case hb => exact Bool.or_false b
  cases b
  · rw [if_neg (by decide)]
    exact wpAny_pure ⟨plainId_quiet F.plain_extend_loop _, fin _ _ hS₁ f1⟩
  · rw [if_pos rfl]
    refine wpAny_bind
          (wpAny_rule ?_)
    unfold Builtin.List.listTouch
    refine wpAny_bind (wpAny_bind (wpAny_updateSeq hS₁ rfl ?_))
    have g2 := Heap.get?_update_self (f := Obj.mapSeq fun x => x.push Value.none) hS₁ rfl
    refine wpAny_updateSeq g2 rfl ?_
    have g3 := Heap.get?_update_self (f := Obj.mapSeq fun x => x.pop) g2 rfl
    exact wpAny_pure ⟨plainId_quiet F.plain_extend_loop _, fin _ _ g3 fun b o hb e => Heap.get?_update_of_ne _ (Ne.symm hb) (Heap.get?_update_of_ne _ (Ne.symm hb) (f1 b o hb e))⟩
theorem code_tuple_new_revT {it l : Addr} {items : Array Value} {Q₁ : Value → Shared → Prop} (hh : A.handled = none) (hit : IsRt s.heap it l ((items.size : Int) - 1)) (hl : IsTup s.heap l items) (hne : l ≠ it) (hn : items.size ≤ sizeLine)
    (h : ∀ (h' : Heap) (tk : Nat) (acc : Array Value), (∀ b o, b ≠ it → s.heap.get? b = some o →
          h'.get? b = some o) → ItemsOf (fun i v => items[items.size - 1 - i]? = some v) acc items.size →
      Q₁ (.ref h'.objs.size) {
            s with heap := h'.push { cls := .type "tuple", data := .seq acc }, toks := tk }) :
    codeAny (model prog w) A (.call (.builtin "tuple.__new__")
          ⟨[.type "tuple", .ref it], []⟩) (wants Q₁ E) s := by
  refine codeAny_of_tree ?_
  show wpAny _ A.in1 (checkBuiltinCall "tuple.__new__" ⟨[.type "tuple", .ref it], []⟩ >>= fun _ =>
    again (.builtin "tuple.__new__" ⟨[.type "tuple", .ref it], []⟩)) _ _ s
  refine wpAny_bind (wpAny_of_eq (F.newCall_tuple_1 _) (wpAny_pure ⟨plainId_quiet
        F.plain_tuple_new _, codeAny_builtin F.entry_tuple_new ?_⟩))
  rw [Around.under_plainId
        F.plain_tuple_new _]
  have hsub := sub_tuple_self
  have hinit :=
        init_tuple_lookup
  have hmh := madeHere_tuple
  have hTI : s.TypeIs (.ref it) "reversed" := hit.typeIs
  have hh1 : A.in1.handled
        = none := hh
  wp_walk using wpAny_typeOf hTI, collect_revT (A := A.in1) hh1 hit hl hne hn
  intro h' tk acc hk hacc
  show wpAny _ _ (Builtin.Tuple.tupleExact acc.toList.toArray
        >>= fun v => ret v) _ _ _
  unfold
        Builtin.Tuple.tupleExact
  have hza : acc.toList.toArray.size ≤ sizeLine := by
    simp only [Array.toArray_toList]; rw [hacc.1]; exact hn
  refine wpAny_bind (wpAny_newObj_type ?_ hza)
  refine wpAny_pure ?_
  have e : acc.toList.toArray
        = acc := by simp
  rw [e]
  exact h h' tk acc
        hk hacc
theorem call_tuple_revT {it l : Addr} {items : Array Value} {Q : Value → Shared → Prop} (hh : A.handled = none) (hit : IsRt s.heap it l ((items.size : Int) - 1)) (hl : IsTup s.heap l items) (hne : l ≠ it) (hn : items.size ≤ sizeLine)
    (hQ : ∀ (h' : Heap) (tk : Nat) (acc : Array Value), (∀ b o, b ≠ it → s.heap.get? b = some o →
          h'.get? b = some o) → ItemsOf (fun i v => items[items.size - 1 - i]? = some v) acc items.size →
      Q (.ref h'.objs.size) {
            s with heap := h'.push { cls := .type "tuple", data := .seq acc }, toks := tk }) :
    wpAny (model prog w) A (call (.type
          "tuple") [.ref it]) Q E s := by
  refine callType_codes (Q₁ := fun obj s₁ => s₁.TypeIs obj "tuple" ∧ Q obj s₁)
        F.called_tuple (F.typeCall_tuple_1 _) F.entry_object_init
    (code_tuple_new_revT (A := A.in1) hh hit hl hne hn fun h' tk acc hk hacc => ⟨⟨_, Heap.get?_push_size _ rfl, rfl⟩, hQ h' tk acc hk hacc⟩) fun obj s₁ h₁ => ?_
  exact ⟨h₁.1, F.args_object_init_2 obj _, object_init_meets F.called_tuple.init.lookup F.called_tuple.made
        (by decide) prog w A.in1 _ s₁ ⟨h₁.1, rfl, h₁.2⟩⟩
end
end Z

set_option Elab.async false
set_option linter.all false
set_option maxRecDepth 100000
set_option maxHeartbeats 2000500
/-! ### t * 1 of a tuple: the same tuple -/
namespace Z
open PySem PySem.Spec PyProof.Rows L2 HT
theorem tuple_mul1 (l : Addr) (items : Array Value) (n : Nat) (dd : Option Addr) (sl : Array (Option Value)) (x : Int) (u : Tok)
    (c0 : (decide (x < -2 ^ 63) || decide (x ≥ 2 ^ 63)) = false) (c1 : (items.isEmpty || x == 1) = true) :
    Meets (Builtin.«tuple.__mul__» { pos := [Value.ref l, Value.int x u] }) fun _ R s =>
      s.heap.get? l = some { cls := Value.type "tuple", dict := dd, data := Data.seq items n, slots := sl } ∧ R (Except.ok (Flow.ret (Value.ref l))) s :=
  Meets.of_wp fun prog w A R s h => by
    obtain ⟨hp, g,
          d, tk, os⟩ := s
    obtain ⟨hl, h⟩ := h
    have f1 := AutoSeq1.idx_int
    have hT : (⟨hp, g, d, tk, os⟩ : Shared).TypeIs (.ref l) "tuple" := ⟨_, hl, rfl⟩
    wp_walk
    rw [if_neg (by rw [c0]; decide)]
    refine wpAny_bind (tupleItemsOf_ (items := items) ⟨_, hl, rfl, _, rfl⟩ ?_)
    rw [if_pos c1]
    unfold Builtin.Tuple.tupleIsExact
    wp_walk using wpAny_typeOf hT
    exact ⟨_, rfl, h⟩
/-- t * k of a tuple that is not empty, k at least 1 -/
def rRep1 (K : PySem.W.Frag) : R2 := fun x y H Q => ∃ l k xs, x = .ref l ∧ y = .int k ∧ SqT K H l xs ∧ xs ≠ [] ∧ 1 ≤ k ∧ k ≤ 1000 ∧ xs.length ≤ 1000 ∧
  (k = 1 → Q (.ref l) H) ∧ (k ≠ 1 → ∀ p, H p = none → Q (.ref p) (upd H p (.tup (List.replicate k.toNat xs).flatten)))
theorem op_rep1 {X : Cx} : OpR X (binaryOp Operator.Mult) (rRep1 X.K) := by
  intro pins s σ H x
        y v u Q I rx ry h
  obtain ⟨l, k, xs, ex, ey, hT, hne, h1, h2, hz, q1, q2⟩ := h
  by_cases hk : k = 1
  · subst ex ey
    cases rx
    obtain ⟨t, e⟩ := ry
    subst e hk
    obtain ⟨its, r, ht, hs⟩ := I.tuple hT
    obtain ⟨⟨cls, dd, data, sl⟩,
          ho, hc, n, hd⟩ := id ht
    dsimp only at hc hd
    subst hc hd
    refine wpAny_binaryOp_repeat_ref (by decide) ⟨_, ho, rfl⟩ (fun s' => typeIs_int s' 1 t) noFill_tuple_mul F.fills_int_mul F.slot_int_rmul repeat_tuple F.slot_int_index.lookup ?_
    refine call_meets F.slot_int_rmul (typeIs_int s 1 t) F.entry_int_rmul (F.args_int_rmul_2 (Value.int 1 t) (Value.ref l)) (int_rmul_tuple 1 t l its.toArray n dd sl) ⟨ho, rfl, ⟨_, ho, rfl⟩, ?_⟩
    refine call_meets F.slot_tuple_mul ⟨_, ho, rfl⟩ F.entry_tuple_mul (F.args_tuple_mul_2 (Value.ref l) (Value.int 1 t)) (tuple_mul1 l its.toArray n dd sl 1 t (by decide) (by simp)) ⟨ho, ?_⟩
    exact ⟨.ref l, H, I, rfl, q1 rfl⟩
  · exact op_repT pins s σ H x y v u Q I rx ry ⟨l, k, xs, ex, ey, hT, hne, by omega, h2, hz, q2 hk⟩
end Z
/-! ### tuple(reversed(t)) of a tuple as an expression -/
namespace Z
open PySem PySem.Spec PyProof.Rows L2 RT
def tTupRevT (K : PySem.W.Frag) (te : TE) : TE := fun σ H Q => te σ H fun v H1 => ∃ a xs, v = .ref a ∧ SqT K H1 a xs ∧ ∀ q, H1 q = none → Q (.ref q) (upd H1 q (.tup xs.reverse))
theorem pe_tupRevT {X : Cx} {e : Expr} {te : TE} {p p2 pos pos2 : Pos} (hc : X.calm = true) (hg : Gl X "tuple") (hm : X.mg "tuple" = none) (hg2 : Gl X "reversed") (hm2 : X.mg "reversed" = none) (he : PE X e te)
    (hs : starEach [e] X.env = (false, eval
          e X.env) :: starEach [] X.env := by rfl)
    (hs2 : starEach [.Call (.Name "reversed" p2) [e] [] pos2] X.env = (false, eval
          (.Call (.Name "reversed" p2) [e] [] pos2) X.env) :: starEach [] X.env := by rfl) :
    PE X (.Call (.Name "tuple" p) [.Call (.Name "reversed" p2) [e] [] pos2] [] pos) (tTupRevT X.K te) := by
  refine ⟨fun pins
        s σ H Q I h => ?_⟩
  refine Call_ (ld_blt I hg hm boot_tuple (PyProof.Rows.callWith_type1 (he := hs2) ?_))
  refine args_cons (he := hs2) (Call_ (ld_blt I hg2 hm2 boot_reversed (PyProof.Rows.callWith_type1 (he := hs) (args_cons (he := hs) ?_))))
  refine (thn (he.run pins s σ H _ I h) fun u s1 x => ?_)
  obtain ⟨v, H1, I1, r1, a, xs, ev, hq, q⟩ := x
  subst ev
  cases r1
  obtain ⟨its, r, ht, hz⟩ := I1.tuple hq
  have hlen := r.length
  have hne : a ≠ s1.heap.objs.size := by
    obtain ⟨o, ho, _⟩ := ht
    exact Nat.ne_of_lt
          (Heap.lt_size ho)
  have hsz : its.toArray.size ≤ sizeLine := by rw [List.size_toArray]; omega
  have hlt : ((its.toArray.size : Nat) : Int) < 2 ^ 63 := by
    have : sizeLine < 2 ^ 63 := by decide +kernel
    omega
  refine args_nil (call_reversed_tup ht (fun _ _ _ h9 => len_tuple ht hlt h9) (args_nil ?_))
  have I2 : L2.Inv X pins σ H1 { s1 with heap := s1.heap.push (rtObj a ((its.toArray.size : Int) - 1)), toks := s1.toks + 1 + 1 } := I1.kept fun b ob q9 => Heap.get?_push_of_some _ q9
  have hit : IsRt (s1.heap.push (rtObj a ((its.toArray.size : Int) - 1))) s1.heap.objs.size a ((its.toArray.size : Int) - 1) := ⟨_, Heap.get?_push_size _ rfl, rfl, rfl⟩
  obtain ⟨f0, f1, f2, f3, f4, f5⟩ := I1.fpOk (Nat.le_refl s1.heap.objs.size) (I1.hok.fresh (Nat.le_refl s1.heap.objs.size))
  have ht2 : IsTup (s1.heap.push (rtObj a ((its.toArray.size : Int) - 1))) a its.toArray := by
    obtain ⟨o, ho, r9⟩ := ht
    exact ⟨o, Heap.get?_push_of_some _ ho, r9⟩
  refine call_tuple_revT (s := { s1 with heap := s1.heap.push (rtObj a ((its.toArray.size : Int) - 1)), toks := s1.toks + 1 + 1 }) (items := its.toArray) (I1.ok.hd hc) hit ht2 hne hsz fun h' tk acc hk hacc => ?_
  have I3 := Inv.turned (t' := tk) I2 (fun b o hb e => hk b o hb e) f0 f1 f3 f4 f5
  refine ⟨.ref h'.objs.size, upd H1 h'.objs.size (.tup xs.reverse), I3.laid (t' := tk) (fun c o e => Heap.get?_push_of_some _ e) (Nat.le_refl _) ?_, rfl, q _ (I3.hok.fresh (Nat.le_refl _))⟩
  refine ⟨by rw [List.length_reverse]; exact hz, acc.toList, vals_rev r hacc, ?_⟩
  rw [Array.toArray_toList]
  exact IsTup.new h' acc
end Z
/-! ### readings of these over a ledger -/
namespace Z
open PySem PySem.Spec PyProof.Rows L2 HT
theorem zSlA {X : Cx} : SlR X (rOrS (rSlL X.K) (rSlA X.K)) := SlR.or sl_list sl_tupA
theorem cut_whole {xs : List V} {lo hi : Option Int} (h : HT.sIx xs.length 0 lo = 0 ∧ HT.sIx xs.length xs.length hi = xs.length) : cutV xs lo hi = xs := by
  unfold cutV
  rw [h.1, h.2]
  simp
def RevR (K : PySem.W.Frag) (x : V) (H1 : Hp) (Q : VK) : Prop := ∃ a xs, x = .ref a ∧ ((SqL K H1 a xs ∧ ∀ p, H1 p = none → Q (.ref p) (upd H1 p (.lst xs.reverse))) ∨ (SqT K H1 a xs ∧ ∀ p, H1 p = none → Q (.ref p) (upd H1 p (.tup xs.reverse))))
def TupRevR (K : PySem.W.Frag) (x : V) (H1 : Hp) (Q : VK) : Prop := ∃ a xs, x = .ref a ∧ SqT K H1 a xs ∧ ∀ q, H1 q = none → Q (.ref q) (upd H1 q (.tup xs.reverse))
def RevI (K : PySem.W.Frag) (vs : List V) (H1 : Hp) (R : It → Hp → Prop) : Prop := ∃ a xs, vs = [V.ref a] ∧ SqL K H1 a xs ∧ R (Itv K a xs.length) H1
section
variable {K : PySem.W.Frag} {σ : L2.St} {H : Hp} {te : TE} {ta : TA} {Q : VK} {L : List En} {a : Addr} {xs : List V} {RI : It → Hp → Prop} {k : Int} {b : V} {lo hi : Option Int}
theorem wRevS (h : te σ H fun x H1 => RevR K x H1 Q) : tRevS K te σ H Q := h
theorem wRevL (s : SqL K H a xs) (F : Fx H L) (k : ∀ p H', Fx H' (.ob p (.lst xs.reverse) :: L) → Q (.ref p) H') : RevR K (.ref a) H Q := ⟨a, xs, rfl, .inl ⟨s, wNewF F k⟩⟩
theorem wRevT (s : SqT K H a xs) (F : Fx H L) (k : ∀ p H', Fx H' (.ob p (.tup xs.reverse) :: L) → Q (.ref p) H') : RevR K (.ref a) H Q := ⟨a, xs, rfl, .inr ⟨s, wNewF F k⟩⟩
theorem wTupRev (h : te σ H fun x H1 => TupRevR K x H1 Q) : tTupRevT K te σ H Q := h
theorem wTupRevT (s : SqT K H a xs) (F : Fx H L) (k : ∀ p H', Fx H' (.ob p (.tup xs.reverse) :: L) → Q (.ref p) H') : TupRevR K (.ref a) H Q := ⟨a, xs, rfl, s, wNewF F k⟩
theorem wIRev (h : ta σ H fun vs H1 => RevI K vs H1 RI) : iRev K ta σ H RI := h
theorem wRevI (s : SqL K H a xs) (h : RI (Itv K a xs.length) H) : RevI K [.ref a] H RI := ⟨a, xs, rfl, s, h⟩
theorem wRep1 (F : Fx H L) (m : En.ob a (.tup xs) ∈ L) (n1 : 1 ≤ k) (n2 : k ≤ 1000) (n3 : xs.length ≤ 1000) (n4 : xs ≠ [])
    (q : ∀ p H' L1, En.ob p (.tup (List.replicate k.toNat xs).flatten) ∈ L1 → L.Sublist L1 → Fx H' L1 → Q (.ref p) H') : rRep1 K (.ref a) (.int k) H Q := by
  refine ⟨a, k, xs, rfl, rfl, F.tup m, n4, n1, n2, n3, fun e => ?_, fun _ => ?_⟩
  · subst e
    refine q a H L ?_ (.refl _) F
    rw [show (List.replicate (Int.toNat 1) xs).flatten = xs from by
      show (List.replicate 1 xs).flatten = xs
      simp]
    exact m
  · exact wNewF F fun p H' F' => q p H' _ List.mem_cons_self (List.sublist_cons_self _ _) F'
theorem wSlAS {L' : List En} (hq : SeqIs L b (some xs)) (sb : L.Sublist L') (F : Fx H L')
    (q : ∀ p H' N, Seq2 (N ++ L) b (.ref p) xs (cutV xs lo hi) → Fx H' (N ++ L') → Q (.ref p) H') : rOrS (rSlL K) (rSlA K) b lo hi H Q := by
  cases hq with
  | lst m => exact .inl ⟨_, xs, rfl, F.lst (sb.subset m), wNewF F fun p H' F' => q p H' [_] (.lst (.tail _ m) List.mem_cons_self) F'⟩
  | tup m =>
    refine .inr ⟨_, xs, rfl, F.tup (sb.subset m), fun e => ?_, fun _ => ?_⟩
    · refine q _ H [] (.tup m ?_) F
      rw [cut_whole e]
      exact m
    · exact wNewF F fun p H' F' => q p H' [_] (.tup (.tail _ m) List.mem_cons_self) F'
theorem wLenSq (hq : SeqIs L b (some xs)) (F : Fx H L) (h : Q (.int xs.length) H) : rLen K [b] H Q := by
  cases hq with
  | lst m => exact wLenL (F.lst m) h
  | tup m => exact wLenT (F.tup m) h
theorem wIxSq {i : Int} {v : V} (hq : SeqIs L b (some xs)) (F : Fx H L) (e : atI xs i = some v) (h : Q v H) : rIx K b (.int i) H Q := by
  cases hq with
  | lst m => exact wIxL (F.lst m) e h
  | tup m => exact wIxT (F.tup m) e h
theorem wMany_yes {c cls : Value} {ts : Addr → Value → Option Addr → TS} {r : List (Value × (Addr → Value → Option Addr → TS))} {Wout : WX} {D : Ends} {d : Option Addr} (e : PySem.W.exmOne K cls c = some true) (h : ∀ a, H a = none → ts a cls d D σ H) : WE (wMany K Wout D ((c, ts) :: r)) σ cls d H :=
  ⟨true, e, fun _ a ha => h a ha, fun q => Bool.noConfusion q⟩
theorem wMany_no {c cls : Value} {ts : Addr → Value → Option Addr → TS} {r : List (Value × (Addr → Value → Option Addr → TS))} {Wout : WX} {D : Ends} {d : Option Addr} (e : PySem.W.exmOne K cls c = some false) (h : WE (wMany K Wout D r) σ cls d H) : WE (wMany K Wout D ((c, ts) :: r)) σ cls d H :=
  ⟨false, e, fun q => Bool.noConfusion q, fun _ => h⟩
theorem starSq {R : List V → Prop} (hq : SeqIs L b (some xs)) (F : Fx H L) (h : R xs) : ∃ p xs, b = V.ref p ∧ (SqT K H p xs ∨ SqL K H p xs) ∧ R xs := by
  cases hq with
  | lst m => exact ⟨_, xs, rfl, .inr (F.lst m), h⟩
  | tup m => exact ⟨_, xs, rfl, .inl (F.tup m), h⟩
theorem wOnly_yes {c : Value} {ts : Addr → Value → Option Addr → TS} {Wout : WX} {D : Ends} {d : Option Addr} (e : PySem.W.exmOne K c c = some true) (h : ∀ a, H a = none → ts a c d D σ H) : WE (wOnly K c ts Wout D) σ c d H :=
  ⟨true, e, fun _ a ha => h a ha, fun q => Bool.noConfusion q⟩
theorem Seq2.isR {L : List En} {a c : V} {xs ys : List V} (h : Seq2 L a c xs ys) : SeqIs L c (some ys) := by
  cases h with
  | lst _ m => exact .lst m
  | tup _ m => exact .tup m
theorem wLcZL {a b : Addr} {xs ys : List V} {g : TG} {tt : TT} {te : TE} {vs : List Nat} {σ : L2.St} {QD : Addr → Hp → Prop} (m : En.ob a (.lst xs) ∈ L) (m' : En.ob b (.lst ys) ∈ L) (F : Fx H L) (R : Nat → List V → List En → Prop) (h0 : R 0 [] L) (keep : ∀ i acc L', R i acc L' → ∀ e ∈ L, e ∈ L')
    (hs : ∀ i x y T D H' acc L', xs[i]? = some x → ys[i]? = some y → R i acc L' → Fx H' (.ob T (.tup [x, y]) :: .ob D (.lst acc) :: L') → g (.ref T) (wipe σ vs) H' fun σ2 H2 => wipe σ2 vs = wipe σ vs ∧ tt σ2 H2 fun b H3 =>
      if b = true then te σ2 H3 fun y H4 => LcPut D R i y H4 else LcP D R (i + 1) H3)
    (hd : ∀ D acc L' H', Fx H' (.ob D (.lst acc) :: L') → R (min xs.length ys.length) acc L' → QD D H') :
    ∀ D, H D = none → ∃ W : Nat → Nat → Hp → Prop, (∃ m, W 0 m (upd H D (.lst []))) ∧ ∀ i m H, W i m H →
  ((Itz K a b).stop i H ∧ QD D H) ∨ ((Itz K a b).go i H ∧ ∃ Nx : Hp → Prop, (∀ H', Nx H' → ∃ m', m' < m ∧ W (i + 1) m' H') ∧ ∀ x H', (Itz K a b).yld i H x H' → g x (wipe σ vs) H' fun σ2 H2 => wipe σ2 vs = wipe σ vs ∧ tt σ2 H2 fun b H3 =>
    if b = true then te σ2 H3 fun y H4 => ∃ acc, H4 D = some (.lst acc) ∧
          acc.length < sizeLine ∧ Nx (upd H4 D (.lst (acc ++ [y]))) else Nx H3) := by
  refine wLcW (walk_zip (K := K) (xs := xs) (ys := ys) rfl) F R h0 (fun i acc L' D H' r F' => ⟨F'.lst (List.mem_cons_of_mem _ (keep _ _ _ r _ m)), F'.lst (List.mem_cons_of_mem _ (keep _ _ _ r _ m'))⟩) ?_ hd
  rintro i v D H' H'' acc L' _ r F' ⟨T, x, y, rfl, hT, rfl, e1, e2⟩
  exact hs i x y T D _ acc L' e1 e2 r (F'.new hT)
theorem wLcRev {a : Addr} {xs : List V} {g : TG} {tt : TT} {te : TE} {vs : List Nat} {σ : L2.St} {QD : Addr → Hp → Prop} (m : En.ob a (.lst xs) ∈ L) (F : Fx H L) (R : Nat → List V → List En → Prop) (h0 : R 0 [] L) (keep : ∀ i acc L', R i acc L' → ∀ e ∈ L, e ∈ L')
    (hs : ∀ i x D H' acc L', xs.reverse[i]? = some x → R i acc L' → Fx H' (.ob D (.lst acc) :: L') → g x (wipe σ vs) H' fun σ2 H2 => wipe σ2 vs = wipe σ vs ∧ tt σ2 H2 fun b H3 =>
      if b = true then te σ2 H3 fun y H4 => LcPut D R i y H4 else LcP D R (i + 1) H3)
    (hd : ∀ D acc L' H', Fx H' (.ob D (.lst acc) :: L') → R xs.length acc L' → QD D H') :
    ∀ D, H D = none → ∃ W : Nat → Nat → Hp → Prop, (∃ m, W 0 m (upd H D (.lst []))) ∧ ∀ i m H, W i m H →
  ((Itv K a xs.length).stop i H ∧ QD D H) ∨ ((Itv K a xs.length).go i H ∧ ∃ Nx : Hp → Prop, (∀ H', Nx H' → ∃ m', m' < m ∧ W (i + 1) m' H') ∧ ∀ x H', (Itv K a xs.length).yld i H x H' → g x (wipe σ vs) H' fun σ2 H2 => wipe σ2 vs = wipe σ vs ∧ tt σ2 H2 fun b H3 =>
    if b = true then te σ2 H3 fun y H4 => ∃ acc, H4 D = some (.lst acc) ∧
          acc.length < sizeLine ∧ Nx (upd H4 D (.lst (acc ++ [y]))) else Nx H3) := by
  refine wLcW (walk_rev (K := K) (a := a) (xs := xs)) F R h0 (fun i acc L' D H' r F' => F'.lst (List.mem_cons_of_mem _ (keep _ _ _ r _ m))) ?_ hd
  rintro i v D H' H'' acc L' hi r F' ⟨rfl, e⟩
  exact hs i v D _ acc L' (by rw [List.getElem?_reverse hi]; exact e) r F'
end
end Z

set_option Elab.async false
set_option linter.all false
set_option maxRecDepth 100000
/-! ### range of any bounds; math.lcm; min and max of a list -/
namespace Z
open PySem PySem.Spec
      PyProof.Rows L2
theorem turn_long {P : Program} {w : World} {K : PySem.W.Frag} {tg : Expr} (it : Addr) (lo : Int) (n : Nat) : Turn P w K tg (Itr lo n) [it] it (fun i h => IsLongIter h it (lo + (i : Nat) * 1) ((n : Int) - (i : Nat)) 1) where
  mem := by simp
  obj := fun i h st b hb => by
    have e : b = it :=
          by simpa using hb
    subst e
    exact ⟨_, st, fun v z => by
      have z' : Data.fields
            _ = Data.cell v := z
      cases z'⟩
  keep := fun i h h' st k
        => k it (by simp) _ st
  item := by
    intro X hP hw hK hc i
          pins s σ H E I hf st hg
    subst hP hw hK
    obtain ⟨f0, f1, f2, f3,
          f4, f5⟩ := hf it (by simp)
    have W := Walks.longrange (prog := X.prog) (w := X.w) (I.ok.hd hc) it lo 1 n
    refine W.item i s _ _ hg st
          fun v h' tk hv st' kk => ?_
    obtain ⟨t, rfl⟩ := hv
    have I1 : Inv X pins σ H {
          s with heap := h', toks := tk } := I.turned (fun b o hb e => kk b o (by simpa using hb) e) f0 f1 f3 f4 f5
    refine ⟨_, rfl, go_of (s := { s with heap := h', toks := tk }) (n := "longrange_iterator") st' rfl rfl (by decide) ⟨.int (lo + i), H, I1, ⟨t, ?_⟩, ⟨rfl, rfl⟩, st', fun b hb => (hf b hb).1⟩⟩
    rw [Int.mul_one]
  done := by
    intro X hP hw hK hc i
          pins s σ H E I hf st hg
    subst hP hw hK
    obtain ⟨f0, f1, f2, f3,
          f4, f5⟩ := hf it (by simp)
    exact wpAny_pyNext_long_end (I.ok.hd hc) st (by have : n ≤ i := hg; omega) fun h' eb => ⟨rfl, I.turned (t' := s.toks) (fun b o hb e => eb b o hb e) f0 f1 f3 f4 f5⟩
  self := fun _ _ _ _ _ st h => wpAny_pyIter_longiter st h
section
variable {X : Cx} {tg : Expr}
theorem range_itG {pins : List (Addr × Obj)} {σ : L2.St} {H : Hp} {s : Shared} {R : It → Hp → Prop} {E : Value → Shared → Prop} {lo hi : Int} {t u v : Tok} {tk : Nat} (I : Inv X pins σ H s)
    (q : R (Itr lo (hi - lo).toNat) H) : wpAny (model X.prog X.w) X.A (pyIter (.ref s.heap.objs.size)) (PIE X pins σ tg R) E {
          s with heap := s.heap.push { cls := .type "range", data := .fields #[.int lo t, .int hi u, .int 1 v] }, toks := tk } := by
  cases hs : Builtin.Range.small lo hi 1 with
  | true =>
    refine wpAny_pyIter_range (IsRange.new ..) hs ?_
    have I1 : Inv X pins σ H {
          s with heap := s.heap.push { cls := .type "range", data := .fields #[.int lo t, .int hi u, .int 1 v] }, toks := tk } := I.kept fun b o e => Heap.get?_push_of_some _ e
    refine pi_one (tk := tk) I1 _ (turn_range _ lo (hi - lo).toNat) ?_ q
    have e1 : lo + ((0 : Nat) : Int) * 1 = lo := by simp
    have e2 : (((hi - lo).toNat : Nat) : Int) - ((0 : Nat) : Int) =
          Builtin.Range.rangeSize lo hi 1 := by rw [rangeSize_one]; split <;> omega
    show IsRangeIter _ _ (lo + ((0 : Nat) : Int) * 1)
          ((((hi - lo).toNat : Nat) : Int) - ((0 : Nat) : Int)) 1
    rw [e1, e2]
    exact Heap.get?_push_size
          _ rfl
  | false =>
    refine wpAny_pyIter_longrange (IsRange.new ..) hs ?_
    have I1 : Inv X pins σ H {
          s with heap := s.heap.push { cls := .type "range", data := .fields #[.int lo t, .int hi u, .int 1 v] }, toks := tk } := I.kept fun b o e => Heap.get?_push_of_some _ e
    refine pi_one (tk := tk) I1 _ (turn_long _ lo (hi - lo).toNat) ?_ q
    have e1 : lo + ((0 : Nat) : Int) * 1 = lo := by simp
    have e2 : (((hi - lo).toNat : Nat) : Int) - ((0 : Nat) : Int) =
          Builtin.Range.rangeSize lo hi 1 := by rw [rangeSize_one]; split <;> omega
    show IsLongIter _ _ (lo + ((0 : Nat) : Int) * 1) ((((hi - lo).toNat : Nat) : Int) - ((0 : Nat) : Int)) 1
    rw [e1, e2]
    exact Heap.get?_push_size
          _ rfl
def iRngG (ta : TA) : TI := fun σ H R => ta σ H fun vs H1 => ∃ i j : Int, vs = [.int i, .int j] ∧ R (Itr i (j - i).toNat) H1
/-- for .. in range(a, b), numbers of any size -/
theorem pi_rangeG {a b : Expr} {ta : TA} {p pos : Pos} (hg : Gl X "range") (hm : X.mg "range" = none) (ha : PA X [a, b] ta) (hs : starEach [a, b] X.env = [(false, eval a X.env), (false, eval b X.env)] := by rfl) (hs2 : starEach [b] X.env = [(false, eval b X.env)] := by rfl) :
    PI X tg (.Call (.Name "range" p) [a, b] [] pos) (iRngG ta) := by
  refine ⟨fun pins
        s σ H R I h => ?_⟩
  refine Call_ (ld_blt I hg hm boot_range (PyProof.Rows.callWith_type1 (thn (ha.run pos pins
        s σ H _ I h) fun us s1 ⟨vs, H1, I1, r1, q1⟩ => ?_) (by rw [hs, hs2]) (by rw [hs2]; rfl)))
  obtain ⟨i, j, e, q⟩ := q1
  subst e
  cases r1 with
  | cons r rr =>
    cases rr with
    | cons r' rr =>
      cases rr
      obtain ⟨t, rfl⟩ := r
      obtain ⟨t', rfl⟩ := r'
      exact call_range_2 (range_itG I1 q)
def rLcm : List V → Hp → VK → Prop := fun vs H Q => ∃ a b : Int, vs = [.int a, .int b] ∧ a.natAbs < 2 ^ 64 ∧ b.natAbs < 2 ^ 64 ∧ Q (.int ((Nat.lcm a.natAbs b.natAbs : Nat) : Int)) H
theorem cr_lcm : CallR X (.builtin "math.lcm") rLcm := by
  intro pins s σ
        H vs us Q I r h
  obtain ⟨a, b, rfl, ha, hb, q⟩ := h
  obtain ⟨t, u, rfl⟩
        := Vals.int2 r
  exact PySem.W.mc_lcm ha hb fun _ => ⟨.int _, H, I.tok _, ⟨_, rfl⟩, q⟩
end
section
variable {K : PySem.W.Frag} {H : Hp} {Q : VK} {σ : L2.St} {ta : TA} {RI : It → Hp → Prop}
def GoRG (vs : List V) (H : Hp) (R : It → Hp → Prop) : Prop := ∃ i j : Int, vs = [.int i, .int j] ∧ R (Itr i (j - i).toNat) H
theorem wIRG (h : ta σ H fun vs H1 => GoRG vs H1 RI) : iRngG ta σ H RI := h
theorem wGoRG {i j : Int} (h : RI (Itr i (j - i).toNat) H) : GoRG [.int i, .int j] H RI := ⟨i, j, rfl, h⟩
theorem wLcm {a b : Int} (ha : a.natAbs < 2 ^ 64) (hb : b.natAbs < 2 ^ 64) (h : Q (.int ((Nat.lcm a.natAbs b.natAbs : Nat) : Int)) H) : rLcm [.int a, .int b] H Q := ⟨a, b, rfl, ha, hb, h⟩
theorem wMinL {a : Addr} {ns : List Int} (s : SqL K H a (ns.map V.int)) (n : 0 < ns.length) (h : ∀ m, m ∈ ns → (∀ y, y ∈ ns → m ≤ y) → Q (.int m) H) : rMin K [.ref a] H Q := ⟨a, ns, rfl, s, n, h⟩
theorem wMaxL {a : Addr} {ns : List Int} (s : SqL K H a (ns.map V.int)) (n : 0 < ns.length) (h : ∀ m, m ∈ ns → (∀ y, y ∈ ns → y ≤ m) → Q (.int m) H) : rMax K [.ref a] H Q := ⟨a, ns, rfl, s, n, h⟩
end
end Z

set_option Elab.async false
set_option linter.all false
set_option maxRecDepth 100000
set_option maxHeartbeats 2000500
/-! ### zip of a list or a tuple with a list or a tuple; len of an own instance -/
namespace Z
open PySem PySem.Spec
      PyProof.Rows L2
inductive Sd where | l | t
def Sd.seq : Sd → PySem.W.Frag → Hp → Addr → List V → Prop
  | .l => SqL
  | .t => SqT
def Sd.isIt : Sd → Heap → Addr → Addr → Nat → Prop
  | .l => fun h it a i => h.IsListIter it a i
  | .t => fun h it a i => h.IsTupleIter it a i
def Sd.holds : Sd → Heap → Addr → Array Value → Prop
  | .l => fun h a its => h.IsList a its
  | .t => fun h a its => h.IsTuple a its
def Sd.obj : Sd → Addr → Obj
  | .l => fun a => { cls := .type "list_iterator", data := .fields #[.ref a, .int 0 0] }
  | .t => fun a => { cls := .type "tuple_iterator", data := .fields #[.ref a, .int 0 0] }
theorem Sd.draws (k : Sd) {prog : Program} {w : World} {A : Around} (hh : A.handled = none) (it a : Addr) (n : a ≠ it) (its : Array Value) :
    Draws prog w A it [it, a] its.size (fun i v => its[i]? = some v) (fun i h => k.isIt h it a i ∧ k.holds h a its) := by
  cases k with
  | l => exact Draws.list hh it a n its
  | t => exact Draws.tuple hh it a n its
theorem Sd.begins (k : Sd) (a : Addr) (its : Array Value) : Begins (.ref a) (k.obj a) fun h => k.holds h a its := by
  cases k with
  | l => exact begins_list a its
  | t => exact begins_tuple a its
theorem Sd.isIt_at (k : Sd) {h h' : Heap} {it a : Addr} {i : Nat} (x : k.isIt h it a i) (e : ∀ o, h.get? it = some o → h'.get? it = some o) : k.isIt h' it a i := by
  cases k with
  | l => exact Heap.IsListIter.at x e
  | t => exact Heap.IsTupleIter.at x e
theorem Sd.isIt_new (k : Sd) {h : Heap} {it a : Addr} (e : h.get? it = some (k.obj a)) : k.isIt h it a 0 := by
  cases k with
  | l => exact ⟨_, e, rfl, rfl⟩
  | t => exact ⟨_, e, rfl, rfl⟩
theorem Sd.isIt_obj (k : Sd) {h : Heap} {it a : Addr} {i : Nat} (x : k.isIt h it a i) : ∃ o, h.get? it = some o ∧ ∀ v, o.data ≠ Data.cell v := by
  cases k with
  | l => obtain ⟨o, e, _, d⟩ := x; exact ⟨o, e, fun v q => by rw [d] at q; cases q⟩
  | t => obtain ⟨o, e, _, d⟩ := x; exact ⟨o, e, fun v q => by rw [d] at q; cases q⟩
section
variable {X : Cx} {pins : List (Addr ×
      Obj)} {σ : L2.St} {H : Hp} {s : Shared}
theorem Sd.have (k : Sd) {a : Addr} {xs : List V} (I : Inv X pins σ H s) (q : k.seq X.K H a xs) : ∃ its : List Value, Vals xs its ∧ k.holds s.heap a its.toArray ∧ a < s.heap.objs.size := by
  cases k with
  | l =>
    obtain ⟨its, rv, p, _⟩ := I.list q
    exact ⟨its, rv, p.isList, p.lt⟩
  | t =>
    obtain ⟨its, rv, p, _⟩ := I.tuple q
    obtain ⟨o1, ho1, _⟩ := id p
    exact ⟨its, rv, p, Heap.lt_size ho1⟩
theorem Sd.inj (k : Sd) {a : Addr} {xs ys : List V} (I : Inv X pins σ H s) (q : k.seq X.K H a xs) (q' : k.seq X.K H a ys) : xs = ys := by
  cases k with
  | l => exact I.list_inj q q'
  | t => exact I.tuple_inj q q'
end
/-- the two as they stand at each turn, the items in new pairs -/
def ItzG (K : PySem.W.Frag) (ka kb : Sd) (a b : Addr) : It :=
  ⟨fun i H => ∃ (xs ys : List V) (x y : V), ka.seq K H a xs ∧ kb.seq K H b ys ∧ xs[i]? = some x ∧ ys[i]? = some y,
    fun i H v H' => ∃ T x y, v = .ref T ∧ H T = none ∧ H' = upd H T (.tup [x, y]) ∧ (∀ xs, ka.seq K H a xs → xs[i]? = some x) ∧ ∀ ys, kb.seq K H b ys → ys[i]? = some y,
    fun i H => ∃ xs ys : List V, ka.seq K H a xs ∧ kb.seq K H b ys ∧ i ≤ xs.length ∧ i ≤ ys.length ∧ (i = xs.length ∨ i = ys.length)⟩
theorem turn_zipG {P : Program} {w : World} {K : PySem.W.Frag} {elts : List Expr} {kk : Nat} {tpos : Pos} {ka kb : Sd} {a b z TI TO i1 i2 : Addr} (S : ZipSep2 z TI TO i1 i2 [i1, a] [i2, b]) (n1 : a ≠ i1) (n2 : b ≠ i2) :
    Turn P w K (.Tuple elts kk tpos) (ItzG K ka kb a b) [z, TI, TO, i1, i2] z (fun i h => IsZip h z TI TO .none ∧ IsTupOf2 h TI (.ref i1) (.ref i2) ∧ (∃ x y, IsTupOf2 h TO x y) ∧ ka.isIt h i1 a i ∧ kb.isIt h i2 b i) where
  mem := by simp
  obj := fun i h st c hc => by
    obtain ⟨hz, hTI, ⟨x,
          y, hTO⟩, h1, h2⟩ := st
    simp only [List.mem_cons, List.not_mem_nil, or_false] at hc
    rcases hc with rfl | rfl | rfl | rfl | rfl
    · exact ⟨_, hz, fun v q => nomatch q⟩
    · exact ⟨_, hTI, fun v q => nomatch q⟩
    · exact ⟨_, hTO, fun v q => nomatch q⟩
    · exact ka.isIt_obj h1
    · exact kb.isIt_obj h2
  keep := fun i h h' st k => by
    obtain ⟨hz, hTI, ⟨x,
          y, hTO⟩, h1, h2⟩ := st
    exact ⟨k z (by simp) _ hz, k TI (by simp) _ hTI, ⟨x, y, k TO (by simp) _ hTO⟩, ka.isIt_at h1 fun o q => k i1 (by simp) o q, kb.isIt_at h2 fun o q => k i2 (by simp) o q⟩
  item := by
    intro X hP hw hK hc i
          pins s σ H E I hf st hg
    subst hP hw hK
    obtain ⟨hz, hTI, ⟨x0,
          y0, hTO⟩, h1, h2⟩ := st
    obtain ⟨xs, ys, x, y,
          hqx, hqy, hx, hy⟩ := hg
    obtain ⟨its, rv, p, la⟩ := ka.have I hqx
    obtain ⟨its2, rv2, p2, lb⟩ := kb.have I hqy
    obtain ⟨u, hu,
          ru⟩ := rv.get hx
    obtain ⟨u2, hu2,
          ru2⟩ := rv2.get hy
    have hzl : z < s.heap.objs.size
          := Heap.lt_size hz
    have il := (List.getElem?_eq_some_iff.mp hu).1
    have il2 := (List.getElem?_eq_some_iff.mp hu2).1
    refine wpAny_pyNext_zipD2_item S (ka.draws (by exact (I.ok.hd hc)) i1 a n1 its.toArray) (kb.draws (by exact (I.ok.hd hc)) i2 b n2 its2.toArray) hz hTI hTO ⟨h1, p⟩ ⟨h2, p2⟩ (by simpa using il) (by simpa using il2) fun v1 v2 h' tk e1 e2 z' TO' h1' h2' hT hsz hk => ?_
    obtain rfl : v1 = u := by
      have a1 : its.toArray[i]? = some u := by simpa using hu
      exact Option.some.inj (e1.symm.trans a1)
    obtain rfl : v2 = u2 := by
      have a1 : its2.toArray[i]? = some u2 := by simpa using hu2
      exact Option.some.inj (e2.symm.trans a1)
    refine ⟨_, rfl, wpAny_letOwnedTupleGo_zip (s := { s with heap := h', toks := tk }) z' fun h'' z'' sb => ?_⟩
    have hT2 : h''.get? s.heap.objs.size = some { cls := .type "tuple", data := .seq #[v1, v2] } := (sb.2 _ (Nat.ne_of_gt hzl)).trans hT
    have new : ObjOk X.prog X.w (upd H s.heap.objs.size
          (.tup [x, y])) h'' s.heap.objs.size (.tup [x, y]) :=
      ⟨by show 2 ≤ sizeLine; decide, [v1, v2], .cons ru (.cons ru2 .nil), ⟨_, hT2, rfl, _, rfl⟩⟩
    have I1 : Inv X pins σ (upd H s.heap.objs.size (.tup [x, y])) { s with heap := h'', toks := tk } :=
      I.turnedNew (t' := tk) (ch := [z, TI, TO, i1, i2]) (fun c o hb q => (sb.2 c (fun e => hb (by simp [e]))).trans (hk c o (fun e => hb (by simp [e])) (fun e => hb (by simp [e])) (fun e => hb (by simp [e])) (fun e => hb (by simp [e])) q)) hf (Nat.le_refl _) new
    refine ⟨.ref s.heap.objs.size, _, I1, rfl, ⟨_, x, y, rfl, I.hok.fresh (Nat.le_refl _), rfl, fun l hl => by rw [ka.inj I hl hqx]; exact hx, fun l hl => by rw [kb.inj I hl hqy]; exact hy⟩, ⟨z'', ?_, ⟨v1, v2, ?_⟩, ?_, ?_⟩, fun c hcm => ?_⟩
    · exact (sb.2 _ S.TIz).trans (hk _ _ S.TIz S.TITO S.TIi1 S.TIi2 hTI)
    · exact (sb.2 _ S.TOz).trans TO'
    · exact ka.isIt_at h1'.1 fun o q => (sb.2 _ (Ne.symm S.zi1)).trans q
    · exact kb.isIt_at h2'.1 fun o q => (sb.2 _ (Ne.symm S.zi2)).trans q
    · have hlt : c <
          s.heap.objs.size := by
        simp only [List.mem_cons, List.not_mem_nil, or_false] at hcm
        rcases hcm with rfl | rfl | rfl | rfl | rfl
        · exact hzl
        · exact Heap.lt_size hTI
        · exact Heap.lt_size hTO
        · obtain ⟨_, e1, _⟩ := ka.isIt_obj h1; exact Heap.lt_size e1
        · obtain ⟨_, e2, _⟩ := kb.isIt_obj h2; exact Heap.lt_size e2
      rw [upd_ne
            (Nat.ne_of_lt hlt)]
      exact (hf c hcm).1
  done := by
    intro X hP hw hK hc i
          pins s σ H E I hf st hg
    subst hP hw hK
    obtain ⟨hz, hTI, ⟨x0,
          y0, hTO⟩, h1, h2⟩ := st
    obtain ⟨xs, ys, hqx, hqy, g1, g2, g3⟩ := hg
    obtain ⟨its, rv, p, _⟩ := ka.have I hqx
    obtain ⟨its2, rv2, p2, _⟩ := kb.have I hqy
    have l1 := rv.length
    have l2 := rv2.length
    exact wpAny_pyNext_zipD2_end S (ka.draws (by exact (I.ok.hd hc)) i1 a n1 its.toArray) (kb.draws (by exact (I.ok.hd hc)) i2 b n2 its2.toArray) hz hTI hTO ⟨h1, p⟩ ⟨h2, p2⟩ (by simp; omega) (by simp; omega) (by simp; omega)
      fun h' tk hk => ⟨rfl, I.turnedL (t' := tk) (ch := [z, TI, TO, i1, i2]) (fun c o hb q => hk c o (fun e => hb (by simp [e])) (fun e => hb (by simp [e])) (fun e => hb (by simp [e])) (fun e => hb (by simp [e])) q) hf⟩
  self := fun A i s Q E st h
        => wpAny_pyIter_zip st.1 h
def iZipG (K : PySem.W.Frag) (ta : TA) : TI := fun σ H R => ta σ H fun vs H1 => ∃ a b ka kb xs ys, vs = [.ref a, .ref b] ∧ Sd.seq ka K H1 a xs ∧ Sd.seq kb K H1 b ys ∧ R (ItzG K ka kb a b) H1
theorem pi_zipG {X : Cx} {e e2 : Expr} {ta : TA} {p pos tpos : Pos} {elts : List Expr} {kk : Nat} (hg : Gl X "zip") (hm : X.mg "zip" = none) (ha : PA X [e, e2] ta)
    (hs : starEach [e, e2] X.env = (false, eval e X.env) :: starEach [e2] X.env :=
          by rfl) (hpl : (backTo pos (starEach [e2] X.env)).any (·.1) = false := by rfl) :
    PI X (.Tuple elts kk tpos) (.Call (.Name "zip" p) [e, e2] [] pos) (iZipG X.K ta) := by
  refine ⟨fun pins
        s σ H R I h => ?_⟩
  refine Call_ (ld_blt I hg hm PyProof.Rows.boot_zip (PyProof.Rows.callWith_type1
        (thn (ha.run pos pins s σ H _ I h) fun us s1 ⟨vs, H1, I1, r1, q1⟩ => ?_) hs hpl))
  obtain ⟨a, b, ka, kb, xs, ys, ex, hqx, hqy, q⟩ := q1
  subst ex
  cases r1 with
  | cons r rr =>
    cases rr with
    | cons r' rr =>
      cases rr
      cases r
      cases r'
      obtain ⟨its, rv, p1, la⟩ := ka.have I1 hqx
      obtain ⟨its2, rv2, p2, lb⟩ := kb.have I1 hqy
      refine zip_begins2 (ka.begins a its.toArray) (kb.begins b its2.toArray) p1 p2 fun h' hz hTI hTO h1 h2 hsz hk => wpAny_pyIter_zip hz ?_
      have I2 : Inv X pins σ H1 {
            s1 with heap := h' } := I1.kept (t' := s1.toks) hk
      refine ⟨s1.heap.objs.size + 4, [s1.heap.objs.size + 4, s1.heap.objs.size + 2, s1.heap.objs.size + 3, s1.heap.objs.size, s1.heap.objs.size + 1], _, _, H1, rfl, I2,
        turn_zipG (zip_sep2 (fp1 := [a]) (fp2 := [b]) (by simpa using la) (by simpa using lb)) (Nat.ne_of_lt la) (Nat.ne_of_lt (Nat.lt_succ_of_lt lb)), ⟨hz, hTI, ⟨_, _, hTO⟩, ka.isIt_new h1, kb.isIt_new h2⟩, fun c hcm => ?_, q⟩
      have hle :
            s1.heap.objs.size ≤ c := by
        simp only [List.mem_cons, List.not_mem_nil, or_false] at hcm
        rcases hcm with e | e | e | e | e
        · rw [e]; exact Nat.le_add_right _ _
        · rw [e]; exact Nat.le_add_right _ _
        · rw [e]; exact Nat.le_add_right _ _
        · rw [e]; exact Nat.le_refl _
        · rw [e]; exact Nat.le_add_right _ _
      exact I1.fpOk hle
            (I1.hok.fresh hle)
theorem walk_zipG {K : PySem.W.Frag} {ka kb : Sd} {a b : Addr} {xs ys : List V} {n : Nat} (hn : n = min xs.length ys.length) :
    Walk (ItzG K ka kb a b) n (fun H => ka.seq K H a xs ∧ kb.seq K H b ys) (YPair (fun i => xs[i]?) (fun i => ys[i]?)) := by
  refine ⟨fun i _ hi q => ⟨xs, ys, xs[i]'(by omega), ys[i]'(by omega), q.1, q.2, by simp, by simp⟩, fun _ q => ⟨xs, ys, q.1, q.2, by omega, by omega, by omega⟩, fun i H v H' _ q y => ?_⟩
  obtain ⟨T, x, y, h1, h2, h3, h4, h5⟩ := y
  exact ⟨T, x, y, h1, h2, h3, h4 xs q.1, h5 ys q.2⟩
theorem SeqIs.side {L : List En} {v : V} {xs : List V} (s : SeqIs L v (some xs)) : ∃ (k : Sd) (a : Addr), v = .ref a ∧ ∀ K H L', Fx H L' → (∀ p o, En.ob p o ∈ L → En.ob p o ∈ L') → Sd.seq k K H a xs := by
  cases s with
  | @lst a xs m => exact ⟨.l, a, rfl, fun K H L' F s => F.lst (s _ _ m)⟩
  | @tup a xs m => exact ⟨.t, a, rfl, fun K H L' F s => F.tup (s _ _ m)⟩
section
variable {K : PySem.W.Frag} {H : Hp} {L : List En} {a b : V} {xs ys : List V} {RI : It → Hp → Prop} {σ : L2.St} {ta : TA} {g : TG} {tb : TS} {nx : L2.St → Hp → Prop} {rt : VK}
def GoZG (K : PySem.W.Frag) (vs : List V) (H : Hp) (R : It → Hp → Prop) : Prop := ∃ a b ka kb xs ys, vs = [.ref a, .ref b] ∧ Sd.seq ka K H a xs ∧ Sd.seq kb K H b ys ∧ R (ItzG K ka kb a b) H
theorem wIZG (h : ta σ H fun vs H1 => GoZG K vs H1 RI) : iZipG K ta σ H RI := h
/-- a for over zip of two sequences of the ledger -/
theorem wForZ (ha : SeqIs L a (some xs)) (hb : SeqIs L b (some ys)) (F : Fx H L) (Pv : Nat → L2.St → Hp → Prop) (h0 : Pv 0 σ H) (keep : ∀ i σ H', Pv i σ H' → ∃ L', Fx H' L' ∧ ∀ p o, En.ob p o ∈ L → En.ob p o ∈ L')
    (hs : ∀ i x y T σ H', xs[i]? = some x → ys[i]? = some y → Pv i σ H' → H' T = none → g (.ref T) σ (upd H' T (.tup [x, y])) fun σ2 H2 => tb ⟨Pv (i + 1), rt, nx, Pv (i + 1)⟩ σ2 H2) (hd : ∀ σ H', Pv (min xs.length ys.length) σ H' → nx σ H') :
    GoZG K [a, b] H fun J H1 => ∃ W : Nat → Nat → L2.St → Hp → Prop, (∃ m, W 0 m σ H1) ∧ ∀ i m σ H, W i m σ H →
      (J.stop i H ∧ nx σ H) ∨ (J.go i H ∧ ∃ N : L2.St → Hp → Prop, (∀ σ' H', N σ' H' → ∃ m', m' < m ∧ W (i + 1) m' σ' H') ∧ ∀ x H', J.yld i H x H' → g x σ H' fun σ2 H2 => tb ⟨N, rt, nx, N⟩ σ2 H2) := by
  obtain ⟨ka, p, rfl, qa⟩ := ha.side
  obtain ⟨kb, q, rfl, qb⟩ := hb.side
  refine ⟨p, q, ka, kb, xs, ys, rfl, qa K H L F (fun _ _ h => h), qb K H L F (fun _ _ h => h), wForW (walk_zipG (K := K) (xs := xs) (ys := ys) rfl) Pv h0 (fun i σ H' _ pv => ?_) ?_ hd⟩
  · obtain ⟨L', F', k⟩ := keep i σ H' pv
    exact ⟨qa K H' L' F' k, qb K H' L' F' k⟩
  · rintro i x σ H' H'' _ pv ⟨T, u, v, rfl, hT, rfl, e1, e2⟩
    exact hs i u v T σ H' e1 e2 pv hT
/-- a comprehension over zip of two sequences of the ledger -/
theorem wLcZG {te : TE} {tt : TT} {vs : List Nat} {QD : Addr → Hp → Prop} (ha : SeqIs L a (some xs)) (hb : SeqIs L b (some ys)) (F : Fx H L) (R : Nat → List V → List En → Prop) (h0 : R 0 [] L)
    (keep : ∀ i acc L', R i acc L' → ∀ p o, En.ob p o ∈ L → En.ob p o ∈ L')
    (hs : ∀ i x y T D H' acc L', xs[i]? = some x → ys[i]? = some y → R i acc L' → Fx H' (.ob T (.tup [x, y]) :: .ob D (.lst acc) :: L') → g (.ref T) (wipe σ vs) H' fun σ2 H2 => wipe σ2 vs = wipe σ vs ∧ tt σ2 H2 fun b H3 =>
      if b = true then te σ2 H3 fun y H4 => LcPut D R i y H4 else LcP D R (i + 1) H3)
    (hd : ∀ D acc L' H', Fx H' (.ob D (.lst acc) :: L') → R (min xs.length ys.length) acc L' → QD D H') :
    GoZG K [a, b] H fun J H1 => ∀ D, H1 D = none → ∃ W : Nat → Nat → Hp → Prop, (∃ m, W 0 m (upd H1 D (.lst []))) ∧ ∀ i m H, W i m H →
  (J.stop i H ∧ QD D H) ∨ (J.go i H ∧ ∃ Nx : Hp → Prop, (∀ H', Nx H' → ∃ m', m' < m ∧ W (i + 1) m' H') ∧ ∀ x H', J.yld i H x H' → g x (wipe σ vs) H' fun σ2 H2 => wipe σ2 vs = wipe σ vs ∧ tt σ2 H2 fun b H3 =>
    if b = true then te σ2 H3 fun y H4 => ∃ acc, H4 D = some (.lst acc) ∧
          acc.length < sizeLine ∧ Nx (upd H4 D (.lst (acc ++ [y]))) else Nx H3) := by
  obtain ⟨ka, p, rfl, qa⟩ := ha.side
  obtain ⟨kb, q, rfl, qb⟩ := hb.side
  refine ⟨p, q, ka, kb, xs, ys, rfl, qa K H L F (fun _ _ h => h), qb K H L F (fun _ _ h => h), wLcW (walk_zipG (K := K) (xs := xs) (ys := ys) rfl) F R h0 (fun i acc L' D H' r F' => ?_) ?_ hd⟩
  · have k := keep i acc L' r
    exact ⟨qa K H' _ F' fun p o m => .tail _ (k p o m), qb K H' _ F' fun p o m => .tail _ (k p o m)⟩
  · rintro i x D H' H'' acc L' _ r F' ⟨T, u, v, rfl, hT, rfl, e1, e2⟩
    exact hs i u v T D _ acc L' e1 e2 r (F'.new hT)
end
/-! ### len(x), an own __len__ -/
structure OwnLenF (K : PySem.W.Frag) (C f : Addr) : Prop where
  len : PySem.W.findIn K (.ref C) "__len__" = some (some (.ref f))
  fn : PySem.W.typeIn K (.ref f) = some (.type "function")
def rLenOwn (K : PySem.W.Frag) (C : Addr) (sp : Sp) : List V → Hp → VK → Prop := fun vs H Q => ∃ a dx fs, vs = [.ref a] ∧ H a = some (.ins C dx fs) ∧ sp [.ref a] H (fun v H' => ∃ n : Int, v = .int n ∧ 0 ≤ n ∧ n < 2 ^ 63 ∧ Q (.int n) H') E0
section
variable {X : Cx} {k : Nat} {C f : Addr} {fd : FuncData} {ps : List Str} {sp : Sp}
theorem own_call1 {A : Around} {pins : List (Addr × Obj)} {σ : L2.St} {H : Hp} {s : Shared} {Q : VK} {x : V} {u : Value} (F : FnOk X.prog X.w X.K X.mg X.base CX0 k f fd ps sp) (hb : Binds X.K fd ps []) (hr : Room k A) (hf : A.frames = X.A.frames)
    (I : L2.Inv X pins σ H s) (rx : RelV x u) (h : sp [x] H Q E0) : wpAny (model X.prog X.w) A (call (.ref f) [u]) (EP X pins σ Q) X.xe s := by
  have e0 : Env0 X.prog X.w X.K
        X.mg X.base A X.stack s H := by
    have e := I.env0
    exact ⟨by rw [hf]; exact e.frames, e.mod, e.bs, e.bsz, e.funs, e.frf, e.hok, e.bare⟩
  have hl := F.len _ _ _ _ h
  have r2 : Vals [x] [u] := .cons rx .nil
  refine wpAny_call (codeAny_mono (F.run A X.stack s H ⟨[u], []⟩ [u] [x] _ E0 hr e0 (by
    have := hb s [u] I.kIn (by simpa using hl)
    simpa using this) r2 h) fun r s' hq => ?_)
  cases r with
  | error e => exact
        False.elim hq
  | ok fl =>
    cases fl with
    | ret w => exact I.after hq
    | next => exact False.elim hq
    | brk => exact False.elim hq
    | cont => exact False.elim hq
theorem cr_lenOwn (F : FnOk X.prog X.w X.K X.mg X.base CX0 k f fd ps sp) (q : OwnLenF X.K C f) (hb : Binds X.K fd ps []) (hr : Room (k + 1) X.A) : CallR X (.builtin "len") (rLenOwn X.K C sp) := by
  intro pins s σ
        H vs us Q I r h
  obtain ⟨a, dx, fs, rfl, ha, hsp⟩ := h
  obtain ⟨u, rfl,
        ru⟩ := vals1 r
  obtain rfl : u =
        Value.ref a := ru
  obtain ⟨mA, J, _⟩
        := ins_get I.hok ha
  obtain ⟨od, J, _⟩ := J.look
  refine PySem.Calls.call_function_entry PySem.kind_len PySem.plain_len PySem.entry_len (PySem.args_len1 _) ?_
  unfold Builtin.«len»
  refine wpAny_bind (m := oneArg
        "len" _) (wpAny_pure ?_)
  refine wpAny_bind (m := callSpecial? (.ref a) (Str.ofString "__len__")) (PySem.W.special_fn I.kIn J q.len q.fn (wpAny_mono (own_call1 F hb hr.in1 rfl I (show RelV (V.ref a) (Value.ref a) from rfl) hsp) (fun v s' z => ?_) fun _ _ e => e))
  obtain ⟨v', H', I', rv, n, en, h0, h1, hq⟩ := z
  subst en
  obtain ⟨t, rfl⟩ := rv
  refine wpAny_bind
        (wpAny_holding (wpAny_pure ?_))
  refine wpAny_bind
        (wpAny_letGo ?_)
  show wpAny _ _ (if n <
        0 then _ else _) _ _ _
  rw [if_neg (by omega)]
  show wpAny _ _ (if n ≥ 2
        ^ 63 then _ else _) _ _ _
  rw [if_neg (by omega)]
  exact wpAny_bind (wpAny_mkInt (wpAny_pure ⟨_, rfl, .int n, H', I'.tok _, ⟨_, rfl⟩, hq⟩))
def LenO (P : Program) (w : World) (K : PySem.W.Frag) (mg : Str → Option Value) (base : Heap) (C : Addr) (k : Nat) (ps : List Str) (sp : Sp) : Prop := ∃ (f : Addr) (fd : FuncData), OwnLenF K C f ∧ Binds K fd ps [] ∧ FnOk P w K mg base CX0 k f fd ps sp
theorem cr_lenO (O : LenO X.prog X.w X.K X.mg X.base C k ps sp) (hr : Room (k + 1) X.A) : CallR X (.builtin "len") (rLenOwn X.K C sp) := by
  obtain ⟨f, fd, q, b, F⟩ := O
  exact cr_lenOwn F q b hr
theorem wLenOwn {K : PySem.W.Frag} {H : Hp} {Q : VK} {a dx : Addr} {fs : List (Str × V)} (ha : H a = some (.ins C dx fs)) (h : sp [.ref a] H (fun v H' => ∃ n : Int, v = .int n ∧ 0 ≤ n ∧ n < 2 ^ 63 ∧ Q (.int n) H') E0) : rLenOwn K C sp [.ref a] H Q := ⟨a, dx, fs, rfl, ha, h⟩
end
/-! ### two lists, place by place -/
structure Al2 {α β : Type} (R : α → β → Prop) (xs : List α) (ys : List β) : Prop where
  len : xs.length = ys.length
  get : ∀ (i : Nat) (x : α) (y : β), xs[i]? = some x → ys[i]? = some y → R x y
section
variable {α β : Type} {R R' : α → β → Prop} {xs xs' : List α} {ys ys' : List β} {x : α} {y : β} {i : Nat}
theorem Al2.nil : Al2 R ([] : List α) ([] : List β) := ⟨rfl, fun i x y e => by simp at e⟩
theorem Al2.mono (h : Al2 R xs ys) (k : ∀ x y, R x y → R' x y) : Al2 R' xs ys := ⟨h.len, fun i x y e e' => k x y (h.get i x y e e')⟩
theorem Al2.getL (h : Al2 R xs ys) (e : xs[i]? = some x) : ∃ y, ys[i]? = some y ∧ R x y := by
  have hi := (List.getElem?_eq_some_iff.mp e).1
  have hy : ys[i]? = some (ys[i]'(by rw [← h.len]; exact hi)) := List.getElem?_eq_getElem _
  exact ⟨_, hy, h.get i x _ e hy⟩
theorem Al2.getR (h : Al2 R xs ys) (e : ys[i]? = some y) : ∃ x, xs[i]? = some x ∧ R x y := by
  have hi := (List.getElem?_eq_some_iff.mp e).1
  have hx : xs[i]? = some (xs[i]'(by rw [h.len]; exact hi)) := List.getElem?_eq_getElem _
  exact ⟨_, hx, h.get i _ y hx e⟩
theorem Al2.app (h : Al2 R xs ys) (h' : Al2 R xs' ys') : Al2 R (xs ++ xs') (ys ++ ys') := by
  refine ⟨by rw [List.length_append, List.length_append, h.len, h'.len], fun i x y e e' => ?_⟩
  by_cases hi : i < xs.length
  · rw [List.getElem?_append_left hi] at e
    rw [List.getElem?_append_left (by rw [← h.len]; exact hi)] at e'
    exact h.get i x y e e'
  · rw [List.getElem?_append_right (by omega)] at e
    rw [List.getElem?_append_right (by rw [← h.len]; omega), ← h.len] at e'
    exact h'.get _ x y e e'
theorem Al2.one (r : R x y) : Al2 R [x] [y] := ⟨rfl, fun i a b e e' => by
  cases i with
  | zero => cases e; cases e'; exact r
  | succ i => simp at e⟩
theorem Al2.snoc (h : Al2 R xs ys) (r : R x y) : Al2 R (xs ++ [x]) (ys ++ [y]) := h.app (.one r)
theorem Al2.cons (r : R x y) (h : Al2 R xs ys) : Al2 R (x :: xs) (y :: ys) := (Al2.one r).app h
theorem Al2.take (h : Al2 R xs ys) (n : Nat) : Al2 R (xs.take n) (ys.take n) := by
  refine ⟨by rw [List.length_take, List.length_take, h.len], fun i x y e e' => ?_⟩
  by_cases hi : i < n
  · rw [List.getElem?_take_of_lt hi] at e e'
    exact h.get i x y e e'
  · rw [List.getElem?_take_eq_none (by omega)] at e
    cases e
theorem Al2.drop (h : Al2 R xs ys) (n : Nat) : Al2 R (xs.drop n) (ys.drop n) := by
  refine ⟨by rw [List.length_drop, List.length_drop, h.len], fun i x y e e' => ?_⟩
  rw [List.getElem?_drop] at e e'
  exact h.get _ x y e e'
theorem Al2.set (h : Al2 R xs ys) (r : R x y) (n : Nat) : Al2 R (xs.set n x) (ys.set n y) := by
  refine ⟨by rw [List.length_set, List.length_set, h.len], fun i a b e e' => ?_⟩
  by_cases hi : n = i
  · subst hi
    have h1 := (List.getElem?_eq_some_iff.mp e).1
    have h2 := (List.getElem?_eq_some_iff.mp e').1
    rw [List.length_set] at h1 h2
    rw [List.getElem?_set_self h1] at e
    rw [List.getElem?_set_self h2] at e'
    cases e
    cases e'
    exact r
  · rw [List.getElem?_set_ne hi] at e e'
    exact h.get i a b e e'
theorem Al2.rep (r : R x y) (n : Nat) : Al2 R (List.replicate n x) (List.replicate n y) := by
  refine ⟨by rw [List.length_replicate, List.length_replicate], fun i a b e e' => ?_⟩
  obtain ⟨_, rfl⟩ := List.getElem?_eq_some_iff.mp e
  obtain ⟨_, rfl⟩ := List.getElem?_eq_some_iff.mp e'
  simpa using r
end
/-- an entry of a sublist, brought to the front -/
theorem sub_front {α : Type} {e : α} {r : List α} : ∀ {L : List α}, (e :: r).Sublist L → ∃ L2, L.Perm (e :: L2) ∧ r.Sublist L2
  | _, .cons a h => by
    obtain ⟨L2, p, s⟩ := sub_front h
    exact ⟨a :: L2, (p.cons a).trans (.swap _ _ _), s.cons a⟩
  | _, .cons_cons _ h => ⟨_, .refl _, h⟩
def Sp5 (f : V → V → V → V → V → Hp → VK → XK → Prop) : Sp := fun vs H Q E => ∃ a b c d e, vs = [a, b, c, d, e] ∧ f a b c d e H Q E
end Z

set_option Elab.async false
set_option linter.all false
set_option maxRecDepth 100000
set_option maxHeartbeats 2000500
/-! ### slices -/
namespace Z
open PySem L2 RZ
theorem cut_mem {xs : List V} {lo hi : Option Int} {x : V} (h : x ∈ cutV xs lo hi) : x ∈ xs := by
  unfold cutV at h
  exact List.mem_of_mem_drop (List.mem_of_mem_take h)
theorem cut_ints (cs : List Int) (lo hi : Option Int) : ∃ ds : List Int, cutV (cs.map V.int) lo hi = ds.map V.int ∧ ds.length ≤ cs.length ∧ ∀ d ∈ ds, d ∈ cs := by
  refine ⟨(cs.drop (HT.sIx cs.length 0 lo)).take (HT.sIx cs.length cs.length hi - HT.sIx cs.length 0 lo), ?_, ?_, fun d h => List.mem_of_mem_drop (List.mem_of_mem_take h)⟩
  · unfold cutV
    rw [List.length_map, ← List.map_drop, ← List.map_take]
  · rw [List.length_take, List.length_drop]; omega
theorem cut_take {xs : List V} {k : Int} (h : 0 ≤ k) : cutV xs none (some k) = xs.take k.toNat := by
  obtain ⟨n, rfl⟩ := Int.eq_ofNat_of_zero_le h
  unfold cutV
  rw [HT.sIx_nat, HT.sIx_none, List.drop_zero, Nat.sub_zero, Int.toNat_natCast]
  by_cases hn : n ≤ xs.length
  · rw [Nat.min_eq_left hn]
  · rw [Nat.min_eq_right (by omega), List.take_length, List.take_of_length_le (by omega)]
theorem cut_drop {xs : List V} {k : Int} (h : 0 ≤ k) : cutV xs (some k) none = xs.drop k.toNat := by
  obtain ⟨n, rfl⟩ := Int.eq_ofNat_of_zero_le h
  unfold cutV
  rw [HT.sIx_nat, HT.sIx_none, Int.toNat_natCast]
  by_cases hn : n ≤ xs.length
  · rw [Nat.min_eq_left hn, List.take_of_length_le (by rw [List.length_drop]; exact Nat.le_refl _)]
  · rw [Nat.min_eq_right (by omega), Nat.sub_self, List.take_zero, List.drop_eq_nil_of_le (by omega)]
theorem cut_but {xs : List V} : cutV xs none (some (-1)) = xs.dropLast := by
  unfold cutV HT.sIx
  show List.take ((-1 + (xs.length : Int)).toNat - 0) (List.drop 0 _) = _
  rw [List.drop_zero, List.dropLast_eq_take, show (-1 + (xs.length : Int)).toNat - 0 = xs.length - 1 from by omega]
end Z
namespace Z
open PySem PySem.Spec
      PyProof.Rows L2
/-! ### max and min of a tuple of whole numbers -/
theorem maxI : ∀ (xs : List Int) (x : Int), PySem.W.maxOf x xs ∈ x :: xs ∧ ∀ y ∈ x :: xs, y ≤ PySem.W.maxOf x xs
  | [], x => ⟨List.mem_cons_self, fun y h => by cases List.mem_singleton.mp h; exact Int.le_refl _⟩
  | z :: r, x => by
    have lt : PySem.W.DatumOrd.lt x z = decide (x < z) := rfl
    have e : PySem.W.maxOf x (z :: r) = PySem.W.maxOf (if PySem.W.DatumOrd.lt x z = true then z else x) r := rfl
    rw [e, lt]
    by_cases h : x < z
    · rw [if_pos (decide_eq_true h)]
      obtain ⟨a, b⟩ := maxI r z
      refine ⟨List.mem_cons_of_mem _ a, fun y hy => ?_⟩
      have hz := b z List.mem_cons_self
      rcases List.mem_cons.mp
            hy with rfl | hy
      · omega
      · exact b y hy
    · rw [if_neg (by simpa using h)]
      obtain ⟨a, b⟩ := maxI r x
      refine ⟨?_, fun y hy => ?_⟩
      · rcases List.mem_cons.mp a with a | a
        · rw [a]; exact List.mem_cons_self
        · exact List.mem_cons_of_mem _ (List.mem_cons_of_mem _ a)
      · have hx := b x List.mem_cons_self
        rcases List.mem_cons.mp
              hy with rfl | hy
        · exact hx
        · rcases List.mem_cons.mp
              hy with rfl | hy
          · omega
          · exact b y (List.mem_cons_of_mem _ hy)
def rMaxT (K : PySem.W.Frag) : List V → Hp → VK → Prop := fun vs H Q => ∃ (a : Addr) (ns : List Int), vs = [V.ref a] ∧ SqT K H a (ns.map V.int) ∧ 0 < ns.length ∧ ∀ m, m ∈ ns → (∀ y, y ∈ ns → y ≤ m) → Q (.int m) H
theorem cr_maxT {X : Cx} (hc : X.calm = true) (hu : X.A.units + 1 < cLine) : CallR X (.builtin "max") (rMaxT X.K) := by
  intro pins s σ
        H vs us Q I r h
  obtain ⟨a, ns, rfl,
        hs, hne, q⟩ := h
  obtain ⟨its, rv, hl, _⟩ := I.tuple hs
  rw [Vals.ref1 r]
  cases ns with
  | nil => simp at hne
  | cons n ms =>
    obtain ⟨m1, m2⟩ := maxI ms n
    refine PySem.W.max_tuple_datum (α := Int) (x := n) (xs := ms) (I.ok.hd hc) (show s.heap.IsTuple a its.toArray from hl) (by simpa using PySem.W.HoldAll.of_ints rv.ints) hu fun i v h' tk _ hv hk => ?_
    obtain ⟨as, hv⟩ := hv
    cases hv
    exact ⟨.int _, H, I.kept hk, ⟨_, rfl⟩, q _ m1 m2⟩
theorem wMaxT {K : PySem.W.Frag} {H : Hp} {Q : VK} {a : Addr} {ns : List Int} (s : SqT K H a (ns.map V.int)) (n : 0 < ns.length) (h : ∀ m, m ∈ ns → (∀ y, y ∈ ns → y ≤ m) → Q (.int m) H) : rMaxT K [.ref a] H Q := ⟨a, ns, rfl, s, n, h⟩
/-! ### slices and sums of tuples, any -/
theorem opCatA {X : Cx} : OpR X (binaryOp .Add) (rCatA X.K) := op_catA
section
variable {K : PySem.W.Frag} {H : Hp} {L : List En} {a b : Addr} {v : V} {xs ys : List V} {lo hi : Option Int} {Q : VK}
theorem wSlTu (m : En.ob a (.tup xs) ∈ L) (F : Fx H L) (k : ∀ p H' L1, L.Sublist L1 → En.ob p (.tup (cutV xs lo hi)) ∈ L1 → Fx H' L1 → Q (.ref p) H') : rOrS (rSlL K) (rSlA K) (.ref a) lo hi H Q := by
  refine .inr ⟨_, xs, rfl, F.tup m, fun e => ?_, fun _ => ?_⟩
  · refine k a H L (.refl _) ?_ F
    rw [cut_whole e]
    exact m
  · exact wNewF F fun p H' F' => k p H' _ (.cons _ (.refl _)) List.mem_cons_self F'
theorem wSlLi (m : En.ob a (.lst xs) ∈ L) (F : Fx H L) (k : ∀ p H', Fx H' (.ob p (.lst (cutV xs lo hi)) :: L) → Q (.ref p) H') : rOrS (rSlL K) (rSlA K) (.ref a) lo hi H Q :=
  .inl ⟨_, xs, rfl, F.lst m, wNewF F k⟩
theorem wCatA (m : En.ob a (.tup xs) ∈ L) (m' : En.ob b (.tup ys) ∈ L) (l : xs.length + ys.length ≤ 1000000) (F : Fx H L) (k : ∀ p H' L1, L.Sublist L1 → En.ob p (.tup (xs ++ ys)) ∈ L1 → Fx H' L1 → Q (.ref p) H') : rCatA K (.ref a) (.ref b) H Q := by
  refine ⟨a, b, xs, ys, rfl, rfl, F.tup m, F.tup m', Nat.le_trans l line_big, fun e => ?_, fun e e' => ?_, fun _ _ => ?_⟩
  · subst e
    exact k b H L (.refl _) m' F
  · subst e'
    exact k a H L (.refl _) (by rw [List.append_nil]; exact m) F
  · exact wNewF F fun p H' F' => k p H' _ (.cons _ (.refl _)) List.mem_cons_self F'
theorem wListSq (hq : SeqIs L v (some xs)) (F : Fx H L) (k : ∀ p H', Fx H' (.ob p (.lst xs) :: L) → Q (.ref p) H') : rList K [v] H Q := by
  cases hq with
  | lst m => exact wListL (F.lst m) F k
  | tup m => exact wListT (F.tup m) F k
end
theorem units1 {n : Nat} {A : Around} (hr : Room (n + 1) A) : A.units + 1 < cLine := by have := hr.units; omega
theorem sum_rep (b : Int) : ∀ n : Nat, (List.replicate n b).sum = n * b
  | 0 => by simp
  | n + 1 => by rw [List.replicate_succ, List.sum_cons, sum_rep b n, Int.natCast_add, Int.add_mul]; omega
/-- what is no list, past a list -/
theorem mem_skip {L : List En} {a b : Addr} {o : HO} {xs : List V} (h : En.ob a o ∈ (En.ob b (.lst xs) :: L)) (n : ∀ ys, o ≠ .lst ys) : En.ob a o ∈ L := by
  rcases List.mem_cons.mp h with h | h
  · injection h with _ h
    exact absurd h (n xs)
  · exact h
theorem nodup_le : ∀ {l m : List Int}, l.Nodup → (∀ x ∈ l, x ∈ m) → l.length ≤ m.length
  | [], _, _, _ =>
        Nat.zero_le _
  | a :: l, m, hn, h => by
    have hm := h a List.mem_cons_self
    have h1 := nodup_le (l := l) (m := m.erase a) (List.nodup_cons.mp hn).2 fun x hx => (List.mem_erase_of_ne (fun e : x = a => (List.nodup_cons.mp hn).1 (by rw [← e]; exact hx))).mpr (h x (List.mem_cons_of_mem _ hx))
    rw [List.length_erase_of_mem hm] at h1
    have := List.length_pos_of_mem hm
    rw [List.length_cons]
    omega
end Z

set_option Elab.async false
set_option linter.all false
set_option maxRecDepth 100000
set_option maxHeartbeats 2000500
/-! ### dicts with numbers as keys -/
namespace Z
open PySem PySem.Spec
      PyProof.Rows L2
section
variable {X : Cx} {K : PySem.W.Frag} {H : Hp} {L : List En} {a : Addr} {Q : VK} {kvs : List (Key × V)}
theorem hu1 {X : Cx} {k : Nat} (hr : Room k X.A) : X.A.units + 1 < cLine := by have := hr.un; omega
def rInD : R2 := fun x y H Q => ∃ a kvs k, y = .ref a ∧ x = kV k ∧ H a = some (.dK kvs) ∧ Q (.bl (valV kvs k).isSome) H
theorem op_inD (hu : X.A.units + 1 < cLine) : OpR X (compareOp .In) rInD := by
  intro pins s σ H x
        y v u Q I rx ry h
  obtain ⟨a, kvs, k, rfl, rfl, e, q⟩ := h
  obtain rfl : u =
        Value.ref a := ry
  exact d_in hu I (DGet.k e) rx fun s3 I3 => ⟨.bl _, H, I3, rfl, q⟩
theorem wInD {n : Int} (F : Fx H L) (m : En.ob a (.dK kvs) ∈ L) (h : Q (.bl (valV kvs (.inl n)).isSome) H) : rInD (.int n) (.ref a) H Q :=
  ⟨a, kvs, .inl n, rfl, rfl, F.get m, h⟩
/-- the dict of a comprehension, at its turn i -/
def DcP (D : Addr) (R : Nat → List (Key × V) → List En → Prop) (i : Nat) (H : Hp) : Prop := ∃ kvs L, Fx H (.ob D (.dK kvs) :: L) ∧ R i kvs L
def DcPut (D : Addr) (R : Nat → List (Key × V) → List En → Prop) (i : Nat) (y z : V) (H : Hp) : Prop :=
  ∃ kvs k, y = kV k ∧ H D = some (.dK kvs) ∧ kvs.length < sizeLine ∧ DcP D R (i + 1) (upd H D (.dK (putK kvs k z)))
theorem dcPut {D : Addr} {R : Nat → List (Key × V) → List En → Prop} {i : Nat} {n : Int} {z : V} (F : Fx H (.ob D (.dK kvs) :: L)) (l : kvs.length < sizeLine) (r : R (i + 1) (putK kvs (.inl n) z) L) : DcPut D R i (.int n) z H :=
  ⟨kvs, .inl n, rfl, F.get List.mem_cons_self, l, _, L, F.put .head, r⟩
variable {J : It} {n : Nat} {G : Hp → Prop} {Y : Nat → Hp → V → Hp → Prop} {g : TG} {tt : TT} {tk tv : TE} {vs : List Nat} {σ : L2.St}
theorem wDc {wi : TI} (h : wi σ H fun J H1 => ∀ D, H1 D = none → ∃ W : Nat → Nat → Hp → Prop, (∃ m, W 0 m (upd H1 D (.dK []))) ∧ ∀ i m H, W i m H →
  (J.stop i H ∧ Q (.ref D) H) ∨ (J.go i H ∧ ∃ Nx : Hp → Prop, (∀ H', Nx H' → ∃ m', m' < m ∧ W (i + 1) m' H')
        ∧ ∀ x H', J.yld i H x H' → g x (wipe σ vs) H' fun σ2 H2 => wipe σ2 vs = wipe σ vs ∧ tt σ2 H2 fun b H3 =>
    if b = true then tk σ2 H3 fun y H4 => tv σ2 H4 fun z H5 => ∃ kvs k, y = kV k ∧ H5 D = some (.dK kvs) ∧ kvs.length < sizeLine ∧ Nx (upd H5 D (.dK (putK kvs k z))) else Nx H3)) : tDc wi g tt tk tv vs σ H Q := h
theorem wDcW {QD : Addr → Hp → Prop} (w : Walk J n G Y) (F : Fx H L) (R : Nat → List (Key × V) → List En → Prop) (h0 : R 0 [] L) (hG : ∀ i kvs L' D H', R i kvs L' → Fx H' (.ob D (.dK kvs) :: L') → G H')
    (hs : ∀ i x D H' H'' kvs L', i < n → R i kvs L' → Fx H' (.ob D (.dK kvs) :: L') → Y i H' x H'' → g x (wipe σ vs) H'' fun σ2 H2 => wipe σ2 vs = wipe σ vs ∧ tt σ2 H2 fun b H3 =>
      if b = true then tk σ2 H3 fun y H4 => tv σ2 H4 fun z H5 => DcPut D R i y z H5 else DcP D R (i + 1) H3)
    (hd : ∀ D kvs L' H', Fx H' (.ob D (.dK kvs) :: L') → R n kvs L' → QD D H') :
    ∀ D, H D = none → ∃ W : Nat → Nat → Hp → Prop, (∃ m, W 0 m (upd H D (.dK []))) ∧ ∀ i m H, W i m H →
  (J.stop i H ∧ QD D H) ∨ (J.go i H ∧ ∃ Nx : Hp → Prop, (∀ H', Nx H' → ∃ m', m' < m ∧ W (i + 1) m' H') ∧ ∀ x H', J.yld i H x H' → g x (wipe σ vs) H' fun σ2 H2 => wipe σ2 vs = wipe σ vs ∧ tt σ2 H2 fun b H3 =>
    if b = true then tk σ2 H3 fun y H4 => tv σ2 H4 fun z H5 => ∃ kvs k, y = kV k ∧ H5 D = some
          (.dK kvs) ∧ kvs.length < sizeLine ∧ Nx (upd H5 D (.dK (putK kvs k z))) else Nx H3) := by
  intro D hD
  refine ⟨fun i m H => m = n - i ∧ i ≤ n ∧ DcP D R i H, ⟨n, by simp, Nat.zero_le _, [], L, F.new hD, h0⟩, ?_⟩
  rintro i m H ⟨rfl, hi, kvs, L', F', r⟩
  have q := hG i kvs L' D H r F'
  by_cases hlt : i < n
  · exact .inr ⟨w.goes i H hlt q, DcP D R (i + 1), fun H' p' => ⟨n - (i + 1), by omega, rfl, hlt, p'⟩, fun x H' y => hs i x D H H' kvs L' hlt r F' (w.yields i H x H' hlt q y)⟩
  · have e : i = n := by omega
    subst e
    exact .inl ⟨w.stops H q, hd D kvs L' H F' r⟩
end
/-! ### name = {..} on one line, the name a local -/
section
variable {X : Cx}
theorem ps_setDc {i : Nat} {y : Str} {py : Pos} {kx vx tg iter : Expr} {ifs : List Expr} {scope : Scope} {own : List (Str × Nat)} {pos spos : Pos} {wi : TI} {g : TG} {tt : TT} {tk tv : TE} (hc : X.calm = true) (hN : X.N.Nodup) (hy : X.N[i]? = some y) (hyl : X.env.scope.names.lookup y = some .local)
    (hsw : swapsWith (.DictComp kx vx [⟨tg, iter, ifs, 0⟩] scope pos) (some (.Name y py)) spos.line X.env = pure true) (hi : PI X tg iter wi) (ok : BlkOk X.N X.env.scope scope own)
    (hg : ∀ (s : Shared) (H : Hp) (C : Addr) (cl : List (Str × Addr)) (fp : List Addr), PG (X.blk s H scope (compEnvC scope cl C X.env) fp) tg g)
          (ht : ∀ (s : Shared) (H : Hp) (C : Addr) (cl : List (Str × Addr)) (fp : List Addr), PTs (X.blk s H scope (compEnvC scope cl C X.env) fp) ifs tt)
    (hk : ∀ (s : Shared) (H : Hp) (C : Addr) (cl : List (Str × Addr)) (fp :
          List Addr), PE (X.blk s H scope (compEnvC scope cl C X.env) fp) kx tk)
    (he : ∀ (s : Shared) (H : Hp) (C : Addr) (cl : List (Str × Addr)) (fp : List Addr), PE (X.blk s H scope
          (compEnvC scope cl C X.env) fp) vx tv) (hs : ∀ x, foldedSetIterable iter X.env x = pure x := by intro _; rfl) :
    PS X (.Assign [.Name y py] (.DictComp kx vx [⟨tg, iter, ifs, 0⟩] scope pos) spos) (tAsg (tDc wi g tt tk tv (own.map (·.2))) (gName i)) := by
  refine ⟨fun pins
        s σ H D I h => ?_⟩
  rw [exec_Assign_Name_used
        _ _ _ _ hsw]
  refine wpAny_bind
        (wpAny_standAt (wpAny_bind ?_))
  show wpAny _ X.A (do let _ ← comprehension (.DictComp kx vx [⟨tg, iter, ifs, 0⟩] scope pos) scope X.env (firstIterPos [⟨tg, iter, ifs, 0⟩] pos) newDict false (eval iter X.env) (some (assign (.Name y py) X.env))) _ _ s
  have h : tDc wi g tt tk tv (own.map (·.2)) σ H (fun x H1 => gName i x σ H1 D.nx) := h
  refine wpAny_bind (thn (dc_core (Qf := fun _ s' => SP X pins D .next s') hc hN I hi ok hg ht hk he hs h fun L C s' m H' I' q hn f => ?_) fun _ s' hq => wpAny_pure (wpAny_pure hq))
  show wpAny _ _ (assign (.Name
        y py) X.env (.ref L)) _ _ _
  refine wpAny_assign_Name (store_ok2 (v := V.ref L) I' hN hy
        (.inl hyl) rfl (fun s2 I2 ⟨a, sb, ha⟩ => ?_) (.inr hyl))
  obtain ⟨f0, f1, f2,
        f3, f4, f5⟩ := f
  have haC : C ≠ a := by
    rcases ha with z | z
    · rw [z]; exact f1
    · exact fun e =>
          f4 y a z e.symm
  refine ⟨m, hn.sameBut sb
        haC, fun h3 sb3 => ?_⟩
  exact ⟨_, H', I2.turned (t' := s2.toks) (fun b o
        hb e => (sb3.2 b hb).trans e) f0 f1 f3 f4 f5, q⟩
theorem sw_trueD {kx vx : Expr} {gs : List Comprehension} {scope : Scope} {pos py : Pos} {y : Str} {l : Nat} {env : Env} (hk : env.scope.kind = .function) (hy : env.scope.names.lookup y = some .local) (hl : (py.line == pos.line) = true)
    (ha : (scope.names.any fun (n, k) => n == y && (k == .local || k == .cell)) = false) : swapsWith (.DictComp kx vx gs scope pos) (some (.Name y py)) l env = pure true := by
  have ky : env.kindOf
        y = some .local := hy
  have hb : env.blockKind = .function :=
        by unfold Env.blockKind; rw [hk]; rfl
  unfold swapsWith
  simp only [hb, ky,
        ha, Expr.pos, hl]
  rfl
end
/-! ### the dict of the numbers of a row -/
/-- which numbers are keys -/
def KeysOf (kvs : List (Key × V)) (ns : List Int) : Prop := (∀ k : Int, (valV kvs (.inl k)).isSome = decide (k ∈ ns)) ∧ kvs.length ≤ ns.length
theorem KeysOf.nil : KeysOf [] [] := ⟨fun k => by simp [valV_nil], Nat.le_refl _⟩
theorem KeysOf.snoc {kvs : List (Key × V)} {ns : List Int} {n : Int} {z : V} (h : KeysOf kvs ns) : KeysOf (putK kvs (.inl n) z) (ns ++ [n]) := by
  refine ⟨fun k => ?_, ?_⟩
  · rw [valV_put]
    by_cases e : k = n
    · subst e; simp
    · have e' : ¬ (Sum.inl k : Key) = Sum.inl n := fun h => e (Sum.inl.inj h)
      rw [if_neg e', h.1 k]
      simp [e]
  · have := length_putK kvs (.inl n) z
    have := h.2
    simp only [List.length_append, List.length_cons, List.length_nil]
    omega
section
variable {K : PySem.W.Frag} {H : Hp} {L : List En} {a : V} {xs : List V} {Q : VK} {g : TG} {tt : TT} {tk tv : TE} {vs : List Nat} {σ : L2.St}
theorem wDcS {QD : Addr → Hp → Prop} (hq : SeqIs L a (some xs)) (F : Fx H L) (R : Nat → List (Key × V) → List En → Prop) (h0 : R 0 [] L) (keep : ∀ i kvs L', R i kvs L' → ∀ e ∈ L, e ∈ L')
    (hs : ∀ i x D H' kvs L', xs[i]? = some x → R i kvs L' → Fx H' (.ob D (.dK kvs) :: L') → g x (wipe σ vs) H' fun σ2 H2 => wipe σ2 vs = wipe σ vs ∧ tt σ2 H2 fun b H3 =>
      if b = true then tk σ2 H3 fun y H4 => tv σ2 H4 fun z H5 => DcPut D R i y z H5 else DcP D R (i + 1) H3)
    (hd : ∀ D kvs L' H', Fx H' (.ob D (.dK kvs) :: L') → R xs.length kvs L' → QD D H') :
    GoS K a H fun J H1 => ∀ D, H1 D = none → ∃ W : Nat → Nat → Hp → Prop, (∃ m, W 0 m (upd H1 D (.dK []))) ∧ ∀ i m H, W i m H →
  (J.stop i H ∧ QD D H) ∨ (J.go i H ∧ ∃ Nx : Hp → Prop, (∀ H', Nx H' → ∃ m', m' < m ∧ W (i + 1) m' H') ∧ ∀ x H', J.yld i H x H' → g x (wipe σ vs) H' fun σ2 H2 => wipe σ2 vs = wipe σ vs ∧ tt σ2 H2 fun b H3 =>
    if b = true then tk σ2 H3 fun y H4 => tv σ2 H4 fun z H5 => ∃ kvs k, y = kV k ∧ H5 D = some
          (.dK kvs) ∧ kvs.length < sizeLine ∧ Nx (upd H5 D (.dK (putK kvs k z))) else Nx H3) := by
  cases hq with
  | lst m =>
    refine wGoSL (F.lst m) (wDcW (walk_list (K := K) (xs := xs)) F R h0 (fun i kvs L' D H' r F' => F'.lst (List.mem_cons_of_mem _ (keep _ _ _ r _ m))) ?_ hd)
    rintro i x D H' H'' kvs L' _ r F' ⟨rfl, e⟩
    exact hs i x D H'' kvs L' e r F'
  | tup m =>
    refine wGoST (F.tup m) (wDcW (walk_tup (K := K) (xs := xs)) F R h0 (fun i kvs L' D H' r F' => F'.tup (List.mem_cons_of_mem _ (keep _ _ _ r _ m))) ?_ hd)
    rintro i x D H' H'' kvs L' _ r F' ⟨rfl, e⟩
    exact hs i x D H'' kvs L' e r F'
end
theorem KeysOf.snocT {kvs : List (Key × V)} {ns : List Int} {i : Nat} {n : Int} {z : V} (h : KeysOf kvs (ns.take i)) (e : ns[i]? = some n) : KeysOf (putK kvs (.inl n) z) (ns.take (i + 1)) := by
  have := h.snoc (n := n) (z := z)
  rw [List.take_add_one, e]
  exact this
theorem KeysOf.low {kvs : List (Key × V)} {ns : List Int} {i m : Nat} (h : KeysOf kvs (ns.take i)) (l : ns.length ≤ m) (hm : m < 1000000) : kvs.length < sizeLine := by
  have := h.2
  rw [List.length_take] at this
  have := line_big
  omega
theorem wEqBB {K : PySem.W.Frag} {H : Hp} {Q : VK} {x y : Bool} (h : Q (.bl (x == y)) H) : rOr rEq (rEqD K) (.bl x) (.bl y) H Q := .inl ⟨rfl, by rw [dec_bl]; exact h⟩
theorem wNeBB {K : PySem.W.Frag} {H : Hp} {Q : VK} {x y : Bool} (h : Q (.bl (!(x == y))) H) : rOr rNe (rNeD K) (.bl x) (.bl y) H Q := .inl ⟨rfl, by rw [dec_bl]; exact h⟩
theorem filt_take {ns : List Int} {i : Nat} {u : Int} (e : ns[i]? = some u) (q : Int → Bool) : (ns.take (i + 1)).filter q = (ns.take i).filter q ++ if q u = true then [u] else [] := by
  rw [List.take_add_one, e, List.filter_append]
  congr 1
  cases h : q u <;> simp [h]
section
variable {K : PySem.W.Frag} {H : Hp} {L : List En} {a : V} {xs : List V} {Q : VK} {g : TG} {tt : TT} {te : TE} {vs : List Nat} {σ : L2.St}
theorem wLcE {QD : Addr → Hp → Prop} (hq : SeqIs L a (some xs)) (F : Fx H L) (R : Nat → List V → List En → Prop) (h0 : R 0 [] L) (keep : ∀ i acc L', R i acc L' → ∀ e ∈ L, e ∈ L')
    (hs : ∀ i x T D H' acc L', xs[i]? = some x → R i acc L' → Fx H' (.ob T (.tup [.int (i : Nat), x]) :: .ob D (.lst acc) :: L') → g (.ref T) (wipe σ vs) H' fun σ2 H2 => wipe σ2 vs = wipe σ vs ∧ tt σ2 H2 fun b H3 =>
      if b = true then te σ2 H3 fun y H4 => LcPut D R i y H4 else LcP D R (i + 1) H3)
    (hd : ∀ D acc L' H', Fx H' (.ob D (.lst acc) :: L') → R xs.length acc L' → QD D H') :
    GoE K [a] H fun J H1 => ∀ D, H1 D = none → ∃ W : Nat → Nat → Hp → Prop, (∃ m, W 0 m (upd H1 D (.lst []))) ∧ ∀ i m H, W i m H →
  (J.stop i H ∧ QD D H) ∨ (J.go i H ∧ ∃ Nx : Hp → Prop, (∀ H', Nx H' → ∃ m', m' < m ∧ W (i + 1) m' H') ∧ ∀ x H', J.yld i H x H' → g x (wipe σ vs) H' fun σ2 H2 => wipe σ2 vs = wipe σ vs ∧ tt σ2 H2 fun b H3 =>
    if b = true then te σ2 H3 fun y H4 => ∃ acc, H4 D = some (.lst acc) ∧
          acc.length < sizeLine ∧ Nx (upd H4 D (.lst (acc ++ [y]))) else Nx H3) := by
  cases hq with
  | @lst p _ m =>
    refine ⟨p, rfl, .inl ⟨xs, F.lst m, wLcW (walk_enum (K := K) (xs := xs)) F R h0 (fun i acc L' D H' r F' => F'.lst (List.mem_cons_of_mem _ (keep _ _ _ r _ m))) ?_ hd⟩⟩
    rintro i x D H' H'' acc L' _ r F' ⟨T, u, v, rfl, hT, rfl, e1, e2⟩
    cases e1
    exact hs i v T D _ acc L' e2 r (F'.new hT)
  | @tup p _ m =>
    refine ⟨p, rfl, .inr ⟨xs, F.tup m, wLcW (walk_enumT (K := K) (xs := xs)) F R h0 (fun i acc L' D H' r F' => F'.tup (List.mem_cons_of_mem _ (keep _ _ _ r _ m))) ?_ hd⟩⟩
    rintro i x D H' H'' acc L' _ r F' ⟨T, u, v, rfl, hT, rfl, e1, e2⟩
    cases e1
    exact hs i v T D _ acc L' e2 r (F'.new hT)
end
/-! ### lists of truths, compared -/
section
variable {K : PySem.W.Frag} {H : Hp} {L : List En} {a b : Addr} {xs ys : List Bool} {Q : VK}
theorem DtA.bls : ∀ xs : List Bool, DtA L (xs.map V.bl) (xs.map PyData.bool)
  | [] => .nil
  | x :: r => .cons (.bl x) (DtA.bls r)
theorem ShA.bls (xs : List Bool) : ShA (xs.map PyData.bool) 0 := ShA.map fun x _ => ⟨rfl, Nat.le_refl _⟩
theorem eqv_bls : ∀ xs ys : List Bool, PyData.eqvAll (xs.map PyData.bool) (ys.map PyData.bool) = decide (xs = ys)
  | [], [] => rfl
  | [], _ :: _ => rfl
  | _ :: _, [] => rfl
  | x :: xs, y :: ys => by
    show (PyData.eqv (.bool x) (.bool y) && PyData.eqvAll (xs.map PyData.bool) (ys.map PyData.bool)) = _
    rw [eqv_bls xs ys]
    have e : PyData.eqv (.bool x) (.bool y) = (x == y) := by cases x <;> cases y <;> rfl
    rw [e]
    cases x <;> cases y <;> simp
theorem wEqBL (F : Fx H L) (m : En.ob a (.lst (xs.map V.bl)) ∈ L) (n : En.ob b (.lst (ys.map V.bl)) ∈ L) (h : Q (.bl (decide (xs = ys))) H) : rOr rEq (rEqD K) (.ref a) (.ref b) H Q := by
  refine wEqD F (.lst m (DtA.bls xs)) (.lst n (DtA.bls ys)) (Sh.lst (ShA.bls xs)).ok (Sh.lst (ShA.bls ys)).ok ?_
  have e : PyData.eqv (.list (xs.map PyData.bool)) (.list (ys.map PyData.bool)) = decide (xs = ys) := eqv_bls xs ys
  rw [e]
  exact h
end
/-! ### x in d, an own __contains__ -/
structure OwnInF (K : PySem.W.Frag) (C f : Addr) : Prop where
  con : PySem.W.findIn K (.ref C) "__contains__" = some (some (.ref f))
  fn : PySem.W.typeIn K (.ref f) = some (.type "function")
def rInOwn (K : PySem.W.Frag) (C : Addr) (sp : Sp) : R2 := fun x y H Q => ∃ a dx fs, y = .ref a ∧ H a = some (.ins C dx fs) ∧ sp [.ref a, x] H (fun v H' => ∃ b : Bool, v = .bl b ∧ Q (.bl b) H') E0
section
variable {prog : Program} {w : World} {A : Around} {E : Value → Shared → Prop} {s : Shared} {K : PySem.W.Frag} {x C f : Addr} {ox : Obj} {od : Option Obj} {u : Value}
theorem contains_fn {Q : Value → Shared → Prop} (X : K.In s.heap) (I : PySem.W.InstAt s.heap x ox C od) (hs : PySem.W.findIn K (.ref C) "__contains__" = some (some (.ref f))) (hf : PySem.W.typeIn K (.ref f) = some (.type "function"))
    (h : wpAny (model prog w) A (call (.ref f) [.ref x, u]) (fun v s' => ∃ b, v = .bool b ∧ Q (.bool b) s') E s) : wpAny (model prog w) A (compareOp .In u (.ref x)) Q E s := by
  show wpAny _ _ (do return .bool (← contains (.ref x) u)) Q E s
  refine wpAny_bind ?_
  unfold contains
  refine wpAny_holding ?_
  refine wpAny_bind (wpAny_bind (I.type.here ((PySem.W.looks_findIn X hs).here ?_)))
  show wpAny _ _ (if (some (Value.ref f) == some Value.none) = true then _ else _) _ E s
  rw [if_neg (show ¬ ((some (Value.ref f) == some Value.none) = true) from Bool.false_ne_true)]
  refine wpAny_bind ?_
  unfold callSpecialUnlessNone?
  refine wpAny_bind (wpAny_bind (I.type.here ((PySem.W.looks_findIn X hs).here (wpAny_holding (wpAny_bind ((PySem.W.bind_fn X _ hf).here ?_))))))
  show wpAny _ _ (if (Value.ref f == Value.none) = true then _ else _) _ E s
  rw [if_neg (show ¬ ((Value.ref f ==
        Value.none) = true) from Bool.false_ne_true)]
  refine wpAny_bind (wpAny_mono h (fun v s' z => ?_) fun _ _ e => e)
  obtain ⟨b, rfl, q⟩ := z
  exact wpAny_pure (wpAny_truthy_bool (wpAny_pure q))
end
section
variable {X : Cx} {k : Nat} {C f : Addr} {fd : FuncData} {ps : List Str} {sp : Sp}
theorem op_inOwn (F : FnOk X.prog X.w X.K X.mg X.base CX0 k f fd ps sp) (q : OwnInF X.K C f) (hb : Binds X.K fd ps []) (hr : Room k X.A) : OpR X (compareOp .In) (rInOwn X.K C sp) := by
  intro pins s σ H x
        y v u Q I rx ry h
  obtain ⟨a, dx, fs, rfl, ha, hsp⟩ := h
  obtain rfl : u =
        Value.ref a := ry
  obtain ⟨mA, J, _⟩
        := ins_get I.hok ha
  obtain ⟨od, J, _⟩ := J.look
  refine contains_fn I.kIn J q.con q.fn (wpAny_mono (own_call F hb hr rfl I (show RelV (V.ref a) (Value.ref a) from rfl) rx hsp) (fun v s' z => ?_) fun _ _ e => e)
  obtain ⟨v', H', I', rv, b, eb, hq⟩ := z
  subst eb
  obtain rfl : v = Value.bool b := rv
  exact ⟨b, rfl, .bl b, H', I', rfl, hq⟩
def InO (P : Program) (w : World) (K : PySem.W.Frag) (mg : Str → Option Value) (base : Heap) (C : Addr) (k : Nat) (ps : List Str) (sp : Sp) : Prop := ∃ (f : Addr) (fd : FuncData), OwnInF K C f ∧ Binds K fd ps [] ∧ FnOk P w K mg base CX0 k f fd ps sp
theorem op_inO (O : InO X.prog X.w X.K X.mg X.base C k ps sp) (hr : Room k X.A) : OpR X (compareOp .In) (rInOwn X.K C sp) := by
  obtain ⟨f, fd, q, b, F⟩ := O
  exact op_inOwn F q b hr
theorem wInOwn {K : PySem.W.Frag} {H : Hp} {Q : VK} {a dx : Addr} {x : V} {fs : List (Str × V)} (ha : H a = some (.ins C dx fs)) (h : sp [.ref a, x] H (fun v H' => ∃ b : Bool, v = .bl b ∧ Q (.bl b) H') E0) : rInOwn K C sp x (.ref a) H Q := ⟨a, dx, fs, rfl, ha, h⟩
/-! ### min of three, sorted of any number of numbers, a range from its end -/
def rMin3 : List V → Hp → VK → Prop := fun vs H Q => ∃ i j k : Int, vs = [.int i, .int j, .int k] ∧ Q (.int (min (min i j) k)) H
theorem cr_min3 (hc : X.calm = true) : CallR X (.builtin "min") rMin3 := by
  intro pins s σ
        H vs us Q I r h
  obtain ⟨i, j, k, rfl, q⟩ := h
  refine call_min3Nu hc pins s σ H _ us Q I r ⟨.int i, .int j, .int k, .int (min (min i j) k), rfl, ?_, q⟩
  have two : ∀ a b : Int, nuMin2 (.int a) (.int b) = some (.int (min a b)) := fun a b => by
    show some (if decide (b < a) = true then V.int b else V.int a) = _
    by_cases h : b < a
    · rw [if_pos (decide_eq_true h), Int.min_eq_right (by omega)]
    · rw [if_neg (by simpa using h), Int.min_eq_left (by omega)]
  show (nuMin2 (.int i) (.int j)).bind (fun m => nuMin2 m (.int k)) = _
  rw [two]
  exact two _ _
theorem wMin3 {i j k : Int} {H : Hp} {Q : VK} (h : Q (.int (min (min i j) k)) H) : rMin3 [.int i, .int j, .int k] H Q := ⟨i, j, k, rfl, h⟩
theorem wSortedI {K : PySem.W.Frag} {H : Hp} {L : List En} {Q : VK} {a : Addr} {ns : List Int} (s : SqL K H a (ns.map V.int)) (F : Fx H L)
    (k : ∀ (ns' : List Int) p H', ns'.Perm ns → ns'.Pairwise (· ≤ ·) → Fx H' (.ob p (.lst (ns'.map V.int)) :: L) → Q (.ref p) H') : rSortedI K [.ref a] H Q :=
  ⟨a, ns, rfl, s, fun ns' p hp hs hn => k ns' p _ hp hs (F.new hn)⟩
def GoRev (x : V) (H : Hp) (R : It → Hp → Prop) : Prop := ∃ n : Int, x = .int n ∧ -(2 ^ 62) ≤ (0 : Int) ∧ (0 : Int) < 2 ^ 62 ∧ -(2 ^ 62) ≤ n ∧ n < 2 ^ 62 ∧ R (Itc (0 + (((n - 0).toNat : Nat) : Int) - 1) (-1) (n - 0).toNat) H
theorem wIRevR {σ : L2.St} {H : Hp} {RI : It → Hp → Prop} {ta : TE} (h : ta σ H fun x H1 => GoRev x H1 RI) : iRevR (tRg1 ta) σ H RI := h
theorem wGoRev {n : Int} {H : Hp} {RI : It → Hp → Prop} (h0 : 0 ≤ n) (h1 : n < 2 ^ 62) (h : RI (Itc (n - 1) (-1) n.toNat) H) : GoRev (.int n) H RI := by
  refine ⟨n, rfl, by omega, by omega, by omega, h1, ?_⟩
  have e : (0 : Int) + (((n - 0).toNat : Nat) : Int) - 1 = n - 1 := by omega
  have e2 : (n - 0).toNat = n.toNat := by omega
  rw [e, e2]
  exact h
end
end Z
namespace RZ
open PySem L2
def intV (x : V) : Int := match x with | .int i => i | _ => 0
theorem intV_map (ns : List Int) : (ns.map V.int).map intV = ns := by
  rw [List.map_map]
  exact List.map_id'' (fun _ => rfl) ns
theorem putF_len (f : Str) (v : V) : ∀ l : List (Str × V), (putF f v l).length ≤ l.length + 1
  | [] => Nat.le_refl _
  | (g, u) :: r => by
    have ih := putF_len f v r
    unfold putF
    split
    · exact Nat.le_succ _
    · exact Nat.succ_le_succ ih
theorem putF_le {f : Str} {v : V} {l : List (Str × V)} {n : Nat} (h : l.length ≤ n) : (putF f v l).length ≤ n + 1 := Nat.le_trans (putF_len f v l) (Nat.succ_le_succ h)
end RZ

set_option Elab.async false
set_option linter.all false
set_option maxRecDepth 100000
set_option maxHeartbeats 2000500
/-! ### min of a list with default=None -/
namespace PySem
section
variable {prog : Program} {w : World} {A : Around} {R : Result → Shared → Prop} {E : Value → Shared → Prop} {s : Shared} {I S : Addr} {fp wr : List Addr} {n : Nat} {P : Nat → Value → Prop} {St : Nat → Heap → Prop} {d : Value}
theorem zf_args_minD (a v : Value) : argsOk "min" ⟨[a], [(Str.ofString "default", v)]⟩ := by unfold argsOk; kernel_rfl
theorem zcall_kw {id : String} {b : Builtin} {args : List Value} {kw : List (Str × Value)} {Q : Value → Shared → Prop} (hk : builtinKind id = none) (hp : plainId id = true) (hb : entryFor table id = some b) (ha : argsOk id ⟨args, kw⟩)
    (hc : wpAny (model prog w) A.in1 (b ⟨args, kw⟩) (fun fin s' => ∃ c', fin = .again c' ∧ c'.quiet = true ∧ codeAny (model prog w) A c' (fun r s' => ∃ v, r = .ok (.ret v) ∧ Q v s') s') E s) : wpAny (model prog w) A (call (.builtin id) args kw) Q E s := by
  refine wpAny_call
        (codeAny_call_builtin hp hb ?_)
  have fin := wpAny_mono hc (Q' := fun fin s' => match fin with
      | .done f => (match (Except.ok f : Result) with
        | .ok (.ret v) => Q v s'
        | .ok _ => False
        | .error e => E e s')
      | .again c' => c'.quiet = true ∧ codeAny (model prog w) A c' (fun r s' => match r with
        | .ok (.ret v) => Q v s'
        | .ok _ => False
        | .error e => E e s') s') (fun fin s' z => by
    obtain ⟨c', rfl, q, z⟩ := z
    exact ⟨q, codeAny_mono z fun r s2 y => by obtain ⟨v, rfl, y⟩ := y; exact y⟩) fun _ _ e => e
  simp only
        [checkBuiltinCall, hk]
  cases sg : Manifest.signature? id with
  | none => exact wpAny_pure fin
  | some g =>
    have h2 : Bind.checkArgs id g ⟨args, kw⟩ = pure () := by simpa only [argsOk, sg] using ha
    simp only [h2]
    exact wpAny_pure fin
/-- min's loop, at its turn j: nothing found yet, or the best of the first j -/
theorem zmin_loop (W : Walks prog w A.in1 I fp wr n P St) (bt : Nat → Nat → Bool) (hcmp : CmpOf prog w A.in1 .Lt P bt) (hSf : S ∉ fp) : ∀ (k j : Nat) (s : Shared) (its : Array Value) (c : Nat), n - j = k → j ≤ n → St j s.heap →
    ((its = #[] ∧ j = 0) ∨ ∃ vb, its = #[vb, vb] ∧ 0 < j ∧ P (argBest bt (j - 1)) vb) → s.heap.get? S = some { cls := .type "list", dict := none, data := .seq its c, slots := #[] } →
    (∀ v h' tk, (n = 0 ∧ v = d ∨ 0 < n ∧ P (argBest bt (n - 1)) v) → (∀ b o, b ∉ wr → b ≠ S → s.heap.get? b = some o → h'.get? b = some o) → R (.ok (.ret v)) { s with heap := h', toks := tk }) →
    codeAny (model prog w) A (.builtin "min.loop" ⟨[.ref I, .none, .ref S], [("default", d)]⟩) R s := by
  have hSw : S ∉ wr :=
        fun h => hSf (W.sub _ h)
  have nm : (toString "min" ++ toString ".loop" : String) = "min.loop" := by decide
  intro k
  induction k with
  | zero =>
    intro j s its c hk hj hst hits hS hR
    obtain rfl : j = n := by omega
    refine codeAny_builtin
          F.entry_min_loop ?_
    rw [Around.under_plainId
          F.plain_min_loop _]
    show wpAny _ A.in1 (seqItems?
          (.ref S) >>= _) _ _ s
    refine wpAny_bind
          (wpAny_seqItems hS rfl ?_)
    rcases hits with ⟨rfl, rfl⟩ | ⟨vb, rfl, j0, hP⟩
    · show wpAny _ A.in1 (tryCatch (pyNext (.ref I)) _ >>= _) _ _ s
      refine wpAny_bind (wpAny_tryCatch
            (W.done s _ _ hst fun h' tk hk' => ?_))
      show wpAny _ A.in1
            (rule _ >>= _) _ _ _
      refine wpAny_bind
            (wpAny_rule (wpAny_pure ?_))
      exact hR d _ tk (.inl ⟨rfl, rfl⟩) fun b o h1 _ e => hk' b o h1 e
    · show wpAny _ A.in1 (tryCatch (pyNext (.ref I)) _ >>= _) _ _ s
      refine wpAny_bind (wpAny_tryCatch
            (W.done s _ _ hst fun h' tk hk' => ?_))
      have hS' := hk' S _ hSw hS
      show wpAny _ A.in1 (updateSeq
            S (fun _ => #[]) >>= _) _ _ _
      refine wpAny_bind ?_
      refine wpAny_updateSeq hS' rfl
            (wpAny_bind (wpAny_letGo (wpAny_pure ?_)))
      exact hR vb _ tk (.inr ⟨j0, hP⟩) fun b o h1 h2 e => (Heap.get?_update_other _ _ (Ne.symm h2)).trans (hk' b o h1 e)
  | succ k ih =>
    intro j s its c hk hj hst hits hS hR
    have lt : j < n := by omega
    refine codeAny_builtin
          F.entry_min_loop ?_
    rw [Around.under_plainId
          F.plain_min_loop _]
    show wpAny _ A.in1 (seqItems?
          (.ref S) >>= _) _ _ s
    refine wpAny_bind
          (wpAny_seqItems hS rfl ?_)
    rcases hits with ⟨rfl, rfl⟩ | ⟨vb, rfl, j0, hP⟩
    · show wpAny _ A.in1 (tryCatch (pyNext (.ref I)) _ >>= _) _ _ s
      refine wpAny_bind (wpAny_tryCatch (W.item 0 s _ _ lt hst fun v h' tk hPv hst' hk' => ?_))
      have hS' := hk' S _ hSw hS
      show wpAny _ A.in1 (updateSeq S
            (fun _ => #[v, v]) >>= _) _ _ _
      refine wpAny_bind ?_
      refine wpAny_updateSeq
            hS' rfl ?_
      rw [nm]
      refine wpAny_pure ⟨plainId_quiet F.plain_min_loop _, ih 1 _ #[v, v] _ (by omega) (by omega) (W.frame _ _ _ hst' fun b hb o e => (Heap.get?_update_other _ _ (fun h : S = b => hSf (by rw [h]; exact hb))).trans e) (.inr ⟨v, rfl, by omega, hPv⟩) (Heap.get?_update_self _ hS' rfl) fun v2 h2 tk2 q2 f2 => ?_⟩
      exact hR v2 h2 tk2 q2 fun b o h1 h3 e => f2 b o h1 h3 ((Heap.get?_update_other _ _ (Ne.symm h3)).trans (hk' b o h1 e))
    · have ej : j - 1 + 1 = j := by omega
      show wpAny _ A.in1 (tryCatch
            (pyNext (.ref I)) _ >>= _) _ _ s
      refine wpAny_bind (wpAny_tryCatch (W.item j s _ _ lt hst fun v h' tk hPv hst' hk' => ?_))
      have hS' := hk' S _ hSw hS
      show wpAny _ A.in1 (tryCatch (holding [v, v]
            (richCompare .Lt v vb >>= _)) _ >>= _) _ _ _
      refine wpAny_bind (wpAny_tryCatch (wpAny_holding (wpAny_bind (hcmp j (argBest bt (j - 1)) v vb _ _ _ hPv hP ?_))))
      refine wpAny_bind (wpAny_holding
            (wpAny_truthy_bool ?_))
      refine wpAny_bind
            (wpAny_letGo (wpAny_pure ?_))
      have best : argBest bt j = if bt j (argBest bt (j - 1)) = true then j else argBest bt (j - 1) := by
        conv => lhs; rw [← ej]
        rw [argBest, ej]
      cases hb : bt j (argBest bt (j - 1)) with
      | true =>
        rw [hb, if_pos rfl] at best
        simp only [if_true]
        refine wpAny_bind ?_
        refine wpAny_updateSeq hS' rfl
              (wpAny_bind (wpAny_letGo ?_))
        rw [nm]
        refine wpAny_pure ⟨plainId_quiet F.plain_min_loop _, ih (j + 1) _ #[v, v] _ (by omega) (by omega) (W.frame _ _ _ hst' fun b hb o e => (Heap.get?_update_other _ _ (fun h : S = b => hSf (by rw [h]; exact hb))).trans e) (.inr ⟨v, rfl, by omega, by rw [Nat.add_sub_cancel, best]; exact hPv⟩) (Heap.get?_update_self _ hS' rfl) fun v2 h2 tk2 q2 f2 => ?_⟩
        exact hR v2 h2 tk2 q2 fun b o h1 h3 e => f2 b o h1 h3 ((Heap.get?_update_other _ _ (Ne.symm h3)).trans (hk' b o h1 e))
      | false =>
        rw [hb, if_neg Bool.false_ne_true] at best
        simp only [Bool.false_eq_true,
              if_false]
        refine wpAny_bind
              (wpAny_letGo ?_)
        rw [nm]
        refine wpAny_pure ⟨plainId_quiet F.plain_min_loop _, ih (j + 1) _ #[vb, vb] _ (by omega) (by omega) hst' (.inr ⟨vb, rfl, by omega, by rw [Nat.add_sub_cancel, best]; exact hP⟩) hS' fun v2 h2 tk2 q2 f2 => ?_⟩
        exact hR v2 h2 tk2 q2 fun b o h1 h3 e => f2 b o h1 h3 (hk' b o h1 e)
theorem zmin_list {l : Addr} {xs : Array (Int × Tok)} {Q : Value → Shared → Prop} (hh : A.handled = none) (hl : s.heap.IsList l (intItems xs))
    (h : ∀ v h' tk, (xs.size = 0 ∧ v = d ∨ 0 < xs.size ∧ (intItems xs)[argBest (fun i j => decide (numAt xs i < numAt xs j)) (xs.size - 1)]? = some v) → (∀ b o, s.heap.get? b = some o → h'.get? b = some o) → Q v { s with heap := h', toks := tk }) :
    wpAny (model prog w) A (call (.builtin "min")
          [.ref l] [(Str.ofString "default", d)]) Q E s := by
  have nm : (toString "min" ++ toString ".loop" : String) = "min.loop" := by decide
  refine zcall_kw F.kind_min F.plain_min F.entry_min (zf_args_minD _ _) ?_
  show wpAny _ A.in1 (Builtin.Builtins.bindParams "min" ["key",
        "default"] 0 ⟨[], [(Str.ofString "default", d)]⟩ >>= _) _ _ s
  refine wpAny_bind (wpAny_of_eq (show Builtin.Builtins.bindParams "min" ["key", "default"] 0 ⟨[], [(Str.ofString "default", d)]⟩ = pure [none, some d] from by first | rfl | kernel_rfl) ?_)
  refine wpAny_bind
        (wpAny_pure ?_)
  refine wpAny_bind (iter_intList hl fun s₂ e st hfp hlI => ?_)
  subst e
  refine wpAny_bind
        (wpAny_newObj_type ?_)
  have hSf : (s.heap.push { cls := .type "list_iterator", data := .fields #[.ref l, .int 0 0] }).objs.size ∉ [s.heap.objs.size, l] := fun hm => Nat.lt_irrefl _ (hfp _ hm)
  have W := Walks.list (prog := prog) (w := w) (A := A.in1) hh _ l hlI (intItems xs)
  rw [nm]
  refine wpAny_pure ⟨_, rfl, plainId_quiet F.plain_min_loop _, zmin_loop (d := d) W _ (CmpOf.ints_lt (numAt xs) (fun _ _ => intItems_at)) hSf _ 0 _ #[] _ rfl (Nat.zero_le _) (W.frame _ _ _ st fun b _ o e => Heap.get?_push_of_some _ e) (.inl ⟨rfl, rfl⟩) (Heap.get?_push_size _ rfl) fun v h' tk hP hk => ?_⟩
  refine ⟨v, rfl, h v h' tk (by simpa [intItems] using hP) (old_kept fun b o hb e => hk b o hb (Nat.ne_of_lt (Heap.lt_size e)) (Heap.get?_push_of_some _ e))⟩
end
end PySem
namespace Z
open PySem PySem.Spec
      PyProof.Rows L2
section
variable {X : Cx}
def rMinN (K : PySem.W.Frag) : List V → List V → Hp → VK → Prop := fun vs zs H Q => ∃ (a : Addr) (ns : List Int), vs = [V.ref a] ∧ zs = [.non] ∧ SqL K H a (ns.map V.int) ∧ (ns = [] → Q .non H) ∧ ∀ m, m ∈ ns → (∀ y, y ∈ ns → m ≤ y) → Q (.int m) H
theorem cr_minN (hc : X.calm = true) : CallRK X (.builtin "min") [Str.ofString "default"] (rMinN X.K) := by
  intro pins s σ H vs
        zs us ws Q I r rz h
  obtain ⟨a, ns, rfl, rfl, hs, q0, q⟩ := h
  obtain ⟨its, rv,
        hl, _⟩ := I.list hs
  obtain rfl := Vals.ref1 r
  obtain ⟨w1, rfl, e1⟩ : ∃ w1, ws = [w1] ∧ RelV .non w1 := by
    cases rz with
    | cons a b => cases b; exact ⟨_, rfl, a⟩
  obtain rfl : w1 =
        Value.none := e1
  have hi := rv.ints
  obtain ⟨xs, e⟩ :=
        hi.allInts.items
  have hn : numsOf (intItems xs).toList
        = ns := by rw [← e]; exact hi.numsOf
  rw [nums_intItems] at hn
  subst hn
  have hl' := hl.isList
  rw [e] at hl'
  refine zmin_list (I.ok.hd hc) hl' fun v h' tk hv hk => ?_
  rcases hv with ⟨h0, rfl⟩ | ⟨h0, hv⟩
  · refine ⟨.non, H, I.kept hk, rfl, q0 ?_⟩
    have : xs.toList = [] := by
      apply List.eq_nil_of_length_eq_zero
      rw [Array.length_toList]; exact h0
    rw [this]; rfl
  · obtain ⟨t, rfl⟩ := intItems_at hv
    obtain ⟨h1, h2⟩ := argBest_lt
          (numAt xs) (xs.size - 1)
    refine ⟨.int _, H, I.kept hk, ⟨_, rfl⟩, q _ ?_ fun y hy => ?_⟩
    · rw [numAt_eq]; exact PySem.getD_mem (by rw
          [List.length_map, Array.length_toList]; omega)
    · obtain ⟨j, hj, rfl⟩ := mem_getD hy
      rw [List.length_map,
            Array.length_toList] at hj
      rw [← numAt_eq];
            exact h2 j (by omega)
end
section
variable {K : PySem.W.Frag} {H : Hp} {Q : VK} {a : Addr} {ns : List Int} {σ : L2.St}
theorem wCKw {r : List V → List V → Hp → VK → Prop} {t tk : TA} (h : t σ H fun vs H1 => tk σ H1 fun zs H2 => r vs zs H2 Q) : tCKw r t tk σ H Q := h
theorem wMinN (s : SqL K H a (ns.map V.int)) (q0 : ns = [] → Q .non H) (q : ∀ m, m ∈ ns → (∀ y, y ∈ ns → m ≤ y) → Q (.int m) H) : rMinN K [.ref a] [.non] H Q := ⟨a, ns, rfl, rfl, s, q0, q⟩
end
end Z
namespace Z
open PySem PySem.Spec
      PyProof.Rows L2
section
variable {X : Cx}
/-! ### divmod of great numbers -/
def rDvm : List V → Hp → VK → Prop := fun xs H Q => ∃ i j, xs = [.int i, .int j] ∧ CDivP i j ∧ ∀ p, H p = none → Q (.ref p) (upd H p (.tup [.int (i / j), .int (i % j)]))
theorem cr_dvm : CallR X (.builtin "divmod") rDvm := call_divmodW
theorem divp_big {i j : Int} (i0 : 0 ≤ i) (i1 : i < 10 ^ 40) (hj : 0 < j) : CDivP i j := by
  refine divp_ok hj (Nat.le_trans ?_ (Nat.le_add_left _ _))
  have h2 : i.natAbs < 2 ^ 140 := by
    have : (10 : Int) ^ 40 < 2 ^ 140 := by decide
    omega
  unfold Builtin.Int.intBits
  have := PySem.Flt.log2_lt_of (n := i.natAbs) (k := 140) (by decide) h2
  split <;> omega
theorem wDvm {H : Hp} {L : List En} {Q : VK} {i j : Int} (i0 : 0 ≤ i) (i1 : i < 10 ^ 40) (hj : 0 < j) (F : Fx H L) (k : ∀ p H', Fx H' (.ob p (.tup [.int (i / j), .int (i % j)]) :: L) → Q (.ref p) H') : rDvm [.int i, .int j] H Q :=
  ⟨i, j, rfl, divp_big i0 i1 hj, fun p hp => k p _ (F.new hp)⟩
end
end Z
namespace Z
open PySem PySem.Spec
      PyProof.Rows L2
/-! ### x not in d, an own __contains__ -/
def rNotInOwn (K : PySem.W.Frag) (C : Addr) (sp : Sp) : R2 := fun x y H Q => ∃ a dx fs, y = .ref a ∧ H a = some (.ins C dx fs) ∧ sp [.ref a, x] H (fun v H' => ∃ b : Bool, v = .bl b ∧ Q (.bl (!b)) H') E0
section
variable {prog : Program} {w : World} {A : Around} {E : Value → Shared → Prop} {s : Shared} {K : PySem.W.Frag} {x C f : Addr} {ox : Obj} {od : Option Obj} {u : Value}
theorem contains_fnN {Q : Value → Shared → Prop} (X : K.In s.heap) (I : PySem.W.InstAt s.heap x ox C od) (hs : PySem.W.findIn K (.ref C) "__contains__" = some (some (.ref f))) (hf : PySem.W.typeIn K (.ref f) = some (.type "function"))
    (h : wpAny (model prog w) A (call (.ref f) [.ref x, u]) (fun v s' => ∃ b, v = .bool b ∧ Q (.bool (!b)) s') E s) : wpAny (model prog w) A (compareOp .NotIn u (.ref x)) Q E s := by
  show wpAny _ _ (do return .bool (!(← contains (.ref x) u))) Q E s
  refine wpAny_bind ?_
  unfold contains
  refine wpAny_holding ?_
  refine wpAny_bind (wpAny_bind (I.type.here ((PySem.W.looks_findIn X hs).here ?_)))
  show wpAny _ _ (if (some (Value.ref f) == some Value.none) = true then _ else _) _ E s
  rw [if_neg (show ¬ ((some (Value.ref f) == some Value.none) = true) from Bool.false_ne_true)]
  refine wpAny_bind ?_
  unfold callSpecialUnlessNone?
  refine wpAny_bind (wpAny_bind (I.type.here ((PySem.W.looks_findIn X hs).here (wpAny_holding (wpAny_bind ((PySem.W.bind_fn X _ hf).here ?_))))))
  show wpAny _ _ (if (Value.ref f == Value.none) = true then _ else _) _ E s
  rw [if_neg (show ¬ ((Value.ref f ==
        Value.none) = true) from Bool.false_ne_true)]
  refine wpAny_bind (wpAny_mono h (fun v s' z => ?_) fun _ _ e => e)
  obtain ⟨b, rfl, q⟩ := z
  exact wpAny_pure (wpAny_truthy_bool (wpAny_pure q))
end
section
variable {X : Cx} {k : Nat} {C : Addr} {ps : List Str} {sp : Sp}
theorem op_notInO (O : InO X.prog X.w X.K X.mg X.base C k ps sp) (hr : Room k X.A) : OpR X (compareOp .NotIn) (rNotInOwn X.K C sp) := by
  obtain ⟨f, fd, q, hb, F⟩ := O
  intro pins s σ H x
        y v u Q I rx ry h
  obtain ⟨a, dx, fs, rfl, ha, hsp⟩ := h
  obtain rfl : u =
        Value.ref a := ry
  obtain ⟨mA, J, _⟩
        := ins_get I.hok ha
  obtain ⟨od, J, _⟩ := J.look
  refine contains_fnN I.kIn J q.con q.fn (wpAny_mono (own_call F hb hr rfl I (show RelV (V.ref a) (Value.ref a) from rfl) rx hsp) (fun v s' z => ?_) fun _ _ e => e)
  obtain ⟨v', H', I', rv, b, eb, hq⟩ := z
  subst eb
  obtain rfl : v = Value.bool b := rv
  exact ⟨b, rfl, .bl (!b), H', I', rfl, hq⟩
theorem wNotInOwn {K : PySem.W.Frag} {H : Hp} {Q : VK} {a dx : Addr} {x : V} {fs : List (Str × V)} (ha : H a = some (.ins C dx fs)) (h : sp [.ref a, x] H (fun v H' => ∃ b : Bool, v = .bl b ∧ Q (.bl (!b)) H') E0) : rNotInOwn K C sp x (.ref a) H Q := ⟨a, dx, fs, rfl, ha, h⟩
end
end Z
namespace Z
open L2
theorem wIntB {b : Bool} {H : Hp} {Q : VK} (h : Q (.int (if b = true then 1 else 0)) H) : rInt [.bl b] H Q := .inr ⟨b, rfl, h⟩
end Z
namespace Z
open PySem PySem.Spec
      PyProof.Rows L2
/-! ### a try that stands alone in a loop: its reading by name -/
def tTryO (K : PySem.W.Frag) (c : Value) (ts : Addr → Value → Option Addr → TS) (Wout : WX) (tb : WX → TS) : TS := fun D σ H => tb (wOnly K c ts Wout D) D σ H
theorem wTryO {K : PySem.W.Frag} {c : Value} {ts : Addr → Value → Option Addr → TS} {Wout : WX} {tb : WX → TS} {D : Ends} {σ : L2.St} {H : Hp} (h : tb (wOnly K c ts Wout D) D σ H) : tTryO K c ts Wout tb D σ H := h
section
variable {X : Cx} {x : Str} {c : Value} {body suite : List Stmt} {b₀ : Stmt} {np
      pos pos' : Pos} {tb : WX → TS} {ts : Addr → Value → Option Addr → TS} {Wout : WX}
theorem ps_try_onlyN (hs : X.stack = X.env :: X.outer) (hf : X.env.frame = some X.env.locals) (hc : Names X x c) (tk : Takes X Wout)
    (hb : ∀ (W : WX) (pn : List (Addr × Obj)) (xe : Value → Shared → Prop), Takes (X.tr pn xe) W → PassesOwn (model X.prog X.w) X.A X.env xe →
      PSs (X.tr pn xe) body (tb W))
    (hsu : ∀ (a : Addr) (oe : Obj) (cls : Value) (d : Option Addr) (pn : List (Addr × Obj)), Zc cls d oe → (∃ vs, oe.data = .fields vs) →
      PSs (X.suite a ((a, oe) :: pn)) (b₀ :: suite) (ts a cls d)) :
    PS X (.Try body [.ExceptHandler (some (.Name x np)) none (b₀ :: suite) pos'] [] [] pos) (tTryO X.K c ts Wout tb) := ps_try_only hs hf hc tk hb hsu
end
end Z
namespace Z
open PySem PySem.Spec
      PyProof.Rows L2
/-! ### a, b = x, y -/
def tPar2 (i j : Nat) (D : Ends) (vs : List V) (σ : L2.St) (H : Hp) : Prop := ∃ v w, vs = [v, w] ∧ D.nx ((σ.set i (some v)).set j (some w)) H
theorem wPar {i j : Nat} {ta : TA} {D : Ends} {σ : L2.St} {H : Hp} (h : ta σ H fun vs H1 => tPar2 i j D vs σ H1) : tPar i j ta D σ H := h
theorem wPar2 {i j : Nat} {nx bk ct : L2.St → Hp → Prop} {rt : VK} {v w : V} {σ : L2.St} {H : Hp} (h : nx ((σ.set i (some v)).set j (some w)) H) : tPar2 i j ⟨nx, rt, bk, ct⟩ [v, w] σ H := ⟨v, w, rfl, h⟩
end Z

set_option Elab.async false
set_option linter.all false
set_option maxRecDepth 100000
set_option maxHeartbeats 2000500
/-! ### constants of the program, gcd, // of any sign, ratios -/
namespace Z
open PySem PySem.Spec
      PyProof.Rows L2
section
variable {X : Cx} {K : PySem.W.Frag} {H : Hp} {L : List En} {Q : VK}
/-- a tuple of the written part -/
def KT (K : PySem.W.Frag) (a : Addr) (xs : List V) : Prop := ∀ H, SqT K H a xs
def constI : List Value → List Int → Bool
  | [], [] => true
  | .int i _ :: r, j :: q => (i == j) && constI r q
  | _, _ => false
theorem constI_vals : ∀ {vs : List Value} {ns : List Int}, constI vs ns = true → Vals (ns.map V.int) vs
  | [], [], _ => .nil
  | .int i t :: r, j :: q, h => by
    have h : ((i == j) && constI r q) = true := h
    rw [Bool.and_eq_true, beq_iff_eq] at h
    obtain ⟨rfl, h2⟩ := h
    exact .cons (⟨t, rfl⟩ : RelV (.int i) (.int i t)) (constI_vals h2)
theorem KT.of {a : Addr} {od : Option Addr} {its : Array Value} {n : Nat} {sl : Array (Option Value)} {ns : List Int} (h : K.lookup a = some ⟨.type "tuple", od, .seq its n, sl⟩) (c : constI its.toList ns = true) (l : its.size ≤ 100) : KT K a (ns.map V.int) := fun H =>
  .inr ⟨_, its, n, h, rfl, rfl, Nat.le_trans (Nat.le_trans l (by decide)) line_big, constI_vals c⟩
/-- // by a divisor of either sign -/
abbrev rDivA : R2 := rI (fun _ j => j ≠ 0 ∧ j.natAbs.log2 < 9000) fun i j => .int (i.fdiv j)
theorem zDivA : OpR X (binaryOp .FloorDiv) rDivA := opI fun i j _ _ _ _ _ hc q => floordiv_int hc.1 q (.inl (PyProof.noPylong_of_log2 hc.2))
theorem wDivA {i j : Int} (h0 : j ≠ 0) (h9 : j.natAbs.log2 < 9000) (h : Q (.int (i.fdiv j)) H) : rDivA (.int i) (.int j) H Q := ⟨i, j, rfl, rfl, ⟨h0, h9⟩, h⟩
theorem wGcd {a b : Int} (h : Q (.int ((Nat.gcd a.natAbs b.natAbs : Nat) : Int)) H) : rGcd [.int a, .int b] H Q := ⟨a, b, rfl, h⟩
/-- v is the ratio a / b -/
def Rt (K : PySem.W.Frag) (L : List En) (v : V) (a b : Int) : Prop := ∃ p, v = .ref p ∧ (En.ob p (.tup [.int a, .int b]) ∈ L ∨ KT K p [.int a, .int b])
theorem Rt.sq {v : V} {a b : Int} (h : Rt K L v a b) (F : Fx H L) : ∃ p, v = .ref p ∧ SqT K H p [.int a, .int b] := by
  obtain ⟨p, rfl, h | h⟩ := h
  · exact ⟨p, rfl, F.tup h⟩
  · exact ⟨p, rfl, h H⟩
theorem Rt.mono {L' : List En} {v : V} {a b : Int} (h : Rt K L v a b) (s : ∀ e ∈ L, e ∈ L') : Rt K L' v a b := let ⟨p, e, h⟩ := h; ⟨p, e, h.imp (s _) id⟩
theorem Rt.le {L' : List En} {v : V} {a b : Int} (h : Rt K L v a b) (s : L.Sublist L') : Rt K L' v a b := h.mono fun _ m => s.subset m
theorem Rt.head {p : Addr} {a b : Int} : Rt K (.ob p (.tup [.int a, .int b]) :: L) (.ref p) a b := ⟨p, rfl, .inl (.head _)⟩
end
end Z
namespace RZ
/-! ### lowest terms -/
/-- what a / b is divided by -/
def shr (t b : Int) : Int := if b < 0 then -((Nat.gcd t.natAbs b.natAbs : Nat) : Int) else ((Nat.gcd t.natAbs b.natAbs : Nat) : Int)
def lowT (t b : Int) : Int := t.fdiv (shr t b)
def lowB (t b : Int) : Int := b.fdiv (shr t b)
theorem shr_abs (t b : Int) : (shr t b).natAbs = Nat.gcd t.natAbs b.natAbs := by unfold shr; split <;> omega
theorem shr_ne {t b : Int} (hb : b ≠ 0) : shr t b ≠ 0 := by
  have : 0 < Nat.gcd t.natAbs b.natAbs := Nat.gcd_pos_of_pos_right _ (by omega)
  unfold shr
  split <;> omega
theorem low_spec {t b : Int} (hb : b ≠ 0) : t = shr t b * lowT t b ∧ b = shr t b * lowB t b ∧ 1 ≤ lowB t b ∧ Nat.gcd (lowT t b).natAbs (lowB t b).natAbs = 1 ∧ (lowT t b).natAbs ≤ t.natAbs ∧ (lowB t b).natAbs ≤ b.natAbs := by
  have s0 := shr_ne (t := t) hb
  have sa := shr_abs t b
  have d1 : shr t b ∣ t := Int.natAbs_dvd_natAbs.mp (by rw [sa]; exact Nat.gcd_dvd_left _ _)
  have d2 : shr t b ∣ b := Int.natAbs_dvd_natAbs.mp (by rw [sa]; exact Nat.gcd_dvd_right _ _)
  obtain ⟨t', ht⟩ := d1
  obtain ⟨b', hb'⟩ := d2
  have e1 : lowT t b = t' := by unfold lowT; conv => lhs; arg 1; rw [ht]
                                exact Int.mul_fdiv_cancel_left _ s0
  have e2 : lowB t b = b' := by unfold lowB; conv => lhs; arg 1; rw [hb']
                                exact Int.mul_fdiv_cancel_left _ s0
  rw [e1, e2]
  have g0 : 0 < Nat.gcd t.natAbs b.natAbs := Nat.gcd_pos_of_pos_right _ (by omega)
  have n1 : t.natAbs = Nat.gcd t.natAbs b.natAbs * t'.natAbs := by rw [← sa, ← Int.natAbs_mul, ← ht]
  have n2 : b.natAbs = Nat.gcd t.natAbs b.natAbs * b'.natAbs := by rw [← sa, ← Int.natAbs_mul, ← hb']
  refine ⟨ht, hb', ?_, ?_, ?_, ?_⟩
  · have hne : b' ≠ 0 := by rintro rfl; rw [Int.mul_zero] at hb'; exact hb hb'
    by_cases c : b < 0
    · have hs : shr t b < 0 := by unfold shr; rw [if_pos c]; omega
      by_cases c2 : b' < 0
      · have := Int.mul_pos_of_neg_of_neg hs c2
        omega
      · omega
    · have hs : 0 < shr t b := by unfold shr; rw [if_neg c]; omega
      by_cases c2 : b' < 0
      · have := Int.mul_neg_of_pos_of_neg hs c2
        omega
      · omega
  · have := Nat.gcd_mul_left (Nat.gcd t.natAbs b.natAbs) t'.natAbs b'.natAbs
    rw [← n1, ← n2] at this
    exact (Nat.eq_of_mul_eq_mul_left g0 (by rw [Nat.mul_one]; exact this.symm))
  · rw [n1]; exact Nat.le_mul_of_pos_left _ g0
  · rw [n2]; exact Nat.le_mul_of_pos_left _ g0
/-- at most k bits -/
def Sz (k : Nat) (a : Int) : Prop := a.natAbs < 2 ^ k
theorem Sz.mono {k l : Nat} {a : Int} (h : Sz k a) (hl : k ≤ l) : Sz l a := Nat.lt_of_lt_of_le h (Nat.pow_le_pow_right (by decide) hl)
theorem Sz.mul {k l : Nat} {a b : Int} (h : Sz k a) (h2 : Sz l b) : Sz (k + l) (a * b) := by
  unfold Sz at *
  rw [Int.natAbs_mul,
        Nat.pow_add]
  exact Nat.mul_lt_mul'' h h2
theorem Sz.add {k : Nat} {a b : Int} (h : Sz k a) (h2 : Sz k b) : Sz (k + 1) (a + b) := by
  unfold Sz at *
  rw [Nat.pow_succ]
  omega
theorem Sz.sub {k : Nat} {a b : Int} (h : Sz k a) (h2 : Sz k b) : Sz (k + 1) (a - b) := by
  unfold Sz at *
  rw [Nat.pow_succ]
  omega
theorem Sz.neg {k : Nat} {a : Int} (h : Sz k a) : Sz k (-a) := by unfold Sz at *; omega
theorem Sz.log {k : Nat} {a : Int} (h : Sz k a) (hk : k ≤ 8000) : a.natAbs.log2 < 9000 := by
  by_cases h0 : a.natAbs = 0
  · rw [h0]; decide
  · have := (Nat.log2_lt h0).mpr h
    omega
theorem Sz.shr {k : Nat} {t b : Int} (h : Sz k b) (hb : b ≠ 0) : Sz k (shr t b) := by
  unfold Sz at *
  rw [shr_abs]
  exact Nat.lt_of_le_of_lt (Nat.le_of_dvd (by omega) (Nat.gcd_dvd_right _ _)) h
theorem Sz.lowT {k : Nat} {t b : Int} (h : Sz k t) (hb : b ≠ 0) : Sz k (lowT t b) := Nat.lt_of_le_of_lt (low_spec hb).2.2.2.2.1 h
theorem Sz.lowB {k : Nat} {t b : Int} (h : Sz k b) (hb : b ≠ 0) : Sz k (lowB t b) := Nat.lt_of_le_of_lt (low_spec hb).2.2.2.2.2 h
end RZ
namespace Z
open L2
theorem wMulW {K : PySem.W.Frag} {H : Hp} {Q : VK} {i j : Int} (c : CMulW i j) (h : Q (.int (i * j)) H) : rOr rMulC (rOr rMulI (rOr rRep (rRepT K))) (.int i) (.int j) H Q := .inr (.inl ⟨i, j, rfl, rfl, c, h⟩)
end Z
namespace Z
open PySem PySem.Spec
      PyProof.Rows L2
section
variable {K : PySem.W.Frag} {H : Hp} {L : List En} {a : V} {xs : List V} {g : TG} {tb : TS} {nx : L2.St → Hp → Prop} {rt : VK} {σ : L2.St}
/-- a for over a list or a tuple of the ledger -/
theorem wForQ (hq : SeqIs L a (some xs)) (F : Fx H L) (Pv : Nat → L2.St → Hp → Prop) (h0 : Pv 0 σ H) (keep : ∀ i σ H', Pv i σ H' → ∃ L', Fx H' L' ∧ ∀ e ∈ L, e ∈ L')
    (hs : ∀ i x σ H', xs[i]? = some x → Pv i σ H' → g x σ H' fun σ2 H2 => tb ⟨Pv (i + 1), rt, nx, Pv (i + 1)⟩ σ2 H2) (hd : ∀ σ H', Pv xs.length σ H' → nx σ H') :
    GoS K a H fun J H1 => ∃ W : Nat → Nat → L2.St → Hp → Prop, (∃ m, W 0 m σ H1) ∧ ∀ i m σ H, W i m σ H →
      (J.stop i H ∧ nx σ H) ∨ (J.go i H ∧ ∃ N : L2.St → Hp → Prop, (∀ σ' H', N σ' H' → ∃ m', m' < m ∧ W (i + 1) m' σ' H') ∧ ∀ x H', J.yld i H x H' → g x σ H' fun σ2 H2 => tb ⟨N, rt, nx, N⟩ σ2 H2) := by
  cases hq with
  | lst m =>
    refine wGoSL (F.lst m) (wForW (walk_list (K := K) (xs := xs)) Pv h0 (fun i σ H' _ q => ?_) (fun i x σ H' H'' _ q y => ?_) hd)
    · obtain ⟨L', F', k⟩ := keep i σ H' q
      exact F'.lst (k _ m)
    · obtain ⟨rfl, e⟩ := y
      exact hs i x σ _ e q
  | tup m =>
    refine wGoST (F.tup m) (wForW (walk_tup (K := K) (xs := xs)) Pv h0 (fun i σ H' _ q => ?_) (fun i x σ H' H'' _ q y => ?_) hd)
    · obtain ⟨L', F', k⟩ := keep i σ H' q
      exact F'.tup (k _ m)
    · obtain ⟨rfl, e⟩ := y
      exact hs i x σ _ e q
end
end Z
namespace Z
open PySem PySem.Spec
      PyProof.Rows L2
/-! ### a def called with keywords for defaults -/
def OkN (CX : CXT) (P : Program) (w : World) (K : PySem.W.Frag) (mg : Str → Option Value) (base : Heap) (x : Str) (k : Nat) (ps ks : List Str) (n : Nat) (gV : List V → List V → List V) (sp : Sp) : Prop :=
  ∃ (f : Addr) (fd : FuncData) (g : List Value → List Value → List Value), mg x = some (.ref f) ∧ PySem.W.keepIn K (.ref f) = true ∧ KBn K fd ps n ks g gV ∧ FnOk P w K mg base CX k f fd ps sp
def CallN (n m : Nat) (sp : Sp) (gV : List V → List V → List V) (E : XK) (vs zs : List V) (H : Hp) (Q : VK) : Prop := vs.length = n ∧ zs.length = m ∧ sp (gV vs zs) H Q E
section
variable {X : Cx} {CX : CXT} {k n : Nat} {ps ks : List Str} {sp : Sp} {E : XK} {x : Str} {p pos : Pos} {e : Expr} {es : List Expr} {kws : List Keyword} {t tk : TA} {gV : List V → List V → List V}
theorem pe_callNO (O : OkN CX X.prog X.w X.K X.mg X.base x k ps ks n gV sp) (hg : Gl X x) (hr : Room k X.A) (hx : Passes CX X E) (ha : PA X (e :: es) t) (hkw : PK X kws tk) (hall : (backToKw pos (keywordEach kws X.env)).all (·.1.isSome) = true := by rfl)
    (hks : (backToKw pos (keywordEach kws X.env)).filterMap (·.1) = ks := by rfl) (hdb : (x == ("__debug__" : Str)) = false := by decide) (he : starEach (e :: es) X.env = (false, eval e X.env) :: starEach es X.env := by rfl)
    (hpl : ((backTo pos (starEach (e :: es) X.env)).any (·.1) ||
      (backToKw pos (keywordEach kws X.env)).any (·.1.isNone)) = false := by rfl) : PE X (.Call (.Name x p) (e :: es) kws pos) (tCallN n ks.length sp gV E t tk) := by
  obtain ⟨f, fd, g, m, kp, b, F⟩ := O
  exact pe_callN F hr hg m kp b hx ha hkw hall hks hdb he hpl
theorem wCallN {n m : Nat} {sp : Sp} {gV : List V → List V → List V} {E : XK} {t tk : TA} {σ : L2.St} {H : Hp} {Q : VK} (h : t σ H fun vs H1 => tk σ H1 fun zs H2 => CallN n m sp gV E vs zs H2 Q) : tCallN n m sp gV E t tk σ H Q := h
end
end Z

set_option Elab.async false
set_option linter.all false
set_option maxRecDepth 100000
set_option maxHeartbeats 2000500
set_option
      exponentiation.threshold 2000
/-! ### texts -/
namespace Z
open PySem PySem.Spec
      PyProof.Rows L2
section
variable {X : Cx} {K : PySem.W.Frag} {H : Hp} {L : List En} {Q : VK} {o e : Expr} {to te : TE} {σ : L2.St}
/-- methods of a text -/
def StrA (x : V) (P : Prop) : Prop := (∃ a, x = .str a) ∧ P
theorem wM1 {r : V → List V → Hp → VK → Prop} (h : to σ H fun x H1 => StrA x (te σ H1 fun y H2 => r x [y] H2 Q)) : tM1 r to te σ H Q := h
theorem wStrA {a : Str} {P : Prop} (h : P) : StrA (.str a) P := ⟨⟨_, rfl⟩, h⟩
def rPart : V → List V → Hp → VK → Prop := fun x xs H Q => ∃ a b, x = .str a ∧ xs = [.str b] ∧ (b.length == 0) = false ∧ a.length ≤ sizeLine ∧
    ∀ p, H p = none → Q (.ref p) (upd H p (.tup [.str (Txt.partition a b).1, .str (Txt.partition a b).2.1, .str (Txt.partition a b).2.2]))
theorem pe_part {apos pos : Pos} (ho : PE X o to) (he : PE X e te) (hs : starEach [e] X.env = [(false, eval e X.env)] := by rfl) (hbase : attributeBase o "partition" X.env (eval o X.env) = eval o X.env := by rfl) (hline : (apos.endLine == pos.line) = true := by rfl) :
    PE X (.Call (.Attribute o "partition" apos) [e] [] pos) (tM1 rPart to te) := pe_partition ho he hs hbase hline
theorem wParts {a b : Str} (hb : (b.length == 0) = false) (hl : a.length ≤ sizeLine) (F : Fx H L)
    (k : ∀ p H', Fx H' (.ob p (.tup [.str (Txt.partition a b).1, .str (Txt.partition a b).2.1, .str (Txt.partition a b).2.2]) :: L) → Q (.ref p) H') : rPart (.str a) [.str b] H Q :=
  ⟨a, b, rfl, rfl, hb, hl, wNewF F k⟩
def rRmp : V → List V → Hp → VK → Prop := fun x xs H Q => ∃ a b, x = .str a ∧ xs = [.str b] ∧ a.length ≤ sizeLine ∧ Q (.str (Txt.removeprefix a b)) H
theorem pe_rmp {apos pos : Pos} (ho : PE X o to) (he : PE X e te) (hs : starEach [e] X.env = [(false, eval e X.env)] := by rfl) (hbase : attributeBase o "removeprefix" X.env (eval o X.env) = eval o X.env := by rfl) (hline : (apos.endLine == pos.line) = true := by rfl) :
    PE X (.Call (.Attribute o "removeprefix" apos) [e] [] pos) (tM1 rRmp to te) := pe_m1 PySem.F.slot_str_removeprefix PySem.F.type_str_removeprefix mt_removeprefix ho he hs hbase hline
theorem wRmp {a b : Str} (hl : a.length ≤ sizeLine) (h : Q (.str (Txt.removeprefix a b)) H) : rRmp (.str a) [.str b] H Q := ⟨a, b, rfl, rfl, hl, h⟩
def rSIdx : V → List V → Hp → VK → Prop := fun x xs H Q => ∃ a b i rest, x = .str a ∧ xs = [.str b] ∧ Builtin.Str.occurrences a b 0 a.length 1 = i :: rest ∧ Q (.int (i : Nat)) H
theorem pe_sidx {apos pos : Pos} (ho : PE X o to) (he : PE X e te) (hs : starEach [e] X.env = [(false, eval e X.env)] := by rfl) (hbase : attributeBase o "index" X.env (eval o X.env) = eval o X.env := by rfl) (hline : (apos.endLine == pos.line) = true := by rfl) :
    PE X (.Call (.Attribute o "index" apos) [e] [] pos) (tM1 rSIdx to te) := pe_m1 PySem.F.slot_str_index PySem.F.type_str_index mt_sindex ho he hs hbase hline
theorem wSIdx {a b : Str} {i : Nat} {rest : List Nat} (o : Builtin.Str.occurrences a b 0 a.length 1 = i :: rest) (h : Q (.int (i : Nat)) H) : rSIdx (.str a) [.str b] H Q := ⟨a, b, i, rest, rfl, rfl, o, h⟩
/-- int(text), str(int) -/
def rIntT : List V → Hp → VK → Prop := fun xs H Q => ∃ a n, xs = [.str a] ∧ PySem.intText? a = some n ∧ a.length ≤ 640 ∧ Q (.int n) H
theorem cr_intT : CallR X (.type "int") rIntT := call_int_str
theorem wIntT {a : Str} {n : Int} (h1 : PySem.intText? a = some n) (h2 : a.length ≤ 640) (h : Q (.int n) H) : rIntT [.str a] H Q := ⟨a, n, rfl, h1, h2, h⟩
def rStrI : List V → Hp → VK → Prop := fun xs H Q => ∃ i, xs = [.int i] ∧ i.natAbs.log2 < 1920 ∧ Q (.str (toString i)) H
theorem cr_strI : CallR X (.type "str") rStrI := call_str_int
theorem wStrI {i : Int} (h1 : i.natAbs.log2 < 1920) (h : Q (.str (toString i)) H) : rStrI [.int i] H Q := ⟨i, rfl, h1, h⟩
/-- f-strings -/
def FmtX (x : V) (H : Hp) (Q : VK) : Prop := (∃ y : Str, x = .str y ∧ y.length ≤ sizeLine ∧ Q (.str y) H) ∨ ∃ i : Int, x = .int i ∧ i.natAbs.log2 < 1920 ∧ Q (.str (toString i)) H
theorem wFmt (h : te σ H fun x H1 => FmtX x H1 Q) : tFmt te σ H Q := h
theorem wFmtI {i : Int} (h1 : i.natAbs.log2 < 1920) (h : Q (.str (toString i)) H) : FmtX (.int i) H Q := .inr ⟨i, rfl, h1, h⟩
def tFs (ts : List TE) : TE := fun σ H Q => tJs ts Str.empty σ H fun out H1 => Q (.str out) H1
theorem pe_fs {v1 v2 : Expr} {rest : List Expr} {ts : List TE} {pos : Pos} (h : PJ X (v1 :: v2 :: rest) ts) : PE X (.JoinedStr (v1 :: v2 :: rest) pos) (tFs ts) := pe_joined h
def JsX (x : V) (acc : Str) (ts : List TE) (σ : L2.St) (H : Hp) (Q : Str → Hp → Prop) : Prop := ∃ y : Str, x = .str y ∧ (acc ++ y).length ≤ sizeLine ∧ tJs ts (acc ++ y) σ H Q
theorem wFs {ts : List TE} (h : tJs ts Str.empty σ H fun out H1 => Q (.str out) H1) : tFs ts σ H Q := h
theorem wJsC {t : TE} {ts : List TE} {acc : Str} {Q : Str → Hp → Prop} (h : t σ H fun x H1 => JsX x acc ts σ H1 Q) : tJs (t :: ts) acc σ H Q := h
theorem wJsN {acc : Str} {Q : Str → Hp → Prop} (h : Q acc H) : tJs [] acc σ H Q := h
theorem wJsX {y acc : Str} {ts : List TE} {Q : Str → Hp → Prop} (h1 : (acc ++ y).length ≤ sizeLine) (h : tJs ts (acc ++ y) σ H Q) : JsX (.str y) acc ts σ H Q := ⟨y, rfl, h1, h⟩
/-- sign in text -/
def rInSign : R2 := fun x y H Q => ∃ (c : Nat) (z : Str), x = .str ⟨#[c]⟩ ∧ y = .str z ∧ Q (.bl (decide (c ∈ z.cps.toList))) H
theorem zInSign : OpR X (compareOp .In) rInSign := op_in_sign
theorem wInSign {c : Nat} {z : Str} (h : Q (.bl (decide (c ∈ z.cps.toList))) H) : rInSign (.str ⟨#[c]⟩) (.str z) H Q := ⟨c, z, rfl, rfl, h⟩
/-- over the signs of a text -/
def GoStr (x : V) (H : Hp) (R : It → Hp → Prop) : Prop := ∃ z, x = .str z ∧ R (Its z) H
theorem wIStr {RI : It → Hp → Prop} (h : te σ H fun v H1 => GoStr v H1 RI) : iStr te σ H RI := h
theorem wGoStr {RI : It → Hp → Prop} {z : Str} (h : RI (Its z) H) : GoStr (.str z) H RI := ⟨z, rfl, h⟩
theorem walk_str {z : Str} : Walk (Its z) z.cps.size (fun _ => True)
      (fun i H v H' => H' = H ∧ ∃ c, z.cps[i]? = some c ∧ v = .str ⟨#[c]⟩) :=
  ⟨fun i _ hi _ => hi, fun _ _ => Nat.le_refl _, fun i H v H' _ _ y => y⟩
/-- text + text -/
theorem wAddSS {a b : Str} (h1 : a.length ≤ 10000) (h2 : b.length ≤ 10000) (h : Q (.str (a ++ b)) H) : rOr rAddI (rOr rAddS (rOr rCat (rCatT K))) (.str a) (.str b) H Q :=
  .inr (.inl ⟨a, b, rfl, rfl, by have := line_big; omega, h⟩)
/-- sign * n -/
theorem reps_one (c : Nat) : ∀ (k : Nat) (acc : Array Nat), (List.replicate k #[c]).foldl (· ++ ·) acc = acc ++ (List.replicate k c).toArray
  | 0, acc => by simp
  | k + 1, acc => by
    rw [List.replicate_succ, List.foldl_cons, reps_one c k, List.replicate_succ, Array.append_assoc]
    apply congrArg
    apply Array.ext'
    simp
def rMulS : R2 := fun x y H Q => ∃ (c : Nat) (n : Int), x = .str ⟨#[c]⟩ ∧ y = .int n ∧ 2 ≤ n ∧ n ≤ 1000 ∧ Q (.str ⟨(List.replicate n.toNat c).toArray⟩) H
theorem op_mulS : OpR X (binaryOp .Mult) rMulS := by
  intro pins s σ H x
        y v u Q I rx ry h
  obtain ⟨c, n, rfl, rfl, h2, h3, q⟩ := h
  obtain ⟨t, rfl⟩ := rx
  obtain ⟨t', rfl⟩ := ry
  have lb := line_big
  have e1 : ((⟨#[c]⟩ : Str).length) = 1 := rfl
  refine PySem.P.mul_str (by rw [decide_eq_false (by omega), decide_eq_false (by omega)]; rfl) (fun _ _ => ?_) (fun _ _ => ?_) ?_
  · rw [e1]
    have : (1 : Int) ≤ (2 ^ 63 - 1) / n := by
      apply (Int.le_ediv_iff_mul_le (by omega)).mpr
      omega
    have e2 : ((1 : Nat) : Int) = 1 := rfl
    rw [e2]
    omega
  · unfold Builtin.Str.tooLong
    rw [e1]
    simp only [decide_eq_false_iff_not, Nat.one_mul]
    omega
  · have hn : (n == 1) = false := by rw [beq_eq_false_iff_ne]; omega
    rw [if_neg (by omega), hn, e1]
    rw [if_neg (by decide), reps_one c n.toNat #[], show (#[] : Array Nat) ++ (List.replicate n.toNat c).toArray = (List.replicate n.toNat c).toArray from by simp]
    refine ⟨?_, .str _, H, I.tok _, ⟨_, rfl⟩, q⟩
    show (List.replicate n.toNat c).toArray.size ≤ sizeLine
    simp only [List.size_toArray, List.length_replicate]
    omega
theorem wMulS {c : Nat} {n : Int} (h2 : 2 ≤ n) (h3 : n ≤ 1000) (h : Q (.str ⟨(List.replicate n.toNat c).toArray⟩) H) : rMulS (.str ⟨#[c]⟩) (.int n) H Q := ⟨c, n, rfl, rfl, h2, h3, h⟩
end
end Z
namespace TX
open PySem PySem.Spec PyProof.Rows L2 TL
/-! ### texts of numbers -/
def numI (i : Int) : List Nat := if i < 0 then 45 :: numL i.natAbs else numL i.natAbs
theorem ofStr_app (s t : String) : Str.ofString (s ++ t) = Str.ofString s ++ Str.ofString t := by
  refine ext_tl ?_
  rw [tl_append, Str.ofString_eq_toList, Str.ofString_eq_toList, Str.ofString_eq_toList, tl_mk, tl_mk, tl_mk, String.toList_append, List.map_append]
theorem tl_int (i : Int) : tl (Str.ofString (toString i)) = numI i := by
  cases i with
  | ofNat n =>
    have e : numI (Int.ofNat n) = numL n := by unfold numI; rw [if_neg (by simp)]; rfl
    rw [e]
    exact tl_num n
  | negSucc m =>
    have e : numI (Int.negSucc m) = 45 :: numL (m + 1) := by unfold numI; rw [if_pos (by omega)]; rfl
    rw [e, ← tl_num (m + 1)]
    have e2 : toString (Int.negSucc m) = "-" ++ toString (((m + 1 : Nat)) : Int) := rfl
    rw [e2, ofStr_app, tl_append]
    rfl
def textL (t b : Int) : List Nat := if b = 1 then numI t else numI t ++ 47 :: numI b
def Cut (w P C : List Nat) : Prop := (47 ∉ w ∧ P = w ∧ C = [49]) ∨ (47 ∉ P ∧ w = P ++ 47 :: C)
theorem cut_uniq {s : Nat} : ∀ {a b x y : List Nat}, s ∉ a → s ∉ b → a ++ s :: x = b ++ s :: y → a = b ∧ x = y
  | [], [], _, _, _, _, h => by simpa using h
  | [], c :: b, _, _, _, h2, h => by
    simp only [List.nil_append, List.cons_append, List.cons.injEq] at h
    exact absurd (h.1 ▸ List.mem_cons_self) h2
  | c :: a, [], _, _, h1, _, h => by
    simp only [List.nil_append, List.cons_append, List.cons.injEq] at h
    exact absurd (h.1 ▸ List.mem_cons_self) h1
  | c :: a, d :: b, x, y, h1, h2, h => by
    simp only [List.cons_append, List.cons.injEq] at h
    have := cut_uniq (fun m => h1 (List.mem_cons_of_mem _ m)) (fun m => h2 (List.mem_cons_of_mem _ m)) h.2
    exact ⟨by rw [h.1, this.1], this.2⟩
theorem numI_free {i : Int} {s : Nat} (h : s < 45 ∨ 57 < s ∨ (45 < s ∧ s < 48)) : s ∉ numI i := by
  have := @numL_free i.natAbs s (by omega)
  unfold numI
  split
  · intro m
    rcases List.mem_cons.mp m with rfl | m
    · omega
    · exact this m
  · exact this
theorem numI_pos {b : Int} (h : 0 ≤ b) : numI b = numL b.natAbs := by unfold numI; rw [if_neg (by omega)]
theorem cut_text {t b : Int} {P C : List Nat} (hb : 1 ≤ b) (h : Cut (textL t b) P C) : P = numI t ∧ C = numL b.natAbs := by
  have f : 47 ∉ numI t := numI_free (by omega)
  unfold textL at h
  by_cases e : b = 1
  · rw [if_pos e] at h
    rcases h with ⟨_, h1, h2⟩ | ⟨_, h2⟩
    · exact ⟨h1, by rw [h2, e]; decide⟩
    · exact absurd (h2 ▸ List.mem_append_right _ List.mem_cons_self) f
  · rw [if_neg e] at h
    rcases h with ⟨h1, _⟩ | ⟨h1, h2⟩
    · exact absurd (List.mem_append_right _ List.mem_cons_self) h1
    · obtain ⟨e1, e2⟩ := cut_uniq f h1 h2
      exact ⟨e1.symm, by rw [← e2, numI_pos (by omega)]⟩
def figs (cs : List Nat) : Bool := decide (1 ≤ cs.length) && decide (cs.length ≤ 300) && cs.all fun c => decide (c ∈ tl ("0123456789" : Str))
theorem ten_iff (c : Nat) : c ∈ tl ("0123456789" : Str) ↔ 48 ≤ c ∧ c ≤ 57 := by
  have e : tl ("0123456789" : Str) = [48, 49, 50, 51, 52, 53, 54, 55, 56, 57] := by decide
  rw [e]
  simp only [List.mem_cons, List.not_mem_nil, or_false]
  omega
theorem figs_iff (cs : List Nat) : figs cs = true ↔ cs ≠ [] ∧ cs.length ≤ 300 ∧ NumText.AllDigits cs := by
  unfold figs NumText.AllDigits
  simp only [Bool.and_eq_true, decide_eq_true_eq, List.all_eq_true, ten_iff, and_assoc]
  have : 1 ≤ cs.length ↔ cs ≠ [] := by rw [Nat.succ_le_iff, List.length_pos_iff]
  rw [this]
def strip : List Nat → List Nat
  | 45 :: r => r
  | P => P
def valI : List Nat → Int
  | 45 :: r => -((NumText.digitsVal r : Nat) : Int)
  | P => ((NumText.digitsVal P : Nat) : Int)
theorem numL_head {n : Nat} {c : Nat} {r : List Nat} (h : numL n = c :: r) : 48 ≤ c ∧ c ≤ 57 := numL_digits n c (h ▸ List.mem_cons_self)
theorem strip_no {c : Nat} {r : List Nat} (h : c ≠ 45) : strip (c :: r) = c :: r := by
  unfold strip
  split
  · rename_i e
    injection e with e1 e2
    exact absurd e1 h
  · rfl
theorem strip_num (t : Int) : strip (numI t) = numL t.natAbs := by
  unfold numI
  split
  · rfl
  · cases e : numL t.natAbs with
    | nil => rfl
    | cons c r => exact strip_no (by have := numL_head e; omega)
theorem val_num (t : Int) : valI (numI t) = t := by
  unfold numI
  split
  · show -((NumText.digitsVal _ : Nat) : Int) = t
    rw [numL_val]; omega
  · have e2 : valI (numL t.natAbs) = ((NumText.digitsVal (numL t.natAbs) : Nat) : Int) := by
      cases e : numL t.natAbs with
      | nil => rfl
      | cons c r =>
        have hc := numL_head e
        unfold valI
        split
        · rename_i e1; injection e1 with e2 e3; omega
        · rfl
    rw [e2, numL_val]; omega
theorem strip_len (P : List Nat) : P.length ≤ (strip P).length + 1 := by unfold strip; split <;> simp
theorem int_text {x : Str} (h : figs (strip (tl x)) = true) : intText? x = some (valI (tl x)) ∧ x.length ≤ 640 := by
  obtain ⟨h1, h2, h3⟩ := (figs_iff _).mp h
  have l1 := strip_len (tl x)
  have l2 := len_tl x
  refine ⟨?_, by omega⟩
  by_cases c : ∃ r, tl x = 45 :: r
  · obtain ⟨r, e⟩ := c
    rw [e] at h1 h3
    rw [e]
    exact PySem.intText_neg e h3 h1 (by omega)
  · have e : strip (tl x) = tl x := by
      unfold strip; split
      · rename_i r e; exact absurd ⟨r, e⟩ c
      · rfl
    have e2 : valI (tl x) = ((NumText.digitsVal (tl x) : Nat) : Int) := by
      unfold valI; split
      · rename_i r e; exact absurd ⟨r, e⟩ c
      · rfl
    rw [e] at h1 h3
    rw [e2]
    exact PySem.intText_digits h3 h1 (by omega)
theorem val_lt : ∀ (cs : List Nat) (a k : Nat), NumText.AllDigits cs → a < 10 ^ k → cs.foldl (fun acc c => acc * 10 + (c - 48)) a < 10 ^ (k + cs.length)
  | [], _, _, _, h => h
  | c :: r, a, k, hd, h => by
    have hc := hd.head
    have := val_lt r (a * 10 + (c - 48)) (k + 1) hd.tail (by rw [Nat.pow_succ]; omega)
    rw [List.foldl_cons, List.length_cons, show k + (r.length + 1) = k + 1 + r.length from by omega]
    exact this
theorem digits_lt {cs : List Nat} (h : figs cs = true) : NumText.digitsVal cs < 2 ^ 1000 := by
  obtain ⟨h1, h2, h3⟩ := (figs_iff _).mp h
  have := val_lt cs 0 0 h3 (by decide)
  have h4 : (10 : Nat) ^ (0 + cs.length) ≤ 10 ^ 300 := Nat.pow_le_pow_right (by decide) (by omega)
  have h5 : (10 : Nat) ^ 300 ≤ 2 ^ 1000 := by decide +kernel
  unfold NumText.digitsVal
  omega
theorem val_sz {P : List Nat} (h : figs (strip P) = true) : RZ.Sz 1000 (valI P) := by
  have := digits_lt h
  unfold RZ.Sz valI
  unfold strip at this
  split at this <;> rename_i e <;> simp only [Int.natAbs_neg, Int.natAbs_natCast] <;> first | exact this | skip
theorem num_back {cs : List Nat} (h : NumText.AllDigits cs) {c : Nat} {r : List Nat} (e : cs = c :: r) (hc : 49 ≤ c) : numL (NumText.digitsVal cs) = cs := by
  unfold numL
  rw [NumText.toDigits_digitsVal r.length cs (by rw [e]; rfl) h (.inr ⟨c, r, e, hc⟩), List.map_map]
  conv => rhs; rw [← List.map_id cs]
  refine List.map_congr_left fun d hd => ?_
  have := h d hd
  show (Char.ofNat d).toNat = d
  have key : ∀ d : Nat, d < 58 → (Char.ofNat d).toNat = d := by decide
  exact key d (by omega)
theorem numL_zero {n : Nat} {r : List Nat} (h : numL n = 48 :: r) : r = [] := by
  by_cases h10 : n < 10
  · rw [numL_lt h10] at h
    injection h with h1 h2
    exact h2.symm
  · exfalso
    have key : ∀ n, 1 ≤ n → ∃ c r, numL n = c :: r ∧ 49 ≤ c := by
      intro n
      induction n using
            Nat.strongRecOn with
      | _ n ih =>
        intro h1
        by_cases h : n < 10
        · exact ⟨48 + n, [], numL_lt h, by omega⟩
        · obtain ⟨c, r, e, hc⟩ := ih (n / 10) (by omega) (by omega)
          exact ⟨c, r ++ [48 + n % 10], by rw [numL_step (by omega), e]; rfl, hc⟩
    obtain ⟨c, r', e, hc⟩ := key n (by omega)
    rw [h] at e
    injection e with e1 e2
    omega
theorem len_int {i : Int} (h : RZ.Sz 1000 i) : (Str.ofString (toString i)).length ≤ 303 := by
  have h2 : (2 : Nat) ^ 1000 ≤ 10 ^ 302 := by decide +kernel
  have h3 := numL_len (n := i.natAbs) (k := 302) (by decide) (by unfold RZ.Sz at h; omega)
  rw [len_tl, tl_int]
  unfold numI
  split
  · rw [List.length_cons]; omega
  · omega
theorem len_app (a b : Str) : (a ++ b).length = a.length + b.length := by rw [len_tl, tl_append, List.length_append, len_tl, len_tl]
theorem len_textL {t b : Int} (h : RZ.Sz 1000 t) (h2 : RZ.Sz 1000 b) : (textL t b).length ≤ 610 := by
  have a := len_int h
  have c := len_int h2
  rw [len_tl, tl_int] at a c
  unfold textL
  split
  · omega
  · rw [List.length_append, List.length_cons]; omega
theorem rmp_tl (x : Str) : tl (Txt.removeprefix x ("-" : Str)) = strip (tl x) := by
  have e1 : ("-" : Str).length = 1 := by decide
  have e2 : ("-" : Str).cps.toList = [45] := by decide
  have hl := len_tl x
  rw [StrLaws.removeprefix_eq, StrLaws.subAt_eq, e1, e2, List.drop_zero]
  show tl (if _ then (⟨(((tl x).drop 1).take (x.length - 1)).toArray⟩ : Str) else x) = _
  rw [show x.cps.toList = tl x from rfl]
  cases h : tl x with
  | nil => rw [h] at hl; simp only [List.length_nil] at hl; simp [hl, h, strip]
  | cons c r =>
    rw [h] at hl
    simp only [List.length_cons] at hl
    by_cases hc : c = 45
    · subst hc
      rw [if_pos (by simp [hl])]
      simp [tl_mk, strip, hl]
    · rw [if_neg (by simp [hc]), h, strip_no hc]
theorem cut_of (z : Str) : ∃ P S C : Str, Txt.partition z ("/" : Str) = (P, S, C) ∧ P.length ≤ z.length ∧ C.length ≤ z.length ∧
    ((S = Str.empty ∧ C = Str.empty ∧ Cut (tl z) (tl P) [49]) ∨ (S = ("/" : Str) ∧ Cut (tl z) (tl P) (tl C))) := by
  have ey : tl ("/" : Str) = [47] := by decide
  by_cases h : 47 ∈ tl z
  · obtain ⟨a, c, e, hn⟩ := List.eq_append_cons_of_mem h
    have ez : z = (⟨a.toArray⟩ : Str) ++ ("/" : Str) ++ (⟨c.toArray⟩ : Str) := by
      refine ext_tl ?_
      rw [tl_append, tl_append, ey, e, List.append_assoc]
      rfl
    have hl := congrArg
          List.length e
    rw [← len_tl, List.length_append, List.length_cons] at hl
    refine ⟨⟨a.toArray⟩, ("/" : Str), ⟨c.toArray⟩, ?_, ?_, ?_, .inr ⟨rfl, .inr ⟨?_, ?_⟩⟩⟩
    · conv => lhs; rw [ez]
      exact partition_app ey hn
    · show a.toArray.size ≤ _
      simp only
            [List.size_toArray]; omega
    · show c.toArray.size ≤ _
      simp only
            [List.size_toArray]; omega
    · exact hn
    · exact e
  · exact ⟨z, _, _, partition_none ey h, Nat.le_refl _, Nat.zero_le _, .inl ⟨rfl, rfl, .inl ⟨h, rfl, rfl⟩⟩⟩
end TX

set_option Elab.async false
set_option linter.all false
set_option maxRecDepth 100000
set_option maxHeartbeats 2000500
/-! ### split, join, replace; slices by two; raise from None in a suite -/
namespace Z
open PySem PySem.Spec
      PyProof.Rows L2
section
variable {X : Cx} {K : PySem.W.Frag} {H : Hp} {L : List En} {Q : VK} {o e : Expr} {to te : TE} {σ : L2.St}
def rSplit : V → List V → Hp → VK → Prop := fun x xs H Q => ∃ a b, x = .str a ∧ xs = [.str b] ∧ (b.length == 0) = false ∧ a.length + 2 ≤ sizeLine ∧ rNewStrs (Txt.split a b) H Q
theorem pe_spl {apos pos : Pos} (ho : PE X o to) (he : PE X e te) (hs : starEach [e] X.env = [(false, eval e X.env)] := by rfl) (hbase : attributeBase o "split" X.env (eval o X.env) = eval o X.env := by rfl) (hline : (apos.endLine == pos.line) = true := by rfl) :
    PE X (.Call (.Attribute o "split" apos) [e] [] pos) (tM1 rSplit to te) := pe_split ho he hs hbase hline
theorem wSplit {a b : Str} (hb : (b.length == 0) = false) (hl : a.length + 2 ≤ sizeLine) (F : Fx H L)
    (k : ∀ p H', Fx H' (.ob p (.lst ((Txt.split a b).map V.str)) :: L) → Q (.ref p) H') : rSplit (.str a) [.str b] H Q := ⟨a, b, rfl, rfl, hb, hl, wNewF F k⟩
def rJoin (K : PySem.W.Frag) : V → List V → Hp → VK → Prop := fun x xs H Q => ∃ a p, ∃ ys : List Str, x = .str a ∧ xs = [.ref p] ∧ (SqL K H p (ys.map V.str) ∨ SqT K H p (ys.map V.str)) ∧
    (ys.map (·.length)).sum + ys.length * a.length ≤ 16777216 ∧ Q (.str (Txt.join a ys)) H
theorem pe_joi {apos pos : Pos} (ho : PE X o to) (he : PE X e te) (hs : starEach [e] X.env = [(false, eval e X.env)] := by rfl) (hbase : attributeBase o "join" X.env (eval o X.env) = eval o X.env := by rfl) (hline : (apos.endLine == pos.line) = true := by rfl) :
    PE X (.Call (.Attribute o "join" apos) [e] [] pos) (tM1 (rJoin X.K) to te) := pe_join ho he hs hbase hline
theorem wJoin {a : Str} {p : Addr} {ys : List Str} (s : SqL K H p (ys.map V.str)) (hl : (ys.map (·.length)).sum + ys.length * a.length ≤ 16777216) (h : Q (.str (Txt.join a ys)) H) : rJoin K (.str a) [.ref p] H Q := ⟨a, p, ys, rfl, rfl, .inl s, hl, h⟩
/-- every second one -/
def step2 {α : Type} : List α → List α
  | x :: _ :: r => x :: step2 r
  | [x] => [x]
  | [] => []
theorem step2_len {α : Type} : ∀ l : List α, (step2 l).length ≤ l.length
  | x :: y :: r => by have := step2_len r; simp only [step2, List.length_cons]; omega
  | [x] => Nat.le_refl _
  | [] => Nat.le_refl _
theorem step2_map {α β : Type} (f : α → β) : ∀ l : List α, step2 (l.map f) = (step2 l).map f
  | x :: y :: r => by simp only [List.map_cons, step2, step2_map f r]
  | [x] => rfl
  | [] => rfl
theorem step2_vals : ∀ {xs : List V} {us : List Value}, Vals xs us → Vals (step2 xs) (step2 us)
  | _, _, .nil => .nil
  | _, _, .cons a .nil => .cons a .nil
  | _, _, .cons a (.cons b r) => .cons a (step2_vals r)
theorem drop_vals : ∀ (n : Nat) {xs : List V} {us : List Value}, Vals xs us → Vals (xs.drop n) (us.drop n)
  | 0, _, _, h => h
  | n + 1, _, _, .nil => .nil
  | n + 1, _, _, .cons a r => drop_vals n r
theorem fm_congr {α β : Type} {f g : α → Option β} : ∀ {l : List α}, (∀ x ∈ l, f x = g x) → l.filterMap f = l.filterMap g
  | [], _ => rfl
  | x :: r, h => by
    rw [List.filterMap_cons, List.filterMap_cons, h x List.mem_cons_self, fm_congr fun y hy => h y (List.mem_cons_of_mem _ hy)]
theorem step2_pick {α : Type} : ∀ (m : Nat) (l : List α), (List.range ((l.length + 1) / 2)).filterMap (fun i => l[2 * i]?) = step2 l := by
  intro _ l
  induction l using step2.induct with
  | case1 x y r ih =>
    have e : ((x :: y :: r).length + 1) / 2 = (r.length + 1) / 2 + 1 := by simp only [List.length_cons]; omega
    rw [e, List.range_succ_eq_map, List.filterMap_cons_some (b := x) (by rfl), List.filterMap_map]
    show x :: _ = x :: _
    refine congrArg (x :: ·) ?_
    rw [← ih]
    refine fm_congr fun i _ => ?_
    show (x :: y :: r)[2 * (i + 1)]? = r[2 * i]?
    rw [show 2 * (i + 1) = 2 * i + 1 + 1 from by omega, List.getElem?_cons_succ, List.getElem?_cons_succ]
  | case2 x =>
    rw [show ([x].length + 1) / 2 = 1 from by simp]
    rfl
  | case3 =>
    rw [show (([] : List α).length + 1) / 2 = 0 from by simp]
    rfl
theorem slice2_pick (its : Array Value) (k : Nat) (hk : 0 < k) : (slicePick its (some (-(k : Int))) none (some 2)).toList = step2 (its.toList.drop (its.size - k)) := by
  unfold slicePick
  have eb : sliceBounds (some (-(k : Int))) none (some 2) its.size = (((its.size - k : Nat) : Int), (its.size : Int), 2) := by
    simp only [sliceBounds, Option.getD_some]
    refine Prod.ext ?_ rfl
    simp only [show ((2 : Int) > 0) from by decide, if_true]
    rw [if_pos (by omega)]
    omega
  rw [eb]
  show (sliceRange _ _ _).filterMap _ = _
  unfold sliceRange
  have ec : (if (2 : Int) > 0 then (if ((its.size - k : Nat) : Int) < (its.size : Int) then ((its.size : Int) - ((its.size - k : Nat) : Int) + 2 - 1) / 2 else 0) else (if ((its.size - k : Nat) : Int) > (its.size : Int) then (((its.size - k : Nat) : Int) - (its.size : Int) - 2 - 1) / (-2) else 0) : Int).toNat = ((its.toList.drop (its.size - k)).length + 1) / 2 := by
    rw [if_pos (by decide), List.length_drop, Array.length_toList]
    by_cases h : ((its.size - k : Nat) : Int) < (its.size : Int)
    · rw [if_pos h]; omega
    · rw [if_neg h]; omega
  rw [← step2_pick 0]
  dsimp only
  rw [ec, List.filterMap_map]
  refine fm_congr fun i _ => ?_
  show its[(((its.size - k : Nat) : Int) + 2 * (i : Int)).toNat]? = (its.toList.drop (its.size - k))[2 * i]?
  rw [List.getElem?_drop, Array.getElem?_toList, show (((its.size - k : Nat) : Int) + 2 * (i : Int)).toNat = its.size - k + 2 * i from by omega]
def tStep2 (K : PySem.W.Frag) (k : Nat) (te : TE) : TE := fun σ H Q => te σ H fun x H1 => ∃ a xs, x = .ref a ∧ SqL K H1 a xs ∧ ∀ p, H1 p = none → Q (.ref p) (upd H1 p (.lst (step2 (xs.drop (xs.length - k)))))
theorem pe_step2 {k j j2 : Nat} {p1 p2 p3 p4 pos : Pos} (hk : 0 < k) (he : PE X e te) : PE X (.Subscript e (.Slice (some (.UnaryOp .USub (.Constant (.int (k : Int)) j p1) p2)) none (some (.Constant (.int 2) j2 p4)) p3) pos) (tStep2 X.K k te) := by
  refine ⟨fun pins
        s σ H Q I h => ?_⟩
  refine Subscript_ (thn (he.run pins s σ H
        _ I h) fun v s1 ⟨x, H1, I1, r1, q1⟩ => ?_)
  obtain ⟨a, xs,
        ex, hx, q⟩ := q1
  subst ex
  cases r1
  have hlo : PO X (some (.UnaryOp .USub (.Constant (.int (k : Int)) j p1) p2)) (tPart (tUn (rU fun i => .int (-i)) (tC (.int (k : Int))))) := po_some (pe_un un_neg pe_int)
  have hst : PO X (some (.Constant (.int 2) j2 p4)) (tPart (tC (.int 2))) := po_some pe_int
  refine wpAny_Slice (thn (hlo.run pins s1 σ H1 (fun o H2 => o = some (-(k : Int)) ∧ H2 = H1) I1 ⟨k, rfl, -(k : Int), rfl, rfl, rfl⟩) fun vl s2 ⟨l, H2, I2, pl, el, e2⟩ => ?_)
  subst el e2
  refine thn (po_none.run pins s2 σ H2 (fun o H3 => o = none ∧ H3
        = H2) I2 ⟨rfl, rfl⟩) fun vu s3 ⟨u, H3, I3, pu, eu, e3⟩ => ?_
  subst eu e3
  refine thn (hst.run pins s3 σ H3 (fun o H4 => o = some 2 ∧ H4 = H3) I3 ⟨2, rfl, rfl, rfl⟩) fun vs s4 ⟨o, H4, I4, ps, eo, e4⟩ => ?_
  subst eo e4
  have I5 : Inv X pins σ H4 {
        s4 with heap := s4.heap.push { cls := .type "slice", data := .fields #[vl, vu, vs] } } := I4.kept (t' := s4.toks) fun b ob q => Heap.get?_push_of_some _ q
  obtain ⟨its, r, ht,
        hz⟩ := I5.list hx
  have hlen := r.length
  show wpAny (model X.prog X.w) X.A (subscriptTail e (.Slice (some (.UnaryOp .USub (.Constant (.int (k : Int)) j p1) p2)) none (some (.Constant (.int 2) j2 p4)) p3) (.ref a)
          (.ref s4.heap.objs.size)) (EP X pins σ Q) X.xe { s4 with heap := s4.heap.push { cls := .type "slice", data := .fields #[vl, vu, vs] } }
  refine tail_any (ops := [.ref a, .ref s4.heap.objs.size]) ht.isList.typeIs
        (PySem.slot_list_getitem.lookup) ?_ (by with_unfolding_all rfl)
  refine wpAny_getItem_list_slice ht.isList (Heap.IsSliceOf.new _ vl
        vu vs) pl pu ps (by decide) ?_ (by rw [List.size_toArray]; omega)
  have ep : slicePick its.toArray (some (-(k : Int))) none (some 2) = (step2 (its.drop (its.length - k))).toArray := by
    apply Array.toList_inj.mp
    rw [slice2_pick _ k hk, List.size_toArray]
  rw [ep]
  have rv := step2_vals (drop_vals (its.length - k) r)
  rw [← hlen] at rv ⊢
  have hl2 : (step2 (xs.drop (xs.length - k))).length ≤ sizeLine := by
    have h1 := step2_len (xs.drop (xs.length - k))
    rw [List.length_drop] at h1
    omega
  refine ⟨.ref _, _, I5.laid (t' := s4.toks) (o := .lst (step2 (xs.drop (xs.length - k)))) (fun b ob q => Heap.get?_push_of_some _ q) (Nat.le_refl _) ?_, rfl, q _ (I5.hok.fresh (Nat.le_refl _))⟩
  exact ⟨hl2, _, 0, rv, Heap.get?_push_size _ rfl⟩
def Step2V (K : PySem.W.Frag) (k : Nat) (x : V) (H : Hp) (Q : VK) : Prop := ∃ a xs, x = .ref a ∧ SqL K H a xs ∧ ∀ p, H p = none → Q (.ref p) (upd H p (.lst (step2 (xs.drop (xs.length - k)))))
theorem wStep2 {k : Nat} (h : te σ H fun x H1 => Step2V K k x H1 Q) : tStep2 K k te σ H Q := h
theorem wStep2V {k : Nat} {a : Addr} {xs : List V} (s : SqL K H a xs) (F : Fx H L) (h : ∀ p H', Fx H' (.ob p (.lst (step2 (xs.drop (xs.length - k)))) :: L) → Q (.ref p) H') : Step2V K k (.ref a) H Q := ⟨a, xs, rfl, s, wNewF F h⟩
end
/-! ### an error that is made within an except suite -/
section
variable {X : Cx} {CX : CXT} {C : Addr} {k : Nat} {ps : List Str} {sp : Sp} {ta t tk : TA} {x : Str} {e o : Expr} {es : List Expr} {p pos apos : Pos} {E : XK}
def ErrH (P : Program) (w : World) (K : PySem.W.Frag) (mg : Str → Option Value) (base : Heap) (C : Addr) (k : Nat) (ps : List Str) (sp : Sp) : Prop := ∃ (f : Addr) (fd : FuncData), ErrI K C f ∧ Binds K fd ps [] ∧ L2H.FnH P w K mg base CX0 k f fd ps sp
theorem pmk_errH (T : ErrF X.K C) (O : ErrH X.prog X.w X.K X.mg X.base C k ps sp) (hr : L2H.RoomH (k + 1) X.A) (hc : L2H.HotC X) (hm : X.mg x = some (.ref C)) (hg : Gl X x) (ha : PA X (e :: es) ta)
    (hdb : (x == ("__debug__" : Str)) = false := by
          decide) (he : starEach (e :: es) X.env = (false, eval e X.env) :: starEach es X.env := by rfl) (hpl : (backTo pos (starEach es X.env)).any (·.1) = false := by rfl) :
    L2H.PMk5 X (.Call (.Name x p) (e :: es) [] pos) (tMkO C sp [] ta) := by
  obtain ⟨f, fd, i, b, F⟩ := O
  exact L2H.pmk5_oexH T.oex i.iC i.tI F hr hc b (fun _ _ _ _ _ _ _ h => h.elim) hg hm ha hdb he hpl
theorem at_of {X : Cx} {K : Value → Shared → Prop} {E₁ : Value → Shared → Prop} (hx : X.xe = fun e s' => wpAny (model X.prog X.w) X.A (leaving X.env e) (fun _ s'' => K e s'') E₁ s') (hd : Option Value) : PassesOwnAt (model X.prog X.w) (X.A.mark hd) X.A X.env X.xe := by
  rw [hx]
  exact PassesOwnAt.leaving
theorem passP {X : Cx} {E : XK} {W : WX} (tk : L2.Takes X W) (h : ∀ cls d σ H, E cls d H → W cls d σ H) : Passes (L2.CX X.prog X.w) X E := passes_call tk h
end
theorem okHot {P : Program} {w : World} {K : PySem.W.Frag} {mg : Str → Option Value} {base : Heap} {x qual : Str} {st : Stmt} {f : Addr} {fd : FuncData} {N ps : List Str} {k : Nat} {sp : Sp} (F : Fun K x qual st f fd) (S : FnScope N ps (defScope st)) (len : ∀ vs H Q E, sp vs H Q E → vs.length = ps.length)
    (hbody : ∀ (cdv : Value) (A : Around) (outer : List Env) (s : Shared) (H : Hp) (vs : List V) (Q : VK) (E : XK) (p : Addr × Obj), L2H.Hot1 A p → L2H.RoomH k (A.deeper (envOfC qual (defScope st) s.heap.objs.size f cdv)) → sp vs H Q E →
      ∃ t, PSs (L2H.cxH CX0 P w K mg base N qual (defScope st) f cdv A outer s H E p) (defBody st) t ∧ t { nx := fun _ H' => Q .non H', rt := Q } (L2.start N vs) H) : L2H.FnH P w K mg base CX0 (k + 1) f fd ps sp := by
  obtain ⟨oc, od, kV, doc, pm, an,
        cdv, ct, osl, rfl, lk, hcd⟩ := F.ex
  exact L2H.fn_ofH lk hcd S len fun A outer s H vs Q E p hot hr hsp => hbody cdv A outer s H vs Q E p hot hr hsp
end Z

set_option Elab.async false
set_option linter.all false
set_option maxRecDepth 100000
set_option maxHeartbeats 2000500
/-! ### words of a text, numerals -/
namespace TW
open PySem TL TX Z
def wds (cs : List Nat) : List (List Nat) := spl [32] 0 [] cs
theorem pre1 {c : Nat} {r : List Nat} : pre [32] (c :: r) = decide (c = 32) := by
  unfold pre
  show ((c :: r.take 0) == [32]) = _
  by_cases h : c = 32
  · subst h; rfl
  · rw [decide_eq_false h]
    show (c == 32 && ([] : List Nat) == []) = false
    rw [beq_eq_false_iff_ne.mpr h]; rfl
theorem spl_app : ∀ (x : List Nat) (acc y : List Nat), spl [32] 0 acc (x ++ 32 :: y) = spl [32] 0 acc x ++ spl [32] 0 [] y
  | [], acc, y => by
    rw [List.nil_append, spl_hit (by rw [pre1]; rfl), spl_nil]
    rfl
  | c :: r, acc, y => by
    rw [List.cons_append]
    by_cases h : c = 32
    · subst h
      rw [spl_hit (by rw [pre1]; rfl), spl_hit (by rw [pre1]; rfl)]
      show acc :: spl [32] 0 [] (r ++ 32 :: y) = acc :: spl [32] 0 [] r ++ _
      rw [spl_app r [] y]
      rfl
    · have e : pre [32] (c :: (r ++ 32 :: y)) = false := by rw [pre1, decide_eq_false h]
      have e2 : pre [32] (c :: r) = false := by rw [pre1, decide_eq_false h]
      rw [spl_miss e, spl_miss e2, spl_app r _ y]
theorem wds_app (x y : List Nat) : wds (x ++ 32 :: y) = wds x ++ wds y := spl_app x [] y
theorem wds_free {x : List Nat} (h : 32 ∉ x) : wds x = [x] := spl_last1 h
theorem wds_nil : wds [] = [[]] := by decide
theorem wds_cons (y : List Nat) : wds (32 :: y) = [] :: wds y := wds_app [] y
theorem wds_join {parts : List (List Nat)} (h : parts ≠ []) (hp : ∀ p ∈ parts, 32 ∉ p) : wds (joinL [32] parts) = parts := spl_join h hp
theorem wds_split (z : Str) : (Txt.split z (" " : Str)).map tl = wds (tl z) := split_spl z (" " : Str) (by decide) (kind_ok (by decide +kernel))
def figsN (n : Nat) (cs : List Nat) : Bool := decide (1 ≤ cs.length) && (decide (cs.length ≤ n) && cs.all fun c => decide (c ∈ tl ("0123456789" : Str)))
def numeral (cs : List Nat) : Bool := figsN 3 cs && !decide (cs.head? = some 48)
def numsOk (ws : List (List Nat)) : Bool := !ws.isEmpty && ws.all numeral
theorem figsN_figs {n : Nat} {cs : List Nat} (hn : n ≤ 300) (h : figsN n cs = true) : figs cs = true := by
  unfold figsN at h
  unfold figs
  simp only [Bool.and_eq_true, decide_eq_true_eq] at h ⊢
  exact ⟨⟨h.1, by omega⟩, h.2.2⟩
theorem numeral_figs {cs : List Nat} (h : numeral cs = true) : figs cs = true ∧ cs.length ≤ 3 := by
  unfold numeral at h
  simp only
        [Bool.and_eq_true] at h
  refine ⟨figsN_figs (by decide) h.1, ?_⟩
  have := h.1
  unfold figsN at this
  simp only [Bool.and_eq_true, decide_eq_true_eq] at this
  exact this.2.1
theorem figs_head {cs : List Nat} (h : figs cs = true) : ∃ c r, cs = c :: r ∧ 48 ≤ c ∧ c ≤ 57 := by
  obtain ⟨h1, h2, h3⟩ := (figs_iff cs).mp h
  cases cs with
  | nil => exact absurd rfl h1
  | cons c r => exact ⟨c, r, rfl, h3 c List.mem_cons_self⟩
theorem figs_strip {cs : List Nat} (h : figs cs = true) : strip cs = cs := by
  obtain ⟨c, r, rfl, h1, h2⟩ := figs_head h
  exact strip_no (by omega)
theorem numeral_int {x : Str} (h : numeral (tl x) = true) : intText? x = some (valI (tl x)) ∧ x.length ≤ 640 := by
  have hf := (numeral_figs h).1
  exact int_text (by rw [figs_strip hf]; exact hf)
theorem numL_all (n : Nat) : (numL n).all (fun c => decide (c ∈ tl ("0123456789" : Str))) = true := by
  rw [List.all_eq_true]
  intro c hc
  exact decide_eq_true ((ten_iff c).mpr (numL_digits n c hc))
theorem numL_numeral {n : Nat} (h1 : 1 ≤ n) (h2 : n < 1000) : numeral (numL n) = true := by
  unfold numeral figsN
  rw [numL_all]
  have l1 : (numL n).length ≤ 3 := numL_len (by decide) (by simpa using h2)
  have l0 : 1 ≤ (numL n).length := by
    have := numL_ne n
    cases h : numL n with
    | nil => exact absurd h this
    | cons c r => simp
  have hh : ¬ (numL n).head? = some 48 := by
    intro e
    cases h : numL n with
    | nil => exact absurd h (numL_ne n)
    | cons c r =>
      rw [h] at e
      have e : c = 48 := by simpa using e
      subst e
      have hr := numL_zero h
      subst hr
      have hv := numL_val n
      rw [h] at hv
      have : NumText.digitsVal [48] = 0 := by decide
      omega
  simp [l0, l1, hh]
theorem val_numL (n : Nat) : valI (numL n) = (n : Int) := by
  have := val_num (n : Int)
  rwa [numI_pos (by omega), Int.natAbs_natCast] at this
theorem numeral_no {cs : List Nat} {c : Nat} (h : c ∈ cs) (hc : c < 48 ∨ 57 < c) : numeral cs = false := by
  cases hn : numeral cs with
  | false => rfl
  | true =>
    obtain ⟨_, _, h3⟩ := (figs_iff cs).mp (numeral_figs hn).1
    have := h3 c h
    omega
theorem numeral_nil : numeral [] = false := by decide
theorem numeral_zero (cs : List Nat) : numeral (48 :: cs) = false := by unfold numeral; simp
theorem numeral_long {cs : List Nat} (h : 3 < cs.length) : numeral cs = false := by
  cases hn : numeral cs with
  | false => rfl
  | true => have := (numeral_figs hn).2; omega
/-! the shape of a stock's text -/
def lapS : List Nat := [108, 97, 112]
def reachS : List Nat := [114, 101, 97, 99, 104]
def shape (W : List (List Nat)) : Bool := numsOk (W.take (W.length - 4)) && (numsOk (step2 (W.drop (W.length - 3))) && decide (step2 (W.drop (W.length - 4)) = [lapS, reachS]))
theorem shape_short {W : List (List Nat)} (h : W.length ≤ 4) : shape W = false := by
  unfold shape
  rw [show W.length - 4 = 0 from by omega]
  rfl
theorem shape_four (B : List (List Nat)) (a b c d : List Nat) : shape (B ++ [a, b, c, d]) = (numsOk B && (numeral b && numeral d && decide (a = lapS ∧ c = reachS))) := by
  unfold shape
  have el : (B ++ [a, b, c, d]).length = B.length + 4 := by simp
  rw [el, show B.length + 4 - 4 = B.length from by omega, show B.length + 4 - 3 = B.length + 1 from by omega]
  rw [List.take_left' rfl, List.drop_left' rfl]
  have e2 : (B ++ [a, b, c, d]).drop (B.length + 1) = [b, c, d] := by
    rw [← List.drop_drop, List.drop_left' rfl]; rfl
  rw [e2]
  show (numsOk B && (numsOk [b, d] && decide ([a, c] = [lapS, reachS]))) = _
  have e3 : numsOk [b, d] = (numeral b && numeral d) := by unfold numsOk; simp
  have e4 : decide ([a, c] = [lapS, reachS]) = decide (a = lapS ∧ c = reachS) := by
    rw [decide_eq_decide]
    simp
  rw [e3, e4]
theorem parts_four (B : List (List Nat)) (a b c d : List Nat) : (B ++ [a, b, c, d]).take ((B ++ [a, b, c, d]).length - 4) = B ∧ step2 ((B ++ [a, b, c, d]).drop ((B ++ [a, b, c, d]).length - 3)) = [b, d] := by
  have el : (B ++ [a, b, c, d]).length = B.length + 4 := by simp
  rw [el, show B.length + 4 - 4 = B.length from by omega, show B.length + 4 - 3 = B.length + 1 from by omega]
  refine ⟨List.take_left' rfl, ?_⟩
  rw [← List.drop_drop, List.drop_left' rfl]
  rfl
theorem shape_two {W : List (List Nat)} (h : shape W = true) : (step2 (W.drop (W.length - 3))).length = 2 := by
  have h4 : ¬ W.length ≤ 4 := fun h4 => by rw [shape_short h4] at h; cases h
  have e : (W.drop (W.length - 3)).length = 3 := by rw [List.length_drop]; omega
  match hW : W.drop (W.length - 3), e with
  | [a, b, c], _ => rfl
theorem numsOk_no {B : List (List Nat)} {p : List Nat} (h : p ∈ B) (hp : numeral p = false) : numsOk B = false := by
  unfold numsOk
  have : B.all numeral = false := by rw [List.all_eq_false]; exact ⟨p, h, by rw [hp]; decide⟩
  rw [this, Bool.and_false]
theorem numsOk_yes {B : List (List Nat)} (h : B ≠ []) (hp : ∀ p ∈ B, numeral p = true) : numsOk B = true := by
  unfold numsOk
  rw [List.all_eq_true.mpr hp]
  cases B with
  | nil => exact absurd rfl h
  | cons _ _ => rfl
theorem joinL_cons (c : Nat) (p : List Nat) : ∀ r : List (List Nat), c :: joinL [32] (p :: r) = joinL [32] ((c :: p) :: r)
  | [] => rfl
  | q :: r => rfl
/-- the bricks' row -/
def rowW (bs : List Int) : List (List Nat) := bs.map fun b => numL b.natAbs
theorem rowW_free {bs : List Int} : ∀ p ∈ rowW bs, 32 ∉ p := by
  intro p hp
  obtain ⟨b, _, rfl⟩ := List.mem_map.mp hp
  exact numL_free (.inl (by decide))
theorem rowW_ne {bs : List Int} (h : bs ≠ []) : rowW bs ≠ [] := by
  intro e
  exact h (List.map_eq_nil_iff.mp e)
theorem rowW_num {bs : List Int} (h : ∀ b ∈ bs, 1 ≤ b ∧ b < 1000) : ∀ p ∈ rowW bs, numeral p = true := by
  intro p hp
  obtain ⟨b, hb, rfl⟩ := List.mem_map.mp hp
  have := h b hb
  exact numL_numeral (by omega) (by omega)
theorem rowW_val {bs : List Int} (h : ∀ b ∈ bs, 1 ≤ b) : (rowW bs).map valI = bs := by
  unfold rowW
  rw [List.map_map]
  conv => rhs; rw [← List.map_id bs]
  refine List.map_congr_left fun b hb => ?_
  show valI (numL b.natAbs) = b
  rw [val_numL]
  have := h b hb
  omega
theorem joinL_app (s : List Nat) : ∀ (xs ys : List (List Nat)), xs ≠ [] → ys ≠ [] → joinL s (xs ++ ys) = joinL s xs ++ (s ++ joinL s ys)
  | [], _, h, _ => absurd rfl h
  | [x], y :: ys, _, _ => by simp [joinL]
  | x :: x' :: xs, y :: ys, _, hy => by
    have ih := joinL_app s (x' :: xs) (y :: ys) (by simp) hy
    show x ++ (s ++ joinL s ((x' :: xs) ++ (y :: ys))) = (x ++ (s ++ joinL s (x' :: xs))) ++ _
    rw [ih]
    simp [List.append_assoc]
  | _ :: _, [], _, h => absurd rfl h
theorem log_small {n : Nat} (h : n < 1900) : n.log2 < 1920 := Nat.lt_of_le_of_lt (Nat.log2_le_self n) (by omega)
theorem len_str {b : Int} (h0 : 0 ≤ b) (h1 : b < 1000) : (Str.ofString (toString b)).length ≤ 3 := by
  rw [len_tl, tl_int, numI_pos h0]
  exact numL_len (by decide) (by show b.natAbs < 1000; omega)
theorem spl_size : ∀ (cs acc : List Nat), (spl [32] 0 acc cs).length ≤ cs.length + 1 ∧ ∀ p ∈ spl [32] 0 acc cs, p.length ≤ acc.length + cs.length
  | [], acc => by rw [spl_nil]; exact ⟨Nat.le_refl _, fun p hp => by cases List.mem_singleton.mp hp; exact Nat.le_refl _⟩
  | c :: r, acc => by
    by_cases h : c = 32
    · subst h
      rw [spl_hit (by rw [pre1]; rfl)]
      obtain ⟨a, b⟩ := spl_size r []
      refine ⟨Nat.succ_le_succ a, fun p hp => ?_⟩
      rcases List.mem_cons.mp
            hp with rfl | hp
      · exact Nat.le_add_right _ _
      · have := b p hp
        simp only [List.length_cons, List.length_nil] at *
        omega
    · rw [spl_miss (by rw [pre1, decide_eq_false h])]
      obtain ⟨a, b⟩ := spl_size r (acc ++ [c])
      refine ⟨by simp only [List.length_cons]; omega, fun p hp => ?_⟩
      have := b p hp
      simp only [List.length_append, List.length_cons, List.length_nil] at *
      omega
theorem spl_mem : ∀ (cs acc : List Nat), ∀ p ∈ spl [32] 0 acc cs, ∀ c ∈ p, c ∈ acc ∨ c ∈ cs
  | [], acc, p, hp, c, hc => by
    rw [spl_nil] at hp
    cases List.mem_singleton.mp hp
    exact .inl hc
  | d :: r, acc, p, hp, c, hc => by
    by_cases h : d = 32
    · subst h
      rw [spl_hit (by rw [pre1]; rfl)] at hp
      rcases List.mem_cons.mp
            hp with rfl | hp
      · exact .inl hc
      · rcases spl_mem r [] p hp c hc with h | h
        · exact absurd h (by simp)
        · exact .inr (List.mem_cons_of_mem _ h)
    · rw [spl_miss (by rw [pre1, decide_eq_false h])] at hp
      rcases spl_mem r (acc ++ [d]) p hp c hc with h | h
      · rcases List.mem_append.mp
            h with h | h
        · exact .inl h
        · exact .inr (by rw [List.mem_singleton.mp h]; exact List.mem_cons_self)
      · exact .inr (List.mem_cons_of_mem _ h)
theorem strOk_iff {z : Str} : PyData.strOk z = true ↔ ∀ c ∈ tl z, c < 0x110000 := by
  unfold PyData.strOk
  rw [← Array.all_toList,
        List.all_eq_true]
  exact ⟨fun h c hc => of_decide_eq_true (h c hc), fun h c hc => decide_eq_true (h c hc)⟩
theorem split_ok {z : Str} (h : PyData.strOk z = true) : ∀ w ∈ Txt.split z (" " : Str), PyData.strOk w = true := by
  intro w hw
  rw [strOk_iff] at h ⊢
  intro c hc
  have e := wds_split z
  have hm : tl w ∈ spl [32] 0 [] (tl z) := by
    rw [show spl [32] 0 [] (tl z) = wds (tl z) from rfl, ← e]
    exact List.mem_map_of_mem hw
  rcases spl_mem (tl z) [] (tl w) hm c hc with h2 | h2
  · exact absurd h2 (by simp)
  · exact h c h2
theorem split_size {z : Str} : (Txt.split z (" " : Str)).length ≤ z.length + 1 ∧ ∀ w ∈ Txt.split z (" " : Str), w.length ≤ z.length := by
  obtain ⟨a, b⟩ := spl_size (tl z) []
  have e := wds_split z
  have el := congrArg List.length e
  rw [List.length_map] at el
  refine ⟨by rw [el, len_tl]; exact a, fun w hw => ?_⟩
  have := b (tl w) (by rw [show spl [32] 0 [] (tl z) = wds (tl z) from rfl, ← e]; exact List.mem_map_of_mem hw)
  rw [len_tl w, len_tl z]
  simpa using this
end TW
namespace Z
open PySem TL L2
theorem cut_neg {xs : List V} (k : Nat) (hk : 0 < k) : cutV xs none (some (-(k : Int))) = xs.take (xs.length - k) := by
  have e : HT.sIx xs.length xs.length (some (-(k : Int))) = xs.length - k := by
    show (if (-(k : Int)) < 0 then ((-(k : Int)) + (xs.length : Int)).toNat else _) = _
    rw [if_pos (by omega)]
    omega
  unfold cutV
  rw [e]
  rfl
theorem step2_mem {α : Type} : ∀ {l : List α} {x : α}, x ∈ step2 l → x ∈ l
  | a :: b :: r, x, h => by
    rcases List.mem_cons.mp
          h with rfl | h
    · exact List.mem_cons_self
    · exact .tail _ (.tail _ (step2_mem h))
  | [a], x, h => h
theorem DtA.strs {L : List En} : ∀ xs : List Str, DtA L (xs.map V.str) (xs.map PyData.str)
  | [] => .nil
  | x :: r => .cons (.str x) (DtA.strs r)
theorem ShA.strs {xs : List Str} (h : ∀ x ∈ xs, PyData.strOk x = true) : ShA (xs.map PyData.str) 0 := ShA.map fun x hx => ⟨h x hx, Nat.le_refl _⟩
theorem eqv_strs : ∀ xs ys : List Str, PyData.eqvAll (xs.map PyData.str) (ys.map PyData.str) = decide (xs = ys)
  | [], [] => rfl
  | [], y :: r => by simp [PyData.eqvAll]
  | x :: r, [] => by simp [PyData.eqvAll]
  | x :: r, y :: s => by
    show (PyData.eqv (.str x) (.str y) && PyData.eqvAll (r.map PyData.str) (s.map PyData.str)) = _
    rw [eqv_strs r s]
    show ((x == y) && _) = _
    by_cases h : x = y
    · subst h; simp
    · simp [h]
theorem len_joinL (s : List Nat) : ∀ ps : List (List Nat), (joinL s ps).length ≤ (ps.map (·.length)).sum + ps.length * s.length
  | [] => Nat.zero_le _
  | [p] => by show p.length ≤ p.length + 0 + _; omega
  | p :: q :: r => by
    have ih := len_joinL s (q :: r)
    show (p ++ (s ++ joinL s (q :: r))).length ≤ p.length + ((q :: r).map (·.length)).sum + ((q :: r).length + 1) * s.length
    rw [List.length_append, List.length_append, Nat.add_mul]
    omega
theorem len_join (y : Str) (ys : List Str) : (Txt.join y ys).length ≤ (ys.map (·.length)).sum + ys.length * y.length := by
  have h := len_joinL (tl y) (ys.map tl)
  rw [join_eq, len_tl, tl_join]
  rw [List.length_map, List.map_map] at h
  have e : (ys.map (List.length ∘ tl)) = ys.map (·.length) := List.map_congr_left fun z _ => (len_tl z).symm
  have e2 : ((fun x => x.length) ∘ tl : Str → Nat) = List.length ∘ tl := rfl
  rw [e2, e, ← len_tl] at h
  exact h
end Z

set_option Elab.async false
set_option linter.all false
set_option maxRecDepth 100000
set_option maxHeartbeats 2000500
/-! ### defs whose errors have no context: they may be called in a try whose suite raises -/
namespace Z
open PySem PySem.Spec
      PyProof.Rows L2
section
variable {X : Cx} {C : Addr} {k : Nat} {ps : List Str} {sp : Sp} {ta t : TA} {x : Str} {e o : Expr} {es : List Expr} {p pos apos : Pos} {E : XK}
theorem cx_plain {P : Program} {w : World} {outer : List Env} {H : Hp} {s s' : Shared} {u : Value} (h : L2N.CX P w outer H s E u s') : L2.CX P w outer H s E u s' := by
  obtain ⟨a, B, H', cls, d, e1, fl, r⟩ := h
  exact ⟨a, B, H', cls, d, e1, L2H.flyingZ_imp (fun _ z => z.zc) fl, r⟩
theorem fn_plain {P : Program} {w : World} {K : PySem.W.Frag} {mg : Str → Option Value} {base : Heap} {f : Addr} {fd : FuncData} (F : FnOk P w K mg base (L2N.CX P w) k f fd ps sp) : FnOk P w K mg base (L2.CX P w) k f fd ps sp := by
  refine ⟨F.len, fun A outer s H args us vs Q E hr he hb hv hs => codeAny_mono (F.run A outer s H args us vs Q E hr he hb hv hs) fun r s' q => ?_⟩
  cases r with
  | error er => exact cx_plain q
  | ok fl => cases fl <;> exact q
/-- an own error, made where nothing is handled: its context is None -/
theorem pmk_errN (T : ErrF X.K C) (O : ErrO X.prog X.w X.K X.mg X.base C k ps sp) (hr : Room (k + 1) X.A) (hm : X.mg x = some (.ref C)) (hg : Gl X x) (ha : PA X (e :: es) ta)
    (hdb : (x == ("__debug__" : Str)) = false := by
          decide) (he : starEach (e :: es) X.env = (false, eval e X.env) :: starEach es X.env := by rfl) (hpl : (backTo pos (starEach es X.env)).any (·.1) = false := by rfl) :
    L2N.PMk X (.Call (.Name x p) (e :: es) [] pos) (tMkO C sp [] ta) := by
  obtain ⟨fI, fd, hI, bI, F1⟩ := O
  intro pins s σ H Q I hq
  obtain ⟨n1, n2, n3, n4, bm, n6, n7, n8, n9, n10, n11, n12, n13, n14, n15, hC, hbm⟩ := T.oex.cls
  refine wpAny_Call_Name_kw
        (ld_glob I hg hm ?_ hdb)
  refine PySem.W.callWith_K (h₀ := X.base) I.ok.mod.kin T.oex.kC (thn (ha.run pos pins s σ H _ I hq) fun us s1 ⟨vs, H1, I1, r1, hz, q1⟩ => ⟨I1.kIn, ?_⟩) he hpl
  show wpAny _ _ (call
        (.ref C) us) _ _ _
  obtain ⟨hp, ga, dr, tk, os⟩ := s1
  generalize hN : hp.objs.size + 1 = N
  have hle : hp.objs.size ≤ N := by omega
  have fresh : H1 N = none := I1.hok.fresh hle
  have want := q1 N fresh
  rw [List.append_nil] at want
  generalize hB : (hp.push (PySem.W.kdv_tup us)).push (PySem.HandSPX.excO C hp.objs.size) = B
  have keep : ∀ b o, hp.get? b = some o → B.get? b = some o := fun b o z => by
    rw [← hB]
    exact Heap.get?_push_of_some _ (Heap.get?_push_of_some _ z)
  have there : B.get? N = some (PySem.HandSPX.excO C hp.objs.size) := by
    rw [← hB, ← hN]
    heap_get
  have J1 : Inv X pins σ (upd H1 N (exo N C none)) ⟨B, ga, dr, tk, os⟩ := I1.laid (t' := tk) (a := N) (o := exo N C none) (h' := B) keep hle (exo_ok there)
  have rv : Vals (V.ref N :: vs) (Value.ref N :: us) := .cons rfl r1
  have hl : (Value.ref N :: us ++ []).length = ps.length := by
    have z := F1.len _ _ _ _ want
    rw [rv.length] at z
    rw [List.append_nil, z]
  have few : us.length ≤ sizeLine := by
    have z := Paired.length r1
    rw [sizeLine_eq]
    omega
  have bnd := bI _ (Value.ref N :: us) J1.kIn hl
  rw [List.append_nil] at bnd
  refine wpAny_call (PySem.HandSPX.call_own F.excBase_ValueError (fun Y => PySem.HandSPX.refsVE_contains Y bm hbm) (I1.kIn _ _ hC) (PySem.W.looks_findIn I1.kIn hI.iC) (fun self => PySem.W.bind_fn I1.kIn self hI.tI) few ?_)
  rw [hB, hN]
  refine codeAny_mono (F1.run _ X.stack _ _ ⟨Value.ref N :: us, []⟩ (Value.ref N :: us) _ _ (fun _ _ _ => False) (hr.make C us []) (J1.env0.make C us []) bnd rv want) fun r s' z => ?_
  match r, z with
  | .error er, z => exact z.elim
  | .ok .next, z => exact z.elim
  | .ok .brk, z => exact z.elim
  | .ok .cont, z => exact z.elim
  | .ok (.ret u), z =>
    obtain ⟨v, H2, o2, bare, un2, hk2, rvv, ev, d, fs, ea, ed, hd1, q2⟩ := z
    subst ev
    obtain ⟨h2, g2, d2, t2, o3⟩ := s'
    obtain ⟨t0, G, J, kG, ge, hoe, na⟩ := mk_end0 (d2 := d2) (t2 := t2) I1 hle keep un2 hk2 o2 bare ea ed hd1
    refine ⟨rvv, N, _, _, ⟨G, g2, d2, t2, o3⟩, _, .ref C, some d, rfl, J, kG, ge, hoe, ⟨rfl, rfl, fun fl hfl => ?_⟩, rfl, rfl, na, rfl, bare, raises_own T.oex.exC T.oex.tyC, q2⟩
    cases hfl
    rfl
theorem passN {X : Cx} {E : XK} (tk : L2N.Takes X (fun cls d _ H => E cls d H)) : Passes (L2N.CX X.prog X.w) X E := fun pins σ H s e s' I c => L2N.passAt (W := fun cls d _ H => E cls d H) tk σ pins H s e s' I c
theorem ownsN {X : Cx} {K : Value → Shared → Prop} {E₁ : Value → Shared → Prop} (hx : X.xe = fun e s' => wpAny (model X.prog X.w) X.A (leaving X.env e) (fun _ s'' => K e s'') E₁ s') : PassesOwn (model X.prog X.w) X.A X.env X.xe := owns hx
end
section
variable {P : Program} {w : World} {K :
      PySem.W.Frag} {mg : Str → Option Value} {base : Heap}
theorem okXN {x qual : Str} {st : Stmt} {f : Addr} {fd : FuncData} {N ps : List Str} {k : Nat} {sp : Sp} (F : Fun K x qual st f fd) (S : FnScope N ps (defScope st)) (len : ∀ vs H Q E, sp vs H Q E → vs.length = ps.length)
    (hbody : ∀ (cdv : Value) (A : Around) (outer : List Env) (s : Shared) (H : Hp) (vs : List V) (Q :
          VK) (E : XK), Room k (A.deeper (envOfC qual (defScope st) s.heap.objs.size f cdv)) → sp vs H Q E →
      ∃ t, PSs (cxOf (L2N.CX P w) P w K mg base N qual (defScope st) f cdv A outer s H E) (defBody st) t ∧ t { nx := fun _ H' => Q .non H', rt := Q } (L2.start N vs) H) : FnOk P w K mg base (L2N.CX P w) (k + 1) f fd ps sp := by
  obtain ⟨oc, od, kV, doc, pm, an,
        cdv, ct, osl, rfl, lk, hcd⟩ := F.ex
  exact fn_of lk hcd S len fun A outer s H vs Q
        E hr hsp => hbody cdv A outer s H vs Q E hr hsp
theorem Ok.plain {x : Str} {k : Nat} {ps : List Str} {dvs : List V} {sp : Sp} (O : Ok (L2N.CX P w) P w K mg base x k ps dvs sp) : Ok (L2.CX P w) P w K mg base x k ps dvs sp := by
  obtain ⟨f, fd, ds, a, b, c, d, F⟩ := O
  exact ⟨f, fd, ds, a, b, c, d, fn_plain F⟩
theorem MkO.plain {C : Addr} {k : Nat} {ps : List Str} {dvs : List V} {sp : Sp} (O : MkO (L2N.CX P w) P w K mg base C k ps dvs sp) : MkO (L2.CX P w) P w K mg base C k ps dvs sp := by
  obtain ⟨f, fd, ds, a, b, c, F⟩ := O
  exact ⟨f, fd, ds, a, b, c, fn_plain F⟩
theorem MkKO.plain {C : Addr} {k n : Nat} {ps ks : List Str} {gV : List V → List V → List V} {sp : Sp} (O : MkKO (L2N.CX P w) P w K mg base C k ps ks n gV sp) : MkKO (L2.CX P w) P w K mg base C k ps ks n gV sp := by
  obtain ⟨f, fd, g, a, b, F⟩ := O
  exact ⟨f, fd, g, a, b, fn_plain F⟩
end
theorem xd_hit {k : Str} {a : V} {r : List (Str × V)} : List.lookup k ((k, a) :: r) = some a := by rw [List.lookup_cons, beq_self_eq_true]
theorem xd_next {k j : Str} {a : V} {r : List (Str × V)} (h : (k == j) = false) : List.lookup k ((j, a) :: r) = List.lookup k r := by rw [List.lookup_cons, h]
/-! ### replace of written texts, behind a text that is written -/
section
variable {X : Cx} {e : Expr} {es : List Expr} {te : TE} {ta : TA}
def PEG (X : Cx) (e : Expr) (t : TE) : Prop := ∀ (pins : List (Addr × Obj)) (s : Shared) (σ : L2.St) (H : Hp) (Q : VK), Inv X pins σ H s → t σ H Q → wpAny (model X.prog X.w) X.A (eval e X.env) (fun v s' => 1 ≤ s'.toks ∧ EP X pins σ Q v s') X.xe s
theorem peg_op {op : Operator} {r : R2} {z : Str} {j : Nat} {c0 pos : Pos} (ho : OpR X (binaryOp op) r) (ha : PE X e te) : PEG X (.BinOp e op (.Constant (.str z) j c0) pos) (tOp r te (tC (.str z))) := by
  intro pins s σ H Q I h
  refine wpAny_BinOp (thn (ha.run pins s σ H _ I h) fun v s1 ⟨x, H1, I1, r1, q1⟩ => ?_)
  refine Calls.Constant_str ?_
  have w := ho pins { s1 with toks := s1.toks + 1 } σ H1 x (V.str z) v (Value.str z s1.toks) Q (I1.tok (s1.toks + 1)) r1 ⟨s1.toks, rfl⟩ q1
  exact wpAny_mono (PySem.wpAny_toks w) (fun a s2 q => ⟨Nat.le_trans (Nat.le_add_left 1 s1.toks) q.1, q.2⟩) fun _ _ q => q.2
theorem pa_consG (ha : PEG X e te) (hr : PAT X es ta) (hs : starEach (e :: es) X.env = (false, eval e X.env) :: starEach es X.env := by rfl) : PA X (e :: es) (tCons te ta) := by
  refine ⟨fun pos pins
        s σ H Q I h => ?_⟩
  rw [hs]
  show wpAny _ _ (spliced ((false, eval e X.env)
        :: backTo pos (starEach es X.env))) _ _ s
  refine Calls.spliced_cons (thn (ha pins s σ H _ I h) fun v s1 ⟨hk, x, H1, I1, r1, q1⟩ => ?_)
  exact thn (hr pos pins s1 σ H1 _ hk I1 q1) fun us s2 ⟨xs, H2, I2, r2, q2⟩ => ⟨x :: xs, H2, I2, .cons r1 r2, q2⟩
def ReplV (y z : Str) (v : V) (H : Hp) (Q : VK) : Prop := ∃ x, v = .str x ∧ x.length + (x.length + 1) * z.length ≤ 16777216 ∧ Q (.str (Txt.replace x y z)) H
theorem wReplC {y z : Str} {σ : L2.St} {H : Hp} {Q : VK} (h : te σ H fun v H1 => ReplV y z v H1 Q) : CwR.tReplC te y z σ H Q := h
theorem wReplV {x y z : Str} {H : Hp} {Q : VK} (hb : x.length + (x.length + 1) * z.length ≤ 16777216) (h : Q (.str (Txt.replace x y z)) H) : ReplV y z (.str x) H Q := ⟨x, rfl, hb, h⟩
end
end Z

set_option Elab.async false
set_option linter.all false
set_option maxRecDepth 100000
set_option maxHeartbeats 2000500
/-! ### texts of a stock with a fault -/
namespace TW
open PySem TL TX Z
/-- what stands behind the bricks -/
def tailT (p q : List Nat) : List Nat := tl (" lap " : Str) ++ (p ++ (tl (" reach " : Str) ++ q))
def rowJ (bs : List Int) : List Nat := joinL [32] (rowW bs)
theorem lap_tl : tl (" lap " : Str) = 32 :: (lapS ++ [32]) := by decide
theorem reach_tl : tl (" reach " : Str) = 32 :: (reachS ++ [32]) := by decide
theorem tail_eq (p q : List Nat) : tailT p q = 32 :: (lapS ++ 32 :: (p ++ 32 :: (reachS ++ 32 :: q))) := by
  unfold tailT
  rw [lap_tl, reach_tl]
  simp [List.append_assoc]
theorem wds_tail {p q : List Nat} (hp : 32 ∉ p) (hq : 32 ∉ q) : wds (tailT p q) = [] :: [lapS, p, reachS, q] := by
  rw [tail_eq, wds_cons, wds_app, wds_app, wds_app, wds_free hp, wds_free hq, wds_free (by decide), wds_free (by decide)]
  rfl
theorem wds_rowJ {bs : List Int} (hn : bs ≠ []) : wds (rowJ bs) = rowW bs := wds_join (rowW_ne hn) rowW_free
theorem wds_row_lit {bs : List Int} (hn : bs ≠ []) {z : Str} {r : List Nat} (e : tl z = 32 :: r) : wds (rowJ bs ++ tl z) = rowW bs ++ wds r := by rw [e, wds_app, wds_rowJ hn]
theorem wds_T {bs : List Int} (hn : bs ≠ []) {p q : List Nat} (hp : 32 ∉ p) (hq : 32 ∉ q) : wds (rowJ bs ++ tailT p q) = rowW bs ++ [lapS, p, reachS, q] := by
  have h := wds_tail hp hq
  rw [tail_eq] at h ⊢
  rw [wds_app, wds_rowJ hn]
  rw [wds_cons] at h
  injection h with _ h
  rw [h]
theorem num_free {p : List Nat} (h : numeral p = true) : 32 ∉ p := by
  intro hm
  rw [numeral_no hm (.inl (by decide))] at h
  cases h
section
variable {bs : List Int} {p q : List Nat}
theorem four_no {B : List (List Nat)} {a b c d : List Nat} (h : (numeral b && numeral d && decide (a = lapS ∧ c = reachS)) = false) : shape (B ++ [a, b, c, d]) = false := by rw [shape_four, h, Bool.and_false]
theorem four_nb {B : List (List Nat)} {a b c d : List Nat} (h : numsOk B = false) : shape (B ++ [a, b, c, d]) = false := by rw [shape_four, h, Bool.false_and]
theorem sh1 : shape (wds (tl ("" : Str))) = false := by decide
theorem sh2 : shape (wds (tl (" " : Str))) = false := by decide
theorem sh3 : shape (wds (tl ("lap 1 reach 1" : Str))) = false := by decide
theorem sh4 (hp : 32 ∉ p) (hq : 32 ∉ q) : shape (wds (tailT p q)) = false := by
  rw [wds_tail hp hq]
  exact four_nb (B := [[]]) (by decide)
theorem sh5 (hn : bs ≠ []) (h4 : bs.length ≤ 4) : shape (wds (rowJ bs)) = false := by
  rw [wds_rowJ hn]
  exact shape_short (by unfold rowW; rw [List.length_map]; exact h4)
theorem sh6 (hn : bs ≠ []) (hp : 32 ∉ p) (hq : 32 ∉ q) : shape (wds (tl (" " : Str) ++ (rowJ bs ++ tailT p q))) = false := by
  rw [show tl (" " : Str) = [32] from by decide]
  show shape (wds (32 :: (rowJ bs ++ tailT p q))) = false
  rw [wds_cons, wds_T hn hp hq]
  exact four_nb (B := [] :: rowW bs) (numsOk_no List.mem_cons_self numeral_nil)
theorem app_last {p q r s x : List Nat} {B : List (List Nat)} : (B ++ [p, q, r, s]) ++ [x] = (B ++ [p]) ++ [q, r, s, x] := by simp
theorem sh7 (hn : bs ≠ []) (hp : 32 ∉ p) (hq : 32 ∉ q) : shape (wds (rowJ bs ++ tailT p q ++ tl (" " : Str))) = false := by
  rw [show tl (" " : Str) = 32 :: [] from by decide, wds_app, wds_T hn hp hq, wds_nil, app_last]
  exact four_no (by rw [numeral_nil, Bool.and_false, Bool.false_and])
theorem sh8 (hn : bs ≠ []) (hp : 32 ∉ p) (hq : 32 ∉ q) (hq2 : q ≠ reachS) : shape (wds (rowJ bs ++ tailT p q ++ tl (" 1" : Str))) = false := by
  rw [show tl (" 1" : Str) = 32 :: [49] from by decide, wds_app, wds_T hn hp hq, show wds [49] = [[49]] from by decide, app_last]
  exact four_no (by rw [show numeral reachS = false from by decide, Bool.false_and, Bool.false_and])
theorem sh9 (hn : bs ≠ []) : shape (wds (rowJ bs ++ tl ("  lap 1 reach 1" : Str))) = false := by
  rw [wds_row_lit hn (r := 32 :: [108, 97, 112, 32, 49, 32, 114, 101, 97, 99, 104, 32, 49]) (by decide), show wds (32 :: [108, 97, 112, 32, 49, 32, 114, 101, 97, 99, 104, 32, 49]) = [[]] ++ [lapS, [49], reachS, [49]] from by decide, ← List.append_assoc]
  exact four_nb (numsOk_no (List.mem_append_right _ List.mem_cons_self) numeral_nil)
theorem sh10 (hn : bs ≠ []) : shape (wds (rowJ bs ++ tl (" reach 1 lap 1" : Str))) = false := by
  rw [wds_row_lit hn (r := [114, 101, 97, 99, 104, 32, 49, 32, 108, 97, 112, 32, 49]) (by decide), show wds [114, 101, 97, 99, 104, 32, 49, 32, 108, 97, 112, 32, 49] = [reachS, [49], lapS, [49]] from by decide]
  exact four_no (by decide)
theorem sh11 (hn : bs ≠ []) (hp : 32 ∉ p) (hq : 32 ∉ q) : shape (wds (rowJ bs ++ tailT p q ++ tl ("\n" : Str))) = false := by
  have e : tailT p q ++ [10] = tailT p (q ++ [10]) := by unfold tailT; simp [List.append_assoc]
  rw [show tl ("\n" : Str) = [10] from by decide, List.append_assoc, e, wds_T hn hp (by simpa using hq)]
  exact four_no (by rw [numeral_no (cs := q ++ [10]) (c := 10) (by simp) (.inl (by decide)), Bool.and_false, Bool.false_and])
theorem wds_lead (hn : bs ≠ []) (hp : 32 ∉ p) (hq : 32 ∉ q) {c : Nat} (hc : c ≠ 32) : ∃ x r, wds (c :: (rowJ bs ++ tailT p q)) = ((c :: x) :: r) ++ [lapS, p, reachS, q] := by
  cases hR : rowW bs with
  | nil => exact absurd hR (rowW_ne hn)
  | cons x r =>
    refine ⟨x, r, ?_⟩
    have e : c :: (rowJ bs ++ tailT p q) = joinL [32] ((c :: x) :: r) ++ tailT p q := by
      unfold rowJ
      rw [hR, ← joinL_cons, List.cons_append]
    have h := wds_tail hp hq
    rw [tail_eq] at h
    rw [e, tail_eq, wds_app, wds_join (by simp) (fun w hw => ?_)]
    · rw [wds_cons] at h
      injection h with _ h
      rw [h]
    · have hf := rowW_free (bs := bs)
      rw [hR] at hf
      rcases List.mem_cons.mp hw with rfl | hw
      · have := hf x List.mem_cons_self
        simp [this]
        omega
      · exact hf w (List.mem_cons_of_mem _ hw)
theorem sh12 (hn : bs ≠ []) (hp : 32 ∉ p) (hq : 32 ∉ q) : shape (wds (tl ("0" : Str) ++ (rowJ bs ++ tailT p q))) = false := by
  rw [show tl ("0" : Str) = [48] from by decide]
  obtain ⟨x, r, e⟩ := wds_lead hn hp hq (c := 48) (by decide)
  show shape (wds (48 :: (rowJ bs ++ tailT p q))) = false
  rw [e]
  exact four_nb (numsOk_no List.mem_cons_self (numeral_zero x))
theorem sh13 (hn : bs ≠ []) (hp : 32 ∉ p) (hq : 32 ∉ q) : shape (wds (tl ("+" : Str) ++ (rowJ bs ++ tailT p q))) = false := by
  rw [show tl ("+" : Str) = [43] from by decide]
  obtain ⟨x, r, e⟩ := wds_lead hn hp hq (c := 43) (by decide)
  show shape (wds (43 :: (rowJ bs ++ tailT p q))) = false
  rw [e]
  exact four_nb (numsOk_no List.mem_cons_self (numeral_no List.mem_cons_self (.inl (by decide))))
theorem wds_ltail (hp : 32 ∉ p) (hq : 32 ∉ q) {z : Str} (hz : 32 ∉ tl z) : wds (tl z ++ tailT p q) = [tl z] ++ [lapS, p, reachS, q] := by
  have h := wds_tail hp hq
  rw [tail_eq] at h ⊢
  rw [wds_app, wds_free hz]
  rw [wds_cons] at h
  injection h with _ h
  rw [h]
theorem sh14 (hp : 32 ∉ p) (hq : 32 ∉ q) : shape (wds (tl ("-1" : Str) ++ tailT p q)) = false := by
  rw [wds_ltail hp hq (by decide)]
  exact four_nb (by decide)
theorem sh15 (hp : 32 ∉ p) (hq : 32 ∉ q) : shape (wds (tl ("1000" : Str) ++ tailT p q)) = false := by
  rw [wds_ltail hp hq (by decide)]
  exact four_nb (by decide)
theorem sh20 (hp : 32 ∉ p) (hq : 32 ∉ q) : shape (wds (tl ("0" : Str) ++ tailT p q)) = false := by
  rw [wds_ltail hp hq (by decide)]
  exact four_nb (by decide)
theorem sh16 (hn : bs ≠ []) : shape (wds (rowJ bs ++ tl (" Lap 1 reach 1" : Str))) = false := by
  rw [wds_row_lit hn (r := [76, 97, 112, 32, 49, 32, 114, 101, 97, 99, 104, 32, 49]) (by decide), show wds [76, 97, 112, 32, 49, 32, 114, 101, 97, 99, 104, 32, 49] = [[76, 97, 112], [49], reachS, [49]] from by decide]
  exact four_no (by decide)
theorem sh17 (hn : bs ≠ []) : shape (wds (rowJ bs ++ tl (" lap 1 reach x" : Str))) = false := by
  rw [wds_row_lit hn (r := [108, 97, 112, 32, 49, 32, 114, 101, 97, 99, 104, 32, 120]) (by decide), show wds [108, 97, 112, 32, 49, 32, 114, 101, 97, 99, 104, 32, 120] = [lapS, [49], reachS, [120]] from by decide]
  exact four_no (by decide)
theorem sh18 (hn : bs ≠ []) : shape (wds (rowJ bs ++ tl (" lap 01 reach 1" : Str))) = false := by
  rw [wds_row_lit hn (r := [108, 97, 112, 32, 48, 49, 32, 114, 101, 97, 99, 104, 32, 49]) (by decide), show wds [108, 97, 112, 32, 48, 49, 32, 114, 101, 97, 99, 104, 32, 49] = [lapS, [48, 49], reachS, [49]] from by decide]
  exact four_no (by decide)
theorem sh19 (hn : bs ≠ []) : shape (wds (rowJ bs ++ tl (" lap reach 1" : Str))) = false := by
  rw [wds_row_lit hn (r := [108, 97, 112, 32, 114, 101, 97, 99, 104, 32, 49]) (by decide), show wds [108, 97, 112, 32, 114, 101, 97, 99, 104, 32, 49] = [lapS, reachS, [49]] from by decide]
  have e := List.dropLast_concat_getLast (rowW_ne hn)
  rw [← e, List.append_assoc]
  exact four_no (by rw [show numeral lapS = false from by decide, Bool.false_and, Bool.false_and])
theorem sh21 (hn : bs ≠ []) : shape (wds (rowJ bs ++ tl (" lap 0 reach 1" : Str))) = false := by
  rw [wds_row_lit hn (r := [108, 97, 112, 32, 48, 32, 114, 101, 97, 99, 104, 32, 49]) (by decide), show wds [108, 97, 112, 32, 48, 32, 114, 101, 97, 99, 104, 32, 49] = [lapS, [48], reachS, [49]] from by decide]
  exact four_no (by decide)
theorem join_free : ∀ {ps : List (List Nat)}, (∀ w ∈ ps, 32 ∉ w) → 32 ∉ joinL [44] ps
  | [], _ => by simp [joinL]
  | [w], h => h w List.mem_cons_self
  | w :: v :: r, h => by
    have ih := join_free (ps := v :: r) fun x hx => h x (List.mem_cons_of_mem _ hx)
    have h1 := h w List.mem_cons_self
    show 32 ∉ w ++ ([44] ++ joinL [44] (v :: r))
    simp [h1, ih]
theorem sh22 : shape (wds (joinL [44] (rowW bs) ++ tl (", lap 1 reach 1" : Str))) = false := by
  rw [show tl (", lap 1 reach 1" : Str) = [44] ++ 32 :: [108, 97, 112, 32, 49, 32, 114, 101, 97, 99, 104, 32, 49] from by decide, ← List.append_assoc, wds_app, wds_free (by simpa using join_free rowW_free), show wds [108, 97, 112, 32, 49, 32, 114, 101, 97, 99, 104, 32, 49] = [lapS, [49], reachS, [49]] from by decide]
  exact four_nb (numsOk_no List.mem_cons_self (numeral_no (c := 44) (by simp) (.inl (by decide))))
/-! texts that tell a stock: bricks B, words p, q -/
theorem shape_yes {B : List (List Nat)} (hB : B ≠ []) (h : ∀ w ∈ B, numeral w = true) (hp : numeral p = true) (hq : numeral q = true) : shape (B ++ [lapS, p, reachS, q]) = true := by
  rw [shape_four, numsOk_yes hB h, hp, hq]
  rfl
theorem replace_row {x : Str} (hn : bs ≠ []) (hx : tl x = rowJ bs) : tl (Txt.replace x (" " : Str) ("," : Str)) = joinL [44] (rowW bs) := by
  have h := StrLaws.replace_one x ("," : Str) 32
  rw [show (⟨#[32]⟩ : Str) = (" " : Str) from by decide] at h
  rw [h, tl_join, wds_split, hx, wds_rowJ hn]
  rfl
end
theorem row_len {bs : List Int} {ys : List Str} {i : Nat} (h : ys.map tl = rowW (bs.take i)) : ys.length = min i bs.length := by
  have := congrArg
        List.length h
  rw [List.length_map] at this
  unfold rowW at this
  rw [List.length_map, List.length_take] at this
  exact this
theorem row_snoc {bs : List Int} {ys : List Str} {i : Nat} {b : Int} (h : ys.map tl = rowW (bs.take i)) (e : bs[i]? = some b) (h0 : 0 ≤ b) : (ys ++ [Str.ofString (toString b)]).map tl = rowW (bs.take (i + 1)) := by
  rw [List.map_append, h, List.take_add_one, e]
  unfold rowW
  rw [List.map_append]
  show _ ++ [tl (Str.ofString (toString b))] = _ ++ [numL b.natAbs]
  rw [tl_int, numI_pos h0]
theorem ok_app {a b : Str} (h : PyData.strOk a = true) (h2 : PyData.strOk b = true) : PyData.strOk (a ++ b) = true := by
  rw [strOk_iff] at *
  intro c hc
  rw [tl_append] at hc
  rcases List.mem_append.mp
        hc with hc | hc
  · exact h c hc
  · exact h2 c hc
theorem ok_int (i : Int) : PyData.strOk (Str.ofString (toString i)) = true := by
  rw [strOk_iff]
  intro c hc
  rw [tl_int] at hc
  unfold numI at hc
  split at hc
  · rcases List.mem_cons.mp
        hc with rfl | hc
    · decide
    · have := numL_digits _ c hc; omega
  · have := numL_digits _ c hc; omega
theorem joinL_mem {s : List Nat} : ∀ {ps : List (List Nat)} {c : Nat}, c ∈ joinL s ps → c ∈ s ∨ ∃ p ∈ ps, c ∈ p
  | [p], c, h => .inr ⟨p, List.mem_cons_self, h⟩
  | p :: q :: r, c, h => by
    have h : c ∈ p ++ (s ++ joinL s (q :: r)) := h
    rcases List.mem_append.mp
          h with h | h
    · exact .inr ⟨p, List.mem_cons_self, h⟩
    · rcases List.mem_append.mp
          h with h | h
      · exact .inl h
      · rcases joinL_mem h with h | ⟨x, hx, h⟩
        · exact .inl h
        · exact .inr ⟨x, List.mem_cons_of_mem _ hx, h⟩
theorem ok_rowJ {z : Str} {s : Nat} {bs : List Int} (hs : s < 0x110000) (h : tl z = joinL [s] (rowW bs)) : PyData.strOk z = true := by
  rw [strOk_iff]
  intro c hc
  rw [h] at hc
  rcases joinL_mem hc with hc | ⟨p, hp, hc⟩
  · cases List.mem_singleton.mp hc; exact hs
  · obtain ⟨b, _, rfl⟩ := List.mem_map.mp hp
    have := numL_digits _ c hc
    omega
theorem len2 {a b : Str} (ha : a.length ≤ 5000) (hb : b.length ≤ 5000) : (a ++ b).length ≤ 10000 := by rw [len_app]; omega
theorem rowJ_snoc {bs : List Int} (hn : bs ≠ []) (b : Int) : rowJ bs ++ (tl (" " : Str) ++ numL b.natAbs) = rowJ (bs ++ [b]) := by
  unfold rowJ rowW
  rw [List.map_append, joinL_app _ _ _ (by simpa using hn) (by simp), show tl (" " : Str) = [32] from by decide]
  rfl
theorem tail_51 : tl (" lap 5 reach 1" : Str) = tailT [53] [49] := by decide
theorem tail_1n (w : List Nat) : tl (" lap 1 reach " : Str) ++ w = tailT [49] w := by
  unfold tailT
  rw [show tl (" lap 1 reach " : Str) = tl (" lap " : Str) ++ ([49] ++ tl (" reach " : Str)) from by decide]
  simp [List.append_assoc]
theorem row_12345 : tl ("1 2 3 4 5" : Str) = rowJ [1, 2, 3, 4, 5] := by decide
theorem row_21 : tl ("2 1" : Str) = rowJ [2, 1] := by decide
/-! rows with a fault -/
theorem spl_end {s : List Nat} (hs : 32 ∉ s) : ∀ (u acc : List Nat), ∃ B x, spl [32] 0 acc (u ++ s) = B ++ [x ++ s]
  | [], acc => ⟨[], acc, by rw [List.nil_append, spl_last1 hs]; rfl⟩
  | c :: r, acc => by
    by_cases h : c = 32
    · subst h
      obtain ⟨B, x, e⟩ := spl_end hs r []
      refine ⟨acc :: B, x, ?_⟩
      rw [List.cons_append, spl_hit (by rw [pre1]; rfl)]
      show acc :: spl [32] 0 [] (r ++ s) = _
      rw [e]
      rfl
    · obtain ⟨B, x, e⟩ := spl_end hs r (acc ++ [c])
      refine ⟨B, x, ?_⟩
      rw [List.cons_append, spl_miss (by rw [pre1, decide_eq_false h]), e]
theorem nums_end {s u : List Nat} {c : Nat} (hs : 32 ∉ s) (hc : c ∈ s) (h : c < 48 ∨ 57 < c) : numsOk (wds (u ++ s)) = false := by
  obtain ⟨B, x, e⟩ := spl_end hs u []
  have e : wds (u ++ s) = B ++ [x ++ s] := e
  rw [e]
  exact numsOk_no (List.mem_append_right _ List.mem_cons_self) (numeral_no (List.mem_append_right x hc) h)
theorem nums_app {u r : List Nat} {w : List Nat} (hw : w ∈ wds r) (h : numeral w = false) : numsOk (wds (u ++ 32 :: r)) = false := by
  rw [wds_app]
  exact numsOk_no (List.mem_append_right _ hw) h
theorem nums_lead {u r : List Nat} {w : List Nat} (hw : w ∈ wds u) (h : numeral w = false) : numsOk (wds (u ++ 32 :: r)) = false := by
  rw [wds_app]
  exact numsOk_no (List.mem_append_left _ hw) h
theorem nums_row {cs : List Int} (hn : cs ≠ []) (h : ∀ c ∈ cs, 1 ≤ c ∧ c < 1000) : numsOk (wds (rowJ cs)) = true ∧ (wds (rowJ cs)).map valI = cs := by
  rw [wds_rowJ hn]
  exact ⟨numsOk_yes (rowW_ne hn) (rowW_num h), rowW_val fun c hc => (h c hc).1⟩
theorem rowJ_cons {cs : List Int} (hn : cs ≠ []) (c : Int) : numL c.natAbs ++ (tl (" " : Str) ++ rowJ cs) = rowJ (c :: cs) := by
  rw [show tl (" " : Str) = [32] from by decide]
  cases cs with
  | nil => exact absurd rfl hn
  | cons a r => rfl
theorem sum_rep (m : Nat) : ∀ n : Nat, ((List.replicate n m).sum : Nat) = n * m
  | 0 => by rw [Nat.zero_mul]; rfl
  | n + 1 => by rw [List.replicate_succ, List.sum_cons, sum_rep m n, Nat.succ_mul, Nat.add_comm]
theorem rep_row {y : Str} {b : Int} (n : Nat) (e : tl y = numL b.natAbs) : tl (Txt.join (" " : Str) (List.replicate n y)) = rowJ (List.replicate n b) := by
  rw [join_eq, tl_join]
  unfold rowJ rowW
  rw [List.map_replicate, List.map_replicate, e, show tl (" " : Str) = [32] from by decide]
end TW
namespace Z
open PySem L2
theorem hu65 {X : Cx} {k : Nat} (hr : Room k X.A) : X.A.units + 65 < cLine := by have := hr.un; omega
theorem wInDt {K : PySem.W.Frag} {H : Hp} {L : List En} {Q : VK} {x y : V} {d : PyData} {ds : List PyData} (F : Fx H L) (a : Dt L x d) (b : Dt L y (.list ds)) (sd : SeqAt.shaped d = true) (se : SeqAt.shaped (.list ds) = true) (h : Q (.bl (ds.any fun z => PyData.eqv z d)) H) : L2.rInD K x y H Q := ⟨d, ds, a.dp F, b.dp F, sd, se, h⟩
end Z

set_option Elab.async false
set_option linter.all false
set_option maxRecDepth 100000
set_option maxHeartbeats 2000500
/-! ### texts: every second sign, repeated, counted along -/
namespace Z
open PySem PySem.Spec
      PyProof.Rows L2
section
variable {X : Cx} {K : PySem.W.Frag} {H : Hp} {L : List En} {Q : VK} {o e : Expr} {to te : TE} {σ : L2.St}
theorem pick2 (z : Str) (l : Option (Int × Tok)) (t : Tok) (k : Nat) (hl : (k = 0 ∧ l = none) ∨ (k = 1 ∧ ∃ u, l = some (1, u))) : (slicePicked z l none (some (2, t))).filterMap (z.cps[·]?) = step2 (z.cps.toList.drop k) := by
  unfold slicePicked Builtin.Str.strSliceIndices
  have hn : z.length = z.cps.toList.length := by rw [Array.length_toList]; rfl
  rw [← step2_pick 0, List.length_drop, hn]
  generalize hN : z.cps.toList.length = n
  have e1 : ∀ i : Nat, (z.cps.toList.drop k)[2 * i]? = z.cps[k + 2 * i]? := fun i => by rw [List.getElem?_drop, Array.getElem?_toList]
  have key : ∀ a : Int, a = ((min k n : Nat) : Int) → (sliceRange a (n : Int) 2).filterMap (z.cps[·]?) = (List.range ((n - k + 1) / 2)).filterMap fun i => (z.cps.toList.drop k)[2 * i]? := by
    intro a ha
    subst ha
    unfold sliceRange
    have ec : (if (2 : Int) > 0 then (if ((min k n : Nat) : Int) < (n : Int) then ((n : Int) - ((min k n : Nat) : Int) + 2 - 1) / 2 else 0) else (if ((min k n : Nat) : Int) > (n : Int) then (((min k n : Nat) : Int) - (n : Int) - 2 - 1) / (-2) else 0) : Int).toNat = (n - k + 1) / 2 := by
      rw [if_pos (by decide)]
      by_cases h : ((min k n : Nat) : Int) < (n : Int)
      · rw [if_pos h]; omega
      · rw [if_neg h]; omega
    dsimp only
    rw [ec, List.filterMap_map]
    refine fm_congr fun i hi => ?_
    have hi := List.mem_range.mp hi
    show z.cps[(((min k n : Nat) : Int) + 2 * (i : Int)).toNat]? = _
    rw [e1, show (((min k n : Nat) : Int) + 2 * (i : Int)).toNat = k + 2 * i from by omega]
  rcases hl with ⟨rfl, rfl⟩ | ⟨rfl, u, rfl⟩
  · exact key 0 (by omega)
  · refine key _ ?_
    show (if (2 : Int) > 0 then max 0 (min (if (1 : Int) < 0 then 1 + (n : Int) else 1) (n : Int)) else _) = _
    rw [if_pos (by decide), if_neg (by decide)]
    omega
def tStrStep (k : Nat) (te : TE) : TE := fun σ H Q => te σ H fun x H1 => ∃ z : Str, x = .str z ∧ z.length ≤ sizeLine ∧ Q (.str ⟨(step2 (z.cps.toList.drop k)).toArray⟩) H1
theorem step_post {z : Str} {t : Tok} {l : Option (Int × Tok)} {u : Tok} {k : Nat} (hl : (k = 0 ∧ l = none) ∨ (k = 1 ∧ ∃ u, l = some (1, u))) {Q : Value → Shared → Prop} {s : Shared} (hz : z.length ≤ sizeLine)
    (h : Q (.str ⟨(step2 (z.cps.toList.drop k)).toArray⟩ s.toks) { s with toks := s.toks + 1 }) : (sliceMade z t l none (some (2, u))).post Q s := by
  unfold sliceMade
  rw [pick2 z l u k hl]
  show (if ((2 : Int) == 1 && _) = true then _ else _ : Made).post Q s
  rw [if_neg (by rw [show ((2 : Int) == 1) = false from rfl]; simp)]
  refine ⟨?_, h⟩
  show (step2 (z.cps.toList.drop k)).toArray.size ≤ sizeLine
  have h1 := step2_len (z.cps.toList.drop k)
  rw [List.length_drop] at h1
  rw [List.size_toArray]
  have h2 : z.cps.toList.length ≤ sizeLine := hz
  omega
theorem pe_strStep0 {j2 : Nat} {p3 p4 pos : Pos} (he : PE X e te) : PE X (.Subscript e (.Slice none none (some (.Constant (.int 2) j2 p4)) p3) pos) (tStrStep 0 te) := by
  refine ⟨fun pins
        s σ H Q I h => ?_⟩
  refine Subscript_ (thn (he.run pins s σ H
        _ I h) fun v s1 ⟨x, H1, I1, r1, q1⟩ => ?_)
  obtain ⟨z, ex, hz, q⟩ := q1
  subst ex
  obtain ⟨t, rfl⟩ := r1
  have hst : PO X (some (.Constant (.int 2) j2 p4)) (tPart (tC (.int 2))) := po_some pe_int
  refine wpAny_Slice (thn (po_none.run pins s1 σ H1 (fun o H2 => o = none
        ∧ H2 = H1) I1 ⟨rfl, rfl⟩) fun vl s2 ⟨l, H2, I2, pl, el, e2⟩ => ?_)
  subst el e2
  refine thn (po_none.run pins s2 σ H2 (fun o H3 => o = none ∧ H3
        = H2) I2 ⟨rfl, rfl⟩) fun vu s3 ⟨u, H3, I3, pu, eu, e3⟩ => ?_
  subst eu e3
  refine thn (hst.run pins s3 σ H3 (fun o H4 => o = some 2 ∧ H4 = H3) I3 ⟨2, rfl, rfl, rfl⟩) fun vs s4 ⟨o, H4, I4, ps, eo, e4⟩ => ?_
  subst eo e4
  obtain ⟨l', rfl, el'⟩ := IsPart.raw pl
  obtain ⟨u', rfl, eu'⟩ := IsPart.raw pu
  obtain ⟨st', rfl, es'⟩ := IsPart.raw ps
  cases l' with
  | some w => cases el'
  | none =>
  cases u' with
  | some w => cases eu'
  | none =>
  cases st' with
  | none => cases es'
  | some w =>
  obtain ⟨w1, w2⟩ := w
  have es' : w1 = 2 := by simpa using es'
  subst es'
  have I5 : Inv X pins σ H4 { s4 with heap := s4.heap.push { cls := .type "slice", data := .fields #[partValue none, partValue none, partValue (some (2, w2))] } } := I4.kept (t' := s4.toks) fun b ob q => Heap.get?_push_of_some _ q
  show wpAny (model X.prog X.w) X.A (subscriptTail e (.Slice none none (some (.Constant (.int 2) j2 p4)) p3) (.str z t) (.ref s4.heap.objs.size)) (EP X pins σ Q) X.xe { s4 with heap := s4.heap.push { cls := .type "slice", data := .fields #[partValue none, partValue none, partValue (some (2, w2))] } }
  refine tail_any (ops := [.ref s4.heap.objs.size, .str z t]) (typeIs_str _ _ _) (F.slot_str_getitem.lookup) ?_ (by with_unfolding_all rfl)
  refine wpAny_getItem_str_slice (l := none) (u := none) (st := some (2, w2)) ⟨_, Heap.get?_push_size _ rfl, rfl, rfl⟩ rfl ?_
  exact step_post (.inl ⟨rfl, rfl⟩) hz ⟨.str _, H4, I5.tok _, ⟨_, rfl⟩, q⟩
theorem pe_strStep1 {j1 j2 : Nat} {p1 p3 p4 pos : Pos} (he : PE X e te) : PE X (.Subscript e (.Slice (some (.Constant (.int 1) j1 p1)) none (some (.Constant (.int 2) j2 p4)) p3) pos) (tStrStep 1 te) := by
  refine ⟨fun pins
        s σ H Q I h => ?_⟩
  refine Subscript_ (thn (he.run pins s σ H
        _ I h) fun v s1 ⟨x, H1, I1, r1, q1⟩ => ?_)
  obtain ⟨z, ex, hz, q⟩ := q1
  subst ex
  obtain ⟨t, rfl⟩ := r1
  have hlo : PO X (some (.Constant (.int 1) j1 p1)) (tPart (tC (.int 1))) := po_some pe_int
  have hst : PO X (some (.Constant (.int 2) j2 p4)) (tPart (tC (.int 2))) := po_some pe_int
  refine wpAny_Slice (thn (hlo.run pins s1 σ H1 (fun o H2 => o = some 1 ∧ H2 = H1) I1 ⟨1, rfl, rfl, rfl⟩) fun vl s2 ⟨l, H2, I2, pl, el, e2⟩ => ?_)
  subst el e2
  refine thn (po_none.run pins s2 σ H2 (fun o H3 => o = none ∧ H3
        = H2) I2 ⟨rfl, rfl⟩) fun vu s3 ⟨u, H3, I3, pu, eu, e3⟩ => ?_
  subst eu e3
  refine thn (hst.run pins s3 σ H3 (fun o H4 => o = some 2 ∧ H4 = H3) I3 ⟨2, rfl, rfl, rfl⟩) fun vs s4 ⟨o, H4, I4, ps, eo, e4⟩ => ?_
  subst eo e4
  obtain ⟨l', rfl, el'⟩ := IsPart.raw pl
  obtain ⟨u', rfl, eu'⟩ := IsPart.raw pu
  obtain ⟨st', rfl, es'⟩ := IsPart.raw ps
  cases u' with
  | some w => cases eu'
  | none =>
  cases l' with
  | none => cases el'
  | some v =>
  cases st' with
  | none => cases es'
  | some w =>
  obtain ⟨w1, w2⟩ := w
  obtain ⟨v1, v2⟩ := v
  have es' : w1 = 2 := by simpa using es'
  have el' : v1 = 1 := by simpa using el'
  subst es' el'
  have I5 : Inv X pins σ H4 { s4 with heap := s4.heap.push { cls := .type "slice", data := .fields #[partValue (some (1, v2)), partValue none, partValue (some (2, w2))] } } := I4.kept (t' := s4.toks) fun b ob q => Heap.get?_push_of_some _ q
  show wpAny (model X.prog X.w) X.A (subscriptTail e (.Slice (some (.Constant (.int 1) j1 p1)) none (some (.Constant (.int 2) j2 p4)) p3) (.str z t) (.ref s4.heap.objs.size)) (EP X pins σ Q) X.xe { s4 with heap := s4.heap.push { cls := .type "slice", data := .fields #[partValue (some (1, v2)), partValue none, partValue (some (2, w2))] } }
  refine tail_any (ops := [.ref s4.heap.objs.size, .str z t]) (typeIs_str _ _ _) (F.slot_str_getitem.lookup) ?_ (by with_unfolding_all rfl)
  refine wpAny_getItem_str_slice (l := some (1, v2)) (u := none) (st := some (2, w2)) ⟨_, Heap.get?_push_size _ rfl, rfl, rfl⟩ rfl ?_
  exact step_post (.inr ⟨rfl, _, rfl⟩) hz ⟨.str _, H4, I5.tok _, ⟨_, rfl⟩, q⟩
def StrStepV (k : Nat) (x : V) (H : Hp) (Q : VK) : Prop := ∃ z : Str, x = .str z ∧ z.length ≤ sizeLine ∧ Q (.str ⟨(step2 (z.cps.toList.drop k)).toArray⟩) H
theorem wStrStep {k : Nat} (h : te σ H fun x H1 => StrStepV k x H1 Q) : tStrStep k te σ H Q := h
theorem wStrStepV {k : Nat} {z : Str} (hz : z.length ≤ sizeLine) (h : Q (.str ⟨(step2 (z.cps.toList.drop k)).toArray⟩) H) : StrStepV k (.str z) H Q := ⟨z, rfl, hz, h⟩
/-- text * n -/
def repS (a : Str) (n : Int) : Str := ⟨(List.replicate n.toNat a.cps.toList).flatten.toArray⟩
theorem reps_any (a : Array Nat) : ∀ (k : Nat) (acc : Array Nat), (List.replicate k a).foldl (· ++ ·) acc = acc ++ (List.replicate k a.toList).flatten.toArray
  | 0, acc => by simp
  | k + 1, acc => by
    rw [List.replicate_succ, List.foldl_cons, reps_any a k, List.replicate_succ, List.flatten_cons]
    apply Array.toList_inj.mp
    simp
def rMulT : R2 := fun x y H Q => ∃ (a : Str) (n : Int), x = .str a ∧ y = .int n ∧ 1 ≤ n ∧ n ≤ 1000 ∧ 1 ≤ a.length ∧ a.length ≤ 1000 ∧ Q (.str (repS a n)) H
theorem op_mulT : OpR X (binaryOp .Mult) rMulT := by
  intro pins s σ H x
        y v u Q I rx ry h
  obtain ⟨a, n, rfl, rfl, h1, h2, h3, h4, q⟩ := h
  obtain ⟨t, rfl⟩ := rx
  obtain ⟨t', rfl⟩ := ry
  have lb := line_big
  refine PySem.P.mul_str (by rw [decide_eq_false (by omega), decide_eq_false (by omega)]; rfl) (fun _ _ => ?_) (fun _ _ => ?_) ?_
  · have : (1000 : Int) ≤ (2 ^ 63 - 1) / n := by
      apply (Int.le_ediv_iff_mul_le (by omega)).mpr
      omega
    omega
  · unfold Builtin.Str.tooLong
    simp only
          [decide_eq_false_iff_not]
    have : a.length * n.toNat ≤ 1000 * 1000 := Nat.mul_le_mul h4 (by omega)
    omega
  · rw [if_neg (by omega)]
    by_cases hn : n = 1
    · subst hn
      rw [if_pos (by rfl)]
      have e : repS a 1 = a := by
        unfold repS
        show (⟨(List.replicate 1 a.cps.toList).flatten.toArray⟩ : Str) = a
        simp
      rw [e] at q
      exact ⟨.str a, H, I, ⟨t, rfl⟩, q⟩
    · have e0 : (n == 1) = false := by rw [beq_eq_false_iff_ne]; exact hn
      have e2 : (a.length == 0) = false := by rw [beq_eq_false_iff_ne]; omega
      rw [e0, e2, if_neg (by decide), reps_any, show (#[] : Array Nat) ++ (List.replicate n.toNat a.cps.toList).flatten.toArray = (List.replicate n.toNat a.cps.toList).flatten.toArray from by simp]
      refine ⟨?_, .str (repS a n), H, I.tok _, ⟨_, rfl⟩, q⟩
      show (List.replicate n.toNat a.cps.toList).flatten.toArray.size ≤ sizeLine
      rw [List.size_toArray, List.length_flatten, List.map_replicate, TW.sum_rep, Array.length_toList]
      have : n.toNat * a.length ≤ 1000 * 1000 := Nat.mul_le_mul (by omega) h4
      have e3 : a.length = a.cps.size := rfl
      rw [← e3]
      omega
theorem wMulT {a : Str} {n : Int} (h1 : 1 ≤ n) (h2 : n ≤ 1000) (h3 : 1 ≤ a.length) (h4 : a.length ≤ 1000) (h : Q (.str (repS a n)) H) : rMulT (.str a) (.int n) H Q := ⟨a, n, rfl, rfl, h1, h2, h3, h4, h⟩
end
/-! ### enumerate over a text -/
section
variable {X : Cx}
def IteS (z : Str) : It :=
  ⟨fun i _ => i < z.cps.size, fun i H v H' => ∃ T c, v = .ref T ∧ H T = none ∧ z.cps[i]? = some c ∧ H' = upd H T (.tup [.int (i : Nat), .str ⟨#[c]⟩]), fun i _ => z.cps.size ≤ i⟩
theorem turn_enumX {P : Program} {w : World} {K : PySem.W.Frag} {elts : List Expr} {kk : Nat} {tpos : Pos} (z : Str) (t : Tok) (e it : Addr) :
    Turn P w K (.Tuple elts kk tpos) (IteS z) [e, it] e (fun i h => (∃ old, IsEnum h e it ((i : Nat) : Int) old) ∧ h.IsStrIter it (strIterType z) z t i ∧ e ≠ it ∧ i ≤ z.cps.size) where
  mem := by simp
  obj := fun i h st b hb => by
    obtain ⟨⟨old, he⟩, ⟨o, ho, hd⟩, _⟩ := st
    rcases (show b = e ∨ b = it by simpa using hb) with q | q
    · rw [q]; exact ⟨_, he, fun v q => nomatch q⟩
    · rw [q]; exact ⟨o, ho, fun v q => by rw [hd.2] at q; cases q⟩
  keep := fun i h h' st k => by
    obtain ⟨⟨old, he⟩, ⟨o, ho, hd⟩, hne, hle⟩ := st
    exact ⟨⟨old, k e (by simp) _ he⟩, ⟨o, k it (by simp) o ho, hd⟩, hne, hle⟩
  item := by
    intro X hP hw hK hc i
          pins s σ H E I hf st hg
    subst hP hw hK
    obtain ⟨⟨old, he⟩, hit, hne, hle⟩ := st
    have hel : e < s.heap.objs.size
          := Heap.lt_size he
    have hil : it < s.heap.objs.size := by
      obtain ⟨o, q, _⟩ := hit
      exact Heap.lt_size q
    have hae : e ∉ [it] := fun q => hne (List.mem_singleton.mp q)
    refine wpAny_pyNext_enum_itemD (Draws.text (by exact (I.ok.hd hc)) it z t) he hit hg hne hae fun x' h' tk hP ho hs' hT hsz hk => ?_
    obtain ⟨c, u, hc2, rfl⟩ := hP
    refine ⟨_, rfl, wpAny_letOwnedTupleGo_enum (s := { s with heap := h', toks := tk + 1 }) ho fun h'' he' sb => ?_⟩
    have hT2 : h''.get? s.heap.objs.size = some { cls := .type "tuple", data := .seq #[.int i tk, .str ⟨#[c]⟩ u] } := (sb.2 _ (Nat.ne_of_gt hel)).trans hT
    have new : ObjOk X.prog X.w (upd H s.heap.objs.size (.tup [.int (i : Nat), .str ⟨#[c]⟩])) h'' s.heap.objs.size (.tup [.int (i : Nat), .str ⟨#[c]⟩]) :=
      ⟨by show 2 ≤ sizeLine; decide, [.int i tk, .str ⟨#[c]⟩ u], .cons ⟨_, rfl⟩ (.cons ⟨_, rfl⟩ .nil), ⟨_, hT2, rfl, _, rfl⟩⟩
    have I1 : Inv X pins σ (upd H s.heap.objs.size (.tup [.int (i : Nat), .str ⟨#[c]⟩])) { s with heap := h'', toks := tk + 1 } :=
      I.turnedNew (ch := [e, it]) (fun b ob hb q => (sb.2 b (fun y => hb (by simp [y]))).trans (hk b ob (fun y => hb (by simp [y])) (fun y => hb (by simp [y])) q)) hf (Nat.le_refl _) new
    refine ⟨.ref s.heap.objs.size, _, I1, rfl, ⟨_, c, rfl, I.hok.fresh (Nat.le_refl _), hc2, rfl⟩, ⟨⟨.str ⟨#[c]⟩ u, ?_⟩, ?_, hne, hg⟩, fun b hb => ?_⟩
    · have e1 : ((i + 1 : Nat) :
          Int) = (i : Int) + 1 := by omega
      rw [e1]
      exact he'
    · obtain ⟨o, q, r⟩ := hs'
      exact ⟨o, (sb.2 it (Ne.symm hne)).trans q, r⟩
    · have hb' : b <
          s.heap.objs.size := by
        rcases (show b = e ∨ b = it by simpa using hb) with q | q
        · rw [q]; exact hel
        · rw [q]; exact hil
      rw [upd_ne
            (Nat.ne_of_lt hb')]
      exact (hf b hb).1
  done := by
    intro X hP hw hK hc i
          pins s σ H E I hf st hg
    subst hP hw hK
    obtain ⟨⟨old, he⟩, hit, hne, hle⟩ := st
    obtain ⟨f0, f1, f2, f3,
          f4, f5⟩ := hf it (by simp)
    have hi : i = z.cps.size := Nat.le_antisymm hle hg
    subst hi
    exact wpAny_pyNext_enum_endD (Draws.text (by exact (I.ok.hd hc)) it z t) he hit fun h' hx => ⟨rfl, I.turned (t' := s.toks) (fun b o hb q => hx b o hb q) f0 f1 f3 f4 f5⟩
  self := fun A i s Q E st h => let ⟨⟨_,
        he⟩, _⟩ := st; wpAny_pyIter_enum he h
def iEnumX (ta : TA) : TI := fun σ H R => ta σ H fun vs H1 => ∃ z : Str, vs = [.str z] ∧ R (IteS z) H1
theorem pi_enumX {e : Expr} {ta : TA} {p pos tpos : Pos} {elts : List Expr} {kk : Nat} (hg : Gl X "enumerate") (hm : X.mg "enumerate" = none) (ha : PA X [e] ta) (hs : starEach [e] X.env = [(false, eval e X.env)] := by rfl) :
    PI X (.Tuple elts kk tpos) (.Call (.Name "enumerate" p) [e] [] pos) (iEnumX ta) := by
  refine ⟨fun pins
        s σ H R I h => ?_⟩
  refine Call_ (ld_blt I hg hm boot_enumerate (PyProof.Rows.callWith_type1 (thn
        (ha.run pos pins s σ H _ I h) fun us s1 ⟨vs, H1, I1, r1, q1⟩ => ?_) hs rfl))
  obtain ⟨z, ex, q⟩ := q1
  subst ex
  cases r1 with
  | cons r rr =>
    cases rr
    obtain ⟨t, rfl⟩ := r
    refine enum_begins1 (begins_text z t) trivial fun h' he hit hk => wpAny_pyIter_enum he ?_
    have I2 : Inv X pins σ H1 {
          s1 with heap := h' } := I1.kept (t' := s1.toks) hk
    refine ⟨s1.heap.objs.size + 1, [s1.heap.objs.size + 1, s1.heap.objs.size], _, _, H1, rfl, I2, turn_enumX z t (s1.heap.objs.size + 1) s1.heap.objs.size, ⟨⟨.none, he⟩, ⟨_, hit, rfl, rfl⟩, Nat.succ_ne_self _, Nat.zero_le _⟩, fun b hb => ?_, q⟩
    have hle :
          s1.heap.objs.size ≤ b := by
      rcases (show b = s1.heap.objs.size + 1 ∨ b = s1.heap.objs.size by simpa using hb) with q | q
      · rw [q]; exact Nat.le_add_right _ _
      · rw [q]; exact Nat.le_refl _
    exact I1.fpOk hle
          (I1.hok.fresh hle)
theorem walk_enumX {z : Str} : Walk (IteS z) z.cps.size (fun _ => True) (YPair (fun i => some (.int (i : Nat))) (fun i => (z.cps[i]?).map fun c => V.str ⟨#[c]⟩)) := by
  refine ⟨fun i _ hi _ => hi, fun _ _ => Nat.le_refl _, fun i H v H' _ _ y => ?_⟩
  obtain ⟨T, c, h1, h2, h3, h4⟩ := y
  exact ⟨T, .int (i : Nat), .str ⟨#[c]⟩, h1, h2, h4, rfl, by show Option.map _ (z.cps[i]?) = _; rw [h3]; rfl⟩
def GoX (vs : List V) (H : Hp) (R : It → Hp → Prop) : Prop := ∃ z : Str, vs = [.str z] ∧ R (IteS z) H
theorem wIX {σ : L2.St} {H : Hp} {RI : It → Hp → Prop} {ta : TA} (h : ta σ H fun vs H1 => GoX vs H1 RI) : iEnumX ta σ H RI := h
theorem wGoX {z : Str} {H : Hp} {RI : It → Hp → Prop} (h : RI (IteS z) H) : GoX [.str z] H RI := ⟨z, rfl, h⟩
end
end Z

set_option Elab.async false
set_option linter.all false
set_option maxRecDepth 100000
set_option maxHeartbeats 2000500
/-! ### rows of a text: any one sign as the border -/
namespace TR
open PySem TL TX Z
theorem preS {s c : Nat} {r : List Nat} : pre [s] (c :: r) = decide (c = s) := by
  unfold pre
  show ((c :: r.take 0) == [s]) = _
  by_cases h : c = s
  · subst h; simp
  · rw [decide_eq_false h]
    show (c == s && ([] : List Nat) == []) = false
    rw [beq_eq_false_iff_ne.mpr h]; rfl
theorem splS_app (s : Nat) : ∀ (x acc y : List Nat), spl [s] 0 acc (x ++ s :: y) = spl [s] 0 acc x ++ spl [s] 0 [] y
  | [], acc, y => by
    rw [List.nil_append, spl_hit (by rw [preS]; simp), spl_nil]
    rfl
  | c :: r, acc, y => by
    rw [List.cons_append]
    by_cases h : c = s
    · subst h
      rw [spl_hit (by rw [preS]; simp), spl_hit (by rw [preS]; simp)]
      show acc :: spl [c] 0 [] (r ++ c :: y) = acc :: spl [c] 0 [] r ++ _
      rw [splS_app c r [] y]
      rfl
    · have e : pre [s] (c :: (r ++ s :: y)) = false := by rw [preS, decide_eq_false h]
      have e2 : pre [s] (c :: r) = false := by rw [preS, decide_eq_false h]
      rw [spl_miss e, spl_miss e2, splS_app s r _ y]
theorem splS_size (s : Nat) : ∀ (cs acc : List Nat), (spl [s] 0 acc cs).length ≤ cs.length + 1 ∧ ∀ p ∈ spl [s] 0 acc cs, p.length ≤ acc.length + cs.length
  | [], acc => by rw [spl_nil]; exact ⟨Nat.le_refl _, fun p hp => by cases List.mem_singleton.mp hp; exact Nat.le_refl _⟩
  | c :: r, acc => by
    by_cases h : c = s
    · subst h
      rw [spl_hit (by rw [preS]; simp)]
      obtain ⟨a, b⟩ := splS_size c r []
      refine ⟨Nat.succ_le_succ a, fun p hp => ?_⟩
      rcases List.mem_cons.mp
            hp with rfl | hp
      · exact Nat.le_add_right _ _
      · have := b p hp
        simp only [List.length_cons, List.length_nil] at *
        omega
    · rw [spl_miss (by rw [preS, decide_eq_false h])]
      obtain ⟨a, b⟩ := splS_size s r (acc ++ [c])
      refine ⟨by simp only [List.length_cons]; omega, fun p hp => ?_⟩
      have := b p hp
      simp only [List.length_append, List.length_cons, List.length_nil] at *
      omega
theorem splS_mem (s : Nat) : ∀ (cs acc : List Nat), ∀ p ∈ spl [s] 0 acc cs, ∀ c ∈ p, c ∈ acc ∨ c ∈ cs
  | [], acc, p, hp, c, hc => by
    rw [spl_nil] at hp
    cases List.mem_singleton.mp hp
    exact .inl hc
  | d :: r, acc, p, hp, c, hc => by
    by_cases h : d = s
    · subst h
      rw [spl_hit (by rw [preS]; simp)] at hp
      rcases List.mem_cons.mp
            hp with rfl | hp
      · exact .inl hc
      · rcases splS_mem d r [] p hp c hc with h | h
        · exact absurd h (by simp)
        · exact .inr (List.mem_cons_of_mem _ h)
    · rw [spl_miss (by rw [preS, decide_eq_false h])] at hp
      rcases splS_mem s r (acc ++ [d]) p hp c hc with h | h
      · rcases List.mem_append.mp
            h with h | h
        · exact .inl h
        · exact .inr (by rw [List.mem_singleton.mp h]; exact List.mem_cons_self)
      · exact .inr (List.mem_cons_of_mem _ h)
theorem splS_ne (s : Nat) : ∀ (cs acc : List Nat), spl [s] 0 acc cs ≠ []
  | [], acc => by rw [spl_nil]; simp
  | c :: r, acc => by
    by_cases h : c = s
    · subst h; rw [spl_hit (by rw [preS]; simp)]; simp
    · rw [spl_miss (by rw [preS, decide_eq_false h])]; exact splS_ne s r _
/-- the rows of a text -/
def rowsT (z : Str) : List Str := Txt.split z ("\n" : Str)
theorem rowsT_tl (z : Str) : (rowsT z).map tl = spl [10] 0 [] (tl z) := split_spl z ("\n" : Str) (by decide) (kind_ok (by decide +kernel))
theorem rowsT_size {z : Str} : (rowsT z).length ≤ z.length + 1 ∧ (∀ w ∈ rowsT z, w.length ≤ z.length) ∧ rowsT z ≠ [] := by
  obtain ⟨a, b⟩ := splS_size 10 (tl z) []
  have e := rowsT_tl z
  have el := congrArg List.length e
  rw [List.length_map] at el
  refine ⟨by rw [el, len_tl]; exact a, fun w hw => ?_, fun h => ?_⟩
  · have := b (tl w) (by rw [← e]; exact List.mem_map_of_mem hw)
    rw [len_tl w, len_tl z]
    simpa using this
  · rw [h] at e
    exact splS_ne 10 (tl z) [] e.symm
theorem rowsT_ok {z : Str} (h : PyData.strOk z = true) : ∀ w ∈ rowsT z, PyData.strOk w = true := by
  intro w hw
  rw [TW.strOk_iff] at h ⊢
  intro c hc
  have hm : tl w ∈ spl [10] 0 [] (tl z) := by
    rw [← rowsT_tl z]
    exact List.mem_map_of_mem hw
  rcases splS_mem 10 (tl z) [] (tl w) hm c hc with h2 | h2
  · exact absurd h2 (by simp)
  · exact h c h2
/-- a text joined of rows has these rows -/
theorem rowsT_join {rows : List Str} (hn : rows ≠ []) (h : ∀ w ∈ rows, 10 ∉ tl w) : rowsT (Txt.join ("\n" : Str) rows) = rows :=
  split_join (s := 10) (S := []) (by decide) (by decide +kernel) hn h
theorem rowsT_more {z w : Str} (hw : 10 ∉ tl w) : rowsT (z ++ ("\n" : Str) ++ w) = rowsT z ++ [w] := by
  refine map_tl_inj ?_
  rw [rowsT_tl, List.map_append, rowsT_tl, tl_append, tl_append, show tl ("\n" : Str) = [10] from by decide, List.append_assoc]
  show spl [10] 0 [] (tl z ++ 10 :: tl w) = _
  rw [splS_app, spl_last1 hw]
  rfl
theorem join_len (rows : List Str) {k : Nat} (h : ∀ w ∈ rows, w.length ≤ k) : (Txt.join ("\n" : Str) rows).length ≤ rows.length * (k + 1) := by
  have h1 := Z.len_join ("\n" : Str) rows
  have h2 : ∀ rs : List Str, (∀ w ∈ rs, w.length ≤ k) → (rs.map (·.length)).sum ≤ rs.length * k := by
    intro rs
    induction rs with
    | nil => intro _; simp
    | cons a r ih =>
      intro h
      have a1 := h a List.mem_cons_self
      have a2 := ih fun w hw => h w (List.mem_cons_of_mem _ hw)
      simp only [List.map_cons, List.sum_cons,
            List.length_cons, Nat.succ_mul]
      omega
  have h3 := h2 rows h
  have e : ("\n" : Str).length = 1 := by decide
  rw [e, Nat.mul_one] at h1
  rw [Nat.mul_add, Nat.mul_one]
  omega
theorem sum_le {k : Nat} : ∀ {rs : List Str}, (∀ w ∈ rs, w.length ≤ k) → (rs.map (·.length)).sum ≤ rs.length * k
  | [], _ => by simp
  | a :: r, h => by
    have a1 := h a List.mem_cons_self
    have a2 := sum_le (rs := r) fun w hw => h w (List.mem_cons_of_mem _ hw)
    simp only [List.map_cons, List.sum_cons,
          List.length_cons, Nat.succ_mul]
    omega
/-! the first row that is wrong -/
def rowBad (f : Str → Option Str) (g : Str → List Int) (rows : List Str) (i : Nat) : Option Str := match f (rows.getD i "") with
  | some w => some w
  | none => if (g (rows.getD i "")).sum = (g (rows.getD 0 "")).sum then none else some "length"
theorem rowBad_f {f : Str → Option Str} {g : Str → List Int} {rows : List Str} {i : Nat} {w : Str} (h : f (rows.getD i "") = some w) : rowBad f g rows i = some w := by unfold rowBad; rw [h]
theorem rowBad_no {f : Str → Option Str} {g : Str → List Int} {rows : List Str} {i : Nat} (h : f (rows.getD i "") = none) : rowBad f g rows i = if (g (rows.getD i "")).sum = (g (rows.getD 0 "")).sum then none else some ("length" : Str) := by unfold rowBad; rw [h]
theorem rowBad_good {f : Str → Option Str} {g : Str → List Int} {rows : List Str} {i : Nat} (h : rowBad f g rows i = none) : f (rows.getD i "") = none ∧ (g (rows.getD i "")).sum = (g (rows.getD 0 "")).sum := by
  unfold rowBad at h
  cases hf : f (rows.getD i "") with
  | some w => rw [hf] at h; cases h
  | none =>
    rw [hf] at h
    refine ⟨rfl, ?_⟩
    by_cases e : (g (rows.getD i "")).sum = (g (rows.getD 0 "")).sum
    · exact e
    · have h : (if (g (rows.getD i "")).sum = (g (rows.getD 0 "")).sum then none else some ("length" : Str)) = none := h
      rw [if_neg e] at h
      cases h
theorem ok_join {rows : List Str} (h : ∀ w ∈ rows, PyData.strOk w = true) : PyData.strOk (Txt.join ("\n" : Str) rows) = true := by
  rw [TW.strOk_iff]
  intro c hc
  rw [join_eq, tl_join] at hc
  rcases TW.joinL_mem hc with hc | ⟨p, hp, hc⟩
  · rw [show tl ("\n" : Str) = [10] from by decide] at hc
    cases List.mem_singleton.mp hc
    decide
  · obtain ⟨w, hw, rfl⟩ := List.mem_map.mp hp
    exact TW.strOk_iff.mp (h w hw) c hc
end TR
namespace Z
open PySem L2
theorem cut_to {xs : List V} (k : Nat) : cutV xs none (some (k : Int)) = xs.take k := by
  unfold cutV
  rw [HT.sIx_nat]
  show ((xs.drop 0).take (min k xs.length - 0)) = _
  rw [List.drop_zero, Nat.sub_zero]
  by_cases h : k ≤ xs.length
  · rw [Nat.min_eq_left h]
  · rw [Nat.min_eq_right (by omega), List.take_of_length_le
        (Nat.le_refl _), List.take_of_length_le (by omega)]
theorem cut_from {xs : List V} (k : Nat) : cutV xs (some (k : Int)) none = xs.drop k := by
  unfold cutV
  rw [HT.sIx_nat]
  show ((xs.drop (min k xs.length)).take (xs.length - min k xs.length)) = _
  by_cases h : k ≤ xs.length
  · rw [Nat.min_eq_left h, List.take_of_length_le (by rw [List.length_drop]; exact Nat.le_refl _)]
  · rw [Nat.min_eq_right (by omega), List.drop_of_length_le
        (Nat.le_refl _), List.drop_of_length_le (by omega)]
    simp
end Z
namespace Z
open PySem L2
/-- " ".join([str(b) for b in bs]) -/
theorem wRowC {K : PySem.W.Frag} {σ : L2.St} {i : Nat} {H : Hp} {L : List En} {a : V} {bs : List Int} {Q : VK} (hi : i < σ.length) (hs : SeqIs L a (some (bs.map V.int))) (F : Fx H L) (hlen : bs.length ≤ 1000) (hbr : ∀ b ∈ bs, 0 ≤ b ∧ b < 1000)
    (q : ∀ z H', TL.tl z = TW.rowJ bs → z.length ≤ 4 * bs.length → Fx H' L → Q (.str z) H') :
    GoS K a H fun J H1 => ∀ D, H1 D = none → ∃ W : Nat → Nat → Hp → Prop, (∃ m, W 0 m (upd H1 D (.lst []))) ∧ ∀ j m H, W j m H →
      (J.stop j H ∧ rJoin K (.str (" " : Str)) [.ref D] H Q) ∨ (J.go j H ∧ ∃ Nx : Hp → Prop, (∀ H', Nx H' → ∃ m', m' < m ∧ W (j + 1) m' H') ∧ ∀ x H', J.yld j H x H' → gName i x (wipe σ [i]) H' fun σ2 H2 => wipe σ2 [i] = wipe σ [i] ∧ tYes σ2 H2 fun b H3 =>
        if b = true then tCB rStrI (tCons (tVar i) tNil) σ2 H3 fun y H4 => ∃ acc, H4 D = some (.lst acc) ∧ acc.length < sizeLine ∧ Nx (upd H4 D (.lst (acc ++ [y]))) else Nx H3) := by
  have lb := line_big
  refine wLcS hs F (fun i acc L' => L' = L ∧ ∃ ys : List Str, acc = ys.map V.str ∧ ys.map TL.tl = TW.rowW (bs.take i) ∧ (ys.map (·.length)).sum ≤ 3 * i) ⟨rfl, [], rfl, rfl, Nat.le_refl _⟩ (fun _ _ _ r => by rw [r.1]; exact fun _ h => h) ?_ ?_
  · rintro j x D H1 acc L' hx ⟨rfl, ys, rfl, hy, hl⟩ F1
    obtain ⟨b, hb', rfl⟩ : ∃ b, bs[j]? = some b ∧ V.int b = x := by
      rw [List.getElem?_map] at hx
      cases hh : bs[j]? with
      | none => rw [hh] at hx; cases hx
      | some w => rw [hh] at hx; exact ⟨w, rfl, by injection hx⟩
    have hb2 := hbr b (List.mem_of_getElem? hb')
    show _ ∧ _
    refine ⟨?_, ?_⟩
    · show ((σ.set i none).set i (some (V.int b))).set i none = σ.set i none
      rw [List.set_set, List.set_set]
    show ∃ v, ((σ.set i none).set i (some (V.int b)))[i]? = some (some v) ∧ _
    refine ⟨V.int b, by rw [List.set_set, List.getElem?_set_self hi], ?_⟩
    refine wStrI (TW.log_small (by omega)) ?_
    have hi : j < bs.length := (List.getElem?_eq_some_iff.mp hb').1
    have hyl := TW.row_len hy
    refine lcPut F1 (by rw [List.length_map]; omega) ⟨rfl, ys ++ [Str.ofString (toString b)], by rw [List.map_append]; rfl, TW.row_snoc hy hb' hb2.1, ?_⟩
    rw [List.map_append, List.sum_append]
    have := TW.len_str hb2.1 hb2.2
    show _ + ((Str.ofString (toString b)).length + 0) ≤ _
    omega
  rintro D acc L' H2 F2 ⟨rfl, ys, rfl, hy, hl⟩
  rw [List.length_map] at hl hy
  rw [List.take_length] at hy
  have hyl : ys.length = bs.length := by
    have := TW.row_len (i := bs.length) (by rw [List.take_length]; exact hy)
    omega
  have e1c : (" " : Str).length = 1 := by decide
  have lrow := len_join (" " : Str) ys
  refine wJoin (F2.lst List.mem_cons_self) (by rw [e1c]; omega) ?_
  refine q _ _ ?_ (by rw [e1c] at lrow; omega) (F2.sub (List.sublist_cons_self _ _))
  rw [TL.join_eq, TL.tl_join, hy]
  rfl
end Z

set_option Elab.async false
set_option linter.all false
set_option maxRecDepth 100000
set_option maxHeartbeats 2000500
/-! ### the picture of a course -/
namespace TP
open PySem TL TX Z
def body : List Int → List Nat
  | [] => []
  | c :: r => List.replicate (2 * c.toNat - 1) 95 ++ 124 :: body r
def picL (cs : List Int) : List Nat := 124 :: body cs
/-- every second sign of a picture, behind the first -/
def marks : List Int → List Nat
  | [] => []
  | c :: r => List.replicate (c.toNat - 1) 95 ++ 124 :: marks r
def tot (cs : List Int) : Nat := (cs.map Int.toNat).sum
theorem tot_cons (c : Int) (r : List Int) : tot (c :: r) = c.toNat + tot r := rfl
theorem tot_sum : ∀ {cs : List Int}, (∀ c ∈ cs, 1 ≤ c) → (tot cs : Int) = cs.sum
  | [], _ => rfl
  | c :: r, h => by
    have a := h c List.mem_cons_self
    have b := tot_sum (cs := r) fun d hd => h d (List.mem_cons_of_mem _ hd)
    rw [tot_cons, List.sum_cons]
    omega
theorem split1 {c : Int} (h : 1 ≤ c) : ∃ k : Nat, c.toNat = k + 1 := ⟨c.toNat - 1, by omega⟩
theorem body_len : ∀ {cs : List Int}, (∀ c ∈ cs, 1 ≤ c) → (body cs).length = 2 * tot cs
  | [], _ => rfl
  | c :: r, h => by
    have a := h c List.mem_cons_self
    have b := body_len (cs := r) fun d hd => h d (List.mem_cons_of_mem _ hd)
    rw [tot_cons]
    show (List.replicate _ _ ++ 124 :: body r).length = _
    rw [List.length_append, List.length_replicate, List.length_cons, b]
    omega
theorem marks_len : ∀ {cs : List Int}, (∀ c ∈ cs, 1 ≤ c) → (marks cs).length = tot cs
  | [], _ => rfl
  | c :: r, h => by
    have a := h c List.mem_cons_self
    have b := marks_len (cs := r) fun d hd => h d (List.mem_cons_of_mem _ hd)
    rw [tot_cons]
    show (List.replicate _ _ ++ 124 :: marks r).length = _
    rw [List.length_append, List.length_replicate, List.length_cons, b]
    omega
theorem step2_rep (a : Nat) (l : List Nat) : ∀ k : Nat, step2 (List.replicate (2 * k) a ++ l) = List.replicate k a ++ step2 l
  | 0 => rfl
  | k + 1 => by
    rw [show 2 * (k + 1) = 2 * k + 1 + 1 from by omega, List.replicate_succ, List.replicate_succ, List.replicate_succ]
    show a :: step2 (List.replicate (2 * k) a ++ l) = _
    rw [step2_rep a l k]
    rfl
theorem rep_odd (k : Nat) : List.replicate (2 * (k + 1) - 1) 95 = (95 :: List.replicate (2 * k) 95 : List Nat) := by
  rw [show 2 * (k + 1) - 1 = 2 * k + 1 from by omega, List.replicate_succ]
theorem even_body : ∀ {cs : List Int}, (∀ c ∈ cs, 1 ≤ c) → step2 (124 :: body cs) = 124 :: marks cs
  | [], _ => rfl
  | c :: r, h => by
    obtain ⟨k, e⟩ := split1 (h c List.mem_cons_self)
    have b := even_body (cs := r) fun d hd => h d (List.mem_cons_of_mem _ hd)
    show step2 (124 :: (List.replicate (2 * c.toNat - 1) 95 ++ 124 :: body r)) = 124 :: (List.replicate (c.toNat - 1) 95 ++ 124 :: marks r)
    rw [e, rep_odd]
    show 124 :: step2 (List.replicate (2 * k) 95 ++ 124 :: body r) = _
    rw [step2_rep, b]
    rfl
theorem odd_body : ∀ {cs : List Int}, (∀ c ∈ cs, 1 ≤ c) → step2 (body cs) = List.replicate (tot cs) 95
  | [], _ => rfl
  | c :: r, h => by
    obtain ⟨k, e⟩ := split1 (h c List.mem_cons_self)
    have b := odd_body (cs := r) fun d hd => h d (List.mem_cons_of_mem _ hd)
    show step2 (List.replicate (2 * c.toNat - 1) 95 ++ 124 :: body r) = _
    rw [tot_cons, e, show 2 * (k + 1) - 1 = 2 * k + 1 from by omega, List.replicate_succ', List.append_assoc, step2_rep]
    show List.replicate k 95 ++ (95 :: step2 (body r)) = _
    rw [b, show k + 1 + tot r = k + (tot r + 1) from by omega, List.replicate_append_replicate.symm, List.replicate_succ]
theorem pic_len {cs : List Int} (h : ∀ c ∈ cs, 1 ≤ c) : (picL cs).length = 2 * tot cs + 1 := by
  show (body cs).length + 1 = _
  rw [body_len h]
/-- the places of the joints' sign -/
def pos (k : Int) : List Nat → List Int
  | [] => []
  | c :: r => if c = 124 then k :: pos (k + 1) r else pos (k + 1) r
theorem pos_rep (l : List Nat) : ∀ (m : Nat) (k : Int), pos k (List.replicate m 95 ++ l) = pos (k + m) l
  | 0, k => by
    show pos k l = pos (k + 0) l
    rw [Int.add_zero]
  | m + 1, k => by
    rw [List.replicate_succ]
    show (if (95 : Nat) = 124 then _ else pos (k + 1) (List.replicate m 95 ++ l)) = _
    rw [if_neg (by decide), pos_rep l m (k + 1)]
    congr 1
    omega
theorem pos_app : ∀ (a b : List Nat) (k : Int), pos k (a ++ b) = pos k a ++ pos (k + a.length) b
  | [], b, k => by
    show pos k b = pos (k + 0) b
    rw [Int.add_zero]
  | c :: r, b, k => by
    have e : k + 1 + (r.length : Int) = k + ((r.length + 1 : Nat) : Int) := by omega
    show (if c = 124 then k :: pos (k + 1) (r ++ b) else pos (k + 1) (r ++ b)) = (if c = 124 then k :: pos (k + 1) r else pos (k + 1) r) ++ pos (k + ((r.length + 1 : Nat) : Int)) b
    rw [pos_app r b (k + 1), e]
    by_cases h : c = 124
    · rw [if_pos h, if_pos h]; rfl
    · rw [if_neg h, if_neg h]
/-- the running sums -/
def cum : Int → List Int → List Int
  | _, [] => []
  | s, c :: r => (s + c) :: cum (s + c) r
theorem pos_marks : ∀ {cs : List Int} (s : Int), (∀ c ∈ cs, 1 ≤ c) → pos (s + 1) (marks cs) = cum s cs
  | [], _, _ => rfl
  | c :: r, s, h => by
    have a := h c List.mem_cons_self
    obtain ⟨k, e⟩ := split1 a
    have b := pos_marks (cs := r) (s + c) fun d hd => h d (List.mem_cons_of_mem _ hd)
    show pos (s + 1) (List.replicate (c.toNat - 1) 95 ++ 124 :: marks r) = (s + c) :: cum (s + c) r
    rw [pos_rep]
    show (if (124 : Nat) = 124 then _ :: pos (s + 1 + ((c.toNat - 1 : Nat) : Int) + 1) (marks r) else _) = _
    rw [if_pos rfl, show s + 1 + ((c.toNat - 1 : Nat) : Int) = s + c from by omega, b]
theorem pos_even {cs : List Int} (h : ∀ c ∈ cs, 1 ≤ c) : pos 0 (124 :: marks cs) = 0 :: cum 0 cs := by
  show (if (124 : Nat) = 124 then 0 :: pos (0 + 1) (marks cs) else _) = _
  rw [if_pos rfl, pos_marks 0 h]
theorem pos_mem : ∀ {l : List Nat} {k : Int} {p : Nat}, p < l.length → (k + (p : Int) ∈ pos k l ↔ l[p]? = some 124)
  | [], _, _, h => absurd
        h (Nat.not_lt_zero _)
  | c :: r, k, p, h => by
    have low : ∀ (l : List Nat) (k : Int), ∀ y ∈ pos k l, k ≤ y := by
      intro l
      induction l with
      | nil => intro k y hy; cases hy
      | cons d l ih =>
        intro k y hy
        have hy : y ∈ (if d = 124 then k :: pos (k + 1) l else pos (k + 1) l) := hy
        by_cases hd : d = 124
        · rw [if_pos hd] at hy
          rcases List.mem_cons.mp
                hy with h | h
          · omega
          · have := ih (k + 1) y h; omega
        · rw [if_neg hd] at hy
          have := ih (k + 1) y hy; omega
    cases p with
    | zero =>
      show (k + 0 ∈ (if c = 124 then k :: pos (k + 1) r else pos (k + 1) r)) ↔ some c = some 124
      rw [Int.add_zero]
      by_cases hc : c = 124
      · rw [if_pos hc]; exact ⟨fun _ => by rw [hc], fun _ => List.mem_cons_self⟩
      · rw [if_neg hc]
        exact ⟨fun h => by have := low r (k + 1) k h; omega, fun h => absurd (by injection h) hc⟩
    | succ p =>
      have ih := pos_mem (l := r) (k := k + 1) (p := p) (by simpa using h)
      rw [show k + 1 + (p : Int) = k + ((p + 1 : Nat) : Int) from by omega] at ih
      rw [List.getElem?_cons_succ, ← ih]
      show (_ ∈ (if c = 124 then k :: pos (k + 1) r else pos (k + 1) r)) ↔ _
      by_cases hc : c = 124
      · rw [if_pos hc, List.mem_cons]
        exact ⟨fun h => h.resolve_left (by omega), .inr⟩
      · rw [if_neg hc]
theorem marks_in : ∀ {cs : List Int}, ∀ c ∈ marks cs, c = 124 ∨ c = 95
  | [], c, h => by cases h
  | d :: r, c, h => by
    have h : c ∈ List.replicate (d.toNat - 1) 95 ++ 124 :: marks r := h
    rcases List.mem_append.mp
          h with h | h
    · exact .inr (List.eq_of_mem_replicate h)
    · rcases List.mem_cons.mp h with h | h
      · exact .inl h
      · exact marks_in (cs := r) c h
theorem body_in : ∀ {cs : List Int}, ∀ c ∈ body cs, c = 124 ∨ c = 95
  | [], c, h => by cases h
  | d :: r, c, h => by
    have h : c ∈ List.replicate (2 * d.toNat - 1) 95 ++ 124 :: body r := h
    rcases List.mem_append.mp
          h with h | h
    · exact .inr (List.eq_of_mem_replicate h)
    · rcases List.mem_cons.mp h with h | h
      · exact .inl h
      · exact body_in (cs := r) c h
theorem marks_last : ∀ {cs : List Int}, (124 :: marks cs).getLast? = some 124
  | [] => rfl
  | d :: r => by
    have e : (124 :: (List.replicate (d.toNat - 1) 95 ++ 124 :: marks r)).getLast? = some 124 := by
      rw [← List.cons_append, List.getLast?_append, marks_last (cs := r)]
      rfl
    exact e
/-- the signs of a picture, with the other ones between -/
theorem join_marks : ∀ {cs : List Int}, (∀ c ∈ cs, 1 ≤ c) → joinL [95] ((124 :: marks cs).map fun c => [c]) = picL cs
  | [], _ => rfl
  | c :: r, h => by
    obtain ⟨k, e⟩ := split1 (h c List.mem_cons_self)
    have b := join_marks (cs := r) fun d hd => h d (List.mem_cons_of_mem _ hd)
    have st : ∀ (a d : Nat) (l : List Nat), joinL [95] ((a :: d :: l).map fun c => [c]) = a :: 95 :: joinL [95] ((d :: l).map fun c => [c]) := fun _ _ _ => rfl
    have rp : ∀ (m : Nat) (a : Nat) (l : List Nat), joinL [95] ((a :: (List.replicate m 95 ++ 124 :: l)).map fun c => [c]) = a :: 95 :: (List.replicate (2 * m) 95 ++ joinL [95] ((124 :: l).map fun c => [c])) := by
      intro m
      induction m with
      | zero => intro a l; exact st a 124 l
      | succ m ih =>
        intro a l
        rw [List.replicate_succ, List.cons_append, st, ih, show 2 * (m + 1) = 2 * m + 1 + 1 from by omega, List.replicate_succ, List.replicate_succ]
        rfl
    show joinL [95] ((124 :: (List.replicate (c.toNat - 1) 95 ++ 124 :: marks r)).map fun c => [c]) = 124 :: (List.replicate (2 * c.toNat - 1) 95 ++ 124 :: body r)
    rw [e, rp, b, rep_odd]
    rfl
theorem body_app : ∀ (a b : List Int), body (a ++ b) = body a ++ body b
  | [], b => rfl
  | c :: r, b => by
    show List.replicate _ _ ++ 124 :: body (r ++ b) = (List.replicate _ _ ++ 124 :: body r) ++ body b
    rw [body_app r b, List.append_assoc]
    rfl
theorem marks_get {cs : List Int} (h : ∀ c ∈ cs, 1 ≤ c) {p : Nat} (hp : p ≤ tot cs) : (124 :: marks cs)[p]? = some (if (p : Int) ∈ (0 : Int) :: cum 0 cs then 124 else 95) := by
  have hl : p < (124 :: marks cs).length := by rw [List.length_cons, marks_len h]; omega
  have e := pos_mem (k := 0) hl
  rw [Int.zero_add, pos_even h] at e
  rw [List.getElem?_eq_getElem hl] at e ⊢
  by_cases c : (p : Int) ∈ (0 : Int) :: cum 0 cs
  · rw [if_pos c]; exact e.mp c
  · rw [if_neg c]
    have m : (124 :: marks cs)[p] ∈ 124 :: marks cs := List.getElem_mem hl
    have n : ¬ (124 :: marks cs)[p] = 124 := fun x => c (e.mpr (by rw [x]))
    rcases List.mem_cons.mp m with m | m
    · exact absurd m n
    · rcases marks_in _ m with m | m
      · exact absurd m n
      · rw [m]
/-! setting the signs one by one -/
theorem set_app {α : Type} (a b : List α) (x : α) (k : Nat) (h : a.length = k) : (a ++ b).set k x = a ++ b.set 0 x := by
  rw [List.set_append, if_neg (by omega), h, Nat.sub_self]
theorem set_cum : ∀ {cs : List Int} (A : List Nat) (s : Nat), (∀ c ∈ cs, 1 ≤ c) → A.length = 2 * s + 1 →
    (cum s cs).foldl (fun l p => l.set (2 * p.toNat) 124) (A ++ List.replicate (2 * tot cs) 95) = A ++ body cs
  | [], A, s, _, _ => rfl
  | c :: r, A, s, h, hA => by
    have a := h c List.mem_cons_self
    have e0 : (s : Int) + c = ((s + c.toNat : Nat) : Int) := by omega
    have e1 : List.replicate (2 * tot (c :: r)) 95 = List.replicate (2 * c.toNat - 1) 95 ++ 95 :: List.replicate (2 * tot r) (95 : Nat) := by
      rw [tot_cons, show 2 * (c.toNat + tot r) = (2 * c.toNat - 1) + (2 * tot r + 1) from by omega, ← List.replicate_append_replicate, List.replicate_succ]
    have hb : (A ++ List.replicate (2 * c.toNat - 1) 95).length = 2 * (s + c.toNat) := by rw [List.length_append, List.length_replicate]; omega
    have ih := set_cum (cs := r) (A ++ List.replicate (2 * c.toNat - 1) 95 ++ [124]) (s + c.toNat) (fun d hd => h d (List.mem_cons_of_mem _ hd)) (by rw [List.length_append, hb]; rfl)
    show (cum ((s : Int) + c) r).foldl _ ((A ++ List.replicate (2 * tot (c :: r)) 95).set (2 * ((s : Int) + c).toNat) 124) = _
    rw [e0, e1, ← List.append_assoc, Int.toNat_natCast, set_app _ _ _ _ hb]
    rw [List.append_assoc] at ih
    rw [List.append_assoc] at ih
    show (cum ((s + c.toNat : Nat) : Int) r).foldl _ ((A ++ List.replicate (2 * c.toNat - 1) 95) ++ 124 :: List.replicate (2 * tot r) 95) = A ++ (List.replicate (2 * c.toNat - 1) 95 ++ 124 :: body r)
    rw [List.append_assoc] at ih ⊢
    rw [List.append_assoc] at ih
    exact ih
theorem set_pic {cs : List Int} (h : ∀ c ∈ cs, 1 ≤ c) : ((0 : Int) :: cum 0 cs).foldl (fun l p => l.set (2 * p.toNat) 124) (List.replicate (2 * tot cs + 1) 95) = picL cs :=
  set_cum [124] 0 h rfl
/-! is it a picture? -/
def isPic (l : List Nat) : Bool := decide (l.length % 2 = 1 ∧ 3 ≤ l.length ∧ l.length ≤ 801) && ((step2 (l.drop 1)).all (· == 95) && ((step2 l).all (fun c => c == 124 || c == 95) && (decide ((step2 l).head? = some 124) && decide ((step2 l).getLast? = some 124))))
theorem isPic_yes {cs : List Int} (h : ∀ c ∈ cs, 1 ≤ c) (h1 : 1 ≤ tot cs) (h4 : tot cs ≤ 400) : isPic (picL cs) = true := by
  have e1 := even_body h
  have e2 := odd_body h
  unfold isPic
  rw [pic_len h]
  simp only [Bool.and_eq_true,
        decide_eq_true_eq]
  refine ⟨by omega, ?_, ?_, ?_, ?_⟩
  · rw [List.all_eq_true]
    intro c hc
    have hc : c ∈ step2 (body cs) := hc
    rw [e2] at hc
    rw [List.eq_of_mem_replicate hc]; rfl
  · rw [List.all_eq_true]
    intro c hc
    have hc : c ∈ step2 (124 :: body cs) := hc
    rw [e1] at hc
    rcases List.mem_cons.mp hc with h | h
    · rw [h]; rfl
    · rcases marks_in c h with h | h <;> (rw [h]; rfl)
  · show (step2 (124 :: body cs)).head? = _
    rw [e1]; rfl
  · show (step2 (124 :: body cs)).getLast? = _
    rw [e1, marks_last]
theorem isPic_len {l : List Nat} (h : ¬ (l.length % 2 = 1 ∧ 3 ≤ l.length ∧ l.length ≤ 801)) : isPic l = false := by
  unfold isPic
  rw [decide_eq_false h]
  rfl
theorem step2_get : ∀ {l : List Nat} {k : Nat}, (step2 l)[k]? = l[2 * k]?
  | [], _ => by simp [step2]
  | [x], k => by
    cases k with
    | zero => rfl
    | succ k =>
      show ([x] : List Nat)[k + 1]? = ([x] : List Nat)[2 * k + 1 + 1]?
      simp
  | x :: y :: r, k => by
    cases k with
    | zero => rfl
    | succ k =>
      show (step2 r)[k]? = r[2 * k]?
      exact step2_get
/-- a wrong sign at an odd place -/
theorem isPic_odd {l : List Nat} {p c : Nat} (h : l[2 * p + 1]? = some c) (hc : c ≠ 95) : isPic l = false := by
  have e : (step2 (l.drop 1))[p]? = some c := by rw [step2_get, List.getElem?_drop, Nat.add_comm]; exact h
  have m := List.mem_of_getElem? e
  have : (step2 (l.drop 1)).all (· == 95) = false := by
    rw [List.all_eq_false]
    exact ⟨c, m, by simpa using hc⟩
  unfold isPic
  rw [this, Bool.false_and, Bool.and_false]
/-- a wrong sign at an even place -/
theorem isPic_even {l : List Nat} {p c : Nat} (h : l[2 * p]? = some c) (hc : c ≠ 95) (hd : c ≠ 124) : isPic l = false := by
  have e : (step2 l)[p]? = some c := by rw [step2_get]; exact h
  have m := List.mem_of_getElem? e
  have : (step2 l).all (fun c => c == 124 || c == 95) = false := by
    rw [List.all_eq_false]
    exact ⟨c, m, by simp [hc, hd]⟩
  unfold isPic
  rw [this, Bool.false_and, Bool.and_false, Bool.and_false]
end TP
namespace Z
open PySem L2
theorem wInLi {K : PySem.W.Frag} {H : Hp} {Q : VK} {a : Addr} {ns : List Int} {z : Int} (s : SqL K H a (ns.map V.int)) (h : Q (.bl (decide (z ∈ ns))) H) : rIn K false (.int z) (.ref a) H Q :=
  ⟨a, _, rfl, .inl s, rfl, flat_ints ns, by rw [← inV_ints] at h; exact h⟩
end Z
namespace TP
open Z
theorem step2_length {α : Type} : ∀ l : List α, (step2 l).length = (l.length + 1) / 2
  | x :: y :: r => by
    have := step2_length r
    simp only [step2, List.length_cons]
    omega
  | [x] => by simp [step2]
  | [] => by simp [step2]
end TP
namespace TP
theorem pos_len : ∀ (l : List Nat) (k : Int), (pos k l).length ≤ l.length
  | [], _ => Nat.le_refl _
  | c :: r, k => by
    have := pos_len r (k + 1)
    show (if c = 124 then k :: pos (k + 1) r else pos (k + 1) r).length ≤ r.length + 1
    by_cases h : c = 124
    · rw [if_pos h, List.length_cons]; omega
    · rw [if_neg h]; omega
theorem pos_take {l : List Nat} {i c : Nat} (h : l[i]? = some c) : pos 0 (l.take (i + 1)) = pos 0 (l.take i) ++ if c = 124 then [(i : Int)] else [] := by
  have hi := (List.getElem?_eq_some_iff.mp h).1
  rw [List.take_add_one, h, pos_app, List.length_take, Nat.min_eq_left (by omega), Int.zero_add]
  rfl
end TP

set_option Elab.async false
set_option linter.all false
set_option maxRecDepth 100000
set_option maxHeartbeats 2000500
/-! ### slices of texts -/
namespace Z
open PySem L2
theorem wSlStr {z : Str} {lo hi : Option Int} {H : Hp} {Q : VK} (hz : z.length ≤ sizeLine) (h : Q (.str (cutS z lo hi)) H) : rSlS (.str z) lo hi H Q := ⟨z, rfl, hz, h⟩
theorem tl_cutS (z : Str) (lo hi : Option Int) : TL.tl (cutS z lo hi) = ((TL.tl z).drop (HT.sIx z.length 0 lo)).take (HT.sIx z.length z.length hi - HT.sIx z.length 0 lo) := rfl
theorem tl_from (z : Str) (k : Nat) : TL.tl (cutS z (some (k : Int)) none) = (TL.tl z).drop k := by
  rw [tl_cutS, HT.sIx_nat]
  have e : (TL.tl z).length = z.length := (TL.len_tl z).symm
  show List.take (z.length - min k z.length) (List.drop (min k z.length) (TL.tl z)) = _
  by_cases h : k ≤ z.length
  · rw [Nat.min_eq_left h, List.take_of_length_le (by rw [List.length_drop]; omega)]
  · rw [Nat.min_eq_right (by omega), List.drop_of_length_le (by omega), List.drop_of_length_le (by omega)]
    simp
theorem tl_to (z : Str) (k : Nat) : TL.tl (cutS z none (some (k : Int))) = (TL.tl z).take k := by
  rw [tl_cutS, HT.sIx_nat]
  have e : (TL.tl z).length = z.length := (TL.len_tl z).symm
  show List.take (min k z.length - 0) (List.drop 0 (TL.tl z)) = _
  rw [List.drop_zero, Nat.sub_zero]
  by_cases h : k ≤ z.length
  · rw [Nat.min_eq_left h]
  · rw [Nat.min_eq_right (by omega), List.take_of_length_le (by omega), List.take_of_length_le (by omega)]
theorem tl_mid (z : Str) (j k : Nat) (h : k ≤ z.length) (hj : j ≤ k) : TL.tl (cutS z (some (j : Int)) (some (k : Int))) = ((TL.tl z).drop j).take (k - j) := by
  rw [tl_cutS, HT.sIx_nat, HT.sIx_nat, Nat.min_eq_left h, Nat.min_eq_left (by omega)]
theorem ok_sub {z : Str} {w : Str} (h : PyData.strOk z = true) (hs : ∀ c ∈ TL.tl w, c ∈ TL.tl z) : PyData.strOk w = true := by
  rw [TW.strOk_iff] at h ⊢
  exact fun c hc => h c (hs c hc)
end Z
namespace TP
open TL TX Z
theorem isPic_len2 {l : List Nat} (h : l.length % 2 = 0 ∨ l.length < 3 ∨ 801 < l.length) : isPic l = false := isPic_len (by omega)
theorem pic_in {cs : List Int} : ∀ c ∈ picL cs, c = 124 ∨ c = 95 := by
  intro c hc
  rcases List.mem_cons.mp hc with h | h
  · exact .inl h
  · exact body_in c h
/-- what is at an odd place of a picture -/
theorem pic_odd {cs : List Int} (h : ∀ c ∈ cs, 1 ≤ c) {p : Nat} (hp : p < tot cs) : (picL cs)[2 * p + 1]? = some 95 := by
  have e : (step2 (body cs))[p]? = some 95 := by
    rw [odd_body h, List.getElem?_replicate, if_pos hp]
  rw [step2_get] at e
  show (124 :: body cs)[2 * p + 1]? = _
  rw [List.getElem?_cons_succ]
  exact e
/-- seven rows that are no pictures -/
theorem bad_more {l : List Nat} {cs : List Int} (e : l = picL cs) (h : ∀ c ∈ cs, 1 ≤ c) : isPic (l ++ [95]) = false := isPic_len2 (.inl (by rw [List.length_append, e, pic_len h]; show (_ + 1 + 1) % 2 = 0; omega))
theorem bad_less {l : List Nat} {cs : List Int} (e : l = picL cs) (h : ∀ c ∈ cs, 1 ≤ c) : isPic (l.drop 1) = false := isPic_len2 (.inl (by rw [List.length_drop, e, pic_len h]; omega))
theorem bad_lead {l : List Nat} {cs : List Int} (e : l = picL cs) (h : ∀ c ∈ cs, 1 ≤ c) : isPic (32 :: l) = false := isPic_len2 (.inl (by rw [List.length_cons, e, pic_len h]; omega))
theorem bad_end {l : List Nat} {cs : List Int} (e : l = picL cs) (h : ∀ c ∈ cs, 1 ≤ c) : isPic (l ++ [95, 32, 95, 124]) = false := by
  have hl : l.length = 2 * tot cs + 1 := by rw [e, pic_len h]
  refine isPic_even (p := tot cs + 1) (c := 32) ?_ (by decide) (by decide)
  rw [List.getElem?_append_right (by omega), hl, show 2 * (tot cs + 1) - (2 * tot cs + 1) = 1 from by omega]
  rfl
theorem bad_sign {l : List Nat} {n c : Nat} (hn : n < l.length) (hc : c = 120 ∨ (c = 124 ∧ n % 2 = 1)) : isPic (l.take n ++ [c] ++ l.drop (n + 1)) = false := by
  have g : (l.take n ++ [c] ++ l.drop (n + 1))[n]? = some c := by
    rw [List.append_assoc, List.getElem?_append_right (by rw [List.length_take]; omega), List.length_take, Nat.min_eq_left (by omega), Nat.sub_self]
    rfl
  by_cases h : n % 2 = 1
  · obtain ⟨p, rfl⟩ : ∃ p, n = 2 * p + 1 := ⟨n / 2, by omega⟩
    exact isPic_odd g (by omega)
  · obtain ⟨p, rfl⟩ : ∃ p, n = 2 * p := ⟨n / 2, by omega⟩
    rcases hc with hc | hc
    · exact isPic_even g (by omega) (by omega)
    · omega
/-- a row twice, without the second border -/
theorem pic_twice {l : List Nat} {cs : List Int} (e : l = picL cs) : l ++ l.drop 1 = picL (cs ++ cs) := by
  rw [e]
  show 124 :: (body cs ++ body cs) = 124 :: body (cs ++ cs)
  rw [body_app]
theorem body_rep (c : Int) : ∀ n : Nat, body (List.replicate n c) = (List.replicate n (List.replicate (2 * c.toNat - 1) 95 ++ [124])).flatten
  | 0 => rfl
  | n + 1 => by
    rw [List.replicate_succ, List.replicate_succ, List.flatten_cons, ← body_rep c n, List.append_assoc]
    rfl
theorem tot_rep (c : Int) (n : Nat) : tot (List.replicate n c) = n * c.toNat := by
  induction n with
  | zero => simp [tot]
  | succ n ih => rw [List.replicate_succ, tot_cons, ih, Nat.succ_mul]; omega
end TP

set_option Elab.async false
set_option linter.all false
set_option maxRecDepth 100000
set_option
      maxHeartbeats 4000000
namespace M
open PySem L2 RZ
local macro_rules | `(tactic| walk_at "zm") => `(tactic| with_reducible first | exact List.mem_cons_self | assumption | (refine List.mem_cons_of_mem _ ?_; walk_at "zm"))
local macro_rules | `(tactic| walk_at "zp") => `(tactic| with_reducible first | exact Z.Put.head | (refine Z.Put.tail ?_; walk_at "zp"))
local macro_rules | `(tactic| walk_at "zo") => `(tactic| first | omega | (simp only [List.length_map, List.length_cons, List.length_nil, List.length_append, List.length_range] at *; omega))
local macro_rules | `(tactic| walk_at "zF") => `(tactic| with_reducible assumption)
local macro_rules | `(tactic| walk_at "zsq") => `(tactic| first | exact Z.Fx.lst (by walk_at "zF") (by walk_at "zm") | exact Z.Fx.tup (by walk_at "zF") (by walk_at "zm") | with_reducible assumption | exact Z.Fx.frz (by walk_at "zF") (by walk_at "zm"))
local macro_rules | `(tactic| walk_at "zsL") => `(tactic| first | exact Z.Fx.lst (by walk_at "zF") (by walk_at "zm") | with_reducible assumption | exact Z.Fx.frz (by walk_at "zF") (by walk_at "zm"))
local macro_rules | `(tactic| walk_at "zsT") => `(tactic| first | exact Z.SqT.of (Z.Fx.get (by walk_at "zF") (by walk_at "zm")) | with_reducible assumption)
local macro_rules | `(tactic| walk_at "zcm") => `(tactic| first | exact Or.inr ⟨by decide, by decide⟩ | exact Or.inl ⟨by decide, by decide⟩ | exact Or.inl ⟨by omega, by omega⟩ | exact Or.inr ⟨by omega, by omega⟩)
local macro_rules | `(tactic| walk_at "zcd") => `(tactic| first | exact ⟨by decide, by decide +kernel⟩ | assumption | exact ⟨by omega, by assumption⟩)
local macro_rules | `(tactic| walk_at "zb1") => `(tactic| first | rfl | assumption | exact decide_eq_true (by omega) | exact decide_eq_true (by assumption) | (simp only [Bool.not_eq_true', decide_eq_false_iff_not, bne_iff_ne, ne_eq]; omega))
local macro_rules | `(tactic| walk_at "zb0") => `(tactic| first | rfl | assumption | exact decide_eq_false (by omega) | exact decide_eq_false (by assumption) | (simp only [Bool.not_eq_false', decide_eq_true_iff, bne_eq_false_iff_eq]; omega))
local macro_rules | `(tactic| walk_at "zv") => `(tactic| with_reducible first | refine Z.wV0 ?_ | refine Z.wV1 ?_ | refine Z.wV2 ?_ | refine Z.wV3 ?_ | refine Z.wV4 ?_ | refine Z.wV5 ?_ | refine Z.wV6 ?_ | refine Z.wV7 ?_ | refine Z.wV8 ?_ | refine Z.wV9 ?_ | refine Z.wV10 ?_ | refine Z.wV11 ?_ | refine Z.wV12 ?_ | refine Z.wV13 ?_ | refine Z.wV14 ?_)
local macro_rules | `(tactic| walk_at "zg") => `(tactic| with_reducible first | refine Z.wG0 ?_ | refine Z.wG1 ?_ | refine Z.wG2 ?_ | refine Z.wG3 ?_ | refine Z.wG4 ?_ | refine Z.wG5 ?_ | refine Z.wG6 ?_ | refine Z.wG7 ?_ | refine Z.wG8 ?_ | refine Z.wG9 ?_ | refine Z.wG10 ?_ | refine Z.wG11 ?_ | refine Z.wG12 ?_ | refine Z.wG13 ?_ | refine Z.wG14 ?_)
-- syntax nodes
local macro_rules | `(tactic| walk_at "zt") => `(tactic| with_reducible first | refine Z.wSeq ?_ | refine Z.wAsg ?_ | refine Z.wOp ?_ | refine Z.wC ?_ | refine Z.wCons ?_ | refine Z.wNil ?_ | refine Z.wCB ?_ | refine Z.wTest ?_ | refine Z.wRet ?_ | refine Z.wNext ?_ | refine Z.wDrop ?_ | refine Z.wTruN ?_ | refine Z.wNot ?_ | refine Z.wAnd ?_ | refine Z.wOrb ?_ | refine Z.wCall0 ?_ | refine Z.wAndT ?_ | refine Z.wOrT ?_ | refine Z.wNotT ?_ | refine Z.wUn ?_ | refine Z.wTIf ?_ | refine Z.wChain ?_ | refine Z.wBM ?_ | refine Z.wBM0 ?_ | refine Z.wGSub ?_ | refine Z.wTTup ?_ | refine Z.wTLst ?_ | refine Z.wRetN ?_ | refine Z.wBreak ?_ | refine Z.wCont ?_ | refine Z.wListI ?_)
-- values
local macro_rules | `(tactic| walk_at "zx") => `(tactic| first
  | with_reducible refine Z.wBl ?_ | with_reducible refine Z.wTbl ?_ | with_reducible refine Z.wTint ?_ | with_reducible refine Z.wTnon ?_ | with_reducible refine Z.wIntI ?_ | with_reducible refine Z.wNeg ?_
  | with_reducible refine Z.wI0 ?_ | with_reducible refine Z.wOr1 (Z.wI0 ?_)
  | with_reducible refine Z.wOr1 (Z.wEqII ?_) | with_reducible refine Z.wOr1 (Z.wNeII ?_)
  | with_reducible refine Z.wOr1 (Z.wIsN ?_) | with_reducible refine Z.wOr1 (Z.wNotN ?_) | with_reducible refine Z.wOr2 (Z.wIsB ?_) | with_reducible refine Z.wOr2 (Z.wNotB ?_)
  | ((with_reducible refine' Z.wI ?zc ?_); (case zc => first | omega | decide | (walk_at "zcd") | exact ⟨by decide, by decide, by decide +kernel⟩))
  | ((with_reducible refine' Z.wOr1 (Z.wI (C := L2.CMul) ?zc ?_)); (case zc => walk_at "zcm"))
  | ((with_reducible refine' Z.wSetL ?zf ?zm ?ze ?zp ?_); (case zf => walk_at "zF"); (case zm => walk_at "zm"); (case ze => first | rfl | exact Z.ixN_of (by walk_at "zo") (by walk_at "zo")); (case zp => walk_at "zp"); with_reducible intro _ _)
  | ((with_reducible refine' Z.wIxL ?zs ?ze ?_); (case zs => walk_at "zsL"); (case ze => first | rfl | assumption))
  | ((with_reducible refine' Z.wIxT ?zs ?ze ?_); (case zs => walk_at "zsT"); (case ze => first | rfl | assumption))
  | ((with_reducible refine' Z.wIxLi ?zs ?z0 ?z1 ?_); (case zs => walk_at "zsL"); (case z0 => walk_at "zo"); (case z1 => walk_at "zo"))
  | ((with_reducible refine' Z.wIxTi ?zs ?z0 ?z1 ?_); (case zs => walk_at "zsT"); (case z0 => walk_at "zo"); (case z1 => walk_at "zo"))
  | ((with_reducible refine' Z.wLenLi ?zs ?_); (case zs => walk_at "zsL"))
  | ((with_reducible refine' Z.wLenTi ?zs ?_); (case zs => walk_at "zsT"))
  | ((with_reducible refine' Z.wLenL ?zs ?_); (case zs => walk_at "zsL"))
  | ((with_reducible refine' Z.wLenT ?zs ?_); (case zs => walk_at "zsT"))
  | ((with_reducible refine' Z.wTyL ?zs ?_); (case zs => walk_at "zsL"))
  | ((with_reducible refine' Z.wApp ?zf ?zm ?zp ?zn ?_); (case zf => walk_at "zF"); (case zm => walk_at "zm"); (case zp => walk_at "zp"); (case zn => first | (have := Z.line_big; walk_at "zo") | assumption); with_reducible intro _ _)
  | ((with_reducible refine' Z.wTup ?zn ?zf ?_); (case zn => first | exact Nat.le_of_ble_eq_true rfl | walk_at "zo"); (case zf => walk_at "zF"); with_reducible intro _ _ _)
  | ((with_reducible refine' Z.wLst ?zn ?zf ?_); (case zn => first | exact Nat.le_of_ble_eq_true rfl | walk_at "zo"); (case zf => walk_at "zF"); with_reducible intro _ _ _)
  | ((with_reducible refine' Z.wListL ?zs ?zf ?_); (case zs => walk_at "zsL"); (case zf => walk_at "zF"); with_reducible intro _ _ _)
  | ((with_reducible refine' Z.wListT ?zs ?zf ?_); (case zs => walk_at "zsT"); (case zf => walk_at "zF"); with_reducible intro _ _ _)
  | ((with_reducible refine' Z.wTupleL ?zs ?zf ?_); (case zs => walk_at "zsL"); (case zf => walk_at "zF"); with_reducible intro _ _ _)
  | ((with_reducible refine' Z.wTupleT ?zs ?_); (case zs => walk_at "zsT"))
  | ((with_reducible refine' Z.wTlst ?zs ?_); (case zs => walk_at "zsL"))
  | ((with_reducible refine' Z.wTtup ?zs ?_); (case zs => walk_at "zsT"))
  | with_reducible refine Z.wAbs ?_)
-- branches that the facts decide
local macro_rules | `(tactic| walk_at "zi") => `(tactic| first | ((with_reducible refine' Z.wIfT ?zb ?_); (case zb => walk_at "zb1")) | ((with_reducible refine' Z.wIfF ?zb ?_); (case zb => walk_at "zb0")))
local macro_rules | `(tactic| walk_at "z") => `(tactic| repeat walk_at "z1")
local macro_rules | `(tactic| walk_at "zc") => `(tactic| fail)
local macro_rules | `(tactic| walk_at "zif") => `(tactic| with_reducible first | refine Z.wIfS ?_ | refine Z.wFor ?_)
local macro_rules | `(tactic| walk_at "z1") => `(tactic| first | walk_at "zt" | walk_at "zv" | walk_at "zg" | walk_at "zc" | walk_at "zif" | walk_at "zx" | walk_at "zi")
local macro_rules | `(tactic| walk_at "y1") => `(tactic| first | walk_at "zt" | walk_at "zv" | walk_at "zg" | walk_at "zc" | walk_at "zx" | walk_at "zi")
local macro_rules | `(tactic| walk_at "y") => `(tactic| repeat walk_at "y1")
local macro_rules | `(tactic| walk_at "zfs") => `(tactic| (refine Z.Fx.sub (by walk_at "zF") ?_; walk_at "zsub"))
local macro_rules | `(tactic| walk_at "zs") => `(tactic| first | refine Z.wIfD (fun _ => ?_) (fun _ => ?_) | refine Z.wIfND (fun _ => ?_) (fun _ => ?_) | refine Z.wIf (fun _ => ?_) (fun _ => ?_))
local macro_rules | `(tactic| walk_at "zz") => `(tactic| ((repeat walk_at "z1"); try (walk_at "zs" <;> walk_at "zz")))
local macro_rules | `(tactic| walk_at "zlog") => `(tactic| first | decide +kernel | assumption | exact Z.log_small (by walk_at "zo") (by walk_at "zo"))
local macro_rules | `(tactic| walk_at "zk") => `(tactic| first | with_reducible assumption | exact Z.HasK.int _ | exact Z.HasK.bl _ | exact Z.HasK.str _ | exact Z.HasK.non | exact Z.HasK.lst (by walk_at "zsL") | exact Z.HasK.tup (by walk_at "zsT"))
local macro_rules | `(tactic| walk_at "zsub") => `(tactic| ((try dsimp only [List.cons_append, List.nil_append, List.append_eq]); (with_reducible first | exact List.Sublist.refl _ | (refine List.Sublist.cons_cons _ ?_; walk_at "zsub") | (refine List.Sublist.cons _ ?_; walk_at "zsub"))))
local macro_rules | `(tactic| walk_at "zt") => `(tactic| with_reducible first | refine Z.wIS ?_ | refine Z.wIL ?_ | refine Z.wIT ?_ | refine Z.wIR1 ?_ | refine Z.wIR2 ?_ | refine Z.wIZ ?_ | refine Z.wLc ?_ | refine Z.wSl ?_ | refine Z.wNoPart ?_ | refine Z.wPart ?_ | refine Z.wPartV ?_ | refine Z.wGCons ?_ | refine Z.wGNil ?_ | refine Z.wYes ?_ | refine Z.wMake ?_ | refine Z.wMakeS ?_ | refine Z.wFld ?_ | refine Z.wSFld ?_ | refine Z.wCallS ?_)
local macro_rules | `(tactic| walk_at "zx") => `(tactic| first
  | ((with_reducible refine' Z.wGTup ?zs ?ze ?_); (case zs => walk_at "zsT"); (case ze => first | rfl | assumption))
  | ((with_reducible refine' Z.wGoSL ?zs ?_); (case zs => walk_at "zsL"))
  | ((with_reducible refine' Z.wGoST ?zs ?_); (case zs => walk_at "zsT"))
  | ((with_reducible refine' Z.wGoL ?zs ?_); (case zs => walk_at "zsL"))
  | ((with_reducible refine' Z.wGoT ?zs ?_); (case zs => walk_at "zsT"))
  | ((with_reducible refine' Z.wGoZL ?zs ?zt ?_); (case zs => walk_at "zsL"); (case zt => walk_at "zsL"))
  | ((with_reducible refine' Z.wGoZT ?zs ?zt ?_); (case zs => walk_at "zsT"); (case zt => walk_at "zsT"))
  | ((with_reducible refine' Z.wGoR1 ?za ?zb ?_); (case za => walk_at "zo"); (case zb => walk_at "zo"))
  | ((with_reducible refine' Z.wGoR2 ?za ?zb ?zc ?zd ?_); (case za => walk_at "zo"); (case zb => walk_at "zo"); (case zc => walk_at "zo"); (case zd => walk_at "zo"))
  | ((with_reducible refine' Z.wSlL ?zs ?zf ?_); (case zs => walk_at "zsL"); (case zf => walk_at "zF"); with_reducible intro _ _ _))
local macro_rules | `(tactic| walk_at "zis") => `(tactic| first | with_reducible assumption | exact Z.SeqIs.int _ | exact Z.SeqIs.bl _ | exact Z.SeqIs.str _ | exact Z.SeqIs.non | exact Z.SeqIs.lst (by walk_at "zm") | exact Z.SeqIs.tup (by walk_at "zm") | exact Z.SeqIs.dct (by walk_at "zm"))
local macro_rules | `(tactic| walk_at "zw") => `(tactic| (simp only [List.map_cons, List.map_nil, wipe, List.set_cons_zero, List.set_cons_succ]))
local macro_rules | `(tactic| walk_at "zt") => `(tactic| with_reducible first | refine Z.wListRg2 ?_)
local macro_rules | `(tactic| walk_at "zx") => `(tactic| first
  | ((with_reducible refine' Z.wRgV ?zo ?zf ?_); (case zo => exact L2.RgOk.of_le (by walk_at "zo") (by walk_at "zo") (by walk_at "zo") (by walk_at "zo")); (case zf => walk_at "zF"); with_reducible intro _ _ _))

local macro_rules | `(tactic| walk_at "zt") => `(tactic| with_reducible first | refine Z.wIE ?_ | refine Z.wIR3 ?_ | refine Z.wMin2 ?_ | refine Z.wMax2 ?_ | refine Z.wBody ?_ | refine Z.wAug rfl ?_)
local macro_rules | `(tactic| walk_at "zx") => `(tactic| first
  | ((with_reducible refine' Z.wGoDown ?za ?zb ?zc ?zd ?_); (case za => walk_at "zo"); (case zb => walk_at "zo"); (case zc => walk_at "zo"); (case zd => walk_at "zo"))
  | ((with_reducible refine' Z.wSumL ?zs ?_); (case zs => walk_at "zsL"))
  | ((with_reducible refine' Z.wSumT ?zs ?_); (case zs => walk_at "zsT"))
  | ((with_reducible refine' Z.wRepL ?zf ?zm ?z1 ?z2 ?z3 ?_); (case zf => walk_at "zF"); (case zm => walk_at "zm"); (case z1 => walk_at "zo"); (case z2 => walk_at "zo"); (case z3 => walk_at "zo"); with_reducible intro _ _ _)
  | ((with_reducible refine' Z.wCatL ?zf ?zm ?z1 ?z2 ?_); (case zf => walk_at "zF"); (case zm => walk_at "zm"); (case z1 => walk_at "zm"); (case z2 => walk_at "zo"); with_reducible intro _ _ _))
local macro_rules | `(tactic| walk_at "zx") => `(tactic| ((with_reducible refine Z.wIpI ?_); try simp only [List.set_cons_zero, List.set_cons_succ]))
local macro_rules | `(tactic| walk_at "zt") => `(tactic| with_reducible first | refine Z.wMkO ?_ | refine Z.wCallD ?_ | refine Z.wSpC ?_ | refine Z.wSpN ?_ | refine Z.wSpC1 ?_ | refine Z.wSpN1 ?_ | refine Z.wSpC2 ?_ | refine Z.wSpN2 ?_)
local macro_rules | `(tactic| walk_at "zv") => `(tactic| with_reducible first | refine Z.wV15 ?_ | refine Z.wV16 ?_ | refine Z.wV17 ?_ | refine Z.wV18 ?_ | refine Z.wV19 ?_ | refine Z.wV20 ?_ | refine Z.wV21 ?_ | refine Z.wV22 ?_ | refine Z.wV23 ?_ | refine Z.wV24 ?_ | refine Z.wV25 ?_ | refine Z.wV26 ?_)
local macro_rules | `(tactic| walk_at "zg") => `(tactic| with_reducible first | refine Z.wG15 ?_ | refine Z.wG16 ?_ | refine Z.wG17 ?_ | refine Z.wG18 ?_ | refine Z.wG19 ?_ | refine Z.wG20 ?_ | refine Z.wG21 ?_ | refine Z.wG22 ?_ | refine Z.wG23 ?_ | refine Z.wG24 ?_ | refine Z.wG25 ?_ | refine Z.wG26 ?_)
local macro_rules | `(tactic| walk_at "zt") => `(tactic| with_reducible first | refine Z.wRevS ?_ | refine Z.wTupRev ?_ | refine Z.wIRev ?_)
local macro_rules | `(tactic| walk_at "zx") => `(tactic| first
  | ((with_reducible refine' Z.wRevL ?zs ?zf ?_); (case zs => walk_at "zsL"); (case zf => walk_at "zF"); with_reducible intro _ _ _)
  | ((with_reducible refine' Z.wRevT ?zs ?zf ?_); (case zs => walk_at "zsT"); (case zf => walk_at "zF"); with_reducible intro _ _ _)
  | ((with_reducible refine' Z.wTupRevT ?zs ?zf ?_); (case zs => walk_at "zsT"); (case zf => walk_at "zF"); with_reducible intro _ _ _)
  | ((with_reducible refine' Z.wRevI ?zs ?_); (case zs => walk_at "zsL")))
local macro_rules | `(tactic| walk_at "zt") => `(tactic| with_reducible first | refine Z.wIRG ?_ | refine Z.wGoRG ?_)
local macro_rules | `(tactic| walk_at "zr") => `(tactic| ((walk_at "z"); (try ((first | ((refine' Z.wIfF ?zb ?_); (case zb => (simp; done))) | ((refine' Z.wIfT ?zb ?_); (case zb => (simp; done)))); (walk_at "z")))))
local macro_rules | `(tactic| walk_at "zt") => `(tactic| with_reducible first | refine Z.wDc ?_ | refine Z.wIRevR ?_)
local macro_rules | `(tactic| walk_at "zx") => `(tactic| first
  | ((with_reducible refine' Z.wInD ?zf ?zm ?_); (case zf => walk_at "zF"); (case zm => walk_at "zm"))
  | with_reducible refine Z.wMin3 ?_ | with_reducible refine Z.wEqBB ?_ | with_reducible refine Z.wNeBB ?_)
local macro_rules | `(tactic| walk_at "zt") => `(tactic| with_reducible first | refine Z.wCKw ?_)
local macro_rules | `(tactic| walk_at "zx") => `(tactic| first
  | ((with_reducible refine' Z.wDvm ?z1 ?z2 ?z3 ?zf ?_); (case z1 => omega); (case z2 => omega); (case z3 => omega); (case zf => walk_at "zF"); with_reducible intro _ _ _))
local macro_rules | `(tactic| walk_at "zx") => `(tactic| with_reducible refine Z.wIntB ?_)
local macro_rules | `(tactic| walk_at "zt") => `(tactic| with_reducible refine Z.wTryO ?_)
local macro_rules | `(tactic| walk_at "zt") => `(tactic| with_reducible first | refine Z.wPar ?_ | (refine Z.wPar2 ?_; simp only [List.set_cons_zero, List.set_cons_succ]))
local macro_rules | `(tactic| walk_at "zx") => `(tactic| with_reducible refine Z.wGcd ?_)
local macro_rules | `(tactic| walk_at "zx") => `(tactic| ((with_reducible refine' Z.wMulW ?zc ?_); (case zc => with_reducible assumption)))
local macro_rules | `(tactic| walk_at "zt") => `(tactic| with_reducible refine Z.wCallN ?_)
local macro_rules | `(tactic| walk_at "zt") => `(tactic| with_reducible first | refine Z.wM1 ?_ | refine Z.wFmt ?_ | refine Z.wFs ?_ | refine Z.wJsC ?_ | refine Z.wIStr ?_ | refine Z.wStrA ?_ | refine Z.wJsN ?_ | refine Z.wInSign ?_ | refine Z.wGoStr ?_)
local macro_rules | `(tactic| walk_at "zx") => `(tactic| first
  | ((with_reducible refine' Z.wFmtI ?zl ?_); (case zl => assumption))
  | ((with_reducible refine' Z.wStrI ?zl ?_); (case zl => assumption))
  | ((with_reducible refine' Z.wJsX ?zl ?_); (case zl => first | exact Nat.le_of_ble_eq_true rfl | assumption))
  | ((with_reducible refine' Z.wRmp ?zl ?_); (case zl => assumption))
  | ((with_reducible refine' Z.wLenS ?zl ?_); (case zl => assumption))
  | ((with_reducible refine' Z.wParts ?zb ?zl ?zf ?_); (case zb => rfl); (case zl => assumption); (case zf => walk_at "zF"); with_reducible intro _ _ _))
local macro_rules | `(tactic| walk_at "zS") => `(tactic| first | assumption | exact Nat.le_of_ble_eq_true rfl | decide)
local macro_rules | `(tactic| walk_at "zx") => `(tactic| ((with_reducible refine' Z.wAddSS ?z1 ?z2 ?_); (case z1 => walk_at "zS"); (case z2 => walk_at "zS")))
local macro_rules | `(tactic| walk_at "zS") => `(tactic| first | assumption | exact Nat.le_of_ble_eq_true rfl | ((try simp only [TX.len_app]); omega))
local macro_rules | `(tactic| walk_at "zt") => `(tactic| with_reducible first | refine Z.wStep2 ?_ | refine Z.wReplC ?_)
def top (i : Nat) : Stmt := PySem.Challenge.pw_jointsapart_k66_whole_walls_written_seen.main.body.getD i (.Pass ⟨0, 0, 0, 0⟩)

abbrev s__law_hand : Stmt := top 46
abbrev s__law_mixed : Stmt := top 47
abbrev s__law_take : Stmt := top 48
abbrev s__law_bricks : Stmt := top 49
abbrev s__law_row : Stmt := top 52
abbrev s__law_counts : Stmt := top 50
abbrev s__law_picked : Stmt := top 51
abbrev s__law_fellow : Stmt := top 53
abbrev s_BadStock___init__ : Stmt := inClass (top 3) 0
abbrev s_is_sequence : Stmt := top 11
abbrev s_is_whole : Stmt := top 10
abbrev s__are_bricks : Stmt := top 23
abbrev s_Stock___init__ : Stmt := inClass (top 22) 0
abbrev s_Stock___eq__ : Stmt := inClass (top 22) 1
abbrev s_length_of : Stmt := top 16
abbrev s_BadCourse___init__ : Stmt := inClass (top 4) 0
abbrev s_check_course : Stmt := top 14
abbrev s_course_flaw : Stmt := top 15
abbrev s_BadWall___init__ : Stmt := inClass (top 8) 0
abbrev s_course_for : Stmt := top 34
abbrev s__checked_courses : Stmt := top 33
abbrev s_Wall___init__ : Stmt := inClass (top 32) 0
abbrev s_BadText___init__ : Stmt := inClass (top 7) 0
abbrev s_check_text : Stmt := top 26
abbrev s__rows_in : Stmt := top 38
abbrev s__check_like : Stmt := top 39
abbrev s_course_told : Stmt := top 28
abbrev s_are_figures : Stmt := top 12
abbrev s__is_numeral : Stmt := top 30
abbrev s__numbers_of : Stmt := top 29
abbrev s_course_in : Stmt := top 27
abbrev s_wall_of : Stmt := top 37
abbrev s__law_read : Stmt := top 55
abbrev s__law_with : Stmt := top 58
abbrev s_course_text : Stmt := top 25
abbrev s_wall_text : Stmt := top 36
abbrev s_Wall___eq__ : Stmt := inClass (top 32) 2
abbrev s_Wall___len__ : Stmt := inClass (top 32) 1
abbrev s__law_texts : Stmt := top 59
abbrev s__are_joints : Stmt := top 19
abbrev s_check_length : Stmt := top 20
abbrev s_course_from : Stmt := top 18
abbrev s_joints_of : Stmt := top 17
abbrev s__law_sums : Stmt := top 54
abbrev s__law_shown : Stmt := top 57
abbrev s__bricks_seen : Stmt := top 44
abbrev s__course_picture : Stmt := top 41
abbrev s__is_picture : Stmt := top 43
abbrev s_wall_picture : Stmt := top 40
abbrev s_wall_seen : Stmt := top 42
abbrev s__law_looked : Stmt := top 56
abbrev s__law_pictures : Stmt := top 60
abbrev s_law : Stmt := top 61
structure Txt (K : PySem.W.Frag) (mg : Str → Option Value) (c_BadCourse : Addr) (c_BadJoints : Addr) (c_BadLength : Addr) (c_BadStock : Addr) (c_BadText : Addr) (c_BadWall : Addr) (c_Stock : Addr) (c_Wall : Addr) : Prop where
  b_all : mg "all" = none
  b_bool : mg "bool" = none
  b_enumerate : mg "enumerate" = none
  b_int : mg "int" = none
  b_isinstance : mg "isinstance" = none
  b_len : mg "len" = none
  b_list : mg "list" = none
  b_max : mg "max" = none
  b_range : mg "range" = none
  b_reversed : mg "reversed" = none
  b_sorted : mg "sorted" = none
  b_str : mg "str" = none
  b_sum : mg "sum" = none
  b_tuple : mg "tuple" = none
  b_zip : mg "zip" = none
  g_BadCourse : mg "BadCourse" = some (.ref c_BadCourse)
  g_BadJoints : mg "BadJoints" = some (.ref c_BadJoints)
  g_BadLength : mg "BadLength" = some (.ref c_BadLength)
  g_BadStock : mg "BadStock" = some (.ref c_BadStock)
  g_BadText : mg "BadText" = some (.ref c_BadText)
  g_BadWall : mg "BadWall" = some (.ref c_BadWall)
  g_Stock : mg "Stock" = some (.ref c_Stock)
  g_Wall : mg "Wall" = some (.ref c_Wall)
  x_BadCourse : Z.ErrF K c_BadCourse
  q_BadCourse_BadJoints : PySem.W.exmOne K (.ref c_BadCourse) (.ref c_BadJoints) = some false
  q_BadCourse_BadLength : PySem.W.exmOne K (.ref c_BadCourse) (.ref c_BadLength) = some false
  q_BadCourse_BadStock : PySem.W.exmOne K (.ref c_BadCourse) (.ref c_BadStock) = some false
  q_BadCourse_BadText : PySem.W.exmOne K (.ref c_BadCourse) (.ref c_BadText) = some false
  q_BadCourse_BadWall : PySem.W.exmOne K (.ref c_BadCourse) (.ref c_BadWall) = some false
  n_BadCourse_index : PySem.W.findIn K (.ref c_BadCourse) "index" = some none
  n_BadCourse_what : PySem.W.findIn K (.ref c_BadCourse) "what" = some none
  x_BadJoints : Z.ErrF K c_BadJoints
  y_BadJoints : Z.ErrF0 K c_BadJoints
  q_BadJoints_BadCourse : PySem.W.exmOne K (.ref c_BadJoints) (.ref c_BadCourse) = some false
  q_BadJoints_BadLength : PySem.W.exmOne K (.ref c_BadJoints) (.ref c_BadLength) = some false
  q_BadJoints_BadStock : PySem.W.exmOne K (.ref c_BadJoints) (.ref c_BadStock) = some false
  q_BadJoints_BadText : PySem.W.exmOne K (.ref c_BadJoints) (.ref c_BadText) = some false
  q_BadJoints_BadWall : PySem.W.exmOne K (.ref c_BadJoints) (.ref c_BadWall) = some false
  x_BadLength : Z.ErrF K c_BadLength
  y_BadLength : Z.ErrF0 K c_BadLength
  q_BadLength_BadCourse : PySem.W.exmOne K (.ref c_BadLength) (.ref c_BadCourse) = some false
  q_BadLength_BadJoints : PySem.W.exmOne K (.ref c_BadLength) (.ref c_BadJoints) = some false
  q_BadLength_BadStock : PySem.W.exmOne K (.ref c_BadLength) (.ref c_BadStock) = some false
  q_BadLength_BadText : PySem.W.exmOne K (.ref c_BadLength) (.ref c_BadText) = some false
  q_BadLength_BadWall : PySem.W.exmOne K (.ref c_BadLength) (.ref c_BadWall) = some false
  x_BadStock : Z.ErrF K c_BadStock
  q_BadStock_BadCourse : PySem.W.exmOne K (.ref c_BadStock) (.ref c_BadCourse) = some false
  q_BadStock_BadJoints : PySem.W.exmOne K (.ref c_BadStock) (.ref c_BadJoints) = some false
  q_BadStock_BadLength : PySem.W.exmOne K (.ref c_BadStock) (.ref c_BadLength) = some false
  q_BadStock_BadText : PySem.W.exmOne K (.ref c_BadStock) (.ref c_BadText) = some false
  q_BadStock_BadWall : PySem.W.exmOne K (.ref c_BadStock) (.ref c_BadWall) = some false
  n_BadStock_what : PySem.W.findIn K (.ref c_BadStock) "what" = some none
  x_BadText : Z.ErrF K c_BadText
  q_BadText_BadCourse : PySem.W.exmOne K (.ref c_BadText) (.ref c_BadCourse) = some false
  q_BadText_BadJoints : PySem.W.exmOne K (.ref c_BadText) (.ref c_BadJoints) = some false
  q_BadText_BadLength : PySem.W.exmOne K (.ref c_BadText) (.ref c_BadLength) = some false
  q_BadText_BadStock : PySem.W.exmOne K (.ref c_BadText) (.ref c_BadStock) = some false
  q_BadText_BadWall : PySem.W.exmOne K (.ref c_BadText) (.ref c_BadWall) = some false
  n_BadText_number : PySem.W.findIn K (.ref c_BadText) "number" = some none
  n_BadText_what : PySem.W.findIn K (.ref c_BadText) "what" = some none
  x_BadWall : Z.ErrF K c_BadWall
  q_BadWall_BadCourse : PySem.W.exmOne K (.ref c_BadWall) (.ref c_BadCourse) = some false
  q_BadWall_BadJoints : PySem.W.exmOne K (.ref c_BadWall) (.ref c_BadJoints) = some false
  q_BadWall_BadLength : PySem.W.exmOne K (.ref c_BadWall) (.ref c_BadLength) = some false
  q_BadWall_BadStock : PySem.W.exmOne K (.ref c_BadWall) (.ref c_BadStock) = some false
  q_BadWall_BadText : PySem.W.exmOne K (.ref c_BadWall) (.ref c_BadText) = some false
  n_BadWall_index : PySem.W.findIn K (.ref c_BadWall) "index" = some none
  n_BadWall_what : PySem.W.findIn K (.ref c_BadWall) "what" = some none
  i_Stock : Z.InsF K c_Stock
  n_Stock_bricks : NoAttr K c_Stock "bricks"
  n_Stock_lap : NoAttr K c_Stock "lap"
  n_Stock_reach : NoAttr K c_Stock "reach"
  i_Wall : Z.InsF K c_Wall
  n_Wall_stock : NoAttr K c_Wall "stock"
  n_Wall_courses : NoAttr K c_Wall "courses"
  n_Wall_length : NoAttr K c_Wall "length"
  d__law_hand : ∃ f fd, Fun K "_law_hand" "_law_hand" s__law_hand f fd ∧ mg "_law_hand" = some (.ref f)
  d__law_mixed : ∃ f fd, Fun K "_law_mixed" "_law_mixed" s__law_mixed f fd ∧ mg "_law_mixed" = some (.ref f)
  d__law_take : ∃ f fd, Fun K "_law_take" "_law_take" s__law_take f fd ∧ mg "_law_take" = some (.ref f)
  d__law_bricks : ∃ f fd, Fun K "_law_bricks" "_law_bricks" s__law_bricks f fd ∧ mg "_law_bricks" = some (.ref f)
  d__law_row : ∃ f fd, Fun K "_law_row" "_law_row" s__law_row f fd ∧ mg "_law_row" = some (.ref f)
  d__law_counts : ∃ f fd, Fun K "_law_counts" "_law_counts" s__law_counts f fd ∧ mg "_law_counts" = some (.ref f)
  d__law_picked : ∃ f fd, Fun K "_law_picked" "_law_picked" s__law_picked f fd ∧ mg "_law_picked" = some (.ref f)
  d__law_fellow : ∃ f fd, Fun K "_law_fellow" "_law_fellow" s__law_fellow f fd ∧ mg "_law_fellow" = some (.ref f)
  d_BadStock___init__ : ∃ f fd, Fun K "__init__" "BadStock.__init__" s_BadStock___init__ f fd ∧ Z.ErrI K c_BadStock f
  d_is_sequence : ∃ f fd, Fun K "is_sequence" "is_sequence" s_is_sequence f fd ∧ mg "is_sequence" = some (.ref f)
  d_is_whole : ∃ f fd, FunD K "is_whole" "is_whole" (defArgs s_is_whole) (defBody s_is_whole) (defScope s_is_whole) [.non, .non] [] f fd ∧ mg "is_whole" = some (.ref f)
  d__are_bricks : ∃ f fd, Fun K "_are_bricks" "_are_bricks" s__are_bricks f fd ∧ mg "_are_bricks" = some (.ref f)
  d_Stock___init__ : ∃ f fd, FunD K "__init__" "Stock.__init__" (defArgs s_Stock___init__) (defBody s_Stock___init__) (defScope s_Stock___init__) [.int 1, .int 1] [] f fd ∧ Mk K c_Stock f
  d_Stock___eq__ : ∃ f fd, Fun K "__eq__" "Stock.__eq__" s_Stock___eq__ f fd ∧ Z.OwnEqF K c_Stock f
  d_length_of : ∃ f fd, Fun K "length_of" "length_of" s_length_of f fd ∧ mg "length_of" = some (.ref f)
  d_BadCourse___init__ : ∃ f fd, Fun K "__init__" "BadCourse.__init__" s_BadCourse___init__ f fd ∧ Z.ErrI K c_BadCourse f
  d_check_course : ∃ f fd, Fun K "check_course" "check_course" s_check_course f fd ∧ mg "check_course" = some (.ref f)
  d_course_flaw : ∃ f fd, FunD K "course_flaw" "course_flaw" (defArgs s_course_flaw) (defBody s_course_flaw) (defScope s_course_flaw) [.non] [] f fd ∧ mg "course_flaw" = some (.ref f)
  d_BadWall___init__ : ∃ f fd, Fun K "__init__" "BadWall.__init__" s_BadWall___init__ f fd ∧ Z.ErrI K c_BadWall f
  d_course_for : ∃ f fd, FunD K "course_for" "course_for" (defArgs s_course_for) (defBody s_course_for) (defScope s_course_for) [.non] [] f fd ∧ mg "course_for" = some (.ref f)
  d__checked_courses : ∃ f fd, Fun K "_checked_courses" "_checked_courses" s__checked_courses f fd ∧ mg "_checked_courses" = some (.ref f)
  d_Wall___init__ : ∃ f fd, Fun K "__init__" "Wall.__init__" s_Wall___init__ f fd ∧ Mk K c_Wall f
  d_BadText___init__ : ∃ f fd, Fun K "__init__" "BadText.__init__" s_BadText___init__ f fd ∧ Z.ErrI K c_BadText f
  d_check_text : ∃ f fd, Fun K "check_text" "check_text" s_check_text f fd ∧ mg "check_text" = some (.ref f)
  d__rows_in : ∃ f fd, Fun K "_rows_in" "_rows_in" s__rows_in f fd ∧ mg "_rows_in" = some (.ref f)
  d__check_like : ∃ f fd, Fun K "_check_like" "_check_like" s__check_like f fd ∧ mg "_check_like" = some (.ref f)
  d_course_told : ∃ f fd, Fun K "course_told" "course_told" s_course_told f fd ∧ mg "course_told" = some (.ref f)
  d_are_figures : ∃ f fd, Fun K "are_figures" "are_figures" s_are_figures f fd ∧ mg "are_figures" = some (.ref f)
  d__is_numeral : ∃ f fd, Fun K "_is_numeral" "_is_numeral" s__is_numeral f fd ∧ mg "_is_numeral" = some (.ref f)
  d__numbers_of : ∃ f fd, Fun K "_numbers_of" "_numbers_of" s__numbers_of f fd ∧ mg "_numbers_of" = some (.ref f)
  d_course_in : ∃ f fd, Fun K "course_in" "course_in" s_course_in f fd ∧ mg "course_in" = some (.ref f)
  d_wall_of : ∃ f fd, Fun K "wall_of" "wall_of" s_wall_of f fd ∧ mg "wall_of" = some (.ref f)
  d__law_read : ∃ f fd, Fun K "_law_read" "_law_read" s__law_read f fd ∧ mg "_law_read" = some (.ref f)
  d__law_with : ∃ f fd, Fun K "_law_with" "_law_with" s__law_with f fd ∧ mg "_law_with" = some (.ref f)
  d_course_text : ∃ f fd, Fun K "course_text" "course_text" s_course_text f fd ∧ mg "course_text" = some (.ref f)
  d_wall_text : ∃ f fd, Fun K "wall_text" "wall_text" s_wall_text f fd ∧ mg "wall_text" = some (.ref f)
  d_Wall___eq__ : ∃ f fd, Fun K "__eq__" "Wall.__eq__" s_Wall___eq__ f fd ∧ Z.OwnEqF K c_Wall f
  d_Wall___len__ : ∃ f fd, Fun K "__len__" "Wall.__len__" s_Wall___len__ f fd ∧ Z.OwnLenF K c_Wall f
  d__law_texts : ∃ f fd, Fun K "_law_texts" "_law_texts" s__law_texts f fd ∧ mg "_law_texts" = some (.ref f)
  d__are_joints : ∃ f fd, Fun K "_are_joints" "_are_joints" s__are_joints f fd ∧ mg "_are_joints" = some (.ref f)
  d_check_length : ∃ f fd, FunD K "check_length" "check_length" (defArgs s_check_length) (defBody s_check_length) (defScope s_check_length) [.int 400] [] f fd ∧ mg "check_length" = some (.ref f)
  d_course_from : ∃ f fd, Fun K "course_from" "course_from" s_course_from f fd ∧ mg "course_from" = some (.ref f)
  d_joints_of : ∃ f fd, Fun K "joints_of" "joints_of" s_joints_of f fd ∧ mg "joints_of" = some (.ref f)
  d__law_sums : ∃ f fd, Fun K "_law_sums" "_law_sums" s__law_sums f fd ∧ mg "_law_sums" = some (.ref f)
  d__law_shown : ∃ f fd, Fun K "_law_shown" "_law_shown" s__law_shown f fd ∧ mg "_law_shown" = some (.ref f)
  d__bricks_seen : ∃ f fd, Fun K "_bricks_seen" "_bricks_seen" s__bricks_seen f fd ∧ mg "_bricks_seen" = some (.ref f)
  d__course_picture : ∃ f fd, Fun K "_course_picture" "_course_picture" s__course_picture f fd ∧ mg "_course_picture" = some (.ref f)
  d__is_picture : ∃ f fd, Fun K "_is_picture" "_is_picture" s__is_picture f fd ∧ mg "_is_picture" = some (.ref f)
  d_wall_picture : ∃ f fd, Fun K "wall_picture" "wall_picture" s_wall_picture f fd ∧ mg "wall_picture" = some (.ref f)
  d_wall_seen : ∃ f fd, Fun K "wall_seen" "wall_seen" s_wall_seen f fd ∧ mg "wall_seen" = some (.ref f)
  d__law_looked : ∃ f fd, Fun K "_law_looked" "_law_looked" s__law_looked f fd ∧ mg "_law_looked" = some (.ref f)
  d__law_pictures : ∃ f fd, Fun K "_law_pictures" "_law_pictures" s__law_pictures f fd ∧ mg "_law_pictures" = some (.ref f)
  d_law : ∃ f fd, Fun K "law" "law" s_law f fd ∧ mg "law" = some (.ref f)
section
variable {P : Program} {w : World} {K : PySem.W.Frag} {mg : Str → Option Value} {base : Heap} {c_BadCourse c_BadJoints c_BadLength c_BadStock c_BadText c_BadWall c_Stock c_Wall : Addr}
theorem sc__law_hand : FnScope ["_law_script", "_law_total", "_law_cells", "_law_cell"] ["_law_script"] (defScope s__law_hand) := ⟨rfl, rfl, rfl, by decide +kernel, rfl, by decide +kernel, by decide +kernel⟩
def sp__law_hand (K : PySem.W.Frag) : Sp := Z.Sp1 fun a H Q E => ∃ (l : Addr) (ns : List Int), a = .ref l ∧ SqL K H l (ns.map V.int) ∧ ns.length ≤ 63 ∧ ∀ p c H', Z.Fx H' [.hand p c] → Q (.ref p) H'
theorem fn__law_hand (T : Txt K mg c_BadCourse c_BadJoints c_BadLength c_BadStock c_BadText c_BadWall c_Stock c_Wall) {f : Addr} {fd : FuncData} (F : Fun K "_law_hand" "_law_hand" s__law_hand f fd) : FnOk P w K mg base CX0 1 f fd ["_law_script"] (sp__law_hand K) := by
  refine F.ok sc__law_hand (fun vs H Q E h => ?_) (fun cdv A outer s H vs Q E hr h => ?_)
  · obtain ⟨a, rfl, _⟩ := h; rfl
  · obtain ⟨a, rfl, h⟩ := h
    refine ⟨_, (pss_cons (ps_set (i := 1) sc__law_hand.nd rfl (by first | exact Or.inl rfl | exact Or.inr rfl) (pe_op Z.zAdd (pe_callB Z.zLen (by rfl) T.b_len (by decide +kernel) (pa_cons (pv 0) pa_nil)) pe_int))
      (pss_cons (ps_set (i := 2) sc__law_hand.nd rfl (by first | exact Or.inl rfl | exact Or.inr rfl) (pe_lst pa_nil))
      (pss_cons (ps_for PassesOwn.never (by rfl) (Z.pi_seq (pv 0)) (pg_name (i := 3) sc__law_hand.nd rfl (by first | exact Or.inl rfl | exact Or.inr rfl))
        (pss_cons (ps_set (i := 1) sc__law_hand.nd rfl (by first | exact Or.inl rfl | exact Or.inr rfl) (pe_op Z.zMod (pe_callTy Z.zInt (by rfl) T.b_int (by decide +kernel) (pa_cons (pe_op Z.zAdd (pe_op Z.zMul (pv 1) pe_int) (pe_callTy Z.zInt (by rfl) T.b_int (by decide +kernel) (pa_cons (pv 3) pa_nil))) pa_nil)) pe_int))
        (pss_one (ps_expr (pe_bm PySem.F.plainAttrs_list PySem.F.slot_list_append PySem.F.type_list_append mt_append (pv 2) (pa_cons (pe_ifExp (pt_cmpR Z.zGe (pv 3) pe_int (nomark _)) (pe_callTy Z.zInt (by rfl) T.b_int (by decide +kernel) (pa_cons (pv 3) pa_nil)) (pe_un un_neg (pe_callTy Z.zInt (by rfl) T.b_int (by decide +kernel) (pa_cons (pv 3) pa_nil)))) pa_nil))))))
      (pss_one (ps_ret (pe_lst (pa_cons (pv 2) (pa_cons pe_int (pa_cons pe_int (pa_cons (pv 1) pa_nil)))))))))), ?_⟩
    try dsimp only [cxOf, Cx.nox, Cx.wish]
    refine Z.at_start (σ' := [some a, none, none, none]) rfl ?_
    obtain ⟨l, ns, rfl, hS, hl, k⟩ := h
    obtain ⟨L0, F, keep⟩ := Z.seq_keep hS [] Z.Fx.nil (by simp)
    walk_at "z"
    rename_i p0 H0 F0
    refine Z.wGoSL (keep _ [_] F0) ?_
    refine Z.wForW (walk_list (xs := ns.map V.int)) (fun i σ H2 => ∃ (cs : List Int) (t : Int) (cp : Addr) (v : Option V), σ = [some (.ref l), some (.int t), some (.ref cp), v] ∧ Z.Fx H2 ([Z.En.ob cp (.lst (cs.map V.int))] ++ (L0 ++ [])) ∧ cs.length = i) ?_ ?_ ?_ ?_
    · exact ⟨[], _, _, _, rfl, F0, rfl⟩
    · rintro i σ H2 _ ⟨cs, t, cp, v, rfl, F2, _⟩
      exact keep _ _ F2
    · rintro i x σ H2 H3 _ ⟨cs, t, cp, v, rfl, F2, hc⟩ ⟨rfl, hi⟩
      obtain ⟨z, rfl⟩ := Z.int_of_map hi
      have hil := (List.getElem?_eq_some_iff.mp hi).1
      rw [List.length_map] at hil
      dsimp only [List.cons_append, List.nil_append] at F2
      walk_at "zz"
      · refine ⟨cs ++ [z], _, cp, _, rfl, ?_, by rw [List.length_append, hc]; rfl⟩
        rw [List.map_append]; assumption
      · refine ⟨cs ++ [-z], _, cp, _, rfl, ?_, by rw [List.length_append, hc]; rfl⟩
        rw [List.map_append]; assumption
    · rintro σ H2 ⟨cs, t, cp, v, rfl, F2, hc⟩
      dsimp only [List.cons_append, List.nil_append] at F2
      walk_at "z"
      refine k _ cp _ ?_
      rename_i p H3 F3
      have F4 := F3.sub (L' := [Z.En.ob p (.lst [.ref cp, .int 0, .int 0, .int t]), Z.En.ob cp (.lst (cs.map V.int))]) (by simp)
      refine ⟨fun e he => ?_, F4.2⟩
      cases List.mem_singleton.mp he
      exact ⟨cs, 0, 0, t, by omega, F4.get List.mem_cons_self, F4.get (List.mem_cons_of_mem _ List.mem_cons_self)⟩
theorem ok__law_hand (T : Txt K mg c_BadCourse c_BadJoints c_BadLength c_BadStock c_BadText c_BadWall c_Stock c_Wall) : Z.Ok CX0 P w K mg base "_law_hand" 1 ["_law_script"] [] (sp__law_hand K) := by
  obtain ⟨f, fd, F, g⟩ := T.d__law_hand
  exact Z.mkOk F g (F.binds (ps := ["_law_script"]) fun _ _ _ _ _ _ us hl => match us, hl with | [_], _ => rfl) (fn__law_hand T F)
theorem sc__law_mixed : FnScope ["_law_number", "_law_turn", "_law_once", "_law_twice"] ["_law_number", "_law_turn"] (defScope s__law_mixed) := ⟨rfl, rfl, rfl, by decide +kernel, rfl, by decide +kernel, by decide +kernel⟩
def sp__law_mixed : Sp := Z.Sp2 fun a b H Q E => ∃ x y : Int, a = .int x ∧ b = .int y ∧ ∀ v : Int, Q (.int v) H
theorem fn__law_mixed (T : Txt K mg c_BadCourse c_BadJoints c_BadLength c_BadStock c_BadText c_BadWall c_Stock c_Wall) {f : Addr} {fd : FuncData} (F : Fun K "_law_mixed" "_law_mixed" s__law_mixed f fd) : FnOk P w K mg base CX0 1 f fd ["_law_number", "_law_turn"] sp__law_mixed := by
  refine F.ok sc__law_mixed (fun vs H Q E h => ?_) (fun cdv A outer s H vs Q E hr h => ?_)
  · obtain ⟨a, b, rfl, _⟩ := h; rfl
  · obtain ⟨a, b, rfl, h⟩ := h
    refine ⟨_, (pss_cons (ps_set (i := 2) sc__law_mixed.nd rfl (by first | exact Or.inl rfl | exact Or.inr rfl) (pe_op Z.zMod (pe_callTy Z.zInt (by rfl) T.b_int (by decide +kernel) (pa_cons (pe_op Z.zAdd (pe_op Z.zAdd (pe_op Z.zMul (pv 0) pe_int) (pe_op Z.zMul (pv 1) pe_int)) pe_int) pa_nil)) pe_int))
      (pss_cons (ps_set (i := 3) sc__law_mixed.nd rfl (by first | exact Or.inl rfl | exact Or.inr rfl) (pe_op Z.zMod (pe_callTy Z.zInt (by rfl) T.b_int (by decide +kernel) (pa_cons (pe_op Z.zAdd (pe_op Z.zAdd (pe_op Z.zMul (pv 2) (pv 2)) (pe_op Z.zMul (pv 1) pe_int)) (pe_op Z.zDiv (pv 2) pe_int)) pa_nil)) pe_int))
      (pss_one (ps_ret (pe_op Z.zDiv (pe_callTy Z.zInt (by rfl) T.b_int (by decide +kernel) (pa_cons (pe_op Z.zMod (pe_callTy Z.zInt (by rfl) T.b_int (by decide +kernel) (pa_cons (pe_op Z.zAdd (pe_op Z.zMul (pv 3) pe_int) (pe_op Z.zDiv (pv 2) pe_int)) pa_nil)) pe_int) pa_nil)) pe_int))))), ?_⟩
    try dsimp only [cxOf, Cx.nox, Cx.wish]
    refine Z.at_start (σ' := [some a, some b, none, none]) rfl ?_
    obtain ⟨x, y, rfl, rfl, k⟩ := h
    walk_at "z"
    exact k _
theorem ok__law_mixed (T : Txt K mg c_BadCourse c_BadJoints c_BadLength c_BadStock c_BadText c_BadWall c_Stock c_Wall) : Z.Ok CX0 P w K mg base "_law_mixed" 1 ["_law_number", "_law_turn"] [] sp__law_mixed := by
  obtain ⟨f, fd, F, g⟩ := T.d__law_mixed
  exact Z.mkOk F g (F.binds (ps := ["_law_number", "_law_turn"]) fun _ _ _ _ _ _ us hl => match us, hl with | [_, _], _ => rfl) (fn__law_mixed T F)
theorem use__law_mixed {H : Hp} {Q : VK} {E : XK} {x y : Int} (k : ∀ v : Int, Q (.int v) H) : sp__law_mixed [.int x, .int y] H Q E := ⟨_, _, rfl, x, y, rfl, rfl, k⟩
local macro_rules | `(tactic| walk_at "zc") => `(tactic| (with_reducible refine use__law_mixed ?_; intro _))
theorem sc__law_take : FnScope ["_law_hand_here", "_law_many", "_law_cell", "_law_rest"] ["_law_hand_here", "_law_many"] (defScope s__law_take) := ⟨rfl, rfl, rfl, by decide +kernel, rfl, by decide +kernel, by decide +kernel⟩
/-- a draw below m -/
def sp__law_take : Sp := Z.Sp2 fun a b H Q E => ∃ (L : List Z.En) (l c : Addr) (m : Int), a = .ref l ∧ b = .int m ∧ Z.Fx H L ∧ Z.En.hand l c ∈ L ∧ 0 < m ∧ m.natAbs.log2 < 9000 ∧ ∀ (v : Int) H', Z.Fx H' L → 0 ≤ v → v < m → Q (.int v) H'
theorem fn__law_take (T : Txt K mg c_BadCourse c_BadJoints c_BadLength c_BadStock c_BadText c_BadWall c_Stock c_Wall) {f : Addr} {fd : FuncData} (F : Fun K "_law_take" "_law_take" s__law_take f fd) : FnOk P w K mg base CX0 2 f fd ["_law_hand_here", "_law_many"] sp__law_take := by
  have O__law_mixed := ok__law_mixed (P := P) (w := w) (base := base) T
  refine F.ok sc__law_take (fun vs H Q E h => ?_) (fun cdv A outer s H vs Q E hr h => ?_)
  · obtain ⟨a, b, rfl, _⟩ := h; rfl
  · obtain ⟨a, b, rfl, h⟩ := h
    refine ⟨_, (pss_cons (ps_if (PW.pt (pw_and (pt_cmpR (Z.zEq (Z.hu0 hr)) (pe_ix ix_seq (pv 0) pe_int (fun _ _ => rfl)) pe_int (nomark _)) (pw_and1 (pt_cmpR Z.zLt (pe_ix ix_seq (pv 0) pe_int (fun _ _ => rfl)) (pe_callB Z.zLen (by rfl) T.b_len (by decide +kernel) (pa_cons (pe_ix ix_seq (pv 0) pe_int (fun _ _ => rfl)) pa_nil)) (nomark _)))))
        (pss_cons (ps_set (i := 2) sc__law_take.nd rfl (by first | exact Or.inl rfl | exact Or.inr rfl) (pe_ix ix_seq (pe_ix ix_seq (pv 0) pe_int (fun _ _ => rfl)) (pe_ix ix_seq (pv 0) pe_int (fun _ _ => rfl)) (fun _ _ => rfl)))
        (pss_cons (ps_asg (pe_op Z.zAdd (pe_ix ix_seq (pv 0) pe_int (fun _ _ => rfl)) pe_int) (pg_sub (pv 0) pe_int set_list))
        (pss_cons (ps_if (pt_cmpR Z.zLt (pv 2) (pe_op Z.zPow pe_int pe_int) (nomark _))
          (pss_one (ps_ret (pe_op Z.zMod (pe_callTy Z.zInt (by rfl) T.b_int (by decide +kernel) (pa_cons (Z.pe_callO O__law_mixed (by rfl) (hr.mono (by decide)) pass0 (pa_cons (pe_op Z.zMod (pe_callTy Z.zInt (by rfl) T.b_int (by decide +kernel) (pa_cons (pv 2) pa_nil)) pe_int) (pa_cons (pe_ix ix_seq (pv 0) pe_int (fun _ _ => rfl)) pa_nil))) pa_nil)) (pv 1))))
          pss_nil)
        (pss_one (ps_asg (pv 2) (pg_sub (pv 0) pe_int set_list))))))
        pss_nil)
      (pss_cons (ps_if (pt_cmpR Z.zGt (pe_ix ix_seq (pv 0) pe_int (fun _ _ => rfl)) pe_int (nomark _))
        (pss_cons (ps_set (i := 3) sc__law_take.nd rfl (by first | exact Or.inl rfl | exact Or.inr rfl) (pe_ix ix_seq (pv 0) pe_int (fun _ _ => rfl)))
        (pss_cons (ps_asg (pe_op Z.zDiv (pe_callTy Z.zInt (by rfl) T.b_int (by decide +kernel) (pa_cons (pv 3) pa_nil)) (pv 1)) (pg_sub (pv 0) pe_int set_list))
        (pss_one (ps_ret (pe_op Z.zMod (pe_callTy Z.zInt (by rfl) T.b_int (by decide +kernel) (pa_cons (pv 3) pa_nil)) (pv 1))))))
        pss_nil)
      (pss_cons (ps_asg (pe_op Z.zMod (pe_callTy Z.zInt (by rfl) T.b_int (by decide +kernel) (pa_cons (pe_op Z.zAdd (pe_ix ix_seq (pv 0) pe_int (fun _ _ => rfl)) pe_int) pa_nil)) pe_int) (pg_sub (pv 0) pe_int set_list))
      (pss_one (ps_ret (pe_op Z.zMod (pe_callTy Z.zInt (by rfl) T.b_int (by decide +kernel) (pa_cons (Z.pe_callO O__law_mixed (by rfl) (hr.mono (by decide)) pass0 (pa_cons (pe_ix ix_seq (pv 0) pe_int (fun _ _ => rfl)) (pa_cons (pe_ix ix_seq (pv 0) pe_int (fun _ _ => rfl)) pa_nil))) pa_nil)) (pv 1))))))), ?_⟩
    try dsimp only [cxOf, Cx.nox, Cx.wish]
    refine Z.at_start (σ' := [some a, some b, none, none]) rfl ?_
    obtain ⟨L, l, c, m, rfl, rfl, F, hm, h0, h9, k⟩ := h
    obtain ⟨ns, i, j, t, L1, hi, G, back⟩ := F.open hm
    clear F hm
    walk_at "zz"
    all_goals (refine' k _ _ (back _ _ _ _ _ ?hiz ?fxz) (Int.emod_nonneg _ (by omega)) (Int.emod_lt_of_pos _ h0); (case fxz => assumption); (case hiz => omega))
theorem ok__law_take (T : Txt K mg c_BadCourse c_BadJoints c_BadLength c_BadStock c_BadText c_BadWall c_Stock c_Wall) : Z.Ok CX0 P w K mg base "_law_take" 2 ["_law_hand_here", "_law_many"] [] sp__law_take := by
  obtain ⟨f, fd, F, g⟩ := T.d__law_take
  exact Z.mkOk F g (F.binds (ps := ["_law_hand_here", "_law_many"]) fun _ _ _ _ _ _ us hl => match us, hl with | [_, _], _ => rfl) (fn__law_take T F)
theorem use__law_take {H : Hp} {Q : VK} {E : XK} {L : List Z.En} {l c : Addr} {m : Int} (F : Z.Fx H L) (hm : Z.En.hand l c ∈ L) (h0 : 0 < m) (h9 : m.natAbs.log2 < 9000) (k : ∀ (v : Int) H', Z.Fx H' L → 0 ≤ v → v < m → Q (.int v) H') : sp__law_take [.ref l, .int m] H Q E :=
  ⟨_, _, rfl, L, l, c, m, rfl, rfl, F, hm, h0, h9, k⟩
local macro_rules | `(tactic| walk_at "zc") => `(tactic| ((with_reducible refine' use__law_take ?zf ?zm ?z0 ?z9 ?_); (case zf => walk_at "zF"); (case zm => walk_at "zm"); (case z0 => first | walk_at "zo" | decide); (case z9 => walk_at "zlog"); with_reducible intro _ _ _ _ _))
theorem sc__law_bricks : FnScope ["_law_hand_here", "_law_top", "_law_many", "_law_pool", "_law_bricks_here", "_law_turn"] ["_law_hand_here", "_law_top"] (defScope s__law_bricks) := ⟨rfl, rfl, rfl, by decide +kernel, rfl, by decide +kernel, by decide +kernel⟩
/-- one to four bricks up to the top, ascending -/
def Bricks (top : Int) (ns : List Int) : Prop := ns.Pairwise (· < ·) ∧ 1 ≤ ns.length ∧ ns.length ≤ 4 ∧ ∀ n ∈ ns, 1 ≤ n ∧ n ≤ top
def sp__law_bricks (K : PySem.W.Frag) : Sp := Z.Sp2 fun a b H Q E => ∃ (L : List Z.En) (l c : Addr) (top : Int), a = .ref l ∧ b = .int top ∧ Z.Fx H L ∧ Z.En.hand l c ∈ L ∧ 4 ≤ top ∧ top ≤ 1000 ∧ ∀ p ns H', Bricks top ns → Z.Fx H' (.ob p (.tup (ns.map V.int)) :: L) → Q (.ref p) H'
theorem fn__law_bricks (T : Txt K mg c_BadCourse c_BadJoints c_BadLength c_BadStock c_BadText c_BadWall c_Stock c_Wall) {f : Addr} {fd : FuncData} (F : Fun K "_law_bricks" "_law_bricks" s__law_bricks f fd) : FnOk P w K mg base CX0 3 f fd ["_law_hand_here", "_law_top"] (sp__law_bricks K) := by
  have O__law_take := ok__law_take (P := P) (w := w) (base := base) T
  refine F.ok sc__law_bricks (fun vs H Q E h => ?_) (fun cdv A outer s H vs Q E hr h => ?_)
  · obtain ⟨a, b, rfl, _⟩ := h; rfl
  · obtain ⟨a, b, rfl, h⟩ := h
    refine ⟨_, (pss_cons (ps_set (i := 2) sc__law_bricks.nd rfl (by first | exact Or.inl rfl | exact Or.inr rfl) (pe_op Z.zAdd pe_int (Z.pe_callO O__law_take (by rfl) (hr.mono (by decide)) pass0 (pa_cons (pv 0) (pa_cons pe_int pa_nil)))))
      (pss_cons (ps_if (pt_cmpR (Z.zEq (Z.hu0 hr)) (Z.pe_callO O__law_take (by rfl) (hr.mono (by decide)) pass0 (pa_cons (pv 0) (pa_cons pe_int pa_nil))) pe_int (nomark _))
        (pss_one (ps_set (i := 2) sc__law_bricks.nd rfl (by first | exact Or.inl rfl | exact Or.inr rfl) (pe_op Z.zAdd pe_int (pe_op Z.zMul pe_int (Z.pe_callO O__law_take (by rfl) (hr.mono (by decide)) pass0 (pa_cons (pv 0) (pa_cons pe_int pa_nil)))))))
        pss_nil)
      (pss_cons (ps_set (i := 3) sc__law_bricks.nd rfl (by first | exact Or.inl rfl | exact Or.inr rfl) (pe_listRg (by rfl) (by rfl) T.b_list (prg_2 (by rfl) T.b_range pe_int (pe_op Z.zAdd (pv 1) pe_int))))
      (pss_cons (ps_set (i := 4) sc__law_bricks.nd rfl (by first | exact Or.inl rfl | exact Or.inr rfl) (pe_lst pa_nil))
      (pss_cons (ps_for PassesOwn.never (by rfl) (pi_range1 (by rfl) T.b_range (pa_cons (pv 2) pa_nil)) (pg_name (i := 5) sc__law_bricks.nd rfl (by first | exact Or.inl rfl | exact Or.inr rfl))
        (pss_one (ps_expr (pe_bm PySem.F.plainAttrs_list PySem.F.slot_list_append PySem.F.type_list_append mt_append (pv 4) (pa_cons (pe_bm PySem.F.plainAttrs_list PySem.F.slot_list_pop PySem.F.type_list_pop mt_popAt (pv 3) (pa_cons (Z.pe_callO O__law_take (by rfl) (hr.mono (by decide)) pass0 (pa_cons (pv 0) (pa_cons (pe_callB Z.zLen (by rfl) T.b_len (by decide +kernel) (pa_cons (pv 3) pa_nil)) pa_nil))) pa_nil)) pa_nil)))))
      (pss_one (ps_ret (pe_callTy Z.zTuple (by rfl) T.b_tuple (by decide +kernel) (pa_cons (pe_callB cr_sorted (by rfl) T.b_sorted (by decide +kernel) (pa_cons (pv 4) pa_nil)) pa_nil))))))))), ?_⟩
    try dsimp only [cxOf, Cx.nox, Cx.wish]
    refine Z.at_start (σ' := [some a, some b, none, none, none, none]) rfl ?_
    obtain ⟨L, l, c, top, rfl, rfl, F, hm, h4, h5, k⟩ := h
    walk_at "zz"
    all_goals
      rename_i pp Hp0 Fp0 fp Hf0 Ff0
      refine Z.wForW walk_range (fun i σ H' => ∃ (pool found : List Int) (v : Option V) (m : Int), σ = [some (.ref l), some (.int top), some (.int m), some (.ref pp), some (.ref fp), v] ∧
        Z.Fx H' (.ob fp (.lst (found.map V.int)) :: .ob pp (.lst (pool.map V.int)) :: L) ∧ found.length = i ∧ (found ++ pool).Perm (Z.rgI 1 (top + 1))) ?_ ?_ ?_ ?_
      · exact ⟨Z.rgI 1 (top + 1), [], _, _, rfl, Ff0, rfl, .refl _⟩
      · exact fun _ _ _ _ _ => trivial
      · rintro i x σ H1 H2 hi ⟨pool, found, v, m, rfl, F1, hl, hp⟩ ⟨rfl, rfl⟩
        have hlen := hp.length_eq
        rw [List.length_append, Z.rgI_len] at hlen
        have hpool : 0 < pool.length := by omega
        walk_at "z"
        rename_i k0 H3 F3 hk0 hk1
        have hk2 : k0.toNat < pool.length := by omega
        refine Z.wPopAt (n := k0.toNat) F3 (by walk_at "zm") (.tail .head) (by omega) (by have := Z.line_big; omega) (by rw [List.length_map]; exact Z.seqIx hk0 hk1) (Z.map_get hk2) fun H4 F4 => ?_
        walk_at "z"
        rename_i H5 F5
        have eg := Z.get_getD hk2
        refine ⟨pool.eraseIdx k0.toNat, found ++ [pool.getD k0.toNat 0], _, m, rfl, ?_, by rw [List.length_append, hl]; rfl, ?_⟩
        · rw [List.map_append, ← Z.map_erase]
          exact F5
        · refine List.Perm.trans ?_ hp
          rw [List.append_assoc]
          exact (Z.erase_perm eg).append_left found
      · rintro σ H1 ⟨pool, found, v, m, rfl, F1, hl, hp⟩
        have hlen := hp.length_eq
        rw [List.length_append, Z.rgI_len] at hlen
        walk_at "z"
        refine Z.wSorted (F1.lst List.mem_cons_self) (by omega) F1 fun ms p H2 q r F2 => ?_
        walk_at "z"
        rename_i t H3 F3
        have nd : (found ++ pool).Nodup := hp.nodup_iff.mpr (Z.rgI_nodup _ _)
        have ml := q.length_eq
        refine k t ms H3 ⟨Z.pw_lt r (q.nodup_iff.mpr (List.nodup_append.mp nd).1), by omega, by omega, fun n hn => ?_⟩ (F3.sub (by walk_at "zsub"))
        have hb := Z.rgI_mem (hp.mem_iff.mp (List.mem_append_left _ (q.mem_iff.mp hn)))
        omega
theorem ok__law_bricks (T : Txt K mg c_BadCourse c_BadJoints c_BadLength c_BadStock c_BadText c_BadWall c_Stock c_Wall) : Z.Ok CX0 P w K mg base "_law_bricks" 3 ["_law_hand_here", "_law_top"] [] (sp__law_bricks K) := by
  obtain ⟨f, fd, F, g⟩ := T.d__law_bricks
  exact Z.mkOk F g (F.binds (ps := ["_law_hand_here", "_law_top"]) fun _ _ _ _ _ _ us hl => match us, hl with | [_, _], _ => rfl) (fn__law_bricks T F)
theorem use__law_bricks {H : Hp} {Q : VK} {E : XK} {L : List Z.En} {l c : Addr} {top : Int} (F : Z.Fx H L) (hm : Z.En.hand l c ∈ L) (h4 : 4 ≤ top) (h5 : top ≤ 1000) (k : ∀ p ns H', Bricks top ns → Z.Fx H' (.ob p (.tup (ns.map V.int)) :: L) → Q (.ref p) H') : sp__law_bricks K [.ref l, .int top] H Q E := ⟨_, _, rfl, L, l, c, top, rfl, rfl, F, hm, h4, h5, k⟩
local macro_rules | `(tactic| walk_at "zc") => `(tactic| ((with_reducible refine' use__law_bricks ?zf ?zm ?z4 ?z5 ?_); (case zf => walk_at "zF"); (case zm => walk_at "zm"); (case z4 => walk_at "zo"); (case z5 => walk_at "zo"); with_reducible intro _ _ _ _ _))
theorem sc__law_row : FnScope ["_law_hand_here", "_law_bricks_here", "_law_many", "_law_turn"] ["_law_hand_here", "_law_bricks_here", "_law_many"] (defScope s__law_row) := ⟨rfl, rfl, rfl, by decide +kernel, rfl, by decide +kernel, by decide +kernel⟩
def sp__law_row (K : PySem.W.Frag) : Sp := Z.Sp3 fun a b c H Q E => ∃ (L : List Z.En) (l hc p : Addr) (ns : List Int) (m : Int), a = .ref l ∧ b = .ref p ∧ c = .int m ∧ Z.Fx H L ∧ Z.En.hand l hc ∈ L ∧ Z.En.ob p (.tup (ns.map V.int)) ∈ L ∧ 1 ≤ ns.length ∧ ns.length ≤ 400 ∧ 0 ≤ m ∧ m ≤ 1000 ∧
  ∀ (t : Addr) (cs : List Int) (H' : Hp), (∀ c ∈ cs, c ∈ ns) → cs.length = m.toNat → Z.Fx H' (.ob t (.tup (cs.map V.int)) :: L) → Q (.ref t) H'
theorem fn__law_row (T : Txt K mg c_BadCourse c_BadJoints c_BadLength c_BadStock c_BadText c_BadWall c_Stock c_Wall) {f : Addr} {fd : FuncData} (F : Fun K "_law_row" "_law_row" s__law_row f fd) : FnOk P w K mg base CX0 3 f fd ["_law_hand_here", "_law_bricks_here", "_law_many"] (sp__law_row K) := by
  have O__law_take := ok__law_take (P := P) (w := w) (base := base) T
  refine F.ok sc__law_row (fun vs H Q E h => ?_) (fun cdv A outer s H vs Q E hr h => ?_)
  · obtain ⟨a, b, c, rfl, _⟩ := h; rfl
  · obtain ⟨a, b, c, rfl, h⟩ := h
    refine ⟨_, (pss_one (ps_ret (pe_callTy Z.zTuple (by rfl) T.b_tuple (by decide +kernel) (pa_cons (by exact (pe_lc (own := [("_law_turn", 3)]) (g := (gName 3)) (by rfl) sc__law_row.nd (pi_range1 (by rfl) T.b_range (pa_cons (pv 2) pa_nil)) (blkOk_by (own := [("_law_turn", 3)]) (N := ["_law_hand_here", "_law_bricks_here", "_law_many", "_law_turn"]) (sc := defScope s__law_row) (by decide +kernel)) (fun _ _ _ _ _ => (by exact (pg_name (i := 3) sc__law_row.nd rfl (by first | exact Or.inl rfl | exact Or.inr rfl)))) (fun _ _ _ _ _ => (by exact pts_nil)) (fun _ _ _ _ _ => (by exact (pe_ix (show IxR _ (rIx K) from ix_seq) (pv 1) (Z.pe_callO O__law_take (by rfl) (hr.mono (by decide)) pass0 (pa_cons (pv 0) (pa_cons (pe_callB (show CallR _ (Value.builtin "len") (Z.rLen K) from Z.zLen) (by rfl) T.b_len (by decide +kernel) (pa_cons (pv 1) pa_nil)) pa_nil))) (fun _ _ => rfl)))))) pa_nil)))), ?_⟩
    try dsimp only [cxOf, Cx.nox, Cx.wish]
    refine Z.at_start (σ' := [some a, some b, some c, none]) rfl ?_
    obtain ⟨L, l, hc, p, ns, m, rfl, rfl, rfl, F, mh, mb, h1, h4, m0, m1, k⟩ := h
    walk_at "z"
    refine Z.wLcW walk_range F (fun i acc L' => L' = L ∧ ∃ cs : List Int, acc = cs.map V.int ∧ cs.length = i ∧ ∀ c ∈ cs, c ∈ ns) ⟨rfl, [], rfl, rfl, by simp⟩ (fun _ _ _ _ _ _ _ => trivial) ?_ ?_
    · rintro i x D H5 H6 acc L' hi ⟨rfl, cs, rfl, hn, hc⟩ F6 ⟨rfl, _⟩
      walk_at "zw"
      walk_at "z"
      refine ⟨rfl, ?_⟩
      walk_at "z"
      rename_i y Hy Fy y0 y1
      have hy : y.toNat < ns.length := by omega
      refine Z.lcPut Fy (by rw [List.length_map]; have := Z.line_big; omega) ⟨rfl, cs ++ [ns.getD y.toNat 0], by rw [List.map_append]; rfl, by rw [List.length_append, hn]; rfl, fun c h => ?_⟩
      rcases List.mem_append.mp
            h with h | h
      · exact hc c h
      · cases List.mem_singleton.mp h
        exact List.mem_of_getElem? (Z.get_getD hy)
    rintro D acc L' H5 F5 ⟨rfl, cs, rfl, hn, hc⟩
    walk_at "z"
    rename_i t H6 F6
    exact k t cs H6 hc hn (F6.sub (by walk_at "zsub"))
theorem ok__law_row (T : Txt K mg c_BadCourse c_BadJoints c_BadLength c_BadStock c_BadText c_BadWall c_Stock c_Wall) : Z.Ok CX0 P w K mg base "_law_row" 3 ["_law_hand_here", "_law_bricks_here", "_law_many"] [] (sp__law_row K) := by
  obtain ⟨f, fd, F, g⟩ := T.d__law_row
  exact Z.mkOk F g (F.binds (ps := ["_law_hand_here", "_law_bricks_here", "_law_many"]) fun _ _ _ _ _ _ us hl => match us, hl with | [_, _, _], _ => rfl) (fn__law_row T F)
theorem use__law_row {H : Hp} {Q : VK} {E : XK} {L : List Z.En} {l hc p : Addr} {ns : List Int} {m : Int} (F : Z.Fx H L) (mh : Z.En.hand l hc ∈ L) (mb : Z.En.ob p (.tup (ns.map V.int)) ∈ L) (h1 : 1 ≤ ns.length) (h4 : ns.length ≤ 400) (m0 : 0 ≤ m) (m1 : m ≤ 1000)
    (k : ∀ (t : Addr) (cs : List Int) (H' : Hp), (∀ c ∈ cs, c ∈ ns) → cs.length = m.toNat → Z.Fx H' (.ob t (.tup (cs.map V.int)) :: L) → Q (.ref t) H') : sp__law_row K [.ref l, .ref p, .int m] H Q E := ⟨_, _, _, rfl, L, l, hc, p, ns, m, rfl, rfl, rfl, F, mh, mb, h1, h4, m0, m1, k⟩
theorem sc__law_counts : FnScope ["_law_bricks_here", "_law_length", "_law_counts_here", "_law_end", "_law_total", "_law_brick"] ["_law_bricks_here", "_law_length"] (defScope s__law_counts) := ⟨rfl, rfl, rfl, by decide +kernel, rfl, by decide +kernel, by decide +kernel⟩
/-! ### rows of bricks, counted and in order -/
/-- how many rows have the lengths 0 to n -/
def cntL (bs : List Int) : Nat → List Int
  | 0 => [1]
  | n + 1 => cntL bs n ++ [((bs.filter fun b => decide (b ≤ ((n + 1 : Nat) : Int))).map fun b => (cntL bs n).getD (((n + 1 : Nat) : Int) - b).toNat 0).sum]
/-- how many rows have the length n -/
def cW (bs : List Int) (n : Int) : Int := if n < 0 then 0 else (cntL bs n.toNat).getD n.toNat 0
theorem cntL_len (bs : List Int) : ∀ n, (cntL bs n).length = n + 1
  | 0 => rfl
  | n + 1 => by
    show (cntL bs n ++ _).length = _
    rw [List.length_append, cntL_len bs n]
    rfl
theorem cntL_get (bs : List Int) {i : Nat} : ∀ {n : Nat}, i ≤ n → (cntL bs n).getD i 0 = (cntL bs i).getD i 0
  | 0, h => by cases Nat.le_zero.mp h; rfl
  | n + 1, h => by
    by_cases e : i = n + 1
    · subst e; rfl
    · have h' : i ≤ n := by omega
      have l := cntL_len bs n
      show (cntL bs n ++ _).getD i 0 = _
      rw [List.getD_eq_getElem?_getD, List.getElem?_append_left (by omega), ← List.getD_eq_getElem?_getD]
      exact cntL_get bs h'
theorem cntL_cW (bs : List Int) {n : Nat} {i : Int} (h0 : 0 ≤ i) (h : i ≤ n) : (cntL bs n).getD i.toNat 0 = cW bs i := by
  unfold cW
  rw [if_neg (by omega)]
  exact cntL_get bs (by omega)
theorem cW_neg {bs : List Int} {n : Int} (h : n < 0) : cW bs n = 0 := if_pos h
theorem cW_zero (bs : List Int) : cW bs 0 = 1 := rfl
theorem sum_filter_zero {α : Type} {p : α → Bool} {f : α → Int} : ∀ {l : List α}, (∀ x ∈ l, p x = false → f x = 0) → ((l.filter p).map f).sum = (l.map f).sum
  | [], _ => rfl
  | x :: r, h => by
    have ih := sum_filter_zero (p := p) (f := f) (l := r) fun y hy => h y (List.mem_cons_of_mem _ hy)
    by_cases e : p x = true
    · rw [List.filter_cons_of_pos e, List.map_cons, List.map_cons, List.sum_cons, List.sum_cons, ih]
    · rw [List.filter_cons_of_neg e, List.map_cons, List.sum_cons, ih, h x List.mem_cons_self (by simpa using e), Int.zero_add]
/-- what a further length sums -/
theorem cnt_next {bs : List Int} {n : Nat} (hb : ∀ b ∈ bs, 1 ≤ b) : ((bs.filter fun b => decide (b ≤ ((n + 1 : Nat) : Int))).map fun b => (cntL bs n).getD (((n + 1 : Nat) : Int) - b).toNat 0).sum = (bs.map fun b => cW bs (((n + 1 : Nat) : Int) - b)).sum := by
  have e : ((bs.filter fun b => decide (b ≤ ((n + 1 : Nat) : Int))).map fun b => (cntL bs n).getD (((n + 1 : Nat) : Int) - b).toNat 0) = (bs.filter fun b => decide (b ≤ ((n + 1 : Nat) : Int))).map fun b => cW bs (((n + 1 : Nat) : Int) - b) :=
    List.map_congr_left fun b h => by
      obtain ⟨h1, h2⟩ := List.mem_filter.mp h
      have h2 := of_decide_eq_true h2
      have := hb b h1
      exact cntL_cW bs (by omega) (by omega)
  rw [e]
  exact sum_filter_zero fun b _ h => cW_neg (by have := of_decide_eq_false h; omega)
theorem cW_succ {bs : List Int} {n : Int} (h : 0 < n) (hb : ∀ b ∈ bs, 1 ≤ b) : cW bs n = (bs.map fun b => cW bs (n - b)).sum := by
  obtain ⟨m, rfl⟩ : ∃ m : Nat, n = ((m + 1 : Nat) : Int) := ⟨(n - 1).toNat, by omega⟩
  rw [← cnt_next hb]
  unfold cW
  rw [if_neg (by omega)]
  have e : (((m + 1 : Nat) : Int)).toNat = m + 1 := by omega
  rw [e]
  show (cntL bs m ++ _).getD (m + 1) 0 = _
  have l := cntL_len bs m
  rw [List.getD_eq_getElem?_getD, List.getElem?_append_right (by omega), l, Nat.sub_self]
  rfl
theorem sum_nonneg {l : List Int} (h : ∀ x ∈ l, 0 ≤ x) : 0 ≤ l.sum := by
  induction l with
  | nil => exact Int.le_refl _
  | cons x r ih =>
    rw [List.sum_cons]
    have := h x List.mem_cons_self
    have := ih fun y hy => h y (List.mem_cons_of_mem _ hy)
    omega
theorem cW_nonneg {bs : List Int} (hb : ∀ b ∈ bs, 1 ≤ b) : ∀ (m : Nat) (n : Int), n ≤ m → 0 ≤ cW bs n
  | 0, n, h => by
    by_cases e : n < 0
    · rw [cW_neg e]; exact Int.le_refl _
    · have : n = 0 := by omega
      rw [this, cW_zero]; decide
  | m + 1, n, h => by
    by_cases e : n ≤ 0
    · exact cW_nonneg hb 0 n (by omega)
    · rw [cW_succ (by omega) hb]
      refine sum_nonneg fun x hx => ?_
      obtain ⟨b, h1, rfl⟩ := List.mem_map.mp hx
      have := hb b h1
      exact cW_nonneg hb m _ (by omega)
theorem cW_pos {bs : List Int} (hb : ∀ b ∈ bs, 1 ≤ b) (n : Int) : 0 ≤ cW bs n := cW_nonneg hb n.toNat n (by omega)
/-- what the bricks below b begin -/
def below (bs : List Int) (left b : Int) : Int := ((bs.filter fun c => decide (c < b)).map fun c => cW bs (left - c)).sum
/-- the brick that begins the row with the number k, and the number behind it -/
def cho (bs : List Int) (left : Int) : List Int → Int → Int × Int
  | [], k => (0, k)
  | b :: r, k => if k < cW bs (left - b) then (b, k) else cho bs left r (k - cW bs (left - b))
theorem cho_ok {bs : List Int} {left : Int} : ∀ {l : List Int} {k : Int}, l.Pairwise (· < ·) → 0 ≤ k → k < (l.map fun b => cW bs (left - b)).sum →
    (cho bs left l k).1 ∈ l ∧ 0 ≤ (cho bs left l k).2 ∧ (cho bs left l k).2 < cW bs (left - (cho bs left l k).1) ∧
    k = ((l.filter fun c => decide (c < (cho bs left l k).1)).map fun c => cW bs (left - c)).sum + (cho bs left l k).2
  | [], k, _, h0, h1 => by
    have h1 : k < 0 := h1
    omega
  | b :: r, k, p, h0, h1 => by
    rw [List.map_cons, List.sum_cons] at h1
    obtain ⟨p1, p2⟩ := List.pairwise_cons.mp p
    unfold cho
    by_cases e : k < cW bs (left - b)
    · rw [if_pos e]
      refine ⟨List.mem_cons_self, h0, e, ?_⟩
      have z : (b :: r).filter (fun c => decide (c < b)) = [] := by
        rw [List.filter_eq_nil_iff]
        intro c hc
        rcases List.mem_cons.mp
              hc with rfl | hc
        · simp
        · have := p1 c hc
          simp; omega
      rw [z]
      simp
    · rw [if_neg e]
      obtain ⟨a1, a2, a3, a4⟩ := cho_ok (bs := bs) (left := left) (l := r) (k := k - cW bs (left - b)) p2 (by omega) (by omega)
      have lt := p1 _ a1
      refine ⟨List.mem_cons_of_mem _ a1, a2, a3, ?_⟩
      rw [List.filter_cons_of_pos (by simpa using lt), List.map_cons, List.sum_cons]
      omega
/-- the row with the number k -/
def pick (bs : List Int) : Nat → Int → Int → List Int
  | 0, _, _ => []
  | n + 1, left, k => if left = 0 then [] else (cho bs left bs k).1 :: pick bs n (left - (cho bs left bs k).1) (cho bs left bs k).2
/-- a row's number -/
def numOf (bs : List Int) : Int → List Int → Int
  | _, [] => 0
  | left, b :: r => below bs left b + numOf bs (left - b) r
section
variable {bs : List Int} (p : bs.Pairwise (· < ·)) (hb : ∀ b ∈ bs, 1 ≤ b)
include p hb
theorem pick_step {left k : Int} (h0 : 0 < left) (k0 : 0 ≤ k) (k1 : k < cW bs left) :
    (cho bs left bs k).1 ∈ bs ∧ 1 ≤ (cho bs left bs k).1 ∧ (cho bs left bs k).1 ≤ left ∧ 0 ≤ (cho bs left bs k).2 ∧ (cho bs left bs k).2 < cW bs (left - (cho bs left bs k).1) ∧ k = below bs left (cho bs left bs k).1 + (cho bs left bs k).2 := by
  rw [cW_succ h0 hb] at k1
  obtain ⟨a1, a2, a3, a4⟩ := cho_ok (bs := bs) (left := left) p k0 k1
  have h1 := hb _ a1
  refine ⟨a1, h1, ?_, a2, a3, a4⟩
  by_cases e : (cho bs left bs k).1 ≤ left
  · exact e
  · rw [cW_neg (n := left - (cho bs left bs k).1) (by omega)] at a3
    omega
theorem pick_ok : ∀ {n : Nat} {left k : Int}, left ≤ n → 0 ≤ left → 0 ≤ k → k < cW bs left →
    (pick bs n left k).sum = left ∧ (∀ b ∈ pick bs n left k, b ∈ bs) ∧ numOf bs left (pick bs n left k) = k
  | 0, left, k, h, h0, k0, k1 => by
    have e : left = 0 := by omega
    subst e
    rw [cW_zero] at k1
    have e : k = 0 := by omega
    subst e
    exact ⟨rfl, by simp [pick], rfl⟩
  | n + 1, left, k, h, h0, k0, k1 => by
    unfold pick
    by_cases e : left = 0
    · subst e
      rw [if_pos rfl]
      rw [cW_zero] at k1
      have e : k = 0 := by omega
      subst e
      exact ⟨rfl, by simp, rfl⟩
    · rw [if_neg e]
      obtain ⟨a1, a2, a3, a4, a5, a6⟩ := pick_step p hb (by omega) k0 k1
      obtain ⟨b1, b2, b3⟩ := pick_ok (n := n) (left := left - (cho bs left bs k).1) (k := (cho bs left bs k).2) (by omega) (by omega) a4 a5
      refine ⟨?_, fun b hb' => ?_, ?_⟩
      · rw [List.sum_cons, b1]; omega
      · rcases List.mem_cons.mp hb' with rfl | hb'
        · exact a1
        · exact b2 b hb'
      · show below bs left _ + numOf bs _ _ = k
        rw [b3]
        exact a6.symm
theorem below_mono {left b c : Int} (h : b ∈ bs) (lt : b < c) : below bs left b + cW bs (left - b) ≤ below bs left c := by
  unfold below
  have key : ∀ {l : List Int}, l.Pairwise (· < ·) → (∀ x ∈ l, 1 ≤ x) → b ∈ l →
      ((l.filter fun x => decide (x < b)).map fun x => cW bs (left - x)).sum + cW bs (left - b) ≤ ((l.filter fun x => decide (x < c)).map fun x => cW bs (left - x)).sum := by
    intro l
    induction l with
    | nil => intro _ _ h; cases h
    | cons x r ih =>
      intro q hq h
      obtain ⟨q1, q2⟩ := List.pairwise_cons.mp q
      have nn : ∀ f : Int → Bool, 0 ≤ ((r.filter f).map fun x => cW bs (left - x)).sum := fun f => sum_nonneg fun y hy => by
        obtain ⟨z, _, rfl⟩ := List.mem_map.mp hy
        exact cW_pos hb _
      rcases List.mem_cons.mp
            h with rfl | h
      · rw [List.filter_cons_of_neg (by simp), List.filter_cons_of_pos (by simpa using lt), List.map_cons, List.sum_cons]
        have z : r.filter (fun x => decide (x < b)) = [] := by
          rw [List.filter_eq_nil_iff]
          intro y hy
          have := q1 y hy
          simp; omega
        rw [z]
        have := nn fun x => decide (x < c)
        simp only [List.map_nil, List.sum_nil]
        omega
      · have lt2 := q1 b h
        rw [List.filter_cons_of_pos (by simpa using lt2), List.filter_cons_of_pos (by simp; omega), List.map_cons, List.sum_cons, List.map_cons, List.sum_cons]
        have := ih q2 (fun y hy => hq y (List.mem_cons_of_mem _ hy)) h
        omega
  exact key p hb h
theorem pick_lt : ∀ {n : Nat} {left k k' : Int}, left ≤ n → 0 ≤ left → 0 ≤ k → k < k' → k' < cW bs left → HT.lexLt (pick bs n left k) (pick bs n left k') = true
  | 0, left, k, k', h, h0, k0, lt, k1 => by
    have e : left = 0 := by omega
    subst e
    rw [cW_zero] at k1
    omega
  | n + 1, left, k, k', h, h0, k0, lt, k1 => by
    by_cases e : left = 0
    · subst e
      rw [cW_zero] at k1
      omega
    · unfold pick
      rw [if_neg e, if_neg e]
      obtain ⟨a1, a2, a3, a4, a5, a6⟩ := pick_step p hb (left := left) (k := k) (by omega) k0 (by omega)
      obtain ⟨c1, c2, c3, c4, c5, c6⟩ := pick_step p hb (left := left) (k := k') (by omega) (by omega) k1
      rw [HT.lexLt_cons]
      generalize (cho bs left bs k).1 = x at *
      generalize (cho bs left bs k).2 = j at *
      generalize (cho bs left bs k').1 = x' at *
      generalize (cho bs left bs k').2 = j' at *
      by_cases e2 : x = x'
      · subst e2
        rw [if_pos rfl]
        exact pick_lt (by omega) (by omega) a4 (by omega) c5
      · rw [if_neg e2]
        refine decide_eq_true ?_
        by_cases l2 : x < x'
        · exact l2
        · have := below_mono p hb (left := left) (b := x') (c := x) c1 (by omega)
          omega
end
theorem filt1 {p : Int → Bool} {b : Int} (h : p b = true) : [b].filter p = [b] := by simp [h]
theorem filt0 {p : Int → Bool} {b : Int} (h : p b = false) : [b].filter p = [] := by simp [h]
def sp__law_counts (K : PySem.W.Frag) : Sp := Z.Sp2 fun a b H Q E => ∃ (L : List Z.En) (p : Addr) (bs : List Int) (n : Nat), a = .ref p ∧ b = .int n ∧ Z.Fx H L ∧ Z.En.ob p (.tup (bs.map V.int)) ∈ L ∧ (∀ b ∈ bs, 1 ≤ b) ∧ n ≤ 10000 ∧ ∀ r H', Z.Fx H' (.ob r (.lst ((cntL bs n).map V.int)) :: L) → Q (.ref r) H'
theorem fn__law_counts (T : Txt K mg c_BadCourse c_BadJoints c_BadLength c_BadStock c_BadText c_BadWall c_Stock c_Wall) {f : Addr} {fd : FuncData} (F : Fun K "_law_counts" "_law_counts" s__law_counts f fd) : FnOk P w K mg base CX0 1 f fd ["_law_bricks_here", "_law_length"] (sp__law_counts K) := by
  refine F.ok sc__law_counts (fun vs H Q E h => ?_) (fun cdv A outer s H vs Q E hr h => ?_)
  · obtain ⟨a, b, rfl, _⟩ := h; rfl
  · obtain ⟨a, b, rfl, h⟩ := h
    refine ⟨_, (pss_cons (ps_set (i := 2) sc__law_counts.nd rfl (by first | exact Or.inl rfl | exact Or.inr rfl) (pe_lst (pa_cons pe_int pa_nil)))
      (pss_cons (ps_for PassesOwn.never (by rfl) (pi_range2 (by rfl) T.b_range (pa_cons pe_int (pa_cons (pe_op Z.zAdd (pv 1) pe_int) pa_nil))) (pg_name (i := 3) sc__law_counts.nd rfl (by first | exact Or.inl rfl | exact Or.inr rfl))
        (pss_cons (ps_set (i := 4) sc__law_counts.nd rfl (by first | exact Or.inl rfl | exact Or.inr rfl) pe_int)
        (pss_cons (ps_for PassesOwn.never (by rfl) (Z.pi_seq (pv 0)) (pg_name (i := 5) sc__law_counts.nd rfl (by first | exact Or.inl rfl | exact Or.inr rfl))
          (pss_one (ps_if (pt_cmpR Z.zLe (pv 5) (pv 3) (nomark _))
            (pss_one (ps_set (i := 4) sc__law_counts.nd rfl (by first | exact Or.inl rfl | exact Or.inr rfl) (pe_op Z.zAdd (pv 4) (pe_ix ix_seq (pv 2) (pe_op op_sub (pv 3) (pv 5)) (fun _ _ => rfl)))))
            pss_nil)))
        (pss_one (ps_expr (pe_bm PySem.F.plainAttrs_list PySem.F.slot_list_append PySem.F.type_list_append mt_append (pv 2) (pa_cons (pv 4) pa_nil)))))))
      (pss_one (ps_ret (pv 2))))), ?_⟩
    try dsimp only [cxOf, Cx.nox, Cx.wish]
    refine Z.at_start (σ' := [some a, some b, none, none, none, none]) rfl ?_
    obtain ⟨L, p, bs, n, rfl, rfl, F, mp, hb, hn, q⟩ := h
    walk_at "z"
    rename_i cp H1 F1
    refine Z.wForW walk_range (fun i σ H' => ∃ v3 v4 v5, σ = [some (.ref p), some (.int n), some (.ref cp), v3, v4, v5] ∧ Z.Fx H' (.ob cp (.lst ((cntL bs i).map V.int)) :: L)) ?_ (fun _ _ _ _ _ => trivial) ?_ ?_
    · exact ⟨_, _, _, rfl, F1⟩
    · rintro i x σ H2 H3 hi ⟨v3, v4, v5, rfl, F2⟩ ⟨rfl, rfl⟩
      have e1 : (1 : Int) + (i : Int) = ((i + 1 : Nat) : Int) := by omega
      dsimp only
      rw [e1]
      have hl := cntL_len bs i
      walk_at "z"
      refine Z.wForT F2 (.tail _ mp) (fun j σ H' => ∃ v5, σ = [some (.ref p), some (.int n), some (.ref cp), some (.int ((i + 1 : Nat) : Int)), some (.int (((bs.take j).filter fun b => decide (b ≤ ((i + 1 : Nat) : Int))).map fun b => (cntL bs i).getD (((i + 1 : Nat) : Int) - b).toNat 0).sum), v5] ∧ Z.Fx H' (.ob cp (.lst ((cntL bs i).map V.int)) :: L)) ?_ ?_ ?_ ?_
      · exact ⟨_, rfl, F2⟩
      · rintro j σ H3 ⟨v5, rfl, F3⟩
        exact ⟨_, F3, .tail _ mp⟩
      · rintro j x σ H3 hx ⟨v5, rfl, F3⟩
        obtain ⟨b, rfl, hbj⟩ := Z.int_of_map' hx
        have hb1 := hb b (List.mem_of_getElem? hbj)
        have et : bs.take (j + 1) = bs.take j ++ [b] := by rw [List.take_add_one, hbj]; rfl
        rw [et, List.filter_append, List.map_append, List.sum_append]
        walk_at "z"
        refine Z.wIfD (fun hle => ?_) (fun hle => ?_)
        · have ef : [b].filter (fun b => decide (b ≤ ((i + 1 : Nat) : Int))) = [b] := filt1 (decide_eq_true hle)
          walk_at "z"
          refine ⟨some (.int b), ?_, F3⟩
          rw [ef, List.map_singleton, List.sum_singleton]
        · have ef : [b].filter (fun b => decide (b ≤ ((i + 1 : Nat) : Int))) = [] := filt0 (decide_eq_false hle)
          walk_at "z"
          refine ⟨some (.int b), ?_, F3⟩
          rw [ef, List.map_nil, List.sum_nil, Int.add_zero]
      · rintro σ H3 ⟨v5, rfl, F3⟩
        walk_at "z"
        rename_i H4 F4
        refine ⟨_, _, _, rfl, ?_⟩
        rw [List.length_map, List.take_length] at F4
        show Z.Fx H4 (.ob cp (.lst ((cntL bs i ++ [_]).map V.int)) :: L)
        rw [List.map_append]
        exact F4
    · rintro σ H2 ⟨v3, v4, v5, rfl, F2⟩
      have e1 : ((n : Int) + 1 - 1).toNat = n := by omega
      rw [e1] at F2
      walk_at "z"
      exact q _ _ F2
theorem ok__law_counts (T : Txt K mg c_BadCourse c_BadJoints c_BadLength c_BadStock c_BadText c_BadWall c_Stock c_Wall) : Z.Ok CX0 P w K mg base "_law_counts" 1 ["_law_bricks_here", "_law_length"] [] (sp__law_counts K) := by
  obtain ⟨f, fd, F, g⟩ := T.d__law_counts
  exact Z.mkOk F g (F.binds (ps := ["_law_bricks_here", "_law_length"]) fun _ _ _ _ _ _ us hl => match us, hl with | [_, _], _ => rfl) (fn__law_counts T F)
theorem use__law_counts {H : Hp} {Q : VK} {E : XK} {L : List Z.En} {p : Addr} {bs : List Int} {n : Nat} (F : Z.Fx H L) (mp : Z.En.ob p (.tup (bs.map V.int)) ∈ L) (hb : ∀ b ∈ bs, 1 ≤ b) (hn : n ≤ 10000) (q : ∀ r H', Z.Fx H' (.ob r (.lst ((cntL bs n).map V.int)) :: L) → Q (.ref r) H') : sp__law_counts K [.ref p, .int n] H Q E :=
  ⟨_, _, rfl, L, p, bs, n, rfl, rfl, F, mp, hb, hn, q⟩
theorem sc__law_picked : FnScope ["_law_bricks_here", "_law_counts_here", "_law_length", "_law_number", "_law_row_here", "_law_left", "_law_turn", "_law_brick"] ["_law_bricks_here", "_law_counts_here", "_law_length", "_law_number"] (defScope s__law_picked) := ⟨rfl, rfl, rfl, by decide +kernel, rfl, by decide +kernel, by decide +kernel⟩
def sp__law_picked (K : PySem.W.Frag) : Sp := Z.Sp4 fun a b c d H Q E => ∃ (L : List Z.En) (p w : Addr) (bs : List Int) (n : Nat) (k : Int), a = .ref p ∧ b = .ref w ∧ c = .int n ∧ d = .int k ∧ Z.Fx H L ∧ Z.En.ob p (.tup (bs.map V.int)) ∈ L ∧ Z.En.ob w (.lst ((cntL bs n).map V.int)) ∈ L ∧
  bs.Pairwise (· < ·) ∧ (∀ b ∈ bs, 1 ≤ b) ∧ n ≤ 10000 ∧ 0 ≤ k ∧ k < cW bs n ∧ ∀ t H', Z.Fx H' (.ob t (.tup ((pick bs n n k).map V.int)) :: L) → Q (.ref t) H'
theorem fn__law_picked (T : Txt K mg c_BadCourse c_BadJoints c_BadLength c_BadStock c_BadText c_BadWall c_Stock c_Wall) {f : Addr} {fd : FuncData} (F : Fun K "_law_picked" "_law_picked" s__law_picked f fd) : FnOk P w K mg base CX0 1 f fd ["_law_bricks_here", "_law_counts_here", "_law_length", "_law_number"] (sp__law_picked K) := by
  refine F.ok sc__law_picked (fun vs H Q E h => ?_) (fun cdv A outer s H vs Q E hr h => ?_)
  · obtain ⟨a, b, c, d, rfl, _⟩ := h; rfl
  · obtain ⟨a, b, c, d, rfl, h⟩ := h
    refine ⟨_, (pss_cons (ps_set (i := 4) sc__law_picked.nd rfl (by first | exact Or.inl rfl | exact Or.inr rfl) (pe_lst pa_nil))
      (pss_cons (ps_set (i := 5) sc__law_picked.nd rfl (by first | exact Or.inl rfl | exact Or.inr rfl) (pv 2))
      (pss_cons (ps_for PassesOwn.never (by rfl) (pi_range1 (by rfl) T.b_range (pa_cons (pv 2) pa_nil)) (pg_name (i := 6) sc__law_picked.nd rfl (by first | exact Or.inl rfl | exact Or.inr rfl))
        (pss_cons (ps_if (pt_cmpR (Z.zEq (Z.hu0 hr)) (pv 5) pe_int (nomark _))
          (pss_one ps_break)
          pss_nil)
        (pss_one (ps_for PassesOwn.never (by rfl) (Z.pi_seq (pv 0)) (pg_name (i := 7) sc__law_picked.nd rfl (by first | exact Or.inl rfl | exact Or.inr rfl))
          (pss_one (ps_if (pt_cmpR Z.zLe (pv 7) (pv 5) (nomark _))
            (pss_cons (ps_if (pt_cmpR Z.zLt (pv 3) (pe_ix ix_seq (pv 1) (pe_op op_sub (pv 5) (pv 7)) (fun _ _ => rfl)) (nomark _))
              (pss_cons (ps_expr (pe_bm PySem.F.plainAttrs_list PySem.F.slot_list_append PySem.F.type_list_append mt_append (pv 4) (pa_cons (pv 7) pa_nil)))
              (pss_cons (ps_set (i := 5) sc__law_picked.nd rfl (by first | exact Or.inl rfl | exact Or.inr rfl) (pe_op op_sub (pv 5) (pv 7)))
              (pss_one ps_break)))
              pss_nil)
            (pss_one (ps_set (i := 3) sc__law_picked.nd rfl (by first | exact Or.inl rfl | exact Or.inr rfl) (pe_op op_sub (pv 3) (pe_ix ix_seq (pv 1) (pe_op op_sub (pv 5) (pv 7)) (fun _ _ => rfl))))))
            pss_nil))))))
      (pss_one (ps_ret (pe_callTy Z.zTuple (by rfl) T.b_tuple (by decide +kernel) (pa_cons (pv 4) pa_nil))))))), ?_⟩
    try dsimp only [cxOf, Cx.nox, Cx.wish]
    refine Z.at_start (σ' := [some a, some b, some c, some d, none, none, none, none]) rfl ?_
    obtain ⟨L, p, w1, bs, n, k, rfl, rfl, rfl, rfl, F, mp, mw, pb, hb, hn, k0, k1, q⟩ := h
    have hcl := cntL_len bs n
    walk_at "y"
    rename_i row H1 F1
    refine Z.wMidS (fun σ' H' => ∃ j vl v6 v7, σ' = [some (.ref p), some (.ref w1), some (.int n), some (.int j), some (.ref row), some (.int vl), v6, v7] ∧ Z.Fx H' (.ob row (.lst ((pick bs n n k).map V.int)) :: L)) (fun N hk => ?_) ?_
    · walk_at "z"
      refine Z.wForW walk_range (fun i σ H' => ∃ (left j : Int) (acc : List Int) (f : Nat) (v6 v7 : Option V), σ = [some (.ref p), some (.ref w1), some (.int n), some (.int j), some (.ref row), some (.int left), v6, v7] ∧ Z.Fx H' (.ob row (.lst (acc.map V.int)) :: L) ∧
        0 ≤ left ∧ left + i ≤ n ∧ 0 ≤ j ∧ j < cW bs left ∧ left ≤ f ∧ acc ++ pick bs f left j = pick bs n n k ∧ acc.length ≤ i) ?_ (fun _ _ _ _ _ => trivial) ?_ ?_
      · exact ⟨n, k, [], n, _, _, rfl, F1, by omega, by omega, k0, k1, by omega, rfl, by simp⟩
      · rintro i x σ H2 H3 hi ⟨left, j, acc, f, v6, v7, rfl, F2, l0, l1, j0, j1, hf, hp, ha⟩ ⟨rfl, rfl⟩
        walk_at "z"
        refine Z.wIfD (fun h0 => ?_) (fun h0 => ?_)
        · subst h0
          have ep : pick bs f 0 j = [] := by
            cases f with
            | zero => rfl
            | succ f => exact if_pos rfl
          rw [ep, List.append_nil] at hp
          subst hp
          walk_at "z"
          exact hk _ _ ⟨_, _, _, _, rfl, F2⟩
        · have hlt' : 0 < left := by omega
          obtain ⟨c1, c2, c3, c4, c5, c6⟩ := pick_step pb hb hlt' j0 j1
          have hal : acc.length ≤ 100000 := by omega
          walk_at "z"
          refine Z.wForT F2 (.tail _ mp) (fun i2 σ H' => ∃ (j' : Int) (v7 : Option V), σ = [some (.ref p), some (.ref w1), some (.int n), some (.int j'), some (.ref row), some (.int left), some (.int (0 + i)), v7] ∧ Z.Fx H' (.ob row (.lst (acc.map V.int)) :: L) ∧
            cho bs left (bs.drop i2) j' = cho bs left bs j ∧ j' < ((bs.drop i2).map fun b => cW bs (left - b)).sum ∧ 0 ≤ j') ?_ ?_ ?_ ?_
          · exact ⟨j, _, rfl, F2, rfl, by rw [List.drop_zero, ← cW_succ hlt' hb]; exact j1, j0⟩
          · rintro i2 σ H3 ⟨j', v7, rfl, F3, _⟩
            exact ⟨_, F3, .tail _ mp⟩
          · rintro i2 x σ H3 hx ⟨j', v7, rfl, F3, e3, l3, n3⟩
            obtain ⟨b, rfl, hbi⟩ := Z.int_of_map' hx
            have hb1 := hb b (List.mem_of_getElem? hbi)
            have ed : bs.drop i2 = b :: bs.drop (i2 + 1) := by
              obtain ⟨hi, e⟩ := List.getElem?_eq_some_iff.mp hbi
              rw [← e]
              exact List.drop_eq_getElem_cons hi
            rw [ed] at e3 l3
            rw [List.map_cons, List.sum_cons] at l3
            walk_at "z"
            refine Z.wIfD (fun hle => ?_) (fun hle => ?_)
            · have ew : (cntL bs n).getD (left - b).toNat 0 = cW bs (left - b) := cntL_cW bs (by omega) (by omega)
              walk_at "z"
              rw [ew]
              refine Z.wIfD (fun hlt2 => ?_) (fun hlt2 => ?_)
              · have e4 : cho bs left bs j = (b, j') := by rw [← e3]; unfold cho; exact if_pos hlt2
                rw [e4] at c1 c2 c3 c4 c5 c6
                walk_at "z"
                rename_i H4 F4
                obtain ⟨f', rfl⟩ : ∃ f', f = f' + 1 := ⟨f - 1, by omega⟩
                refine ⟨left - b, j', acc ++ [b], f', _, _, rfl, ?_, by omega, by omega, n3, c5, by omega, ?_, ?_⟩
                · rw [List.map_append]
                  exact F4
                · rw [← hp, List.append_assoc]
                  show acc ++ (b :: pick bs f' (left - b) j') = acc ++ (if left = 0 then [] else (cho bs left bs j).1 :: pick bs f' (left - (cho bs left bs j).1) (cho bs left bs j).2)
                  rw [if_neg h0, e4]
                · rw [List.length_append]
                  simp only [List.length_cons,
                        List.length_nil]
                  omega
              · walk_at "z"
                rw [ew]
                refine ⟨_, _, rfl, F3, ?_, by omega, by omega⟩
                rw [← e3]
                exact (if_neg hlt2).symm
            · walk_at "z"
              have ew : cW bs (left - b) = 0 := cW_neg (by omega)
              refine ⟨_, _, rfl, F3, ?_, by omega, n3⟩
              rw [← e3]
              show _ = (if j' < cW bs (left - b) then (b, j') else cho bs left (bs.drop (i2 + 1)) (j' - cW bs (left - b)))
              rw [ew, if_neg (by omega), Int.sub_zero]
          · rintro σ H3 ⟨j', v7, rfl, F3, e3, l3, n3⟩
            rw [List.length_map, List.drop_length] at l3
            have l3 : j' < 0 := l3
            omega
      · rintro σ H2 ⟨left, j, acc, f, v6, v7, rfl, F2, l0, l1, j0, j1, hf, hp, ha⟩
        have h0 : left = 0 := by omega
        subst h0
        have ep : pick bs f 0 j = [] := by
          cases f with
          | zero => rfl
          | succ f => exact if_pos rfl
        rw [ep, List.append_nil] at hp
        subst hp
        exact hk _ _ ⟨_, _, _, _, rfl, F2⟩
    · rintro _ H2 ⟨j, vl, v6, v7, rfl, F2⟩
      walk_at "z"
      rename_i t H3 F3
      exact q _ _ (F3.sub (by walk_at "zsub"))
theorem ok__law_picked (T : Txt K mg c_BadCourse c_BadJoints c_BadLength c_BadStock c_BadText c_BadWall c_Stock c_Wall) : Z.Ok CX0 P w K mg base "_law_picked" 1 ["_law_bricks_here", "_law_counts_here", "_law_length", "_law_number"] [] (sp__law_picked K) := by
  obtain ⟨f, fd, F, g⟩ := T.d__law_picked
  exact Z.mkOk F g (F.binds (ps := ["_law_bricks_here", "_law_counts_here", "_law_length", "_law_number"]) fun _ _ _ _ _ _ us hl => match us, hl with | [_, _, _, _], _ => rfl) (fn__law_picked T F)
theorem use__law_picked {H : Hp} {Q : VK} {E : XK} {L : List Z.En} {p w : Addr} {bs : List Int} {n : Nat} {k : Int} (F : Z.Fx H L) (mp : Z.En.ob p (.tup (bs.map V.int)) ∈ L) (mw : Z.En.ob w (.lst ((cntL bs n).map V.int)) ∈ L)
    (pb : bs.Pairwise (· < ·)) (hb : ∀ b ∈ bs, 1 ≤ b) (hn : n ≤ 10000) (k0 : 0 ≤ k) (k1 : k < cW bs n) (q : ∀ t H', Z.Fx H' (.ob t (.tup ((pick bs n n k).map V.int)) :: L) → Q (.ref t) H') : sp__law_picked K [.ref p, .ref w, .int n, .int k] H Q E :=
  ⟨_, _, _, _, rfl, L, p, w, bs, n, k, rfl, rfl, rfl, rfl, F, mp, mw, pb, hb, hn, k0, k1, q⟩
theorem sc__law_fellow : FnScope ["_law_hand_here", "_law_bricks_here", "_law_course", "_law_length", "_law_counts_here"] ["_law_hand_here", "_law_bricks_here", "_law_course"] (defScope s__law_fellow) := ⟨rfl, rfl, rfl, by decide +kernel, rfl, by decide +kernel, by decide +kernel⟩
theorem le_sum {f : Int → Int} : ∀ {l : List Int} {b : Int}, (∀ x ∈ l, 0 ≤ f x) → b ∈ l → f b ≤ (l.map f).sum
  | [], _, _, h => by cases h
  | a :: r, b, h0, h => by
    have a0 := h0 a List.mem_cons_self
    have r0 : 0 ≤ (r.map f).sum := sum_nonneg fun x hx => by
      obtain ⟨y, hy, rfl⟩
            := List.mem_map.mp hx
      exact h0 y (List.mem_cons_of_mem _ hy)
    rw [List.map_cons,
          List.sum_cons]
    rcases List.mem_cons.mp
          h with rfl | h
    · omega
    · have := le_sum (f := f) (l := r) (fun x hx => h0 x (List.mem_cons_of_mem _ hx)) h
      omega
theorem cW_some {ns : List Int} (hb : ∀ b ∈ ns, 1 ≤ b) : ∀ {cs : List Int}, (∀ c ∈ cs, c ∈ ns) → 0 ≤ cs.sum ∧ 1 ≤ cW ns cs.sum
  | [], _ => ⟨Int.le_refl _, by rw [show ([] : List Int).sum = 0 from rfl, cW_zero]; exact Int.le_refl _⟩
  | c :: r, h => by
    obtain ⟨s0, s1⟩ := cW_some hb (cs := r) fun d hd => h d (List.mem_cons_of_mem _ hd)
    have hc := h c List.mem_cons_self
    have c1 := hb c hc
    rw [List.sum_cons]
    refine ⟨by omega, ?_⟩
    rw [cW_succ (by omega) hb]
    have := le_sum (f := fun b => cW ns (c + r.sum - b)) (l := ns) (fun x _ => cW_pos hb _) hc
    rw [show c + r.sum - c = r.sum from by omega] at this
    omega
theorem sum_small : ∀ {cs : List Int}, (∀ c ∈ cs, c ≤ 8) → cs.sum ≤ 8 * cs.length
  | [], _ => by simp
  | c :: r, h => by
    have a := h c List.mem_cons_self
    have b := sum_small (cs := r) fun d hd => h d (List.mem_cons_of_mem _ hd)
    rw [List.sum_cons,
          List.length_cons]
    omega
theorem sum_le_len {f : Int → Int} {B : Int} : ∀ {l : List Int}, (∀ x ∈ l, f x ≤ B) → (l.map f).sum ≤ l.length * B
  | [], _ => by simp
  | a :: r, h => by
    have a0 := h a List.mem_cons_self
    have r0 := sum_le_len (f := f) (B := B) (l := r) fun x hx => h x (List.mem_cons_of_mem _ hx)
    rw [List.map_cons, List.sum_cons, List.length_cons, show ((r.length + 1 : Nat) : Int) * B = r.length * B + B from by rw [Int.natCast_add, Int.add_mul]; simp]
    omega
theorem cW_le {ns : List Int} (hb : ∀ b ∈ ns, 1 ≤ b) (h8 : ns.length ≤ 8) : ∀ (m : Nat) (n : Int), n ≤ m → cW ns n ≤ ((8 ^ m : Nat) : Int)
  | 0, n, h => by
    by_cases h0 : n < 0
    · rw [cW_neg h0]; exact Int.natCast_nonneg _
    · obtain rfl : n = 0 := by omega
      rw [cW_zero]; exact Int.le_refl _
  | m + 1, n, h => by
    have e : 8 ^ (m + 1) = 8 * 8 ^ m := by rw [Nat.pow_succ, Nat.mul_comm]
    have p1 : 1 ≤ 8 ^ m := Nat.pos_of_ne_zero (by simp)
    by_cases h1 : n ≤ m
    · have := cW_le hb h8 m n h1
      omega
    by_cases h0 : 0 < n
    · rw [cW_succ h0 hb]
      have := sum_le_len (f := fun b => cW ns (n - b)) (B := ((8 ^ m : Nat) : Int)) (l := ns) fun x hx => cW_le hb h8 m (n - x) (by have := hb x hx; omega)
      have h3 : (ns.length : Int) * ((8 ^ m : Nat) : Int) ≤ 8 * ((8 ^ m : Nat) : Int) := Int.mul_le_mul_of_nonneg_right (by omega) (Int.natCast_nonneg _)
      omega
    · omega
def sp__law_fellow (K : PySem.W.Frag) : Sp := Z.Sp3 fun a b c H Q E => ∃ (L : List Z.En) (l hc p t : Addr) (ns cs : List Int), Z.Fx H L ∧ a = .ref l ∧ Z.En.hand l hc ∈ L ∧ b = .ref p ∧ Z.En.ob p (.tup (ns.map V.int)) ∈ L ∧ c = .ref t ∧ Z.En.ob t (.tup (cs.map V.int)) ∈ L ∧ ns.Pairwise (· < ·) ∧ (∀ n ∈ ns, 1 ≤ n ∧ n ≤ 8) ∧ cs ≠ [] ∧ (∀ c ∈ cs, c ∈ ns) ∧ cs.length ≤ 6 ∧ ns.length ≤ 8 ∧
  ∀ (t2 : Addr) (ds : List Int) H', ds ≠ [] → (∀ d ∈ ds, d ∈ ns) → ds.sum = cs.sum → Z.Fx H' (.ob t2 (.tup (ds.map V.int)) :: L) → Q (.ref t2) H'
theorem fn__law_fellow (T : Txt K mg c_BadCourse c_BadJoints c_BadLength c_BadStock c_BadText c_BadWall c_Stock c_Wall) {f : Addr} {fd : FuncData} (F : Fun K "_law_fellow" "_law_fellow" s__law_fellow f fd) : FnOk P w K mg base CX0 3 f fd ["_law_hand_here", "_law_bricks_here", "_law_course"] (sp__law_fellow K) := by
  have O__law_counts := ok__law_counts (P := P) (w := w) (base := base) T
  have O__law_picked := ok__law_picked (P := P) (w := w) (base := base) T
  have O__law_take := ok__law_take (P := P) (w := w) (base := base) T
  refine F.ok sc__law_fellow (fun vs H Q E h => ?_) (fun cdv A outer s H vs Q E hr h => ?_)
  · obtain ⟨a, b, c, rfl, _⟩ := h; rfl
  · obtain ⟨a, b, c, rfl, h⟩ := h
    refine ⟨_, (pss_cons (ps_set (i := 3) sc__law_fellow.nd rfl (by first | exact Or.inl rfl | exact Or.inr rfl) (pe_callB (Z.cr_sumS rfl) (by rfl) T.b_sum (by decide +kernel) (pa_cons (pv 2) pa_nil)))
      (pss_cons (ps_set (i := 4) sc__law_fellow.nd rfl (by first | exact Or.inl rfl | exact Or.inr rfl) (Z.pe_callO O__law_counts (by rfl) (hr.mono (by decide)) pass0 (pa_cons (pv 1) (pa_cons (pv 3) pa_nil))))
      (pss_one (ps_ret (Z.pe_callO O__law_picked (by rfl) (hr.mono (by decide)) pass0 (pa_cons (pv 1) (pa_cons (pv 4) (pa_cons (pv 3) (pa_cons (Z.pe_callO O__law_take (by rfl) (hr.mono (by decide)) pass0 (pa_cons (pv 0) (pa_cons (pe_ix ix_seq (pv 4) (pv 3) (fun _ _ => rfl)) pa_nil))) pa_nil))))))))), ?_⟩
    try dsimp only [cxOf, Cx.nox, Cx.wish]
    refine Z.at_start (σ' := [some a, some b, some c, none, none]) rfl ?_
    obtain ⟨L, l, hc, p, t, ns, cs, F, rfl, hm, rfl, mp, rfl, mt, pw, hns, hn, hcs, h6, h8, q⟩ := h
    have lb := Z.line_big
    walk_at "z"
    have hb1 : ∀ b ∈ ns, 1 ≤ b := fun b h => (hns b h).1
    obtain ⟨s0, s1⟩ := cW_some hb1 hcs
    have s8 := sum_small fun c h => (hns c (hcs c h)).2
    obtain ⟨n, en⟩ : ∃ n : Nat, cs.sum = (n : Int) := ⟨cs.sum.toNat, by omega⟩
    rw [en] at s1 ⊢
    refine use__law_counts F mp hb1 (by omega) fun r H1 F1 => ?_
    have hcl := cntL_len ns n
    have hget : atI ((cntL ns n).map V.int) (n : Int) = some (V.int (cW ns n)) := by
      refine atI_nat ?_
      rw [List.getElem?_map, List.getElem?_eq_getElem (by omega)]
      have : cW ns n = (cntL ns n)[n] := by
        unfold cW
        rw [if_neg (by omega), Int.toNat_natCast, List.getD_eq_getElem?_getD, List.getElem?_eq_getElem (by omega)]
        rfl
      rw [this]
      rfl
    walk_at "z"
    have hw8 := cW_le hb1 h8 48 n (by omega)
    have hlog : (cW ns n).natAbs.log2 < 9000 := by
      have h1 : (cW ns n).natAbs.log2 < 145 := by
        refine (Nat.log2_lt (by omega)).mpr ?_
        have : (8 : Nat) ^ 48 < 2 ^ 145 := by decide +kernel
        omega
      omega
    refine use__law_take F1 (.tail _ hm) (by omega) hlog fun k H2 F2 k0 k1 => ?_
    walk_at "z"
    refine use__law_picked F2 (.tail _ mp) List.mem_cons_self pw hb1 (by omega) k0 k1 fun t2 H3 F3 => ?_
    obtain ⟨p1, p2, _⟩ := pick_ok pw hb1 (n := n) (left := n) (Int.le_refl _) (by omega) k0 k1
    refine q t2 _ _ (fun e => ?_) p2 (by rw [p1, en]) (F3.sub (.cons_cons _ (List.sublist_cons_self _ _)))
    rw [e] at p1
    have p1 : (0 : Int) = n := p1
    have h1 := hb1
    cases cs with
    | nil => exact hn rfl
    | cons a r =>
      have a1 := hb1 a (hcs a List.mem_cons_self)
      have r1 := (cW_some hb1 (cs := r) fun d hd => hcs d (List.mem_cons_of_mem _ hd)).1
      rw [List.sum_cons] at en
      omega
theorem ok__law_fellow (T : Txt K mg c_BadCourse c_BadJoints c_BadLength c_BadStock c_BadText c_BadWall c_Stock c_Wall) : Z.Ok CX0 P w K mg base "_law_fellow" 3 ["_law_hand_here", "_law_bricks_here", "_law_course"] [] (sp__law_fellow K) := by
  obtain ⟨f, fd, F, g⟩ := T.d__law_fellow
  exact Z.mkOk F g (F.binds (ps := ["_law_hand_here", "_law_bricks_here", "_law_course"]) fun _ _ _ _ _ _ us hl => match us, hl with | [_, _, _], _ => rfl) (fn__law_fellow T F)
theorem use__law_fellow {H : Hp} {Q : VK} {E : XK} {L : List Z.En} {K : PySem.W.Frag} {l hc p t : Addr} {ns cs : List Int} (F : Z.Fx H L) (hm : Z.En.hand l hc ∈ L) (mp : Z.En.ob p (.tup (ns.map V.int)) ∈ L) (mt : Z.En.ob t (.tup (cs.map V.int)) ∈ L) (pw : ns.Pairwise (· < ·)) (hns : ∀ n ∈ ns, 1 ≤ n ∧ n ≤ 8) (hn : cs ≠ []) (hcs : ∀ c ∈ cs, c ∈ ns) (h6 : cs.length ≤ 6) (h8 : ns.length ≤ 8)
  (q : ∀ (t2 : Addr) (ds : List Int) H', ds ≠ [] → (∀ d ∈ ds, d ∈ ns) → ds.sum = cs.sum → Z.Fx H' (.ob t2 (.tup (ds.map V.int)) :: L) → Q (.ref t2) H') : sp__law_fellow K [.ref l, .ref p, .ref t] H Q E := ⟨_, _, _, rfl, L, l, hc, p, t, ns, cs, F, rfl, hm, rfl, mp, rfl, mt, pw, hns, hn, hcs, h6, h8, q⟩
theorem sc_BadStock___init__ : FnScope ["self", "what"] ["self", "what"] (defScope s_BadStock___init__) := ⟨rfl, rfl, rfl, by decide +kernel, rfl, by decide +kernel, by decide +kernel⟩

theorem fn_BadStock___init__ (T : Txt K mg c_BadCourse c_BadJoints c_BadLength c_BadStock c_BadText c_BadWall c_Stock c_Wall) {f : Addr} {fd : FuncData} (F : Fun K "__init__" "BadStock.__init__" s_BadStock___init__ f fd) : FnOk P w K mg base CX0 1 f fd ["self", "what"] (Z.spErr1 K "what") := by
  refine F.ok sc_BadStock___init__ (fun vs H Q E h => ?_) (fun cdv A outer s H vs Q E hr h => ?_)
  · obtain ⟨a, b, rfl, _⟩ := h; rfl
  · obtain ⟨a, b, rfl, h⟩ := h
    refine ⟨_, (pss_one (ps_ost (pv 0) (pv 1))), ?_⟩
    try dsimp only [cxOf, Cx.nox, Cx.wish]
    refine Z.at_start (σ' := [some a, some b]) rfl ?_
    exact Z.init1_run h
theorem ok_BadStock___init__ (T : Txt K mg c_BadCourse c_BadJoints c_BadLength c_BadStock c_BadText c_BadWall c_Stock c_Wall) : Z.ErrO P w K mg base c_BadStock 1 ["self", "what"] (Z.spErr1 K "what") := by
  obtain ⟨f, fd, F, i⟩ := T.d_BadStock___init__
  exact ⟨f, fd, i, (F.binds (ps := ["self", "what"]) fun _ _ _ _ _ _ us hl => match us, hl with | [_, _], _ => rfl), fn_BadStock___init__ T F⟩
theorem sc_is_sequence : FnScope ["thing", "low", "high"] ["thing", "low", "high"] (defScope s_is_sequence) := ⟨rfl, rfl, rfl, by decide +kernel, rfl, by decide +kernel, by decide +kernel⟩
/-- the length within bounds, of a list or a tuple -/
def sp_is_sequence (K : PySem.W.Frag) : Sp := Z.Sp3 fun a b c H Q E => ∃ (L : List Z.En) (o : Option (List V)) (lo hi : Int), Z.Fx H L ∧ Z.SeqIs L a o ∧ b = .int lo ∧ c = .int hi ∧ ∀ H', Z.Fx H' L → Q (.bl (Z.inLen lo hi o)) H'
theorem fn_is_sequence (T : Txt K mg c_BadCourse c_BadJoints c_BadLength c_BadStock c_BadText c_BadWall c_Stock c_Wall) {f : Addr} {fd : FuncData} (F : Fun K "is_sequence" "is_sequence" s_is_sequence f fd) : FnOk P w K mg base CX0 1 f fd ["thing", "low", "high"] (sp_is_sequence K) := by
  refine F.ok sc_is_sequence (fun vs H Q E h => ?_) (fun cdv A outer s H vs Q E hr h => ?_)
  · obtain ⟨a, b, c, rfl, _⟩ := h; rfl
  · obtain ⟨a, b, c, rfl, h⟩ := h
    refine ⟨_, (pss_one (ps_ret (pe_andT (pe_callB Z.zIsi (by rfl) T.b_isinstance (by decide +kernel) (pa_cons (pv 0) (pa_cons (pe_tup (pa_cons (pe_bltn (by rfl) T.b_list (by decide +kernel) (show RelV (.ty "list") _ from rfl)) (pa_cons (pe_bltn (by rfl) T.b_tuple (by decide +kernel) (show RelV (.ty "tuple") _ from rfl)) pa_nil))) pa_nil))) (pe_one (pe_chain Z.zLe Z.zLe (pv 1) (pe_callB Z.zLen (by rfl) T.b_len (by decide +kernel) (pa_cons (pv 0) pa_nil)) (pv 2)))))), ?_⟩
    try dsimp only [cxOf, Cx.nox, Cx.wish]
    refine Z.at_start (σ' := [some a, some b, some c]) rfl ?_
    obtain ⟨L, o, lo, hi, F, hs, rfl, rfl, k⟩ := h
    walk_at "z"
    rename_i p H1 F1
    have F2 := F1.sub (L' := L) (by walk_at "zsub")
    cases hs with
    | lst m =>
      refine Z.wIsiLT (Z.HasK.lst (F2.lst m)) F1 (by walk_at "zm") ?_
      walk_at "zz"
      all_goals (have e := k _ F2; simpa [Z.inLen, *] using e)
    | tup m =>
      refine Z.wIsiLT (Z.HasK.tup (F2.tup m)) F1 (by walk_at "zm") ?_
      walk_at "zz"
      all_goals (have e := k _ F2; simpa [Z.inLen, *] using e)
    | non => exact Z.wIsiLT .non F1 (by walk_at "zm") (by walk_at "z"; exact k _ F2)
    | bl b => exact Z.wIsiLT (.bl b) F1 (by walk_at "zm") (by walk_at "z"; exact k _ F2)
    | int i => exact Z.wIsiLT (.int i) F1 (by walk_at "zm") (by walk_at "z"; exact k _ F2)
    | str z => exact Z.wIsiLT (.str z) F1 (by walk_at "zm") (by walk_at "z"; exact k _ F2)
    | dct m => exact Z.wIsiLT (.dct (F2.get m)) F1 (by walk_at "zm") (by walk_at "z"; exact k _ F2)
theorem ok_is_sequence (T : Txt K mg c_BadCourse c_BadJoints c_BadLength c_BadStock c_BadText c_BadWall c_Stock c_Wall) : Z.Ok CX0 P w K mg base "is_sequence" 1 ["thing", "low", "high"] [] (sp_is_sequence K) := by
  obtain ⟨f, fd, F, g⟩ := T.d_is_sequence
  exact Z.mkOk F g (F.binds (ps := ["thing", "low", "high"]) fun _ _ _ _ _ _ us hl => match us, hl with | [_, _, _], _ => rfl) (fn_is_sequence T F)
theorem use_is_sequence {H : Hp} {Q : VK} {E : XK} {L : List Z.En} {a : V} {o : Option (List V)} {lo hi : Int} (F : Z.Fx H L) (s : Z.SeqIs L a o) (k : ∀ H', Z.Fx H' L → Q (.bl (Z.inLen lo hi o)) H') : sp_is_sequence K [a, .int lo, .int hi] H Q E :=
  ⟨_, _, _, rfl, L, o, lo, hi, F, s, rfl, rfl, k⟩
local macro_rules | `(tactic| walk_at "zc") => `(tactic| ((with_reducible refine' use_is_sequence ?zf ?zs ?_); (case zf => walk_at "zF"); (case zs => walk_at "zis"); with_reducible intro _ _))
theorem sc_is_whole : FnScope ["thing", "low", "high"] ["thing", "low", "high"] (defScope s_is_whole) := ⟨rfl, rfl, rfl, by decide +kernel, rfl, by decide +kernel, by decide +kernel⟩
/-- what a bound may be -/
def isBd (v : V) : Prop := v = .non ∨ ∃ i, v = .int i
def sp_is_whole (K : PySem.W.Frag) : Sp := Z.Sp3 fun a b c H Q E => ∃ k, Z.HasK K H a k ∧ isBd b ∧ isBd c ∧ Q (.bl (Z.inB a b c)) H
theorem fn_is_whole (T : Txt K mg c_BadCourse c_BadJoints c_BadLength c_BadStock c_BadText c_BadWall c_Stock c_Wall) {f : Addr} {fd : FuncData} (F : FunD K "is_whole" "is_whole" (defArgs s_is_whole) (defBody s_is_whole) (defScope s_is_whole) [.non, .non] [] f fd) : FnOk P w K mg base CX0 1 f fd ["thing", "low", "high"] (sp_is_whole K) := by
  refine F.ok (CX := CX0) sc_is_whole (fun vs H Q E h => ?_) (fun cdv A outer s H vs Q E hr h => ?_)
  · obtain ⟨a, b, c, rfl, _⟩ := h; rfl
  · obtain ⟨a, b, c, rfl, h⟩ := h
    refine ⟨_, (pss_cons (ps_if (PW.pt (pw_or (pt_not (Z.pt_truN (pe_callB Z.zIsi (by rfl) T.b_isinstance (by decide +kernel) (pa_cons (pv 0) (pa_cons (pe_bltn (by rfl) T.b_int (by decide +kernel) (show RelV (.ty "int") _ from rfl)) pa_nil))))) (pw_or1 (Z.pt_truN (pe_callB Z.zIsi (by rfl) T.b_isinstance (by decide +kernel) (pa_cons (pv 0) (pa_cons (pe_bltn (by rfl) T.b_bool (by decide +kernel) (show RelV (.ty "bool") _ from rfl)) pa_nil)))))))
        (pss_one (ps_ret pe_bl))
        pss_nil)
      (pss_one (ps_ret (pe_andT (pe_orT (pe_cmpR Z.zIs (pv 1) pe_non (nomark _)) (pe_one (pe_cmpR Z.zGe (pv 0) (pv 1) (nomark _)))) (pe_one (pe_orT (pe_cmpR Z.zIs (pv 2) pe_non (nomark _)) (pe_one (pe_cmpR Z.zLe (pv 0) (pv 2) (nomark _))))))))), ?_⟩
    try dsimp only [cxOf, Cx.nox, Cx.wish]
    refine Z.at_start (σ' := [some a, some b, some c]) rfl ?_
    obtain ⟨k, hk, hb, hc, q⟩ := h
    walk_at "z"
    refine Z.wIsiInt hk ?_
    cases hk with
    | int i =>
      walk_at "z"
      refine Z.wIsiBool (.int i) ?_
      rcases hb with rfl | ⟨lo, rfl⟩ <;> rcases hc with rfl | ⟨hi, rfl⟩ <;> walk_at "zz"
      all_goals simpa [Z.inB, *] using q
    | bl b =>
      walk_at "z"
      refine Z.wIsiBool (.bl b) ?_
      walk_at "z"
      exact q
    | _ =>
      walk_at "z"
      exact q
theorem ok_is_whole_1 (T : Txt K mg c_BadCourse c_BadJoints c_BadLength c_BadStock c_BadText c_BadWall c_Stock c_Wall) : Z.Ok CX0 P w K mg base "is_whole" 1 ["thing", "low", "high"] [.non, .non] (sp_is_whole K) := by
  obtain ⟨f, fd, F, g⟩ := T.d_is_whole
  obtain ⟨ds, v, b⟩ := F.binds1 (ps := ["thing", "low", "high"]) 1 0 (by decide) rfl fun T kV doc pm an cdv ct us its h1 h2 => match us, h1, its, h2 with | [_], _, [_, _], _ => ⟨_, rfl, rfl⟩
  exact ⟨f, fd, ds, g, F.kp, b, v, fn_is_whole T F⟩
theorem ok_is_whole_2 (T : Txt K mg c_BadCourse c_BadJoints c_BadLength c_BadStock c_BadText c_BadWall c_Stock c_Wall) : Z.Ok CX0 P w K mg base "is_whole" 1 ["thing", "low", "high"] [.non] (sp_is_whole K) := by
  obtain ⟨f, fd, F, g⟩ := T.d_is_whole
  obtain ⟨ds, v, b⟩ := F.binds1 (ps := ["thing", "low", "high"]) 2 1 (by decide) rfl fun T kV doc pm an cdv ct us its h1 h2 => match us, h1, its, h2 with | [_, _], _, [_, _], _ => ⟨_, rfl, rfl⟩
  exact ⟨f, fd, ds, g, F.kp, b, v, fn_is_whole T F⟩
theorem ok_is_whole_3 (T : Txt K mg c_BadCourse c_BadJoints c_BadLength c_BadStock c_BadText c_BadWall c_Stock c_Wall) : Z.Ok CX0 P w K mg base "is_whole" 1 ["thing", "low", "high"] [] (sp_is_whole K) := by
  obtain ⟨f, fd, F, g⟩ := T.d_is_whole
  obtain ⟨ds, v, b⟩ := F.binds1 (ps := ["thing", "low", "high"]) 3 2 (by decide) rfl fun T kV doc pm an cdv ct us its h1 h2 => match us, h1, its, h2 with | [_, _, _], _, [_, _], _ => ⟨_, rfl, rfl⟩
  exact ⟨f, fd, ds, g, F.kp, b, v, fn_is_whole T F⟩
theorem use_is_whole {H : Hp} {Q : VK} {E : XK} {a b c : V} {k : Z.Kd} (hk : Z.HasK K H a k) (hb : isBd b) (hc : isBd c) (q : Q (.bl (Z.inB a b c)) H) : sp_is_whole K [a, b, c] H Q E := ⟨_, _, _, rfl, k, hk, hb, hc, q⟩
local macro_rules | `(tactic| walk_at "zc") => `(tactic| ((with_reducible refine' use_is_whole ?zk ?zb ?zc ?_); (case zk => walk_at "zk"); (case zb => first | exact Or.inl rfl | exact Or.inr ⟨_, rfl⟩); (case zc => first | exact Or.inl rfl | exact Or.inr ⟨_, rfl⟩)))
theorem sc__are_bricks : FnScope ["bricks", "lesser", "greater", "brick"] ["bricks"] (defScope s__are_bricks) := ⟨rfl, rfl, rfl, by decide +kernel, rfl, by decide +kernel, by decide +kernel⟩
/-- whole numbers from 1 to 8, ascending, one to four of them -/
def goodB : Option (List V) → Bool
  | none => false
  | some xs => Z.inLen 1 4 (some xs) && xs.all (fun x => Z.inB x (.int 1) (.int 8)) && Z.asc (xs.map intV)
def sp__are_bricks (K : PySem.W.Frag) : Sp := Z.Sp1 fun a H Q E => ∃ (L : List Z.En) (o : Option (List V)), Z.Fx H L ∧ Z.SeqIs L a o ∧ (∀ xs, o = some xs → ∀ x ∈ xs, ∃ k, Z.Thing L x k) ∧ ∀ H', Z.Fx H' L → Q (.bl (goodB o)) H'
theorem fn__are_bricks (T : Txt K mg c_BadCourse c_BadJoints c_BadLength c_BadStock c_BadText c_BadWall c_Stock c_Wall) {f : Addr} {fd : FuncData} (F : Fun K "_are_bricks" "_are_bricks" s__are_bricks f fd) : FnOk P w K mg base CX0 2 f fd ["bricks"] (sp__are_bricks K) := by
  have O_is_sequence := ok_is_sequence (P := P) (w := w) (base := base) T
  have O_is_whole_1 := ok_is_whole_1 (P := P) (w := w) (base := base) T
  have O_is_whole_2 := ok_is_whole_2 (P := P) (w := w) (base := base) T
  have O_is_whole_3 := ok_is_whole_3 (P := P) (w := w) (base := base) T
  refine F.ok sc__are_bricks (fun vs H Q E h => ?_) (fun cdv A outer s H vs Q E hr h => ?_)
  · obtain ⟨a, rfl, _⟩ := h; rfl
  · obtain ⟨a, rfl, h⟩ := h
    refine ⟨_, (pss_cons (ps_if (PW.pt (pw_or (pt_not (Z.pt_truN (Z.pe_callO O_is_sequence (by rfl) (hr.mono (by decide)) pass0 (pa_cons (pv 0) (pa_cons pe_int (pa_cons pe_int pa_nil)))))) (pw_or1 (pt_not (Z.pt_truN (pe_callB (cr_all rfl) (by rfl) T.b_all (by decide +kernel) (pa_cons (by exact (pe_lc (own := [("brick", 3)]) (g := (gName 3)) (by rfl) sc__are_bricks.nd (Z.pi_seq (pv 0)) (blkOk_by (own := [("brick", 3)]) (N := ["bricks", "lesser", "greater", "brick"]) (sc := defScope s__are_bricks) (by decide +kernel)) (fun _ _ _ _ _ => (by exact (pg_name (i := 3) sc__are_bricks.nd rfl (by first | exact Or.inl rfl | exact Or.inr rfl)))) (fun _ _ _ _ _ => (by exact pts_nil)) (fun _ _ _ _ _ => (by exact (Z.pe_callO O_is_whole_3 (by rfl) (hr.mono (by decide)) pass0 (pa_cons (pv 3) (pa_cons pe_int (pa_cons pe_int pa_nil)))))))) pa_nil)))))))
        (pss_one (ps_ret pe_bl))
        pss_nil)
      (pss_one (ps_ret (pe_callB (cr_all rfl) (by rfl) T.b_all (by decide +kernel) (pa_cons (by exact (pe_lc (own := [("lesser", 1), ("greater", 2)]) (g := (gTup K 2 (gCons (gName 1) (gCons (gName 2) gNil)))) (by rfl) sc__are_bricks.nd (pi_zipA (by rfl) T.b_zip (pa_cons (pv 0) (pa_cons (pe_slice Z.zSl (pv 0) (po_some pe_int) po_none) pa_nil))) (blkOk_by (own := [("lesser", 1), ("greater", 2)]) (N := ["bricks", "lesser", "greater", "brick"]) (sc := defScope s__are_bricks) (by decide +kernel)) (fun _ _ _ _ _ => (by exact (pg_tup (by rfl) (pgs_cons (pg_name (i := 1) sc__are_bricks.nd rfl (by first | exact Or.inl rfl | exact Or.inr rfl)) (pgs_cons (pg_name (i := 2) sc__are_bricks.nd rfl (by first | exact Or.inl rfl | exact Or.inr rfl)) pgs_nil))))) (fun _ _ _ _ _ => (by exact pts_nil)) (fun _ _ _ _ _ => (by exact (pe_cmpR Z.zLt (pv 1) (pv 2) (nomark _)))))) pa_nil))))), ?_⟩
    try dsimp only [cxOf, Cx.nox, Cx.wish]
    refine Z.at_start (σ' := [some a, none, none, none]) rfl ?_
    obtain ⟨L, o, F, hs, ht, k⟩ := h
    cases o with
    | none =>
      walk_at "z"
      rename_i H1 F1
      exact k _ F1
    | some xs =>
      have ht := ht xs rfl
      walk_at "z"
      rename_i H1 F1
      refine Z.wIf (fun hl => ?_) (fun hl => ?_)
      · walk_at "z"
        have e := k _ F1
        have hl' : Z.inLen 1 4 (some xs) = false := by simpa using hl
        simpa [goodB, hl'] using e
      have hl' : Z.inLen 1 4 (some xs) = true := by simpa using hl
      walk_at "z"
      refine Z.wLcS hs F1 (fun i acc L' => L' = L ∧ acc = (xs.take i).map fun x => V.bl (Z.inB x (.int 1) (.int 8))) ⟨rfl, rfl⟩ (fun i acc L' r e he => r.1 ▸ he) ?_ ?_
      · rintro i x D H2 acc L' hx ⟨rfl, rfl⟩ F2
        obtain ⟨kd, tx⟩ := ht x (List.mem_of_getElem? hx)
        have hkx := (tx.cons (e := .ob D (.lst ((xs.take i).map fun x => V.bl (Z.inB x (.int 1) (.int 8)))))).has (K := K) F2
        walk_at "zw"
        walk_at "z"
        refine ⟨rfl, ?_⟩
        walk_at "z"
        refine Z.lcPut F2 (by rw [List.length_map, List.length_take]; have := Z.line_big; have e : decide ((xs.length : Int) ≤ 4) = true := by simp only [Z.inLen, Bool.and_eq_true] at hl'; exact hl'.2
                              have e := of_decide_eq_true e; omega) ⟨rfl, (Z.take_succ_map hx).symm⟩
      rintro D acc L' H2 F2 ⟨rfl, rfl⟩
      rw [List.take_length] at F2
      have e0 : (xs.map fun x => V.bl (Z.inB x (.int 1) (.int 8))) = (xs.map fun x => Z.inB x (.int 1) (.int 8)).map V.bl := by rw [List.map_map]; rfl
      rw [e0] at F2
      walk_at "z"
      refine Z.wAll (F2.lst List.mem_cons_self) ?_
      walk_at "z"
      have ea : (xs.map fun x => Z.inB x (.int 1) (.int 8)).all id = xs.all fun x => Z.inB x (.int 1) (.int 8) := by rw [List.all_map]; rfl
      rw [ea]
      refine Z.wIf (fun hb => ?_) (fun hb => ?_)
      · walk_at "z"
        have e := k _ (F2.sub (by walk_at "zsub"))
        have hb' : (xs.all fun x => Z.inB x (.int 1) (.int 8)) = false := by simpa using hb
        simpa [goodB, hl', hb'] using e
      have hb' : (xs.all fun x => Z.inB x (.int 1) (.int 8)) = true := by simpa using hb
      have F3 := F2.sub (L' := L') (by walk_at "zsub")
      clear F2
      have hne : xs ≠ [] := by rintro rfl; simp [Z.inLen] at hl'
      obtain ⟨ns, rfl⟩ := Z.ints_of hb'
      walk_at "z"
      refine Z.wSlS hs hne F3 fun p H3 e F4 hq => ?_
      walk_at "z"
      refine Z.wLcZ hq F4 (fun i acc L2 => (∀ x ∈ e :: L', x ∈ L2) ∧ (e :: L').Sublist L2 ∧ acc = ((ns.zip ns.tail).take i).map fun p => V.bl (decide (p.1 < p.2))) ⟨fun _ h => h, .refl _, rfl⟩ (fun i acc L' r => r.1) ?_ ?_
      · rintro i x y T D H5 acc L2 hx hy ⟨hk, hsub, rfl⟩ F5
        obtain ⟨u, rfl, hu⟩ := Z.int_of_map' hx
        rw [← List.map_tail] at hy
        obtain ⟨v, rfl, hv⟩ := Z.int_of_map' hy
        walk_at "zw"
        walk_at "z"
        refine ⟨rfl, ?_⟩
        walk_at "z"
        have hz : (ns.zip ns.tail)[i]? = some (u, v) := by
          rw [List.getElem?_zip_eq_some]
          exact ⟨hu, hv⟩
        have F6 := F5.perm (List.Perm.swap _ _ _)
        have hlen : ns.length ≤ 4 := by
          simp only [Z.inLen, Bool.and_eq_true, List.length_map] at hl'
          have e := of_decide_eq_true hl'.2
          omega
        refine Z.lcPut F6 (by rw [List.length_map, List.length_take, List.length_zip]; have := Z.line_big; omega) ⟨fun x hx => List.mem_cons_of_mem _ (hk x hx), hsub.cons _, (Z.take_succ_map hz).symm⟩
      · rintro D acc L2 H5 F5 ⟨hk, hsub, rfl⟩
        have en : min (ns.map V.int).length (ns.map V.int).tail.length = (ns.zip ns.tail).length := by rw [List.length_zip, List.length_tail, List.length_tail, List.length_map]
        rw [en, List.take_length] at F5
        have e1 : ((ns.zip ns.tail).map fun p => V.bl (decide (p.1 < p.2))) = ((ns.zip ns.tail).map fun p => decide (p.1 < p.2)).map V.bl := by rw [List.map_map]; rfl
        rw [e1] at F5
        walk_at "z"
        refine Z.wAll (F5.lst List.mem_cons_self) ?_
        have e2 : ((ns.zip ns.tail).map fun p => decide (p.1 < p.2)).all id = Z.asc ns := by rw [List.all_map, ← Z.asc_zip]; rfl
        rw [e2]
        have F6 := (F5.sub (L' := L2) (by walk_at "zsub")).sub hsub
        have e3 := k _ (F6.sub (L' := L') (by walk_at "zsub"))
        have e4 : goodB (some (ns.map V.int)) = Z.asc ns := by
          show (Z.inLen 1 4 (some (ns.map V.int)) && (ns.map V.int).all (fun x => Z.inB x (.int 1) (.int 8)) && Z.asc ((ns.map V.int).map intV)) = _
          rw [hl', hb', intV_map]
          rfl
        rw [e4] at e3
        exact e3
theorem ok__are_bricks (T : Txt K mg c_BadCourse c_BadJoints c_BadLength c_BadStock c_BadText c_BadWall c_Stock c_Wall) : Z.Ok CX0 P w K mg base "_are_bricks" 2 ["bricks"] [] (sp__are_bricks K) := by
  obtain ⟨f, fd, F, g⟩ := T.d__are_bricks
  exact Z.mkOk F g (F.binds (ps := ["bricks"]) fun _ _ _ _ _ _ us hl => match us, hl with | [_], _ => rfl) (fn__are_bricks T F)
theorem use__are_bricks {H : Hp} {Q : VK} {E : XK} {L : List Z.En} {a : V} {o : Option (List V)} (F : Z.Fx H L) (s : Z.SeqIs L a o) (ht : ∀ xs, o = some xs → ∀ x ∈ xs, ∃ k, Z.Thing L x k) (k : ∀ H', Z.Fx H' L → Q (.bl (goodB o)) H') : sp__are_bricks K [a] H Q E := ⟨_, rfl, L, o, F, s, ht, k⟩
theorem sc_Stock___init__ : FnScope ["self", "bricks", "lap", "reach"] ["self", "bricks", "lap", "reach"] (defScope s_Stock___init__) := ⟨rfl, rfl, rfl, by decide +kernel, rfl, by decide +kernel, by decide +kernel⟩
/-- a stock's attributes -/
def stockF (b : V) (lap reach : V) : List (Str × V) := putF "reach" reach (putF "lap" lap (putF "bricks" b []))
theorem stock_bricks (b l r : V) : (stockF b l r).lookup ("bricks" : Str) = some b := by
  unfold stockF
  rw [lookup_putF, if_neg (by decide +kernel), lookup_putF, if_neg (by decide +kernel), lookup_putF, if_pos rfl]
theorem stock_lap (b l r : V) : (stockF b l r).lookup ("lap" : Str) = some l := by
  unfold stockF
  rw [lookup_putF, if_neg (by decide +kernel), lookup_putF, if_pos rfl]
theorem stock_reach (b l r : V) : (stockF b l r).lookup ("reach" : Str) = some r := by
  unfold stockF
  rw [lookup_putF, if_pos rfl]
/-- the first word that is due -/
def stockW (o : Option (List V)) (lap reach : V) : Option Str := if goodB o = false then some "bricks" else if Z.inB lap (.int 1) (.int 4) = false then some "lap" else if Z.inB reach (.int 1) (.int 2) = false then some "reach" else none
/-- what a stock is made of: a new tuple of what was handed in, or this very tuple -/
inductive StL (L : List Z.En) (b : V) (xs : List V) (p : Addr) : List Z.En → Prop where
  | new : StL L b xs p (.ob p (.tup xs) :: L)
  | same (e : b = .ref p) (m : Z.En.ob p (.tup xs) ∈ L) : StL L b xs p L
theorem StL.sub {L L1 : List Z.En} {b : V} {xs : List V} {p : Addr} (h : StL L b xs p L1) : L.Sublist L1 := by
  cases h with
  | new => exact .cons _ (.refl _)
  | same e m => exact .refl _
theorem StL.mem {L L1 : List Z.En} {b : V} {xs : List V} {p : Addr} (h : StL L b xs p L1) : Z.En.ob p (.tup xs) ∈ L1 := by
  cases h with
  | new => exact List.mem_cons_self
  | same e m => exact m
def sp_Stock___init__ (K : PySem.W.Frag) (cS cB : Addr) : Sp := Z.Sp4 fun a b c d H Q E => ∃ (L : List Z.En) (x dx : Addr) (o : Option (List V)) (k1 k2 : Z.Kd), a = .ref x ∧
  Z.Fx H (.ob x (.ins cS dx []) :: .ob dx (.own x) :: L) ∧ Z.SeqIs L b o ∧ (∀ xs, o = some xs → ∀ x ∈ xs, ∃ k, Z.Thing L x k) ∧ Z.Thing L c k1 ∧ Z.Thing L d k2 ∧
  (∀ w, stockW o c d = some w → ∀ e H', Z.Fx H' (.ob e (.xd [("what", .str w)]) :: L) → E (.ref cB) (some e) H') ∧
  (stockW o c d = none → ∀ xs p L1 H', o = some xs → StL L b xs p L1 → Z.Fx H' (.ob x (.ins cS dx (stockF (.ref p) c d)) :: .ob dx (.own x) :: L1) → Q .non H')
theorem fn_Stock___init__ (T : Txt K mg c_BadCourse c_BadJoints c_BadLength c_BadStock c_BadText c_BadWall c_Stock c_Wall) {f : Addr} {fd : FuncData} (F : FunD K "__init__" "Stock.__init__" (defArgs s_Stock___init__) (defBody s_Stock___init__) (defScope s_Stock___init__) [.int 1, .int 1] [] f fd) : FnOk P w K mg base (L2.CX P w) 3 f fd ["self", "bricks", "lap", "reach"] (sp_Stock___init__ K c_Stock c_BadStock) := by
  have O_BadStock___init__ := ok_BadStock___init__ (P := P) (w := w) (base := base) T
  have O__are_bricks := ok__are_bricks (P := P) (w := w) (base := base) T
  have O_is_whole_1 := ok_is_whole_1 (P := P) (w := w) (base := base) T
  have O_is_whole_2 := ok_is_whole_2 (P := P) (w := w) (base := base) T
  have O_is_whole_3 := ok_is_whole_3 (P := P) (w := w) (base := base) T
  refine F.ok (CX := (L2.CX P w)) sc_Stock___init__ (fun vs H Q E h => ?_) (fun cdv A outer s H vs Q E hr h => ?_)
  · obtain ⟨a, b, c, d, rfl, _⟩ := h; rfl
  · obtain ⟨a, b, c, d, rfl, h⟩ := h
    have TK := takes_of (X := cxOf (L2.CX P w) P w K mg base ["self", "bricks", "lap", "reach"] "Stock.__init__" (defScope s_Stock___init__) f cdv A outer s H E) rfl rfl rfl rfl
    refine ⟨_, (pss_cons (ps_if (pt_not (Z.pt_truN (Z.pe_callO O__are_bricks (by rfl) (hr.mono (by decide)) pass0 (pa_cons (pv 1) pa_nil))))
        (pss_one (ps_raise (by rfl) TK (Z.pmk_errO T.x_BadStock O_BadStock___init__ (hr.mono (by decide)) T.g_BadStock (by rfl) (pa_cons pe_str pa_nil))))
        pss_nil)
      (pss_cons (ps_if (pt_not (Z.pt_truN (Z.pe_callO O_is_whole_3 (by rfl) (hr.mono (by decide)) pass0 (pa_cons (pv 2) (pa_cons pe_int (pa_cons pe_int pa_nil))))))
        (pss_one (ps_raise (by rfl) TK (Z.pmk_errO T.x_BadStock O_BadStock___init__ (hr.mono (by decide)) T.g_BadStock (by rfl) (pa_cons pe_str pa_nil))))
        pss_nil)
      (pss_cons (ps_if (pt_not (Z.pt_truN (Z.pe_callO O_is_whole_3 (by rfl) (hr.mono (by decide)) pass0 (pa_cons (pv 3) (pa_cons pe_int (pa_cons pe_int pa_nil))))))
        (pss_one (ps_raise (by rfl) TK (Z.pmk_errO T.x_BadStock O_BadStock___init__ (hr.mono (by decide)) T.g_BadStock (by rfl) (pa_cons pe_str pa_nil))))
        pss_nil)
      (pss_cons (ps_fld (pv 0) (pe_callTy Z.zTuple (by rfl) T.b_tuple (by decide +kernel) (pa_cons (pv 1) pa_nil)) rfl)
      (pss_cons (ps_fld (pv 0) (pv 2) rfl)
      (pss_one (ps_fld (pv 0) (pv 3) rfl))))))), ?_⟩
    try dsimp only [cxOf, Cx.nox, Cx.wish]
    refine Z.at_start (σ' := [some a, some b, some c, some d]) rfl ?_
    obtain ⟨L, x, dx, o, k1, k2, rfl, F, hs, ht, hc, hd, kE, kQ⟩ := h
    have sub : ∀ e ∈ L, e ∈ (Z.En.ob x (.ins c_Stock dx []) :: Z.En.ob dx (.own x) :: L) := fun e h => List.mem_cons_of_mem _ (List.mem_cons_of_mem _ h)
    walk_at "z"
    refine use__are_bricks F (hs.mono sub) (fun xs e y hy => let ⟨k, t⟩ := ht xs e y hy; ⟨k, t.mono sub⟩) fun H1 F1 => ?_
    walk_at "z"
    refine Z.wIf (fun hb => ?_) (fun hb => ?_)
    · have hb' : goodB o = false := by simpa using hb
      walk_at "z"
      refine Z.wMk1 T.x_BadStock.oex T.n_BadStock_what (F1.sub (L' := L) (by walk_at "zsub")) fun e H2 F2 => kE _ (by unfold stockW; rw [if_pos hb']) _ _ F2
    have hb' : goodB o = true := by simpa using hb
    have nb : ¬ goodB o = false := by rw [hb']; decide
    walk_at "z"
    refine use_is_whole ((hc.mono sub).has F1) (.inr ⟨_, rfl⟩) (.inr ⟨_, rfl⟩) ?_
    walk_at "z"
    refine Z.wIf (fun h1 => ?_) (fun h1 => ?_)
    · have h1' : Z.inB c (.int 1) (.int 4) = false := by simpa using h1
      walk_at "z"
      refine Z.wMk1 T.x_BadStock.oex T.n_BadStock_what (F1.sub (L' := L) (by walk_at "zsub")) fun e H2 F2 => kE _ (by unfold stockW; rw [if_neg nb, if_pos h1']) _ _ F2
    have h1' : ¬ Z.inB c (.int 1) (.int 4) = false := by simpa using h1
    walk_at "z"
    refine use_is_whole ((hd.mono sub).has F1) (.inr ⟨_, rfl⟩) (.inr ⟨_, rfl⟩) ?_
    walk_at "z"
    refine Z.wIf (fun h2 => ?_) (fun h2 => ?_)
    · have h2' : Z.inB d (.int 1) (.int 2) = false := by simpa using h2
      walk_at "z"
      refine Z.wMk1 T.x_BadStock.oex T.n_BadStock_what (F1.sub (L' := L) (by walk_at "zsub")) fun e H2 F2 => kE _ (by unfold stockW; rw [if_neg nb, if_neg h1', if_pos h2']) _ _ F2
    have h2' : ¬ Z.inB d (.int 1) (.int 2) = false := by simpa using h2
    have hw : stockW o c d = none := by unfold stockW; rw [if_neg nb, if_neg h1', if_neg h2']
    have hcl := T.i_Stock.cl
    cases hs with
    | @lst q xs m =>
      walk_at "z"
      rename_i p H2 F2
      refine Z.wStoreF F2 (by walk_at "zm") hcl T.n_Stock_bricks (by decide) (.tail .head) fun H3 F3 => ?_
      walk_at "z"
      refine Z.wStoreF F3 (by walk_at "zm") hcl T.n_Stock_lap (Nat.lt_of_le_of_lt (putF_len _ _ _) (by decide)) (.tail .head) fun H4 F4 => ?_
      walk_at "z"
      refine Z.wStoreF F4 (by walk_at "zm") hcl T.n_Stock_reach (Nat.lt_of_le_of_lt (putF_len _ _ _) (Nat.lt_of_le_of_lt (Nat.succ_le_succ (putF_len _ _ _)) (by decide))) (.tail .head) fun H5 F5 => ?_
      refine kQ hw xs p (.ob p (.tup xs) :: L) _ rfl .new (F5.perm ?_)
      exact (List.Perm.swap _ _ _).trans ((List.Perm.swap _ _ _).cons _)
    | @tup q xs m =>
      walk_at "z"
      refine Z.wStoreF F1 (by walk_at "zm") hcl T.n_Stock_bricks (by decide) .head fun H3 F3 => ?_
      walk_at "z"
      refine Z.wStoreF F3 (by walk_at "zm") hcl T.n_Stock_lap (Nat.lt_of_le_of_lt (putF_len _ _ _) (by decide)) .head fun H4 F4 => ?_
      walk_at "z"
      refine Z.wStoreF F4 (by walk_at "zm") hcl T.n_Stock_reach (Nat.lt_of_le_of_lt (putF_len _ _ _) (Nat.lt_of_le_of_lt (Nat.succ_le_succ (putF_len _ _ _)) (by decide))) .head fun H5 F5 => ?_
      exact kQ hw xs q L _ rfl (.same rfl m) F5
    | _ => exact absurd hb' (by decide)
theorem ok_Stock___init___3 (T : Txt K mg c_BadCourse c_BadJoints c_BadLength c_BadStock c_BadText c_BadWall c_Stock c_Wall) : Z.MkO (L2.CX P w) P w K mg base c_Stock 3 ["self", "bricks", "lap", "reach"] [] (sp_Stock___init__ K c_Stock c_BadStock) := by
  obtain ⟨f, fd, F, i⟩ := T.d_Stock___init__
  obtain ⟨ds, v, b⟩ := F.binds1 (ps := ["self", "bricks", "lap", "reach"]) 4 2 (by decide) rfl fun T kV doc pm an cdv ct us its h1 h2 => match us, h1, its, h2 with | [_, _, _, _], _, [_, _], _ => ⟨_, rfl, rfl⟩
  exact ⟨f, fd, ds, i, b, v, fn_Stock___init__ T F⟩
theorem use_Stock {cS cB : Addr} {H : Hp} {QX : Addr → Hp → Prop} {E : XK} {L : List Z.En} {b c d : V} {o : Option (List V)} {k1 k2 : Z.Kd} (F : Z.Fx H L) (hs : Z.SeqIs L b o) (ht : ∀ xs, o = some xs → ∀ x ∈ xs, ∃ k, Z.Thing L x k) (hc : Z.Thing L c k1) (hd : Z.Thing L d k2)
    (kE : ∀ w, stockW o c d = some w → ∀ e H', Z.Fx H' (.ob e (.xd [("what", .str w)]) :: L) → E (.ref cB) (some e) H')
    (kQ : stockW o c d = none → ∀ x dx xs p L1 H', o = some xs → StL L b xs p L1 → Z.Fx H' (.ob x (.ins cS dx (stockF (.ref p) c d)) :: .ob dx (.own x) :: L1) → QX x H') :
    ∀ x dx, H x = none → H dx = none → dx ≠ x → sp_Stock___init__ K cS cB [.ref x, b, c, d] (upd (upd H dx (.own x)) x (.ins cS dx [])) (fun v H2 => v = .non ∧ QX x H2) E := fun x dx hx hdx ne =>
  ⟨_, _, _, _, rfl, L, x, dx, o, k1, k2, rfl, F.inst hx hdx ne, hs, ht, hc, hd, kE, fun w xs p L1 H' e s F' => ⟨rfl, kQ w x dx xs p L1 H' e s F'⟩⟩
def gKw {α : Type} : List α → List α → List α → List α
  | [a, b], _, [r, l] => [a, b, l, r]
  | _, _, _ => []
theorem gKw_rel {vs ds zs : List V} {us its ws : List Value} (h1 : Vals vs us) (h2 : Vals ds its) (h3 : Vals zs ws) : Vals (gKw vs ds zs) (gKw us its ws) := by
  cases h1 with
  | nil => exact .nil
  | cons a r1 =>
    cases r1 with
    | nil => exact .nil
    | cons b r2 =>
      cases r2 with
      | cons _ _ => exact .nil
      | nil =>
        cases h3 with
        | nil => exact .nil
        | cons c r3 =>
          cases r3 with
          | nil => exact .nil
          | cons d r4 =>
            cases r4 with
            | nil => exact .cons a (.cons b (.cons d (.cons c .nil)))
            | cons _ _ => exact .nil
theorem ok_Stock___init___k1_reach_lap (T : Txt K mg c_BadCourse c_BadJoints c_BadLength c_BadStock c_BadText c_BadWall c_Stock c_Wall) : Z.MkKO (L2.CX P w) P w K mg base c_Stock 3 ["self", "bricks", "lap", "reach"] ["reach", "lap"] 1 (fun vs zs => gKw vs [.int 1, .int 1] zs) (sp_Stock___init__ K c_Stock c_BadStock) := by
  obtain ⟨f, fd, F, i⟩ := T.d_Stock___init__
  obtain ⟨its, b⟩ := F.kbindsD (ps := ["self", "bricks", "lap", "reach"]) 2 ["reach", "lap"] gKw (by decide) (fun h1 h2 h3 => gKw_rel h1 h2 h3) fun T kV doc pm an cdv ct us its ws h1 h2 h3 => match us, h1, its, h2, ws, h3 with | [_, _], _, [_, _], _, [_, _], _ => ⟨_, rfl, rfl⟩
  exact ⟨f, fd, _, i, b, fn_Stock___init__ T F⟩
theorem sc_Stock___eq__ : FnScope ["self", "other"] ["self", "other"] (defScope s_Stock___eq__) := ⟨rfl, rfl, rfl, by decide +kernel, rfl, by decide +kernel, by decide +kernel⟩
/-- at x a stock of the bricks ns -/
def StockIn (cS : Addr) (L : List Z.En) (x : Addr) (ns : List Int) (l r : Int) : Prop := ∃ dx p, Z.En.ob x (.ins cS dx (stockF (.ref p) (.int l) (.int r))) ∈ L ∧ Z.En.ob p (.tup (ns.map V.int)) ∈ L
def sp_Stock___eq__ (K : PySem.W.Frag) (cS : Addr) : Sp := Z.Sp2 fun a b H Q E => ∃ (L : List Z.En) (x : Addr) (ns : List Int) (l r : Int), a = .ref x ∧ Z.Fx H L ∧ StockIn cS L x ns l r ∧
  ((∃ y ms l' r', b = .ref y ∧ StockIn cS L y ms l' r' ∧ Q (.bl (decide (ns = ms) && (decide (l = l') && decide (r = r')))) H) ∨ ∃ y ys, b = .ref y ∧ Z.En.ob y (.tup ys) ∈ L ∧ Q (.bl false) H)
theorem fn_Stock___eq__ (T : Txt K mg c_BadCourse c_BadJoints c_BadLength c_BadStock c_BadText c_BadWall c_Stock c_Wall) {f : Addr} {fd : FuncData} (F : Fun K "__eq__" "Stock.__eq__" s_Stock___eq__ f fd) : FnOk P w K mg base CX0 1 f fd ["self", "other"] (sp_Stock___eq__ K c_Stock) := by
  refine F.ok sc_Stock___eq__ (fun vs H Q E h => ?_) (fun cdv A outer s H vs Q E hr h => ?_)
  · obtain ⟨a, b, rfl, _⟩ := h; rfl
  · obtain ⟨a, b, rfl, h⟩ := h
    refine ⟨_, (pss_one (ps_ret (pe_andT (pe_callB Z.zIsi (by rfl) T.b_isinstance (by decide +kernel) (pa_cons (pv 1) (pa_cons (pe_glob (v := V.ref c_Stock) (by rfl) T.g_Stock (show RelV (V.ref _) _ from rfl)) pa_nil))) (pe_andT (pe_cmpR (Z.zEq (Z.hu0 hr)) (pe_fld (pv 0) rfl) (pe_fld (pv 1) rfl) (nomark _)) (pe_andT (pe_cmpR (Z.zEq (Z.hu0 hr)) (pe_fld (pv 0) rfl) (pe_fld (pv 1) rfl) (nomark _)) (pe_one (pe_cmpR (Z.zEq (Z.hu0 hr)) (pe_fld (pv 0) rfl) (pe_fld (pv 1) rfl) (nomark _)))))))), ?_⟩
    try dsimp only [cxOf, Cx.nox, Cx.wish]
    refine Z.at_start (σ' := [some a, some b]) rfl ?_
    obtain ⟨L, x, ns, l, r, rfl, F, ⟨dx, p, m1, m2⟩, h⟩ := h
    have hcl := T.i_Stock.cl
    rcases h with ⟨y, ms, l', r', rfl, ⟨dy, q, n1, n2⟩, h⟩ | ⟨y, ys, rfl, n1, h⟩
    · walk_at "z"
      refine Z.wIsiOwn T.i_Stock (F.get n1) ?_
      walk_at "z"
      refine Z.wFldAt F m1 hcl T.n_Stock_bricks (stock_bricks _ _ _) ?_
      walk_at "z"
      refine Z.wFldAt F n1 hcl T.n_Stock_bricks (stock_bricks _ _ _) ?_
      refine Z.wEqTT (F.tup m2) (F.tup n2) ?_
      walk_at "z"
      refine Z.wIfD (fun h1 => ?_) (fun h1 => ?_)
      · walk_at "z"
        refine Z.wFldAt F m1 hcl T.n_Stock_lap (stock_lap _ _ _) ?_
        walk_at "z"
        refine Z.wFldAt F n1 hcl T.n_Stock_lap (stock_lap _ _ _) ?_
        walk_at "z"
        refine Z.wIfD (fun h2 => ?_) (fun h2 => ?_)
        · walk_at "z"
          refine Z.wFldAt F m1 hcl T.n_Stock_reach (stock_reach _ _ _) ?_
          walk_at "z"
          refine Z.wFldAt F n1 hcl T.n_Stock_reach (stock_reach _ _ _) ?_
          walk_at "z"
          simpa [h1, h2] using h
        · simpa [h1, h2] using h
      · simpa [h1] using h
    · walk_at "z"
      refine Z.wIsiTupOwn T.i_Stock (F.tup n1) ?_
      walk_at "z"
      exact h
theorem ok_Stock___eq__ (T : Txt K mg c_BadCourse c_BadJoints c_BadLength c_BadStock c_BadText c_BadWall c_Stock c_Wall) : Z.EqO P w K mg base c_Stock 1 ["self", "other"] (sp_Stock___eq__ K c_Stock) := by
  obtain ⟨f, fd, F, i⟩ := T.d_Stock___eq__
  exact ⟨f, fd, i, (F.binds (ps := ["self", "other"]) fun _ _ _ _ _ _ us hl => match us, hl with | [_, _], _ => rfl), fn_Stock___eq__ T F⟩
theorem intOf_inB {x lo hi : V} (h : Z.inB x lo hi = true) : ∃ v, x = .int v := by
  cases x with
  | int i => exact ⟨i, rfl⟩
  | _ => exact absurd h (by simp [Z.inB])
/-- what a stock that no word refuses is made of -/
theorem stock_data {o : Option (List V)} {nv fv : V} (h : stockW o nv fv = none) : ∃ (ns : List Int) (l r : Int), o = some (ns.map V.int) ∧ goodB (some (ns.map V.int)) = true ∧ nv = .int l ∧ fv = .int r ∧ (1 ≤ l ∧ l ≤ 4) ∧ 1 ≤ r ∧ r ≤ 2 := by
  unfold stockW at h
  by_cases g : goodB o = false
  · rw [if_pos g] at h; cases h
  rw [if_neg g] at h
  by_cases g1 : Z.inB nv (.int 1) (.int 4) = false
  · rw [if_pos g1] at h; cases h
  rw [if_neg g1] at h
  by_cases g2 : Z.inB fv (.int 1) (.int 2) = false
  · rw [if_pos g2] at h; cases h
  have e0 : goodB o = true := by simpa using g
  have e1 : Z.inB nv (.int 1) (.int 4) = true := by simpa using g1
  have e2 : Z.inB fv (.int 1) (.int 2) = true := by simpa using g2
  cases o with
  | none => cases e0
  | some xs =>
    have e3 : (Z.inLen 1 4 (some xs) && xs.all (fun x => Z.inB x (.int 1) (.int 8)) && Z.asc (xs.map intV)) = true := e0
    rw [Bool.and_eq_true, Bool.and_eq_true] at e3
    obtain ⟨ns, rfl⟩ := Z.ints_of e3.1.2
    obtain ⟨l, rfl⟩ := intOf_inB e1
    obtain ⟨r, rfl⟩ := intOf_inB e2
    simp only [Z.inB, Bool.and_eq_true, decide_eq_true_eq] at e1 e2
    exact ⟨ns, l, r, rfl, e0, rfl, rfl, e1, e2⟩
/-- a stock is made of anything: the word that is due, or the stock -/
theorem use_StockX {K : PySem.W.Frag} {cS cB : Addr} {H : Hp} {QX : Addr → Hp → Prop} {E : XK} {L : List Z.En} {b c d : V} {o : Option (List V)} {k1 k2 : Z.Kd} (F : Z.Fx H L) (hs : Z.SeqIs L b o) (ht : ∀ xs, o = some xs → ∀ x ∈ xs, ∃ k, Z.Thing L x k) (hc : Z.Thing L c k1) (hd : Z.Thing L d k2)
    (kE : ∀ w, stockW o c d = some w → ∀ e H', Z.Fx H' (.ob e (.xd [("what", .str w)]) :: L) → E (.ref cB) (some e) H')
    (kQ : ∀ ns l r, o = some (ns.map V.int) → goodB (some (ns.map V.int)) = true → c = .int l → d = .int r → (1 ≤ l ∧ l ≤ 4) → (1 ≤ r ∧ r ≤ 2) → ∀ x L2 H', L.Sublist L2 → StockIn cS L2 x ns l r → Z.Fx H' L2 → QX x H') :
    ∀ x dx, H x = none → H dx = none → dx ≠ x → sp_Stock___init__ K cS cB [.ref x, b, c, d] (upd (upd H dx (.own x)) x (.ins cS dx [])) (fun v H2 => v = .non ∧ QX x H2) E :=
  use_Stock F hs ht hc hd kE fun hw x dx xs p L1 H' e st F' => by
    obtain ⟨ns, l, r, eo, hg, rfl, rfl, hl, hr⟩ := stock_data hw
    subst e
    cases eo
    exact kQ ns l r rfl hg rfl rfl hl hr x _ H' (.cons _ (.cons _ st.sub)) ⟨dx, p, List.mem_cons_self, List.mem_cons_of_mem _ (List.mem_cons_of_mem _ st.mem)⟩ F'
theorem ints_things {L : List Z.En} {ns : List Int} : ∀ xs, some (ns.map V.int) = some xs → ∀ x ∈ xs, ∃ k, Z.Thing L x k := fun xs e x hx => by
  cases e
  obtain ⟨z, _, rfl⟩ := List.mem_map.mp hx
  exact ⟨_, .int z⟩
theorem good_ints {ns : List Int} (h : goodB (some (ns.map V.int)) = true) : 1 ≤ ns.length ∧ ns.length ≤ 4 ∧ (∀ n ∈ ns, 1 ≤ n ∧ n ≤ 8) ∧ ns.Pairwise (· < ·) := by
  have h' : (Z.inLen 1 4 (some (ns.map V.int)) && (ns.map V.int).all (fun x => Z.inB x (.int 1) (.int 8)) && Z.asc ((ns.map V.int).map intV)) = true := h
  rw [intV_map, Bool.and_eq_true, Bool.and_eq_true] at h'
  obtain ⟨⟨h1, h2⟩, h3⟩ := h'
  simp only [Z.inLen, Bool.and_eq_true, List.length_map] at h1
  have a := of_decide_eq_true h1.1
  have b := of_decide_eq_true h1.2
  refine ⟨by omega, by omega, fun n hn => ?_, Z.asc_pw.mp h3⟩
  have c := List.all_eq_true.mp h2 (.int n) (List.mem_map_of_mem hn)
  simp [Z.inB] at c
  omega
theorem good_of {ns : List Int} (n1 : 1 ≤ ns.length) (n4 : ns.length ≤ 4) (n8 : ∀ n ∈ ns, 1 ≤ n ∧ n ≤ 8) (p : ns.Pairwise (· < ·)) : goodB (some (ns.map V.int)) = true := by
  have e1 : Z.inLen 1 4 (some (ns.map V.int)) = true := by simp only [Z.inLen, Bool.and_eq_true, decide_eq_true_eq, List.length_map]; omega
  have e2 : (ns.map V.int).all (fun x => Z.inB x (.int 1) (.int 8)) = true := by
    rw [List.all_eq_true]
    intro x hx
    obtain ⟨z, hz, rfl⟩ := List.mem_map.mp hx
    simp only [Z.inB, Bool.and_eq_true, decide_eq_true_eq]
    exact n8 z hz
  show (Z.inLen 1 4 (some (ns.map V.int)) && (ns.map V.int).all (fun x => Z.inB x (.int 1) (.int 8)) && Z.asc ((ns.map V.int).map intV)) = true
  rw [e1, e2, intV_map, Z.asc_pw.mpr p]
  rfl
theorem filt_yes {ns : List Int} {i : Nat} {v z : Int} (h : ns[i]? = some v) (n : v ≠ z) : (ns.take (i + 1)).filter (· != z) = (ns.take i).filter (· != z) ++ [v] := by
  rw [List.take_add_one,
        h, List.filter_append]
  simp [n]
theorem filt_no {ns : List Int} {i : Nat} {v z : Int} (h : ns[i]? = some v) (n : v = z) : (ns.take (i + 1)).filter (· != z) = (ns.take i).filter (· != z) := by
  rw [List.take_add_one,
        h, List.filter_append]
  simp [n]
theorem stock_no {m : Str} (b l r : V) (h1 : m ≠ "bricks") (h2 : m ≠ "lap") (h3 : m ≠ "reach") : (stockF b l r).lookup m = none := by
  unfold stockF
  rw [lookup_putF, if_neg h3, lookup_putF, if_neg h2, lookup_putF, if_neg h1]
  rfl
theorem StockIn.le {cS : Addr} {L L2 : List Z.En} {ns : List Int} {l r : Int} {x : Addr} (s : StockIn cS L x ns l r) (h : L.Sublist L2) : StockIn cS L2 x ns l r := by
  obtain ⟨dx, p, m1, m2⟩ := s
  exact ⟨dx, p, h.subset m1, h.subset m2⟩
theorem ints_injG {a b : List Int} (h : some (a.map V.int) = some (b.map V.int)) : a = b := by
  have e := Option.some.inj h
  have e2 := congrArg (List.map intV) e
  rw [intV_map, intV_map] at e2
  exact e2
theorem stockW_G {ms : List Int} {l r : Int} (hg : goodB (some (ms.map V.int)) = true) (hl : 1 ≤ l ∧ l ≤ 4) (hr : 1 ≤ r ∧ r ≤ 2) : stockW (some (ms.map V.int)) (.int l) (.int r) = none := by
  have e1 : Z.inB (.int l) (.int 1) (.int 4) = true := by simp [Z.inB]; omega
  have e2 : Z.inB (.int r) (.int 1) (.int 2) = true := by simp [Z.inB]; omega
  unfold stockW
  rw [if_neg (by rw [hg]; decide), if_neg (by rw [e1]; decide), if_neg (by rw [e2]; decide)]
theorem use_StockG {K : PySem.W.Frag} {cS cB : Addr} {H : Hp} {QX : Addr → Hp → Prop} {E : XK} {L : List Z.En} {b : V} {ns : List Int} {l r : Int} (F : Z.Fx H L) (hs : Z.SeqIs L b (some (ns.map V.int))) (hg : goodB (some (ns.map V.int)) = true) (hl : 1 ≤ l ∧ l ≤ 4) (hr : 1 ≤ r ∧ r ≤ 2)
    (k : ∀ x L2 H', L.Sublist L2 → StockIn cS L2 x ns l r → Z.Fx H' L2 → QX x H') :
    ∀ x dx, H x = none → H dx = none → dx ≠ x → sp_Stock___init__ K cS cB [.ref x, b, .int l, .int r] (upd (upd H dx (.own x)) x (.ins cS dx [])) (fun v H2 => v = .non ∧ QX x H2) E :=
  use_StockX F hs ints_things (.int _) (.int _) (fun w hw => by rw [stockW_G hg hl hr] at hw; cases hw) (fun ms l' r' em hgm el er _ _ x L2 H' s si F' => by
    obtain rfl := ints_injG em
    injection el with e1
    injection er with e2
    subst e1 e2
    exact k x L2 H' s si F')
theorem sc_length_of : FnScope ["course"] ["course"] (defScope s_length_of) := ⟨rfl, rfl, rfl, by decide +kernel, rfl, by decide +kernel, by decide +kernel⟩
def sp_length_of (K : PySem.W.Frag) : Sp := Z.Sp1 fun a H Q E => ∃ (L : List Z.En) (ns : List Int), Z.Fx H L ∧ Z.SeqIs L a (some (ns.map V.int)) ∧ Q (.int ns.sum) H
theorem fn_length_of (T : Txt K mg c_BadCourse c_BadJoints c_BadLength c_BadStock c_BadText c_BadWall c_Stock c_Wall) {f : Addr} {fd : FuncData} (F : Fun K "length_of" "length_of" s_length_of f fd) : FnOk P w K mg base CX0 1 f fd ["course"] (sp_length_of K) := by
  refine F.ok sc_length_of (fun vs H Q E h => ?_) (fun cdv A outer s H vs Q E hr h => ?_)
  · obtain ⟨a, rfl, _⟩ := h; rfl
  · obtain ⟨a, rfl, h⟩ := h
    refine ⟨_, (pss_one (ps_ret (pe_callB (Z.cr_sumS rfl) (by rfl) T.b_sum (by decide +kernel) (pa_cons (pv 0) pa_nil)))), ?_⟩
    try dsimp only [cxOf, Cx.nox, Cx.wish]
    refine Z.at_start (σ' := [some a]) rfl ?_
    obtain ⟨L, ns, F, hs, q⟩ := h
    walk_at "z"
    refine Z.wSumS hs F ?_
    exact q
theorem ok_length_of (T : Txt K mg c_BadCourse c_BadJoints c_BadLength c_BadStock c_BadText c_BadWall c_Stock c_Wall) : Z.Ok CX0 P w K mg base "length_of" 1 ["course"] [] (sp_length_of K) := by
  obtain ⟨f, fd, F, g⟩ := T.d_length_of
  exact Z.mkOk F g (F.binds (ps := ["course"]) fun _ _ _ _ _ _ us hl => match us, hl with | [_], _ => rfl) (fn_length_of T F)
theorem use_length_of {H : Hp} {Q : VK} {E : XK} {L : List Z.En} {a : V} {ns : List Int} (F : Z.Fx H L) (hs : Z.SeqIs L a (some (ns.map V.int))) (q : Q (.int ns.sum) H) : sp_length_of K [a] H Q E := ⟨_, rfl, L, ns, F, hs, q⟩
theorem sc_BadCourse___init__ : FnScope ["self", "index", "what"] ["self", "index", "what"] (defScope s_BadCourse___init__) := ⟨rfl, rfl, rfl, by decide +kernel, rfl, by decide +kernel, by decide +kernel⟩

theorem fn_BadCourse___init__ (T : Txt K mg c_BadCourse c_BadJoints c_BadLength c_BadStock c_BadText c_BadWall c_Stock c_Wall) {f : Addr} {fd : FuncData} (F : Fun K "__init__" "BadCourse.__init__" s_BadCourse___init__ f fd) : FnOk P w K mg base CX0 1 f fd ["self", "index", "what"] (Z.spErr2 K "index" "what") := by
  refine F.ok sc_BadCourse___init__ (fun vs H Q E h => ?_) (fun cdv A outer s H vs Q E hr h => ?_)
  · obtain ⟨a, b, c, rfl, _⟩ := h; rfl
  · obtain ⟨a, b, c, rfl, h⟩ := h
    refine ⟨_, (pss_cons (ps_ost (pv 0) (pv 1))
      (pss_one (ps_ost (pv 0) (pv 2)))), ?_⟩
    try dsimp only [cxOf, Cx.nox, Cx.wish]
    refine Z.at_start (σ' := [some a, some b, some c]) rfl ?_
    exact Z.init2_run h
theorem ok_BadCourse___init__ (T : Txt K mg c_BadCourse c_BadJoints c_BadLength c_BadStock c_BadText c_BadWall c_Stock c_Wall) : Z.ErrO P w K mg base c_BadCourse 1 ["self", "index", "what"] (Z.spErr2 K "index" "what") := by
  obtain ⟨f, fd, F, i⟩ := T.d_BadCourse___init__
  exact ⟨f, fd, i, (F.binds (ps := ["self", "index", "what"]) fun _ _ _ _ _ _ us hl => match us, hl with | [_, _, _], _ => rfl), fn_BadCourse___init__ T F⟩
theorem sc_check_course : FnScope ["stock", "course", "index", "brick"] ["stock", "course"] (defScope s_check_course) := ⟨rfl, rfl, rfl, by decide +kernel, rfl, by decide +kernel, by decide +kernel⟩
def brickOk (ns : List Int) (y : V) : Bool := match y with | .int z => decide (z ∈ ns) | _ => false
/-- the first word that is due of a course -/
def courseW (ns : List Int) : Option (List V) → Option (Int × Str)
  | none => some (0, "many")
  | some xs => if Z.inLen 1 400 (some xs) = false then some (0, "many") else if xs.all (brickOk ns) = false then some (((xs.findIdx fun y => !brickOk ns y : Nat) : Int), "brick") else if 400 < (xs.map intV).sum then some (0, "long") else none
theorem courseW_at {ns : List Int} {xs : List V} {i : Nat} {y : V} (hl : Z.inLen 1 400 (some xs) = true) (h : ∀ y ∈ xs.take i, brickOk ns y = true) (hy : xs[i]? = some y) (hn : brickOk ns y = false) : courseW ns (some xs) = some ((i : Int), ("brick" : Str)) := by
  obtain ⟨hi, e⟩ := List.getElem?_eq_some_iff.mp hy
  have ea : xs.all (brickOk ns) = false := by
    rw [List.all_eq_false]
    exact ⟨y, List.mem_of_getElem? hy, by rw [hn]; decide⟩
  have ef : xs.findIdx (fun y => !brickOk ns y) = i := by
    rw [List.findIdx_eq hi]
    refine ⟨by rw [e, hn]; rfl, fun j hj => ?_⟩
    rw [h (xs[j]'(by omega)) (List.mem_take_iff_getElem.mpr ⟨j, by omega, rfl⟩)]
    rfl
  show (if _ then _ else _) = _
  rw [if_neg (by rw [hl]; decide), if_pos ea, ef]
theorem ints_of_ok {ns : List Int} : ∀ {xs : List V}, (∀ y ∈ xs, brickOk ns y = true) → ∃ cs : List Int, xs = cs.map V.int ∧ ∀ c ∈ cs, c ∈ ns
  | [], _ => ⟨[], rfl, by simp⟩
  | y :: r, h => by
    obtain ⟨cs, e, hc⟩ := ints_of_ok (xs := r) fun z hz => h z (List.mem_cons_of_mem _ hz)
    have hy := h y List.mem_cons_self
    cases y with
    | int z =>
      have hz : z ∈ ns := of_decide_eq_true hy
      exact ⟨z :: cs, by rw [e]; rfl, fun c hc' => by
        rcases List.mem_cons.mp hc' with rfl | hc'
        · exact hz
        · exact hc c hc'⟩
    | _ => exact absurd hy (by simp [brickOk])
def sp_check_course (K : PySem.W.Frag) (cS cB : Addr) : Sp := Z.Sp2 fun a b H Q E => ∃ (L : List Z.En) (x : Addr) (ns : List Int) (l r : Int) (o : Option (List V)), a = .ref x ∧ Z.Fx H L ∧ StockIn cS L x ns l r ∧ Z.SeqIs L b o ∧ (∀ xs, o = some xs → ∀ x ∈ xs, ∃ k, Z.Thing L x k) ∧
  (∀ i w, courseW ns o = some (i, w) → ∀ e H', Z.Fx H' (.ob e (.xd [("what", .str w), ("index", .int i)]) :: L) → E (.ref cB) (some e) H') ∧
  (courseW ns o = none → ∀ (cs : List Int) (p : Addr) (L1 : List Z.En) (H' : Hp), o = some (cs.map V.int) → (∀ c ∈ cs, c ∈ ns) → 1 ≤ cs.length → cs.length ≤ 400 → cs.sum ≤ 400 → StL L b (cs.map V.int) p L1 → Z.Fx H' L1 → Q (.ref p) H')
theorem fnN_check_course (T : Txt K mg c_BadCourse c_BadJoints c_BadLength c_BadStock c_BadText c_BadWall c_Stock c_Wall) {f : Addr} {fd : FuncData} (F : Fun K "check_course" "check_course" s_check_course f fd) : FnOk P w K mg base (L2N.CX P w) 3 f fd ["stock", "course"] (sp_check_course K c_Stock c_BadCourse) := by
  have O_BadCourse___init__ := ok_BadCourse___init__ (P := P) (w := w) (base := base) T
  have O_is_sequence := ok_is_sequence (P := P) (w := w) (base := base) T
  have O_is_whole_1 := ok_is_whole_1 (P := P) (w := w) (base := base) T
  have O_is_whole_2 := ok_is_whole_2 (P := P) (w := w) (base := base) T
  have O_is_whole_3 := ok_is_whole_3 (P := P) (w := w) (base := base) T
  have O_length_of := ok_length_of (P := P) (w := w) (base := base) T
  refine Z.okXN F sc_check_course (fun vs H Q E h => ?_) (fun cdv A outer s H vs Q E hr h => ?_)
  · obtain ⟨a, b, rfl, _⟩ := h; rfl
  · obtain ⟨a, b, rfl, h⟩ := h
    have TK := L2N.takes_of (X := cxOf (L2N.CX P w) P w K mg base ["stock", "course", "index", "brick"] "check_course" (defScope s_check_course) f cdv A outer s H E) rfl rfl rfl rfl
    refine ⟨_, (pss_cons (ps_if (pt_not (Z.pt_truN (Z.pe_callO O_is_sequence (by rfl) (hr.mono (by decide)) pass0 (pa_cons (pv 1) (pa_cons pe_int (pa_cons pe_int pa_nil))))))
        (pss_one (L2N.ps_raise (by rfl) TK (Z.pmk_errN T.x_BadCourse O_BadCourse___init__ (hr.mono (by decide)) T.g_BadCourse (by rfl) (pa_cons pe_int (pa_cons pe_str pa_nil)))))
        pss_nil)
      (pss_cons (ps_for (Z.owns rfl) (by rfl) (Z.pi_enumS (by rfl) T.b_enumerate (pa_cons (pv 1) pa_nil)) (pg_tup (by rfl) (pgs_cons (pg_name (i := 2) sc_check_course.nd rfl (by first | exact Or.inl rfl | exact Or.inr rfl)) (pgs_cons (pg_name (i := 3) sc_check_course.nd rfl (by first | exact Or.inl rfl | exact Or.inr rfl)) pgs_nil)))
        (pss_one (ps_if (PW.pt (pw_or (pt_not (Z.pt_truN (Z.pe_callO O_is_whole_1 (by rfl) (hr.mono (by decide)) pass0 (pa_cons (pv 3) pa_nil)))) (pw_or1 (pt_cmpR Z.zNotIn (pv 3) (pe_fld (pv 0) rfl) (by rfl)))))
          (pss_one (L2N.ps_raise (by rfl) TK (Z.pmk_errN T.x_BadCourse O_BadCourse___init__ (hr.mono (by decide)) T.g_BadCourse (by rfl) (pa_cons (pv 2) (pa_cons pe_str pa_nil)))))
          pss_nil)))
      (pss_cons (ps_if (pt_cmpR Z.zGt (Z.pe_callO O_length_of (by rfl) (hr.mono (by decide)) pass0 (pa_cons (pv 1) pa_nil)) pe_int (nomark _))
        (pss_one (L2N.ps_raise (by rfl) TK (Z.pmk_errN T.x_BadCourse O_BadCourse___init__ (hr.mono (by decide)) T.g_BadCourse (by rfl) (pa_cons pe_int (pa_cons pe_str pa_nil)))))
        pss_nil)
      (pss_one (ps_ret (pe_callTy Z.zTuple (by rfl) T.b_tuple (by decide +kernel) (pa_cons (pv 1) pa_nil))))))), ?_⟩
    try dsimp only [cxOf, Cx.nox, Cx.wish]
    refine Z.at_start (σ' := [some a, some b, none, none]) rfl ?_
    obtain ⟨L, x, ns, l, r, o, rfl, F, ⟨dx, p, m1, m2⟩, hs, ht, kE, kQ⟩ := h
    have hcl := T.i_Stock.cl
    walk_at "z"
    rename_i H1 F1
    refine Z.wIf (fun hb => ?_) (fun hb => ?_)
    · walk_at "z"
      have hb' : Z.inLen 1 400 o = false := by simpa using hb
      refine Z.wMk2 T.x_BadCourse.oex T.n_BadCourse_index T.n_BadCourse_what F1 fun e H2 F2 => kE 0 "many" ?_ _ _ F2
      cases o with
      | none => rfl
      | some xs => exact if_pos hb'
    have hl : Z.inLen 1 400 o = true := by simpa using hb
    cases o with
    | none => exact absurd hl (by decide)
    | some xs =>
      have ht := ht xs rfl
      walk_at "z"
      refine Z.wForE hs F1 (fun i σ H' => ∃ v2 v3, σ = [some (.ref x), some b, v2, v3] ∧ Z.Fx H' L ∧ ∀ y ∈ xs.take i, brickOk ns y = true) ?_ ?_ ?_ ?_
      · exact ⟨_, _, rfl, F1, by simp⟩
      · rintro i σ H' ⟨v2, v3, rfl, F', _⟩
        exact ⟨L, F', fun _ _ h => h⟩
      · rintro i y t σ H2 hy ⟨v2, v3, rfl, F2, h2⟩ hT
        obtain ⟨ky, ty⟩ := ht y (List.mem_of_getElem? hy)
        have F3 := F2.new (o := .tup [.int (i : Nat), y]) hT
        generalize upd H2 t (.tup [.int (i : Nat), y]) = H3 at *
        have hky := (ty.cons (e := .ob t (.tup [.int (i : Nat), y]))).has (K := K) F3
        have ett : xs.take (i + 1) = xs.take i ++ [y] := by rw [List.take_add_one, hy]; rfl
        walk_at "z"
        have bad : brickOk ns y = false → ∀ e H', Z.Fx H' (.ob e (.xd [("what", .str "brick"), ("index", .int (i : Nat))]) :: L) → E (.ref c_BadCourse) (some e) H' := fun hn => kE i "brick" (courseW_at hl h2 hy hn)
        cases y with
        | int z =>
          walk_at "z"
          refine Z.wFldAt F3 (.tail _ m1) hcl T.n_Stock_bricks (stock_bricks _ _ _) ?_
          refine Z.wNotInTu (F3.tup (.tail _ m2)) ?_
          walk_at "z"
          refine Z.wIf (fun hz => ?_) (fun hz => ?_)
          · walk_at "z"
            exact Z.wMk2 T.x_BadCourse.oex T.n_BadCourse_index T.n_BadCourse_what (F3.sub (L' := L) (by walk_at "zsub")) (bad (by simpa [brickOk] using hz))
          · walk_at "z"
            refine ⟨_, _, rfl, F3.sub (by walk_at "zsub"), fun u hu => ?_⟩
            rw [ett] at hu
            rcases List.mem_append.mp
                  hu with hu | hu
            · exact h2 u hu
            · cases List.mem_singleton.mp hu
              simpa [brickOk] using hz
        | _ =>
          walk_at "z"
          exact Z.wMk2 T.x_BadCourse.oex T.n_BadCourse_index T.n_BadCourse_what (F3.sub (L' := L) (by walk_at "zsub")) (bad rfl)
      · rintro σ H2 ⟨v2, v3, rfl, F2, h2⟩
        rw [List.take_length] at h2
        obtain ⟨cs, rfl, hc⟩ := ints_of_ok h2
        have ea : (cs.map V.int).all (brickOk ns) = true := List.all_eq_true.mpr h2
        have hl2 : 1 ≤ cs.length ∧ cs.length ≤ 400 := by
          simp only [Z.inLen, Bool.and_eq_true, List.length_map] at hl
          have a := of_decide_eq_true hl.1
          have b := of_decide_eq_true hl.2
          omega
        walk_at "z"
        refine use_length_of F2 hs ?_
        walk_at "z"
        have ew : courseW ns (some (cs.map V.int)) = if 400 < cs.sum then some (0, ("long" : Str)) else none := by
          show (if _ then _ else _) = _
          rw [if_neg (by rw [hl]; decide), if_neg (by rw [ea]; decide), intV_map]
        refine Z.wIfD (fun h4 => ?_) (fun h4 => ?_)
        · walk_at "z"
          exact Z.wMk2 T.x_BadCourse.oex T.n_BadCourse_index T.n_BadCourse_what F2 fun e H3 F3 => kE 0 "long" (by rw [ew, if_pos h4]) _ _ F3
        · have kQ := kQ (by rw [ew, if_neg h4])
          generalize ey : cs.map V.int = ys at hs
          cases hs with
          | lst m =>
            subst ey
            walk_at "z"
            rename_i t H3 F3
            exact kQ cs t _ _ rfl hc hl2.1 hl2.2 (by omega) .new F3
          | tup m =>
            subst ey
            walk_at "z"
            exact kQ cs _ _ _ rfl hc hl2.1 hl2.2 (by omega) (.same rfl m) F2
theorem fn_check_course (T : Txt K mg c_BadCourse c_BadJoints c_BadLength c_BadStock c_BadText c_BadWall c_Stock c_Wall) {f : Addr} {fd : FuncData} (F : Fun K "check_course" "check_course" s_check_course f fd) : FnOk P w K mg base (L2.CX P w) 3 f fd ["stock", "course"] (sp_check_course K c_Stock c_BadCourse) := Z.fn_plain (fnN_check_course T F)
theorem ok_check_course (T : Txt K mg c_BadCourse c_BadJoints c_BadLength c_BadStock c_BadText c_BadWall c_Stock c_Wall) : Z.Ok (L2.CX P w) P w K mg base "check_course" 3 ["stock", "course"] [] (sp_check_course K c_Stock c_BadCourse) := by
  obtain ⟨f, fd, F, g⟩ := T.d_check_course
  exact Z.mkOk F g (F.binds (ps := ["stock", "course"]) fun _ _ _ _ _ _ us hl => match us, hl with | [_, _], _ => rfl) (fn_check_course T F)
theorem okN_check_course (T : Txt K mg c_BadCourse c_BadJoints c_BadLength c_BadStock c_BadText c_BadWall c_Stock c_Wall) : Z.Ok (L2N.CX P w) P w K mg base "check_course" 3 ["stock", "course"] [] (sp_check_course K c_Stock c_BadCourse) := by
  obtain ⟨f, fd, F, g⟩ := T.d_check_course
  exact Z.mkOk F g (F.binds (ps := ["stock", "course"]) fun _ _ _ _ _ _ us hl => match us, hl with | [_, _], _ => rfl) (fnN_check_course T F)
theorem use_check_course {cS cB : Addr} {H : Hp} {Q : VK} {E : XK} {L : List Z.En} {x : Addr} {b : V} {ns : List Int} {l r : Int} {o : Option (List V)} (F : Z.Fx H L) (si : StockIn cS L x ns l r) (hs : Z.SeqIs L b o) (ht : ∀ xs, o = some xs → ∀ x ∈ xs, ∃ k, Z.Thing L x k)
    (kE : ∀ i w, courseW ns o = some (i, w) → ∀ e H', Z.Fx H' (.ob e (.xd [("what", .str w), ("index", .int i)]) :: L) → E (.ref cB) (some e) H')
    (kQ : courseW ns o = none → ∀ (cs : List Int) (p : Addr) (L1 : List Z.En) (H' : Hp), o = some (cs.map V.int) → (∀ c ∈ cs, c ∈ ns) → 1 ≤ cs.length → cs.length ≤ 400 → cs.sum ≤ 400 → StL L b (cs.map V.int) p L1 → Z.Fx H' L1 → Q (.ref p) H') : sp_check_course K cS cB [.ref x, b] H Q E :=
  ⟨_, _, rfl, L, x, ns, l, r, o, rfl, F, si, hs, ht, kE, kQ⟩
theorem sc_course_flaw : FnScope ["stock", "course", "length", "row"] ["stock", "course", "length"] (defScope s_course_flaw) := ⟨rfl, rfl, rfl, by decide +kernel, rfl, by decide +kernel, by decide +kernel⟩
/-- a course of the bricks ns -/
def Cok (ns cs : List Int) : Prop := (∀ c ∈ cs, c ∈ ns) ∧ 1 ≤ cs.length ∧ cs.length ≤ 400 ∧ cs.sum ≤ 400
theorem courseW_data {ns : List Int} {o : Option (List V)} (h : courseW ns o = none) : ∃ cs : List Int, o = some (cs.map V.int) ∧ Cok ns cs := by
  cases o with
  | none => exact absurd h (by simp [courseW])
  | some xs =>
    have h' : (if Z.inLen 1 400 (some xs) = false then some ((0 : Int), ("many" : Str)) else if xs.all (brickOk ns) = false then some (((xs.findIdx fun y => !brickOk ns y : Nat) : Int), "brick") else if 400 < (xs.map intV).sum then some (0, "long") else none) = none := h
    by_cases h1 : Z.inLen 1 400 (some xs) = false
    · rw [if_pos h1] at h'; cases h'
    rw [if_neg h1] at h'
    by_cases h2 : xs.all (brickOk ns) = false
    · rw [if_pos h2] at h'; cases h'
    rw [if_neg h2] at h'
    by_cases h3 : 400 < (xs.map intV).sum
    · rw [if_pos h3] at h'; cases h'
    obtain ⟨cs, rfl, hc⟩ := ints_of_ok (xs := xs) (ns := ns) (List.all_eq_true.mp (by simpa using h2))
    rw [intV_map] at h3
    have h4 : Z.inLen 1 400 (some (cs.map V.int)) = true := by simpa using h1
    simp only [Z.inLen, Bool.and_eq_true, decide_eq_true_eq, List.length_map] at h4
    exact ⟨cs, rfl, hc, by omega, by omega, by omega⟩
theorem courseW_good {ns cs : List Int} (h : Cok ns cs) : courseW ns (some (cs.map V.int)) = none := by
  obtain ⟨h, l1, l4, s4⟩ := h
  have hl : Z.inLen 1 400 (some (cs.map V.int)) = true := by simp only [Z.inLen, Bool.and_eq_true, decide_eq_true_eq, List.length_map]; omega
  have ha : (cs.map V.int).all (brickOk ns) = true := by
    rw [List.all_eq_true]
    intro y hy
    obtain ⟨c, hc, rfl⟩ := List.mem_map.mp hy
    exact decide_eq_true (h c hc)
  show (if _ then _ else _) = _
  rw [if_neg (by rw [hl]; decide), if_neg (by rw [ha]; decide), intV_map, if_neg (by omega)]
/-- a course's first flaw, where a length may be asked for -/
def flawW (ns : List Int) (o : Option (List V)) (m : Option Int) : Option Str := if (courseW ns o).isSome = true then some "course" else match o, m with
  | some xs, some n => if (xs.map intV).sum = n then none else some "length"
  | _, _ => none
theorem flawW_good {ns cs : List Int} (h : Cok ns cs) (m : Option Int) : flawW ns (some (cs.map V.int)) m = match m with | some n => if cs.sum = n then none else some "length" | none => none := by
  unfold flawW
  rw [courseW_good h, if_neg (by simp)]
  cases m with
  | none => rfl
  | some n => dsimp only; rw [intV_map]
theorem flawW_bad {ns : List Int} {o : Option (List V)} {w : Int × Str} (h : courseW ns o = some w) (m : Option Int) : flawW ns o m = some "course" := by
  unfold flawW
  rw [h]
  rfl
def strV : Option Str → V
  | none => .non
  | some s => .str s
/-- a length that is asked for, or none -/
def IsAsk (c : V) (m : Option Int) : Prop := (c = .non ∧ m = none) ∨ ∃ n, c = .int n ∧ m = some n
def sp_course_flaw (K : PySem.W.Frag) (cS : Addr) : Sp := Z.Sp3 fun a b c H Q E => ∃ (L : List Z.En) (x : Addr) (ns : List Int) (l r : Int) (o : Option (List V)) (m : Option Int), a = .ref x ∧ Z.Fx H L ∧ StockIn cS L x ns l r ∧ Z.SeqIs L b o ∧ (∀ xs, o = some xs → ∀ x ∈ xs, ∃ k, Z.Thing L x k) ∧ IsAsk c m ∧ ∀ H', Z.Fx H' L → Q (strV (flawW ns o m)) H'
theorem fn_course_flaw (T : Txt K mg c_BadCourse c_BadJoints c_BadLength c_BadStock c_BadText c_BadWall c_Stock c_Wall) {f : Addr} {fd : FuncData} (F : FunD K "course_flaw" "course_flaw" (defArgs s_course_flaw) (defBody s_course_flaw) (defScope s_course_flaw) [.non] [] f fd) : FnOk P w K mg base CX0 4 f fd ["stock", "course", "length"] (sp_course_flaw K c_Stock) := by
  have O_check_course := ok_check_course (P := P) (w := w) (base := base) T
  have ON_check_course := okN_check_course (P := P) (w := w) (base := base) T
  have O_length_of := ok_length_of (P := P) (w := w) (base := base) T
  refine F.ok (CX := CX0) sc_course_flaw (fun vs H Q E h => ?_) (fun cdv A outer s H vs Q E hr h => ?_)
  · obtain ⟨a, b, c, rfl, _⟩ := h; rfl
  · obtain ⟨a, b, c, rfl, h⟩ := h
    refine ⟨_, (pss_cons (ps_try_only rfl rfl ⟨rfl, by decide, Or.inl T.g_BadCourse⟩ takes0 (fun W pn xe tk _ => (by exact (pss_one (ps_set (i := 3) sc_course_flaw.nd rfl (by first | exact Or.inl rfl | exact Or.inr rfl) (Z.pe_callSO O_check_course (by rfl) (hr.mono (by decide)) (fun σ => passAt tk σ) (pa_cons (pv 0) (pa_cons (pv 1) pa_nil)))))))
        (fun a oe cls d pn hz hf => (by exact (pss_one (ps_ret pe_str)))))
      (pss_one (ps_ret (pe_ifExp (PW.pt (pw_or (pt_cmpR Z.zIs (pv 2) pe_non (nomark _)) (pw_or1 (pt_cmpR (Z.zEq (Z.hu0 hr)) (Z.pe_callO O_length_of (by rfl) (hr.mono (by decide)) pass0 (pa_cons (pv 3) pa_nil)) (pv 2) (nomark _))))) pe_non pe_str)))), ?_⟩
    try dsimp only [cxOf, Cx.nox, Cx.wish]
    refine Z.at_start (σ' := [some a, some b, some c, none]) rfl ?_
    obtain ⟨L, x, ns, l, r, o, m, rfl, F, si, hs, ht, hc, q⟩ := h
    walk_at "z"
    refine use_check_course F si hs ht (fun i w hw e H1 F1 => ?_) (fun hw cs p L1 H1 eo hc1 hc2 hc3 hc4 hst F1 => ?_)
    · refine Z.wOnly_yes T.x_BadCourse.me fun a ha => ?_
      walk_at "z"
      have e := q _ (F1.sub (L' := L) (.cons _ (.refl _)))
      rw [flawW_bad hw] at e
      exact e
    · subst eo
      have e := q _ (F1.sub hst.sub)
      rw [flawW_good ⟨hc1, hc2, hc3, hc4⟩] at e
      walk_at "z"
      rcases hc with ⟨rfl, rfl⟩ | ⟨n, rfl, rfl⟩
      · walk_at "z"
        exact e
      · walk_at "z"
        refine use_length_of F1 (.tup hst.mem) ?_
        walk_at "z"
        dsimp only at e
        refine Z.wIfD (fun h1 => ?_) (fun h1 => ?_)
        · rw [if_pos h1] at e
          walk_at "z"
          exact e
        · rw [if_neg h1] at e
          walk_at "z"
          exact e
theorem ok_course_flaw_2 (T : Txt K mg c_BadCourse c_BadJoints c_BadLength c_BadStock c_BadText c_BadWall c_Stock c_Wall) : Z.Ok CX0 P w K mg base "course_flaw" 4 ["stock", "course", "length"] [.non] (sp_course_flaw K c_Stock) := by
  obtain ⟨f, fd, F, g⟩ := T.d_course_flaw
  obtain ⟨ds, v, b⟩ := F.binds1 (ps := ["stock", "course", "length"]) 2 0 (by decide) rfl fun T kV doc pm an cdv ct us its h1 h2 => match us, h1, its, h2 with | [_, _], _, [_], _ => ⟨_, rfl, rfl⟩
  exact ⟨f, fd, ds, g, F.kp, b, v, fn_course_flaw T F⟩
theorem ok_course_flaw_3 (T : Txt K mg c_BadCourse c_BadJoints c_BadLength c_BadStock c_BadText c_BadWall c_Stock c_Wall) : Z.Ok CX0 P w K mg base "course_flaw" 4 ["stock", "course", "length"] [] (sp_course_flaw K c_Stock) := by
  obtain ⟨f, fd, F, g⟩ := T.d_course_flaw
  obtain ⟨ds, v, b⟩ := F.binds1 (ps := ["stock", "course", "length"]) 3 1 (by decide) rfl fun T kV doc pm an cdv ct us its h1 h2 => match us, h1, its, h2 with | [_, _, _], _, [_], _ => ⟨_, rfl, rfl⟩
  exact ⟨f, fd, ds, g, F.kp, b, v, fn_course_flaw T F⟩
theorem use_course_flaw {cS : Addr} {H : Hp} {Q : VK} {E : XK} {L : List Z.En} {x : Addr} {b c : V} {ns : List Int} {l r : Int} {o : Option (List V)} {m : Option Int} (F : Z.Fx H L) (si : StockIn cS L x ns l r) (hs : Z.SeqIs L b o) (ht : ∀ xs, o = some xs → ∀ x ∈ xs, ∃ k, Z.Thing L x k)
    (hc : IsAsk c m) (q : ∀ H', Z.Fx H' L → Q (strV (flawW ns o m)) H') : sp_course_flaw K cS [.ref x, b, c] H Q E := ⟨_, _, _, rfl, L, x, ns, l, r, o, m, rfl, F, si, hs, ht, hc, q⟩
theorem sc_BadWall___init__ : FnScope ["self", "index", "what"] ["self", "index", "what"] (defScope s_BadWall___init__) := ⟨rfl, rfl, rfl, by decide +kernel, rfl, by decide +kernel, by decide +kernel⟩

theorem fn_BadWall___init__ (T : Txt K mg c_BadCourse c_BadJoints c_BadLength c_BadStock c_BadText c_BadWall c_Stock c_Wall) {f : Addr} {fd : FuncData} (F : Fun K "__init__" "BadWall.__init__" s_BadWall___init__ f fd) : FnOk P w K mg base CX0 1 f fd ["self", "index", "what"] (Z.spErr2 K "index" "what") := by
  refine F.ok sc_BadWall___init__ (fun vs H Q E h => ?_) (fun cdv A outer s H vs Q E hr h => ?_)
  · obtain ⟨a, b, c, rfl, _⟩ := h; rfl
  · obtain ⟨a, b, c, rfl, h⟩ := h
    refine ⟨_, (pss_cons (ps_ost (pv 0) (pv 1))
      (pss_one (ps_ost (pv 0) (pv 2)))), ?_⟩
    try dsimp only [cxOf, Cx.nox, Cx.wish]
    refine Z.at_start (σ' := [some a, some b, some c]) rfl ?_
    exact Z.init2_run h
theorem ok_BadWall___init__ (T : Txt K mg c_BadCourse c_BadJoints c_BadLength c_BadStock c_BadText c_BadWall c_Stock c_Wall) : Z.ErrO P w K mg base c_BadWall 1 ["self", "index", "what"] (Z.spErr2 K "index" "what") := by
  obtain ⟨f, fd, F, i⟩ := T.d_BadWall___init__
  exact ⟨f, fd, i, (F.binds (ps := ["self", "index", "what"]) fun _ _ _ _ _ _ us hl => match us, hl with | [_, _, _], _ => rfl), fn_BadWall___init__ T F⟩
theorem sc_course_for : FnScope ["stock", "course", "number", "length", "flaw"] ["stock", "course", "number", "length"] (defScope s_course_for) := ⟨rfl, rfl, rfl, by decide +kernel, rfl, by decide +kernel, by decide +kernel⟩
def sp_course_for (K : PySem.W.Frag) (cS cW : Addr) : Sp := Z.Sp4 fun a b c d H Q E => ∃ (L : List Z.En) (x : Addr) (ns : List Int) (l r : Int) (o : Option (List V)) (m : Option Int) (i : Int), a = .ref x ∧ c = .int i ∧ Z.Fx H L ∧ StockIn cS L x ns l r ∧ Z.SeqIs L b o ∧ (∀ xs, o = some xs → ∀ x ∈ xs, ∃ k, Z.Thing L x k) ∧ IsAsk d m ∧
  (∀ w, flawW ns o m = some w → ∀ e H', Z.Fx H' (.ob e (.xd [("what", .str w), ("index", .int i)]) :: L) → E (.ref cW) (some e) H') ∧
  (flawW ns o m = none → ∀ (cs : List Int) (p : Addr) (L1 : List Z.En) (H' : Hp), o = some (cs.map V.int) → Cok ns cs → (∀ n, m = some n → cs.sum = n) → StL L b (cs.map V.int) p L1 → Z.Fx H' L1 → Q (.ref p) H')
theorem fn_course_for (T : Txt K mg c_BadCourse c_BadJoints c_BadLength c_BadStock c_BadText c_BadWall c_Stock c_Wall) {f : Addr} {fd : FuncData} (F : FunD K "course_for" "course_for" (defArgs s_course_for) (defBody s_course_for) (defScope s_course_for) [.non] [] f fd) : FnOk P w K mg base (L2.CX P w) 5 f fd ["stock", "course", "number", "length"] (sp_course_for K c_Stock c_BadWall) := by
  have O_BadWall___init__ := ok_BadWall___init__ (P := P) (w := w) (base := base) T
  have O_course_flaw_2 := ok_course_flaw_2 (P := P) (w := w) (base := base) T
  have O_course_flaw_3 := ok_course_flaw_3 (P := P) (w := w) (base := base) T
  refine F.ok (CX := (L2.CX P w)) sc_course_for (fun vs H Q E h => ?_) (fun cdv A outer s H vs Q E hr h => ?_)
  · obtain ⟨a, b, c, d, rfl, _⟩ := h; rfl
  · obtain ⟨a, b, c, d, rfl, h⟩ := h
    have TK := takes_of (X := cxOf (L2.CX P w) P w K mg base ["stock", "course", "number", "length", "flaw"] "course_for" (defScope s_course_for) f cdv A outer s H E) rfl rfl rfl rfl
    refine ⟨_, (pss_cons (ps_set (i := 4) sc_course_for.nd rfl (by first | exact Or.inl rfl | exact Or.inr rfl) (Z.pe_callO O_course_flaw_3 (by rfl) (hr.mono (by decide)) pass0 (pa_cons (pv 0) (pa_cons (pv 1) (pa_cons (pv 3) pa_nil)))))
      (pss_cons (ps_if (pt_cmpR Z.zIsNot (pv 4) pe_non (nomark _))
        (pss_one (ps_raise (by rfl) TK (Z.pmk_errO T.x_BadWall O_BadWall___init__ (hr.mono (by decide)) T.g_BadWall (by rfl) (pa_cons (pv 2) (pa_cons (pv 4) pa_nil)))))
        pss_nil)
      (pss_one (ps_ret (pe_callTy Z.zTuple (by rfl) T.b_tuple (by decide +kernel) (pa_cons (pv 1) pa_nil)))))), ?_⟩
    try dsimp only [cxOf, Cx.nox, Cx.wish]
    refine Z.at_start (σ' := [some a, some b, some c, some d, none]) rfl ?_
    obtain ⟨L, x, ns, l, r, o, m, i, rfl, rfl, F, si, hs, ht, hd, kE, kQ⟩ := h
    walk_at "z"
    refine use_course_flaw F si hs ht hd fun H1 F1 => ?_
    walk_at "z"
    cases ef : flawW ns o m with
    | some w =>
      dsimp only [strV]
      walk_at "z"
      refine Z.wIfT (by simp) ?_
      walk_at "z"
      exact Z.wMk2 T.x_BadWall.oex T.n_BadWall_index T.n_BadWall_what F1 (kE w ef)
    | none =>
      dsimp only [strV]
      walk_at "z"
      have hw : courseW ns o = none := by
        unfold flawW at ef
        cases e : courseW ns o with
        | none => rfl
        | some w => rw [e] at ef; exact absurd ef (by simp)
      obtain ⟨cs, eo, hok⟩ := courseW_data hw
      have hm : ∀ n, m = some n → cs.sum = n := fun n en => by
        subst en eo
        rw [flawW_good hok] at ef
        dsimp only at ef
        by_cases h : cs.sum = n
        · exact h
        · rw [if_neg h] at ef; cases ef
      subst eo
      refine Z.wIfF (by simp) ?_
      generalize ey : cs.map V.int = ys at hs
      cases hs with
      | lst m =>
        subst ey
        walk_at "z"
        rename_i t H3 F3
        exact kQ ef cs t _ _ rfl hok hm .new F3
      | tup m =>
        subst ey
        walk_at "z"
        exact kQ ef cs _ _ _ rfl hok hm (.same rfl m) F1
theorem ok_course_for_3 (T : Txt K mg c_BadCourse c_BadJoints c_BadLength c_BadStock c_BadText c_BadWall c_Stock c_Wall) : Z.Ok (L2.CX P w) P w K mg base "course_for" 5 ["stock", "course", "number", "length"] [.non] (sp_course_for K c_Stock c_BadWall) := by
  obtain ⟨f, fd, F, g⟩ := T.d_course_for
  obtain ⟨ds, v, b⟩ := F.binds1 (ps := ["stock", "course", "number", "length"]) 3 0 (by decide) rfl fun T kV doc pm an cdv ct us its h1 h2 => match us, h1, its, h2 with | [_, _, _], _, [_], _ => ⟨_, rfl, rfl⟩
  exact ⟨f, fd, ds, g, F.kp, b, v, fn_course_for T F⟩
theorem ok_course_for_4 (T : Txt K mg c_BadCourse c_BadJoints c_BadLength c_BadStock c_BadText c_BadWall c_Stock c_Wall) : Z.Ok (L2.CX P w) P w K mg base "course_for" 5 ["stock", "course", "number", "length"] [] (sp_course_for K c_Stock c_BadWall) := by
  obtain ⟨f, fd, F, g⟩ := T.d_course_for
  obtain ⟨ds, v, b⟩ := F.binds1 (ps := ["stock", "course", "number", "length"]) 4 1 (by decide) rfl fun T kV doc pm an cdv ct us its h1 h2 => match us, h1, its, h2 with | [_, _, _, _], _, [_], _ => ⟨_, rfl, rfl⟩
  exact ⟨f, fd, ds, g, F.kp, b, v, fn_course_for T F⟩
theorem use_course_for {cS cW : Addr} {H : Hp} {Q : VK} {E : XK} {L : List Z.En} {x : Addr} {b d : V} {ns : List Int} {l r : Int} {o : Option (List V)} {m : Option Int} {i : Int} (F : Z.Fx H L) (si : StockIn cS L x ns l r) (hs : Z.SeqIs L b o) (ht : ∀ xs, o = some xs → ∀ x ∈ xs, ∃ k, Z.Thing L x k)
    (hd : IsAsk d m) (kE : ∀ w, flawW ns o m = some w → ∀ e H', Z.Fx H' (.ob e (.xd [("what", .str w), ("index", .int i)]) :: L) → E (.ref cW) (some e) H')
    (kQ : flawW ns o m = none → ∀ (cs : List Int) (p : Addr) (L1 : List Z.En) (H' : Hp), o = some (cs.map V.int) → Cok ns cs → (∀ n, m = some n → cs.sum = n) → StL L b (cs.map V.int) p L1 → Z.Fx H' L1 → Q (.ref p) H') : sp_course_for K cS cW [.ref x, b, .int i, d] H Q E :=
  ⟨_, _, _, _, rfl, L, x, ns, l, r, o, m, i, rfl, rfl, F, si, hs, ht, hd, kE, kQ⟩
theorem sc__checked_courses : FnScope ["stock", "courses", "checked", "number"] ["stock", "courses"] (defScope s__checked_courses) := ⟨rfl, rfl, rfl, by decide +kernel, rfl, by decide +kernel, by decide +kernel⟩
/-- a tuple of whole numbers -/
def TupOf (L : List Z.En) (v : V) (cs : List Int) : Prop := ∃ a, v = .ref a ∧ Z.En.ob a (.tup (cs.map V.int)) ∈ L
theorem TupOf.le {L L2 : List Z.En} {v : V} {cs : List Int} (h : TupOf L v cs) (s : L.Sublist L2) : TupOf L2 v cs := let ⟨a, e, m⟩ := h; ⟨a, e, s.subset m⟩
theorem TupOf.seq {L : List Z.En} {v : V} {cs : List Int} (h : TupOf L v cs) : Z.SeqIs L v (some (cs.map V.int)) := by
  obtain ⟨a, rfl, m⟩ := h
  exact .tup m
/-- a tuple of such tuples -/
def TupsAt (L : List Z.En) (p : Addr) (rows : List (List Int)) : Prop := ∃ ws, Z.En.ob p (.tup ws) ∈ L ∧ Z.Al2 (TupOf L) ws rows
theorem TupOf.mono {L L2 : List Z.En} {v : V} {cs : List Int} (h : TupOf L v cs) (s : ∀ e ∈ L, e ∈ L2) : TupOf L2 v cs := let ⟨a, e, m⟩ := h; ⟨a, e, s _ m⟩
theorem TupsAt.mono {L L2 : List Z.En} {p : Addr} {rows : List (List Int)} (h : TupsAt L p rows) (s : ∀ e ∈ L, e ∈ L2) : TupsAt L2 p rows := let ⟨ws, m, a⟩ := h; ⟨ws, s _ m, a.mono fun _ _ t => t.mono s⟩
/-- a list and what a tuple of it needs -/
theorem StL.apart {L L1 : List Z.En} {q p : Addr} {xs ys : List V} {b : V} {H : Hp} (h : StL (.ob q (.lst ys) :: L) b xs p L1) (F : Z.Fx H L1) : ∃ L2, L.Sublist L2 ∧ Z.Fx H (.ob q (.lst ys) :: L2) ∧ Z.En.ob p (.tup xs) ∈ L2 := by
  cases h with
  | new => exact ⟨_, .cons _ (.refl _), F.perm (.swap _ _ _), List.mem_cons_self⟩
  | same e m =>
    refine ⟨L, .refl _, F, ?_⟩
    rcases List.mem_cons.mp m with h | h
    · cases h
    · exact h
theorem TupsAt.le {L L2 : List Z.En} {p : Addr} {rows : List (List Int)} (h : TupsAt L p rows) (s : L.Sublist L2) : TupsAt L2 p rows := let ⟨ws, m, a⟩ := h; ⟨ws, s.subset m, a.mono fun _ _ t => t.le s⟩
/-- what is handed in as a course -/
def CourseAt (L : List Z.En) (v : V) (o : Option (List V)) : Prop := Z.SeqIs L v o ∧ ∀ xs, o = some xs → ∀ x ∈ xs, ∃ k, Z.Thing L x k
theorem CourseAt.mono {L L2 : List Z.En} {v : V} {o : Option (List V)} (h : CourseAt L v o) (s : ∀ e ∈ L, e ∈ L2) : CourseAt L2 v o :=
  ⟨h.1.mono s, fun xs e x hx => let ⟨k, t⟩ := h.2 xs e x hx; ⟨k, t.mono s⟩⟩
def sumO (o : Option (List V)) : Int := match o with | some xs => (xs.map intV).sum | none => 0
def flawAt (ns : List Int) (os : List (Option (List V))) (j : Nat) : Option Str := flawW ns (os.getD j none) (if j = 0 then none else some (sumO (os.getD 0 none)))
/-- rows of a wall -/
def WRows (ns : List Int) (rows : List (List Int)) : Prop := 1 ≤ rows.length ∧ rows.length ≤ 60 ∧ ∀ cs ∈ rows, Cok ns cs ∧ cs.sum = (rows.getD 0 []).sum
def intsO (cs : List Int) : Option (List V) := some (cs.map V.int)
def sp__checked_courses (K : PySem.W.Frag) (cS cW : Addr) : Sp := Z.Sp2 fun a b H Q E => ∃ (L : List Z.En) (x : Addr) (ns : List Int) (l r : Int) (oc : Option (List V)) (os : List (Option (List V))), a = .ref x ∧ Z.Fx H L ∧ StockIn cS L x ns l r ∧ Z.SeqIs L b oc ∧
  (∀ vs, oc = some vs → Z.Al2 (CourseAt L) vs os) ∧
  (Z.inLen 1 60 oc = false → ∀ e H', Z.Fx H' (.ob e (.xd [("what", .str "many"), ("index", .int 0)]) :: L) → E (.ref cW) (some e) H') ∧
  (∀ (i : Nat) w, Z.inLen 1 60 oc = true → i < os.length → (∀ j < i, flawAt ns os j = none) → flawAt ns os i = some w → ∀ e H', Z.Fx H' (.ob e (.xd [("what", .str w), ("index", .int (i : Nat))]) :: L) → E (.ref cW) (some e) H') ∧
  (∀ rows, Z.inLen 1 60 oc = true → os = rows.map intsO → WRows ns rows → ∀ p L1 H', L.Sublist L1 → TupsAt L1 p rows → Z.Fx H' L1 → Q (.ref p) H')
theorem fn__checked_courses (T : Txt K mg c_BadCourse c_BadJoints c_BadLength c_BadStock c_BadText c_BadWall c_Stock c_Wall) {f : Addr} {fd : FuncData} (F : Fun K "_checked_courses" "_checked_courses" s__checked_courses f fd) : FnOk P w K mg base (L2.CX P w) 6 f fd ["stock", "courses"] (sp__checked_courses K c_Stock c_BadWall) := by
  have O_BadWall___init__ := ok_BadWall___init__ (P := P) (w := w) (base := base) T
  have O_course_for_3 := ok_course_for_3 (P := P) (w := w) (base := base) T
  have O_course_for_4 := ok_course_for_4 (P := P) (w := w) (base := base) T
  have O_is_sequence := ok_is_sequence (P := P) (w := w) (base := base) T
  have O_length_of := ok_length_of (P := P) (w := w) (base := base) T
  refine F.okX sc__checked_courses (fun vs H Q E h => ?_) (fun cdv A outer s H vs Q E hr h => ?_)
  · obtain ⟨a, b, rfl, _⟩ := h; rfl
  · obtain ⟨a, b, rfl, h⟩ := h
    have TK := takes_of (X := cxOf (L2.CX P w) P w K mg base ["stock", "courses", "checked", "number"] "_checked_courses" (defScope s__checked_courses) f cdv A outer s H E) rfl rfl rfl rfl
    refine ⟨_, (pss_cons (ps_if (pt_not (Z.pt_truN (Z.pe_callO O_is_sequence (by rfl) (hr.mono (by decide)) pass0 (pa_cons (pv 1) (pa_cons pe_int (pa_cons pe_int pa_nil))))))
        (pss_one (ps_raise (by rfl) TK (Z.pmk_errO T.x_BadWall O_BadWall___init__ (hr.mono (by decide)) T.g_BadWall (by rfl) (pa_cons pe_int (pa_cons pe_str pa_nil)))))
        pss_nil)
      (pss_cons (ps_set (i := 2) sc__checked_courses.nd rfl (by first | exact Or.inl rfl | exact Or.inr rfl) (pe_lst (pa_cons (Z.pe_callO O_course_for_3 (by rfl) (hr.mono (by decide)) (Z.passE TK) (pa_cons (pv 0) (pa_cons (pe_ix ix_seq (pv 1) pe_int (fun _ _ => rfl)) (pa_cons pe_int pa_nil)))) pa_nil)))
      (pss_cons (ps_for (Z.owns rfl) (by rfl) (pi_range2 (by rfl) T.b_range (pa_cons pe_int (pa_cons (pe_callB Z.zLen (by rfl) T.b_len (by decide +kernel) (pa_cons (pv 1) pa_nil)) pa_nil))) (pg_name (i := 3) sc__checked_courses.nd rfl (by first | exact Or.inl rfl | exact Or.inr rfl))
        (pss_one (ps_expr (pe_bm PySem.F.plainAttrs_list PySem.F.slot_list_append PySem.F.type_list_append mt_append (pv 2) (pa_cons (Z.pe_callO O_course_for_4 (by rfl) (hr.mono (by decide)) (Z.passE TK) (pa_cons (pv 0) (pa_cons (pe_ix ix_seq (pv 1) (pv 3) (fun _ _ => rfl)) (pa_cons (pv 3) (pa_cons (Z.pe_callO O_length_of (by rfl) (hr.mono (by decide)) pass0 (pa_cons (pe_ix ix_seq (pv 2) pe_int (fun _ _ => rfl)) pa_nil)) pa_nil))))) pa_nil)))))
      (pss_one (ps_ret (pe_callTy Z.zTuple (by rfl) T.b_tuple (by decide +kernel) (pa_cons (pv 2) pa_nil))))))), ?_⟩
    try dsimp only [cxOf, Cx.nox, Cx.wish]
    refine Z.at_start (σ' := [some a, some b, none, none]) rfl ?_
    obtain ⟨L, x, ns, l, r, oc, os, rfl, F, si, hs, hal, kM, kF, kQ⟩ := h
    walk_at "z"
    rename_i H1 F1
    refine Z.wIf (fun hb => ?_) (fun hb => ?_)
    · walk_at "z"
      exact Z.wMk2 T.x_BadWall.oex T.n_BadWall_index T.n_BadWall_what F1 (kM (by simpa using hb))
    have hl : Z.inLen 1 60 oc = true := by simpa using hb
    cases oc with
    | none => exact absurd hl (by decide)
    | some vs =>
      have ha := hal vs rfl
      have hvl : 1 ≤ vs.length ∧ vs.length ≤ 60 := by
        simp only [Z.inLen, Bool.and_eq_true, decide_eq_true_eq] at hl
        omega
      have hol := ha.len
      obtain ⟨v0, ev0⟩ : ∃ v0, vs[0]? = some v0 := ⟨_, List.getElem?_eq_getElem (by omega)⟩
      obtain ⟨o0, eo0, c0⟩ := ha.getL ev0
      have g0 : os.getD 0 none = o0 := by rw [List.getD_eq_getElem?_getD, eo0]; rfl
      walk_at "z"
      refine Z.wIxSq hs F1 (atI_nat (j := 0) ev0) ?_
      walk_at "z"
      refine use_course_for F1 si c0.1 c0.2 (.inl ⟨rfl, rfl⟩) (fun w hw e H2 F2 => kF 0 w hl (by omega) (fun j hj => absurd hj (Nat.not_lt_zero _)) (by unfold flawAt; rw [g0]; exact hw) e H2 F2) (fun hw cs0 p0 L1 H2 eo hok _ hst F2 => ?_)
      subst eo
      walk_at "z"
      rename_i cp H3 F3
      have s1 := hst.sub
      have m0 := hst.mem
      have fl0 : flawAt ns os 0 = none := by unfold flawAt; rw [g0]; exact hw
      have os0 : sumO (os.getD 0 none) = cs0.sum := by rw [g0]; show ((cs0.map V.int).map intV).sum = _; rw [intV_map]
      have eo0' : os[0]? = some (intsO cs0) := eo0
      walk_at "z"
      refine Z.wLenSq (hs.mono fun _ h => .tail _ (s1.subset h)) F3 ?_
      walk_at "z"
      refine Z.wForW walk_range (fun i σ H' => ∃ v3 L' vs' rows, σ = [some (.ref x), some b, some (.ref cp), v3] ∧ L.Sublist L' ∧ Z.Fx H' (.ob cp (.lst vs') :: L') ∧ Z.Al2 (TupOf L') vs' rows ∧ rows.length = i + 1 ∧ rows.getD 0 [] = cs0 ∧ rows.map intsO = os.take (i + 1) ∧
        (∀ cs ∈ rows, Cok ns cs ∧ cs.sum = cs0.sum) ∧ ∀ j < i + 1, flawAt ns os j = none) ?_ (fun _ _ _ _ _ => trivial) ?_ ?_
      · refine ⟨_, L1, [.ref p0], [cs0], rfl, s1, F3, .one ⟨p0, rfl, m0⟩, rfl, rfl, ?_, fun cs h => ?_, fun j hj => ?_⟩
        · rw [List.take_add_one, eo0']
          rfl
        · cases List.mem_singleton.mp h
          exact ⟨hok, rfl⟩
        · rw [show j = 0 by omega]
          exact fl0
      · rintro i u σ H4 H5 hi ⟨v3, L', vs', rows, rfl, s4, F4, hal4, hrl, hr0, hro, hrk, hfl⟩ ⟨rfl, rfl⟩
        dsimp only
        have hi2 : i + 1 < vs.length := by omega
        have e1 : (1 : Int) + (i : Int) = ((i + 1 : Nat) : Int) := by omega
        rw [e1]
        obtain ⟨v, ev⟩ : ∃ v, vs[i + 1]? = some v := ⟨_, List.getElem?_eq_getElem hi2⟩
        obtain ⟨o, eo, co⟩ := ha.getL ev
        have g1 : os.getD (i + 1) none = o := by rw [List.getD_eq_getElem?_getD, eo]; rfl
        have s5 : ∀ e ∈ L, e ∈ (Z.En.ob cp (.lst vs') :: L') := fun e h => .tail _ (s4.subset h)
        have co5 := co.mono s5
        have hl4 := hal4.len
        obtain ⟨w0, ew0⟩ : ∃ w0, vs'[0]? = some w0 := ⟨_, List.getElem?_eq_getElem (by omega)⟩
        have tw0 := hal4.get 0 w0 cs0 ew0 (by
          have : rows[0]? = some (rows[0]'(by omega)) := List.getElem?_eq_getElem (by omega)
          rw [List.getD_eq_getElem?_getD, this] at hr0
          rw [this]
          exact congrArg some hr0)
        walk_at "z"
        refine Z.wIxSq (hs.mono s5) F4 (atI_nat (j := i + 1) ev) ?_
        walk_at "z"
        refine Z.wIxL (F4.lst List.mem_cons_self) (atI_nat (j := 0) ew0) ?_
        walk_at "z"
        refine use_length_of F4 ((tw0.le (.cons _ (.refl _))).seq) ?_
        walk_at "z"
        have fa : flawAt ns os (i + 1) = flawW ns o (some cs0.sum) := by
          unfold flawAt
          rw [g1, if_neg (Nat.succ_ne_zero i), os0]
        refine use_course_for F4 (si.le (s4.trans (.cons _ (.refl _)))) co5.1 co5.2 (.inr ⟨_, rfl, rfl⟩) (fun w hw e H6 F6 => kF (i + 1) w hl (by omega) hfl (by rw [fa]; exact hw) e H6 (F6.sub (.cons_cons _ (.cons _ s4)))) (fun hw cs p L6 H6 ec hok6 hsm hst6 F6 => ?_)
        subst ec
        have s6 := hst6.sub
        have m6 := hst6.mem
        obtain ⟨L7, s7, F7, m7⟩ := hst6.apart F6
        clear F6 s6 m6 hst6
        walk_at "z"
        rename_i H8 F8
        refine ⟨_, L7, vs' ++ [.ref p], rows ++ [cs], rfl, s4.trans s7, F8, (hal4.mono fun _ _ t => t.le s7).snoc ⟨p, rfl, m7⟩, by rw [List.length_append, hrl]; rfl, ?_, ?_, ?_, ?_⟩
        · rw [List.getD_eq_getElem?_getD, List.getElem?_append_left (by omega), ← List.getD_eq_getElem?_getD]
          exact hr0
        · rw [List.map_append, hro, List.take_add_one (i := i + 1), eo]
          rfl
        · intro c hc
          rcases List.mem_append.mp
                hc with h | h
          · exact hrk c h
          · cases List.mem_singleton.mp h
            exact ⟨hok6, hsm _ rfl⟩
        · intro j hj
          by_cases e : j = i + 1
          · subst e
            rw [fa]
            exact hw
          · exact hfl j (by omega)
      · rintro σ H4 ⟨v3, L', vs', rows, rfl, s4, F4, hal4, hrl, hr0, hro, hrk, hfl⟩
        walk_at "z"
        rename_i t H5 F5
        have en : ((vs.length : Int) - 1).toNat + 1 = os.length := by omega
        rw [en, List.take_length] at hro
        refine kQ rows hl hro.symm ⟨by omega, by omega, fun cs h => ?_⟩ t (.ob t (.tup vs') :: L') H5 (.cons _ s4) ⟨vs', List.mem_cons_self, hal4.mono fun _ _ t => t.le (.cons _ (.refl _))⟩ (F5.sub (.cons_cons _ (.cons _ (.refl _))))
        rw [hr0]
        exact hrk cs h
theorem ok__checked_courses (T : Txt K mg c_BadCourse c_BadJoints c_BadLength c_BadStock c_BadText c_BadWall c_Stock c_Wall) : Z.Ok (L2.CX P w) P w K mg base "_checked_courses" 6 ["stock", "courses"] [] (sp__checked_courses K c_Stock c_BadWall) := by
  obtain ⟨f, fd, F, g⟩ := T.d__checked_courses
  exact Z.mkOk F g (F.binds (ps := ["stock", "courses"]) fun _ _ _ _ _ _ us hl => match us, hl with | [_, _], _ => rfl) (fn__checked_courses T F)
theorem use__checked_courses {cS cW : Addr} {H : Hp} {Q : VK} {E : XK} {L : List Z.En} {x : Addr} {b : V} {ns : List Int} {l r : Int} {oc : Option (List V)} {os : List (Option (List V))} (F : Z.Fx H L) (si : StockIn cS L x ns l r) (hs : Z.SeqIs L b oc)
    (ha : ∀ vs, oc = some vs → Z.Al2 (CourseAt L) vs os)
    (kM : Z.inLen 1 60 oc = false → ∀ e H', Z.Fx H' (.ob e (.xd [("what", .str "many"), ("index", .int 0)]) :: L) → E (.ref cW) (some e) H')
    (kF : ∀ (i : Nat) w, Z.inLen 1 60 oc = true → i < os.length → (∀ j < i, flawAt ns os j = none) → flawAt ns os i = some w → ∀ e H', Z.Fx H' (.ob e (.xd [("what", .str w), ("index", .int (i : Nat))]) :: L) → E (.ref cW) (some e) H')
    (kQ : ∀ rows, Z.inLen 1 60 oc = true → os = rows.map intsO → WRows ns rows → ∀ p L1 H', L.Sublist L1 → TupsAt L1 p rows → Z.Fx H' L1 → Q (.ref p) H') : sp__checked_courses K cS cW [.ref x, b] H Q E := ⟨_, _, rfl, L, x, ns, l, r, oc, os, rfl, F, si, hs, ha, kM, kF, kQ⟩
theorem sc_Wall___init__ : FnScope ["self", "stock", "courses"] ["self", "stock", "courses"] (defScope s_Wall___init__) := ⟨rfl, rfl, rfl, by decide +kernel, rfl, by decide +kernel, by decide +kernel⟩
def wallF (s p n : V) : List (Str × V) := putF "length" n (putF "courses" p (putF "stock" s []))
theorem wall_stock (b l r : V) : (wallF b l r).lookup ("stock" : Str) = some b := by
  unfold wallF
  rw [lookup_putF, if_neg (by decide +kernel), lookup_putF, if_neg (by decide +kernel), lookup_putF, if_pos rfl]
theorem wall_courses (b l r : V) : (wallF b l r).lookup ("courses" : Str) = some l := by
  unfold wallF
  rw [lookup_putF, if_neg (by decide +kernel), lookup_putF, if_pos rfl]
theorem wall_length (b l r : V) : (wallF b l r).lookup ("length" : Str) = some r := by
  unfold wallF
  rw [lookup_putF, if_pos rfl]
/-- at y a wall in the stock at x -/
def WallIn (cW : Addr) (L : List Z.En) (y x : Addr) (rows : List (List Int)) : Prop := ∃ dx p, Z.En.ob y (.ins cW dx (wallF (.ref x) (.ref p) (.int (rows.getD 0 []).sum))) ∈ L ∧ TupsAt L p rows
theorem WallIn.le {cW : Addr} {L L2 : List Z.En} {y x : Addr} {rows : List (List Int)} (h : WallIn cW L y x rows) (s : L.Sublist L2) : WallIn cW L2 y x rows := let ⟨dx, p, m, a⟩ := h; ⟨dx, p, s.subset m, a.le s⟩
def sp_Wall___init__ (K : PySem.W.Frag) (cS cW cB : Addr) : Sp := Z.Sp3 fun a b c H Q E => ∃ (L : List Z.En) (y dx x : Addr) (ns : List Int) (l r : Int) (oc : Option (List V)) (os : List (Option (List V))), a = .ref y ∧ b = .ref x ∧
  Z.Fx H (.ob y (.ins cW dx []) :: .ob dx (.own y) :: L) ∧ StockIn cS L x ns l r ∧ Z.SeqIs L c oc ∧ (∀ vs, oc = some vs → Z.Al2 (CourseAt L) vs os) ∧
  (Z.inLen 1 60 oc = false → ∀ e H', Z.Fx H' (.ob e (.xd [("what", .str "many"), ("index", .int 0)]) :: L) → E (.ref cB) (some e) H') ∧
  (∀ (i : Nat) w, Z.inLen 1 60 oc = true → i < os.length → (∀ j < i, flawAt ns os j = none) → flawAt ns os i = some w → ∀ e H', Z.Fx H' (.ob e (.xd [("what", .str w), ("index", .int (i : Nat))]) :: L) → E (.ref cB) (some e) H') ∧
  (∀ rows, Z.inLen 1 60 oc = true → os = rows.map intsO → WRows ns rows → ∀ L1 H', L.Sublist L1 → WallIn cW L1 y x rows → Z.Fx H' L1 → Q .non H')
theorem fn_Wall___init__ (T : Txt K mg c_BadCourse c_BadJoints c_BadLength c_BadStock c_BadText c_BadWall c_Stock c_Wall) {f : Addr} {fd : FuncData} (F : Fun K "__init__" "Wall.__init__" s_Wall___init__ f fd) : FnOk P w K mg base (L2.CX P w) 7 f fd ["self", "stock", "courses"] (sp_Wall___init__ K c_Stock c_Wall c_BadWall) := by
  have O__checked_courses := ok__checked_courses (P := P) (w := w) (base := base) T
  have O_length_of := ok_length_of (P := P) (w := w) (base := base) T
  refine F.okX sc_Wall___init__ (fun vs H Q E h => ?_) (fun cdv A outer s H vs Q E hr h => ?_)
  · obtain ⟨a, b, c, rfl, _⟩ := h; rfl
  · obtain ⟨a, b, c, rfl, h⟩ := h
    have TK := takes_of (X := cxOf (L2.CX P w) P w K mg base ["self", "stock", "courses"] "Wall.__init__" (defScope s_Wall___init__) f cdv A outer s H E) rfl rfl rfl rfl
    refine ⟨_, (pss_cons (ps_fld (pv 0) (pv 1) rfl)
      (pss_cons (ps_fld (pv 0) (Z.pe_callO O__checked_courses (by rfl) (hr.mono (by decide)) (Z.passE TK) (pa_cons (pv 1) (pa_cons (pv 2) pa_nil))) rfl)
      (pss_one (ps_fld (pv 0) (Z.pe_callO O_length_of (by rfl) (hr.mono (by decide)) pass0 (pa_cons (pe_ix ix_seq (pe_fld (pv 0) rfl) pe_int (fun _ _ => rfl)) pa_nil)) rfl)))), ?_⟩
    try dsimp only [cxOf, Cx.nox, Cx.wish]
    refine Z.at_start (σ' := [some a, some b, some c]) rfl ?_
    obtain ⟨L, y, dx, x, ns, l, r, oc, os, rfl, rfl, F, si, hs, hal, kM, kF, kQ⟩ := h
    have hcl := T.i_Wall.cl
    walk_at "z"
    refine Z.wStoreF F List.mem_cons_self hcl T.n_Wall_stock (by decide) .head fun H2 F2 => ?_
    have s2 : L.Sublist (Z.En.ob y (.ins c_Wall dx (putF "stock" (.ref x) [])) :: Z.En.ob dx (.own y) :: L) := .cons _ (.cons _ (.refl _))
    walk_at "z"
    refine use__checked_courses F2 (si.le s2) (hs.mono fun _ h => s2.subset h) (fun vs e => (hal vs e).mono fun _ _ c => c.mono fun _ h => s2.subset h) (fun h e H' F' => kM h e H' (F'.sub (.cons_cons _ s2))) (fun i w h1 h2 h3 h4 e H' F' => kF i w h1 h2 h3 h4 e H' (F'.sub (.cons_cons _ s2))) fun rows e1 e2 e3 p L1 H3 s3 ta F3 => ?_
    obtain ⟨L2, pm, s4⟩ := Z.sub_front s3
    have F4 := F3.perm pm
    have ta4 := ta.mono (L2 := .ob y (.ins c_Wall dx (putF "stock" (.ref x) [])) :: L2) fun e h => pm.mem_iff.mp h
    have ta5 : TupsAt L2 p rows := by
      obtain ⟨ws, m, al⟩ := ta4
      have tl : ∀ (a : Addr) (xs : List V), Z.En.ob a (.tup xs) ∈ (Z.En.ob y (.ins c_Wall dx (putF "stock" (.ref x) [])) :: L2) → Z.En.ob a (.tup xs) ∈ L2 := fun a xs h => by
        rcases List.mem_cons.mp h with h | h
        · cases h
        · exact h
      exact ⟨ws, tl _ _ m, al.mono fun v cs ⟨a, e, m⟩ => ⟨a, e, tl _ _ m⟩⟩
    clear F3 F2 F ta4
    walk_at "z"
    refine Z.wStoreF F4 List.mem_cons_self hcl T.n_Wall_courses (Nat.lt_of_le_of_lt (putF_len _ _ _) (by decide)) .head fun H4 F5 => ?_
    walk_at "z"
    refine Z.wFldAt F5 List.mem_cons_self hcl T.n_Wall_courses (by rw [lookup_putF, if_pos rfl]) ?_
    obtain ⟨ws, mw, al⟩ := id ta5
    have wl := al.len
    obtain ⟨w1, _, _⟩ := id e3
    obtain ⟨w0, ew0⟩ : ∃ w0, ws[0]? = some w0 := ⟨_, List.getElem?_eq_getElem (by omega)⟩
    obtain ⟨cs0, ec0, tw0⟩ := al.getL ew0
    have g0 : rows.getD 0 [] = cs0 := by rw [List.getD_eq_getElem?_getD, ec0]; rfl
    refine Z.wIxT (F5.tup (.tail _ mw)) (atI_nat (j := 0) ew0) ?_
    walk_at "z"
    refine use_length_of F5 ((tw0.le (.cons _ (.refl _))).seq) ?_
    walk_at "z"
    refine Z.wStoreF F5 List.mem_cons_self hcl T.n_Wall_length (Nat.lt_of_le_of_lt (putF_len _ _ _) (Nat.lt_of_le_of_lt (Nat.succ_le_succ (putF_len _ _ _)) (by decide))) .head fun H6 F6 => ?_
    walk_at "z"
    refine kQ rows e1 e2 e3 _ _ (.cons _ ((List.Sublist.cons _ (.refl _)).trans s4)) ⟨dx, p, ?_, ta5.le (.cons _ (.refl _))⟩ F6
    rw [g0]
    exact List.mem_cons_self
theorem ok_Wall___init___2 (T : Txt K mg c_BadCourse c_BadJoints c_BadLength c_BadStock c_BadText c_BadWall c_Stock c_Wall) : Z.MkO (L2.CX P w) P w K mg base c_Wall 7 ["self", "stock", "courses"] [] (sp_Wall___init__ K c_Stock c_Wall c_BadWall) := by
  obtain ⟨f, fd, F, i⟩ := T.d_Wall___init__
  exact ⟨f, fd, [], i, (F.binds (ps := ["self", "stock", "courses"]) fun _ _ _ _ _ _ us hl => match us, hl with | [_, _, _], _ => rfl), .nil, fn_Wall___init__ T F⟩
theorem use_Wall {cS cW cB : Addr} {H : Hp} {QX : Addr → Hp → Prop} {E : XK} {L : List Z.En} {x : Addr} {c : V} {ns : List Int} {l r : Int} {oc : Option (List V)} {os : List (Option (List V))} (F : Z.Fx H L) (si : StockIn cS L x ns l r) (hs : Z.SeqIs L c oc)
    (ha : ∀ vs, oc = some vs → Z.Al2 (CourseAt L) vs os)
    (kM : Z.inLen 1 60 oc = false → ∀ e H', Z.Fx H' (.ob e (.xd [("what", .str "many"), ("index", .int 0)]) :: L) → E (.ref cB) (some e) H')
    (kF : ∀ (i : Nat) w, Z.inLen 1 60 oc = true → i < os.length → (∀ j < i, flawAt ns os j = none) → flawAt ns os i = some w → ∀ e H', Z.Fx H' (.ob e (.xd [("what", .str w), ("index", .int (i : Nat))]) :: L) → E (.ref cB) (some e) H')
    (kQ : ∀ rows, Z.inLen 1 60 oc = true → os = rows.map intsO → WRows ns rows → ∀ y L1 H', L.Sublist L1 → WallIn cW L1 y x rows → Z.Fx H' L1 → QX y H') :
    ∀ y dx, H y = none → H dx = none → dx ≠ y → sp_Wall___init__ K cS cW cB [.ref y, .ref x, c] (upd (upd H dx (.own y)) y (.ins cW dx [])) (fun v H2 => v = .non ∧ QX y H2) E := fun y dx hy hdx ne =>
  ⟨_, _, _, rfl, L, y, dx, x, ns, l, r, oc, os, rfl, rfl, F.inst hy hdx ne, si, hs, ha, kM, kF, fun rows e1 e2 e3 L1 H' s wi F' => ⟨rfl, kQ rows e1 e2 e3 y L1 H' s wi F'⟩⟩
theorem sc_BadText___init__ : FnScope ["self", "number", "what"] ["self", "number", "what"] (defScope s_BadText___init__) := ⟨rfl, rfl, rfl, by decide +kernel, rfl, by decide +kernel, by decide +kernel⟩

theorem fn_BadText___init__ (T : Txt K mg c_BadCourse c_BadJoints c_BadLength c_BadStock c_BadText c_BadWall c_Stock c_Wall) {f : Addr} {fd : FuncData} (F : Fun K "__init__" "BadText.__init__" s_BadText___init__ f fd) : FnOk P w K mg base CX0 1 f fd ["self", "number", "what"] (Z.spErr2 K "number" "what") := by
  refine F.ok sc_BadText___init__ (fun vs H Q E h => ?_) (fun cdv A outer s H vs Q E hr h => ?_)
  · obtain ⟨a, b, c, rfl, _⟩ := h; rfl
  · obtain ⟨a, b, c, rfl, h⟩ := h
    refine ⟨_, (pss_cons (ps_ost (pv 0) (pv 1))
      (pss_one (ps_ost (pv 0) (pv 2)))), ?_⟩
    try dsimp only [cxOf, Cx.nox, Cx.wish]
    refine Z.at_start (σ' := [some a, some b, some c]) rfl ?_
    exact Z.init2_run h
theorem ok_BadText___init__ (T : Txt K mg c_BadCourse c_BadJoints c_BadLength c_BadStock c_BadText c_BadWall c_Stock c_Wall) : Z.ErrO P w K mg base c_BadText 1 ["self", "number", "what"] (Z.spErr2 K "number" "what") := by
  obtain ⟨f, fd, F, i⟩ := T.d_BadText___init__
  exact ⟨f, fd, i, (F.binds (ps := ["self", "number", "what"]) fun _ _ _ _ _ _ us hl => match us, hl with | [_, _, _], _ => rfl), fn_BadText___init__ T F⟩
theorem hot_BadText___init__ (T : Txt K mg c_BadCourse c_BadJoints c_BadLength c_BadStock c_BadText c_BadWall c_Stock c_Wall) : Z.ErrH P w K mg base c_BadText 1 ["self", "number", "what"] (Z.spErr2 K "number" "what") := by
  obtain ⟨f, fd, F, i⟩ := T.d_BadText___init__
  refine ⟨f, fd, i, (F.binds (ps := ["self", "number", "what"]) fun _ _ _ _ _ _ us hl => match us, hl with | [_, _, _], _ => rfl), Z.okHot F sc_BadText___init__ (fun vs H Q E h => ?_) (fun cdv A outer s H vs Q E p hot hr h => ?_)⟩
  · obtain ⟨a, b, c, rfl, _⟩ := h; rfl
  · obtain ⟨a, b, c, rfl, h⟩ := h
    refine ⟨_, (pss_cons (ps_ost (pv 0) (pv 1))
      (pss_one (ps_ost (pv 0) (pv 2)))), ?_⟩
    try dsimp only [cxOf, Cx.nox, Cx.wish]
    refine Z.at_start (σ' := [some a, some b, some c]) rfl ?_
    exact Z.init2_run h
theorem sc_check_text : FnScope ["text"] ["text"] (defScope s_check_text) := ⟨rfl, rfl, rfl, by decide +kernel, rfl, by decide +kernel, by decide +kernel⟩
def sp_check_text (K : PySem.W.Frag) (cB : Addr) : Sp := Z.Sp1 fun x H Q E => ∃ (L : List Z.En) (k : Z.Kd), Z.Fx H L ∧ Z.Thing L x k ∧
  ((∀ z, x ≠ .str z) → ∀ e H', Z.Fx H' (.ob e (.xd [("what", .str ("text" : Str)), ("number", .int 0)]) :: L) → E (.ref cB) (some e) H') ∧
  (∀ z, x = .str z → Q .non H)
theorem fn_check_text (T : Txt K mg c_BadCourse c_BadJoints c_BadLength c_BadStock c_BadText c_BadWall c_Stock c_Wall) {f : Addr} {fd : FuncData} (F : Fun K "check_text" "check_text" s_check_text f fd) : FnOk P w K mg base (L2.CX P w) 3 f fd ["text"] (sp_check_text K c_BadText) := by
  have O_BadText___init__ := ok_BadText___init__ (P := P) (w := w) (base := base) T
  refine F.okX sc_check_text (fun vs H Q E h => ?_) (fun cdv A outer s H vs Q E hr h => ?_)
  · obtain ⟨a, rfl, _⟩ := h; rfl
  · obtain ⟨a, rfl, h⟩ := h
    have TK := takes_of (X := cxOf (L2.CX P w) P w K mg base ["text"] "check_text" (defScope s_check_text) f cdv A outer s H E) rfl rfl rfl rfl
    refine ⟨_, (pss_one (ps_if (pt_not (Z.pt_truN (pe_callB Z.zIsi (by rfl) T.b_isinstance (by decide +kernel) (pa_cons (pv 0) (pa_cons (pe_bltn (by rfl) T.b_str (by decide +kernel) (show RelV (.ty "str") _ from rfl)) pa_nil)))))
        (pss_one (ps_raise (by rfl) TK (Z.pmk_errO T.x_BadText O_BadText___init__ (hr.mono (by decide)) T.g_BadText (by rfl) (pa_cons pe_int (pa_cons pe_str pa_nil)))))
        pss_nil)), ?_⟩
    try dsimp only [cxOf, Cx.nox, Cx.wish]
    refine Z.at_start (σ' := [some a]) rfl ?_
    obtain ⟨L, k, F, ht, kE, kQ⟩ := h
    have hs := ht.has (K := K) F
    walk_at "z"
    refine Z.wIsiStr hs ?_
    walk_at "z"
    by_cases ck : k.isStr = true
    case neg =>
      have ck : k.isStr = false := by simpa using ck
      rw [ck]
      walk_at "z"
      refine Z.wMk2 T.x_BadText.oex T.n_BadText_number T.n_BadText_what F fun e H2 F2 => kE (fun z h => ?_) _ _ F2
      subst h
      cases hs
      exact absurd ck (by decide)
    obtain ⟨z, rfl⟩ : ∃ z, a = .str z := by
      cases hs <;> first | exact ⟨_, rfl⟩ | exact absurd ck (by decide)
    rw [ck]
    walk_at "z"
    exact kQ z rfl
theorem ok_check_text (T : Txt K mg c_BadCourse c_BadJoints c_BadLength c_BadStock c_BadText c_BadWall c_Stock c_Wall) : Z.Ok (L2.CX P w) P w K mg base "check_text" 3 ["text"] [] (sp_check_text K c_BadText) := by
  obtain ⟨f, fd, F, g⟩ := T.d_check_text
  exact Z.mkOk F g (F.binds (ps := ["text"]) fun _ _ _ _ _ _ us hl => match us, hl with | [_], _ => rfl) (fn_check_text T F)
theorem use_check_text {cB : Addr} {H : Hp} {Q : VK} {E : XK} {L : List Z.En} {x : V} {k : Z.Kd} (F : Z.Fx H L) (ht : Z.Thing L x k)
  (kE : (∀ z, x ≠ .str z) → ∀ e H', Z.Fx H' (.ob e (.xd [("what", .str ("text" : Str)), ("number", .int 0)]) :: L) → E (.ref cB) (some e) H')
  (kQ : ∀ z, x = .str z → Q .non H) : sp_check_text K cB [x] H Q E := ⟨_, rfl, L, k, F, ht, kE, kQ⟩
theorem sc__rows_in : FnScope ["text", "rows"] ["text"] (defScope s__rows_in) := ⟨rfl, rfl, rfl, by decide +kernel, rfl, by decide +kernel, by decide +kernel⟩
def rowsV (x : V) : List Str := match x with
  | .str z => TR.rowsT z
  | _ => []
def rowsErr (x : V) : Option Str := match x with
  | .str z => if 60 < (TR.rowsT z).length then some "many" else none
  | _ => some "text"
def wideV (x : V) : Prop := match x with
  | .str z => z.length ≤ 100000 ∧ PyData.strOk z = true
  | _ => True
theorem rowsErr_no {x : V} (h : ∀ z, x ≠ .str z) : rowsErr x = some "text" := by
  cases x <;> first | rfl | exact absurd rfl (h _)
def sp__rows_in (K : PySem.W.Frag) (cB : Addr) : Sp := Z.Sp1 fun b H Q E => ∃ (L : List Z.En) (k : Z.Kd), Z.Fx H L ∧ Z.Thing L b k ∧ wideV b ∧
  (∀ w, rowsErr b = some w → ∀ e H', Z.Fx H' (.ob e (.xd [("what", .str w), ("number", .int 0)]) :: L) → E (.ref cB) (some e) H') ∧
  (rowsErr b = none → ∀ p H', Z.Fx H' (.ob p (.lst ((rowsV b).map V.str)) :: L) → Q (.ref p) H')
theorem fn__rows_in (T : Txt K mg c_BadCourse c_BadJoints c_BadLength c_BadStock c_BadText c_BadWall c_Stock c_Wall) {f : Addr} {fd : FuncData} (F : Fun K "_rows_in" "_rows_in" s__rows_in f fd) : FnOk P w K mg base (L2.CX P w) 4 f fd ["text"] (sp__rows_in K c_BadText) := by
  have O_BadText___init__ := ok_BadText___init__ (P := P) (w := w) (base := base) T
  have O_check_text := ok_check_text (P := P) (w := w) (base := base) T
  refine F.okX sc__rows_in (fun vs H Q E h => ?_) (fun cdv A outer s H vs Q E hr h => ?_)
  · obtain ⟨a, rfl, _⟩ := h; rfl
  · obtain ⟨a, rfl, h⟩ := h
    have TK := takes_of (X := cxOf (L2.CX P w) P w K mg base ["text", "rows"] "_rows_in" (defScope s__rows_in) f cdv A outer s H E) rfl rfl rfl rfl
    refine ⟨_, (pss_cons (ps_expr (Z.pe_callO O_check_text (by rfl) (hr.mono (by decide)) (Z.passE TK) (pa_cons (pv 0) pa_nil)))
      (pss_cons (ps_set (i := 1) sc__rows_in.nd rfl (by first | exact Or.inl rfl | exact Or.inr rfl) (Z.pe_spl (pv 0) pe_str))
      (pss_cons (ps_if (pt_cmpR Z.zGt (pe_callB Z.zLen (by rfl) T.b_len (by decide +kernel) (pa_cons (pv 1) pa_nil)) pe_int (nomark _))
        (pss_one (ps_raise (by rfl) TK (Z.pmk_errO T.x_BadText O_BadText___init__ (hr.mono (by decide)) T.g_BadText (by rfl) (pa_cons pe_int (pa_cons pe_str pa_nil)))))
        pss_nil)
      (pss_one (ps_ret (pv 1)))))), ?_⟩
    try dsimp only [cxOf, Cx.nox, Cx.wish]
    refine Z.at_start (σ' := [some a, none]) rfl ?_
    obtain ⟨L, k, F, ht, hz, kE, kQ⟩ := h
    have lb := Z.line_big
    walk_at "z"
    refine use_check_text F ht (fun hn e H1 F1 => kE "text" (rowsErr_no hn) e H1 F1) (fun z hz2 => ?_)
    subst hz2
    obtain ⟨hz, hok⟩ : z.length ≤ 100000 ∧ PyData.strOk z = true := hz
    have kE : ∀ w, (if 60 < (TR.rowsT z).length then some ("many" : Str) else none) = some w → ∀ e H', Z.Fx H' (.ob e (.xd [("what", .str w), ("number", .int 0)]) :: L) → E (.ref c_BadText) (some e) H' := kE
    have kQ : (if 60 < (TR.rowsT z).length then some ("many" : Str) else none) = none → ∀ p H', Z.Fx H' (.ob p (.lst ((TR.rowsT z).map V.str)) :: L) → Q (.ref p) H' := kQ
    walk_at "z"
    refine Z.wSplit (by decide) (by omega) F fun p1 H1 F1 => ?_
    have F1 : Z.Fx H1 (.ob p1 (.lst ((TR.rowsT z).map V.str)) :: L) := F1
    walk_at "z"
    rw [List.length_map]
    refine Z.wIfD (fun h60 => ?_) (fun h60 => ?_)
    · walk_at "z"
      exact Z.wMk2 T.x_BadText.oex T.n_BadText_number T.n_BadText_what (F1.sub (L' := L) (List.sublist_cons_self _ _)) (kE "many" (if_pos (by omega)))
    · walk_at "z"
      exact kQ (if_neg (by omega)) _ _ F1
theorem ok__rows_in (T : Txt K mg c_BadCourse c_BadJoints c_BadLength c_BadStock c_BadText c_BadWall c_Stock c_Wall) : Z.Ok (L2.CX P w) P w K mg base "_rows_in" 4 ["text"] [] (sp__rows_in K c_BadText) := by
  obtain ⟨f, fd, F, g⟩ := T.d__rows_in
  exact Z.mkOk F g (F.binds (ps := ["text"]) fun _ _ _ _ _ _ us hl => match us, hl with | [_], _ => rfl) (fn__rows_in T F)
theorem use__rows_in {cB : Addr} {H : Hp} {Q : VK} {E : XK} {L : List Z.En} {b : V} {k : Z.Kd} (F : Z.Fx H L) (ht : Z.Thing L b k) (hz : wideV b)
  (kE : ∀ w, rowsErr b = some w → ∀ e H', Z.Fx H' (.ob e (.xd [("what", .str w), ("number", .int 0)]) :: L) → E (.ref cB) (some e) H')
  (kQ : rowsErr b = none → ∀ p H', Z.Fx H' (.ob p (.lst ((rowsV b).map V.str)) :: L) → Q (.ref p) H') : sp__rows_in K cB [b] H Q E := ⟨_, rfl, L, k, F, ht, hz, kE, kQ⟩
theorem sc__check_like : FnScope ["courses", "course", "number"] ["courses", "course", "number"] (defScope s__check_like) := ⟨rfl, rfl, rfl, by decide +kernel, rfl, by decide +kernel, by decide +kernel⟩
def likeNo (rows : List (List Int)) (cs : List Int) : Bool := !rows.isEmpty && !decide (cs.sum = (rows.getD 0 []).sum)
def sp__check_like (K : PySem.W.Frag) (cB : Addr) : Sp := Z.Sp3 fun a b c H Q E => ∃ (L : List Z.En) (p : Addr) (vs : List V) (rows : List (List Int)) (cs : List Int) (n : Int), Z.Fx H L ∧ a = .ref p ∧ Z.En.ob p (.lst vs) ∈ L ∧ Z.Al2 (TupOf L) vs rows ∧ Z.SeqIs L b (some (cs.map V.int)) ∧ c = .int n ∧
  (likeNo rows cs = true → ∀ e H', Z.Fx H' (.ob e (.xd [("what", .str ("length" : Str)), ("number", .int n)]) :: L) → E (.ref cB) (some e) H') ∧
  (likeNo rows cs = false → ∀ H', Z.Fx H' L → Q .non H')
theorem fn__check_like (T : Txt K mg c_BadCourse c_BadJoints c_BadLength c_BadStock c_BadText c_BadWall c_Stock c_Wall) {f : Addr} {fd : FuncData} (F : Fun K "_check_like" "_check_like" s__check_like f fd) : FnOk P w K mg base (L2.CX P w) 3 f fd ["courses", "course", "number"] (sp__check_like K c_BadText) := by
  have O_BadText___init__ := ok_BadText___init__ (P := P) (w := w) (base := base) T
  have O_length_of := ok_length_of (P := P) (w := w) (base := base) T
  refine F.okX sc__check_like (fun vs H Q E h => ?_) (fun cdv A outer s H vs Q E hr h => ?_)
  · obtain ⟨a, b, c, rfl, _⟩ := h; rfl
  · obtain ⟨a, b, c, rfl, h⟩ := h
    have TK := takes_of (X := cxOf (L2.CX P w) P w K mg base ["courses", "course", "number"] "_check_like" (defScope s__check_like) f cdv A outer s H E) rfl rfl rfl rfl
    refine ⟨_, (pss_one (ps_if (PW.pt (pw_and (Z.pt_truN (pv 0)) (pw_and1 (pt_cmpR (Z.zNe (Z.hu0 hr)) (Z.pe_callO O_length_of (by rfl) (hr.mono (by decide)) pass0 (pa_cons (pv 1) pa_nil)) (Z.pe_callO O_length_of (by rfl) (hr.mono (by decide)) pass0 (pa_cons (pe_ix ix_seq (pv 0) pe_int (fun _ _ => rfl)) pa_nil)) (nomark _)))))
        (pss_one (ps_raise (by rfl) TK (Z.pmk_errO T.x_BadText O_BadText___init__ (hr.mono (by decide)) T.g_BadText (by rfl) (pa_cons (pv 2) (pa_cons pe_str pa_nil)))))
        pss_nil)), ?_⟩
    try dsimp only [cxOf, Cx.nox, Cx.wish]
    refine Z.at_start (σ' := [some a, some b, some c]) rfl ?_
    obtain ⟨L, p, vs, rows, cs, n, F, rfl, m, al, hs, rfl, kE, kQ⟩ := h
    have hl := al.len
    walk_at "z"
    refine Z.wIf (fun h0 => ?_) (fun h0 => ?_)
    case refine_2 =>
      have e : rows = [] := by
        cases rows with
        | nil => rfl
        | cons r rs =>
          cases vs with
          | nil => simp at hl
          | cons v r => exact absurd h0 (by simp)
      subst e
      walk_at "z"
      exact kQ rfl _ F
    cases vs with
    | nil => exact absurd h0 (by simp)
    | cons v0 vr =>
    cases rows with
    | nil => simp at hl
    | cons r0 rr =>
    obtain ⟨q, rfl, mq⟩ := al.get 0 v0 r0 rfl rfl
    have at0 : atI (V.ref q :: vr) (0 : Int) = some (V.ref q) := atI_nat (j := 0) rfl
    walk_at "z"
    refine use_length_of F hs ?_
    walk_at "z"
    refine use_length_of F (.tup mq) ?_
    walk_at "z"
    refine Z.wIfND (fun h1 => ?_) (fun h1 => ?_)
    · walk_at "z"
      exact Z.wMk2 T.x_BadText.oex T.n_BadText_number T.n_BadText_what F (kE (by show (true && !decide (cs.sum = r0.sum)) = true; rw [decide_eq_false h1]; rfl))
    · walk_at "z"
      exact kQ (by show (true && !decide (cs.sum = r0.sum)) = false; rw [decide_eq_true h1]; rfl) _ F
theorem ok__check_like (T : Txt K mg c_BadCourse c_BadJoints c_BadLength c_BadStock c_BadText c_BadWall c_Stock c_Wall) : Z.Ok (L2.CX P w) P w K mg base "_check_like" 3 ["courses", "course", "number"] [] (sp__check_like K c_BadText) := by
  obtain ⟨f, fd, F, g⟩ := T.d__check_like
  exact Z.mkOk F g (F.binds (ps := ["courses", "course", "number"]) fun _ _ _ _ _ _ us hl => match us, hl with | [_, _, _], _ => rfl) (fn__check_like T F)
theorem use__check_like {cB : Addr} {H : Hp} {Q : VK} {E : XK} {L : List Z.En} {p : Addr} {b : V} {vs : List V} {rows : List (List Int)} {cs : List Int} {n : Int} (F : Z.Fx H L) (m : Z.En.ob p (.lst vs) ∈ L) (al : Z.Al2 (TupOf L) vs rows) (hs : Z.SeqIs L b (some (cs.map V.int)))
  (kE : likeNo rows cs = true → ∀ e H', Z.Fx H' (.ob e (.xd [("what", .str ("length" : Str)), ("number", .int n)]) :: L) → E (.ref cB) (some e) H')
  (kQ : likeNo rows cs = false → ∀ H', Z.Fx H' L → Q .non H') : sp__check_like K cB [.ref p, b, .int n] H Q E := ⟨_, _, _, rfl, L, p, vs, rows, cs, n, F, rfl, m, al, hs, rfl, kE, kQ⟩
theorem sc_course_told : FnScope ["stock", "bricks", "number"] ["stock", "bricks", "number"] (defScope s_course_told) := ⟨rfl, rfl, rfl, by decide +kernel, rfl, by decide +kernel, by decide +kernel⟩
def sp_course_told (K : PySem.W.Frag) (cS cB : Addr) : Sp := Z.Sp3 fun a b c H Q E => ∃ (L : List Z.En) (x : Addr) (ns : List Int) (l r : Int) (bs : List Int) (n : Int), Z.Fx H L ∧ a = .ref x ∧ StockIn cS L x ns l r ∧ Z.SeqIs L b (some (bs.map V.int)) ∧ c = .int n ∧
  (courseW ns (some (bs.map V.int)) ≠ none → ∀ e H', Z.Fx H' (.ob e (.xd [("what", .str ("course" : Str)), ("number", .int n)]) :: L) → E (.ref cB) (some e) H') ∧
  (courseW ns (some (bs.map V.int)) = none → ∀ (p : Addr) (L1 : List Z.En) (H' : Hp), StL L b (bs.map V.int) p L1 → Z.Fx H' L1 → Q (.ref p) H')
theorem fn_course_told (T : Txt K mg c_BadCourse c_BadJoints c_BadLength c_BadStock c_BadText c_BadWall c_Stock c_Wall) {f : Addr} {fd : FuncData} (F : Fun K "course_told" "course_told" s_course_told f fd) : FnOk P w K mg base (L2.CX P w) 4 f fd ["stock", "bricks", "number"] (sp_course_told K c_Stock c_BadText) := by
  have O_BadText___init__ := ok_BadText___init__ (P := P) (w := w) (base := base) T
  have H_BadText___init__ := hot_BadText___init__ (P := P) (w := w) (base := base) T
  have O_check_course := ok_check_course (P := P) (w := w) (base := base) T
  have ON_check_course := okN_check_course (P := P) (w := w) (base := base) T
  refine F.okX sc_course_told (fun vs H Q E h => ?_) (fun cdv A outer s H vs Q E hr h => ?_)
  · obtain ⟨a, b, c, rfl, _⟩ := h; rfl
  · obtain ⟨a, b, c, rfl, h⟩ := h
    have TK := takes_of (X := cxOf (L2.CX P w) P w K mg base ["stock", "bricks", "number"] "course_told" (defScope s_course_told) f cdv A outer s H E) rfl rfl rfl rfl
    refine ⟨_, (pss_one (L2H.ps_try_onlyX rfl rfl ⟨rfl, by decide, Or.inl T.g_BadCourse⟩ (fun hd => Z.at_of rfl hd) TK (fun W pn xe tk tp _ => (by exact (pss_one (ps_ret (Z.pe_callSO ON_check_course (by rfl) (hr.mono (by decide)) (fun σ => L2N.passAt tk σ) (pa_cons (pv 0) (pa_cons (pv 1) pa_nil)))))))
        (fun a oe cls d pn hz hf tks hot => (by exact (pss_one (L2H.ps_raiseHN hot tks (Z.pmk_errH T.x_BadText H_BadText___init__ (L2H.roomH_mark (hr.mono (by decide)) _) hot T.g_BadText (by rfl) (pa_cons (pv 2) (pa_cons pe_str pa_nil))))))))), ?_⟩
    try dsimp only [cxOf, Cx.nox, Cx.wish]
    refine Z.at_start (σ' := [some a, some b, some c]) rfl ?_
    obtain ⟨L, x, ns, l, r, bs, n, F, rfl, si, hs, rfl, kE, kQ⟩ := h
    walk_at "z"
    refine use_check_course F si hs (fun xs e y hy => ?_) (fun i w hw e H1 F1 => ?_) (fun hw cs p L1 H1 ee h1 h2 h3 h4 sl F1 => ?_)
    · cases e
      obtain ⟨i, _, rfl⟩ := List.mem_map.mp hy
      exact ⟨_, .int i⟩
    · refine Z.wOnly_yes T.x_BadCourse.me fun q hq => ?_
      walk_at "z"
      exact Z.wMk2 T.x_BadText.oex T.n_BadText_number T.n_BadText_what (F1.sub (L' := L) (by walk_at "zsub")) (kE (by rw [hw]; simp))
    · walk_at "z"
      injection ee with ee
      rw [← ee] at sl
      exact kQ hw p L1 H1 sl F1
theorem ok_course_told (T : Txt K mg c_BadCourse c_BadJoints c_BadLength c_BadStock c_BadText c_BadWall c_Stock c_Wall) : Z.Ok (L2.CX P w) P w K mg base "course_told" 4 ["stock", "bricks", "number"] [] (sp_course_told K c_Stock c_BadText) := by
  obtain ⟨f, fd, F, g⟩ := T.d_course_told
  exact Z.mkOk F g (F.binds (ps := ["stock", "bricks", "number"]) fun _ _ _ _ _ _ us hl => match us, hl with | [_, _, _], _ => rfl) (fn_course_told T F)
theorem use_course_told {cS cB : Addr} {H : Hp} {Q : VK} {E : XK} {L : List Z.En} {x : Addr} {b : V} {ns bs : List Int} {l r n : Int} (F : Z.Fx H L) (si : StockIn cS L x ns l r) (hs : Z.SeqIs L b (some (bs.map V.int)))
  (kE : courseW ns (some (bs.map V.int)) ≠ none → ∀ e H', Z.Fx H' (.ob e (.xd [("what", .str ("course" : Str)), ("number", .int n)]) :: L) → E (.ref cB) (some e) H')
  (kQ : courseW ns (some (bs.map V.int)) = none → ∀ (p : Addr) (L1 : List Z.En) (H' : Hp), StL L b (bs.map V.int) p L1 → Z.Fx H' L1 → Q (.ref p) H') : sp_course_told K cS cB [.ref x, b, .int n] H Q E :=
  ⟨_, _, _, rfl, L, x, ns, l, r, bs, n, F, rfl, si, hs, rfl, kE, kQ⟩
theorem sc_are_figures : FnScope ["text", "most", "sign"] ["text", "most"] (defScope s_are_figures) := ⟨rfl, rfl, rfl, by decide +kernel, rfl, by decide +kernel, by decide +kernel⟩
def sp_are_figures (K : PySem.W.Frag) : Sp := Z.Sp2 fun x y H Q E => ∃ (L : List Z.En) (z : Str) (n : Nat), Z.Fx H L ∧ x = .str z ∧ y = .int (n : Int) ∧ n ≤ 1000 ∧ z.length ≤ sizeLine ∧ ∀ H', Z.Fx H' L → Q (.bl (TW.figsN n (TL.tl z))) H'
theorem fn_are_figures (T : Txt K mg c_BadCourse c_BadJoints c_BadLength c_BadStock c_BadText c_BadWall c_Stock c_Wall) {f : Addr} {fd : FuncData} (F : Fun K "are_figures" "are_figures" s_are_figures f fd) : FnOk P w K mg base CX0 1 f fd ["text", "most"] (sp_are_figures K) := by
  refine F.ok sc_are_figures (fun vs H Q E h => ?_) (fun cdv A outer s H vs Q E hr h => ?_)
  · obtain ⟨a, b, rfl, _⟩ := h; rfl
  · obtain ⟨a, b, rfl, h⟩ := h
    refine ⟨_, (pss_one (ps_ret (pe_andT (pe_chain Z.zLe Z.zLe pe_int (pe_callB Z.zLen (by rfl) T.b_len (by decide +kernel) (pa_cons (pv 0) pa_nil)) (pv 1)) (pe_one (pe_callB (cr_all rfl) (by rfl) T.b_all (by decide +kernel) (pa_cons (by exact (pe_lc (own := [("sign", 2)]) (g := (gName 2)) (by rfl) sc_are_figures.nd (pi_str (pv 0)) (blkOk_by (own := [("sign", 2)]) (N := ["text", "most", "sign"]) (sc := defScope s_are_figures) (by decide +kernel)) (fun _ _ _ _ _ => (by exact (pg_name (i := 2) sc_are_figures.nd rfl (by first | exact Or.inl rfl | exact Or.inr rfl)))) (fun _ _ _ _ _ => (by exact pts_nil)) (fun _ _ _ _ _ => (by exact (pe_cmpR (show OpR _ _ Z.rInSign from Z.zInSign) (pv 2) pe_str (by rfl)))))) pa_nil)))))), ?_⟩
    try dsimp only [cxOf, Cx.nox, Cx.wish]
    refine Z.at_start (σ' := [some a, some b, none]) rfl ?_
    obtain ⟨L, z, n, F, rfl, rfl, hn, hl, q⟩ := h
    walk_at "z"
    have ef : TW.figsN n (TL.tl z) = (decide (1 ≤ (z.length : Int)) && (decide ((z.length : Int) ≤ (n : Int)) && (TL.tl z).all fun c => decide (c ∈ TL.tl ("0123456789" : Str)))) := by
      have hl2 := TL.len_tl z
      have a1 : decide (1 ≤ (TL.tl z).length) = decide (1 ≤ (z.length : Int)) := by rw [decide_eq_decide]; omega
      have a2 : decide ((TL.tl z).length ≤ n) = decide ((z.length : Int) ≤ (n : Int)) := by rw [decide_eq_decide]; omega
      unfold TW.figsN
      rw [a1, a2]
    refine Z.wIf (fun h1 => ?_) (fun h1 => ?_)
    case refine_2 =>
      rw [h1, Bool.false_and] at ef
      rw [ef] at q
      walk_at "z"
      exact q _ F
    rw [h1, Bool.true_and] at ef
    walk_at "z"
    refine Z.wIf (fun h2 => ?_) (fun h2 => ?_)
    case refine_2 =>
      rw [h2, Bool.false_and] at ef
      rw [ef] at q
      rw [h2]
      exact q _ F
    rw [h2, Bool.true_and] at ef
    have h3 : (z.length : Int) ≤ (n : Int) := of_decide_eq_true h2
    walk_at "z"
    refine Z.wLcW Z.walk_str F (fun i acc L' => L' = L ∧ acc = ((TL.tl z).take i).map fun c => V.bl (decide (c ∈ TL.tl ("0123456789" : Str)))) ⟨rfl, rfl⟩ (fun _ _ _ _ _ _ _ => trivial) ?_ ?_
    · rintro i x D H1 H2 acc L' hi ⟨rfl, rfl⟩ F1 ⟨rfl, c, hc, rfl⟩
      walk_at "zw"
      walk_at "z"
      refine ⟨rfl, ?_⟩
      walk_at "z"
      have hc2 : (TL.tl z)[i]? = some c := by rw [Array.getElem?_toList]; exact hc
      have hl2 := TL.len_tl z
      refine Z.lcPut F1 (by rw [List.length_map, List.length_take]; have := Z.line_big; omega) ⟨rfl, (Z.take_succ_map hc2).symm⟩
    rintro D acc L' H2 F2 ⟨rfl, rfl⟩
    have e5 : (TL.tl z).take z.cps.size = TL.tl z := List.take_of_length_le (by rw [← TL.len_tl]; exact Nat.le_refl _)
    have e0 : ((TL.tl z).map fun c => V.bl (decide (c ∈ TL.tl ("0123456789" : Str)))) = ((TL.tl z).map fun c => decide (c ∈ TL.tl ("0123456789" : Str))).map V.bl := by rw [List.map_map]; rfl
    rw [e5, e0] at F2
    walk_at "z"
    refine Z.wAll (F2.lst List.mem_cons_self) ?_
    have ea : (((TL.tl z).map fun c => decide (c ∈ TL.tl ("0123456789" : Str))).all id) = (TL.tl z).all fun c => decide (c ∈ TL.tl ("0123456789" : Str)) := by rw [List.all_map]; rfl
    rw [ea, ← ef]
    exact q _ (F2.sub (by walk_at "zsub"))
theorem ok_are_figures (T : Txt K mg c_BadCourse c_BadJoints c_BadLength c_BadStock c_BadText c_BadWall c_Stock c_Wall) : Z.Ok CX0 P w K mg base "are_figures" 1 ["text", "most"] [] (sp_are_figures K) := by
  obtain ⟨f, fd, F, g⟩ := T.d_are_figures
  exact Z.mkOk F g (F.binds (ps := ["text", "most"]) fun _ _ _ _ _ _ us hl => match us, hl with | [_, _], _ => rfl) (fn_are_figures T F)
theorem use_are_figures {H : Hp} {Q : VK} {E : XK} {L : List Z.En} {z : Str} (n : Nat) (F : Z.Fx H L) (hn : n ≤ 1000) (hl : z.length ≤ sizeLine) (q : ∀ H', Z.Fx H' L → Q (.bl (TW.figsN n (TL.tl z))) H') : sp_are_figures K [.str z, .int (n : Int)] H Q E := ⟨_, _, rfl, L, z, n, F, rfl, rfl, hn, hl, q⟩
theorem sc__is_numeral : FnScope ["word"] ["word"] (defScope s__is_numeral) := ⟨rfl, rfl, rfl, by decide +kernel, rfl, by decide +kernel, by decide +kernel⟩
def sp__is_numeral (K : PySem.W.Frag) : Sp := Z.Sp1 fun x H Q E => ∃ (L : List Z.En) (z : Str), Z.Fx H L ∧ x = .str z ∧ z.length ≤ sizeLine ∧ ∀ H', Z.Fx H' L → Q (.bl (TW.numeral (TL.tl z))) H'
theorem fn__is_numeral (T : Txt K mg c_BadCourse c_BadJoints c_BadLength c_BadStock c_BadText c_BadWall c_Stock c_Wall) {f : Addr} {fd : FuncData} (F : Fun K "_is_numeral" "_is_numeral" s__is_numeral f fd) : FnOk P w K mg base CX0 2 f fd ["word"] (sp__is_numeral K) := by
  have O_are_figures := ok_are_figures (P := P) (w := w) (base := base) T
  refine F.ok sc__is_numeral (fun vs H Q E h => ?_) (fun cdv A outer s H vs Q E hr h => ?_)
  · obtain ⟨a, rfl, _⟩ := h; rfl
  · obtain ⟨a, rfl, h⟩ := h
    refine ⟨_, (pss_one (ps_ret (pe_andT (Z.pe_callO O_are_figures (by rfl) (hr.mono (by decide)) pass0 (pa_cons (pv 0) (pa_cons pe_int pa_nil))) (pe_one (pe_cmpR (Z.zNe (Z.hu0 hr)) (pe_ix ix_seq (pv 0) pe_int (fun _ _ => rfl)) pe_str (nomark _)))))), ?_⟩
    try dsimp only [cxOf, Cx.nox, Cx.wish]
    refine Z.at_start (σ' := [some a]) rfl ?_
    obtain ⟨L, z, F, rfl, hl, q⟩ := h
    walk_at "z"
    refine use_are_figures 3 F (by decide) hl fun H1 F1 => ?_
    walk_at "z"
    refine Z.wIf (fun h1 => ?_) (fun h1 => ?_)
    case refine_2 =>
      have e : TW.numeral (TL.tl z) = false := by unfold TW.numeral; rw [h1]; rfl
      rw [e] at q
      rw [h1]
      exact q _ F1
    have hf := TW.figsN_figs (by decide) h1
    obtain ⟨c, r, ez, h48, h57⟩ := TW.figs_head hf
    walk_at "z"
    refine Z.wIxS hl (c := c) (by show atI (TL.tl z) ((0 : Nat) : Int) = some c; rw [ez]; exact atI_nat rfl) ?_
    walk_at "z"
    refine Z.wOr1 (Z.wNeS rfl ?_)
    have e : TW.numeral (TL.tl z) = !decide (V.str ⟨#[c]⟩ = V.str ("0" : Str)) := by
      unfold TW.numeral
      rw [h1, Bool.true_and, ez]
      refine congrArg (!·) (decide_eq_decide.mpr ⟨fun h => ?_, fun h => ?_⟩)
      · have h : c = 48 := by simpa using h
        subst h
        rfl
      · injection h with h
        have h : (⟨#[c]⟩ : Str).cps = #[48] := congrArg Str.cps h
        have h : #[c] = #[48] := h
        simpa using h
    rw [← e]
    exact q _ F1
theorem ok__is_numeral (T : Txt K mg c_BadCourse c_BadJoints c_BadLength c_BadStock c_BadText c_BadWall c_Stock c_Wall) : Z.Ok CX0 P w K mg base "_is_numeral" 2 ["word"] [] (sp__is_numeral K) := by
  obtain ⟨f, fd, F, g⟩ := T.d__is_numeral
  exact Z.mkOk F g (F.binds (ps := ["word"]) fun _ _ _ _ _ _ us hl => match us, hl with | [_], _ => rfl) (fn__is_numeral T F)
theorem use__is_numeral {H : Hp} {Q : VK} {E : XK} {L : List Z.En} {z : Str} (F : Z.Fx H L) (hl : z.length ≤ sizeLine) (q : ∀ H', Z.Fx H' L → Q (.bl (TW.numeral (TL.tl z))) H') : sp__is_numeral K [.str z] H Q E := ⟨_, rfl, L, z, F, rfl, hl, q⟩
theorem sc__numbers_of : FnScope ["words", "word"] ["words"] (defScope s__numbers_of) := ⟨rfl, rfl, rfl, by decide +kernel, rfl, by decide +kernel, by decide +kernel⟩
def sp__numbers_of (K : PySem.W.Frag) : Sp := Z.Sp1 fun x H Q E => ∃ (L : List Z.En) (a : Addr) (ws : List Str), Z.Fx H L ∧ x = .ref a ∧ Z.En.ob a (.lst (ws.map V.str)) ∈ L ∧ ws.length ≤ 100000 ∧ (∀ w ∈ ws, w.length ≤ sizeLine) ∧
  (TW.numsOk (ws.map TL.tl) = false → ∀ H', Z.Fx H' L → Q .non H') ∧
  (TW.numsOk (ws.map TL.tl) = true → ∀ p H', Z.Fx H' (.ob p (.lst (((ws.map TL.tl).map TX.valI).map V.int)) :: L) → Q (.ref p) H')
theorem fn__numbers_of (T : Txt K mg c_BadCourse c_BadJoints c_BadLength c_BadStock c_BadText c_BadWall c_Stock c_Wall) {f : Addr} {fd : FuncData} (F : Fun K "_numbers_of" "_numbers_of" s__numbers_of f fd) : FnOk P w K mg base CX0 3 f fd ["words"] (sp__numbers_of K) := by
  have O__is_numeral := ok__is_numeral (P := P) (w := w) (base := base) T
  refine F.ok sc__numbers_of (fun vs H Q E h => ?_) (fun cdv A outer s H vs Q E hr h => ?_)
  · obtain ⟨a, rfl, _⟩ := h; rfl
  · obtain ⟨a, rfl, h⟩ := h
    refine ⟨_, (pss_cons (ps_if (PW.pt (pw_or (pt_not (Z.pt_truN (pv 0))) (pw_or1 (pt_not (Z.pt_truN (pe_callB (cr_all rfl) (by rfl) T.b_all (by decide +kernel) (pa_cons (by exact (pe_lc (own := [("word", 1)]) (g := (gName 1)) (by rfl) sc__numbers_of.nd (Z.pi_seq (pv 0)) (blkOk_by (own := [("word", 1)]) (N := ["words", "word"]) (sc := defScope s__numbers_of) (by decide +kernel)) (fun _ _ _ _ _ => (by exact (pg_name (i := 1) sc__numbers_of.nd rfl (by first | exact Or.inl rfl | exact Or.inr rfl)))) (fun _ _ _ _ _ => (by exact pts_nil)) (fun _ _ _ _ _ => (by exact (Z.pe_callO O__is_numeral (by rfl) (hr.mono (by decide)) pass0 (pa_cons (pv 1) pa_nil)))))) pa_nil)))))))
        (pss_one (ps_ret pe_non))
        pss_nil)
      (pss_one (ps_ret (by exact (pe_lc (own := [("word", 1)]) (g := (gName 1)) (by rfl) sc__numbers_of.nd (Z.pi_seq (pv 0)) (blkOk_by (own := [("word", 1)]) (N := ["words", "word"]) (sc := defScope s__numbers_of) (by decide +kernel)) (fun _ _ _ _ _ => (by exact (pg_name (i := 1) sc__numbers_of.nd rfl (by first | exact Or.inl rfl | exact Or.inr rfl)))) (fun _ _ _ _ _ => (by exact pts_nil)) (fun _ _ _ _ _ => (by exact (pe_callTy Z.cr_intT (by rfl) T.b_int (by decide +kernel) (pa_cons (pv 1) pa_nil))))))))), ?_⟩
    try dsimp only [cxOf, Cx.nox, Cx.wish]
    refine Z.at_start (σ' := [some a, none]) rfl ?_
    obtain ⟨L, a, ws, F, rfl, m, hn, hw, q0, q1⟩ := h
    have lb := Z.line_big
    walk_at "z"
    refine Z.wIf (fun h0 => ?_) (fun h0 => ?_)
    · have e : ws = [] := by
        cases ws with
        | nil => rfl
        | cons c r => exact absurd h0 (by simp)
      subst e
      walk_at "z"
      exact q0 rfl _ F
    have hne : ws ≠ [] := by
      intro e
      subst e
      exact absurd h0 (by simp)
    walk_at "z"
    refine Z.wLcL m F (fun i acc L' => L' = L ∧ acc = (ws.take i).map fun w => V.bl (TW.numeral (TL.tl w))) ⟨rfl, rfl⟩ (fun _ _ _ r => by rw [r.1]; exact m) ?_ ?_
    · rintro i x D H1 acc L' hx ⟨rfl, rfl⟩ F1
      obtain ⟨w', hw', rfl⟩ : ∃ w, ws[i]? = some w ∧ V.str w = x := by
        rw [List.getElem?_map] at hx
        cases hh : ws[i]? with
        | none => rw [hh] at hx; cases hx
        | some w => rw [hh] at hx; exact ⟨w, rfl, by injection hx⟩
      walk_at "zw"
      walk_at "z"
      refine ⟨rfl, ?_⟩
      walk_at "z"
      refine use__is_numeral F1 (hw _ (List.mem_of_getElem? hw')) fun H2 F2 => ?_
      refine Z.lcPut F2 (by rw [List.length_map, List.length_take]; omega) ⟨rfl, (Z.take_succ_map hw').symm⟩
    rintro D acc L' H2 F2 ⟨rfl, rfl⟩
    rw [List.length_map, List.take_length] at F2
    have e0 : (ws.map fun w => V.bl (TW.numeral (TL.tl w))) = (ws.map fun w => TW.numeral (TL.tl w)).map V.bl := by rw [List.map_map]; rfl
    rw [e0] at F2
    walk_at "z"
    refine Z.wAll (F2.lst List.mem_cons_self) ?_
    have ea : TW.numsOk (ws.map TL.tl) = (ws.map fun w => TW.numeral (TL.tl w)).all id := by
      unfold TW.numsOk
      rw [List.all_map, List.all_map]
      cases ws with
      | nil => exact absurd rfl hne
      | cons c r => rfl
    rw [← ea]
    have F3 := F2.sub (L' := L') (by walk_at "zsub")
    walk_at "z"
    refine Z.wIf (fun h1 => ?_) (fun h1 => ?_)
    · walk_at "z"
      exact q0 (by simpa using h1) _ F3
    have h1 : TW.numsOk (ws.map TL.tl) = true := by simpa using h1
    have hnum : ∀ w ∈ ws, TW.numeral (TL.tl w) = true := by
      intro w hw
      rw [ea, List.all_map, List.all_eq_true] at h1
      exact h1 w hw
    walk_at "z"
    refine Z.wLcL m F3 (fun i acc L2 => L2 = L' ∧ acc = (ws.take i).map fun w => V.int (TX.valI (TL.tl w))) ⟨rfl, rfl⟩ (fun _ _ _ r => by rw [r.1]; exact m) ?_ ?_
    · rintro i x D H1 acc L' hx ⟨rfl, rfl⟩ F1
      obtain ⟨w', hw', rfl⟩ : ∃ w, ws[i]? = some w ∧ V.str w = x := by
        rw [List.getElem?_map] at hx
        cases hh : ws[i]? with
        | none => rw [hh] at hx; cases hx
        | some w => rw [hh] at hx; exact ⟨w, rfl, by injection hx⟩
      walk_at "zw"
      walk_at "z"
      refine ⟨rfl, ?_⟩
      walk_at "z"
      obtain ⟨i1, i2⟩ := TW.numeral_int (hnum _ (List.mem_of_getElem? hw'))
      refine Z.wIntT i1 i2 ?_
      refine Z.lcPut F1 (by rw [List.length_map, List.length_take]; omega) ⟨rfl, (Z.take_succ_map hw').symm⟩
    rintro D acc L' H2 F2 ⟨rfl, rfl⟩
    rw [List.length_map, List.take_length] at F2
    have e0 : (ws.map fun w => V.int (TX.valI (TL.tl w))) = ((ws.map TL.tl).map TX.valI).map V.int := by rw [List.map_map, List.map_map]; rfl
    rw [e0] at F2
    exact q1 h1 _ _ F2
theorem ok__numbers_of (T : Txt K mg c_BadCourse c_BadJoints c_BadLength c_BadStock c_BadText c_BadWall c_Stock c_Wall) : Z.Ok CX0 P w K mg base "_numbers_of" 3 ["words"] [] (sp__numbers_of K) := by
  obtain ⟨f, fd, F, g⟩ := T.d__numbers_of
  exact Z.mkOk F g (F.binds (ps := ["words"]) fun _ _ _ _ _ _ us hl => match us, hl with | [_], _ => rfl) (fn__numbers_of T F)
theorem use__numbers_of {H : Hp} {Q : VK} {E : XK} {L : List Z.En} {a : Addr} {ws : List Str} (F : Z.Fx H L) (m : Z.En.ob a (.lst (ws.map V.str)) ∈ L) (hn : ws.length ≤ 100000) (hw : ∀ w ∈ ws, w.length ≤ sizeLine)
  (q0 : TW.numsOk (ws.map TL.tl) = false → ∀ H', Z.Fx H' L → Q .non H')
  (q1 : TW.numsOk (ws.map TL.tl) = true → ∀ p H', Z.Fx H' (.ob p (.lst (((ws.map TL.tl).map TX.valI).map V.int)) :: L) → Q (.ref p) H') : sp__numbers_of K [.ref a] H Q E := ⟨_, rfl, L, a, ws, F, rfl, m, hn, hw, q0, q1⟩
theorem sc_course_in : FnScope ["stock", "row", "number", "bricks"] ["stock", "row", "number"] (defScope s_course_in) := ⟨rfl, rfl, rfl, by decide +kernel, rfl, by decide +kernel, by decide +kernel⟩
def numsOf (z : Str) : List Int := (TW.wds (TL.tl z)).map TX.valI
/-- the first word that is due of a course's text -/
def rowErr (ns : List Int) (z : Str) : Option Str := if TW.numsOk (TW.wds (TL.tl z)) = false then some "shape" else if (courseW ns (some ((numsOf z).map V.int))).isSome = true then some "course" else none
def sp_course_in (K : PySem.W.Frag) (cS cB : Addr) : Sp := Z.Sp3 fun a b c H Q E => ∃ (L : List Z.En) (x : Addr) (ns : List Int) (l r : Int) (z : Str) (n : Int), Z.Fx H L ∧ a = .ref x ∧ StockIn cS L x ns l r ∧ b = .str z ∧ z.length ≤ 10000 ∧ c = .int n ∧
  (∀ w, rowErr ns z = some w → ∀ e H', Z.Fx H' (.ob e (.xd [("what", .str w), ("number", .int n)]) :: L) → E (.ref cB) (some e) H') ∧
  (rowErr ns z = none → ∀ (p : Addr) (H' : Hp), Z.Fx H' (.ob p (.tup ((numsOf z).map V.int)) :: L) → Q (.ref p) H')
theorem fn_course_in (T : Txt K mg c_BadCourse c_BadJoints c_BadLength c_BadStock c_BadText c_BadWall c_Stock c_Wall) {f : Addr} {fd : FuncData} (F : Fun K "course_in" "course_in" s_course_in f fd) : FnOk P w K mg base (L2.CX P w) 5 f fd ["stock", "row", "number"] (sp_course_in K c_Stock c_BadText) := by
  have O_BadText___init__ := ok_BadText___init__ (P := P) (w := w) (base := base) T
  have O__numbers_of := ok__numbers_of (P := P) (w := w) (base := base) T
  have O_course_told := ok_course_told (P := P) (w := w) (base := base) T
  refine F.okX sc_course_in (fun vs H Q E h => ?_) (fun cdv A outer s H vs Q E hr h => ?_)
  · obtain ⟨a, b, c, rfl, _⟩ := h; rfl
  · obtain ⟨a, b, c, rfl, h⟩ := h
    have TK := takes_of (X := cxOf (L2.CX P w) P w K mg base ["stock", "row", "number", "bricks"] "course_in" (defScope s_course_in) f cdv A outer s H E) rfl rfl rfl rfl
    refine ⟨_, (pss_cons (ps_set (i := 3) sc_course_in.nd rfl (by first | exact Or.inl rfl | exact Or.inr rfl) (Z.pe_callO O__numbers_of (by rfl) (hr.mono (by decide)) pass0 (pa_cons (Z.pe_spl (pv 1) pe_str) pa_nil)))
      (pss_cons (ps_if (pt_cmpR Z.zIs (pv 3) pe_non (nomark _))
        (pss_one (ps_raise (by rfl) TK (Z.pmk_errO T.x_BadText O_BadText___init__ (hr.mono (by decide)) T.g_BadText (by rfl) (pa_cons (pv 2) (pa_cons pe_str pa_nil)))))
        pss_nil)
      (pss_one (ps_ret (Z.pe_callO O_course_told (by rfl) (hr.mono (by decide)) (Z.passE TK) (pa_cons (pv 0) (pa_cons (pv 3) (pa_cons (pv 2) pa_nil)))))))), ?_⟩
    try dsimp only [cxOf, Cx.nox, Cx.wish]
    refine Z.at_start (σ' := [some a, some b, some c, none]) rfl ?_
    obtain ⟨L, x, ns, l, r, z, n, F, rfl, si, rfl, hz, rfl, kE, kQ⟩ := h
    have lb := Z.line_big
    walk_at "z"
    refine Z.wSplit (by decide) (by omega) F fun p1 H1 F1 => ?_
    walk_at "z"
    obtain ⟨s1, s2⟩ := TW.split_size (z := z)
    refine use__numbers_of F1 List.mem_cons_self (by omega) (fun w hw => by have := s2 w hw; omega) (fun hn H2 F2 => ?_) (fun hn p2 H2 F2 => ?_)
    · rw [TW.wds_split] at hn
      walk_at "z"
      exact Z.wMk2 T.x_BadText.oex T.n_BadText_number T.n_BadText_what (F2.sub (L' := L) (by walk_at "zsub")) (kE "shape" (by unfold rowErr; rw [if_pos hn]))
    · rw [TW.wds_split] at hn F2
      have hn' : ¬ TW.numsOk (TW.wds (TL.tl z)) = false := by rw [hn]; decide
      walk_at "z"
      refine use_course_told (bs := numsOf z) F2 (by obtain ⟨dx, p, m1, m2⟩ := si; exact ⟨dx, p, .tail _ (.tail _ m1), .tail _ (.tail _ m2)⟩) (.lst List.mem_cons_self) (fun hc e H3 F3 => ?_) (fun hc p3 L3 H3 sl F3 => ?_)
      · refine kE "course" ?_ e H3 (F3.sub (by walk_at "zsub"))
        unfold rowErr
        rw [if_neg hn', if_pos (Option.isSome_iff_ne_none.mpr hc)]
      · cases sl with
        | new => exact kQ (by unfold rowErr; rw [if_neg hn', if_neg (by rw [hc]; decide)]) p3 H3 (F3.sub (by walk_at "zsub"))
        | same e m =>
          exfalso
          cases e
          have a := F3.get m
          have b := F3.get (List.mem_cons_self (a := Z.En.ob p2 (.lst ((numsOf z).map V.int))))
          rw [a] at b
          cases b
theorem ok_course_in (T : Txt K mg c_BadCourse c_BadJoints c_BadLength c_BadStock c_BadText c_BadWall c_Stock c_Wall) : Z.Ok (L2.CX P w) P w K mg base "course_in" 5 ["stock", "row", "number"] [] (sp_course_in K c_Stock c_BadText) := by
  obtain ⟨f, fd, F, g⟩ := T.d_course_in
  exact Z.mkOk F g (F.binds (ps := ["stock", "row", "number"]) fun _ _ _ _ _ _ us hl => match us, hl with | [_, _, _], _ => rfl) (fn_course_in T F)
theorem use_course_in {cS cB : Addr} {H : Hp} {Q : VK} {E : XK} {L : List Z.En} {x : Addr} {ns : List Int} {l r n : Int} {z : Str} (F : Z.Fx H L) (si : StockIn cS L x ns l r) (hz : z.length ≤ 10000)
  (kE : ∀ w, rowErr ns z = some w → ∀ e H', Z.Fx H' (.ob e (.xd [("what", .str w), ("number", .int n)]) :: L) → E (.ref cB) (some e) H')
  (kQ : rowErr ns z = none → ∀ (p : Addr) (H' : Hp), Z.Fx H' (.ob p (.tup ((numsOf z).map V.int)) :: L) → Q (.ref p) H') : sp_course_in K cS cB [.ref x, .str z, .int n] H Q E :=
  ⟨_, _, _, rfl, L, x, ns, l, r, z, n, F, rfl, si, rfl, hz, rfl, kE, kQ⟩
theorem sc_wall_of : FnScope ["stock", "text", "courses", "number", "row", "course"] ["stock", "text"] (defScope s_wall_of) := ⟨rfl, rfl, rfl, by decide +kernel, rfl, by decide +kernel, by decide +kernel⟩
theorem good_Cok {ns : List Int} {cs : List Int} (h : courseW ns (some (cs.map V.int)) = none) : Cok ns cs := by
  obtain ⟨ds, e, c⟩ := courseW_data h
  have e := Option.some.inj e
  have : cs = ds := by
    have e2 := congrArg (List.map intV) e
    rwa [intV_map, intV_map] at e2
  subst this
  exact c
theorem row_Cok {ns : List Int} {z : Str} (h : rowErr ns z = none) : Cok ns (numsOf z) := by
  unfold rowErr at h
  split at h
  · cases h
  · split at h
    · cases h
    · rename_i h2
      exact good_Cok (by simpa using h2)
/-- rows that are good make a wall -/
theorem flaw_none {ns : List Int} {rows : List (List Int)} (h : ∀ cs ∈ rows, Cok ns cs ∧ cs.sum = (rows.getD 0 []).sum) {j : Nat} (hj : j < rows.length) : flawAt ns (rows.map intsO) j = none := by
  unfold flawAt
  have e : (rows.map intsO).getD j none = some ((rows.getD j []).map V.int) := by
    rw [List.getD_eq_getElem?_getD,
          List.getD_eq_getElem?_getD, List.getElem?_map]
    rw [List.getElem?_eq_getElem hj]
    rfl
  have hm : rows.getD j [] ∈ rows := by
    rw [List.getD_eq_getElem?_getD, List.getElem?_eq_getElem hj]
    exact List.getElem_mem hj
  obtain ⟨c, s⟩ := h _ hm
  rw [e, flawW_good c]
  by_cases h0 : j = 0
  · rw [if_pos h0]
  · rw [if_neg h0]
    have e0 : (rows.map intsO).getD 0 none = some ((rows.getD 0 []).map V.int) := by
      rw [List.getD_eq_getElem?_getD,
            List.getD_eq_getElem?_getD, List.getElem?_map]
      rw [List.getElem?_eq_getElem (by omega)]
      rfl
    rw [e0]
    show (if (rows.getD j []).sum = (((rows.getD 0 []).map V.int).map intV).sum then none else some ("length" : Str)) = none
    rw [intV_map, if_pos s]
theorem intsO_inj {a b : List (List Int)} (h : a.map intsO = b.map intsO) : a = b := by
  have e := congrArg (List.map fun o : Option (List V) => (o.getD []).map intV) h
  rw [List.map_map,
        List.map_map] at e
  have k : ((fun o : Option (List V) => (o.getD []).map intV) ∘ intsO) = id := by
    funext cs
    show ((some (cs.map V.int)).getD []).map intV = cs
    show (cs.map V.int).map intV = cs
    exact intV_map cs
  rw [k, List.map_id, List.map_id] at e
  exact e
theorem like_head {rows : List Str} {i : Nat} (hi : i < rows.length) (h0 : 0 < i) : ((rows.take i).map numsOf).getD 0 [] = numsOf (rows.getD 0 "") ∧ ((rows.take i).map numsOf).isEmpty = false := by
  cases rows with
  | nil => simp at hi
  | cons a r =>
    obtain ⟨k, rfl⟩ : ∃ k, i = k + 1 := ⟨i - 1, by omega⟩
    exact ⟨rfl, rfl⟩
theorem like_sum {rows : List Str} {i : Nat} {cs : List Int} (hi : i < rows.length) (h : likeNo ((rows.take i).map numsOf) cs = true) : ¬ cs.sum = (numsOf (rows.getD 0 "")).sum := by
  unfold likeNo at h
  by_cases h0 : 0 < i
  · rw [(like_head hi h0).1] at h
    simp at h
    exact h.2
  · obtain rfl : i = 0 := by omega
    simp at h
theorem like_yes {rows : List Str} {i : Nat} {row : Str} (hi : i < rows.length) (e : rows.getD i "" = row) (h : likeNo ((rows.take i).map numsOf) (numsOf row) = false) : (numsOf row).sum = (numsOf (rows.getD 0 "")).sum := by
  unfold likeNo at h
  by_cases h0 : 0 < i
  · obtain ⟨a, b⟩ := like_head hi h0
    rw [a, b] at h
    simpa using h
  · obtain rfl : i = 0 := by omega
    rw [e]
def sp_wall_of (K : PySem.W.Frag) (cS cW cB : Addr) : Sp := Z.Sp2 fun a b H Q E => ∃ (L : List Z.En) (x : Addr) (ns : List Int) (l r : Int) (k : Z.Kd), Z.Fx H L ∧ a = .ref x ∧ StockIn cS L x ns l r ∧ Z.Thing L b k ∧ wideV b ∧ (∀ w ∈ rowsV b, w.length ≤ 10000) ∧
  (∀ w, rowsErr b = some w → ∀ e H', Z.Fx H' (.ob e (.xd [("what", .str w), ("number", .int 0)]) :: L) → E (.ref cB) (some e) H') ∧
  (rowsErr b = none → ∀ (i : Nat) w, i < (rowsV b).length → (∀ j < i, TR.rowBad (rowErr ns) numsOf (rowsV b) j = none) → TR.rowBad (rowErr ns) numsOf (rowsV b) i = some w →
    ∀ e L1 H', L.Sublist L1 → Z.Fx H' (.ob e (.xd [("what", .str w), ("number", .int (i : Nat))]) :: L1) → E (.ref cB) (some e) H') ∧
  (rowsErr b = none → (∀ j < (rowsV b).length, TR.rowBad (rowErr ns) numsOf (rowsV b) j = none) → ∀ y L1 H', L.Sublist L1 → WallIn cW L1 y x ((rowsV b).map numsOf) → Z.Fx H' L1 → Q (.ref y) H')
theorem fn_wall_of (T : Txt K mg c_BadCourse c_BadJoints c_BadLength c_BadStock c_BadText c_BadWall c_Stock c_Wall) {f : Addr} {fd : FuncData} (F : Fun K "wall_of" "wall_of" s_wall_of f fd) : FnOk P w K mg base (L2.CX P w) 9 f fd ["stock", "text"] (sp_wall_of K c_Stock c_Wall c_BadText) := by
  have O__check_like := ok__check_like (P := P) (w := w) (base := base) T
  have O__rows_in := ok__rows_in (P := P) (w := w) (base := base) T
  have O_course_in := ok_course_in (P := P) (w := w) (base := base) T
  have O_Wall_2 := ok_Wall___init___2 (P := P) (w := w) (base := base) T
  refine F.okX sc_wall_of (fun vs H Q E h => ?_) (fun cdv A outer s H vs Q E hr h => ?_)
  · obtain ⟨a, b, rfl, _⟩ := h; rfl
  · obtain ⟨a, b, rfl, h⟩ := h
    have TK := takes_of (X := cxOf (L2.CX P w) P w K mg base ["stock", "text", "courses", "number", "row", "course"] "wall_of" (defScope s_wall_of) f cdv A outer s H E) rfl rfl rfl rfl
    refine ⟨_, (pss_cons (ps_set (i := 2) sc_wall_of.nd rfl (by first | exact Or.inl rfl | exact Or.inr rfl) (pe_lst pa_nil))
      (pss_cons (ps_for (Z.owns rfl) (by rfl) (Z.pi_enumS (by rfl) T.b_enumerate (pa_cons (Z.pe_callO O__rows_in (by rfl) (hr.mono (by decide)) (Z.passE TK) (pa_cons (pv 1) pa_nil)) pa_nil)) (pg_tup (by rfl) (pgs_cons (pg_name (i := 3) sc_wall_of.nd rfl (by first | exact Or.inl rfl | exact Or.inr rfl)) (pgs_cons (pg_name (i := 4) sc_wall_of.nd rfl (by first | exact Or.inl rfl | exact Or.inr rfl)) pgs_nil)))
        (pss_cons (ps_set (i := 5) sc_wall_of.nd rfl (by first | exact Or.inl rfl | exact Or.inr rfl) (Z.pe_callO O_course_in (by rfl) (hr.mono (by decide)) (Z.passE TK) (pa_cons (pv 0) (pa_cons (pv 4) (pa_cons (pv 3) pa_nil)))))
        (pss_cons (ps_expr (Z.pe_callO O__check_like (by rfl) (hr.mono (by decide)) (Z.passE TK) (pa_cons (pv 2) (pa_cons (pv 5) (pa_cons (pv 3) pa_nil)))))
        (pss_one (ps_expr (pe_bm PySem.F.plainAttrs_list PySem.F.slot_list_append PySem.F.type_list_append mt_append (pv 2) (pa_cons (pv 5) pa_nil)))))))
      (pss_one (ps_ret (Z.pe_makeO O_Wall_2 (hr.mono (by decide)) T.g_Wall (by rfl) (Z.passE TK) (pa_cons (pv 0) (pa_cons (pv 2) pa_nil))))))), ?_⟩
    try dsimp only [cxOf, Cx.nox, Cx.wish]
    refine Z.at_start (σ' := [some a, some b, none, none, none, none]) rfl ?_
    obtain ⟨L, x, ns, l, r, k, F, rfl, si, ht, hz, h10, kM, kE, kQ⟩ := h
    have lb := Z.line_big
    walk_at "z"
    rename_i cp H1 F1
    refine use__rows_in F1 ht.cons hz (fun w hw e H2 F2 => kM w hw e H2 (F2.sub (.cons_cons _ (List.sublist_cons_self _ _)))) (fun hn p H2 F2 => ?_)
    have hlen : (rowsV b).length ≤ 60 ∧ 1 ≤ (rowsV b).length := by
      cases ht with
      | str z =>
        have h1 : (if 60 < (TR.rowsT z).length then some ("many" : Str) else none) = none := hn
        have h2 := (TR.rowsT_size (z := z)).2.2
        have h3 : (rowsV (V.str z)) = TR.rowsT z := rfl
        rw [h3]
        constructor
        · by_cases h : 60 < (TR.rowsT z).length
          · rw [if_pos h] at h1; cases h1
          · omega
        · cases hr : TR.rowsT z with
          | nil => exact absurd hr h2
          | cons a r => simp
      | _ => cases hn
    generalize rowsV b = rows at *
    walk_at "z"
    refine Z.wForE (L := [.ob p (.lst (rows.map V.str))]) (.lst List.mem_cons_self) (F2.sub (.cons_cons _ (List.nil_sublist _))) (fun i σ' H' => ∃ vs L2 v3 v4 v5, σ' = [some (.ref x), some b, some (.ref cp), v3, v4, v5] ∧ Z.Fx H' (.ob cp (.lst vs) :: .ob p (.lst (rows.map V.str)) :: L2) ∧ L.Sublist L2 ∧
        Z.Al2 (TupOf L2) vs ((rows.take i).map numsOf) ∧ ∀ j < i, TR.rowBad (rowErr ns) numsOf rows j = none) ?_ ?_ ?_ ?_
    · exact ⟨[], L, _, _, _, rfl, F2.perm (.swap _ _ _), .refl _, .nil, fun j hj => absurd hj (Nat.not_lt_zero _)⟩
    · rintro i σ' H' ⟨vs, L2, v3, v4, v5, rfl, F', sub, al, hj⟩
      refine ⟨_, F', fun q o hq => ?_⟩
      cases List.mem_singleton.mp hq
      exact .tail _ (.head _)
    · rintro i y t σ' H3 hy ⟨vs, L2, v3, v4, v5, rfl, F', sub, al, hj⟩ hT
      obtain ⟨row, hrow, rfl⟩ : ∃ w, rows[i]? = some w ∧ V.str w = y := by
        rw [List.getElem?_map] at hy
        cases hh : rows[i]? with
        | none => rw [hh] at hy; cases hy
        | some w => rw [hh] at hy; exact ⟨w, rfl, by injection hy⟩
      have hi : i < rows.length := (List.getElem?_eq_some_iff.mp hrow).1
      have eget : rows.getD i "" = row := by rw [List.getD_eq_getElem?_getD, hrow]; rfl
      have hvl : vs.length = i := by
        have := al.len
        rw [List.length_map, List.length_take] at this
        omega
      have F3 := F'.new (o := .tup [.int (i : Nat), .str row]) hT
      generalize upd H3 t (.tup [.int (i : Nat), .str row]) = H4 at *
      have sub3 : L.Sublist (.ob t (.tup [.int (i : Nat), .str row]) :: .ob cp (.lst vs) :: .ob p (.lst (rows.map V.str)) :: L2) := .cons _ (.cons _ (.cons _ sub))
      walk_at "z"
      refine use_course_in F3 (si.le sub3) (h10 _ (List.mem_of_getElem? hrow)) (fun w hw e H5 F5 => ?_) (fun hw q5 H5 F5 => ?_)
      · exact kE hn i w hi hj (TR.rowBad_f (by rw [eget]; exact hw)) e _ H5 sub3 F5
      · walk_at "z"
        refine use__check_like F5 (.tail _ (.tail _ (.head _))) (rows := (rows.take i).map numsOf) (al.mono fun _ _ h => h.mono fun e m => .tail _ (.tail _ (.tail _ (.tail _ m)))) (.tup List.mem_cons_self) (fun hlk e H6 F6 => ?_) (fun hlk H6 F6 => ?_)
        · refine kE hn i "length" hi hj ?_ e _ H6 (sub3.cons _) F6
          rw [TR.rowBad_no (by rw [eget]; exact hw), eget]
          exact if_neg (like_sum hi hlk)
        · walk_at "z"
          refine Z.wApp F6 (.tail _ (.tail _ (.head _))) (.tail (.tail .head)) (by have := Z.line_big; omega) fun H7 F7 => ?_
          refine ⟨vs ++ [.ref q5], .ob q5 (.tup ((numsOf row).map V.int)) :: L2, _, _, _, rfl, ?_, .cons _ sub, ?_, fun j hj2 => ?_⟩
          · exact (F7.sub (.cons_cons _ (.cons _ (.refl _)))).perm (List.perm_middle (l₁ := [Z.En.ob cp (.lst (vs ++ [.ref q5])), Z.En.ob p (.lst (rows.map V.str))])).symm
          · rw [List.take_add_one, hrow, List.map_append]
            exact (al.mono fun _ _ h => h.mono fun e m => .tail _ m).snoc ⟨q5, rfl, List.mem_cons_self⟩
          · by_cases h : j < i
            · exact hj j h
            · obtain rfl : j = i := by omega
              rw [TR.rowBad_no (by rw [eget]; exact hw), eget]
              exact if_pos (like_yes hi eget hlk)
    · rintro σ' H3 ⟨vs, L2, v3, v4, v5, rfl, F', sub, al, hj⟩
      rw [List.length_map] at hj al
      rw [List.take_length] at al
      have hgood : ∀ j < rows.length, rowErr ns (rows.getD j "") = none ∧ (numsOf (rows.getD j "")).sum = (numsOf (rows.getD 0 "")).sum := fun j h => TR.rowBad_good (hj j h)
      have hall : ∀ cs ∈ rows.map numsOf, Cok ns cs ∧ cs.sum = ((rows.map numsOf).getD 0 []).sum := by
        intro cs hcs
        obtain ⟨j, hj1, rfl⟩ := List.mem_iff_getElem.mp hcs
        rw [List.length_map] at hj1
        have e1 : rows.getD j "" = rows[j] := by rw [List.getD_eq_getElem?_getD, List.getElem?_eq_getElem hj1]; rfl
        have e0 : (rows.map numsOf).getD 0 [] = numsOf (rows.getD 0 "") := by
          rw [List.getD_eq_getElem?_getD, List.getD_eq_getElem?_getD, List.getElem?_map, List.getElem?_eq_getElem (by omega)]
          rfl
        obtain ⟨a, b⟩ := hgood j hj1
        rw [e1] at a b
        rw [List.getElem_map, e0]
        exact ⟨row_Cok a, b⟩
      walk_at "z"
      refine use_Wall (QX := fun y H => Q (.ref y) H) (ns := ns) F' (si.le (.cons _ (.cons _ sub))) (.lst List.mem_cons_self) (os := (rows.map numsOf).map intsO) (fun ws e => ?_) (fun hm => ?_) (fun i w h1 h2 h3 h4 => ?_) (fun rows' h1 h2 h3 y L1 H4 s wi F4 => ?_)
      · cases e
        refine ⟨by rw [List.length_map]; exact al.len, fun i a b ha hb => ?_⟩
        rw [List.getElem?_map] at hb
        obtain ⟨cs, hcs, hto⟩ := al.getL ha
        rw [hcs] at hb
        injection hb with hb
        subst hb
        refine ⟨(hto.mono fun e m => .tail _ (.tail _ m)).seq, fun xs e x hx => ?_⟩
        cases e
        obtain ⟨n, _, rfl⟩ := List.mem_map.mp hx
        exact ⟨_, .int n⟩
      · exfalso
        have e : Z.inLen 1 60 (some vs) = true := by
          have := al.len
          rw [List.length_map] at this
          simp only [Z.inLen, Bool.and_eq_true, decide_eq_true_eq]
          omega
        rw [e] at hm
        cases hm
      · exfalso
        rw [List.length_map] at h2
        rw [flaw_none hall h2] at h4
        cases h4
      · obtain rfl := intsO_inj h2
        exact kQ hn hj y L1 H4 (((sub.cons _).cons _).trans s) wi F4
theorem ok_wall_of (T : Txt K mg c_BadCourse c_BadJoints c_BadLength c_BadStock c_BadText c_BadWall c_Stock c_Wall) : Z.Ok (L2.CX P w) P w K mg base "wall_of" 9 ["stock", "text"] [] (sp_wall_of K c_Stock c_Wall c_BadText) := by
  obtain ⟨f, fd, F, g⟩ := T.d_wall_of
  exact Z.mkOk F g (F.binds (ps := ["stock", "text"]) fun _ _ _ _ _ _ us hl => match us, hl with | [_, _], _ => rfl) (fn_wall_of T F)
theorem use_wall_of {cS cW cB : Addr} {H : Hp} {Q : VK} {E : XK} {L : List Z.En} {K : PySem.W.Frag} {x : Addr} {b : V} {ns : List Int} {l r : Int} {k : Z.Kd} (F : Z.Fx H L) (si : StockIn cS L x ns l r) (ht : Z.Thing L b k) (hz : wideV b) (h10 : ∀ w ∈ rowsV b, w.length ≤ 10000)
  (kM : ∀ w, rowsErr b = some w → ∀ e H', Z.Fx H' (.ob e (.xd [("what", .str w), ("number", .int 0)]) :: L) → E (.ref cB) (some e) H')
  (kE : rowsErr b = none → ∀ (i : Nat) w, i < (rowsV b).length → (∀ j < i, TR.rowBad (rowErr ns) numsOf (rowsV b) j = none) → TR.rowBad (rowErr ns) numsOf (rowsV b) i = some w →
    ∀ e L1 H', L.Sublist L1 → Z.Fx H' (.ob e (.xd [("what", .str w), ("number", .int (i : Nat))]) :: L1) → E (.ref cB) (some e) H')
  (kQ : rowsErr b = none → (∀ j < (rowsV b).length, TR.rowBad (rowErr ns) numsOf (rowsV b) j = none) → ∀ y L1 H', L.Sublist L1 → WallIn cW L1 y x ((rowsV b).map numsOf) → Z.Fx H' L1 → Q (.ref y) H') : sp_wall_of K cS cW cB [.ref x, b] H Q E :=
  ⟨_, _, rfl, L, x, ns, l, r, k, F, rfl, si, ht, hz, h10, kM, kE, kQ⟩
theorem sc__law_read : FnScope ["_law_stock", "_law_text", "_law_told", "raised"] ["_law_stock", "_law_text"] (defScope s__law_read) := ⟨rfl, rfl, rfl, by decide +kernel, rfl, by decide +kernel, by decide +kernel⟩
def sp__law_read (K : PySem.W.Frag) (cS cW : Addr) : Sp := Z.Sp2 fun a b H Q E => ∃ (L : List Z.En) (x : Addr) (ns : List Int) (l r : Int) (k : Z.Kd), Z.Fx H L ∧ a = .ref x ∧ StockIn cS L x ns l r ∧ Z.Thing L b k ∧ wideV b ∧ (∀ w ∈ rowsV b, w.length ≤ 10000) ∧
  (∀ w, rowsErr b = some w → ∀ v L1 H', L.Sublist L1 → Z.Dt L1 v (.list [.int 0, .str w]) → Z.Fx H' L1 → Q v H') ∧
  (rowsErr b = none → ∀ (i : Nat) w, i < (rowsV b).length → (∀ j < i, TR.rowBad (rowErr ns) numsOf (rowsV b) j = none) → TR.rowBad (rowErr ns) numsOf (rowsV b) i = some w →
    ∀ v L1 H', L.Sublist L1 → Z.Dt L1 v (.list [.int (i : Nat), .str w]) → Z.Fx H' L1 → Q v H') ∧
  (rowsErr b = none → (∀ j < (rowsV b).length, TR.rowBad (rowErr ns) numsOf (rowsV b) j = none) → ∀ y L1 H', L.Sublist L1 → WallIn cW L1 y x ((rowsV b).map numsOf) → Z.Fx H' L1 → Q (.ref y) H')
theorem fn__law_read (T : Txt K mg c_BadCourse c_BadJoints c_BadLength c_BadStock c_BadText c_BadWall c_Stock c_Wall) {f : Addr} {fd : FuncData} (F : Fun K "_law_read" "_law_read" s__law_read f fd) : FnOk P w K mg base CX0 10 f fd ["_law_stock", "_law_text"] (sp__law_read K c_Stock c_Wall) := by
  have O_wall_of := ok_wall_of (P := P) (w := w) (base := base) T
  refine F.ok sc__law_read (fun vs H Q E h => ?_) (fun cdv A outer s H vs Q E hr h => ?_)
  · obtain ⟨a, b, rfl, _⟩ := h; rfl
  · obtain ⟨a, b, rfl, h⟩ := h
    refine ⟨_, (pss_cons (ps_try_as (i := 3) rfl rfl sc__law_read.nd rfl rfl ⟨rfl, by decide, Or.inl T.g_BadText⟩ takes0 (fun W pn xe tk _ => (by exact (pss_one (ps_set (i := 2) sc__law_read.nd rfl (by first | exact Or.inl rfl | exact Or.inr rfl) (Z.pe_callSO O_wall_of (by rfl) (hr.mono (by decide)) (fun σ => passAt tk σ) (pa_cons (pv 0) (pa_cons (pv 1) pa_nil)))))))
        (fun a oe cls d pn hz hf => (by exact (pss_one (ps_ret (pe_lst (pa_cons (pe_xf T.x_BadText.xf T.n_BadText_number hz hf (pv 3)) (pa_cons (pe_xf T.x_BadText.xf T.n_BadText_what hz hf (pv 3)) pa_nil))))))))
      (pss_one (ps_ret (pv 2)))), ?_⟩
    try dsimp only [cxOf, Cx.nox, Cx.wish]
    refine Z.at_start (σ' := [some a, some b, none, none]) rfl ?_
    obtain ⟨L, x, ns, l, r, k, F, rfl, si, ht, hz, h10, kM, kE, kQ⟩ := h
    walk_at "z"
    refine use_wall_of F si ht hz h10 (fun w hw e H1 F1 => ?_) (fun hn i w hi hj hw e L1 H1 s1 F1 => ?_) (fun hn hj y L1 H1 s wi F1 => ?_)
    · refine Z.wAs_yes T.x_BadText.me fun q hq => ?_
      simp only [List.set_cons_zero, List.set_cons_succ]
      walk_at "z"
      refine Z.wXf ?_
      walk_at "z"
      refine ⟨rfl, rfl, e, _, V.int 0, rfl, F1.get List.mem_cons_self, (Z.xd_next (by decide +kernel)).trans Z.xd_hit, ?_⟩
      walk_at "z"
      refine Z.wXf ?_
      walk_at "z"
      refine ⟨rfl, rfl, e, _, V.str w, rfl, F1.get List.mem_cons_self, Z.xd_hit, ?_⟩
      walk_at "z"
      rename_i p2 H2 F2
      exact kM w hw _ _ _ (.cons _ (.cons _ (.refl _))) (.lst List.mem_cons_self (.cons (.int 0) (.cons (.str w) .nil))) F2
    · refine Z.wAs_yes T.x_BadText.me fun q hq => ?_
      simp only [List.set_cons_zero, List.set_cons_succ]
      walk_at "z"
      refine Z.wXf ?_
      walk_at "z"
      refine ⟨rfl, rfl, e, _, V.int (i : Nat), rfl, F1.get List.mem_cons_self, (Z.xd_next (by decide +kernel)).trans Z.xd_hit, ?_⟩
      walk_at "z"
      refine Z.wXf ?_
      walk_at "z"
      refine ⟨rfl, rfl, e, _, V.str w, rfl, F1.get List.mem_cons_self, Z.xd_hit, ?_⟩
      walk_at "z"
      rename_i p2 H2 F2
      exact kE hn i w hi hj hw _ _ _ ((s1.cons _).cons _) (.lst List.mem_cons_self (.cons (.int _) (.cons (.str w) .nil))) F2
    · walk_at "z"
      exact kQ hn hj y L1 _ s wi F1
theorem ok__law_read (T : Txt K mg c_BadCourse c_BadJoints c_BadLength c_BadStock c_BadText c_BadWall c_Stock c_Wall) : Z.Ok CX0 P w K mg base "_law_read" 10 ["_law_stock", "_law_text"] [] (sp__law_read K c_Stock c_Wall) := by
  obtain ⟨f, fd, F, g⟩ := T.d__law_read
  exact Z.mkOk F g (F.binds (ps := ["_law_stock", "_law_text"]) fun _ _ _ _ _ _ us hl => match us, hl with | [_, _], _ => rfl) (fn__law_read T F)
theorem use__law_read {cS cW : Addr} {H : Hp} {Q : VK} {E : XK} {L : List Z.En} {K : PySem.W.Frag} {x : Addr} {b : V} {k : Z.Kd} {ns : List Int} {l r : Int} (F : Z.Fx H L) (si : StockIn cS L x ns l r) (ht : Z.Thing L b k) (hz : wideV b) (h10 : ∀ w ∈ rowsV b, w.length ≤ 10000)
  (kM : ∀ w, rowsErr b = some w → ∀ v L1 H', L.Sublist L1 → Z.Dt L1 v (.list [.int 0, .str w]) → Z.Fx H' L1 → Q v H')
  (kE : rowsErr b = none → ∀ (i : Nat) w, i < (rowsV b).length → (∀ j < i, TR.rowBad (rowErr ns) numsOf (rowsV b) j = none) → TR.rowBad (rowErr ns) numsOf (rowsV b) i = some w →
    ∀ v L1 H', L.Sublist L1 → Z.Dt L1 v (.list [.int (i : Nat), .str w]) → Z.Fx H' L1 → Q v H')
  (kQ : rowsErr b = none → (∀ j < (rowsV b).length, TR.rowBad (rowErr ns) numsOf (rowsV b) j = none) → ∀ y L1 H', L.Sublist L1 → WallIn cW L1 y x ((rowsV b).map numsOf) → Z.Fx H' L1 → Q (.ref y) H') : sp__law_read K cS cW [.ref x, b] H Q E :=
  ⟨_, _, rfl, L, x, ns, l, r, k, F, rfl, si, ht, hz, h10, kM, kE, kQ⟩
theorem sc__law_with : FnScope ["_law_rows", "_law_place", "_law_row_here"] ["_law_rows", "_law_place", "_law_row_here"] (defScope s__law_with) := ⟨rfl, rfl, rfl, by decide +kernel, rfl, by decide +kernel, by decide +kernel⟩
theorem set_cut {α : Type} {rows : List α} {n : Nat} {x : α} (h : n < rows.length) : rows.take n ++ [x] ++ rows.drop (n + 1) = rows.set n x := by
  rw [List.set_eq_take_append_cons_drop, if_pos h]
  simp
def sp__law_with (K : PySem.W.Frag) : Sp := Z.Sp3 fun a b c H Q E => ∃ (L : List Z.En) (p : Addr) (rows : List Str) (n : Nat) (z : Str), Z.Fx H L ∧ a = .ref p ∧ Z.En.ob p (.lst (rows.map V.str)) ∈ L ∧ b = .int (n : Nat) ∧ n < rows.length ∧ rows.length ≤ 100 ∧ c = .str z ∧ z.length ≤ 10000 ∧ (∀ w ∈ rows, w.length ≤ 10000) ∧
  ∀ H', Z.Fx H' L → Q (.str (Txt.join ("\n" : Str) (rows.set n z))) H'
theorem fn__law_with (T : Txt K mg c_BadCourse c_BadJoints c_BadLength c_BadStock c_BadText c_BadWall c_Stock c_Wall) {f : Addr} {fd : FuncData} (F : Fun K "_law_with" "_law_with" s__law_with f fd) : FnOk P w K mg base CX0 1 f fd ["_law_rows", "_law_place", "_law_row_here"] (sp__law_with K) := by
  refine F.ok sc__law_with (fun vs H Q E h => ?_) (fun cdv A outer s H vs Q E hr h => ?_)
  · obtain ⟨a, b, c, rfl, _⟩ := h; rfl
  · obtain ⟨a, b, c, rfl, h⟩ := h
    refine ⟨_, (pss_one (ps_ret (Z.pe_joi pe_str (pe_op Z.zAdd (pe_op Z.zAdd (pe_slice Z.zSl (pv 0) po_none (po_some (pv 1))) (pe_lst (pa_cons (pv 2) pa_nil))) (pe_slice Z.zSl (pv 0) (po_some (pe_op Z.zAdd (pv 1) pe_int)) po_none))))), ?_⟩
    try dsimp only [cxOf, Cx.nox, Cx.wish]
    refine Z.at_start (σ' := [some a, some b, some c]) rfl ?_
    obtain ⟨L, p, rows, n, z, F, rfl, m, rfl, hn, h100, rfl, hz, hr, q⟩ := h
    have lb := Z.line_big
    walk_at "z"
    rename_i p1 H1 F1 p2 H2 F2
    rw [Z.cut_to n, ← List.map_take] at F2
    have e1 : ([V.str z] : List V) = [z].map V.str := rfl
    rw [e1] at F2
    refine Z.wCatL F2 (.tail _ (.head _)) (.head _) (by rw [List.length_map, List.length_take, List.length_map]; simp; omega) fun p3 H3 F3 => ?_
    walk_at "z"
    rename_i p4 H4 F4
    rw [show (some ((n : Int) + 1) : Option Int) = some (((n + 1 : Nat) : Nat) : Int) from rfl, Z.cut_from (n + 1), ← List.map_drop, ← List.map_append] at F4
    refine Z.wCatL F4 (.tail _ (.head _)) (.head _) (by simp; omega) fun p5 H5 F5 => ?_
    rw [← List.map_append, set_cut hn] at F5
    have e2 : ("\n" : Str).length = 1 := by decide
    have hs : ∀ w ∈ rows.set n z, w.length ≤ 10000 := fun w hw => by
      rcases List.mem_or_eq_of_mem_set hw with h | h
      · exact hr w h
      · rw [h]; exact hz
    have hsum := TR.sum_le hs
    rw [List.length_set] at hsum
    walk_at "z"
    refine Z.wJoin (F5.lst List.mem_cons_self) (by rw [List.length_set, e2]; omega) ?_
    exact q _ (F5.sub (by walk_at "zsub"))
theorem ok__law_with (T : Txt K mg c_BadCourse c_BadJoints c_BadLength c_BadStock c_BadText c_BadWall c_Stock c_Wall) : Z.Ok CX0 P w K mg base "_law_with" 1 ["_law_rows", "_law_place", "_law_row_here"] [] (sp__law_with K) := by
  obtain ⟨f, fd, F, g⟩ := T.d__law_with
  exact Z.mkOk F g (F.binds (ps := ["_law_rows", "_law_place", "_law_row_here"]) fun _ _ _ _ _ _ us hl => match us, hl with | [_, _, _], _ => rfl) (fn__law_with T F)
theorem use__law_with {H : Hp} {Q : VK} {E : XK} {L : List Z.En} {K : PySem.W.Frag} {p : Addr} {rows : List Str} {n : Nat} {z : Str} (F : Z.Fx H L) (m : Z.En.ob p (.lst (rows.map V.str)) ∈ L) (hn : n < rows.length) (h100 : rows.length ≤ 100) (hz : z.length ≤ 10000) (hr : ∀ w ∈ rows, w.length ≤ 10000)
  (q : ∀ H', Z.Fx H' L → Q (.str (Txt.join ("\n" : Str) (rows.set n z))) H') : sp__law_with K [.ref p, .int (n : Nat), .str z] H Q E := ⟨_, _, _, rfl, L, p, rows, n, z, F, rfl, m, rfl, hn, h100, rfl, hz, hr, q⟩
theorem sc_course_text : FnScope ["course", "brick"] ["course"] (defScope s_course_text) := ⟨rfl, rfl, rfl, by decide +kernel, rfl, by decide +kernel, by decide +kernel⟩
def sp_course_text (K : PySem.W.Frag) : Sp := Z.Sp1 fun x H Q E => ∃ (L : List Z.En) (bs : List Int), Z.Fx H L ∧ Z.SeqIs L x (some (bs.map V.int)) ∧ bs.length ≤ 1000 ∧ (∀ b ∈ bs, 0 ≤ b ∧ b < 1000) ∧
  ∀ z H', TL.tl z = TL.joinL [32] (TW.rowW bs) → z.length ≤ 4 * bs.length → Z.Fx H' L → Q (.str z) H'
theorem fn_course_text (T : Txt K mg c_BadCourse c_BadJoints c_BadLength c_BadStock c_BadText c_BadWall c_Stock c_Wall) {f : Addr} {fd : FuncData} (F : Fun K "course_text" "course_text" s_course_text f fd) : FnOk P w K mg base CX0 1 f fd ["course"] (sp_course_text K) := by
  refine F.ok sc_course_text (fun vs H Q E h => ?_) (fun cdv A outer s H vs Q E hr h => ?_)
  · obtain ⟨a, rfl, _⟩ := h; rfl
  · obtain ⟨a, rfl, h⟩ := h
    refine ⟨_, (pss_one (ps_ret (Z.pe_joi pe_str (by exact (pe_lc (own := [("brick", 1)]) (g := (gName 1)) (by rfl) sc_course_text.nd (Z.pi_seq (pv 0)) (blkOk_by (own := [("brick", 1)]) (N := ["course", "brick"]) (sc := defScope s_course_text) (by decide +kernel)) (fun _ _ _ _ _ => (by exact (pg_name (i := 1) sc_course_text.nd rfl (by first | exact Or.inl rfl | exact Or.inr rfl)))) (fun _ _ _ _ _ => (by exact pts_nil)) (fun _ _ _ _ _ => (by exact (pe_callTy Z.cr_strI (by rfl) T.b_str (by decide +kernel) (pa_cons (pv 1) pa_nil))))))))), ?_⟩
    try dsimp only [cxOf, Cx.nox, Cx.wish]
    refine Z.at_start (σ' := [some a, none]) rfl ?_
    obtain ⟨L, bs, F, hs, hn, hb, q⟩ := h
    have lb := Z.line_big
    walk_at "y"
    refine Z.wLcS hs F (fun i acc L' => L' = L ∧ ∃ ys : List Str, acc = ys.map V.str ∧ ys.map TL.tl = TW.rowW (bs.take i) ∧ (ys.map (·.length)).sum ≤ 3 * i) ⟨rfl, [], rfl, rfl, Nat.le_refl _⟩ (fun _ _ _ r => by rw [r.1]; exact fun _ h => h) ?_ ?_
    · rintro i x D H1 acc L' hx ⟨rfl, ys, rfl, hy, hl⟩ F1
      obtain ⟨b, hb', rfl⟩ : ∃ b, bs[i]? = some b ∧ V.int b = x := by
        rw [List.getElem?_map] at hx
        cases hh : bs[i]? with
        | none => rw [hh] at hx; cases hx
        | some w => rw [hh] at hx; exact ⟨w, rfl, by injection hx⟩
      have hb2 := hb b (List.mem_of_getElem? hb')
      walk_at "zw"
      walk_at "z"
      refine ⟨rfl, ?_⟩
      walk_at "z"
      refine Z.wStrI (TW.log_small (by omega)) ?_
      have hi : i < bs.length := (List.getElem?_eq_some_iff.mp hb').1
      have hyl : ys.length = i := by
        have := congrArg List.length hy
        rw [List.length_map] at this
        unfold TW.rowW at this
        rw [List.length_map, List.length_take] at this
        omega
      refine Z.lcPut F1 (by rw [List.length_map]; omega) ⟨rfl, ys ++ [Str.ofString (toString b)], by rw [List.map_append]; rfl, ?_, ?_⟩
      · rw [List.map_append, hy, List.take_add_one, hb']
        unfold TW.rowW
        rw [List.map_append]
        show _ ++ [TL.tl (Str.ofString (toString b))] = _ ++ [TL.numL b.natAbs]
        rw [TX.tl_int, TX.numI_pos hb2.1]
      · rw [List.map_append, List.sum_append]
        have := TW.len_str hb2.1 hb2.2
        show _ + ((Str.ofString (toString b)).length + 0) ≤ _
        omega
    rintro D acc L' H2 F2 ⟨rfl, ys, rfl, hy, hl⟩
    rw [List.length_map] at hl hy
    rw [List.take_length] at hy
    have hyl : ys.length = bs.length := by
      have := congrArg List.length hy
      rw [List.length_map] at this
      unfold TW.rowW at this
      rw [List.length_map] at this
      omega
    have l1 : (" " : Str).length = 1 := by decide
    have hz := Z.len_join (" " : Str) ys
    refine Z.wJoin (F2.lst List.mem_cons_self) (by rw [l1]; omega) ?_
    refine q _ _ ?_ ?_ (F2.sub (by walk_at "zsub"))
    · rw [TL.join_eq, TL.tl_join, hy]
      rfl
    · rw [l1] at hz
      omega
theorem ok_course_text (T : Txt K mg c_BadCourse c_BadJoints c_BadLength c_BadStock c_BadText c_BadWall c_Stock c_Wall) : Z.Ok CX0 P w K mg base "course_text" 1 ["course"] [] (sp_course_text K) := by
  obtain ⟨f, fd, F, g⟩ := T.d_course_text
  exact Z.mkOk F g (F.binds (ps := ["course"]) fun _ _ _ _ _ _ us hl => match us, hl with | [_], _ => rfl) (fn_course_text T F)
theorem use_course_text {H : Hp} {Q : VK} {E : XK} {L : List Z.En} {x : V} {bs : List Int} (F : Z.Fx H L) (hs : Z.SeqIs L x (some (bs.map V.int))) (hn : bs.length ≤ 1000) (hb : ∀ b ∈ bs, 0 ≤ b ∧ b < 1000)
  (q : ∀ z H', TL.tl z = TL.joinL [32] (TW.rowW bs) → z.length ≤ 4 * bs.length → Z.Fx H' L → Q (.str z) H') : sp_course_text K [x] H Q E := ⟨_, rfl, L, bs, F, hs, hn, hb, q⟩
theorem sc_wall_text : FnScope ["wall", "course"] ["wall"] (defScope s_wall_text) := ⟨rfl, rfl, rfl, by decide +kernel, rfl, by decide +kernel, by decide +kernel⟩
def sp_wall_text (K : PySem.W.Frag) (cW : Addr) : Sp := Z.Sp1 fun a H Q E => ∃ (L : List Z.En) (y x : Addr) (rows : List (List Int)), Z.Fx H L ∧ a = .ref y ∧ WallIn cW L y x rows ∧ rows.length ≤ 60 ∧ (∀ cs ∈ rows, cs.length ≤ 400 ∧ ∀ c ∈ cs, 0 ≤ c ∧ c < 1000) ∧
  ∀ z H', TL.tl z = TL.joinL [10] (rows.map TW.rowJ) → Z.Fx H' L → Q (.str z) H'
theorem fn_wall_text (T : Txt K mg c_BadCourse c_BadJoints c_BadLength c_BadStock c_BadText c_BadWall c_Stock c_Wall) {f : Addr} {fd : FuncData} (F : Fun K "wall_text" "wall_text" s_wall_text f fd) : FnOk P w K mg base CX0 2 f fd ["wall"] (sp_wall_text K c_Wall) := by
  have O_course_text := ok_course_text (P := P) (w := w) (base := base) T
  refine F.ok sc_wall_text (fun vs H Q E h => ?_) (fun cdv A outer s H vs Q E hr h => ?_)
  · obtain ⟨a, rfl, _⟩ := h; rfl
  · obtain ⟨a, rfl, h⟩ := h
    refine ⟨_, (pss_one (ps_ret (Z.pe_joi pe_str (by exact (pe_lc (own := [("course", 1)]) (g := (gName 1)) (by rfl) sc_wall_text.nd (Z.pi_seq (pe_fld (pv 0) rfl)) (blkOk_by (own := [("course", 1)]) (N := ["wall", "course"]) (sc := defScope s_wall_text) (by decide +kernel)) (fun _ _ _ _ _ => (by exact (pg_name (i := 1) sc_wall_text.nd rfl (by first | exact Or.inl rfl | exact Or.inr rfl)))) (fun _ _ _ _ _ => (by exact pts_nil)) (fun _ _ _ _ _ => (by exact (Z.pe_callO O_course_text (by rfl) (hr.mono (by decide)) pass0 (pa_cons (pv 1) pa_nil))))))))), ?_⟩
    try dsimp only [cxOf, Cx.nox, Cx.wish]
    refine Z.at_start (σ' := [some a, none]) rfl ?_
    obtain ⟨L, y, x, rows, F, rfl, ⟨dx, p, m1, ws, m2, al⟩, h60, hr, q⟩ := h
    have hcl := T.i_Wall.cl
    have lb := Z.line_big
    have hwl := al.len
    walk_at "z"
    refine Z.wFldAt F m1 hcl T.n_Wall_courses (wall_courses _ _ _) ?_
    walk_at "y"
    refine Z.wLcT m2 F (fun i acc L' => L' = L ∧ ∃ ys : List Str, acc = ys.map V.str ∧ ys.map TL.tl = (rows.take i).map TW.rowJ ∧ ∀ y ∈ ys, y.length ≤ 1600) ⟨rfl, [], rfl, rfl, by simp⟩ (fun _ _ _ r => by rw [r.1]; exact m2) ?_ ?_
    · rintro i v D H1 acc L' hx ⟨rfl, ys, rfl, hy, hl⟩ F1
      obtain ⟨cs, hcs, ⟨q1, rfl, mq⟩⟩ := al.getL hx
      obtain ⟨b1, b2⟩ := hr cs (List.mem_of_getElem? hcs)
      walk_at "zw"
      walk_at "z"
      refine ⟨rfl, ?_⟩
      walk_at "z"
      refine use_course_text (K := K) F1 (.tup (.tail _ mq)) (by omega) b2 fun z2 H2 ez lz F2 => ?_
      have hyl : ys.length = min i rows.length := by
        have := congrArg List.length hy
        rw [List.length_map, List.length_map, List.length_take] at this
        exact this
      refine Z.lcPut F2 (by rw [List.length_map]; omega) ⟨rfl, ys ++ [z2], by rw [List.map_append]; rfl, ?_, fun y hy2 => ?_⟩
      · rw [List.map_append, hy, List.take_add_one, hcs, List.map_append]
        show _ ++ [TL.tl z2] = _ ++ [TW.rowJ cs]
        rw [ez]
        rfl
      · rcases List.mem_append.mp hy2 with h | h
        · exact hl y h
        · cases List.mem_singleton.mp h
          omega
    rintro D acc L' H2 F2 ⟨rfl, ys, rfl, hy, hl⟩
    rw [hwl, List.take_length] at hy
    have hyl : ys.length = rows.length := by
      have := congrArg List.length hy
      rw [List.length_map, List.length_map] at this
      exact this
    have e1 : ("\n" : Str).length = 1 := by decide
    have hsum : (ys.map (·.length)).sum ≤ ys.length * 1600 := TR.sum_le hl
    refine Z.wJoin (F2.lst List.mem_cons_self) (by rw [e1]; omega) ?_
    refine q _ _ ?_ (F2.sub (List.sublist_cons_self _ _))
    rw [TL.join_eq, TL.tl_join, hy]
    rfl
theorem ok_wall_text (T : Txt K mg c_BadCourse c_BadJoints c_BadLength c_BadStock c_BadText c_BadWall c_Stock c_Wall) : Z.Ok CX0 P w K mg base "wall_text" 2 ["wall"] [] (sp_wall_text K c_Wall) := by
  obtain ⟨f, fd, F, g⟩ := T.d_wall_text
  exact Z.mkOk F g (F.binds (ps := ["wall"]) fun _ _ _ _ _ _ us hl => match us, hl with | [_], _ => rfl) (fn_wall_text T F)
theorem use_wall_text {cW : Addr} {H : Hp} {Q : VK} {E : XK} {L : List Z.En} {K : PySem.W.Frag} {y x : Addr} {rows : List (List Int)} (F : Z.Fx H L) (wi : WallIn cW L y x rows) (h60 : rows.length ≤ 60) (hr : ∀ cs ∈ rows, cs.length ≤ 400 ∧ ∀ c ∈ cs, 0 ≤ c ∧ c < 1000)
  (q : ∀ z H', TL.tl z = TL.joinL [10] (rows.map TW.rowJ) → Z.Fx H' L → Q (.str z) H') : sp_wall_text K cW [.ref y] H Q E := ⟨_, rfl, L, y, x, rows, F, rfl, wi, h60, hr, q⟩
theorem sc_Wall___eq__ : FnScope ["self", "other"] ["self", "other"] (defScope s_Wall___eq__) := ⟨rfl, rfl, rfl, by decide +kernel, rfl, by decide +kernel, by decide +kernel⟩
/-- all that is in it is data -/
theorem rows_data {L : List Z.En} {ws : List V} {rows : List (List Int)} (h : Z.Al2 (TupOf L) ws rows) : Z.DtA L ws (rows.map fun cs => .tuple (Z.iD cs)) := by
  obtain ⟨hl, hg⟩ := h
  induction ws generalizing rows with
  | nil =>
    cases rows with
    | nil => exact .nil
    | cons r rs => simp at hl
  | cons w ws ih =>
    cases rows with
    | nil => simp at hl
    | cons r rs =>
      obtain ⟨a, e, m⟩ := hg 0 w r rfl rfl
      subst e
      refine .cons (Z.Dt.tupI m) (ih (by simpa using hl) fun i x y e e' => hg (i + 1) x y e e')
theorem rows_sh (rows : List (List Int)) : Z.ShA (rows.map fun cs => PyData.tuple (Z.iD cs)) 1 := Z.ShA.map fun _ _ => Z.Sh.tup (Z.ShA.ints _)
theorem rows_eqv' : ∀ (a b : List (List Int)), PyData.eqvAll (a.map fun cs => .tuple (Z.iD cs)) (b.map fun cs => .tuple (Z.iD cs)) = decide (a = b)
  | [], [] => rfl
  | [], _ :: _ => rfl
  | _ :: _, [] => rfl
  | x :: a, y :: b => by
    show (PyData.eqvAll (Z.iD x) (Z.iD y) && PyData.eqvAll (a.map fun cs => .tuple (Z.iD cs)) (b.map fun cs => .tuple (Z.iD cs))) = _
    rw [rows_eqv' a b, Z.eqvAll_ints]
    by_cases h : x = y
    · subst h; simp
    · simp [h]
theorem rows_eqv (a b : List (List Int)) : PyData.eqv (.tuple (a.map fun cs => .tuple (Z.iD cs))) (.tuple (b.map fun cs => .tuple (Z.iD cs))) = decide (a = b) := rows_eqv' a b
def sp_Wall___eq__ (K : PySem.W.Frag) (cS cW : Addr) : Sp := Z.Sp2 fun a b H Q E => ∃ (L : List Z.En) (y x : Addr) (rows : List (List Int)) (ns : List Int) (l r : Int), a = .ref y ∧ Z.Fx H L ∧ WallIn cW L y x rows ∧ StockIn cS L x ns l r ∧
  ((∃ y' x' rows' ns' l' r', b = .ref y' ∧ WallIn cW L y' x' rows' ∧ StockIn cS L x' ns' l' r' ∧ Q (.bl ((decide (ns = ns') && (decide (l = l') && decide (r = r'))) && decide (rows = rows'))) H) ∨
    ∃ z C dz fs, b = .ref z ∧ Z.En.ob z (.ins C dz fs) ∈ L ∧ Z.InsF K C ∧ PySem.W.kitOne K (.ref C) (.ref cW) = some false ∧ Q (.bl false) H)
theorem fn_Wall___eq__ (T : Txt K mg c_BadCourse c_BadJoints c_BadLength c_BadStock c_BadText c_BadWall c_Stock c_Wall) {f : Addr} {fd : FuncData} (F : Fun K "__eq__" "Wall.__eq__" s_Wall___eq__ f fd) : FnOk P w K mg base CX0 3 f fd ["self", "other"] (sp_Wall___eq__ K c_Stock c_Wall) := by
  have O_Stock___eq__ := ok_Stock___eq__ (P := P) (w := w) (base := base) T
  refine F.ok sc_Wall___eq__ (fun vs H Q E h => ?_) (fun cdv A outer s H vs Q E hr h => ?_)
  · obtain ⟨a, b, rfl, _⟩ := h; rfl
  · obtain ⟨a, b, rfl, h⟩ := h
    refine ⟨_, (pss_one (ps_ret (pe_andT (pe_callB Z.zIsi (by rfl) T.b_isinstance (by decide +kernel) (pa_cons (pv 1) (pa_cons (pe_glob (v := V.ref c_Wall) (by rfl) T.g_Wall (show RelV (V.ref _) _ from rfl)) pa_nil))) (pe_andT (pe_cmpR (Z.op_eqOwnO O_Stock___eq__ (hr.mono (by decide))) (pe_fld (pv 0) rfl) (pe_fld (pv 1) rfl) (nomark _)) (pe_one (pe_cmpR (Z.zEq (Z.hu0 hr)) (pe_fld (pv 0) rfl) (pe_fld (pv 1) rfl) (nomark _))))))), ?_⟩
    try dsimp only [cxOf, Cx.nox, Cx.wish]
    refine Z.at_start (σ' := [some a, some b]) rfl ?_
    obtain ⟨L, y, x, rows, ns, l, r, rfl, F, ⟨dx, p, m, ws, mw, al⟩, si, h⟩ := h
    have hcl := T.i_Wall.cl
    rcases h with ⟨y', x', rows', ns', l', r', rfl, ⟨dx', p', m', ws', mw', al'⟩, si', q⟩ | ⟨z, C, dz, fs, rfl, mz, hC, hk, q⟩
    · walk_at "z"
      refine Z.wIsiOwn T.i_Wall (F.get m') ?_
      walk_at "z"
      refine Z.wFldAt F m hcl T.n_Wall_stock (wall_stock _ _ _) ?_
      walk_at "z"
      refine Z.wFldAt F m' hcl T.n_Wall_stock (wall_stock _ _ _) ?_
      obtain ⟨dxs, ps, ms, _⟩ := id si
      obtain ⟨dxs', ps', ms', _⟩ := id si'
      refine ⟨x, _, _, _, rfl, F.get ms, T.i_Stock.ty (F.get ms'), T.i_Stock.nf, _, _, rfl, L, x, ns, l, r, rfl, F, si, .inl ⟨x', ns', l', r', rfl, si', ?_⟩⟩
      refine ⟨_, rfl, ?_⟩
      dsimp only [id]
      walk_at "z"
      refine Z.wIf (fun hb => ?_) (fun hb => ?_)
      · rw [hb, Bool.true_and] at q
        walk_at "z"
        refine Z.wFldAt F m hcl T.n_Wall_courses (wall_courses _ _ _) ?_
        walk_at "z"
        refine Z.wFldAt F m' hcl T.n_Wall_courses (wall_courses _ _ _) ?_
        refine Z.wEqD F (.tup mw (rows_data al)) (.tup mw' (rows_data al')) (Z.Sh.tup (rows_sh _)).ok (Z.Sh.tup (rows_sh _)).ok ?_
        rw [rows_eqv]
        exact q
      · rw [hb, Bool.false_and] at q
        rw [hb]
        walk_at "z"
        exact q
    · walk_at "z"
      refine .inl ⟨_, _, _, _, _, rfl, .own _, hC.ty (F.get mz), hk, ?_⟩
      walk_at "z"
      exact q
theorem ok_Wall___eq__ (T : Txt K mg c_BadCourse c_BadJoints c_BadLength c_BadStock c_BadText c_BadWall c_Stock c_Wall) : Z.EqO P w K mg base c_Wall 3 ["self", "other"] (sp_Wall___eq__ K c_Stock c_Wall) := by
  obtain ⟨f, fd, F, i⟩ := T.d_Wall___eq__
  exact ⟨f, fd, i, (F.binds (ps := ["self", "other"]) fun _ _ _ _ _ _ us hl => match us, hl with | [_, _], _ => rfl), fn_Wall___eq__ T F⟩
theorem sc_Wall___len__ : FnScope ["self"] ["self"] (defScope s_Wall___len__) := ⟨rfl, rfl, rfl, by decide +kernel, rfl, by decide +kernel, by decide +kernel⟩
def sp_Wall___len__ (cW : Addr) : Sp := Z.Sp1 fun a H Q E => ∃ (L : List Z.En) (y x : Addr) (rows : List (List Int)), a = .ref y ∧ Z.Fx H L ∧ WallIn cW L y x rows ∧ Q (.int rows.length) H
theorem fn_Wall___len__ (T : Txt K mg c_BadCourse c_BadJoints c_BadLength c_BadStock c_BadText c_BadWall c_Stock c_Wall) {f : Addr} {fd : FuncData} (F : Fun K "__len__" "Wall.__len__" s_Wall___len__ f fd) : FnOk P w K mg base CX0 1 f fd ["self"] (sp_Wall___len__ c_Wall) := by
  refine F.ok sc_Wall___len__ (fun vs H Q E h => ?_) (fun cdv A outer s H vs Q E hr h => ?_)
  · obtain ⟨a, rfl, _⟩ := h; rfl
  · obtain ⟨a, rfl, h⟩ := h
    refine ⟨_, (pss_one (ps_ret (pe_callB Z.zLen (by rfl) T.b_len (by decide +kernel) (pa_cons (pe_fld (pv 0) rfl) pa_nil)))), ?_⟩
    try dsimp only [cxOf, Cx.nox, Cx.wish]
    refine Z.at_start (σ' := [some a]) rfl ?_
    obtain ⟨L, y, x, rows, rfl, F, ⟨dx, p, m, ws, mw, al⟩, q⟩ := h
    have hcl := T.i_Wall.cl
    walk_at "z"
    refine Z.wFldAt F m hcl T.n_Wall_courses (wall_courses _ _ _) ?_
    rw [← al.len] at q
    walk_at "z"
    exact q
theorem ok_Wall___len__ (T : Txt K mg c_BadCourse c_BadJoints c_BadLength c_BadStock c_BadText c_BadWall c_Stock c_Wall) : Z.LenO P w K mg base c_Wall 1 ["self"] (sp_Wall___len__ c_Wall) := by
  obtain ⟨f, fd, F, i⟩ := T.d_Wall___len__
  exact ⟨f, fd, i, (F.binds (ps := ["self"]) fun _ _ _ _ _ _ us hl => match us, hl with | [_], _ => rfl), fn_Wall___len__ T F⟩
theorem sc__law_texts : FnScope ["_law_hand_here", "_law_stock", "_law_courses", "_law_stranger", "_law_rows", "_law_text", "_law_shut", "_law_place", "_law_bad", "_law_word", "_law_two", "_law_longer", "_law_told", "_law_course", "_law_brick"] ["_law_hand_here", "_law_stock", "_law_courses", "_law_stranger"] (defScope s__law_texts) := ⟨rfl, rfl, rfl, by decide +kernel, rfl, by decide +kernel, by decide +kernel⟩
theorem cW_good {ns cs : List Int} (h : ∀ c ∈ cs, c ∈ ns) (h1 : 1 ≤ cs.length) (h4 : cs.length ≤ 400) (hs : cs.sum ≤ 400) : courseW ns (some (cs.map V.int)) = none := by
  have e1 : Z.inLen 1 400 (some (cs.map V.int)) = true := by simp only [Z.inLen, Bool.and_eq_true, decide_eq_true_eq, List.length_map]; omega
  have e2 : (cs.map V.int).all (brickOk ns) = true := by
    rw [List.all_eq_true]
    intro y hy
    obtain ⟨c, hc, rfl⟩ := List.mem_map.mp hy
    exact decide_eq_true (h c hc)
  show (if _ then _ else _) = _
  rw [if_neg (by rw [e1]; decide), if_neg (by rw [e2]; decide), intV_map, if_neg (by omega)]
theorem cW_bad {ns cs : List Int} (h : (∃ c ∈ cs, c ∉ ns) ∨ 400 < cs.length) : (courseW ns (some (cs.map V.int))).isSome = true := by
  cases hw : courseW ns (some (cs.map V.int)) with
  | some w => rfl
  | none =>
    exfalso
    have hw : (if Z.inLen 1 400 (some (cs.map V.int)) = false then some ((0 : Int), ("many" : Str)) else if (cs.map V.int).all (brickOk ns) = false then some ((((cs.map V.int).findIdx fun y => !brickOk ns y : Nat) : Int), ("brick" : Str)) else if 400 < ((cs.map V.int).map intV).sum then some (0, ("long" : Str)) else none) = none := hw
    by_cases h1 : Z.inLen 1 400 (some (cs.map V.int)) = false
    · rw [if_pos h1] at hw; cases hw
    by_cases h2 : (cs.map V.int).all (brickOk ns) = false
    · rw [if_neg h1, if_pos h2] at hw; cases hw
    have h2 : (cs.map V.int).all (brickOk ns) = true := by simpa using h2
    have h1 : Z.inLen 1 400 (some (cs.map V.int)) = true := by simpa using h1
    rcases h with ⟨c, hc, hn⟩ | h
    · have := List.all_eq_true.mp h2 (.int c) (List.mem_map_of_mem hc)
      exact hn (of_decide_eq_true this)
    · simp only [Z.inLen, Bool.and_eq_true, decide_eq_true_eq, List.length_map] at h1
      omega
theorem row_shape {ns : List Int} {z : Str} (h : TW.numsOk (TW.wds (TL.tl z)) = false) : rowErr ns z = some ("shape" : Str) := by
  unfold rowErr
  rw [if_pos h]
theorem row_course {ns cs : List Int} {z : Str} (hz : TL.tl z = TW.rowJ cs) (hn : cs ≠ []) (h : ∀ c ∈ cs, 1 ≤ c ∧ c < 1000) (hb : (∃ c ∈ cs, c ∉ ns) ∨ 400 < cs.length) : rowErr ns z = some ("course" : Str) := by
  obtain ⟨h1, h2⟩ := TW.nums_row hn h
  unfold rowErr numsOf
  rw [hz, h1, h2, if_neg (by decide), if_pos (cW_bad hb)]
theorem row_good {ns cs : List Int} {z : Str} (hz : TL.tl z = TW.rowJ cs) (hn : cs ≠ []) (h : ∀ c ∈ cs, 1 ≤ c ∧ c < 1000) (hc : courseW ns (some (cs.map V.int)) = none) : rowErr ns z = none ∧ numsOf z = cs := by
  obtain ⟨h1, h2⟩ := TW.nums_row hn h
  unfold rowErr numsOf
  rw [hz, h1, h2, if_neg (by decide), hc]
  exact ⟨rfl, rfl⟩
/-- rows that may stand in a text -/
def Fine (W : List Str) : Prop := W ≠ [] ∧ W.length ≤ 70 ∧ ∀ w ∈ W, 10 ∉ TL.tl w ∧ w.length ≤ 1000 ∧ PyData.strOk w = true
theorem Fine.rows {W : List Str} (h : Fine W) : rowsV (.str (Txt.join ("\n" : Str) W)) = W := TR.rowsT_join h.1 fun w hw => (h.2.2 w hw).1
theorem Fine.err {W : List Str} (h : Fine W) (h60 : W.length ≤ 60) : rowsErr (.str (Txt.join ("\n" : Str) W)) = none := by
  show (if 60 < (TR.rowsT (Txt.join ("\n" : Str) W)).length then some ("many" : Str) else none) = none
  rw [TR.rowsT_join h.1 fun w hw => (h.2.2 w hw).1]
  exact if_neg (by omega)
theorem Fine.many {W : List Str} (h : Fine W) (h60 : 60 < W.length) : rowsErr (.str (Txt.join ("\n" : Str) W)) = some ("many" : Str) := by
  show (if 60 < (TR.rowsT (Txt.join ("\n" : Str) W)).length then some ("many" : Str) else none) = some ("many" : Str)
  rw [TR.rowsT_join h.1 fun w hw => (h.2.2 w hw).1]
  exact if_pos h60
theorem Fine.wide {W : List Str} (h : Fine W) : wideV (.str (Txt.join ("\n" : Str) W)) := by
  refine ⟨?_, TR.ok_join fun w hw => (h.2.2 w hw).2.2⟩
  have := TR.join_len W (k := 1000) fun w hw => (h.2.2 w hw).2.1
  have h2 : W.length * (1000 + 1) ≤ 70 * 1001 := Nat.mul_le_mul_right _ h.2.1
  omega
theorem Fine.short {W : List Str} (h : Fine W) : ∀ w ∈ rowsV (.str (Txt.join ("\n" : Str) W)), w.length ≤ 10000 := by
  rw [h.rows]
  intro w hw
  have := (h.2.2 w hw).2.1
  omega
theorem Fine.set {W : List Str} {n : Nat} {z : Str} (h : Fine W) (hz : 10 ∉ TL.tl z) (hl : z.length ≤ 1000) (ok : PyData.strOk z = true) : Fine (W.set n z) := by
  refine ⟨fun e => h.1 (by simpa using congrArg List.length e), by rw [List.length_set]; exact h.2.1, fun w hw => ?_⟩
  rcases List.mem_or_eq_of_mem_set hw with h1 | h1
  · exact h.2.2 w h1
  · rw [h1]; exact ⟨hz, hl, ok⟩
section
variable {cS cW : Addr} {K : PySem.W.Frag} {H : Hp} {Q : VK} {E : XK} {L : List Z.En} {x : Addr} {ns : List Int} {l r : Int} {W : List Str}
theorem read_bad (F : Z.Fx H L) (si : StockIn cS L x ns l r) (hf : Fine W) (h60 : W.length ≤ 60) {i : Nat} {w : Str} (hi : i < W.length) (hj : ∀ j < i, TR.rowBad (rowErr ns) numsOf W j = none) (hw : TR.rowBad (rowErr ns) numsOf W i = some w)
    (k : ∀ v L1 H', L.Sublist L1 → Z.Dt L1 v (.list [.int (i : Nat), .str w]) → Z.Fx H' L1 → Q v H') : sp__law_read K cS cW [.ref x, .str (Txt.join ("\n" : Str) W)] H Q E := by
  have er := hf.rows
  refine use__law_read F si (.str _) hf.wide hf.short (fun w2 h2 => ?_) (fun _ i2 w2 hi2 hj2 hw2 => ?_) (fun _ hj2 => ?_)
  · rw [hf.err h60] at h2; cases h2
  · rw [er] at hi2 hj2 hw2
    rcases Nat.lt_trichotomy i i2 with h | h | h
    · rw [hj2 i h] at hw; cases hw
    · subst h
      rw [hw] at hw2
      cases hw2
      exact k
    · rw [hj i2 h] at hw2; cases hw2
  · rw [er] at hj2
    rw [hj2 i hi] at hw
    cases hw
theorem read_many (F : Z.Fx H L) (si : StockIn cS L x ns l r) (hf : Fine W) (h60 : 60 < W.length) (k : ∀ v L1 H', L.Sublist L1 → Z.Dt L1 v (.list [.int 0, .str ("many" : Str)]) → Z.Fx H' L1 → Q v H') : sp__law_read K cS cW [.ref x, .str (Txt.join ("\n" : Str) W)] H Q E := by
  have e := hf.many h60
  refine use__law_read F si (.str _) hf.wide hf.short (fun w2 h2 => ?_) (fun hn => ?_) (fun hn => ?_)
  · rw [e] at h2; cases h2; exact k
  · rw [e] at hn; cases hn
  · rw [e] at hn; cases hn
theorem read_good (F : Z.Fx H L) (si : StockIn cS L x ns l r) (hf : Fine W) (h60 : W.length ≤ 60) (hj : ∀ j < W.length, TR.rowBad (rowErr ns) numsOf W j = none)
    (k : ∀ y L1 H', L.Sublist L1 → WallIn cW L1 y x (W.map numsOf) → Z.Fx H' L1 → Q (.ref y) H') : sp__law_read K cS cW [.ref x, .str (Txt.join ("\n" : Str) W)] H Q E := by
  have er := hf.rows
  refine use__law_read F si (.str _) hf.wide hf.short (fun w2 h2 => ?_) (fun _ i2 w2 hi2 hj2 hw2 => ?_) (fun _ hj2 y L1 H' s wi F' => ?_)
  · rw [hf.err h60] at h2; cases h2
  · rw [er] at hi2 hw2
    rw [hj i2 hi2] at hw2
    cases hw2
  · rw [er] at wi
    exact k y L1 H' s wi F'
end
/-- the rows of good courses -/
structure RowsOf (ns : List Int) (crs : List (List Int)) (rs : List Str) : Prop where
  len : rs.length = crs.length
  err : ∀ j, j < crs.length → rowErr ns (rs.getD j "") = none
  nums : ∀ j, j < crs.length → numsOf (rs.getD j "") = crs.getD j []
theorem getD_set_ne {α : Type} {l : List α} {i j : Nat} {x d : α} (h : i ≠ j) : (l.set i x).getD j d = l.getD j d := by
  rw [List.getD_eq_getElem?_getD, List.getD_eq_getElem?_getD, List.getElem?_set_ne h]
theorem getD_set_eq {α : Type} {l : List α} {i : Nat} {x d : α} (h : i < l.length) : (l.set i x).getD i d = x := by
  rw [List.getD_eq_getElem?_getD, List.getElem?_set_self h]
  rfl
/-- a text that goes along with good rows up to a row that is wrong by itself -/
theorem bad_at {ns : List Int} {crs : List (List Int)} {rs W : List Str} {n : Nat} {w : Str} (R : RowsOf ns crs rs) (hS : ∀ cs ∈ crs, cs.sum = (crs.getD 0 []).sum) (hn : n ≤ crs.length) (hg : ∀ j < n, W.getD j "" = rs.getD j "") (hb : rowErr ns (W.getD n "") = some w) :
    (∀ j < n, TR.rowBad (rowErr ns) numsOf W j = none) ∧ TR.rowBad (rowErr ns) numsOf W n = some w := by
  refine ⟨fun j hj => ?_, TR.rowBad_f hb⟩
  have hj2 : j < crs.length := by omega
  have e1 := hg j hj
  have e0 := hg 0 (by omega)
  rw [TR.rowBad_no (by rw [e1]; exact R.err j hj2), e1, e0, R.nums j hj2, R.nums 0 (by omega)]
  refine if_pos (hS _ ?_)
  rw [List.getD_eq_getElem?_getD, List.getElem?_eq_getElem hj2]
  exact List.getElem_mem hj2
theorem all_good {ns : List Int} {crs : List (List Int)} {rs : List Str} (R : RowsOf ns crs rs) (hS : ∀ cs ∈ crs, cs.sum = (crs.getD 0 []).sum) : ∀ j < rs.length, TR.rowBad (rowErr ns) numsOf rs j = none := by
  intro j hj
  have hj2 : j < crs.length := by rw [← R.len]; exact hj
  rw [TR.rowBad_no (R.err j hj2), R.nums j hj2, R.nums 0 (by omega)]
  refine if_pos (hS _ ?_)
  rw [List.getD_eq_getElem?_getD, List.getElem?_eq_getElem hj2]
  exact List.getElem_mem hj2
theorem RowsOf.map {ns : List Int} {crs : List (List Int)} {rs : List Str} (R : RowsOf ns crs rs) : rs.map numsOf = crs := by
  refine List.ext_getElem (by rw [List.length_map]; exact R.len) fun i h1 h2 => ?_
  rw [List.length_map] at h1
  have e := R.nums i h2
  rw [List.getD_eq_getElem?_getD, List.getD_eq_getElem?_getD, List.getElem?_eq_getElem h1, List.getElem?_eq_getElem h2] at e
  rw [List.getElem_map]
  exact e
theorem turn6 {K : PySem.W.Frag} {cS cW : Addr} {H : Hp} {L : List Z.En} {x rp : Addr} {ns : List Int} {l r : Int} {crs : List (List Int)} {rs : List Str} {n : Nat} {z w : Str} {σ : L2.St} {nx bk ct : L2.St → Hp → Prop} {rt : VK} (F : Z.Fx H L) (si : StockIn cS L x ns l r)
    (mr : Z.En.ob rp (.lst (rs.map V.str)) ∈ L) (R : RowsOf ns crs rs) (hS : ∀ cs ∈ crs, cs.sum = (crs.getD 0 []).sum) (fine : Fine rs) (h60 : rs.length ≤ 60) (hn : n < crs.length) (hz : 10 ∉ TL.tl z) (hl : z.length ≤ 1000) (ok : PyData.strOk z = true) (hb : rowErr ns z = some w) (okw : PyData.strOk w = true)
    (e1 : σ[1]? = some (some (.ref x))) (e4 : σ[4]? = some (some (.ref rp))) (e7 : σ[7]? = some (some (.int (n : Nat)))) (e8 : σ[8]? = some (some (.str z))) (e9 : σ[9]? = some (some (.str w))) (k : ∀ H', Z.Fx H' L → nx σ H') :
    tIfS (tTest (tOp (Z.rOr rNe (rNeD K)) (tCall (sp__law_read K cS cW) [] E0 (tCons (tVar 1) (tCons (tCall (sp__law_with K) [] E0 (tCons (tVar 4) (tCons (tVar 7) (tCons (tVar 8) tNil)))) tNil))) (tLst (tCons (tVar 7) (tCons (tVar 9) tNil))))) (tRet (tC (V.bl false))) tNext ⟨nx, rt, bk, ct⟩ σ H := by
  have hrl := R.len
  walk_at "z"
  refine Z.wV e1 ?_
  walk_at "z"
  refine Z.wV e4 ?_
  walk_at "z"
  refine Z.wV e7 ?_
  walk_at "z"
  refine Z.wV e8 ?_
  walk_at "z"
  refine use__law_with F mr (by omega) (by omega) (by omega) (fun w hw => by have := (fine.2.2 w hw).2.1; omega) fun H2 F2 => ?_
  walk_at "z"
  obtain ⟨b1, b2⟩ := bad_at (W := rs.set n z) (n := n) (w := w) R hS (by omega) (fun j hj => getD_set_ne (by omega)) (by rw [getD_set_eq (by omega)]; exact hb)
  refine read_bad F2 si (fine.set hz hl ok) (by rw [List.length_set]; exact h60) (by rw [List.length_set]; omega) b1 b2 fun v L5 H5 s5 dv F5 => ?_
  walk_at "z"
  refine Z.wV e7 ?_
  walk_at "z"
  refine Z.wV e9 ?_
  walk_at "z"
  rename_i t6 H6 F6
  refine Z.wNeSame F6 (dv.mono fun _ h => .tail _ h) (.lst List.mem_cons_self (.cons (.int _) (.cons (.str w) .nil))) (Z.Sh.lst (Z.ShA.cons (Z.Sh.int _) (Z.ShA.cons (show Z.Sh (.str w) 0 from ⟨okw, Nat.le_refl _⟩) Z.ShA.nil))).ok ?_
  walk_at "z"
  exact k _ (F6.sub (s5.cons _))
theorem rowJ_free {cs : List Int} {c : Nat} (h : c ∈ TW.rowJ cs) : c = 32 ∨ (48 ≤ c ∧ c ≤ 57) := by
  rcases TW.joinL_mem h with h | ⟨p, hp, h⟩
  · exact .inl (List.mem_singleton.mp h)
  · obtain ⟨b, _, rfl⟩ := List.mem_map.mp hp
    have := TL.numL_digits _ c h
    exact .inr (by omega)
def Bad6 (ns : List Int) (z w : Str) : Prop := 10 ∉ TL.tl z ∧ z.length ≤ 1000 ∧ PyData.strOk z = true ∧ rowErr ns z = some w ∧ PyData.strOk w = true
theorem bad6 {ns c : List Int} {rw0 : Str} {st : Int} (er : TL.tl rw0 = TW.rowJ c) (hn : c ≠ []) (h99 : ∀ b ∈ c, 1 ≤ b ∧ b < 1000) (hs : st ∉ ns) (s2 : 1 ≤ st) (s3 : st ≤ 8) (f1 : 10 ∉ TL.tl rw0) (f3 : PyData.strOk rw0 = true) (f4 : rw0.length ≤ 192) :
    Bad6 ns ("" : Str) ("shape" : Str) ∧ Bad6 ns ((" " : Str) ++ rw0) ("shape" : Str) ∧ Bad6 ns (rw0 ++ (" 0" : Str)) ("shape" : Str) ∧ Bad6 ns (rw0 ++ ("|" : Str)) ("shape" : Str) ∧ Bad6 ns (rw0 ++ (" " : Str) ++ Str.ofString (toString st)) ("course" : Str) ∧ Bad6 ns (Str.ofString (toString st)) ("course" : Str) := by
  have es : TL.tl (Str.ofString (toString st)) = TL.numL st.natAbs := by rw [TX.tl_int, TX.numI_pos (by omega)]
  have c5 := TW.len_str (b := st) (by omega) (by omega)
  have fs : 10 ∉ TL.tl (Str.ofString (toString st)) := by rw [es]; exact TL.numL_free (.inl (by decide))
  have ok1 : PyData.strOk ("shape" : Str) = true := by decide +kernel
  have ok2 : PyData.strOk ("course" : Str) = true := by decide +kernel
  have e1 : (" " : Str).length = 1 := by decide
  have e2 : (" 0" : Str).length = 2 := by decide
  have e3 : ("|" : Str).length = 1 := by decide
  have t1 : TL.tl (" " : Str) = [32] := by decide
  have t2 : TL.tl (" 0" : Str) = 32 :: [48] := by decide
  have t3 : TL.tl ("|" : Str) = [124] := by decide
  refine ⟨⟨by decide +kernel, by decide, by decide +kernel, row_shape (by decide +kernel), ok1⟩, ⟨?_, ?_, TW.ok_app (by decide +kernel) f3, row_shape ?_, ok1⟩, ⟨?_, ?_, TW.ok_app f3 (by decide +kernel), row_shape ?_, ok1⟩, ⟨?_, ?_, TW.ok_app f3 (by decide +kernel), row_shape ?_, ok1⟩, ⟨?_, ?_, TW.ok_app (TW.ok_app f3 (by decide +kernel)) (TW.ok_int _), row_course (cs := c ++ [st]) ?_ (by simp) ?_ (.inl ⟨st, by simp, hs⟩), ok2⟩, ⟨fs, by omega, TW.ok_int _, row_course (cs := [st]) ?_ (by simp) ?_ (.inl ⟨st, by simp, hs⟩), ok2⟩⟩
  · rw [TL.tl_append, t1]
    intro h
    rcases List.mem_append.mp
          h with h | h
    · exact absurd h (by decide)
    · exact f1 h
  · rw [TX.len_app]; omega
  · rw [TL.tl_append, t1]
    exact TW.nums_app (u := []) (w := []) (r := TL.tl rw0) |> fun _ => by
      show TW.numsOk (TW.wds (32 :: TL.tl rw0)) = false
      rw [TW.wds_cons]
      exact TW.numsOk_no List.mem_cons_self TW.numeral_nil
  · rw [TL.tl_append, t2]
    intro h
    rcases List.mem_append.mp
          h with h | h
    · exact f1 h
    · exact absurd h (by decide)
  · rw [TX.len_app]; omega
  · rw [TL.tl_append, t2]
    exact TW.nums_app (w := [48]) (by decide) (TW.numeral_zero _)
  · rw [TL.tl_append, t3]
    intro h
    rcases List.mem_append.mp
          h with h | h
    · exact f1 h
    · exact absurd h (by decide)
  · rw [TX.len_app]; omega
  · rw [TL.tl_append, t3]
    exact TW.nums_end (c := 124) (by decide) (by decide) (.inr (by decide))
  · rw [TL.tl_append, TL.tl_append, t1]
    intro h
    rcases List.mem_append.mp
          h with h | h
    · rcases List.mem_append.mp
          h with h | h
      · exact f1 h
      · exact absurd h (by decide)
    · exact fs h
  · rw [TX.len_app, TX.len_app]; omega
  · rw [TL.tl_append, TL.tl_append, es, er, List.append_assoc]
    exact TW.rowJ_snoc hn st
  · intro b hb
    rcases List.mem_append.mp hb with h | h
    · exact h99 b h
    · cases List.mem_singleton.mp h; omega
  · rw [es]; rfl
  · intro b hb
    cases List.mem_singleton.mp hb; omega
theorem Fine.snoc {W : List Str} {z : Str} (h : Fine W) (h70 : W.length < 70) (hz : 10 ∉ TL.tl z) (hl : z.length ≤ 1000) (ok : PyData.strOk z = true) : Fine (W ++ [z]) := by
  refine ⟨by simp, by rw [List.length_append, List.length_singleton]; omega, fun w hw => ?_⟩
  rcases List.mem_append.mp hw with h1 | h1
  · exact h.2.2 w h1
  · cases List.mem_singleton.mp h1; exact ⟨hz, hl, ok⟩
theorem Fine.rep {W : List Str} {z : Str} (h : Fine W) (hz : z ∈ W) : Fine (List.replicate 60 z) :=
  ⟨by simp, by simp, fun w hw => by rw [List.eq_of_mem_replicate hw]; exact h.2.2 z hz⟩
theorem Fine.cons {W : List Str} {z : Str} (h : Fine W) (h70 : W.length < 70) (hz : 10 ∉ TL.tl z) (hl : z.length ≤ 1000) (ok : PyData.strOk z = true) : Fine (z :: W) := by
  refine ⟨by simp, by simp; omega, fun w hw => ?_⟩
  rcases List.mem_cons.mp hw with h1 | h1
  · rw [h1]; exact ⟨hz, hl, ok⟩
  · exact h.2.2 w h1
theorem getD_snoc {α : Type} {l : List α} {j : Nat} {x d : α} (h : j < l.length) : (l ++ [x]).getD j d = l.getD j d := by
  rw [List.getD_eq_getElem?_getD, List.getD_eq_getElem?_getD, List.getElem?_append_left h]
theorem getD_last {α : Type} {l : List α} {x d : α} : (l ++ [x]).getD l.length d = x := by
  rw [List.getD_eq_getElem?_getD, List.getElem?_append_right (Nat.le_refl _), Nat.sub_self]
  rfl
theorem sum_pos {c : List Int} (hn : c ≠ []) (h : ∀ b ∈ c, 1 ≤ b) : 1 ≤ c.sum := by
  have : ∀ c : List Int, (∀ b ∈ c, 1 ≤ b) → 0 ≤ c.sum := by
    intro c
    induction c with
    | nil => intro _; exact Int.le_refl _
    | cons a r ih =>
      intro h
      have := h a List.mem_cons_self
      have := ih fun b hb => h b (List.mem_cons_of_mem _ hb)
      rw [List.sum_cons]; omega
  cases c with
  | nil => exact absurd rfl hn
  | cons a r =>
    have h1 := h a List.mem_cons_self
    have h2 := this r fun b hb => h b (List.mem_cons_of_mem _ hb)
    rw [List.sum_cons]; omega
theorem long_at {ns c : List Int} {crs : List (List Int)} {rs : List Str} {n : Nat} {z : Str} (R : RowsOf ns crs rs) (hS : ∀ cs ∈ crs, cs.sum = (crs.getD 0 []).sum) (hn : n < crs.length) (h1 : 1 < crs.length) (hb : rowErr ns z = none) (hz : numsOf z = c ++ c) (hc : c = crs.getD n []) (hp : 1 ≤ c.sum) :
    (∀ j < max n 1, TR.rowBad (rowErr ns) numsOf (rs.set n z) j = none) ∧ TR.rowBad (rowErr ns) numsOf (rs.set n z) (max n 1) = some ("length" : Str) := by
  have hrl := R.len
  have hd : ∀ j, j < crs.length → (crs.getD j []).sum = (crs.getD 0 []).sum := by
    intro j hj
    rw [List.getD_eq_getElem?_getD, List.getElem?_eq_getElem hj]
    exact hS _ (List.getElem_mem hj)
  have hcs : c.sum = (crs.getD 0 []).sum := by rw [hc]; exact hd n hn
  have hn2 : (rs.set n z).getD n "" = z := getD_set_eq (by omega)
  have hj2 : ∀ j, j ≠ n → (rs.set n z).getD j "" = rs.getD j "" := fun j h => getD_set_ne (by omega)
  rcases Nat.eq_zero_or_pos n with rfl | h0
  · show (∀ j < 1, _) ∧ TR.rowBad _ _ _ 1 = _
    refine ⟨fun j hj => ?_, ?_⟩
    · obtain rfl : j = 0 := by omega
      rw [TR.rowBad_no (by rw [hn2]; exact hb)]
      exact if_pos rfl
    · rw [TR.rowBad_no (by rw [hj2 1 (by omega)]; exact R.err 1 h1), hn2, hj2 1 (by omega), R.nums 1 h1, hz, List.sum_append]
      have := hd 1 h1
      exact if_neg (by omega)
  · rw [Nat.max_eq_left h0]
    have h00 := hj2 0 (by omega)
    refine ⟨fun j hj => ?_, ?_⟩
    · have e := hj2 j (by omega)
      rw [TR.rowBad_no (by rw [e]; exact R.err j (by omega)), e, h00, R.nums j (by omega), R.nums 0 (by omega)]
      exact if_pos (hd j (by omega))
    · rw [TR.rowBad_no (by rw [hn2]; exact hb), hn2, h00, hz, R.nums 0 (by omega), List.sum_append]
      exact if_neg (by omega)
theorem rep_rows {ns : List Int} {crs : List (List Int)} {rs : List Str} (R : RowsOf ns crs rs) (h0 : 0 < crs.length) (k : Nat) : RowsOf ns (List.replicate k (crs.getD 0 [])) (List.replicate k (rs.getD 0 "")) := by
  refine ⟨by simp, fun j hj => ?_, fun j hj => ?_⟩
  · rw [List.length_replicate] at hj
    rw [List.getD_eq_getElem?_getD, List.getElem?_replicate, if_pos hj]
    exact R.err 0 h0
  · rw [List.length_replicate] at hj
    rw [List.getD_eq_getElem?_getD, List.getD_eq_getElem?_getD (l := List.replicate k (crs.getD 0 [])), List.getElem?_replicate, List.getElem?_replicate, if_pos hj, if_pos hj]
    exact R.nums 0 h0
theorem join_more {rs : List Str} (h : rs ≠ []) : Txt.join ("\n" : Str) rs ++ ("\n" : Str) = Txt.join ("\n" : Str) (rs ++ [("" : Str)]) := by
  refine TL.ext_tl ?_
  rw [TL.tl_append, TL.join_eq, TL.tl_join, TL.join_eq, TL.tl_join, List.map_append, TW.joinL_app _ _ _ (by simpa using h) (by simp)]
  show _ = _ ++ (TL.tl ("\n" : Str) ++ TL.tl ("" : Str))
  rw [show TL.tl ("" : Str) = [] from by decide, List.append_nil]
theorem twice {ns c : List Int} {z : Str} (er : TL.tl z = TW.rowJ c) (hn : c ≠ []) (h99 : ∀ b ∈ c, 1 ≤ b ∧ b < 1000) (hns : ∀ b ∈ c, b ∈ ns) (hl : c.length ≤ 48) (hs : c.sum ≤ 48) : rowErr ns (z ++ (" " : Str) ++ z) = none ∧ numsOf (z ++ (" " : Str) ++ z) = c ++ c := by
  have e : TL.tl (z ++ (" " : Str) ++ z) = TW.rowJ (c ++ c) := by
    rw [TL.tl_append, TL.tl_append, er, show TL.tl (" " : Str) = [32] from by decide]
    unfold TW.rowJ TW.rowW
    rw [List.map_append, TW.joinL_app _ _ _ (by simpa using hn) (by simpa using hn), List.append_assoc]
  have h2 : ∀ b ∈ c ++ c, b ∈ c := fun b hb => by rcases List.mem_append.mp hb with h | h <;> exact h
  refine row_good e (by simpa using hn) (fun b hb => h99 b (h2 b hb)) (cW_good (fun b hb => hns b (h2 b hb)) ?_ ?_ ?_)
  · cases c with
    | nil => exact absurd rfl hn
    | cons a r => simp
  · rw [List.length_append]; omega
  · rw [List.sum_append]; omega
theorem wIfJ {c : Prop} [Decidable c] {tt : L2.St → Hp → (Bool → Hp → Prop) → Prop} {σ : L2.St} {H : Hp} {QB : Bool → Hp → Prop} (P : Hp → Prop) (h1 : c → ∀ R : Bool → Hp → Prop, (∀ H', P H' → R false H') → tt σ H R) (h2 : ¬ c → P H) (h3 : ∀ H', P H' → QB false H') : if decide c = true then tt σ H QB else QB false H := by
  by_cases h : c
  · rw [if_pos (decide_eq_true h)]; exact h1 h QB h3
  · rw [if_neg (by simpa using h)]; exact h3 H (h2 h)
def sp__law_texts (K : PySem.W.Frag) (cS cW : Addr) : Sp := Z.Sp4 fun a b c d H Q E => ∃ (L : List Z.En) (l hc x cp : Addr) (vs : List V) (crs : List (List Int)) (ns : List Int) (lap r st : Int), Z.Fx H L ∧ a = .ref l ∧ Z.En.hand l hc ∈ L ∧ b = .ref x ∧ StockIn cS L x ns lap r ∧ c = .ref cp ∧ Z.En.ob cp (.lst vs) ∈ L ∧
  Z.Al2 (TupOf L) vs crs ∧ WRows ns crs ∧ crs.length ≤ 8 ∧ (∀ cs ∈ crs, cs.length ≤ 48 ∧ cs.sum ≤ 48) ∧ (∀ n ∈ ns, 1 ≤ n ∧ n ≤ 8) ∧ d = .int st ∧ st ∉ ns ∧ 1 ≤ st ∧ st ≤ 8 ∧ ∀ H', Z.Fx H' L → Q (.bl true) H'
theorem fn__law_texts (T : Txt K mg c_BadCourse c_BadJoints c_BadLength c_BadStock c_BadText c_BadWall c_Stock c_Wall) {f : Addr} {fd : FuncData} (F : Fun K "_law_texts" "_law_texts" s__law_texts f fd) : FnOk P w K mg base CX0 11 f fd ["_law_hand_here", "_law_stock", "_law_courses", "_law_stranger"] (sp__law_texts K c_Stock c_Wall) := by
  have O_Wall___len__ := ok_Wall___len__ (P := P) (w := w) (base := base) T
  have O__law_read := ok__law_read (P := P) (w := w) (base := base) T
  have O__law_take := ok__law_take (P := P) (w := w) (base := base) T
  have O__law_with := ok__law_with (P := P) (w := w) (base := base) T
  have O_wall_text := ok_wall_text (P := P) (w := w) (base := base) T
  have O_Wall_2 := ok_Wall___init___2 (P := P) (w := w) (base := base) T
  have O_Wall___eq__ := ok_Wall___eq__ (P := P) (w := w) (base := base) T
  refine F.ok sc__law_texts (fun vs H Q E h => ?_) (fun cdv A outer s H vs Q E hr h => ?_)
  · obtain ⟨a, b, c, d, rfl, _⟩ := h; rfl
  · obtain ⟨a, b, c, d, rfl, h⟩ := h
    refine ⟨_, (pss_cons (by exact (ps_setLc (i := 4) (own := [("_law_course", 13)]) (g := (gName 13)) (by rfl) sc__law_texts.nd rfl rfl (sw_true rfl rfl rfl (by decide +kernel)) (Z.pi_seq (pv 2)) (blkOk_by (own := [("_law_course", 13)]) (N := ["_law_hand_here", "_law_stock", "_law_courses", "_law_stranger", "_law_rows", "_law_text", "_law_shut", "_law_place", "_law_bad", "_law_word", "_law_two", "_law_longer", "_law_told", "_law_course", "_law_brick"]) (sc := defScope s__law_texts) (by decide +kernel)) (fun _ _ _ _ _ => (by exact (pg_name (i := 13) sc__law_texts.nd rfl (by first | exact Or.inl rfl | exact Or.inr rfl)))) (fun _ _ _ _ _ => (by exact pts_nil)) (fun _ _ _ _ _ => (by exact (show PE _ _ (tM1 (Z.rJoin K) _ _) from Z.pe_joi pe_str (by exact (pe_lc (own := [("_law_brick", 14)]) (g := (gName 14)) (by rfl) sc__law_texts.nd (show PI _ _ _ (Z.iSeq K _) from Z.pi_seq (pv 13)) (blkOk_by (own := [("_law_brick", 14)]) (N := ["_law_hand_here", "_law_stock", "_law_courses", "_law_stranger", "_law_rows", "_law_text", "_law_shut", "_law_place", "_law_bad", "_law_word", "_law_two", "_law_longer", "_law_told", "_law_course", "_law_brick"]) (sc := (Scope.mk .function [(".0", .local), ("_law_course", .local)] false false [])) (by decide +kernel)) (fun _ _ _ _ _ => (by exact (pg_name (i := 14) sc__law_texts.nd rfl (by first | exact Or.inl rfl | exact Or.inr rfl)))) (fun _ _ _ _ _ => (by exact pts_nil)) (fun _ _ _ _ _ => (by exact (pe_callTy Z.cr_strI (by rfl) T.b_str (by decide +kernel) (pa_cons (pv 14) pa_nil)))))))))))
      (pss_cons (ps_set (i := 5) sc__law_texts.nd rfl (by first | exact Or.inl rfl | exact Or.inr rfl) (Z.pe_joi pe_str (pv 4)))
      (pss_cons (ps_set (i := 6) sc__law_texts.nd rfl (by first | exact Or.inl rfl | exact Or.inr rfl) (Z.pe_makeO O_Wall_2 (hr.mono (by decide)) T.g_Wall (by rfl) passL (pa_cons (pv 1) (pa_cons (pv 2) pa_nil))))
      (pss_cons (ps_if (PW.pt (pw_or (pt_cmpR (Z.zNe (Z.hu0 hr)) (Z.pe_callO O_wall_text (by rfl) (hr.mono (by decide)) pass0 (pa_cons (pv 6) pa_nil)) (pv 5) (nomark _)) (pw_or1 (pt_not (pt_cmpR (Z.op_eqOwnO O_Wall___eq__ (hr.mono (by decide))) (Z.pe_callO O__law_read (by rfl) (hr.mono (by decide)) pass0 (pa_cons (pv 1) (pa_cons (pv 5) pa_nil))) (pv 6) (nomark _))))))
        (pss_one (ps_ret pe_bl))
        pss_nil)
      (pss_cons (ps_set (i := 7) sc__law_texts.nd rfl (by first | exact Or.inl rfl | exact Or.inr rfl) (Z.pe_callO O__law_take (by rfl) (hr.mono (by decide)) pass0 (pa_cons (pv 0) (pa_cons (pe_callB Z.zLen (by rfl) T.b_len (by decide +kernel) (pa_cons (pv 4) pa_nil)) pa_nil))))
      (pss_cons (ps_for PassesOwn.never (by rfl) (Z.pi_seq (pe_lst (pa_cons (pe_tup (pa_cons pe_str (pa_cons pe_str pa_nil))) (pa_cons (pe_tup (pa_cons (pe_op Z.zAdd pe_str (pe_ix ix_seq (pv 4) (pv 7) (fun _ _ => rfl))) (pa_cons pe_str pa_nil))) (pa_cons (pe_tup (pa_cons (pe_op Z.zAdd (pe_ix ix_seq (pv 4) (pv 7) (fun _ _ => rfl)) pe_str) (pa_cons pe_str pa_nil))) (pa_cons (pe_tup (pa_cons (pe_op Z.zAdd (pe_ix ix_seq (pv 4) (pv 7) (fun _ _ => rfl)) pe_str) (pa_cons pe_str pa_nil))) (pa_cons (pe_tup (pa_cons (pe_op Z.zAdd (pe_op Z.zAdd (pe_ix ix_seq (pv 4) (pv 7) (fun _ _ => rfl)) pe_str) (pe_callTy Z.cr_strI (by rfl) T.b_str (by decide +kernel) (pa_cons (pv 3) pa_nil))) (pa_cons pe_str pa_nil))) (pa_cons (pe_tup (pa_cons (pe_callTy Z.cr_strI (by rfl) T.b_str (by decide +kernel) (pa_cons (pv 3) pa_nil)) (pa_cons pe_str pa_nil))) pa_nil)))))))) (pg_tup (by rfl) (pgs_cons (pg_name (i := 8) sc__law_texts.nd rfl (by first | exact Or.inl rfl | exact Or.inr rfl)) (pgs_cons (pg_name (i := 9) sc__law_texts.nd rfl (by first | exact Or.inl rfl | exact Or.inr rfl)) pgs_nil)))
        (pss_one (ps_if (pt_cmpR (Z.zNe (Z.hu0 hr)) (Z.pe_callO O__law_read (by rfl) (hr.mono (by decide)) pass0 (pa_cons (pv 1) (pa_cons (Z.pe_callO O__law_with (by rfl) (hr.mono (by decide)) pass0 (pa_cons (pv 4) (pa_cons (pv 7) (pa_cons (pv 8) pa_nil)))) pa_nil))) (pe_lst (pa_cons (pv 7) (pa_cons (pv 9) pa_nil))) (nomark _))
          (pss_one (ps_ret pe_bl))
          pss_nil)))
      (pss_cons (ps_set (i := 10) sc__law_texts.nd rfl (by first | exact Or.inl rfl | exact Or.inr rfl) (pe_op Z.zAdd (pe_op Z.zAdd (pe_op Z.zAdd (pe_slice Z.zSl (pv 4) po_none (po_some (pv 7))) (pe_lst (pa_cons (pe_op Z.zAdd (pe_op Z.zAdd (pe_ix ix_seq (pv 4) (pv 7) (fun _ _ => rfl)) pe_str) (pe_callTy Z.cr_strI (by rfl) T.b_str (by decide +kernel) (pa_cons (pv 3) pa_nil))) pa_nil))) (pe_slice Z.zSl (pv 4) (po_some (pe_op Z.zAdd (pv 7) pe_int)) po_none)) (pe_lst (pa_cons pe_str pa_nil))))
      (pss_cons (ps_if (pt_cmpR (Z.zNe (Z.hu0 hr)) (Z.pe_callO O__law_read (by rfl) (hr.mono (by decide)) pass0 (pa_cons (pv 1) (pa_cons (Z.pe_joi pe_str (pv 10)) pa_nil))) (pe_lst (pa_cons (pv 7) (pa_cons pe_str pa_nil))) (nomark _))
        (pss_one (ps_ret pe_bl))
        pss_nil)
      (pss_cons (ps_set (i := 11) sc__law_texts.nd rfl (by first | exact Or.inl rfl | exact Or.inr rfl) (pe_op Z.zAdd (pe_op Z.zAdd (pe_ix ix_seq (pv 4) (pv 7) (fun _ _ => rfl)) pe_str) (pe_ix ix_seq (pv 4) (pv 7) (fun _ _ => rfl))))
      (pss_cons (ps_if (PW.pt (pw_and (pt_cmpR Z.zGt (pe_callB Z.zLen (by rfl) T.b_len (by decide +kernel) (pa_cons (pv 4) pa_nil)) pe_int (nomark _)) (pw_and1 (pt_cmpR (Z.zNe (Z.hu0 hr)) (Z.pe_callO O__law_read (by rfl) (hr.mono (by decide)) pass0 (pa_cons (pv 1) (pa_cons (Z.pe_callO O__law_with (by rfl) (hr.mono (by decide)) pass0 (pa_cons (pv 4) (pa_cons (pv 7) (pa_cons (pv 11) pa_nil)))) pa_nil))) (pe_lst (pa_cons (pe_callB (Z.zMax2 rfl) (by rfl) T.b_max (by decide +kernel) (pa_cons (pv 7) (pa_cons pe_int pa_nil))) (pa_cons pe_str pa_nil))) (nomark _)))))
        (pss_one (ps_ret pe_bl))
        pss_nil)
      (pss_cons (ps_if (PW.pt (pw_or (pt_cmpR (Z.zNe (Z.hu0 hr)) (Z.pe_callO O__law_read (by rfl) (hr.mono (by decide)) pass0 (pa_cons (pv 1) (pa_cons (pe_op Z.zAdd (pv 5) pe_str) pa_nil))) (pe_lst (pa_cons (pe_callB Z.zLen (by rfl) T.b_len (by decide +kernel) (pa_cons (pv 4) pa_nil)) (pa_cons pe_str pa_nil))) (nomark _)) (pw_or1 (pt_cmpR (Z.zNe (Z.hu0 hr)) (Z.pe_callO O__law_read (by rfl) (hr.mono (by decide)) pass0 (pa_cons (pv 1) (pa_cons (Z.pe_joi pe_str (pe_op Z.zAdd (pe_lst (pa_cons pe_str pa_nil)) (pe_op Z.zMul (pe_lst (pa_cons (pe_ix ix_seq (pv 4) pe_int (fun _ _ => rfl)) pa_nil)) pe_int))) pa_nil))) (pe_lst (pa_cons pe_int (pa_cons pe_str pa_nil))) (nomark _)))))
        (pss_one (ps_ret pe_bl))
        pss_nil)
      (pss_cons (ps_set (i := 12) sc__law_texts.nd rfl (by first | exact Or.inl rfl | exact Or.inr rfl) (Z.pe_callO O__law_read (by rfl) (hr.mono (by decide)) pass0 (pa_cons (pv 1) (pa_cons (Z.pe_joi pe_str (pe_op Z.zMul (pe_lst (pa_cons (pe_ix ix_seq (pv 4) pe_int (fun _ _ => rfl)) pa_nil)) pe_int)) pa_nil))))
      (pss_one (ps_ret (pe_andT (pe_callB Z.zIsi (by rfl) T.b_isinstance (by decide +kernel) (pa_cons (pv 12) (pa_cons (pe_glob (v := V.ref c_Wall) (by rfl) T.g_Wall (show RelV (V.ref _) _ from rfl)) pa_nil))) (pe_andT (pe_cmpR (Z.zEq (Z.hu0 hr)) (pe_callB (Z.cr_lenO O_Wall___len__ (hr.mono (by decide))) (by rfl) T.b_len (by decide +kernel) (pa_cons (pv 12) pa_nil)) pe_int (nomark _)) (pe_one (pe_cmpR (Z.zEq (Z.hu0 hr)) (Z.pe_callO O__law_read (by rfl) (hr.mono (by decide)) pass0 (pa_cons (pv 1) (pa_cons pe_non pa_nil))) (pe_lst (pa_cons pe_int (pa_cons pe_str pa_nil))) (nomark _))))))))))))))))))), ?_⟩
    try dsimp only [cxOf, Cx.nox, Cx.wish]
    refine Z.at_start (σ' := [some a, some b, some c, some d, none, none, none, none, none, none, none, none, none, none, none]) rfl ?_
    obtain ⟨L, l, hc, x, cp, vs, crs, ns, lap, r, st, F, rfl, hm, rfl, si, rfl, mc, al, hw, h8, h48, hns, rfl, s1, s2, s3, q⟩ := h
    have lb := Z.line_big
    have hvl := al.len
    obtain ⟨hw1, hw60, hwr⟩ := hw
    have hc8 : ∀ cs ∈ crs, ∀ c ∈ cs, 1 ≤ c ∧ c ≤ 8 := fun cs hcs c hcc => hns c ((hwr cs hcs).1.1 c hcc)
    walk_at "y"
    refine Z.wLcL mc F (fun i acc L' => L' = L ∧ ∃ rs : List Str, acc = rs.map V.str ∧ rs.map TL.tl = (crs.take i).map TW.rowJ ∧ ∀ w ∈ rs, w.length ≤ 192) ⟨rfl, [], rfl, rfl, by simp⟩ (fun _ _ _ r => by rw [r.1]; exact mc) ?_ ?_
    · rintro i v D H1 acc L' hx ⟨rfl, rs, rfl, hy, hl⟩ F1
      obtain ⟨cs, hcs, hto⟩ := al.getL hx
      have hcm := List.mem_of_getElem? hcs
      have hrl : rs.length = min i crs.length := by
        have := congrArg List.length hy
        rw [List.length_map, List.length_map, List.length_take] at this
        exact this
      walk_at "zw"
      walk_at "z"
      refine ⟨rfl, ?_⟩
      walk_at "z"
      have h1 := h48 cs hcm
      refine Z.wRowC (i := 14) (by simp) ((hto.mono fun e m => .tail _ m).seq) F1 (by omega) (fun b hb => by have := hc8 cs hcm b hb; omega) fun z H2 ez lz F2 => ?_
      refine Z.lcPut F2 (by rw [List.length_map]; omega) ⟨rfl, rs ++ [z], by rw [List.map_append]; rfl, ?_, fun w hw => ?_⟩
      · rw [List.map_append, hy, List.take_add_one, hcs, List.map_append]
        show _ ++ [TL.tl z] = _ ++ [TW.rowJ cs]
        rw [ez]
      · rcases List.mem_append.mp hw with h | h
        · exact hl w h
        · cases List.mem_singleton.mp h
          omega
    rintro rp acc L' H2 F2 ⟨rfl, rs, rfl, hy, hl⟩
    rw [hvl, List.take_length] at hy
    have hrl : rs.length = crs.length := by
      have := congrArg List.length hy
      rw [List.length_map, List.length_map] at this
      exact this
    have hget : ∀ j, j < crs.length → TL.tl (rs.getD j "") = TW.rowJ (crs.getD j []) ∧ crs.getD j [] ∈ crs := by
      intro j hj
      have e : (rs.map TL.tl)[j]? = (crs.map TW.rowJ)[j]? := by rw [hy]
      rw [List.getElem?_map, List.getElem?_map, List.getElem?_eq_getElem (by omega), List.getElem?_eq_getElem hj] at e
      injection e with e
      rw [List.getD_eq_getElem?_getD, List.getD_eq_getElem?_getD, List.getElem?_eq_getElem (by omega), List.getElem?_eq_getElem hj]
      exact ⟨e, List.getElem_mem hj⟩
    have hne : ∀ cs ∈ crs, cs ≠ [] := fun cs h e => by
      have := (hwr cs h).1.2.1
      rw [e] at this
      exact absurd this (by decide)
    have h99 : ∀ cs ∈ crs, ∀ c ∈ cs, 1 ≤ c ∧ c < 1000 := fun cs h c hcc => by have := hc8 cs h c hcc; omega
    have hS : ∀ cs ∈ crs, cs.sum = (crs.getD 0 []).sum := fun cs h => (hwr cs h).2
    have R : RowsOf ns crs rs := by
      refine ⟨hrl, fun j hj => ?_, fun j hj => ?_⟩
      · obtain ⟨e, m⟩ := hget j hj
        exact (row_good e (hne _ m) (h99 _ m) (cW_good (hwr _ m).1.1 (hwr _ m).1.2.1 (hwr _ m).1.2.2.1 (hwr _ m).1.2.2.2)).1
      · obtain ⟨e, m⟩ := hget j hj
        exact (row_good e (hne _ m) (h99 _ m) (cW_good (hwr _ m).1.1 (hwr _ m).1.2.1 (hwr _ m).1.2.2.1 (hwr _ m).1.2.2.2)).2
    have hok : ∀ w ∈ rs, 10 ∉ TL.tl w ∧ w.length ≤ 1000 ∧ PyData.strOk w = true := by
      intro w hw
      obtain ⟨j, hj, rfl⟩ := List.mem_iff_getElem.mp hw
      have e := (hget j (by omega)).1
      have e2 : rs.getD j "" = rs[j] := by rw [List.getD_eq_getElem?_getD, List.getElem?_eq_getElem hj]; rfl
      rw [e2] at e
      have := hl _ hw
      refine ⟨fun h => ?_, by omega, TW.ok_rowJ (s := 32) (by decide) e⟩
      rw [e] at h
      have := rowJ_free h
      omega
    have fine : Fine rs := ⟨fun e => by rw [e] at hrl; simp at hrl; omega, by omega, hok⟩
    have e1n : ("\n" : Str).length = 1 := by decide
    have hsum := TR.sum_le hl
    walk_at "z"
    refine Z.wJoin (F2.lst List.mem_cons_self) (by rw [e1n]; omega) ?_
    walk_at "z"
    have hWR : WRows ns crs := ⟨hw1, hw60, hwr⟩
    have alc : Z.Al2 (CourseAt (.ob rp (.lst (rs.map V.str)) :: L')) vs (crs.map intsO) := by
      refine ⟨by rw [List.length_map]; exact hvl, fun i a b ha hb => ?_⟩
      rw [List.getElem?_map] at hb
      obtain ⟨cs, hcs, hto⟩ := al.getL ha
      rw [hcs] at hb
      injection hb with hb
      subst hb
      refine ⟨(hto.mono fun e m => .tail _ m).seq, fun xs e x hx => ?_⟩
      cases e
      obtain ⟨n, _, rfl⟩ := List.mem_map.mp hx
      exact ⟨_, .int n⟩
    have hin : Z.inLen 1 60 (some vs) = true := by
      simp only [Z.inLen, Bool.and_eq_true, decide_eq_true_eq]
      omega
    refine use_Wall (ns := ns) F2 (si.le (List.sublist_cons_self _ _)) (.lst (.tail _ mc)) (os := crs.map intsO) (fun ws e => by cases e; exact alc) (fun hm => by rw [hin] at hm; cases hm) (fun i w h1 h2 h3 h4 => by
      rw [List.length_map] at h2
      rw [flaw_none (fun cs h => hwr cs h) h2] at h4
      cases h4) (fun rows' h1 h2 h3 y L3 H3 s wi F3 => ?_)
    obtain rfl := intsO_inj h2
    walk_at "z"
    refine use_wall_text F3 wi hw60 (fun cs h => ⟨by have := h48 cs h; omega, fun c hcc => by have := h99 cs h c hcc; omega⟩) fun z H4 ez F4 => ?_
    obtain rfl : z = Txt.join ("\n" : Str) rs := TL.ext_tl (by rw [ez, TL.join_eq, TL.tl_join, hy]; rfl)
    walk_at "z"
    refine Z.wOr1 (Z.wNeS rfl ?_)
    rw [decide_eq_true rfl]
    have subL : L'.Sublist L3 := (List.sublist_cons_self _ _).trans s
    have mr3 : Z.En.ob rp (.lst (rs.map V.str)) ∈ L3 := s.subset List.mem_cons_self
    walk_at "z"
    refine read_good F4 (si.le subL) fine (by omega) (all_good R hS) fun y2 L5 H5 s5 wi5 F5 => ?_
    have own : ∀ {H0 : Hp} {L0 : List Z.En} {w1 w2 x1 x2 : Addr} {ra rb : List (List Int)} {na nb : List Int} {la lb qa qb : Int} {Q0 : VK}, Z.Fx H0 L0 → WallIn c_Wall L0 w1 x1 ra → StockIn c_Stock L0 x1 na la qa → WallIn c_Wall L0 w2 x2 rb → StockIn c_Stock L0 x2 nb lb qb →
        Q0 (.bl ((decide (na = nb) && (decide (la = lb) && decide (qa = qb))) && decide (ra = rb))) H0 → Z.rOwn K c_Wall (sp_Wall___eq__ K c_Stock c_Wall) id (.ref w1) (.ref w2) H0 Q0 := by
      intro H0 L0 w1 w2 x1 x2 ra rb na nb la lb qa qb Q0 F0 i1 j1 i2 j2 q0
      obtain ⟨d1, p1, m1, _⟩ := id i1
      obtain ⟨d2, p2, m2, _⟩ := id i2
      exact ⟨w1, _, _, _, rfl, F0.get m1, T.i_Wall.ty (F0.get m2), T.i_Wall.nf, _, _, rfl, L0, w1, x1, ra, na, la, qa, rfl, F0, i1, j1, .inl ⟨w2, x2, rb, nb, lb, qb, rfl, i2, j2, ⟨_, rfl, q0⟩⟩⟩
    rw [R.map] at wi5
    have sub5 := subL.trans s5
    walk_at "z"
    refine own F5 wi5 (si.le sub5) (wi.le s5) (si.le sub5) ?_
    rw [decide_eq_true rfl, decide_eq_true rfl, decide_eq_true rfl, decide_eq_true rfl]
    have mr5 := s5.subset mr3
    have hm5 := sub5.subset hm
    have si5 := si.le sub5
    clear F4 F3 s F2 alc wi5
    walk_at "y"
    rename_i n0 H6 F6 n1 n2
    rw [List.length_map] at n2
    obtain ⟨n, rfl⟩ : ∃ n : Nat, n0 = n := ⟨n0.toNat, by omega⟩
    have hn : n < crs.length := by omega
    obtain ⟨er, cm⟩ := hget n hn
    obtain ⟨rw0, erw, hat⟩ : ∃ rw0, rs.getD n "" = rw0 ∧ atI (rs.map V.str) (n : Int) = some (V.str rw0) := ⟨_, rfl, atI_nat (by rw [List.getElem?_map, List.getD_eq_getElem?_getD, List.getElem?_eq_getElem (by omega)]; rfl)⟩
    rw [erw] at er
    obtain ⟨c, hc⟩ : ∃ c, crs.getD n [] = c := ⟨_, rfl⟩
    rw [hc] at er cm
    have hrm : rw0 ∈ rs := by
      rw [← erw, List.getD_eq_getElem?_getD, List.getElem?_eq_getElem (by omega)]
      exact List.getElem_mem _
    obtain ⟨f1, f2, f3⟩ := hok _ hrm
    have f4 := hl _ hrm
    have c5 := TW.len_str (b := st) (by omega) (by omega)
    have d5 : st.natAbs.log2 < 1920 := TW.log_small (by omega)
    have e1s : (" " : Str).length = 1 := by decide
    refine Z.wFor ?_
    refine Z.wIS ?_
    refine Z.wMidE (fun v H' => ∃ pB t1 t2 t3 t4 t5 t6, v = .ref pB ∧ Z.Fx H' (.ob pB (.lst [V.ref t1, V.ref t2, V.ref t3, V.ref t4, V.ref t5, V.ref t6]) :: .ob t6 (.tup [.str (Str.ofString (toString st)), .str ("course" : Str)]) :: .ob t5 (.tup [.str (rw0 ++ (" " : Str) ++ Str.ofString (toString st)), .str ("course" : Str)]) :: .ob t4 (.tup [.str (rw0 ++ ("|" : Str)), .str ("shape" : Str)]) :: .ob t3 (.tup [.str (rw0 ++ (" 0" : Str)), .str ("shape" : Str)]) :: .ob t2 (.tup [.str ((" " : Str) ++ rw0), .str ("shape" : Str)]) :: .ob t1 (.tup [.str ("" : Str), .str ("shape" : Str)]) :: L5)) (fun R0 hk => ?_) ?_
    · walk_at "z"
      rename_i q1 G1 g1 q2 G2 g2 q3 G3 g3 q4 G4 g4 q5 G5 g5 q6 G6 g6 q7 G7 g7
      exact hk _ _ ⟨_, _, _, _, _, _, _, rfl, g7⟩
    rintro _ HC ⟨pB, t1, t2, t3, t4, t5, t6, rfl, FC⟩
    have sub7 : L5.Sublist (.ob pB (.lst [V.ref t1, V.ref t2, V.ref t3, V.ref t4, V.ref t5, V.ref t6]) :: .ob t6 (.tup [.str (Str.ofString (toString st)), .str ("course" : Str)]) :: .ob t5 (.tup [.str (rw0 ++ (" " : Str) ++ Str.ofString (toString st)), .str ("course" : Str)]) :: .ob t4 (.tup [.str (rw0 ++ ("|" : Str)), .str ("shape" : Str)]) :: .ob t3 (.tup [.str (rw0 ++ (" 0" : Str)), .str ("shape" : Str)]) :: .ob t2 (.tup [.str ((" " : Str) ++ rw0), .str ("shape" : Str)]) :: .ob t1 (.tup [.str ("" : Str), .str ("shape" : Str)]) :: L5) := .cons _ (.cons _ (.cons _ (.cons _ (.cons _ (.cons _ (.cons _ (.refl _)))))))
    refine Z.wForQ (.lst List.mem_cons_self) FC (fun i σ' H' => ∃ v8 v9, σ' = [some (V.ref l), some (V.ref x), some (V.ref cp), some (V.int st), some (V.ref rp), some (V.str (Txt.join ("\n" : Str) rs)), some (V.ref y), some (V.int (n : Nat)), v8, v9, none, none, none, none, none] ∧ Z.Fx H' (.ob pB (.lst [V.ref t1, V.ref t2, V.ref t3, V.ref t4, V.ref t5, V.ref t6]) :: .ob t6 (.tup [.str (Str.ofString (toString st)), .str ("course" : Str)]) :: .ob t5 (.tup [.str (rw0 ++ (" " : Str) ++ Str.ofString (toString st)), .str ("course" : Str)]) :: .ob t4 (.tup [.str (rw0 ++ ("|" : Str)), .str ("shape" : Str)]) :: .ob t3 (.tup [.str (rw0 ++ (" 0" : Str)), .str ("shape" : Str)]) :: .ob t2 (.tup [.str ((" " : Str) ++ rw0), .str ("shape" : Str)]) :: .ob t1 (.tup [.str ("" : Str), .str ("shape" : Str)]) :: L5)) ⟨_, _, rfl, FC⟩ (fun i σ' H' r => ?_) (fun i x1 σ' H' hx r => ?_) (fun σ' H' r => ?_)
    · obtain ⟨v8, v9, rfl, F'⟩ := r
      exact ⟨_, F', fun _ h => h⟩
    · obtain ⟨v8, v9, rfl, F'⟩ := r
      obtain ⟨t, z, w, rfl, mt, a1, a2, a3, a4, a5⟩ : ∃ t z w, x1 = V.ref t ∧ Z.En.ob t (.tup [.str z, .str w]) ∈ (Z.En.ob pB (.lst [V.ref t1, V.ref t2, V.ref t3, V.ref t4, V.ref t5, V.ref t6]) :: .ob t6 (.tup [.str (Str.ofString (toString st)), .str ("course" : Str)]) :: .ob t5 (.tup [.str (rw0 ++ (" " : Str) ++ Str.ofString (toString st)), .str ("course" : Str)]) :: .ob t4 (.tup [.str (rw0 ++ ("|" : Str)), .str ("shape" : Str)]) :: .ob t3 (.tup [.str (rw0 ++ (" 0" : Str)), .str ("shape" : Str)]) :: .ob t2 (.tup [.str ((" " : Str) ++ rw0), .str ("shape" : Str)]) :: .ob t1 (.tup [.str ("" : Str), .str ("shape" : Str)]) :: L5) ∧ Bad6 ns z w := by
        obtain ⟨b1, b2, b3, b4, b5, b6⟩ := bad6 er (hne _ cm) (h99 _ cm) s1 s2 s3 f1 f3 f4
        have hi : i < 6 := (List.getElem?_eq_some_iff.mp hx).1
        rcases i with _ | _ | _ | _ | _ | _ | i
        · cases hx; exact ⟨_, _, _, rfl, by simp, b1⟩
        · cases hx; exact ⟨_, _, _, rfl, by simp, b2⟩
        · cases hx; exact ⟨_, _, _, rfl, by simp, b3⟩
        · cases hx; exact ⟨_, _, _, rfl, by simp, b4⟩
        · cases hx; exact ⟨_, _, _, rfl, by simp, b5⟩
        · cases hx; exact ⟨_, _, _, rfl, by simp, b6⟩
        · omega
      refine Z.wGTup (n := 2) (F'.tup mt) rfl (Z.wGCons (Z.wG8 (Z.wGCons (Z.wG9 (Z.wGNil (turn6 F' (si5.le sub7) (sub7.subset mr5) R hS fine (by omega) hn a1 a2 a3 a4 a5 rfl rfl rfl rfl rfl fun H'' F'' => ⟨_, _, rfl, F''⟩))))))
    obtain ⟨v8, v9, rfl, F'⟩ := r
    replace F' := F'.sub sub7
    clear FC F6 F5
    walk_at "z"
    rename_i p1 G1 g1 p2 G2 g2
    have e1w : ([V.str (rw0 ++ (" " : Str) ++ Str.ofString (toString st))] : List V) = [rw0 ++ (" " : Str) ++ Str.ofString (toString st)].map V.str := rfl
    have ewr : ([V.str ("0" : Str)] : List V) = [("0" : Str)].map V.str := rfl
    rw [Z.cut_to n, ← List.map_take, e1w] at g2
    refine Z.wCatL g2 (.tail _ (.head _)) (.head _) (by rw [List.length_map, List.length_take]; simp; omega) fun p3 G3 g3 => ?_
    walk_at "z"
    rename_i p4 G4 g4
    rw [show (some ((n : Int) + 1) : Option Int) = some (((n + 1 : Nat) : Nat) : Int) from rfl, Z.cut_from (n + 1), ← List.map_drop, ← List.map_append] at g4
    refine Z.wCatL g4 (.tail _ (.head _)) (.head _) (by simp; omega) fun p5 G5 g5 => ?_
    rw [← List.map_append, set_cut (by omega)] at g5
    walk_at "z"
    rename_i p6 G6 g6
    rw [ewr] at g6
    refine Z.wCatL g6 (.tail _ (.head _)) (.head _) (by rw [List.length_map, List.length_set]; simp; omega) fun p7 G7 g7 => ?_
    rw [← List.map_append] at g7
    obtain ⟨_, _, _, _, ⟨z1, z2, z3, z4, z5⟩, _⟩ := bad6 er (hne _ cm) (h99 _ cm) s1 s2 s3 f1 f3 f4
    have fineW := (fine.set (n := n) z1 z2 z3).snoc (z := ("0" : Str)) (by rw [List.length_set]; omega) (by decide) (by decide) (by decide +kernel)
    have lenW : (rs.set n (rw0 ++ (" " : Str) ++ Str.ofString (toString st)) ++ [("0" : Str)]).length = rs.length + 1 := by rw [List.length_append, List.length_set, List.length_singleton]
    obtain ⟨b1, b2⟩ := bad_at (W := rs.set n (rw0 ++ (" " : Str) ++ Str.ofString (toString st)) ++ [("0" : Str)]) (n := n) R hS (by omega) (fun j hj => by rw [getD_snoc (by rw [List.length_set]; omega)]; exact getD_set_ne (by omega)) (by rw [getD_snoc (by rw [List.length_set]; omega), getD_set_eq (by omega)]; exact z4)
    have hsumW := TR.sum_le fun w hw => (fineW.2.2 w hw).2.1
    walk_at "z"
    refine Z.wJoin (g7.lst List.mem_cons_self) (by rw [e1n]; have e0 : ("0" : Str).length = 1 := (by decide); omega) ?_
    walk_at "z"
    refine read_bad g7 (si5.le (by walk_at "zsub")) fineW (by omega) (by omega) b1 b2 fun v L6 H6 s6 dv F6 => ?_
    walk_at "z"
    rename_i p8 G8 g8
    refine Z.wNeSame g8 (dv.mono fun _ h => .tail _ h) (.lst List.mem_cons_self (.cons (.int _) (.cons (.str ("course" : Str)) .nil))) (Z.Sh.lst (Z.ShA.cons (Z.Sh.int _) (Z.ShA.cons (show Z.Sh (.str ("course" : Str)) 0 from ⟨by decide +kernel, Nat.le_refl _⟩) Z.ShA.nil))).ok ?_
    have sub8 : L5.Sublist L6 := List.Sublist.trans (by walk_at "zsub") s6
    clear g7 g6 g5 g4 g3 g2
    have h8r : rs.length ≤ 8 := by omega
    have mr6 := sub8.subset mr5
    have si6 := si5.le sub8
    have hm6 := sub8.subset hm5
    walk_at "z"
    replace F6 := g8.sub (List.sublist_cons_self _ _)
    have cp1 := sum_pos (hne _ cm) fun b hb => (h99 _ cm b hb).1
    have f8 := TX.len_app (rw0 ++ (" " : Str)) rw0
    have f9 := TX.len_app rw0 (" " : Str)
    refine wIfJ (fun H' => ∃ L7, L6.Sublist L7 ∧ Z.Fx H' L7) (fun h1 R0 k0 => ?_) (fun _ => ⟨_, .refl _, F6⟩) ?_
    · rw [List.length_map] at h1
      have hcw := (hwr _ cm).1
      have hc48 := h48 _ cm
      obtain ⟨d1, d2⟩ := twice (ns := ns) er (hne _ cm) (h99 _ cm) hcw.1 hc48.1 hc48.2
      have l1 : 10 ∉ TL.tl (rw0 ++ (" " : Str) ++ rw0) := by
        rw [TL.tl_append, TL.tl_append, show TL.tl (" " : Str) = [32] from by decide]
        simp only [List.mem_append, not_or]
        exact ⟨⟨f1, by decide⟩, f1⟩
      have l2 : PyData.strOk (rw0 ++ (" " : Str) ++ rw0) = true := TW.ok_app (TW.ok_app f3 (by decide +kernel)) f3
      obtain ⟨b1, b2⟩ := long_at R hS hn (by omega) d1 d2 hc.symm cp1
      walk_at "z"
      refine use__law_with F6 mr6 (by omega) (by omega) (by omega) (fun w hw => by have := (fine.2.2 w hw).2.1; omega) fun H7 F7 => ?_
      walk_at "z"
      refine read_bad F7 si6 (fine.set l1 (by omega) l2) (by rw [List.length_set]; omega) (by rw [List.length_set]; omega) b1 b2 fun v L8 H8 s8 dv8 F8 => ?_
      walk_at "z"
      rename_i p10 G10 g10
      have emx : (if (1 : Int) > (n : Int) then (1 : Int) else (n : Int)) = ((max n 1 : Nat) : Int) := by
        by_cases h : 1 > n
        · rw [if_pos (by omega), Nat.max_eq_right (by omega)]; rfl
        · rw [if_neg (by omega), Nat.max_eq_left (by omega)]
      rw [emx] at g10
      refine Z.wNeSame g10 (dv8.mono fun _ h => .tail _ h) (.lst List.mem_cons_self (.cons (.int _) (.cons (.str ("length" : Str)) .nil))) (Z.Sh.lst (Z.ShA.cons (Z.Sh.int _) (Z.ShA.cons (show Z.Sh (.str ("length" : Str)) 0 from ⟨by decide +kernel, Nat.le_refl _⟩) Z.ShA.nil))).ok ?_
      exact ⟨_, rfl, k0 _ ⟨L8, s8, g10.sub (List.sublist_cons_self _ _)⟩⟩
    rintro H7 ⟨L7, s7, F7⟩
    have sub9 := sub8.trans s7
    have mr7 := sub9.subset mr5
    have si7 := si5.le sub9
    have hm7 := sub9.subset hm5
    clear g8 F6 dv
    walk_at "z"
    have ltxt := TR.join_len rs hl
    have ltxt2 : rs.length * (192 + 1) ≤ 8 * 193 := Nat.mul_le_mul_right _ h8r
    refine Z.wAddSS (by omega) (by decide) ?_
    rw [join_more fine.1]
    have fineM := fine.snoc (z := ("" : Str)) (by omega) (by decide) (by decide) (by decide +kernel)
    obtain ⟨c1, c2⟩ := bad_at (W := rs ++ [("" : Str)]) (n := rs.length) (w := ("shape" : Str)) R hS (by omega) (fun j hj => getD_snoc hj) (by rw [getD_last]; exact row_shape (by decide +kernel))
    walk_at "z"
    refine read_bad F7 si7 fineM (by simp; omega) (by simp) c1 c2 fun v10 L9 H9 s9 dv9 F9 => ?_
    have sub10 := sub9.trans s9
    have mr9 := sub10.subset mr5
    have si9 := si5.le sub10
    obtain ⟨r0, er0, hat0⟩ : ∃ r0, rs.getD 0 "" = r0 ∧ atI (rs.map V.str) 0 = some (V.str r0) := ⟨_, rfl, atI_nat (j := 0) (by rw [List.getElem?_map, List.getD_eq_getElem?_getD, List.getElem?_eq_getElem (by omega)]; rfl)⟩
    have hr0 : r0 ∈ rs := by
      rw [← er0, List.getD_eq_getElem?_getD, List.getElem?_eq_getElem (by omega)]
      exact List.getElem_mem _
    walk_at "z"
    rename_i p11 G11 g11
    rw [List.length_map] at g11
    refine Z.wNeSame g11 (dv9.mono fun _ h => .tail _ h) (.lst List.mem_cons_self (.cons (.int _) (.cons (.str ("shape" : Str)) .nil))) (Z.Sh.lst (Z.ShA.cons (Z.Sh.int _) (Z.ShA.cons (show Z.Sh (.str ("shape" : Str)) 0 from ⟨by decide +kernel, Nat.le_refl _⟩) Z.ShA.nil))).ok ?_
    replace F9 := g11.sub (List.sublist_cons_self _ _)
    clear g11
    walk_at "z"
    rename_i q1 A1 a1 q2 A2 a2 q3 A3 a3
    have efl : (List.replicate (Int.toNat 60) [V.str r0]).flatten = (List.replicate 60 r0).map V.str := rfl
    rw [efl] at a3
    refine Z.wCatL a3 (.tail _ (.tail _ (.head _))) (.head _) (by simp) fun q4 A4 a4 => ?_
    rw [show ([V.str ("" : Str)] : List V) = [("" : Str)].map V.str from rfl, ← List.map_append] at a4
    have finR := fine.rep hr0
    have finN : Fine ([("" : Str)] ++ List.replicate 60 r0) := finR.cons (by simp) (by decide) (by decide) (by decide +kernel)
    have hsN := TR.sum_le fun w hw => (finN.2.2 w hw).2.1
    have hsR := TR.sum_le fun w hw => (finR.2.2 w hw).2.1
    have lN : ([("" : Str)] ++ List.replicate 60 r0).length = 61 := by simp
    have lR : (List.replicate 60 r0).length = 60 := by simp
    refine Z.wJoin (a4.lst List.mem_cons_self) (by rw [e1n]; omega) ?_
    walk_at "z"
    refine read_many a4 (si9.le (by walk_at "zsub")) finN (by omega) fun v11 L11 H11 s11 dv11 F11 => ?_
    have sub11 : L5.Sublist L11 := sub10.trans (List.Sublist.trans (by walk_at "zsub") s11)
    have mr11 := sub11.subset mr5
    have si11 := si5.le sub11
    clear a4 a3 a2 a1
    walk_at "z"
    rename_i p12 G12 g12
    refine Z.wNeSame g12 (dv11.mono fun _ h => .tail _ h) (.lst List.mem_cons_self (.cons (.int _) (.cons (.str ("many" : Str)) .nil))) (Z.Sh.lst (Z.ShA.cons (Z.Sh.int _) (Z.ShA.cons (show Z.Sh (.str ("many" : Str)) 0 from ⟨by decide +kernel, Nat.le_refl _⟩) Z.ShA.nil))).ok ?_
    replace F11 := g12.sub (List.sublist_cons_self _ _)
    clear g12
    walk_at "z"
    rename_i q5 A5 a5 q6 A6 a6
    rw [efl] at a6
    refine Z.wJoin (a6.lst List.mem_cons_self) (by rw [e1n]; omega) ?_
    walk_at "z"
    have R60 := rep_rows R (by omega) 60
    have hS60 : ∀ cs ∈ List.replicate 60 (crs.getD 0 []), cs.sum = ((List.replicate 60 (crs.getD 0 [])).getD 0 []).sum := fun cs hcs => by
      rw [List.eq_of_mem_replicate hcs]; rfl
    rw [er0] at R60
    refine read_good a6 (si11.le (by walk_at "zsub")) finR (by omega) (all_good R60 hS60) fun y12 L12 H12 s12 wi12 F12 => ?_
    have sub12 : L5.Sublist L12 := sub11.trans (List.Sublist.trans (by walk_at "zsub") s12)
    have si12 := si5.le sub12
    obtain ⟨dy, py, my, tpy⟩ := id wi12
    clear a6 a5
    walk_at "z"
    refine Z.wIsiOwn T.i_Wall (F12.get my) ?_
    walk_at "z"
    refine Z.wLenOwn (F12.get my) ⟨_, rfl, L12, y12, x, (List.replicate 60 r0).map numsOf, rfl, F12, wi12, _, rfl, by omega, by rw [List.length_map, lR]; decide, ?_⟩
    walk_at "z"
    refine use__law_read F12 si12 .non trivial (fun w hw => by cases hw) (fun w he v13 L13 H13 s13 dv13 F13 => ?_) (fun he => by cases he) (fun he => by cases he)
    obtain rfl : ("text" : Str) = w := by injection he
    walk_at "z"
    rename_i p13 G13 g13
    refine Z.wEqSame g13 (dv13.mono fun _ h => .tail _ h) (.lst List.mem_cons_self (.cons (.int _) (.cons (.str ("text" : Str)) .nil))) (Z.Sh.lst (Z.ShA.cons (Z.Sh.int _) (Z.ShA.cons (show Z.Sh (.str ("text" : Str)) 0 from ⟨by decide +kernel, Nat.le_refl _⟩) Z.ShA.nil))).ok ?_
    exact q _ (g13.sub ((sub5.trans sub12).trans (s13.trans (List.sublist_cons_self _ _))))
theorem ok__law_texts (T : Txt K mg c_BadCourse c_BadJoints c_BadLength c_BadStock c_BadText c_BadWall c_Stock c_Wall) : Z.Ok CX0 P w K mg base "_law_texts" 11 ["_law_hand_here", "_law_stock", "_law_courses", "_law_stranger"] [] (sp__law_texts K c_Stock c_Wall) := by
  obtain ⟨f, fd, F, g⟩ := T.d__law_texts
  exact Z.mkOk F g (F.binds (ps := ["_law_hand_here", "_law_stock", "_law_courses", "_law_stranger"]) fun _ _ _ _ _ _ us hl => match us, hl with | [_, _, _, _], _ => rfl) (fn__law_texts T F)
theorem use__law_texts {cS cW : Addr} {K : PySem.W.Frag} {H : Hp} {Q : VK} {E : XK} {L : List Z.En} {l hc x cp : Addr} {vs : List V} {crs : List (List Int)} {ns : List Int} {lap r st : Int} (F : Z.Fx H L) (hm : Z.En.hand l hc ∈ L) (si : StockIn cS L x ns lap r) (mc : Z.En.ob cp (.lst vs) ∈ L)
  (al : Z.Al2 (TupOf L) vs crs) (hw : WRows ns crs) (h8 : crs.length ≤ 8) (h48 : ∀ cs ∈ crs, cs.length ≤ 48 ∧ cs.sum ≤ 48) (hns : ∀ n ∈ ns, 1 ≤ n ∧ n ≤ 8) (s1 : st ∉ ns) (s2 : 1 ≤ st) (s3 : st ≤ 8) (q : ∀ H', Z.Fx H' L → Q (.bl true) H') : sp__law_texts K cS cW [.ref l, .ref x, .ref cp, .int st] H Q E :=
  ⟨_, _, _, _, rfl, L, l, hc, x, cp, vs, crs, ns, lap, r, st, F, rfl, hm, rfl, si, rfl, mc, al, hw, h8, h48, hns, rfl, s1, s2, s3, q⟩
theorem sc__are_joints : FnScope ["joints", "length", "left", "right", "joint"] ["joints", "length"] (defScope s__are_joints) := ⟨rfl, rfl, rfl, by decide +kernel, rfl, by decide +kernel, by decide +kernel⟩
/-- whole numbers from 1 to n - 1, ascending -/
def goodJ (n : Int) : Option (List V) → Bool
  | none => false
  | some xs => Z.inLen 0 (n - 1) (some xs) && xs.all (fun x => Z.inB x (.int 1) (.int (n - 1))) && Z.asc (xs.map intV)
def sp__are_joints (K : PySem.W.Frag) : Sp := Z.Sp2 fun a b H Q E => ∃ (L : List Z.En) (o : Option (List V)) (n : Int), b = .int n ∧ 1 ≤ n ∧ n ≤ 400 ∧ Z.Fx H L ∧ Z.SeqIs L a o ∧ (∀ xs, o = some xs → ∀ x ∈ xs, ∃ k, Z.Thing L x k) ∧ ∀ H', Z.Fx H' L → Q (.bl (goodJ n o)) H'
theorem fn__are_joints (T : Txt K mg c_BadCourse c_BadJoints c_BadLength c_BadStock c_BadText c_BadWall c_Stock c_Wall) {f : Addr} {fd : FuncData} (F : Fun K "_are_joints" "_are_joints" s__are_joints f fd) : FnOk P w K mg base CX0 2 f fd ["joints", "length"] (sp__are_joints K) := by
  have O_is_sequence := ok_is_sequence (P := P) (w := w) (base := base) T
  have O_is_whole_1 := ok_is_whole_1 (P := P) (w := w) (base := base) T
  have O_is_whole_2 := ok_is_whole_2 (P := P) (w := w) (base := base) T
  have O_is_whole_3 := ok_is_whole_3 (P := P) (w := w) (base := base) T
  refine F.ok sc__are_joints (fun vs H Q E h => ?_) (fun cdv A outer s H vs Q E hr h => ?_)
  · obtain ⟨a, b, rfl, _⟩ := h; rfl
  · obtain ⟨a, b, rfl, h⟩ := h
    refine ⟨_, (pss_cons (ps_if (pt_not (Z.pt_truN (Z.pe_callO O_is_sequence (by rfl) (hr.mono (by decide)) pass0 (pa_cons (pv 0) (pa_cons pe_int (pa_cons (pe_op op_sub (pv 1) pe_int) pa_nil))))))
        (pss_one (ps_ret pe_bl))
        pss_nil)
      (pss_cons (ps_if (pt_not (Z.pt_truN (pe_callB (cr_all rfl) (by rfl) T.b_all (by decide +kernel) (pa_cons (by exact (pe_lc (own := [("joint", 4)]) (g := (gName 4)) (by rfl) sc__are_joints.nd (Z.pi_seq (pv 0)) (blkOk_by (own := [("joint", 4)]) (N := ["joints", "length", "left", "right", "joint"]) (sc := defScope s__are_joints) (by decide +kernel)) (fun _ _ _ _ _ => (by exact (pg_name (i := 4) sc__are_joints.nd rfl (by first | exact Or.inl rfl | exact Or.inr rfl)))) (fun _ _ _ _ _ => (by exact pts_nil)) (fun _ _ _ _ _ => (by exact (Z.pe_callO O_is_whole_3 (by rfl) (hr.mono (by decide)) pass0 (pa_cons (pv 4) (pa_cons pe_int (pa_cons (pe_op op_sub (pv 1) pe_int) pa_nil)))))))) pa_nil))))
        (pss_one (ps_ret pe_bl))
        pss_nil)
      (pss_one (ps_ret (pe_callB (cr_all rfl) (by rfl) T.b_all (by decide +kernel) (pa_cons (by exact (pe_lc (own := [("left", 2), ("right", 3)]) (g := (gTup K 2 (gCons (gName 2) (gCons (gName 3) gNil)))) (by rfl) sc__are_joints.nd (pi_zipA (by rfl) T.b_zip (pa_cons (pv 0) (pa_cons (pe_slice Z.zSlA (pv 0) (po_some pe_int) po_none) pa_nil))) (blkOk_by (own := [("left", 2), ("right", 3)]) (N := ["joints", "length", "left", "right", "joint"]) (sc := defScope s__are_joints) (by decide +kernel)) (fun _ _ _ _ _ => (by exact (pg_tup (by rfl) (pgs_cons (pg_name (i := 2) sc__are_joints.nd rfl (by first | exact Or.inl rfl | exact Or.inr rfl)) (pgs_cons (pg_name (i := 3) sc__are_joints.nd rfl (by first | exact Or.inl rfl | exact Or.inr rfl)) pgs_nil))))) (fun _ _ _ _ _ => (by exact pts_nil)) (fun _ _ _ _ _ => (by exact (pe_cmpR Z.zLt (pv 2) (pv 3) (nomark _)))))) pa_nil)))))), ?_⟩
    try dsimp only [cxOf, Cx.nox, Cx.wish]
    refine Z.at_start (σ' := [some a, some b, none, none, none]) rfl ?_
    obtain ⟨L, o, n, rfl, n1, n4, F, hs, ht, k⟩ := h
    cases o with
    | none =>
      walk_at "z"
      rename_i H1 F1
      exact k _ F1
    | some xs =>
      have ht := ht xs rfl
      walk_at "z"
      rename_i H1 F1
      refine Z.wIf (fun hl => ?_) (fun hl => ?_)
      · walk_at "z"
        have e := k _ F1
        have hl' : Z.inLen 0 (n - 1) (some xs) = false := by simpa using hl
        simpa [goodJ, hl'] using e
      have hl' : Z.inLen 0 (n - 1) (some xs) = true := by simpa using hl
      walk_at "z"
      refine Z.wLcS hs F1 (fun i acc L' => L' = L ∧ acc = (xs.take i).map fun x => V.bl (Z.inB x (.int 1) (.int (n - 1)))) ⟨rfl, rfl⟩ (fun i acc L' r e he => r.1 ▸ he) ?_ ?_
      · rintro i x D H2 acc L' hx ⟨rfl, rfl⟩ F2
        obtain ⟨kd, tx⟩ := ht x (List.mem_of_getElem? hx)
        have hkx := (tx.cons (e := .ob D (.lst ((xs.take i).map fun x => V.bl (Z.inB x (.int 1) (.int (n - 1))))))).has (K := K) F2
        walk_at "zw"
        walk_at "z"
        refine ⟨rfl, ?_⟩
        walk_at "z"
        refine Z.lcPut F2 (by rw [List.length_map, List.length_take]; have := Z.line_big; have e : decide ((xs.length : Int) ≤ n - 1) = true := by simp only [Z.inLen, Bool.and_eq_true] at hl'; exact hl'.2
                              have e := of_decide_eq_true e; omega) ⟨rfl, (Z.take_succ_map hx).symm⟩
      rintro D acc L' H2 F2 ⟨rfl, rfl⟩
      rw [List.take_length] at F2
      have e0 : (xs.map fun x => V.bl (Z.inB x (.int 1) (.int (n - 1)))) = (xs.map fun x => Z.inB x (.int 1) (.int (n - 1))).map V.bl := by rw [List.map_map]; rfl
      rw [e0] at F2
      walk_at "z"
      refine Z.wAll (F2.lst List.mem_cons_self) ?_
      walk_at "z"
      have ea : (xs.map fun x => Z.inB x (.int 1) (.int (n - 1))).all id = xs.all fun x => Z.inB x (.int 1) (.int (n - 1)) := by rw [List.all_map]; rfl
      rw [ea]
      refine Z.wIf (fun hb => ?_) (fun hb => ?_)
      · walk_at "z"
        have e := k _ (F2.sub (by walk_at "zsub"))
        have hb' : (xs.all fun x => Z.inB x (.int 1) (.int (n - 1))) = false := by simpa using hb
        simpa [goodJ, hl', hb'] using e
      have hb' : (xs.all fun x => Z.inB x (.int 1) (.int (n - 1))) = true := by simpa using hb
      have F3 := F2.sub (L' := L') (by walk_at "zsub")
      clear F2
      obtain ⟨ns, rfl⟩ := Z.ints_of hb'
      walk_at "z"
      refine Z.wSlAS hs (.refl _) F3 fun p H3 N hq F4 => ?_
      rw [Z.cut_tail] at hq
      walk_at "z"
      refine Z.wLcZ hq F4 (fun i acc L2 => (∀ x ∈ N ++ L', x ∈ L2) ∧ (N ++ L').Sublist L2 ∧ acc = ((ns.zip ns.tail).take i).map fun p => V.bl (decide (p.1 < p.2))) ⟨fun _ h => h, .refl _, rfl⟩ (fun i acc L' r => r.1) ?_ ?_
      · rintro i x y T D H5 acc L2 hx hy ⟨hk, hsub, rfl⟩ F5
        obtain ⟨u, rfl, hu⟩ := Z.int_of_map' hx
        rw [← List.map_tail] at hy
        obtain ⟨v, rfl, hv⟩ := Z.int_of_map' hy
        walk_at "zw"
        walk_at "z"
        refine ⟨rfl, ?_⟩
        walk_at "z"
        have hz : (ns.zip ns.tail)[i]? = some (u, v) := by
          rw [List.getElem?_zip_eq_some]
          exact ⟨hu, hv⟩
        have F6 := F5.perm (List.Perm.swap _ _ _)
        have hlen : ns.length ≤ 399 := by
          simp only [Z.inLen, Bool.and_eq_true, List.length_map] at hl'
          have e := of_decide_eq_true hl'.2
          omega
        refine Z.lcPut F6 (by rw [List.length_map, List.length_take, List.length_zip]; have := Z.line_big; omega) ⟨fun x hx => List.mem_cons_of_mem _ (hk x hx), hsub.cons _, (Z.take_succ_map hz).symm⟩
      · rintro D acc L2 H5 F5 ⟨hk, hsub, rfl⟩
        have en : min (ns.map V.int).length (ns.map V.int).tail.length = (ns.zip ns.tail).length := by rw [List.length_zip, List.length_tail, List.length_tail, List.length_map]
        rw [en, List.take_length] at F5
        have e1 : ((ns.zip ns.tail).map fun p => V.bl (decide (p.1 < p.2))) = ((ns.zip ns.tail).map fun p => decide (p.1 < p.2)).map V.bl := by rw [List.map_map]; rfl
        rw [e1] at F5
        walk_at "z"
        refine Z.wAll (F5.lst List.mem_cons_self) ?_
        have e2 : ((ns.zip ns.tail).map fun p => decide (p.1 < p.2)).all id = Z.asc ns := by rw [List.all_map, ← Z.asc_zip]; rfl
        rw [e2]
        have F6 := (F5.sub (L' := L2) (by walk_at "zsub")).sub hsub
        have e3 := k _ (F6.sub (L' := L') (List.sublist_append_right _ _))
        have e4 : goodJ n (some (ns.map V.int)) = Z.asc ns := by
          show (Z.inLen 0 (n - 1) (some (ns.map V.int)) && (ns.map V.int).all (fun x => Z.inB x (.int 1) (.int (n - 1))) && Z.asc ((ns.map V.int).map intV)) = _
          rw [hl', hb', intV_map]
          rfl
        rw [e4] at e3
        exact e3
theorem ok__are_joints (T : Txt K mg c_BadCourse c_BadJoints c_BadLength c_BadStock c_BadText c_BadWall c_Stock c_Wall) : Z.Ok CX0 P w K mg base "_are_joints" 2 ["joints", "length"] [] (sp__are_joints K) := by
  obtain ⟨f, fd, F, g⟩ := T.d__are_joints
  exact Z.mkOk F g (F.binds (ps := ["joints", "length"]) fun _ _ _ _ _ _ us hl => match us, hl with | [_, _], _ => rfl) (fn__are_joints T F)
theorem use__are_joints {H : Hp} {Q : VK} {E : XK} {L : List Z.En} {a : V} {o : Option (List V)} {n : Int} (F : Z.Fx H L) (h1 : 1 ≤ n) (h4 : n ≤ 400) (s : Z.SeqIs L a o) (ht : ∀ xs, o = some xs → ∀ x ∈ xs, ∃ k, Z.Thing L x k) (k : ∀ H', Z.Fx H' L → Q (.bl (goodJ n o)) H') : sp__are_joints K [a, .int n] H Q E := ⟨_, _, rfl, L, o, n, rfl, h1, h4, F, s, ht, k⟩
theorem sc_check_length : FnScope ["length", "high"] ["length", "high"] (defScope s_check_length) := ⟨rfl, rfl, rfl, by decide +kernel, rfl, by decide +kernel, by decide +kernel⟩
def sp_check_length (K : PySem.W.Frag) (cL : Addr) : Sp := Z.Sp2 fun a b H Q E => ∃ (k : Z.Kd) (hi : Int), b = .int hi ∧ Z.HasK K H a k ∧ (Z.inB a (.int 1) (.int hi) = false → E (.ref cL) none H) ∧ (Z.inB a (.int 1) (.int hi) = true → Q a H)
theorem fn_check_length (T : Txt K mg c_BadCourse c_BadJoints c_BadLength c_BadStock c_BadText c_BadWall c_Stock c_Wall) {f : Addr} {fd : FuncData} (F : FunD K "check_length" "check_length" (defArgs s_check_length) (defBody s_check_length) (defScope s_check_length) [.int 400] [] f fd) : FnOk P w K mg base (L2.CX P w) 2 f fd ["length", "high"] (sp_check_length K c_BadLength) := by
  have O_is_whole_1 := ok_is_whole_1 (P := P) (w := w) (base := base) T
  have O_is_whole_2 := ok_is_whole_2 (P := P) (w := w) (base := base) T
  have O_is_whole_3 := ok_is_whole_3 (P := P) (w := w) (base := base) T
  refine F.ok (CX := (L2.CX P w)) sc_check_length (fun vs H Q E h => ?_) (fun cdv A outer s H vs Q E hr h => ?_)
  · obtain ⟨a, b, rfl, _⟩ := h; rfl
  · obtain ⟨a, b, rfl, h⟩ := h
    have TK := takes_of (X := cxOf (L2.CX P w) P w K mg base ["length", "high"] "check_length" (defScope s_check_length) f cdv A outer s H E) rfl rfl rfl rfl
    refine ⟨_, (pss_cons (ps_if (pt_not (Z.pt_truN (Z.pe_callO O_is_whole_3 (by rfl) (hr.mono (by decide)) pass0 (pa_cons (pv 0) (pa_cons pe_int (pa_cons (pv 1) pa_nil))))))
        (pss_one (ps_raise (by rfl) TK (Z.pmk_err00 T.y_BadLength T.g_BadLength (by rfl))))
        pss_nil)
      (pss_one (ps_ret (pv 0)))), ?_⟩
    try dsimp only [cxOf, Cx.nox, Cx.wish]
    refine Z.at_start (σ' := [some a, some b]) rfl ?_
    obtain ⟨k, hi, rfl, hk, kE, kQ⟩ := h
    walk_at "z"
    refine Z.wIf (fun hb => ?_) (fun hb => ?_)
    · walk_at "z"
      exact kE (by simpa using hb)
    · walk_at "z"
      exact kQ (by simpa using hb)
theorem ok_check_length_1 (T : Txt K mg c_BadCourse c_BadJoints c_BadLength c_BadStock c_BadText c_BadWall c_Stock c_Wall) : Z.Ok (L2.CX P w) P w K mg base "check_length" 2 ["length", "high"] [.int 400] (sp_check_length K c_BadLength) := by
  obtain ⟨f, fd, F, g⟩ := T.d_check_length
  obtain ⟨ds, v, b⟩ := F.binds1 (ps := ["length", "high"]) 1 0 (by decide) rfl fun T kV doc pm an cdv ct us its h1 h2 => match us, h1, its, h2 with | [_], _, [_], _ => ⟨_, rfl, rfl⟩
  exact ⟨f, fd, ds, g, F.kp, b, v, fn_check_length T F⟩
theorem ok_check_length_2 (T : Txt K mg c_BadCourse c_BadJoints c_BadLength c_BadStock c_BadText c_BadWall c_Stock c_Wall) : Z.Ok (L2.CX P w) P w K mg base "check_length" 2 ["length", "high"] [] (sp_check_length K c_BadLength) := by
  obtain ⟨f, fd, F, g⟩ := T.d_check_length
  obtain ⟨ds, v, b⟩ := F.binds1 (ps := ["length", "high"]) 2 1 (by decide) rfl fun T kV doc pm an cdv ct us its h1 h2 => match us, h1, its, h2 with | [_, _], _, [_], _ => ⟨_, rfl, rfl⟩
  exact ⟨f, fd, ds, g, F.kp, b, v, fn_check_length T F⟩
theorem use_check_length {cL : Addr} {H : Hp} {Q : VK} {E : XK} {a : V} {hi : Int} {k : Z.Kd} (hk : Z.HasK K H a k) (kE : Z.inB a (.int 1) (.int hi) = false → E (.ref cL) none H) (kQ : Z.inB a (.int 1) (.int hi) = true → Q a H) : sp_check_length K cL [a, .int hi] H Q E := ⟨_, _, rfl, k, hi, rfl, hk, kE, kQ⟩
theorem sc_course_from : FnScope ["joints", "length", "left", "right"] ["joints", "length"] (defScope s_course_from) := ⟨rfl, rfl, rfl, by decide +kernel, rfl, by decide +kernel, by decide +kernel⟩
/-- the bricks between the joints -/
def difs (js : List Int) (n : Int) : List Int := ((0 :: js).zip (js ++ [n])).map fun p => p.2 - p.1
def sp_course_from (K : PySem.W.Frag) (cL cJ : Addr) : Sp := Z.Sp2 fun a b H Q E => ∃ (L : List Z.En) (o : Option (List V)) (n : Int), b = .int n ∧ Z.Fx H L ∧ Z.SeqIs L a o ∧ (∀ xs, o = some xs → ∀ x ∈ xs, ∃ k, Z.Thing L x k) ∧
  (¬ (1 ≤ n ∧ n ≤ 400) → E (.ref cL) none H) ∧ (∀ H', 1 ≤ n → n ≤ 400 → goodJ n o = false → Z.Fx H' L → E (.ref cJ) none H') ∧
  (∀ (js : List Int) (t : Addr) (H' : Hp), 1 ≤ n → n ≤ 400 → goodJ n o = true → o = some (js.map V.int) → Z.Fx H' (.ob t (.tup ((difs js n).map V.int)) :: L) → Q (.ref t) H')
theorem fn_course_from (T : Txt K mg c_BadCourse c_BadJoints c_BadLength c_BadStock c_BadText c_BadWall c_Stock c_Wall) {f : Addr} {fd : FuncData} (F : Fun K "course_from" "course_from" s_course_from f fd) : FnOk P w K mg base (L2.CX P w) 3 f fd ["joints", "length"] (sp_course_from K c_BadLength c_BadJoints) := by
  have O__are_joints := ok__are_joints (P := P) (w := w) (base := base) T
  have O_check_length_1 := ok_check_length_1 (P := P) (w := w) (base := base) T
  have O_check_length_2 := ok_check_length_2 (P := P) (w := w) (base := base) T
  refine F.okX sc_course_from (fun vs H Q E h => ?_) (fun cdv A outer s H vs Q E hr h => ?_)
  · obtain ⟨a, b, rfl, _⟩ := h; rfl
  · obtain ⟨a, b, rfl, h⟩ := h
    have TK := takes_of (X := cxOf (L2.CX P w) P w K mg base ["joints", "length", "left", "right"] "course_from" (defScope s_course_from) f cdv A outer s H E) rfl rfl rfl rfl
    refine ⟨_, (pss_cons (ps_expr (Z.pe_callO O_check_length_1 (by rfl) (hr.mono (by decide)) (Z.passE TK) (pa_cons (pv 1) pa_nil)))
      (pss_cons (ps_if (pt_not (Z.pt_truN (Z.pe_callO O__are_joints (by rfl) (hr.mono (by decide)) pass0 (pa_cons (pv 0) (pa_cons (pv 1) pa_nil)))))
        (pss_one (ps_raise (by rfl) TK (Z.pmk_err00 T.y_BadJoints T.g_BadJoints (by rfl))))
        pss_nil)
      (pss_one (ps_ret (pe_callTy Z.zTuple (by rfl) T.b_tuple (by decide +kernel) (pa_cons (by exact (pe_lc (own := [("left", 2), ("right", 3)]) (g := (gTup K 2 (gCons (gName 2) (gCons (gName 3) gNil)))) (by rfl) sc_course_from.nd (pi_zipA (by rfl) T.b_zip (pa_cons (pe_lst (pa_cons pe_int (StX.pa_star (pv 0) pa_nil))) (pa_cons (pe_lst (StX.pa_star (pv 0) (pa_cons (pv 1) pa_nil))) pa_nil))) (blkOk_by (own := [("left", 2), ("right", 3)]) (N := ["joints", "length", "left", "right"]) (sc := defScope s_course_from) (by decide +kernel)) (fun _ _ _ _ _ => (by exact (pg_tup (by rfl) (pgs_cons (pg_name (i := 2) sc_course_from.nd rfl (by first | exact Or.inl rfl | exact Or.inr rfl)) (pgs_cons (pg_name (i := 3) sc_course_from.nd rfl (by first | exact Or.inl rfl | exact Or.inr rfl)) pgs_nil))))) (fun _ _ _ _ _ => (by exact pts_nil)) (fun _ _ _ _ _ => (by exact (pe_op op_sub (pv 3) (pv 2)))))) pa_nil)))))), ?_⟩
    try dsimp only [cxOf, Cx.nox, Cx.wish]
    refine Z.at_start (σ' := [some a, some b, none, none]) rfl ?_
    obtain ⟨L, o, n, rfl, F, hs, ht, kL, kJ, kQ⟩ := h
    walk_at "z"
    refine use_check_length (.int n) (fun hb => kL (by simpa [Z.inB] using hb)) (fun hb => ?_)
    have hn : 1 ≤ n ∧ n ≤ 400 := by simpa [Z.inB] using hb
    walk_at "z"
    refine use__are_joints F hn.1 hn.2 hs ht fun H1 F1 => ?_
    walk_at "z"
    refine Z.wIf (fun hg => ?_) (fun hg => ?_)
    · walk_at "z"
      exact kJ _ hn.1 hn.2 (by simpa using hg) F1
    have hg' : goodJ n o = true := by simpa using hg
    cases o with
    | none => exact absurd hg' (by simp [goodJ])
    | some xs =>
      have hin := hg'
      simp only [goodJ, Bool.and_eq_true] at hin
      obtain ⟨js, rfl⟩ := Z.ints_of hin.1.2
      have hjl : js.length ≤ 399 := by
        have e := hin.1.1
        simp only [Z.inLen, Bool.and_eq_true, List.length_map] at e
        have := of_decide_eq_true e.2
        omega
      walk_at "z"
      refine Z.wStarL ?_
      walk_at "z"
      refine Z.starSq hs F1 ?_
      walk_at "z"
      rename_i p1 H2 F2
      refine Z.wStarL ?_
      walk_at "z"
      refine Z.starSq (hs.mono fun e h => List.mem_cons_of_mem _ h) F2 ?_
      walk_at "z"
      rename_i p2 H3 F3
      have e1 : V.int 0 :: (js.map V.int ++ []) = (0 :: js).map V.int := by rw [List.append_nil]; rfl
      have e2 : js.map V.int ++ [V.int n] = (js ++ [n]).map V.int := by rw [List.map_append]; rfl
      rw [e1, e2] at F3
      have hz : ((0 :: js).zip (js ++ [n])).length = js.length + 1 := by rw [List.length_zip, List.length_cons, List.length_append]; show min _ (_ + 1) = _; omega
      refine Z.wLcZL (.tail _ List.mem_cons_self) List.mem_cons_self F3 (fun i acc L2 => (∀ x ∈ (Z.En.ob p2 (.lst ((js ++ [n]).map V.int)) :: .ob p1 (.lst ((0 :: js).map V.int)) :: L), x ∈ L2) ∧ L.Sublist L2 ∧ acc = (((0 :: js).zip (js ++ [n])).take i).map fun p => V.int (p.2 - p.1)) ⟨fun _ h => h, .cons _ (.cons _ (.refl _)), rfl⟩ (fun i acc L' r => r.1) ?_ ?_
      · rintro i x y T D H5 acc L2 hx hy ⟨hk, hsub, rfl⟩ F5
        obtain ⟨u, rfl, hu⟩ := Z.int_of_map' hx
        obtain ⟨v, rfl, hv⟩ := Z.int_of_map' hy
        walk_at "zw"
        walk_at "z"
        refine ⟨rfl, ?_⟩
        walk_at "z"
        have hz2 : ((0 :: js).zip (js ++ [n]))[i]? = some (u, v) := by
          rw [List.getElem?_zip_eq_some]
          exact ⟨hu, hv⟩
        have F6 := F5.perm (List.Perm.swap _ _ _)
        refine Z.lcPut F6 (by rw [List.length_map, List.length_take, hz]; have := Z.line_big; omega) ⟨fun x hx => List.mem_cons_of_mem _ (hk x hx), hsub.cons _, (Z.take_succ_map (f := fun p : Int × Int => V.int (p.2 - p.1)) hz2).symm⟩
      · rintro D acc L2 H5 F5 ⟨hk, hsub, rfl⟩
        have en : min ((0 :: js).map V.int).length ((js ++ [n]).map V.int).length = ((0 :: js).zip (js ++ [n])).length := by rw [List.length_zip, List.length_map, List.length_map]
        rw [en, List.take_length] at F5
        have e3 : (((0 :: js).zip (js ++ [n])).map fun p => V.int (p.2 - p.1)) = (difs js n).map V.int := by unfold difs; rw [List.map_map]; rfl
        rw [e3] at F5
        walk_at "z"
        rename_i t H6 F6
        exact kQ js t H6 hn.1 hn.2 hg' rfl (F6.sub ((List.Sublist.cons _ hsub).cons_cons _))
theorem ok_course_from (T : Txt K mg c_BadCourse c_BadJoints c_BadLength c_BadStock c_BadText c_BadWall c_Stock c_Wall) : Z.Ok (L2.CX P w) P w K mg base "course_from" 3 ["joints", "length"] [] (sp_course_from K c_BadLength c_BadJoints) := by
  obtain ⟨f, fd, F, g⟩ := T.d_course_from
  exact Z.mkOk F g (F.binds (ps := ["joints", "length"]) fun _ _ _ _ _ _ us hl => match us, hl with | [_, _], _ => rfl) (fn_course_from T F)
theorem use_course_from {cL cJ : Addr} {H : Hp} {Q : VK} {E : XK} {L : List Z.En} {a : V} {o : Option (List V)} {n : Int} (F : Z.Fx H L) (hs : Z.SeqIs L a o) (ht : ∀ xs, o = some xs → ∀ x ∈ xs, ∃ k, Z.Thing L x k)
    (kL : ¬ (1 ≤ n ∧ n ≤ 400) → E (.ref cL) none H) (kJ : ∀ H', 1 ≤ n → n ≤ 400 → goodJ n o = false → Z.Fx H' L → E (.ref cJ) none H')
    (kQ : ∀ (js : List Int) (t : Addr) (H' : Hp), 1 ≤ n → n ≤ 400 → goodJ n o = true → o = some (js.map V.int) → Z.Fx H' (.ob t (.tup ((difs js n).map V.int)) :: L) → Q (.ref t) H') : sp_course_from K cL cJ [a, .int n] H Q E := ⟨_, _, rfl, L, o, n, rfl, F, hs, ht, kL, kJ, kQ⟩
theorem sc_joints_of : FnScope ["course", "joints", "place", "brick"] ["course"] (defScope s_joints_of) := ⟨rfl, rfl, rfl, by decide +kernel, rfl, by decide +kernel, by decide +kernel⟩
/-- the running sums -/
def psum : Int → List Int → List Int
  | _, [] => []
  | s, c :: r => (s + c) :: psum (s + c) r
def jnt (cs : List Int) : List Int := psum 0 cs.dropLast
theorem psum_snoc : ∀ (l : List Int) (s c : Int), psum s (l ++ [c]) = psum s l ++ [s + l.sum + c]
  | [], s, c => by simp [psum]
  | d :: l, s, c => by
    show (s + d) :: psum (s + d) (l ++ [c]) = (s + d) :: (psum (s + d) l ++ [_])
    rw [psum_snoc l (s + d) c, List.sum_cons, show s + (d + l.sum) + c = s + d + l.sum + c from by omega]
theorem psum_len : ∀ (l : List Int) (s : Int), (psum s l).length = l.length
  | [], _ => rfl
  | _ :: l, s => by
    show (psum _ l).length + 1 = _
    rw [psum_len l]
    rfl
theorem cut_init (cs : List Int) : cutV (cs.map V.int) none (some (-1)) = cs.dropLast.map V.int := by
  unfold cutV HT.sIx
  rw [List.length_map]
  show List.take ((-1 + (cs.length : Int)).toNat - 0) (List.drop 0 _) = _
  rw [List.drop_zero, List.dropLast_eq_take, List.map_take, show (-1 + (cs.length : Int)).toNat - 0 = cs.length - 1 from by omega]
def sp_joints_of (K : PySem.W.Frag) : Sp := Z.Sp1 fun a H Q E => ∃ (L : List Z.En) (cs : List Int), Z.Fx H L ∧ Z.SeqIs L a (some (cs.map V.int)) ∧ cs.length ≤ 1000 ∧ ∀ p H', Z.Fx H' (.ob p (.tup ((jnt cs).map V.int)) :: L) → Q (.ref p) H'
theorem fn_joints_of (T : Txt K mg c_BadCourse c_BadJoints c_BadLength c_BadStock c_BadText c_BadWall c_Stock c_Wall) {f : Addr} {fd : FuncData} (F : Fun K "joints_of" "joints_of" s_joints_of f fd) : FnOk P w K mg base CX0 1 f fd ["course"] (sp_joints_of K) := by
  refine F.ok sc_joints_of (fun vs H Q E h => ?_) (fun cdv A outer s H vs Q E hr h => ?_)
  · obtain ⟨a, rfl, _⟩ := h; rfl
  · obtain ⟨a, rfl, h⟩ := h
    refine ⟨_, (pss_cons (ps_set (i := 1) sc_joints_of.nd rfl (by first | exact Or.inl rfl | exact Or.inr rfl) (pe_lst pa_nil))
      (pss_cons (ps_set (i := 2) sc_joints_of.nd rfl (by first | exact Or.inl rfl | exact Or.inr rfl) pe_int)
      (pss_cons (ps_for PassesOwn.never (by rfl) (Z.pi_seq (pe_slice Z.zSlA (pv 0) po_none (po_some (pe_un un_neg pe_int)))) (pg_name (i := 3) sc_joints_of.nd rfl (by first | exact Or.inl rfl | exact Or.inr rfl))
        (pss_cons (ps_aug (i := 2) sc_joints_of.nd rfl (by first | exact Or.inl rfl | exact Or.inr rfl) (pv 3) ip_add)
        (pss_one (ps_expr (pe_bm PySem.F.plainAttrs_list PySem.F.slot_list_append PySem.F.type_list_append mt_append (pv 1) (pa_cons (pv 2) pa_nil))))))
      (pss_one (ps_ret (pe_callTy Z.zTuple (by rfl) T.b_tuple (by decide +kernel) (pa_cons (pv 1) pa_nil))))))), ?_⟩
    try dsimp only [cxOf, Cx.nox, Cx.wish]
    refine Z.at_start (σ' := [some a, none, none, none]) rfl ?_
    obtain ⟨L, cs, F, hs, hl, k⟩ := h
    walk_at "z"
    rename_i jp H1 F1
    refine Z.wSlAS hs (.cons _ (.refl _)) F1 fun p H2 N q2 F2 => ?_
    rw [cut_init] at q2
    generalize eb : cs.dropLast = bs at q2
    have hbl : bs.length ≤ 1000 := by rw [← eb, List.length_dropLast]; omega
    have F3 := F2.perm List.perm_middle
    clear F2
    have hp := q2.isR
    have sl : L.Sublist (N ++ L) := List.sublist_append_right _ _
    generalize N ++ L = L3 at *
    refine Z.wForS hp (F3.sub (.cons _ (.refl _))) (fun i σ H' => ∃ v, σ = [some a, some (.ref jp), some (.int (bs.take i).sum), v] ∧ Z.Fx H' (.ob jp (.lst ((psum 0 (bs.take i)).map V.int)) :: L3)) ?_ ?_ ?_ ?_
    · exact ⟨_, rfl, F3⟩
    · rintro i σ H' ⟨v, rfl, F'⟩
      exact ⟨_, F', fun p o h => List.mem_cons_of_mem _ h⟩
    · rintro i x σ H' hx ⟨v, rfl, F'⟩
      obtain ⟨c, rfl, hc⟩ := Z.int_of_map' hx
      have et : bs.take (i + 1) = bs.take i ++ [c] := by rw [List.take_add_one, hc]; rfl
      have hil := (List.getElem?_eq_some_iff.mp hc).1
      have hpl := psum_len (bs.take i) 0
      rw [List.length_take] at hpl
      walk_at "z"
      rename_i H5 F5
      refine ⟨some (.int c), ?_, ?_⟩
      · rw [et, List.sum_append]
        simp
      · rw [et, psum_snoc, List.map_append, Int.zero_add]
        exact F5
    · rintro σ H' ⟨v, rfl, F'⟩
      rw [List.length_map, List.take_length] at F'
      walk_at "z"
      rename_i t H4 F4
      subst eb
      exact k _ _ (F4.sub ((List.Sublist.cons _ sl).cons_cons _))
theorem ok_joints_of (T : Txt K mg c_BadCourse c_BadJoints c_BadLength c_BadStock c_BadText c_BadWall c_Stock c_Wall) : Z.Ok CX0 P w K mg base "joints_of" 1 ["course"] [] (sp_joints_of K) := by
  obtain ⟨f, fd, F, g⟩ := T.d_joints_of
  exact Z.mkOk F g (F.binds (ps := ["course"]) fun _ _ _ _ _ _ us hl => match us, hl with | [_], _ => rfl) (fn_joints_of T F)
theorem use_joints_of {H : Hp} {Q : VK} {E : XK} {L : List Z.En} {a : V} {cs : List Int} (F : Z.Fx H L) (hs : Z.SeqIs L a (some (cs.map V.int))) (hl : cs.length ≤ 1000) (k : ∀ p H', Z.Fx H' (.ob p (.tup ((jnt cs).map V.int)) :: L) → Q (.ref p) H') : sp_joints_of K [a] H Q E := ⟨_, rfl, L, cs, F, hs, hl, k⟩
theorem sc__law_sums : FnScope ["_law_course", "_law_found", "_law_place", "_law_brick"] ["_law_course"] (defScope s__law_sums) := ⟨rfl, rfl, rfl, by decide +kernel, rfl, by decide +kernel, by decide +kernel⟩
def sp__law_sums (K : PySem.W.Frag) : Sp := Z.Sp1 fun a H Q E => ∃ (L : List Z.En) (cs : List Int), Z.Fx H L ∧ Z.SeqIs L a (some (cs.map V.int)) ∧ cs.length ≤ 1000 ∧ ∀ p H', Z.Fx H' (.ob p (.lst ((jnt cs).map V.int)) :: L) → Q (.ref p) H'
theorem fn__law_sums (T : Txt K mg c_BadCourse c_BadJoints c_BadLength c_BadStock c_BadText c_BadWall c_Stock c_Wall) {f : Addr} {fd : FuncData} (F : Fun K "_law_sums" "_law_sums" s__law_sums f fd) : FnOk P w K mg base CX0 1 f fd ["_law_course"] (sp__law_sums K) := by
  refine F.ok sc__law_sums (fun vs H Q E h => ?_) (fun cdv A outer s H vs Q E hr h => ?_)
  · obtain ⟨a, rfl, _⟩ := h; rfl
  · obtain ⟨a, rfl, h⟩ := h
    refine ⟨_, (pss_cons (ps_set (i := 1) sc__law_sums.nd rfl (by first | exact Or.inl rfl | exact Or.inr rfl) (pe_lst pa_nil))
      (pss_cons (ps_set (i := 2) sc__law_sums.nd rfl (by first | exact Or.inl rfl | exact Or.inr rfl) pe_int)
      (pss_cons (ps_for PassesOwn.never (by rfl) (Z.pi_seq (pe_slice Z.zSlA (pv 0) po_none (po_some (pe_un un_neg pe_int)))) (pg_name (i := 3) sc__law_sums.nd rfl (by first | exact Or.inl rfl | exact Or.inr rfl))
        (pss_cons (ps_set (i := 2) sc__law_sums.nd rfl (by first | exact Or.inl rfl | exact Or.inr rfl) (pe_op Z.zAdd (pv 2) (pv 3)))
        (pss_one (ps_expr (pe_bm PySem.F.plainAttrs_list PySem.F.slot_list_append PySem.F.type_list_append mt_append (pv 1) (pa_cons (pv 2) pa_nil))))))
      (pss_one (ps_ret (pv 1)))))), ?_⟩
    try dsimp only [cxOf, Cx.nox, Cx.wish]
    refine Z.at_start (σ' := [some a, none, none, none]) rfl ?_
    obtain ⟨L, cs, F, hs, hl, k⟩ := h
    walk_at "z"
    rename_i jp H1 F1
    refine Z.wSlAS hs (.cons _ (.refl _)) F1 fun p H2 N q2 F2 => ?_
    rw [cut_init] at q2
    generalize eb : cs.dropLast = bs at q2
    have hbl : bs.length ≤ 1000 := by rw [← eb, List.length_dropLast]; omega
    have F3 := F2.perm List.perm_middle
    clear F2
    have hp := q2.isR
    have sl : L.Sublist (N ++ L) := List.sublist_append_right _ _
    generalize N ++ L = L3 at *
    refine Z.wForS hp (F3.sub (.cons _ (.refl _))) (fun i σ H' => ∃ v, σ = [some a, some (.ref jp), some (.int (bs.take i).sum), v] ∧ Z.Fx H' (.ob jp (.lst ((psum 0 (bs.take i)).map V.int)) :: L3)) ?_ ?_ ?_ ?_
    · exact ⟨_, rfl, F3⟩
    · rintro i σ H' ⟨v, rfl, F'⟩
      exact ⟨_, F', fun p o h => List.mem_cons_of_mem _ h⟩
    · rintro i x σ H' hx ⟨v, rfl, F'⟩
      obtain ⟨c, rfl, hc⟩ := Z.int_of_map' hx
      have et : bs.take (i + 1) = bs.take i ++ [c] := by rw [List.take_add_one, hc]; rfl
      have hil := (List.getElem?_eq_some_iff.mp hc).1
      have hpl := psum_len (bs.take i) 0
      rw [List.length_take] at hpl
      walk_at "z"
      rename_i H5 F5
      refine ⟨some (.int c), ?_, ?_⟩
      · rw [et, List.sum_append]
        simp
      · rw [et, psum_snoc, List.map_append, Int.zero_add]
        exact F5
    · rintro σ H' ⟨v, rfl, F'⟩
      rw [List.length_map, List.take_length] at F'
      walk_at "z"
      subst eb
      exact k _ _ (F'.sub (sl.cons_cons _))
theorem ok__law_sums (T : Txt K mg c_BadCourse c_BadJoints c_BadLength c_BadStock c_BadText c_BadWall c_Stock c_Wall) : Z.Ok CX0 P w K mg base "_law_sums" 1 ["_law_course"] [] (sp__law_sums K) := by
  obtain ⟨f, fd, F, g⟩ := T.d__law_sums
  exact Z.mkOk F g (F.binds (ps := ["_law_course"]) fun _ _ _ _ _ _ us hl => match us, hl with | [_], _ => rfl) (fn__law_sums T F)
theorem use__law_sums {H : Hp} {Q : VK} {E : XK} {L : List Z.En} {a : V} {cs : List Int} (F : Z.Fx H L) (hs : Z.SeqIs L a (some (cs.map V.int))) (hl : cs.length ≤ 1000) (k : ∀ p H', Z.Fx H' (.ob p (.lst ((jnt cs).map V.int)) :: L) → Q (.ref p) H') : sp__law_sums K [a] H Q E := ⟨_, rfl, L, cs, F, hs, hl, k⟩
theorem sc__law_shown : FnScope ["_law_course", "_law_length", "_law_joints", "_law_signs", "_law_place"] ["_law_course"] (defScope s__law_shown) := ⟨rfl, rfl, rfl, by decide +kernel, rfl, by decide +kernel, by decide +kernel⟩
theorem difs_psum : ∀ (cs : List Int) (s : Int), cs ≠ [] → ((s :: psum s cs.dropLast).zip (psum s cs.dropLast ++ [s + cs.sum])).map (fun p => p.2 - p.1) = cs
  | [], _, h => absurd rfl h
  | [c], s, _ => by
    show [s + (c + 0) - s] = [c]
    rw [show s + (c + 0) - s = c from by omega]
  | c :: d :: r, s, _ => by
    have ih := difs_psum (d :: r) (s + c) (by simp)
    show (s + c - s) :: (((s + c) :: psum (s + c) (d :: r).dropLast).zip (psum (s + c) (d :: r).dropLast ++ [s + (c + (d :: r).sum)])).map (fun p => p.2 - p.1) = c :: d :: r
    rw [show s + (c + (d :: r).sum) = s + c + (d :: r).sum from by omega, ih, show s + c - s = c from by omega]
theorem difs_jnt {cs : List Int} (h : cs ≠ []) : difs (jnt cs) cs.sum = cs := by
  have := difs_psum cs 0 h
  rw [Int.zero_add] at this
  exact this
theorem psum_in : ∀ (l : List Int) (s : Int), (∀ c ∈ l, 1 ≤ c) → ∀ y ∈ psum s l, s < y ∧ y ≤ s + l.sum
  | [], _, _, y, h => nomatch h
  | c :: l, s, hp, y, h => by
    have c1 := hp c List.mem_cons_self
    have hl : 0 ≤ l.sum := by
      have : ∀ l : List Int, (∀ c ∈ l, 1 ≤ c) → 0 ≤ l.sum := by
        intro l
        induction l with
        | nil => intro _; decide
        | cons d r ih => intro h; have a := h d List.mem_cons_self; have b := ih fun e he => h e (.tail _ he); rw [List.sum_cons]; omega
      exact this l fun d hd => hp d (.tail _ hd)
    rw [List.sum_cons]
    rcases List.mem_cons.mp
          h with rfl | h
    · omega
    · have := psum_in l (s + c) (fun d hd => hp d (.tail _ hd)) y h
      omega
theorem psum_pw : ∀ (l : List Int) (s : Int), (∀ c ∈ l, 1 ≤ c) → (psum s l).Pairwise (· < ·)
  | [], _, _ => .nil
  | c :: l, s, hp => .cons (fun y hy => (psum_in l (s + c) (fun d hd => hp d (.tail _ hd)) y hy).1) (psum_pw l (s + c) fun d hd => hp d (.tail _ hd))
theorem jnt_in {cs : List Int} (h : cs ≠ []) (hp : ∀ c ∈ cs, 1 ≤ c) : ∀ y ∈ jnt cs, 1 ≤ y ∧ y ≤ cs.sum - 1 := by
  intro y hy
  have hd : ∀ c ∈ cs.dropLast, 1 ≤ c := fun c hc => hp c (List.dropLast_subset cs hc)
  have a := psum_in cs.dropLast 0 hd y hy
  have b := congrArg List.sum (List.dropLast_concat_getLast h)
  rw [List.sum_append] at b
  have c := hp _ (List.getLast_mem h)
  have e : [cs.getLast h].sum = cs.getLast h := by simp
  omega
theorem jnt_pw {cs : List Int} (hp : ∀ c ∈ cs, 1 ≤ c) : (jnt cs).Pairwise (· < ·) := psum_pw _ _ fun c hc => hp c (List.dropLast_subset cs hc)
theorem jnt_len (cs : List Int) : (jnt cs).length = cs.length - 1 := by
  unfold jnt
  rw [psum_len, List.length_dropLast]
theorem len_le_sumJ {cs : List Int} (h : ∀ c ∈ cs, 1 ≤ c) : (cs.length : Int) ≤ cs.sum := by
  induction cs with
  | nil => decide
  | cons c r ih =>
    have a := h c List.mem_cons_self
    have b := ih fun d hd => h d (List.mem_cons_of_mem _ hd)
    rw [List.sum_cons,
          List.length_cons]
    omega
theorem goodJ_of {n : Int} {js : List Int} (h1 : (js.length : Int) ≤ n - 1) (h2 : ∀ y ∈ js, 1 ≤ y ∧ y ≤ n - 1) (p : js.Pairwise (· < ·)) : goodJ n (some (js.map V.int)) = true := by
  have e1 : Z.inLen 0 (n - 1) (some (js.map V.int)) = true := by simp only [Z.inLen, Bool.and_eq_true, decide_eq_true_eq, List.length_map]; omega
  have e2 : (js.map V.int).all (fun x => Z.inB x (.int 1) (.int (n - 1))) = true := by
    rw [List.all_eq_true]
    intro x hx
    obtain ⟨z, hz, rfl⟩ := List.mem_map.mp hx
    simp only [Z.inB, Bool.and_eq_true, decide_eq_true_eq]
    exact h2 z hz
  show (Z.inLen 0 (n - 1) (some (js.map V.int)) && (js.map V.int).all (fun x => Z.inB x (.int 1) (.int (n - 1))) && Z.asc ((js.map V.int).map intV)) = true
  rw [e1, e2, intV_map, Z.asc_pw.mpr p]
  rfl
theorem goodJ_bad {n : Int} {xs : List V} {y : V} (hy : y ∈ xs) (h : Z.inB y (.int 1) (.int (n - 1)) = false) : goodJ n (some xs) = false := by
  have e2 : xs.all (fun x => Z.inB x (.int 1) (.int (n - 1))) = false := by
    rw [List.all_eq_false]
    exact ⟨y, hy, by rw [h]; decide⟩
  show (Z.inLen 0 (n - 1) (some xs) && xs.all (fun x => Z.inB x (.int 1) (.int (n - 1))) && Z.asc (xs.map intV)) = false
  rw [e2, Bool.and_false, Bool.false_and]
theorem goodJ_dup {n : Int} {js : List Int} (h : ¬ js.Pairwise (· < ·)) : goodJ n (some (js.map V.int)) = false := by
  have e : Z.asc js = false := by
    cases h' : Z.asc js with
    | false => rfl
    | true => exact absurd (Z.asc_pw.mp h') h
  show (Z.inLen 0 (n - 1) (some (js.map V.int)) && (js.map V.int).all (fun x => Z.inB x (.int 1) (.int (n - 1))) && Z.asc ((js.map V.int).map intV)) = false
  rw [intV_map, e, Bool.and_false]
theorem jnt_good {cs : List Int} (h : cs ≠ []) (hp : ∀ c ∈ cs, 1 ≤ c) : goodJ cs.sum (some ((jnt cs).map V.int)) = true := by
  refine goodJ_of ?_ (jnt_in h hp) (jnt_pw hp)
  have a := len_le_sumJ hp
  have b : 1 ≤ cs.length := by cases cs with | nil => exact absurd rfl h | cons => simp
  rw [jnt_len]
  omega
theorem psum_cum : ∀ (l : List Int) (s : Int), psum s l = TP.cum s l
  | [], _ => rfl
  | c :: r, s => by
    show (s + c) :: psum (s + c) r = (s + c) :: TP.cum (s + c) r
    rw [psum_cum r]
theorem cum_jnt {cs : List Int} (h : cs ≠ []) : TP.cum 0 cs = jnt cs ++ [cs.sum] := by
  have e := psum_snoc cs.dropLast 0 (cs.getLast h)
  rw [List.dropLast_concat_getLast h, psum_cum] at e
  have b := congrArg List.sum (List.dropLast_concat_getLast h)
  rw [List.sum_append] at b
  have e2 : [cs.getLast h].sum = cs.getLast h := by simp
  rw [e]
  show _ ++ [_] = psum 0 _ ++ [_]
  congr 2
  omega
def sp__law_shown (K : PySem.W.Frag) : Sp := Z.Sp1 fun a H Q E => ∃ (L : List Z.En) (cs : List Int), Z.Fx H L ∧ Z.SeqIs L a (some (cs.map V.int)) ∧ cs ≠ [] ∧ (∀ c ∈ cs, 1 ≤ c) ∧ cs.sum ≤ 1000 ∧ ∀ z H', TL.tl z = TP.picL cs → Z.Fx H' L → Q (.str z) H'
theorem fn__law_shown (T : Txt K mg c_BadCourse c_BadJoints c_BadLength c_BadStock c_BadText c_BadWall c_Stock c_Wall) {f : Addr} {fd : FuncData} (F : Fun K "_law_shown" "_law_shown" s__law_shown f fd) : FnOk P w K mg base CX0 2 f fd ["_law_course"] (sp__law_shown K) := by
  have O__law_sums := ok__law_sums (P := P) (w := w) (base := base) T
  refine F.ok sc__law_shown (fun vs H Q E h => ?_) (fun cdv A outer s H vs Q E hr h => ?_)
  · obtain ⟨a, rfl, _⟩ := h; rfl
  · obtain ⟨a, rfl, h⟩ := h
    refine ⟨_, (pss_cons (ps_set (i := 1) sc__law_shown.nd rfl (by first | exact Or.inl rfl | exact Or.inr rfl) (pe_callB (Z.cr_sumS rfl) (by rfl) T.b_sum (by decide +kernel) (pa_cons (pv 0) pa_nil)))
      (pss_cons (ps_set (i := 2) sc__law_shown.nd rfl (by first | exact Or.inl rfl | exact Or.inr rfl) (Z.pe_callO O__law_sums (by rfl) (hr.mono (by decide)) pass0 (pa_cons (pv 0) pa_nil)))
      (pss_cons (ps_set (i := 3) sc__law_shown.nd rfl (by first | exact Or.inl rfl | exact Or.inr rfl) (pe_lst pa_nil))
      (pss_cons (ps_for PassesOwn.never (by rfl) (pi_range1 (by rfl) T.b_range (pa_cons (pe_op Z.zAdd (pv 1) pe_int) pa_nil)) (pg_name (i := 4) sc__law_shown.nd rfl (by first | exact Or.inl rfl | exact Or.inr rfl))
        (pss_one (ps_expr (pe_bm PySem.F.plainAttrs_list PySem.F.slot_list_append PySem.F.type_list_append mt_append (pv 3) (pa_cons (pe_ifExp (PW.pt (pw_or (pt_cmpR (Z.zEq (Z.hu0 hr)) (pv 4) pe_int (nomark _)) (pw_or (pt_cmpR (Z.zEq (Z.hu0 hr)) (pv 4) (pv 1) (nomark _)) (pw_or1 (pt_cmpR Z.zIn (pv 4) (pv 2) (by rfl)))))) pe_str pe_str) pa_nil)))))
      (pss_one (ps_ret (Z.pe_joi pe_str (pv 3)))))))), ?_⟩
    try dsimp only [cxOf, Cx.nox, Cx.wish]
    refine Z.at_start (σ' := [some a, none, none, none, none]) rfl ?_
    obtain ⟨L, cs, F, hs, hn, hc, hl, q⟩ := h
    have lb := Z.line_big
    have hll := len_le_sumJ hc
    walk_at "z"
    refine Z.wSumS hs F ?_
    walk_at "z"
    refine use__law_sums F hs (by omega) fun jp H1 F1 => ?_
    walk_at "z"
    rename_i sp1 H2 F2
    have ht := TP.tot_sum hc
    have hS : (cs.sum + 1).toNat = TP.tot cs + 1 := by omega
    rw [hS]
    refine Z.wForW walk_range (fun i σ H' => ∃ v4, ∃ us : List Str, σ = [some a, some (.int cs.sum), some (.ref jp), some (.ref sp1), v4] ∧ us.map TL.tl = ((124 :: TP.marks cs).take i).map (fun c => [c]) ∧ Z.Fx H' (.ob sp1 (.lst (us.map V.str)) :: .ob jp (.lst ((jnt cs).map V.int)) :: L)) ?_ (fun _ _ _ _ _ => trivial) ?_ ?_
    · exact ⟨_, [], rfl, rfl, F2⟩
    · rintro i x σ H3 H4 hi ⟨v4, us, rfl, hu, F3⟩ ⟨rfl, rfl⟩
      dsimp only
      rw [Int.zero_add]
      have hg := TP.marks_get hc (p := i) (by omega)
      have hul : us.length ≤ 1001 := by
        have := congrArg List.length hu
        rw [List.length_map, List.length_map, List.length_take] at this
        omega
      have fin : ∀ (y : Str) H1, TL.tl y = [if (i : Int) ∈ (0 : Int) :: TP.cum 0 cs then 124 else 95] → Z.Fx H1 (.ob sp1 (.lst (us.map V.str ++ [V.str y])) :: .ob jp (.lst ((jnt cs).map V.int)) :: L) → ∃ v5, ∃ us2 : List Str, [some a, some (V.int cs.sum), some (V.ref jp), some (V.ref sp1), some (V.int (i : Nat))] = [some a, some (V.int cs.sum), some (V.ref jp), some (V.ref sp1), v5] ∧ us2.map TL.tl = ((124 :: TP.marks cs).take (i + 1)).map (fun c => [c]) ∧ Z.Fx H1 (.ob sp1 (.lst (us2.map V.str)) :: .ob jp (.lst ((jnt cs).map V.int)) :: L) := by
        intro y H1 hy F5
        refine ⟨_, us ++ [y], rfl, ?_, by rw [List.map_append]; exact F5⟩
        rw [List.map_append, hu, List.take_add_one, hg, List.map_append]
        show _ ++ [TL.tl y] = _ ++ [[_]]
        rw [hy]
      have e1 : TL.tl ("|" : Str) = [124] := by decide
      have e2 : TL.tl ("_" : Str) = [95] := by decide
      walk_at "z"
      refine Z.wIfD (fun h0 => ?_) (fun h0 => ?_)
      · walk_at "z"
        exact fin _ _ (by rw [if_pos (by rw [h0]; exact List.mem_cons_self)]; exact e1) (by assumption)
      walk_at "z"
      refine Z.wIfD (fun h1 => ?_) (fun h1 => ?_)
      · walk_at "z"
        exact fin _ _ (by rw [if_pos (List.mem_cons_of_mem _ (by rw [h1, cum_jnt hn]; simp))]; exact e1) (by assumption)
      walk_at "z"
      refine Z.wInLi (F3.lst (.tail _ List.mem_cons_self)) ?_
      walk_at "z"
      refine Z.wIfD (fun h2 => ?_) (fun h2 => ?_)
      · walk_at "z"
        exact fin _ _ (by rw [if_pos (List.mem_cons_of_mem _ (by rw [cum_jnt hn]; exact List.mem_append_left _ h2))]; exact e1) (by assumption)
      · walk_at "z"
        refine fin _ _ ?_ (by assumption)
        rw [if_neg, e2]
        rw [cum_jnt hn]
        simp only [List.mem_cons, List.mem_append, List.not_mem_nil, or_false, not_or]
        exact ⟨h0, h2, h1⟩
    · rintro σ H3 ⟨v4, us, rfl, hu, F3⟩
      have hml := TP.marks_len hc
      rw [List.take_of_length_le (by rw [List.length_cons, hml]; omega)] at hu
      have hul : us.length = TP.tot cs + 1 := by
        have := congrArg List.length hu
        rw [List.length_map, List.length_map, List.length_cons, hml] at this
        exact this
      have one : ∀ w ∈ us, w.length ≤ 1 := by
        intro w hw
        have m : TL.tl w ∈ us.map TL.tl := List.mem_map_of_mem hw
        rw [hu] at m
        obtain ⟨c, _, e⟩ := List.mem_map.mp m
        rw [TL.len_tl, ← e]
        exact Nat.le_refl _
      have hsum := TR.sum_le one
      have e1s : ("_" : Str).length = 1 := by decide
      walk_at "z"
      refine Z.wJoin (F3.lst List.mem_cons_self) (by rw [e1s]; omega) ?_
      refine q _ _ ?_ (F3.sub (.cons _ (.cons _ (.refl _))))
      rw [TL.join_eq, TL.tl_join, hu]
      exact TP.join_marks hc
theorem ok__law_shown (T : Txt K mg c_BadCourse c_BadJoints c_BadLength c_BadStock c_BadText c_BadWall c_Stock c_Wall) : Z.Ok CX0 P w K mg base "_law_shown" 2 ["_law_course"] [] (sp__law_shown K) := by
  obtain ⟨f, fd, F, g⟩ := T.d__law_shown
  exact Z.mkOk F g (F.binds (ps := ["_law_course"]) fun _ _ _ _ _ _ us hl => match us, hl with | [_], _ => rfl) (fn__law_shown T F)
theorem use__law_shown {H : Hp} {Q : VK} {E : XK} {L : List Z.En} {K : PySem.W.Frag} {a : V} {cs : List Int} (F : Z.Fx H L) (hs : Z.SeqIs L a (some (cs.map V.int))) (hn : cs ≠ []) (hc : ∀ c ∈ cs, 1 ≤ c) (hl : cs.sum ≤ 1000) (q : ∀ z H', TL.tl z = TP.picL cs → Z.Fx H' L → Q (.str z) H') : sp__law_shown K [a] H Q E := ⟨_, rfl, L, cs, F, hs, hn, hc, hl, q⟩
theorem sc__bricks_seen : FnScope ["row", "places", "place", "sign"] ["row"] (defScope s__bricks_seen) := ⟨rfl, rfl, rfl, by decide +kernel, rfl, by decide +kernel, by decide +kernel⟩
def sp__bricks_seen (K : PySem.W.Frag) : Sp := Z.Sp1 fun a H Q E => ∃ (L : List Z.En) (z : Str) (cs : List Int), Z.Fx H L ∧ a = .str z ∧ TL.tl z = TP.picL cs ∧ cs ≠ [] ∧ (∀ c ∈ cs, 1 ≤ c) ∧ cs.sum ≤ 400 ∧ ∀ p H', Z.Fx H' (.ob p (.tup (cs.map V.int)) :: L) → Q (.ref p) H'
theorem fn__bricks_seen (T : Txt K mg c_BadCourse c_BadJoints c_BadLength c_BadStock c_BadText c_BadWall c_Stock c_Wall) {f : Addr} {fd : FuncData} (F : Fun K "_bricks_seen" "_bricks_seen" s__bricks_seen f fd) : FnOk P w K mg base CX0 4 f fd ["row"] (sp__bricks_seen K) := by
  have O_course_from := ok_course_from (P := P) (w := w) (base := base) T
  refine F.ok sc__bricks_seen (fun vs H Q E h => ?_) (fun cdv A outer s H vs Q E hr h => ?_)
  · obtain ⟨a, rfl, _⟩ := h; rfl
  · obtain ⟨a, rfl, h⟩ := h
    refine ⟨_, (pss_cons (by exact (ps_setLc (i := 1) (own := [("place", 2), ("sign", 3)]) (g := (gTup K 2 (gCons (gName 2) (gCons (gName 3) gNil)))) (by rfl) sc__bricks_seen.nd rfl rfl (sw_true rfl rfl rfl (by decide +kernel)) (Z.pi_enumX (by rfl) T.b_enumerate (pa_cons (Z.pe_strStep0 (pv 0)) pa_nil)) (blkOk_by (own := [("place", 2), ("sign", 3)]) (N := ["row", "places", "place", "sign"]) (sc := defScope s__bricks_seen) (by decide +kernel)) (fun _ _ _ _ _ => (by exact (pg_tup (by rfl) (pgs_cons (pg_name (i := 2) sc__bricks_seen.nd rfl (by first | exact Or.inl rfl | exact Or.inr rfl)) (pgs_cons (pg_name (i := 3) sc__bricks_seen.nd rfl (by first | exact Or.inl rfl | exact Or.inr rfl)) pgs_nil))))) (fun _ _ _ _ _ => (by exact (pts_one (pt_cmpR (show OpR _ _ (Z.rOr rEq (rEqD K)) from (Z.zEq (Z.hu0 hr))) (pv 3) pe_str (nomark _))))) (fun _ _ _ _ _ => (by exact (pv 2)))))
      (pss_one (ps_ret (Z.pe_callO O_course_from (by rfl) (hr.mono (by decide)) passL (pa_cons (pe_slice Z.zSl (pv 1) (po_some pe_int) (po_some (pe_un un_neg pe_int))) (pa_cons (pe_ix ix_seq (pv 1) (pe_un un_neg pe_int) (fun _ _ => rfl)) pa_nil)))))), ?_⟩
    try dsimp only [cxOf, Cx.nox, Cx.wish]
    refine Z.at_start (σ' := [some a, none, none, none]) rfl ?_
    obtain ⟨L, z, cs, F, rfl, ez, hn, hc, hs, q⟩ := h
    have lb := Z.line_big
    have ht := TP.tot_sum hc
    have hl := TL.len_tl z
    rw [ez, TP.pic_len hc] at hl
    have hz2 : z.length ≤ sizeLine := by omega
    walk_at "z"
    refine Z.wIX ?_
    walk_at "z"
    refine Z.wStrStep ?_
    walk_at "z"
    refine Z.wStrStepV hz2 ?_
    walk_at "z"
    refine Z.wGoX ?_
    generalize hze : (⟨(Z.step2 (List.drop 0 z.cps.toList)).toArray⟩ : Str) = ze
    have ee : TL.tl ze = 124 :: TP.marks cs := by
      have : TL.tl ze = Z.step2 (TL.tl z) := by subst hze; rfl
      rw [this, ez]
      exact TP.even_body hc
    clear hze
    have hle : ze.length = TP.tot cs + 1 := by rw [TL.len_tl, ee, List.length_cons, TP.marks_len hc]
    have hsz : ze.cps.size = ze.length := rfl
    refine Z.wLcW Z.walk_enumX F (fun i acc L' => L.Sublist L' ∧ acc = (TP.pos 0 ((TL.tl ze).take i)).map V.int) ⟨.refl _, rfl⟩ (fun _ _ _ _ _ _ _ => trivial) ?_ ?_
    · rintro i x D H1 H2 acc L' hi ⟨hsub, rfl⟩ F1 ⟨T2, u, v, rfl, hT, rfl, e1, e2⟩
      cases e1
      have F3 := F1.new (o := .tup [.int (i : Nat), v]) hT
      generalize upd H1 T2 (.tup [.int (i : Nat), v]) = H3 at *
      obtain ⟨c, hc2, rfl⟩ : ∃ c, ze.cps[i]? = some c ∧ V.str ⟨#[c]⟩ = v := by simpa [Option.map_eq_some_iff] using e2
      have hc3 : (TL.tl ze)[i]? = some c := by rw [Array.getElem?_toList]; exact hc2
      have hpt := TP.pos_take hc3
      have hsgn : decide (V.str ⟨#[c]⟩ = V.str ("|" : Str)) = decide (c = 124) := by
        rw [decide_eq_decide]
        constructor
        · intro h
          injection h with h
          have h : (⟨#[c]⟩ : Str).cps = #[124] := congrArg Str.cps h
          have h : #[c] = #[124] := h
          simpa using h
        · rintro rfl
          rfl
      have hpl := TP.pos_len ((TL.tl ze).take i) 0
      rw [List.length_take] at hpl
      walk_at "zw"
      walk_at "z"
      refine ⟨rfl, ?_⟩
      walk_at "z"
      refine Z.wOr1 (Z.wEqS rfl ?_)
      rw [hsgn]
      refine ⟨_, rfl, ?_⟩
      refine Z.wIfD (fun h => ?_) (fun h => ?_)
      · rw [if_pos h] at hpt
        walk_at "z"
        refine Z.lcPut (F3.perm (.swap _ _ _)) (by rw [List.length_map]; omega) ⟨hsub.cons _, by rw [hpt, List.map_append]; rfl⟩
      · rw [if_neg h, List.append_nil] at hpt
        exact ⟨_, _, F3.perm (.swap _ _ _), hsub.cons _, by rw [hpt]⟩
    rintro D acc L' H2 F2 ⟨hsub, rfl⟩
    have eall : TP.pos 0 ((TL.tl ze).take ze.cps.size) = (0 : Int) :: (jnt cs ++ [cs.sum]) := by
      rw [List.take_of_length_le (by rw [← TL.len_tl]; exact Nat.le_refl _), ee, TP.pos_even hc, cum_jnt hn]
    rw [eall] at F2
    have hcut : cutV (((0 : Int) :: (jnt cs ++ [cs.sum])).map V.int) (some 1) (some (-1)) = (jnt cs).map V.int := by
      have : ∀ js : List Int, cutV (((0 : Int) :: (js ++ [cs.sum])).map V.int) (some 1) (some (-1)) = js.map V.int := by
        intro js
        unfold cutV
        have e1 : HT.sIx (((0 : Int) :: (js ++ [cs.sum])).map V.int).length 0 (some ((1 : Nat) : Int)) = 1 := by
          rw [HT.sIx_nat]; simp
        have e2 : HT.sIx (((0 : Int) :: (js ++ [cs.sum])).map V.int).length (((0 : Int) :: (js ++ [cs.sum])).map V.int).length (some (-1)) = js.length + 1 := by
          unfold HT.sIx
          simp only [List.length_map, List.length_cons, List.length_append, List.length_nil]
          show (-1 + ((js.length + (0 + 1) + 1 : Nat) : Int)).toNat = _
          omega
        rw [show (some (1 : Int)) = some ((1 : Nat) : Int) from rfl, e1, e2]
        rw [List.map_cons, List.map_append]
        show List.take (js.length + 1 - 1) (js.map V.int ++ [V.int cs.sum]) = _
        rw [Nat.add_sub_cancel, List.take_left' (by simp)]
      exact this _
    have hlast : atI (((0 : Int) :: (jnt cs ++ [cs.sum])).map V.int) (-1) = some (V.int cs.sum) := by
      rw [List.map_cons, List.map_append]
      exact atI_last (V.int 0 :: (jnt cs).map V.int) (V.int cs.sum)
    walk_at "z"
    rename_i p3 H3 F3
    rw [hcut] at F3
    have hgood := jnt_good hn hc
    have h1 := len_le_sumJ hc
    have h2 : 1 ≤ cs.length := by cases cs with | nil => exact absurd rfl hn | cons a r => simp
    refine use_course_from F3 (.lst List.mem_cons_self) (fun xs e x hx => ?_) (fun hb => absurd ⟨by omega, by omega⟩ hb) (fun H4 _ _ hb _ => by rw [hgood] at hb; cases hb) (fun js t H4 _ _ _ e F4 => ?_)
    · cases e
      obtain ⟨y, _, rfl⟩ := List.mem_map.mp hx
      exact ⟨_, .int y⟩
    · have e : (jnt cs).map V.int = js.map V.int := Option.some.inj e
      have e2 : jnt cs = js := by
        have := congrArg (List.map intV) e
        rwa [intV_map, intV_map] at this
      subst e2
      rw [difs_jnt hn] at F4
      exact q t H4 (F4.sub (.cons_cons _ (.cons _ (.cons _ hsub))))
theorem ok__bricks_seen (T : Txt K mg c_BadCourse c_BadJoints c_BadLength c_BadStock c_BadText c_BadWall c_Stock c_Wall) : Z.Ok CX0 P w K mg base "_bricks_seen" 4 ["row"] [] (sp__bricks_seen K) := by
  obtain ⟨f, fd, F, g⟩ := T.d__bricks_seen
  exact Z.mkOk F g (F.binds (ps := ["row"]) fun _ _ _ _ _ _ us hl => match us, hl with | [_], _ => rfl) (fn__bricks_seen T F)
theorem use__bricks_seen {H : Hp} {Q : VK} {E : XK} {L : List Z.En} {K : PySem.W.Frag} {z : Str} {cs : List Int} (F : Z.Fx H L) (ez : TL.tl z = TP.picL cs) (hn : cs ≠ []) (hc : ∀ c ∈ cs, 1 ≤ c) (hs : cs.sum ≤ 400) (q : ∀ p H', Z.Fx H' (.ob p (.tup (cs.map V.int)) :: L) → Q (.ref p) H') : sp__bricks_seen K [.str z] H Q E := ⟨_, rfl, L, z, cs, F, rfl, ez, hn, hc, hs, q⟩
theorem sc__course_picture : FnScope ["course", "length", "signs", "place"] ["course"] (defScope s__course_picture) := ⟨rfl, rfl, rfl, by decide +kernel, rfl, by decide +kernel, by decide +kernel⟩
theorem map_set_tl {us : List Str} {l : List Nat} (h : us.map TL.tl = l.map fun c => [c]) {k c : Nat} {z : Str} (hz : TL.tl z = [c]) : (us.set k z).map TL.tl = (l.set k c).map fun c => [c] := by
  rw [List.map_set, List.map_set, h, hz]
theorem fold_len : ∀ (ps : List Int) (l : List Nat), (ps.foldl (fun l p => l.set (2 * p.toNat) 124) l).length = l.length
  | [], _ => rfl
  | p :: r, l => by
    show (r.foldl _ (l.set _ _)).length = _
    rw [fold_len r, List.length_set]
theorem join_chars : ∀ l : List Nat, TL.joinL [] (l.map fun c => [c]) = l
  | [] => rfl
  | [a] => rfl
  | a :: b :: r => by
    show a :: TL.joinL [] ((b :: r).map fun c => [c]) = _
    rw [join_chars (b :: r)]
def sp__course_picture (K : PySem.W.Frag) : Sp := Z.Sp1 fun a H Q E => ∃ (L : List Z.En) (cs : List Int), Z.Fx H L ∧ Z.SeqIs L a (some (cs.map V.int)) ∧ cs ≠ [] ∧ (∀ c ∈ cs, 1 ≤ c) ∧ cs.sum ≤ 900 ∧ ∀ z H', TL.tl z = TP.picL cs → Z.Fx H' L → Q (.str z) H'
theorem fn__course_picture (T : Txt K mg c_BadCourse c_BadJoints c_BadLength c_BadStock c_BadText c_BadWall c_Stock c_Wall) {f : Addr} {fd : FuncData} (F : Fun K "_course_picture" "_course_picture" s__course_picture f fd) : FnOk P w K mg base CX0 2 f fd ["course"] (sp__course_picture K) := by
  have O_joints_of := ok_joints_of (P := P) (w := w) (base := base) T
  have O_length_of := ok_length_of (P := P) (w := w) (base := base) T
  refine F.ok sc__course_picture (fun vs H Q E h => ?_) (fun cdv A outer s H vs Q E hr h => ?_)
  · obtain ⟨a, rfl, _⟩ := h; rfl
  · obtain ⟨a, rfl, h⟩ := h
    refine ⟨_, (pss_cons (ps_set (i := 1) sc__course_picture.nd rfl (by first | exact Or.inl rfl | exact Or.inr rfl) (Z.pe_callO O_length_of (by rfl) (hr.mono (by decide)) pass0 (pa_cons (pv 0) pa_nil)))
      (pss_cons (ps_set (i := 2) sc__course_picture.nd rfl (by first | exact Or.inl rfl | exact Or.inr rfl) (pe_op Z.zMul (pe_lst (pa_cons pe_str pa_nil)) (pe_op Z.zAdd (pe_op Z.zMul pe_int (pv 1)) pe_int)))
      (pss_cons (ps_for PassesOwn.never (by rfl) (Z.pi_seq (pe_tup (pa_cons pe_int (StX.pa_star (Z.pe_callO O_joints_of (by rfl) (hr.mono (by decide)) pass0 (pa_cons (pv 0) pa_nil)) (pa_cons (pv 1) pa_nil))))) (pg_name (i := 3) sc__course_picture.nd rfl (by first | exact Or.inl rfl | exact Or.inr rfl))
        (pss_one (ps_asg pe_str (pg_sub (pv 2) (pe_op Z.zMul pe_int (pv 3)) set_list))))
      (pss_one (ps_ret (Z.pe_joi pe_str (pv 2))))))), ?_⟩
    try dsimp only [cxOf, Cx.nox, Cx.wish]
    refine Z.at_start (σ' := [some a, none, none, none]) rfl ?_
    obtain ⟨L, cs, F, hs, hn, hc, hl, q⟩ := h
    have lb := Z.line_big
    have hll := len_le_sumJ hc
    walk_at "z"
    refine use_length_of F hs ?_
    walk_at "z"
    rename_i p1 H1 F1 sg H2 F2
    have ht := TP.tot_sum hc
    refine Z.wStarL ?_
    walk_at "z"
    refine use_joints_of F2 (hs.mono fun e m => .tail _ (.tail _ m)) (by omega) fun jp H3 F3 => ?_
    refine ⟨jp, _, rfl, .inl (F3.tup List.mem_cons_self), ?_⟩
    walk_at "z"
    have ep : V.int 0 :: ((jnt cs).map V.int ++ [V.int cs.sum]) = ((0 : Int) :: TP.cum 0 cs).map V.int := by rw [cum_jnt hn, List.map_cons, List.map_append]; rfl
    rw [ep]
    have hcl : (TP.cum 0 cs).length = cs.length := by rw [← psum_cum]; exact psum_len cs 0
    refine Z.wTup (by rw [List.length_map, List.length_cons, hcl]; omega) F3 fun pt H4 F4 => ?_
    have hb : ∀ p ∈ (0 : Int) :: TP.cum 0 cs, 0 ≤ p ∧ p ≤ cs.sum := by
      intro p hp
      rcases List.mem_cons.mp hp with h | h
      · omega
      · rw [← psum_cum] at h
        have := psum_in cs 0 hc p h
        omega
    generalize hps : (0 : Int) :: TP.cum 0 cs = ps at *
    have e1 : TL.tl ("|" : Str) = [124] := by decide
    have e2 : TL.tl ("_" : Str) = [95] := by decide
    have hrep : ∃ us : List Str, (List.replicate (2 * cs.sum + 1).toNat [V.str ("_" : Str)]).flatten = us.map V.str ∧ us.map TL.tl = (List.replicate (2 * TP.tot cs + 1) 95).map fun c => [c] := by
      refine ⟨List.replicate (2 * TP.tot cs + 1) ("_" : Str), ?_, ?_⟩
      · rw [show (2 * cs.sum + 1).toNat = 2 * TP.tot cs + 1 from by omega]
        generalize 2 * TP.tot cs + 1 = m
        induction m with
        | zero => rfl
        | succ m ih => rw [List.replicate_succ, List.flatten_cons, ih]; rfl
      · rw [List.map_replicate, List.map_replicate, e2]
    obtain ⟨us0, eu, hu0⟩ := hrep
    rw [eu] at F4
    refine Z.wForS (L := [.ob pt (.tup (ps.map V.int))]) (Z.SeqIs.tup List.mem_cons_self) (F4.sub (.cons_cons _ (List.nil_sublist _))) (fun i σ H' => ∃ v3, ∃ us : List Str, σ = [some a, some (.int cs.sum), some (.ref sg), v3] ∧ us.map TL.tl = ((ps.take i).foldl (fun l p => l.set (2 * p.toNat) 124) (List.replicate (2 * TP.tot cs + 1) 95)).map (fun c => [c]) ∧ Z.Fx H' (.ob pt (.tup (ps.map V.int)) :: .ob jp (.tup ((jnt cs).map V.int)) :: .ob sg (.lst (us.map V.str)) :: .ob p1 (.lst [V.str ("_" : Str)]) :: L)) ?_ ?_ ?_ ?_
    · exact ⟨_, us0, rfl, hu0, F4⟩
    · rintro i σ H' ⟨v3, us, rfl, hu, F'⟩
      refine ⟨_, F', fun p o h => ?_⟩
      cases List.mem_singleton.mp h
      exact List.mem_cons_self
    · rintro i x σ H' hx ⟨v3, us, rfl, hu, F'⟩
      obtain ⟨p, rfl, hp⟩ := Z.int_of_map' hx
      have hpb := hb p (List.mem_of_getElem? hp)
      walk_at "z"
      have hul : us.length = 2 * TP.tot cs + 1 := by
        have := congrArg List.length hu
        rw [List.length_map, List.length_map, fold_len, List.length_replicate] at this
        exact this
      refine Z.wSetL F' (.tail _ (.tail _ (.head _))) (Z.ixN_of (by omega) (by rw [List.length_map, hul]; omega)) (.tail (.tail .head)) fun H5 F5 => ⟨_, us.set (2 * p).toNat ("|" : Str), rfl, ?_, ?_⟩
      · have et : ps.take (i + 1) = ps.take i ++ [p] := by rw [List.take_add_one, hp]; rfl
        rw [et, List.foldl_append, show (2 * p).toNat = 2 * p.toNat from by omega]
        exact map_set_tl hu e1
      · rw [List.map_set]
        exact F5
    · rintro σ H' ⟨v3, us, rfl, hu, F'⟩
      rw [List.length_map, List.take_length, ← hps, TP.set_pic hc] at hu
      have hul : us.length = 2 * TP.tot cs + 1 := by
        have := congrArg List.length hu
        rw [List.length_map, List.length_map, TP.pic_len hc] at this
        exact this
      have one : ∀ w ∈ us, w.length ≤ 1 := by
        intro w hw
        have m : TL.tl w ∈ us.map TL.tl := List.mem_map_of_mem hw
        rw [hu] at m
        obtain ⟨c, _, e⟩ := List.mem_map.mp m
        rw [TL.len_tl, ← e]
        exact Nat.le_refl _
      have hsum := TR.sum_le one
      have e0s : ("" : Str).length = 0 := by decide
      walk_at "z"
      refine Z.wJoin (F'.lst (.tail _ (.tail _ (.head _)))) (by rw [e0s]; omega) ?_
      refine q _ _ ?_ (F'.sub (by walk_at "zsub"))
      rw [TL.join_eq, TL.tl_join, hu, show TL.tl ("" : Str) = [] from by decide]
      exact join_chars _
theorem ok__course_picture (T : Txt K mg c_BadCourse c_BadJoints c_BadLength c_BadStock c_BadText c_BadWall c_Stock c_Wall) : Z.Ok CX0 P w K mg base "_course_picture" 2 ["course"] [] (sp__course_picture K) := by
  obtain ⟨f, fd, F, g⟩ := T.d__course_picture
  exact Z.mkOk F g (F.binds (ps := ["course"]) fun _ _ _ _ _ _ us hl => match us, hl with | [_], _ => rfl) (fn__course_picture T F)
theorem use__course_picture {L : List Z.En} {H : Hp} {Q : VK} {E : XK} {K : PySem.W.Frag} {a : V} {cs : List Int} (F : Z.Fx H L) (hs : Z.SeqIs L a (some (cs.map V.int))) (hn : cs ≠ []) (hc : ∀ c ∈ cs, 1 ≤ c) (hl : cs.sum ≤ 900) (q : ∀ z H', TL.tl z = TP.picL cs → Z.Fx H' L → Q (.str z) H') : sp__course_picture K [a] H Q E := ⟨_, rfl, L, cs, F, hs, hn, hc, hl, q⟩
theorem sc__is_picture : FnScope ["row", "between", "places", "sign"] ["row"] (defScope s__is_picture) := ⟨rfl, rfl, rfl, by decide +kernel, rfl, by decide +kernel, by decide +kernel⟩
def sp__is_picture (K : PySem.W.Frag) : Sp := Z.Sp1 fun a H Q E => ∃ (L : List Z.En) (z : Str), Z.Fx H L ∧ a = .str z ∧ z.length ≤ 100000 ∧ ∀ H', Z.Fx H' L → Q (.bl (TP.isPic (TL.tl z))) H'
theorem fn__is_picture (T : Txt K mg c_BadCourse c_BadJoints c_BadLength c_BadStock c_BadText c_BadWall c_Stock c_Wall) {f : Addr} {fd : FuncData} (F : Fun K "_is_picture" "_is_picture" s__is_picture f fd) : FnOk P w K mg base CX0 1 f fd ["row"] (sp__is_picture K) := by
  refine F.ok sc__is_picture (fun vs H Q E h => ?_) (fun cdv A outer s H vs Q E hr h => ?_)
  · obtain ⟨a, rfl, _⟩ := h; rfl
  · obtain ⟨a, rfl, h⟩ := h
    refine ⟨_, (pss_cons (ps_if (PW.pt (pw_or (pt_cmpR (Z.zEq (Z.hu0 hr)) (pe_op Z.zMod (pe_callB Z.zLen (by rfl) T.b_len (by decide +kernel) (pa_cons (pv 0) pa_nil)) pe_int) pe_int (nomark _)) (pw_or1 (pt_not (pt_chain Z.zLe Z.zLe pe_int (pe_callB Z.zLen (by rfl) T.b_len (by decide +kernel) (pa_cons (pv 0) pa_nil)) pe_int)))))
        (pss_one (ps_ret pe_bl))
        pss_nil)
      (pss_cons (ps_set (i := 1) sc__is_picture.nd rfl (by first | exact Or.inl rfl | exact Or.inr rfl) (Z.pe_strStep1 (pv 0)))
      (pss_cons (ps_set (i := 2) sc__is_picture.nd rfl (by first | exact Or.inl rfl | exact Or.inr rfl) (Z.pe_strStep0 (pv 0)))
      (pss_cons (ps_if (PW.pt (pw_or (pt_cmpR (Z.zNe (Z.hu0 hr)) (pv 1) (pe_op Z.op_mulT pe_str (pe_callB Z.zLen (by rfl) T.b_len (by decide +kernel) (pa_cons (pv 1) pa_nil))) (nomark _)) (pw_or1 (pt_not (Z.pt_truN (pe_callB (cr_all rfl) (by rfl) T.b_all (by decide +kernel) (pa_cons (by exact (pe_lc (own := [("sign", 3)]) (g := (gName 3)) (by rfl) sc__is_picture.nd (pi_str (pv 2)) (blkOk_by (own := [("sign", 3)]) (N := ["row", "between", "places", "sign"]) (sc := defScope s__is_picture) (by decide +kernel)) (fun _ _ _ _ _ => (by exact (pg_name (i := 3) sc__is_picture.nd rfl (by first | exact Or.inl rfl | exact Or.inr rfl)))) (fun _ _ _ _ _ => (by exact pts_nil)) (fun _ _ _ _ _ => (by exact (pe_cmpR (show OpR _ _ Z.rInSign from Z.zInSign) (pv 3) pe_str (by rfl)))))) pa_nil)))))))
        (pss_one (ps_ret pe_bl))
        pss_nil)
      (pss_one (ps_ret (pe_andT (pe_cmpR (Z.zEq (Z.hu0 hr)) (pe_ix ix_seq (pv 2) pe_int (fun _ _ => rfl)) pe_str (nomark _)) (pe_one (pe_cmpR (Z.zEq (Z.hu0 hr)) (pe_ix ix_seq (pv 2) (pe_un un_neg pe_int) (fun _ _ => rfl)) pe_str (nomark _)))))))))), ?_⟩
    try dsimp only [cxOf, Cx.nox, Cx.wish]
    refine Z.at_start (σ' := [some a, none, none, none]) rfl ?_
    obtain ⟨L, z, F, rfl, hz, q⟩ := h
    have lb := Z.line_big
    have hz2 : z.length ≤ sizeLine := by omega
    have htl := TL.len_tl z
    walk_at "z"
    refine Z.wIfD (fun h1 => ?_) (fun h1 => ?_)
    · walk_at "z"
      rw [TP.isPic_len (by rw [← htl]; omega)] at q
      exact q _ F
    walk_at "z"
    refine Z.wIfD (fun h2 => ?_) (fun h2 => ?_)
    case refine_2 =>
      walk_at "z"
      rw [TP.isPic_len (by rw [← htl]; omega)] at q
      exact q _ F
    walk_at "z"
    refine Z.wIf (fun h3 => ?_) (fun h3 => ?_)
    · have h3 : ¬ (z.length : Int) ≤ 801 := by simpa using h3
      walk_at "z"
      rw [TP.isPic_len (by rw [← htl]; omega)] at q
      exact q _ F
    have h3 : (z.length : Int) ≤ 801 := by simpa using h3
    walk_at "z"
    refine Z.wStrStep ?_
    walk_at "z"
    refine Z.wStrStepV hz2 ?_
    walk_at "z"
    refine Z.wStrStep ?_
    walk_at "z"
    refine Z.wStrStepV hz2 ?_
    generalize hzo : (⟨(Z.step2 (List.drop 1 z.cps.toList)).toArray⟩ : Str) = zo
    generalize hze : (⟨(Z.step2 (List.drop 0 z.cps.toList)).toArray⟩ : Str) = ze
    have eo : TL.tl zo = Z.step2 ((TL.tl z).drop 1) := by subst hzo; rfl
    have ee : TL.tl ze = Z.step2 (TL.tl z) := by subst hze; rfl
    clear hzo hze
    have hlo : zo.length = (z.length - 1 + 1) / 2 := by rw [TL.len_tl, eo, TP.step2_length, List.length_drop, htl]
    have hle : ze.length = (z.length + 1) / 2 := by rw [TL.len_tl, ee, TP.step2_length, htl]
    have ef : TP.isPic (TL.tl z) = ((TL.tl zo).all (· == 95) && ((TL.tl ze).all (fun c => c == 124 || c == 95) && (decide ((TL.tl ze).head? = some 124) && decide ((TL.tl ze).getLast? = some 124)))) := by
      unfold TP.isPic
      rw [decide_eq_true (show (TL.tl z).length % 2 = 1 ∧ 3 ≤ (TL.tl z).length ∧ (TL.tl z).length ≤ 801 by omega), Bool.true_and]
      simp only [eo, ee]
    rw [ef] at q
    have hzo2 : zo.length ≤ sizeLine := by omega
    have hze2 : ze.length ≤ sizeLine := by omega
    have e1 : TL.tl ("_" : Str) = [95] := by decide
    have e1s : ("_" : Str).length = 1 := by decide
    walk_at "z"
    refine Z.wMulT (by omega) (by omega) (by omega) (by omega) ?_
    walk_at "z"
    refine Z.wNeStr ?_
    have eA : decide (zo = Z.repS ("_" : Str) (zo.length : Int)) = (TL.tl zo).all (· == 95) := by
      have er : TL.tl (Z.repS ("_" : Str) (zo.length : Int)) = List.replicate zo.length 95 := by
        show ((List.replicate (zo.length : Int).toNat (TL.tl ("_" : Str))).flatten.toArray).toList = _
        rw [e1, Int.toNat_natCast]
        show (List.replicate zo.length [95]).flatten = _
        generalize zo.length = m
        induction m with
        | zero => rfl
        | succ m ih => rw [List.replicate_succ, List.flatten_cons, ih, List.replicate_succ]; rfl
      rw [Bool.eq_iff_iff, decide_eq_true_eq, List.all_eq_true]
      constructor
      · intro h c hc
        rw [h, er] at hc
        rw [List.eq_of_mem_replicate hc]; rfl
      · intro h
        refine TL.ext_tl ?_
        rw [er, TL.len_tl]
        exact List.eq_replicate_of_mem fun c hc => by simpa using h c hc
    rw [eA]
    refine ⟨_, rfl, ?_⟩
    refine Z.wIf (fun h4 => ?_) (fun h4 => ?_)
    · have h4 : (TL.tl zo).all (· == 95) = false := by simpa using h4
      rw [h4, Bool.false_and] at q
      walk_at "z"
      exact q _ F
    have h4 : (TL.tl zo).all (· == 95) = true := by simpa using h4
    rw [h4, Bool.true_and] at q
    walk_at "z"
    have eS : TL.tl ("|_" : Str) = [124, 95] := by decide
    have hS : ∀ c : Nat, decide (c ∈ ("|_" : Str).cps.toList) = (c == 124 || c == 95) := by
      intro c
      show decide (c ∈ TL.tl ("|_" : Str)) = _
      rw [eS, Bool.eq_iff_iff]
      simp
    refine Z.wLcW Z.walk_str F (fun i acc L' => L' = L ∧ acc = ((TL.tl ze).take i).map fun c => V.bl (c == 124 || c == 95)) ⟨rfl, rfl⟩ (fun _ _ _ _ _ _ _ => trivial) ?_ ?_
    · rintro i x D H1 H2 acc L' hi ⟨rfl, rfl⟩ F1 ⟨rfl, c, hc, rfl⟩
      walk_at "zw"
      walk_at "z"
      refine ⟨rfl, ?_⟩
      walk_at "z"
      rw [hS c]
      have hc2 : (TL.tl ze)[i]? = some c := by rw [Array.getElem?_toList]; exact hc
      refine Z.lcPut F1 (by rw [List.length_map, List.length_take, ← TL.len_tl]; omega) ⟨rfl, (Z.take_succ_map hc2).symm⟩
    rintro D acc L' H2 F2 ⟨rfl, rfl⟩
    have e5 : (TL.tl ze).take ze.cps.size = TL.tl ze := List.take_of_length_le (by rw [← TL.len_tl]; exact Nat.le_refl _)
    have e0 : ((TL.tl ze).map fun c => V.bl (c == 124 || c == 95)) = ((TL.tl ze).map fun c => (c == 124 || c == 95)).map V.bl := by rw [List.map_map]; rfl
    rw [e5, e0] at F2
    have ea : (((TL.tl ze).map fun c => (c == 124 || c == 95)).all id) = (TL.tl ze).all fun c => (c == 124 || c == 95) := by rw [List.all_map]; rfl
    walk_at "z"
    refine Z.wAll (F2.lst List.mem_cons_self) ?_
    rw [ea]
    replace F2 := F2.sub (List.sublist_cons_self _ _)
    walk_at "z"
    refine Z.wIf (fun h5 => ?_) (fun h5 => ?_)
    · have h5 : ((TL.tl ze).all fun c => (c == 124 || c == 95)) = false := by simpa using h5
      rw [h5, Bool.false_and] at q
      walk_at "z"
      exact q _ F2
    have h5 : ((TL.tl ze).all fun c => (c == 124 || c == 95)) = true := by simpa using h5
    rw [h5, Bool.true_and] at q
    have hsgn : ∀ c : Nat, decide (V.str ⟨#[c]⟩ = V.str ("|" : Str)) = decide (some c = some 124) := fun c => by
      rw [decide_eq_decide]
      constructor
      · intro h
        injection h with h
        have h : (⟨#[c]⟩ : Str).cps = #[124] := congrArg Str.cps h
        have h : #[c] = #[124] := h
        simpa using h
      · intro h
        injection h with h
        subst h
        rfl
    have hlen : (TL.tl ze).length = ze.length := (TL.len_tl ze).symm
    obtain ⟨a, r, ea2⟩ : ∃ a r, TL.tl ze = a :: r := by
      cases hh : TL.tl ze with
      | nil => rw [hh] at hlen; exfalso; have : ze.length = 0 := hlen.symm; omega
      | cons a r => exact ⟨a, r, rfl⟩
    obtain ⟨b, l, eb2⟩ : ∃ b l, TL.tl ze = l ++ [b] := ⟨(TL.tl ze).getLast (by rw [ea2]; simp), (TL.tl ze).dropLast, (List.dropLast_concat_getLast (by rw [ea2]; simp)).symm⟩
    have q1 : (TL.tl ze).head? = some a := by rw [ea2]; rfl
    have q2 : (TL.tl ze).getLast? = some b := by rw [eb2]; simp
    rw [q1, q2] at q
    walk_at "z"
    refine Z.wIxS hze2 (c := a) (by show atI (TL.tl ze) ((0 : Nat) : Int) = some a; rw [ea2]; exact atI_nat rfl) ?_
    walk_at "z"
    refine Z.wOr1 (Z.wEqS rfl ?_)
    rw [hsgn]
    walk_at "z"
    refine Z.wIf (fun h6 => ?_) (fun h6 => ?_)
    case refine_2 =>
      rw [h6, Bool.false_and] at q
      rw [h6]
      exact q _ F2
    rw [h6, Bool.true_and] at q
    walk_at "z"
    refine Z.wIxS hze2 (c := b) (by show atI (TL.tl ze) (-1) = some b; rw [eb2]; exact atI_last l b) ?_
    walk_at "z"
    refine Z.wOr1 (Z.wEqS rfl ?_)
    rw [hsgn]
    exact q _ F2
theorem ok__is_picture (T : Txt K mg c_BadCourse c_BadJoints c_BadLength c_BadStock c_BadText c_BadWall c_Stock c_Wall) : Z.Ok CX0 P w K mg base "_is_picture" 1 ["row"] [] (sp__is_picture K) := by
  obtain ⟨f, fd, F, g⟩ := T.d__is_picture
  exact Z.mkOk F g (F.binds (ps := ["row"]) fun _ _ _ _ _ _ us hl => match us, hl with | [_], _ => rfl) (fn__is_picture T F)
theorem use__is_picture {H : Hp} {Q : VK} {E : XK} {L : List Z.En} {K : PySem.W.Frag} {z : Str} (F : Z.Fx H L) (hz : z.length ≤ 100000) (q : ∀ H', Z.Fx H' L → Q (.bl (TP.isPic (TL.tl z))) H') : sp__is_picture K [.str z] H Q E := ⟨_, rfl, L, z, F, rfl, hz, q⟩
theorem sc_wall_picture : FnScope ["wall", "course"] ["wall"] (defScope s_wall_picture) := ⟨rfl, rfl, rfl, by decide +kernel, rfl, by decide +kernel, by decide +kernel⟩
theorem al2_rev {α β : Type} {R : α → β → Prop} {xs : List α} {ys : List β} (h : Z.Al2 R xs ys) : Z.Al2 R xs.reverse ys.reverse := by
  refine ⟨by rw [List.length_reverse, List.length_reverse]; exact h.len, fun i a b ha hb => ?_⟩
  have h1 : i < xs.length := by simpa using (List.getElem?_eq_some_iff.mp ha).1
  have h2 : i < ys.length := by simpa using (List.getElem?_eq_some_iff.mp hb).1
  rw [List.getElem?_reverse h1] at ha
  rw [List.getElem?_reverse h2, ← h.len] at hb
  exact h.2 _ a b ha hb
theorem small_rows {cs : List Int} (h : ∀ c ∈ cs, 1 ≤ c) (hs : cs.sum ≤ 900) {z : Str} (hz : TL.tl z = TP.picL cs) : z.length ≤ 1801 := by
  rw [TL.len_tl, hz, TP.pic_len h]
  have := TP.tot_sum h
  omega
def sp_wall_picture (K : PySem.W.Frag) (cW : Addr) : Sp := Z.Sp1 fun a H Q E => ∃ (L : List Z.En) (y x : Addr) (rows : List (List Int)), Z.Fx H L ∧ a = .ref y ∧ WallIn cW L y x rows ∧ rows.length ≤ 60 ∧ (∀ cs ∈ rows, cs ≠ [] ∧ (∀ c ∈ cs, 1 ≤ c) ∧ cs.sum ≤ 900) ∧
  ∀ z H', TL.tl z = TL.joinL [10] (rows.reverse.map TP.picL) → Z.Fx H' L → Q (.str z) H'
theorem fn_wall_picture (T : Txt K mg c_BadCourse c_BadJoints c_BadLength c_BadStock c_BadText c_BadWall c_Stock c_Wall) {f : Addr} {fd : FuncData} (F : Fun K "wall_picture" "wall_picture" s_wall_picture f fd) : FnOk P w K mg base CX0 3 f fd ["wall"] (sp_wall_picture K c_Wall) := by
  have O__course_picture := ok__course_picture (P := P) (w := w) (base := base) T
  refine F.ok sc_wall_picture (fun vs H Q E h => ?_) (fun cdv A outer s H vs Q E hr h => ?_)
  · obtain ⟨a, rfl, _⟩ := h; rfl
  · obtain ⟨a, rfl, h⟩ := h
    refine ⟨_, (pss_one (ps_ret (Z.pe_joi pe_str (by exact (pe_lc (own := [("course", 1)]) (g := (gName 1)) (by rfl) sc_wall_picture.nd (Z.pi_seq (Z.pe_revS (pe_fld (pv 0) rfl))) (blkOk_by (own := [("course", 1)]) (N := ["wall", "course"]) (sc := defScope s_wall_picture) (by decide +kernel)) (fun _ _ _ _ _ => (by exact (pg_name (i := 1) sc_wall_picture.nd rfl (by first | exact Or.inl rfl | exact Or.inr rfl)))) (fun _ _ _ _ _ => (by exact pts_nil)) (fun _ _ _ _ _ => (by exact (Z.pe_callO O__course_picture (by rfl) (hr.mono (by decide)) pass0 (pa_cons (pv 1) pa_nil))))))))), ?_⟩
    try dsimp only [cxOf, Cx.nox, Cx.wish]
    refine Z.at_start (σ' := [some a, none]) rfl ?_
    obtain ⟨L, y, x, rows, F, rfl, ⟨dx, p, m1, ws, m2, al⟩, h60, hr, q⟩ := h
    have hcl := T.i_Wall.cl
    have lb := Z.line_big
    have hwl := al.len
    walk_at "z"
    refine Z.wFldAt F m1 hcl T.n_Wall_courses (wall_courses _ _ _) ?_
    walk_at "y"
    rename_i rvp H0 F0
    have alr := al2_rev al
    have hrr : ∀ cs ∈ rows.reverse, cs ≠ [] ∧ (∀ c ∈ cs, 1 ≤ c) ∧ cs.sum ≤ 900 := fun cs h => hr cs (List.mem_reverse.mp h)
    have hwr : ws.reverse.length = rows.reverse.length := alr.len
    have h60r : rows.reverse.length ≤ 60 := by rw [List.length_reverse]; exact h60
    generalize rows.reverse = rws at *
    generalize ws.reverse = wsr at *
    refine Z.wLcT List.mem_cons_self F0 (fun i acc L' => L' = .ob rvp (.tup wsr) :: L ∧ ∃ ys : List Str, acc = ys.map V.str ∧ ys.map TL.tl = (rws.take i).map TP.picL ∧ ∀ y ∈ ys, y.length ≤ 1801) ⟨rfl, [], rfl, rfl, by simp⟩ (fun _ _ _ r => by rw [r.1]; exact List.mem_cons_self) ?_ ?_
    · rintro i v D H1 acc L' hx ⟨rfl, ys, rfl, hy, hl⟩ F1
      obtain ⟨cs, hcs, ⟨q1, rfl, mq⟩⟩ := alr.getL hx
      obtain ⟨b1, b2, b3⟩ := hrr cs (List.mem_of_getElem? hcs)
      walk_at "zw"
      walk_at "z"
      refine ⟨rfl, ?_⟩
      walk_at "z"
      refine use__course_picture (K := K) F1 (.tup (.tail _ (.tail _ mq))) b1 b2 b3 fun z2 H2 ez F2 => ?_
      have lz := small_rows b2 b3 ez
      have hyl : ys.length = min i rws.length := by
        have := congrArg List.length hy
        rw [List.length_map, List.length_map, List.length_take] at this
        exact this
      refine Z.lcPut F2 (by rw [List.length_map]; omega) ⟨rfl, ys ++ [z2], by rw [List.map_append]; rfl, ?_, fun y hy2 => ?_⟩
      · rw [List.map_append, hy, List.take_add_one, hcs, List.map_append]
        show _ ++ [TL.tl z2] = _ ++ [TP.picL cs]
        rw [ez]
      · rcases List.mem_append.mp hy2 with h | h
        · exact hl y h
        · cases List.mem_singleton.mp h
          exact lz
    rintro D acc L' H2 F2 ⟨rfl, ys, rfl, hy, hl⟩
    rw [hwr, List.take_length] at hy
    have hyl : ys.length = rws.length := by
      have := congrArg List.length hy
      rw [List.length_map, List.length_map] at this
      exact this
    have e1 : ("\n" : Str).length = 1 := by decide
    have hsum : (ys.map (·.length)).sum ≤ ys.length * 1801 := TR.sum_le hl
    refine Z.wJoin (F2.lst List.mem_cons_self) (by rw [e1]; omega) ?_
    refine q _ _ ?_ (F2.sub (.cons _ (.cons _ (.refl _))))
    rw [TL.join_eq, TL.tl_join, hy]
    rfl
theorem ok_wall_picture (T : Txt K mg c_BadCourse c_BadJoints c_BadLength c_BadStock c_BadText c_BadWall c_Stock c_Wall) : Z.Ok CX0 P w K mg base "wall_picture" 3 ["wall"] [] (sp_wall_picture K c_Wall) := by
  obtain ⟨f, fd, F, g⟩ := T.d_wall_picture
  exact Z.mkOk F g (F.binds (ps := ["wall"]) fun _ _ _ _ _ _ us hl => match us, hl with | [_], _ => rfl) (fn_wall_picture T F)
theorem use_wall_picture {cW : Addr} {H : Hp} {Q : VK} {E : XK} {L : List Z.En} {K : PySem.W.Frag} {y x : Addr} {rows : List (List Int)} (F : Z.Fx H L) (wi : WallIn cW L y x rows) (h60 : rows.length ≤ 60) (hr : ∀ cs ∈ rows, cs ≠ [] ∧ (∀ c ∈ cs, 1 ≤ c) ∧ cs.sum ≤ 900)
  (q : ∀ z H', TL.tl z = TL.joinL [10] (rows.reverse.map TP.picL) → Z.Fx H' L → Q (.str z) H') : sp_wall_picture K cW [.ref y] H Q E := ⟨_, rfl, L, y, x, rows, F, rfl, wi, h60, hr, q⟩
theorem sc_wall_seen : FnScope ["stock", "text", "courses", "number", "row", "course"] ["stock", "text"] (defScope s_wall_seen) := ⟨rfl, rfl, rfl, by decide +kernel, rfl, by decide +kernel, by decide +kernel⟩
def PicOf (w : Str) : Prop := ∃ cs : List Int, TL.tl w = TP.picL cs ∧ cs ≠ [] ∧ (∀ c ∈ cs, 1 ≤ c) ∧ cs.sum ≤ 400
/-- the bricks that a picture shows -/
def picNums (w : Str) : List Int := ((TP.pos 0 (Z.step2 (TL.tl w))).zip (TP.pos 0 (Z.step2 (TL.tl w))).tail).map fun p => p.2 - p.1
def picErr (ns : List Int) (w : Str) : Option Str := if TP.isPic (TL.tl w) = false then some "shape" else if (courseW ns (some ((picNums w).map V.int))).isSome then some "course" else none
theorem zip_cum : ∀ (cs : List Int) (s : Int), ((s :: TP.cum s cs).zip (TP.cum s cs)).map (fun p => p.2 - p.1) = cs
  | [], _ => rfl
  | c :: r, s => by
    show (s + c - s) :: (((s + c) :: TP.cum (s + c) r).zip (TP.cum (s + c) r)).map (fun p => p.2 - p.1) = c :: r
    rw [zip_cum r (s + c), show s + c - s = c from by omega]
theorem picNums_pic {w : Str} {cs : List Int} (e : TL.tl w = TP.picL cs) (hc : ∀ c ∈ cs, 1 ≤ c) : picNums w = cs := by
  unfold picNums
  have e2 : TP.pos 0 (Z.step2 (TL.tl w)) = (0 : Int) :: TP.cum 0 cs := by
    rw [e]
    show TP.pos 0 (Z.step2 (124 :: TP.body cs)) = _
    rw [TP.even_body hc, TP.pos_even hc]
  rw [e2]
  exact zip_cum cs 0
theorem pic_Cok {ns : List Int} {z : Str} (h : picErr ns z = none) : Cok ns (picNums z) := by
  unfold picErr at h
  split at h
  · cases h
  · split at h
    · cases h
    · rename_i h2
      exact good_Cok (by simpa using h2)
theorem like_headG {g : Str → List Int} {rows : List Str} {i : Nat} (hi : i < rows.length) (h0 : 0 < i) : ((rows.take i).map g).getD 0 [] = g (rows.getD 0 "") ∧ ((rows.take i).map g).isEmpty = false := by
  cases rows with
  | nil => simp at hi
  | cons a r =>
    obtain ⟨k, rfl⟩ : ∃ k, i = k + 1 := ⟨i - 1, by omega⟩
    exact ⟨rfl, rfl⟩
theorem like_sumG {g : Str → List Int} {rows : List Str} {i : Nat} {cs : List Int} (hi : i < rows.length) (h : likeNo ((rows.take i).map g) cs = true) : ¬ cs.sum = (g (rows.getD 0 "")).sum := by
  unfold likeNo at h
  by_cases h0 : 0 < i
  · rw [(like_headG hi h0).1] at h
    simp at h
    exact h.2
  · obtain rfl : i = 0 := by omega
    simp at h
theorem like_yesG {g : Str → List Int} {rows : List Str} {i : Nat} {row : Str} (hi : i < rows.length) (e : rows.getD i "" = row) (h : likeNo ((rows.take i).map g) (g row) = false) : (g row).sum = (g (rows.getD 0 "")).sum := by
  unfold likeNo at h
  by_cases h0 : 0 < i
  · obtain ⟨a, b⟩ := like_headG (g := g) hi h0
    rw [a, b] at h
    simpa using h
  · obtain rfl : i = 0 := by omega
    rw [e]
def sp_wall_seen (K : PySem.W.Frag) (cS cW cB : Addr) : Sp := Z.Sp2 fun a b H Q E => ∃ (L : List Z.En) (x : Addr) (ns : List Int) (l r : Int) (k : Z.Kd), Z.Fx H L ∧ a = .ref x ∧ StockIn cS L x ns l r ∧ Z.Thing L b k ∧ wideV b ∧ (∀ w ∈ rowsV b, w.length ≤ 10000 ∧ (TP.isPic (TL.tl w) = true → PicOf w)) ∧
  (∀ w, rowsErr b = some w → ∀ e H', Z.Fx H' (.ob e (.xd [("what", .str w), ("number", .int 0)]) :: L) → E (.ref cB) (some e) H') ∧
  (rowsErr b = none → ∀ (i : Nat) w, i < (rowsV b).length → (∀ j < i, TR.rowBad (picErr ns) picNums (rowsV b) j = none) → TR.rowBad (picErr ns) picNums (rowsV b) i = some w →
    ∀ e L1 H', L.Sublist L1 → Z.Fx H' (.ob e (.xd [("what", .str w), ("number", .int (i : Nat))]) :: L1) → E (.ref cB) (some e) H') ∧
  (rowsErr b = none → (∀ j < (rowsV b).length, TR.rowBad (picErr ns) picNums (rowsV b) j = none) → ∀ y L1 H', L.Sublist L1 → WallIn cW L1 y x ((rowsV b).map picNums).reverse → Z.Fx H' L1 → Q (.ref y) H')
theorem fn_wall_seen (T : Txt K mg c_BadCourse c_BadJoints c_BadLength c_BadStock c_BadText c_BadWall c_Stock c_Wall) {f : Addr} {fd : FuncData} (F : Fun K "wall_seen" "wall_seen" s_wall_seen f fd) : FnOk P w K mg base (L2.CX P w) 9 f fd ["stock", "text"] (sp_wall_seen K c_Stock c_Wall c_BadText) := by
  have O_BadText___init__ := ok_BadText___init__ (P := P) (w := w) (base := base) T
  have O__bricks_seen := ok__bricks_seen (P := P) (w := w) (base := base) T
  have O__check_like := ok__check_like (P := P) (w := w) (base := base) T
  have O__is_picture := ok__is_picture (P := P) (w := w) (base := base) T
  have O__rows_in := ok__rows_in (P := P) (w := w) (base := base) T
  have O_course_told := ok_course_told (P := P) (w := w) (base := base) T
  have O_Wall_2 := ok_Wall___init___2 (P := P) (w := w) (base := base) T
  refine F.okX sc_wall_seen (fun vs H Q E h => ?_) (fun cdv A outer s H vs Q E hr h => ?_)
  · obtain ⟨a, b, rfl, _⟩ := h; rfl
  · obtain ⟨a, b, rfl, h⟩ := h
    have TK := takes_of (X := cxOf (L2.CX P w) P w K mg base ["stock", "text", "courses", "number", "row", "course"] "wall_seen" (defScope s_wall_seen) f cdv A outer s H E) rfl rfl rfl rfl
    refine ⟨_, (pss_cons (ps_set (i := 2) sc_wall_seen.nd rfl (by first | exact Or.inl rfl | exact Or.inr rfl) (pe_lst pa_nil))
      (pss_cons (ps_for (Z.owns rfl) (by rfl) (Z.pi_enumS (by rfl) T.b_enumerate (pa_cons (Z.pe_callO O__rows_in (by rfl) (hr.mono (by decide)) (Z.passE TK) (pa_cons (pv 1) pa_nil)) pa_nil)) (pg_tup (by rfl) (pgs_cons (pg_name (i := 3) sc_wall_seen.nd rfl (by first | exact Or.inl rfl | exact Or.inr rfl)) (pgs_cons (pg_name (i := 4) sc_wall_seen.nd rfl (by first | exact Or.inl rfl | exact Or.inr rfl)) pgs_nil)))
        (pss_cons (ps_if (pt_not (Z.pt_truN (Z.pe_callO O__is_picture (by rfl) (hr.mono (by decide)) pass0 (pa_cons (pv 4) pa_nil))))
          (pss_one (ps_raise (by rfl) TK (Z.pmk_errO T.x_BadText O_BadText___init__ (hr.mono (by decide)) T.g_BadText (by rfl) (pa_cons (pv 3) (pa_cons pe_str pa_nil)))))
          pss_nil)
        (pss_cons (ps_set (i := 5) sc_wall_seen.nd rfl (by first | exact Or.inl rfl | exact Or.inr rfl) (Z.pe_callO O_course_told (by rfl) (hr.mono (by decide)) (Z.passE TK) (pa_cons (pv 0) (pa_cons (Z.pe_callO O__bricks_seen (by rfl) (hr.mono (by decide)) pass0 (pa_cons (pv 4) pa_nil)) (pa_cons (pv 3) pa_nil)))))
        (pss_cons (ps_expr (Z.pe_callO O__check_like (by rfl) (hr.mono (by decide)) (Z.passE TK) (pa_cons (pv 2) (pa_cons (pv 5) (pa_cons (pv 3) pa_nil)))))
        (pss_one (ps_expr (pe_bm PySem.F.plainAttrs_list PySem.F.slot_list_append PySem.F.type_list_append mt_append (pv 2) (pa_cons (pv 5) pa_nil))))))))
      (pss_one (ps_ret (Z.pe_makeO O_Wall_2 (hr.mono (by decide)) T.g_Wall (by rfl) (Z.passE TK) (pa_cons (pv 0) (pa_cons (Z.pe_revS (pv 2)) pa_nil))))))), ?_⟩
    try dsimp only [cxOf, Cx.nox, Cx.wish]
    refine Z.at_start (σ' := [some a, some b, none, none, none, none]) rfl ?_
    obtain ⟨L, x, ns, l, r, k, F, rfl, si, ht, hz, h10, kM, kE, kQ⟩ := h
    have lb := Z.line_big
    walk_at "z"
    rename_i cp H1 F1
    refine use__rows_in F1 ht.cons hz (fun w hw e H2 F2 => kM w hw e H2 (F2.sub (.cons_cons _ (List.sublist_cons_self _ _)))) (fun hn p H2 F2 => ?_)
    have hlen : (rowsV b).length ≤ 60 ∧ 1 ≤ (rowsV b).length := by
      cases ht with
      | str z =>
        have h1 : (if 60 < (TR.rowsT z).length then some ("many" : Str) else none) = none := hn
        have h2 := (TR.rowsT_size (z := z)).2.2
        have h3 : (rowsV (V.str z)) = TR.rowsT z := rfl
        rw [h3]
        constructor
        · by_cases h : 60 < (TR.rowsT z).length
          · rw [if_pos h] at h1; cases h1
          · omega
        · cases hr : TR.rowsT z with
          | nil => exact absurd hr h2
          | cons a r => simp
      | _ => cases hn
    generalize rowsV b = rows at *
    walk_at "z"
    refine Z.wForE (L := [.ob p (.lst (rows.map V.str))]) (.lst List.mem_cons_self) (F2.sub (.cons_cons _ (List.nil_sublist _))) (fun i σ' H' => ∃ vs L2 v3 v4 v5, σ' = [some (.ref x), some b, some (.ref cp), v3, v4, v5] ∧ Z.Fx H' (.ob cp (.lst vs) :: .ob p (.lst (rows.map V.str)) :: L2) ∧ L.Sublist L2 ∧
        Z.Al2 (TupOf L2) vs ((rows.take i).map picNums) ∧ ∀ j < i, TR.rowBad (picErr ns) picNums rows j = none) ?_ ?_ ?_ ?_
    · exact ⟨[], L, _, _, _, rfl, F2.perm (.swap _ _ _), .refl _, .nil, fun j hj => absurd hj (Nat.not_lt_zero _)⟩
    · rintro i σ' H' ⟨vs, L2, v3, v4, v5, rfl, F', sub, al, hj⟩
      refine ⟨_, F', fun q o hq => ?_⟩
      cases List.mem_singleton.mp hq
      exact .tail _ (.head _)
    · rintro i y t σ' H3 hy ⟨vs, L2, v3, v4, v5, rfl, F', sub, al, hj⟩ hT
      obtain ⟨row, hrow, rfl⟩ : ∃ w, rows[i]? = some w ∧ V.str w = y := by
        rw [List.getElem?_map] at hy
        cases hh : rows[i]? with
        | none => rw [hh] at hy; cases hy
        | some w => rw [hh] at hy; exact ⟨w, rfl, by injection hy⟩
      have hi : i < rows.length := (List.getElem?_eq_some_iff.mp hrow).1
      have eget : rows.getD i "" = row := by rw [List.getD_eq_getElem?_getD, hrow]; rfl
      obtain ⟨w10, wpic⟩ := h10 _ (List.mem_of_getElem? hrow)
      have hvl : vs.length = i := by
        have := al.len
        rw [List.length_map, List.length_take] at this
        omega
      have F3 := F'.new (o := .tup [.int (i : Nat), .str row]) hT
      generalize upd H3 t (.tup [.int (i : Nat), .str row]) = H4 at *
      have sub3 : L.Sublist (.ob t (.tup [.int (i : Nat), .str row]) :: .ob cp (.lst vs) :: .ob p (.lst (rows.map V.str)) :: L2) := .cons _ (.cons _ (.cons _ sub))
      walk_at "z"
      refine use__is_picture F3 (by omega) fun H5 F5 => ?_
      walk_at "z"
      refine Z.wIf (fun hp => ?_) (fun hp => ?_)
      · have hp : TP.isPic (TL.tl row) = false := by simpa using hp
        walk_at "z"
        exact Z.wMk2 T.x_BadText.oex T.n_BadText_number T.n_BadText_what F5 (fun e H6 F6 => kE hn i "shape" hi hj (TR.rowBad_f (by rw [eget]; unfold picErr; rw [if_pos hp])) e _ H6 sub3 F6)
      have hp : TP.isPic (TL.tl row) = true := by simpa using hp
      have nhp : ¬ TP.isPic (TL.tl row) = false := by rw [hp]; decide
      obtain ⟨cs, ez, c1, c2, c3⟩ := wpic hp
      have epn := picNums_pic ez c2
      walk_at "z"
      refine use__bricks_seen F5 ez c1 c2 c3 fun p5 H6 F6 => ?_
      walk_at "z"
      refine use_course_told F6 (si.le (sub3.cons _)) (.tup List.mem_cons_self) (fun hw e H7 F7 => ?_) (fun hw p7 L1 H7 hst F7 => ?_)
      · refine kE hn i "course" hi hj (TR.rowBad_f ?_) e _ H7 (sub3.cons _) F7
        rw [eget]
        unfold picErr
        rw [if_neg nhp, epn, if_pos]
        cases h : courseW ns (some (cs.map V.int)) with
        | none => exact absurd h hw
        | some w => rfl
      have herr : picErr ns row = none := by
        unfold picErr
        rw [if_neg nhp, epn, hw]
        rfl
      have F8 : Z.Fx H7 (.ob p7 (.tup (cs.map V.int)) :: .ob t (.tup [.int (i : Nat), .str row]) :: .ob cp (.lst vs) :: .ob p (.lst (rows.map V.str)) :: L2) := by
        cases hst with
        | new => exact F7.sub (.cons_cons _ (.cons _ (.refl _)))
        | same e m => cases e; exact F7
      clear F7 hst
      walk_at "z"
      refine use__check_like F8 (.tail _ (.tail _ (.head _))) (rows := (rows.take i).map picNums) (al.mono fun _ _ h => h.mono fun e m => .tail _ (.tail _ (.tail _ (.tail _ m)))) (.tup List.mem_cons_self) (fun hlk e H9 F9 => ?_) (fun hlk H9 F9 => ?_)
      · refine kE hn i "length" hi hj ?_ e _ H9 (sub3.cons _) F9
        rw [TR.rowBad_no (by rw [eget]; exact herr), eget, epn]
        exact if_neg (like_sumG hi hlk)
      · walk_at "z"
        refine Z.wApp F9 (.tail _ (.tail _ (.head _))) (.tail (.tail .head)) (by have := Z.line_big; omega) fun H10 F10 => ?_
        refine ⟨vs ++ [.ref p7], .ob p7 (.tup (cs.map V.int)) :: L2, _, _, _, rfl, ?_, .cons _ sub, ?_, fun j hj2 => ?_⟩
        · exact (F10.sub (.cons_cons _ (.cons _ (.refl _)))).perm (List.perm_middle (l₁ := [Z.En.ob cp (.lst (vs ++ [.ref p7])), Z.En.ob p (.lst (rows.map V.str))])).symm
        · rw [List.take_add_one, hrow, List.map_append]
          refine (al.mono fun _ _ h => h.mono fun e m => .tail _ m).snoc ⟨p7, rfl, ?_⟩
          rw [epn]
          exact List.mem_cons_self
        · by_cases h : j < i
          · exact hj j h
          · obtain rfl : j = i := by omega
            rw [TR.rowBad_no (by rw [eget]; exact herr), eget]
            rw [← epn] at hlk
            exact if_pos (like_yesG hi eget hlk)
    · rintro σ' H3 ⟨vs, L2, v3, v4, v5, rfl, F', sub, al, hj⟩
      rw [List.length_map] at hj al
      rw [List.take_length] at al
      walk_at "z"
      rename_i rp H4 F4
      have hgood : ∀ j < rows.length, picErr ns (rows.getD j "") = none ∧ (picNums (rows.getD j "")).sum = (picNums (rows.getD 0 "")).sum := fun j h => TR.rowBad_good (hj j h)
      have hall0 : ∀ cs ∈ rows.map picNums, Cok ns cs ∧ cs.sum = (picNums (rows.getD 0 "")).sum := by
        intro cs hcs
        obtain ⟨j, hj1, rfl⟩ := List.mem_iff_getElem.mp hcs
        rw [List.length_map] at hj1
        have e1 : rows.getD j "" = rows[j] := by rw [List.getD_eq_getElem?_getD, List.getElem?_eq_getElem hj1]; rfl
        obtain ⟨a, b⟩ := hgood j hj1
        rw [e1] at a b
        rw [List.getElem_map]
        exact ⟨pic_Cok a, b⟩
      have hrl : (rows.map picNums).reverse.length = rows.length := by rw [List.length_reverse, List.length_map]
      have hall : ∀ cs ∈ (rows.map picNums).reverse, Cok ns cs ∧ cs.sum = ((rows.map picNums).reverse.getD 0 []).sum := by
        intro cs hcs
        obtain ⟨a, b⟩ := hall0 cs (List.mem_reverse.mp hcs)
        have hm : (rows.map picNums).reverse.getD 0 [] ∈ rows.map picNums := by
          rw [List.getD_eq_getElem?_getD, List.getElem?_eq_getElem (by omega)]
          exact List.mem_reverse.mp (List.getElem_mem _)
        exact ⟨a, by rw [b, (hall0 _ hm).2]⟩
      have alr := al2_rev al
      refine use_Wall (QX := fun y H => Q (.ref y) H) (ns := ns) F4 (si.le (.cons _ (.cons _ (.cons _ sub)))) (.lst List.mem_cons_self) (os := (rows.map picNums).reverse.map intsO) (fun ws e => ?_) (fun hm => ?_) (fun i w h1 h2 h3 h4 => ?_) (fun rows' h1 h2 h3 y L1 H4 s wi F4 => ?_)
      · cases e
        refine ⟨by rw [List.length_map]; exact alr.len, fun i a b ha hb => ?_⟩
        rw [List.getElem?_map] at hb
        obtain ⟨cs, hcs, hto⟩ := alr.getL ha
        rw [hcs] at hb
        injection hb with hb
        subst hb
        refine ⟨(hto.mono fun e m => .tail _ (.tail _ (.tail _ m))).seq, fun xs e x hx => ?_⟩
        cases e
        obtain ⟨n, _, rfl⟩ := List.mem_map.mp hx
        exact ⟨_, .int n⟩
      · exfalso
        have e : Z.inLen 1 60 (some vs.reverse) = true := by
          have := al.len
          rw [List.length_map] at this
          simp only [Z.inLen, Bool.and_eq_true, decide_eq_true_eq, List.length_reverse]
          omega
        rw [e] at hm
        cases hm
      · exfalso
        rw [List.length_map] at h2
        rw [flaw_none hall h2] at h4
        cases h4
      · obtain rfl := intsO_inj h2
        exact kQ hn hj y L1 H4 ((((sub.cons _).cons _).cons _).trans s) wi F4
theorem ok_wall_seen (T : Txt K mg c_BadCourse c_BadJoints c_BadLength c_BadStock c_BadText c_BadWall c_Stock c_Wall) : Z.Ok (L2.CX P w) P w K mg base "wall_seen" 9 ["stock", "text"] [] (sp_wall_seen K c_Stock c_Wall c_BadText) := by
  obtain ⟨f, fd, F, g⟩ := T.d_wall_seen
  exact Z.mkOk F g (F.binds (ps := ["stock", "text"]) fun _ _ _ _ _ _ us hl => match us, hl with | [_, _], _ => rfl) (fn_wall_seen T F)
theorem use_wall_seen {cS cW cB : Addr} {H : Hp} {Q : VK} {E : XK} {L : List Z.En} {K : PySem.W.Frag} {x : Addr} {b : V} {ns : List Int} {l r : Int} {k : Z.Kd} (F : Z.Fx H L) (si : StockIn cS L x ns l r) (ht : Z.Thing L b k) (hz : wideV b) (h10 : ∀ w ∈ rowsV b, w.length ≤ 10000 ∧ (TP.isPic (TL.tl w) = true → PicOf w))
  (kM : ∀ w, rowsErr b = some w → ∀ e H', Z.Fx H' (.ob e (.xd [("what", .str w), ("number", .int 0)]) :: L) → E (.ref cB) (some e) H')
  (kE : rowsErr b = none → ∀ (i : Nat) w, i < (rowsV b).length → (∀ j < i, TR.rowBad (picErr ns) picNums (rowsV b) j = none) → TR.rowBad (picErr ns) picNums (rowsV b) i = some w →
    ∀ e L1 H', L.Sublist L1 → Z.Fx H' (.ob e (.xd [("what", .str w), ("number", .int (i : Nat))]) :: L1) → E (.ref cB) (some e) H')
  (kQ : rowsErr b = none → (∀ j < (rowsV b).length, TR.rowBad (picErr ns) picNums (rowsV b) j = none) → ∀ y L1 H', L.Sublist L1 → WallIn cW L1 y x ((rowsV b).map picNums).reverse → Z.Fx H' L1 → Q (.ref y) H') : sp_wall_seen K cS cW cB [.ref x, b] H Q E :=
  ⟨_, _, rfl, L, x, ns, l, r, k, F, rfl, si, ht, hz, h10, kM, kE, kQ⟩
theorem sc__law_looked : FnScope ["_law_stock", "_law_text", "_law_told", "raised"] ["_law_stock", "_law_text"] (defScope s__law_looked) := ⟨rfl, rfl, rfl, by decide +kernel, rfl, by decide +kernel, by decide +kernel⟩
def sp__law_looked (K : PySem.W.Frag) (cS cW : Addr) : Sp := Z.Sp2 fun a b H Q E => ∃ (L : List Z.En) (x : Addr) (ns : List Int) (l r : Int) (k : Z.Kd), Z.Fx H L ∧ a = .ref x ∧ StockIn cS L x ns l r ∧ Z.Thing L b k ∧ wideV b ∧ (∀ w ∈ rowsV b, w.length ≤ 10000 ∧ (TP.isPic (TL.tl w) = true → PicOf w)) ∧
  (∀ w, rowsErr b = some w → ∀ v L1 H', L.Sublist L1 → Z.Dt L1 v (.list [.int 0, .str w]) → Z.Fx H' L1 → Q v H') ∧
  (rowsErr b = none → ∀ (i : Nat) w, i < (rowsV b).length → (∀ j < i, TR.rowBad (picErr ns) picNums (rowsV b) j = none) → TR.rowBad (picErr ns) picNums (rowsV b) i = some w →
    ∀ v L1 H', L.Sublist L1 → Z.Dt L1 v (.list [.int (i : Nat), .str w]) → Z.Fx H' L1 → Q v H') ∧
  (rowsErr b = none → (∀ j < (rowsV b).length, TR.rowBad (picErr ns) picNums (rowsV b) j = none) → ∀ y L1 H', L.Sublist L1 → WallIn cW L1 y x ((rowsV b).map picNums).reverse → Z.Fx H' L1 → Q (.ref y) H')
theorem fn__law_looked (T : Txt K mg c_BadCourse c_BadJoints c_BadLength c_BadStock c_BadText c_BadWall c_Stock c_Wall) {f : Addr} {fd : FuncData} (F : Fun K "_law_looked" "_law_looked" s__law_looked f fd) : FnOk P w K mg base CX0 10 f fd ["_law_stock", "_law_text"] (sp__law_looked K c_Stock c_Wall) := by
  have O_wall_seen := ok_wall_seen (P := P) (w := w) (base := base) T
  refine F.ok sc__law_looked (fun vs H Q E h => ?_) (fun cdv A outer s H vs Q E hr h => ?_)
  · obtain ⟨a, b, rfl, _⟩ := h; rfl
  · obtain ⟨a, b, rfl, h⟩ := h
    refine ⟨_, (pss_cons (ps_try_as (i := 3) rfl rfl sc__law_looked.nd rfl rfl ⟨rfl, by decide, Or.inl T.g_BadText⟩ takes0 (fun W pn xe tk _ => (by exact (pss_one (ps_set (i := 2) sc__law_looked.nd rfl (by first | exact Or.inl rfl | exact Or.inr rfl) (Z.pe_callSO O_wall_seen (by rfl) (hr.mono (by decide)) (fun σ => passAt tk σ) (pa_cons (pv 0) (pa_cons (pv 1) pa_nil)))))))
        (fun a oe cls d pn hz hf => (by exact (pss_one (ps_ret (pe_lst (pa_cons (pe_xf T.x_BadText.xf T.n_BadText_number hz hf (pv 3)) (pa_cons (pe_xf T.x_BadText.xf T.n_BadText_what hz hf (pv 3)) pa_nil))))))))
      (pss_one (ps_ret (pv 2)))), ?_⟩
    try dsimp only [cxOf, Cx.nox, Cx.wish]
    refine Z.at_start (σ' := [some a, some b, none, none]) rfl ?_
    obtain ⟨L, x, ns, l, r, k, F, rfl, si, ht, hz, h10, kM, kE, kQ⟩ := h
    walk_at "z"
    refine use_wall_seen F si ht hz h10 (fun w hw e H1 F1 => ?_) (fun hn i w hi hj hw e L1 H1 s1 F1 => ?_) (fun hn hj y L1 H1 s wi F1 => ?_)
    · refine Z.wAs_yes T.x_BadText.me fun q hq => ?_
      simp only [List.set_cons_zero, List.set_cons_succ]
      walk_at "z"
      refine Z.wXf ?_
      walk_at "z"
      refine ⟨rfl, rfl, e, _, V.int 0, rfl, F1.get List.mem_cons_self, (Z.xd_next (by decide +kernel)).trans Z.xd_hit, ?_⟩
      walk_at "z"
      refine Z.wXf ?_
      walk_at "z"
      refine ⟨rfl, rfl, e, _, V.str w, rfl, F1.get List.mem_cons_self, Z.xd_hit, ?_⟩
      walk_at "z"
      rename_i p2 H2 F2
      exact kM w hw _ _ _ (.cons _ (.cons _ (.refl _))) (.lst List.mem_cons_self (.cons (.int 0) (.cons (.str w) .nil))) F2
    · refine Z.wAs_yes T.x_BadText.me fun q hq => ?_
      simp only [List.set_cons_zero, List.set_cons_succ]
      walk_at "z"
      refine Z.wXf ?_
      walk_at "z"
      refine ⟨rfl, rfl, e, _, V.int (i : Nat), rfl, F1.get List.mem_cons_self, (Z.xd_next (by decide +kernel)).trans Z.xd_hit, ?_⟩
      walk_at "z"
      refine Z.wXf ?_
      walk_at "z"
      refine ⟨rfl, rfl, e, _, V.str w, rfl, F1.get List.mem_cons_self, Z.xd_hit, ?_⟩
      walk_at "z"
      rename_i p2 H2 F2
      exact kE hn i w hi hj hw _ _ _ ((s1.cons _).cons _) (.lst List.mem_cons_self (.cons (.int _) (.cons (.str w) .nil))) F2
    · walk_at "z"
      exact kQ hn hj y L1 _ s wi F1
theorem ok__law_looked (T : Txt K mg c_BadCourse c_BadJoints c_BadLength c_BadStock c_BadText c_BadWall c_Stock c_Wall) : Z.Ok CX0 P w K mg base "_law_looked" 10 ["_law_stock", "_law_text"] [] (sp__law_looked K c_Stock c_Wall) := by
  obtain ⟨f, fd, F, g⟩ := T.d__law_looked
  exact Z.mkOk F g (F.binds (ps := ["_law_stock", "_law_text"]) fun _ _ _ _ _ _ us hl => match us, hl with | [_, _], _ => rfl) (fn__law_looked T F)
theorem use__law_looked {cS cW : Addr} {H : Hp} {Q : VK} {E : XK} {L : List Z.En} {K : PySem.W.Frag} {x : Addr} {b : V} {k : Z.Kd} {ns : List Int} {l r : Int} (F : Z.Fx H L) (si : StockIn cS L x ns l r) (ht : Z.Thing L b k) (hz : wideV b) (h10 : ∀ w ∈ rowsV b, w.length ≤ 10000 ∧ (TP.isPic (TL.tl w) = true → PicOf w))
  (kM : ∀ w, rowsErr b = some w → ∀ v L1 H', L.Sublist L1 → Z.Dt L1 v (.list [.int 0, .str w]) → Z.Fx H' L1 → Q v H')
  (kE : rowsErr b = none → ∀ (i : Nat) w, i < (rowsV b).length → (∀ j < i, TR.rowBad (picErr ns) picNums (rowsV b) j = none) → TR.rowBad (picErr ns) picNums (rowsV b) i = some w →
    ∀ v L1 H', L.Sublist L1 → Z.Dt L1 v (.list [.int (i : Nat), .str w]) → Z.Fx H' L1 → Q v H')
  (kQ : rowsErr b = none → (∀ j < (rowsV b).length, TR.rowBad (picErr ns) picNums (rowsV b) j = none) → ∀ y L1 H', L.Sublist L1 → WallIn cW L1 y x ((rowsV b).map picNums).reverse → Z.Fx H' L1 → Q (.ref y) H') : sp__law_looked K cS cW [.ref x, b] H Q E :=
  ⟨_, _, rfl, L, x, ns, l, r, k, F, rfl, si, ht, hz, h10, kM, kE, kQ⟩
theorem sc__law_pictures : FnScope ["_law_hand_here", "_law_stock", "_law_courses", "_law_stranger", "_law_rows", "_law_text", "_law_shut", "_law_place", "_law_at", "_law_sign", "_law_bad", "_law_two", "_law_longer", "_law_tall", "_law_row_here", "_law_course"] ["_law_hand_here", "_law_stock", "_law_courses", "_law_stranger"] (defScope s__law_pictures) := ⟨rfl, rfl, rfl, by decide +kernel, rfl, by decide +kernel, by decide +kernel⟩
structure RowsG (f : Str → Option Str) (g : Str → List Int) (crs : List (List Int)) (rs : List Str) : Prop where
  len : rs.length = crs.length
  err : ∀ j, j < crs.length → f (rs.getD j "") = none
  nums : ∀ j, j < crs.length → g (rs.getD j "") = crs.getD j []
theorem bad_atG {f : Str → Option Str} {g : Str → List Int} {crs : List (List Int)} {rs W : List Str} {n : Nat} {w : Str} (R : RowsG f g crs rs) (hS : ∀ cs ∈ crs, cs.sum = (crs.getD 0 []).sum) (hn : n ≤ crs.length) (hg : ∀ j < n, W.getD j "" = rs.getD j "") (hb : f (W.getD n "") = some w) :
    (∀ j < n, TR.rowBad f g W j = none) ∧ TR.rowBad f g W n = some w := by
  refine ⟨fun j hj => ?_, TR.rowBad_f hb⟩
  have hj2 : j < crs.length := by omega
  have e1 := hg j hj
  have e0 := hg 0 (by omega)
  rw [TR.rowBad_no (by rw [e1]; exact R.err j hj2), e1, e0, R.nums j hj2, R.nums 0 (by omega)]
  refine if_pos (hS _ ?_)
  rw [List.getD_eq_getElem?_getD, List.getElem?_eq_getElem hj2]
  exact List.getElem_mem hj2
theorem all_goodG {f : Str → Option Str} {g : Str → List Int} {crs : List (List Int)} {rs : List Str} (R : RowsG f g crs rs) (hS : ∀ cs ∈ crs, cs.sum = (crs.getD 0 []).sum) : ∀ j < rs.length, TR.rowBad f g rs j = none := by
  intro j hj
  have hj2 : j < crs.length := by rw [← R.len]; exact hj
  rw [TR.rowBad_no (R.err j hj2), R.nums j hj2, R.nums 0 (by omega)]
  refine if_pos (hS _ ?_)
  rw [List.getD_eq_getElem?_getD, List.getElem?_eq_getElem hj2]
  exact List.getElem_mem hj2
theorem RowsG.map {f : Str → Option Str} {g : Str → List Int} {crs : List (List Int)} {rs : List Str} (R : RowsG f g crs rs) : rs.map g = crs := by
  refine List.ext_getElem (by rw [List.length_map]; exact R.len) fun i h1 h2 => ?_
  rw [List.length_map] at h1
  have e := R.nums i h2
  rw [List.getD_eq_getElem?_getD, List.getD_eq_getElem?_getD, List.getElem?_eq_getElem h1, List.getElem?_eq_getElem h2] at e
  rw [List.getElem_map]
  exact e
theorem long_atG {f : Str → Option Str} {g : Str → List Int} {c : List Int} {crs : List (List Int)} {rs : List Str} {n : Nat} {z : Str} (R : RowsG f g crs rs) (hS : ∀ cs ∈ crs, cs.sum = (crs.getD 0 []).sum) (hn : n < crs.length) (h1 : 1 < crs.length) (hb : f z = none) (hz : g z = c ++ c) (hc : c = crs.getD n []) (hp : 1 ≤ c.sum) :
    (∀ j < max n 1, TR.rowBad f g (rs.set n z) j = none) ∧ TR.rowBad f g (rs.set n z) (max n 1) = some ("length" : Str) := by
  have hrl := R.len
  have hd : ∀ j, j < crs.length → (crs.getD j []).sum = (crs.getD 0 []).sum := by
    intro j hj
    rw [List.getD_eq_getElem?_getD, List.getElem?_eq_getElem hj]
    exact hS _ (List.getElem_mem hj)
  have hcs : c.sum = (crs.getD 0 []).sum := by rw [hc]; exact hd n hn
  have hn2 : (rs.set n z).getD n "" = z := getD_set_eq (by omega)
  have hj2 : ∀ j, j ≠ n → (rs.set n z).getD j "" = rs.getD j "" := fun j h => getD_set_ne (by omega)
  rcases Nat.eq_zero_or_pos n with rfl | h0
  · show (∀ j < 1, _) ∧ TR.rowBad _ _ _ 1 = _
    refine ⟨fun j hj => ?_, ?_⟩
    · obtain rfl : j = 0 := by omega
      rw [TR.rowBad_no (by rw [hn2]; exact hb)]
      exact if_pos rfl
    · rw [TR.rowBad_no (by rw [hj2 1 (by omega)]; exact R.err 1 h1), hn2, hj2 1 (by omega), R.nums 1 h1, hz, List.sum_append]
      have := hd 1 h1
      exact if_neg (by omega)
  · rw [Nat.max_eq_left h0]
    have h00 := hj2 0 (by omega)
    refine ⟨fun j hj => ?_, ?_⟩
    · have e := hj2 j (by omega)
      rw [TR.rowBad_no (by rw [e]; exact R.err j (by omega)), e, h00, R.nums j (by omega), R.nums 0 (by omega)]
      exact if_pos (hd j (by omega))
    · rw [TR.rowBad_no (by rw [hn2]; exact hb), hn2, h00, hz, R.nums 0 (by omega), List.sum_append]
      exact if_neg (by omega)
theorem rep_rowsG {f : Str → Option Str} {g : Str → List Int} {crs : List (List Int)} {rs : List Str} (R : RowsG f g crs rs) (h0 : 0 < crs.length) (k : Nat) : RowsG f g (List.replicate k (crs.getD 0 [])) (List.replicate k (rs.getD 0 "")) := by
  refine ⟨by simp, fun j hj => ?_, fun j hj => ?_⟩
  · rw [List.length_replicate] at hj
    rw [List.getD_eq_getElem?_getD, List.getElem?_replicate, if_pos hj]
    exact R.err 0 h0
  · rw [List.length_replicate] at hj
    rw [List.getD_eq_getElem?_getD, List.getD_eq_getElem?_getD (l := List.replicate k (crs.getD 0 [])), List.getElem?_replicate, List.getElem?_replicate, if_pos hj, if_pos hj]
    exact R.nums 0 h0
/-- rows of which each is a picture, or wrong -/
def FineP (W : List Str) : Prop := Fine W ∧ ∀ w ∈ W, TP.isPic (TL.tl w) = true → PicOf w
theorem FineP.set {W : List Str} {n : Nat} {z : Str} (h : FineP W) (hz : 10 ∉ TL.tl z) (hl : z.length ≤ 1000) (ok : PyData.strOk z = true) (hp : TP.isPic (TL.tl z) = true → PicOf z) : FineP (W.set n z) := by
  refine ⟨h.1.set hz hl ok, fun w hw => ?_⟩
  rcases List.mem_or_eq_of_mem_set hw with h1 | h1
  · exact h.2 w h1
  · rw [h1]; exact hp
theorem FineP.snoc {W : List Str} {z : Str} (h : FineP W) (h70 : W.length < 70) (hz : 10 ∉ TL.tl z) (hl : z.length ≤ 1000) (ok : PyData.strOk z = true) (hp : TP.isPic (TL.tl z) = true → PicOf z) : FineP (W ++ [z]) := by
  refine ⟨h.1.snoc h70 hz hl ok, fun w hw => ?_⟩
  rcases List.mem_append.mp hw with h1 | h1
  · exact h.2 w h1
  · cases List.mem_singleton.mp h1; exact hp
theorem FineP.cons {W : List Str} {z : Str} (h : FineP W) (h70 : W.length < 70) (hz : 10 ∉ TL.tl z) (hl : z.length ≤ 1000) (ok : PyData.strOk z = true) (hp : TP.isPic (TL.tl z) = true → PicOf z) : FineP (z :: W) := by
  refine ⟨h.1.cons h70 hz hl ok, fun w hw => ?_⟩
  rcases List.mem_cons.mp hw with h1 | h1
  · rw [h1]; exact hp
  · exact h.2 w h1
theorem FineP.rep {W : List Str} {z : Str} (h : FineP W) (hz : z ∈ W) : FineP (List.replicate 60 z) :=
  ⟨h.1.rep hz, fun w hw => by rw [List.eq_of_mem_replicate hw]; exact h.2 z hz⟩
theorem FineP.one {z : Str} (hz : 10 ∉ TL.tl z) (hl : z.length ≤ 1000) (ok : PyData.strOk z = true) (hp : TP.isPic (TL.tl z) = true → PicOf z) : FineP [z] :=
  ⟨⟨by simp, by simp, fun w hw => by cases List.mem_singleton.mp hw; exact ⟨hz, hl, ok⟩⟩, fun w hw => by cases List.mem_singleton.mp hw; exact hp⟩
theorem FineP.short {W : List Str} (h : FineP W) : ∀ w ∈ rowsV (.str (Txt.join ("\n" : Str) W)), w.length ≤ 10000 ∧ (TP.isPic (TL.tl w) = true → PicOf w) := by
  intro w hw
  refine ⟨h.1.short w hw, ?_⟩
  rw [h.1.rows] at hw
  exact h.2 w hw
section
variable {cS cW : Addr} {K : PySem.W.Frag} {H : Hp} {Q : VK} {E : XK} {L : List Z.En} {x : Addr} {ns : List Int} {l r : Int} {W : List Str}
theorem look_bad (F : Z.Fx H L) (si : StockIn cS L x ns l r) (hf : FineP W) (h60 : W.length ≤ 60) {i : Nat} {w : Str} (hi : i < W.length) (hj : ∀ j < i, TR.rowBad (picErr ns) picNums W j = none) (hw : TR.rowBad (picErr ns) picNums W i = some w)
    (k : ∀ v L1 H', L.Sublist L1 → Z.Dt L1 v (.list [.int (i : Nat), .str w]) → Z.Fx H' L1 → Q v H') : sp__law_looked K cS cW [.ref x, .str (Txt.join ("\n" : Str) W)] H Q E := by
  have er := hf.1.rows
  refine use__law_looked F si (.str _) hf.1.wide hf.short (fun w2 h2 => ?_) (fun _ i2 w2 hi2 hj2 hw2 => ?_) (fun _ hj2 => ?_)
  · rw [hf.1.err h60] at h2; cases h2
  · rw [er] at hi2 hj2 hw2
    rcases Nat.lt_trichotomy i i2 with h | h | h
    · rw [hj2 i h] at hw; cases hw
    · subst h
      rw [hw] at hw2
      cases hw2
      exact k
    · rw [hj i2 h] at hw2; cases hw2
  · rw [er] at hj2
    rw [hj2 i hi] at hw
    cases hw
theorem look_many (F : Z.Fx H L) (si : StockIn cS L x ns l r) (hf : FineP W) (h60 : 60 < W.length) (k : ∀ v L1 H', L.Sublist L1 → Z.Dt L1 v (.list [.int 0, .str ("many" : Str)]) → Z.Fx H' L1 → Q v H') : sp__law_looked K cS cW [.ref x, .str (Txt.join ("\n" : Str) W)] H Q E := by
  have e := hf.1.many h60
  refine use__law_looked F si (.str _) hf.1.wide hf.short (fun w2 h2 => ?_) (fun hn => ?_) (fun hn => ?_)
  · rw [e] at h2; cases h2; exact k
  · rw [e] at hn; cases hn
  · rw [e] at hn; cases hn
theorem look_good (F : Z.Fx H L) (si : StockIn cS L x ns l r) (hf : FineP W) (h60 : W.length ≤ 60) (hj : ∀ j < W.length, TR.rowBad (picErr ns) picNums W j = none)
    (k : ∀ y L1 H', L.Sublist L1 → WallIn cW L1 y x (W.map picNums).reverse → Z.Fx H' L1 → Q (.ref y) H') : sp__law_looked K cS cW [.ref x, .str (Txt.join ("\n" : Str) W)] H Q E := by
  have er := hf.1.rows
  refine use__law_looked F si (.str _) hf.1.wide hf.short (fun w2 h2 => ?_) (fun _ i2 w2 hi2 hj2 hw2 => ?_) (fun _ hj2 y L1 H' s wi F' => ?_)
  · rw [hf.1.err h60] at h2; cases h2
  · rw [er] at hi2 hw2
    rw [hj i2 hi2] at hw2
    cases hw2
  · rw [er] at wi
    exact k y L1 H' s wi F'
end
theorem pic_shape {ns : List Int} {z : Str} (h : TP.isPic (TL.tl z) = false) : picErr ns z = some ("shape" : Str) := by
  unfold picErr
  rw [if_pos h]
theorem pic_yes {z : Str} {cs : List Int} (e : TL.tl z = TP.picL cs) (hn : cs ≠ []) (hc : ∀ c ∈ cs, 1 ≤ c) (hs : cs.sum ≤ 400) : TP.isPic (TL.tl z) = true := by
  have h1 := TP.tot_sum hc
  have h2 := len_le_sumJ hc
  have h3 : 1 ≤ cs.length := by cases cs with | nil => exact absurd rfl hn | cons a r => simp
  rw [e]
  exact TP.isPic_yes hc (by omega) (by omega)
theorem pic_course {ns : List Int} {z : Str} {cs : List Int} (e : TL.tl z = TP.picL cs) (hn : cs ≠ []) (hc : ∀ c ∈ cs, 1 ≤ c) (hs : cs.sum ≤ 400) (hb : ∃ c ∈ cs, c ∉ ns) : picErr ns z = some ("course" : Str) := by
  unfold picErr
  rw [if_neg (by rw [pic_yes e hn hc hs]; decide), picNums_pic e hc, if_pos (cW_bad (.inl hb))]
theorem pic_good {ns : List Int} {z : Str} {cs : List Int} (e : TL.tl z = TP.picL cs) (hn : cs ≠ []) (hc : ∀ c ∈ cs, 1 ≤ c) (hs : cs.sum ≤ 400) (hb : ∀ c ∈ cs, c ∈ ns) : picErr ns z = none ∧ picNums z = cs := by
  have h2 := len_le_sumJ hc
  have h3 : 1 ≤ cs.length := by cases cs with | nil => exact absurd rfl hn | cons a r => simp
  refine ⟨?_, picNums_pic e hc⟩
  unfold picErr
  rw [if_neg (by rw [pic_yes e hn hc hs]; decide), picNums_pic e hc, cW_good hb h3 (by omega) hs]
  rfl
theorem pic_fine {z : Str} {cs : List Int} (e : TL.tl z = TP.picL cs) (hc : ∀ c ∈ cs, 1 ≤ c) (hs : cs.sum ≤ 400) : 10 ∉ TL.tl z ∧ z.length ≤ 801 ∧ PyData.strOk z = true := by
  refine ⟨fun h => ?_, ?_, ?_⟩
  · rw [e] at h
    rcases TP.pic_in _ h with h | h <;> cases h
  · rw [TL.len_tl, e, TP.pic_len hc]
    have := TP.tot_sum hc
    omega
  · rw [TW.strOk_iff, e]
    intro c h
    rcases TP.pic_in _ h with h | h <;> (rw [h]; decide)
def BadP (z : Str) : Prop := 10 ∉ TL.tl z ∧ z.length ≤ 1000 ∧ PyData.strOk z = true ∧ TP.isPic (TL.tl z) = false
theorem wall_made {cS cW cB : Addr} {K : PySem.W.Frag} {H : Hp} {QX : Addr → Hp → Prop} {E : XK} {L : List Z.En} {x p : Addr} {ns : List Int} {l r : Int} {vs : List V} {rows : List (List Int)} (F : Z.Fx H L) (si : StockIn cS L x ns l r) (m : Z.En.ob p (.lst vs) ∈ L) (al : Z.Al2 (TupOf L) vs rows) (hw : WRows ns rows)
    (k : ∀ y L1 H', L.Sublist L1 → WallIn cW L1 y x rows → Z.Fx H' L1 → QX y H') :
    ∀ y dx, H y = none → H dx = none → dx ≠ y → sp_Wall___init__ K cS cW cB [.ref y, .ref x, .ref p] (upd (upd H dx (.own y)) y (.ins cW dx [])) (fun v H2 => v = .non ∧ QX y H2) E := by
  obtain ⟨w1, w2, w3⟩ := hw
  have hl := al.len
  have alc : Z.Al2 (CourseAt L) vs (rows.map intsO) := by
    refine ⟨by rw [List.length_map]; exact hl, fun i a b ha hb => ?_⟩
    rw [List.getElem?_map] at hb
    obtain ⟨cs, hcs, hto⟩ := al.getL ha
    rw [hcs] at hb
    injection hb with hb
    subst hb
    refine ⟨hto.seq, fun xs e x hx => ?_⟩
    cases e
    obtain ⟨n, _, rfl⟩ := List.mem_map.mp hx
    exact ⟨_, .int n⟩
  have hin : Z.inLen 1 60 (some vs) = true := by
    simp only [Z.inLen, Bool.and_eq_true, decide_eq_true_eq]
    omega
  refine use_Wall (ns := ns) F si (.lst m) (os := rows.map intsO) (fun ws e => by cases e; exact alc) (fun hm => by rw [hin] at hm; cases hm) (fun i w h1 h2 h3 h4 => by
    rw [List.length_map] at h2
    rw [flaw_none (fun cs h => w3 cs h) h2] at h4
    cases h4) (fun rows' h1 h2 h3 y L3 H3 s wi F3 => ?_)
  obtain rfl := intsO_inj h2
  exact k y L3 H3 s wi F3
theorem join_one (z : Str) : Txt.join ("\n" : Str) [z] = z := TL.ext_tl (by rw [TL.join_eq, TL.tl_join]; rfl)
theorem look_one {cS cW : Addr} {K : PySem.W.Frag} {H : Hp} {Q : VK} {E : XK} {L : List Z.En} {x : Addr} {ns cs : List Int} {l r : Int} {z : Str} (F : Z.Fx H L) (si : StockIn cS L x ns l r) (e : TL.tl z = TP.picL cs) (hn : cs ≠ []) (hc : ∀ c ∈ cs, 1 ≤ c) (hs : cs.sum ≤ 400) (hb : ∀ c ∈ cs, c ∈ ns)
    (k : ∀ y L1 H', L.Sublist L1 → WallIn cW L1 y x [cs] → Z.Fx H' L1 → Q (.ref y) H') : sp__law_looked K cS cW [.ref x, .str z] H Q E := by
  obtain ⟨b1, b2, b3⟩ := pic_fine e hc hs
  obtain ⟨g1, g2⟩ := pic_good e hn hc hs hb
  have := look_good (K := K) (E := E) F si (W := [z]) (FineP.one b1 (by omega) b3 fun _ => ⟨_, e, hn, hc, hs⟩) (by simp) (fun j hj => by
    obtain rfl : j = 0 := by simpa using hj
    rw [TR.rowBad_no (show picErr ns (([z] : List Str).getD 0 "") = none from g1)]
    exact if_pos rfl) (fun y L1 H' s wi F' => k y L1 H' s (by
      have : (([z] : List Str).map picNums).reverse = [cs] := by
        show [picNums z] = _
        rw [g2]
      rw [← this]; exact wi) F')
  rwa [join_one] at this
theorem look_off {cS cW : Addr} {K : PySem.W.Frag} {H : Hp} {Q : VK} {E : XK} {L : List Z.En} {x : Addr} {ns : List Int} {l r : Int} {z : Str} (F : Z.Fx H L) (si : StockIn cS L x ns l r) (hz : BadP z)
    (k : ∀ v L1 H', L.Sublist L1 → Z.Dt L1 v (.list [.int 0, .str ("shape" : Str)]) → Z.Fx H' L1 → Q v H') : sp__law_looked K cS cW [.ref x, .str z] H Q E := by
  obtain ⟨b1, b2, b3, b4⟩ := hz
  have := look_bad (cW := cW) (K := K) (E := E) F si (W := [z]) (FineP.one b1 b2 b3 fun h => by rw [b4] at h; cases h) (by simp) (i := 0) (w := ("shape" : Str)) (by simp) (fun j hj => absurd hj (Nat.not_lt_zero _)) (TR.rowBad_f (pic_shape b4)) k
  rwa [join_one] at this
theorem BadP.of {z : Str} (h : ∀ c ∈ TL.tl z, c = 124 ∨ c = 95 ∨ c = 32 ∨ c = 120) (hl : z.length ≤ 1000) (hp : TP.isPic (TL.tl z) = false) : BadP z := by
  refine ⟨fun m => ?_, hl, ?_, hp⟩
  · have := h 10 m; omega
  · rw [TW.strOk_iff]
    intro c hc
    have := h c hc; omega
theorem badP7 {rw0 sg : Str} {c : List Int} {m cg : Nat} (er : TL.tl rw0 = TP.picL c) (hc : ∀ b ∈ c, 1 ≤ b) (hl : rw0.length ≤ 97) (hm : m < (TL.tl rw0).length) (es : TL.tl sg = [cg]) (hcg : cg = 120 ∨ (cg = 124 ∧ m % 2 = 1)) :
    ∀ z ∈ [("" : Str), ("|" : Str), rw0 ++ ("_" : Str), cutS rw0 (some 1) none, cutS rw0 none (some (m : Int)) ++ sg ++ cutS rw0 (some ((m : Int) + 1)) none, rw0 ++ ("_ _|" : Str), (" " : Str) ++ rw0], BadP z := by
  have hin : ∀ ch ∈ TL.tl rw0, ch = 124 ∨ ch = 95 ∨ ch = 32 ∨ ch = 120 := fun ch h => by
    rw [er] at h
    rcases TP.pic_in ch h with h | h
    · exact .inl h
    · exact .inr (.inl h)
  have t1 : TL.tl ("" : Str) = [] := by decide
  have t2 : TL.tl ("|" : Str) = [124] := by decide
  have t3 : TL.tl ("_" : Str) = [95] := by decide
  have t4 : TL.tl ("_ _|" : Str) = [95, 32, 95, 124] := by decide
  have t5 : TL.tl (" " : Str) = [32] := by decide
  have c1 : TL.tl (cutS rw0 (some 1) none) = (TL.tl rw0).drop 1 := Z.tl_from rw0 1
  have c2 : TL.tl (cutS rw0 none (some (m : Int))) = (TL.tl rw0).take m := Z.tl_to rw0 m
  have c3 : TL.tl (cutS rw0 (some ((m : Int) + 1)) none) = (TL.tl rw0).drop (m + 1) := Z.tl_from rw0 (m + 1)
  have hll := TL.len_tl rw0
  intro z hz
  simp only [List.mem_cons, List.not_mem_nil, or_false] at hz
  rcases hz with rfl | rfl | rfl | rfl | rfl | rfl | rfl
  · exact BadP.of (by rw [t1]; simp) (by decide) (by rw [t1]; decide)
  · exact BadP.of (by rw [t2]; simp) (by decide) (by rw [t2]; decide)
  · refine BadP.of (fun ch h => ?_) ?_ ?_
    · rw [TL.tl_append, t3] at h
      rcases List.mem_append.mp
            h with h | h
      · exact hin ch h
      · simp at h; omega
    · rw [TL.len_tl, TL.tl_append, t3, List.length_append, List.length_singleton]; omega
    · rw [TL.tl_append, t3]; exact TP.bad_more er hc
  · refine BadP.of (fun ch h => ?_) ?_ ?_
    · rw [c1] at h; exact hin ch (List.mem_of_mem_drop h)
    · rw [TL.len_tl, c1, List.length_drop]; omega
    · rw [c1]; exact TP.bad_less er hc
  · refine BadP.of (fun ch h => ?_) ?_ ?_
    · rw [TL.tl_append, TL.tl_append, c2, c3, es] at h
      rcases List.mem_append.mp
            h with h | h
      · rcases List.mem_append.mp
            h with h | h
        · exact hin ch (List.mem_of_mem_take h)
        · simp at h; omega
      · exact hin ch (List.mem_of_mem_drop h)
    · rw [TL.len_tl, TL.tl_append, TL.tl_append, c2, c3, es, List.length_append, List.length_append, List.length_take, List.length_drop, List.length_singleton]; omega
    · rw [TL.tl_append, TL.tl_append, c2, c3, es]; exact TP.bad_sign hm hcg
  · refine BadP.of (fun ch h => ?_) ?_ ?_
    · rw [TL.tl_append, t4] at h
      rcases List.mem_append.mp
            h with h | h
      · exact hin ch h
      · simp at h; omega
    · rw [TL.len_tl, TL.tl_append, t4, List.length_append]; show _ + 4 ≤ _; omega
    · rw [TL.tl_append, t4]; exact TP.bad_end er hc
  · refine BadP.of (fun ch h => ?_) ?_ ?_
    · rw [TL.tl_append, t5] at h
      rcases List.mem_append.mp
            h with h | h
      · simp at h; omega
      · exact hin ch h
    · rw [TL.len_tl, TL.tl_append, t5, List.length_append, List.length_singleton]; omega
    · rw [TL.tl_append, t5]; exact TP.bad_lead er hc
theorem turn7 {K : PySem.W.Frag} {cS cW : Addr} {H : Hp} {L : List Z.En} {x rp : Addr} {ns : List Int} {l r : Int} {crs : List (List Int)} {rs : List Str} {n : Nat} {z : Str} {σ : L2.St} {nx bk ct : L2.St → Hp → Prop} {rt : VK} (F : Z.Fx H L) (si : StockIn cS L x ns l r)
    (mr : Z.En.ob rp (.lst (rs.map V.str)) ∈ L) (R : RowsG (picErr ns) picNums crs rs) (hS : ∀ cs ∈ crs, cs.sum = (crs.getD 0 []).sum) (fine : FineP rs) (h60 : rs.length ≤ 60) (hn : n < crs.length) (hz : BadP z)
    (e1 : σ[1]? = some (some (.ref x))) (e4 : σ[4]? = some (some (.ref rp))) (e7 : σ[7]? = some (some (.int (n : Nat)))) (e8 : σ[10]? = some (some (.str z))) (k : ∀ H', Z.Fx H' L → nx σ H') :
    tIfS (tTest (tOp (Z.rOr rNe (rNeD K)) (tCall (sp__law_looked K cS cW) [] E0 (tCons (tVar 1) (tCons (tCall (sp__law_with K) [] E0 (tCons (tVar 4) (tCons (tVar 7) (tCons (tVar 10) tNil)))) tNil))) (tLst (tCons (tVar 7) (tCons (tC (V.str ("shape" : Str))) tNil))))) (tRet (tC (V.bl false))) tNext ⟨nx, rt, bk, ct⟩ σ H := by
  have hrl := R.len
  obtain ⟨z1, z2, z3, z4⟩ := hz
  walk_at "z"
  refine Z.wV e1 ?_
  walk_at "z"
  refine Z.wV e4 ?_
  walk_at "z"
  refine Z.wV e7 ?_
  walk_at "z"
  refine Z.wV e8 ?_
  walk_at "z"
  refine use__law_with F mr (by omega) (by omega) (by omega) (fun w hw => by have := (fine.1.2.2 w hw).2.1; omega) fun H2 F2 => ?_
  walk_at "z"
  obtain ⟨b1, b2⟩ := bad_atG (W := rs.set n z) (n := n) (w := ("shape" : Str)) R hS (by omega) (fun j hj => getD_set_ne (by omega)) (by rw [getD_set_eq (by omega)]; exact pic_shape z4)
  refine look_bad F2 si (fine.set z1 z2 z3 (fun h => by rw [z4] at h; cases h)) (by rw [List.length_set]; exact h60) (by rw [List.length_set]; omega) b1 b2 fun v L5 H5 s5 dv F5 => ?_
  walk_at "z"
  refine Z.wV e7 ?_
  walk_at "z"
  rename_i t6 H6 F6
  refine Z.wNeSame F6 (dv.mono fun _ h => .tail _ h) (.lst List.mem_cons_self (.cons (.int _) (.cons (.str ("shape" : Str)) .nil))) (Z.Sh.lst (Z.ShA.cons (Z.Sh.int _) (Z.ShA.cons (show Z.Sh (.str ("shape" : Str)) 0 from ⟨by decide +kernel, Nat.le_refl _⟩) Z.ShA.nil))).ok ?_
  walk_at "z"
  exact k _ (F6.sub (s5.cons _))
theorem tall_facts {a : Int} (h1 : 1 ≤ a) (h8 : a ≤ 8) : ∃ k : Nat, 400 / a = (k : Int) ∧ 1 ≤ k ∧ k ≤ 400 ∧ (k * a.toNat : Nat) ≤ 400 ∧ 400 < (k * a.toNat + a.toNat : Nat) := by
  have : a = 1 ∨ a = 2 ∨ a = 3 ∨ a = 4 ∨ a = 5 ∨ a = 6 ∨ a = 7 ∨ a = 8 := by omega
  rcases this with rfl | rfl | rfl | rfl | rfl | rfl | rfl | rfl
  · exact ⟨400, by decide⟩
  · exact ⟨200, by decide⟩
  · exact ⟨133, by decide⟩
  · exact ⟨100, by decide⟩
  · exact ⟨80, by decide⟩
  · exact ⟨66, by decide⟩
  · exact ⟨57, by decide⟩
  · exact ⟨50, by decide⟩
theorem flat_rep (a : Int) : ∀ k : Nat, (List.replicate k [V.int a]).flatten = (List.replicate k a).map V.int
  | 0 => rfl
  | k + 1 => by rw [List.replicate_succ, List.flatten_cons, flat_rep a k, List.replicate_succ]; rfl
theorem tl_repS (a : Str) (n : Int) : TL.tl (Z.repS a n) = (List.replicate n.toNat (TL.tl a)).flatten := rfl
theorem flat_one (c : Nat) : ∀ m : Nat, (List.replicate m [c]).flatten = List.replicate m c
  | 0 => rfl
  | m + 1 => by rw [List.replicate_succ, List.flatten_cons, flat_one c m, List.replicate_succ]; rfl
def sp__law_pictures (K : PySem.W.Frag) (cS cW : Addr) : Sp := Z.Sp4 fun a b c d H Q E => ∃ (L : List Z.En) (l hc x cp : Addr) (vs : List V) (crs : List (List Int)) (ns : List Int) (lap r st : Int), Z.Fx H L ∧ a = .ref l ∧ Z.En.hand l hc ∈ L ∧ b = .ref x ∧ StockIn cS L x ns lap r ∧ c = .ref cp ∧ Z.En.ob cp (.lst vs) ∈ L ∧
  Z.Al2 (TupOf L) vs crs ∧ WRows ns crs ∧ crs.length ≤ 8 ∧ (∀ cs ∈ crs, cs.length ≤ 48 ∧ cs.sum ≤ 48) ∧ (∀ n ∈ ns, 1 ≤ n ∧ n ≤ 8) ∧ d = .int st ∧ st ∉ ns ∧ 1 ≤ st ∧ st ≤ 8 ∧ ∀ H', Z.Fx H' L → Q (.bl true) H'
theorem fn__law_pictures (T : Txt K mg c_BadCourse c_BadJoints c_BadLength c_BadStock c_BadText c_BadWall c_Stock c_Wall) {f : Addr} {fd : FuncData} (F : Fun K "_law_pictures" "_law_pictures" s__law_pictures f fd) : FnOk P w K mg base CX0 11 f fd ["_law_hand_here", "_law_stock", "_law_courses", "_law_stranger"] (sp__law_pictures K c_Stock c_Wall) := by
  have O__law_looked := ok__law_looked (P := P) (w := w) (base := base) T
  have O__law_shown := ok__law_shown (P := P) (w := w) (base := base) T
  have O__law_take := ok__law_take (P := P) (w := w) (base := base) T
  have O__law_with := ok__law_with (P := P) (w := w) (base := base) T
  have O_wall_picture := ok_wall_picture (P := P) (w := w) (base := base) T
  have O_Wall_2 := ok_Wall___init___2 (P := P) (w := w) (base := base) T
  have O_Wall___eq__ := ok_Wall___eq__ (P := P) (w := w) (base := base) T
  refine F.ok sc__law_pictures (fun vs H Q E h => ?_) (fun cdv A outer s H vs Q E hr h => ?_)
  · obtain ⟨a, b, c, d, rfl, _⟩ := h; rfl
  · obtain ⟨a, b, c, d, rfl, h⟩ := h
    refine ⟨_, (pss_cons (by exact (ps_setLc (i := 4) (own := [("_law_course", 15)]) (g := (gName 15)) (by rfl) sc__law_pictures.nd rfl rfl (sw_true rfl rfl rfl (by decide +kernel)) (pi_reversed (by rfl) T.b_reversed (pa_cons (pv 2) pa_nil)) (blkOk_by (own := [("_law_course", 15)]) (N := ["_law_hand_here", "_law_stock", "_law_courses", "_law_stranger", "_law_rows", "_law_text", "_law_shut", "_law_place", "_law_at", "_law_sign", "_law_bad", "_law_two", "_law_longer", "_law_tall", "_law_row_here", "_law_course"]) (sc := defScope s__law_pictures) (by decide +kernel)) (fun _ _ _ _ _ => (by exact (pg_name (i := 15) sc__law_pictures.nd rfl (by first | exact Or.inl rfl | exact Or.inr rfl)))) (fun _ _ _ _ _ => (by exact pts_nil)) (fun _ _ _ _ _ => (by exact (Z.pe_callO O__law_shown (by rfl) (hr.mono (by decide)) pass0 (pa_cons (pv 15) pa_nil))))))
      (pss_cons (ps_set (i := 5) sc__law_pictures.nd rfl (by first | exact Or.inl rfl | exact Or.inr rfl) (Z.pe_joi pe_str (pv 4)))
      (pss_cons (ps_set (i := 6) sc__law_pictures.nd rfl (by first | exact Or.inl rfl | exact Or.inr rfl) (Z.pe_makeO O_Wall_2 (hr.mono (by decide)) T.g_Wall (by rfl) passL (pa_cons (pv 1) (pa_cons (pv 2) pa_nil))))
      (pss_cons (ps_if (PW.pt (pw_or (pt_cmpR (Z.zNe (Z.hu0 hr)) (Z.pe_callO O_wall_picture (by rfl) (hr.mono (by decide)) pass0 (pa_cons (pv 6) pa_nil)) (pv 5) (nomark _)) (pw_or1 (pt_not (pt_cmpR (Z.op_eqOwnO O_Wall___eq__ (hr.mono (by decide))) (Z.pe_callO O__law_looked (by rfl) (hr.mono (by decide)) pass0 (pa_cons (pv 1) (pa_cons (pv 5) pa_nil))) (pv 6) (nomark _))))))
        (pss_one (ps_ret pe_bl))
        pss_nil)
      (pss_cons (ps_set (i := 7) sc__law_pictures.nd rfl (by first | exact Or.inl rfl | exact Or.inr rfl) (Z.pe_callO O__law_take (by rfl) (hr.mono (by decide)) pass0 (pa_cons (pv 0) (pa_cons (pe_callB Z.zLen (by rfl) T.b_len (by decide +kernel) (pa_cons (pv 4) pa_nil)) pa_nil))))
      (pss_cons (ps_set (i := 8) sc__law_pictures.nd rfl (by first | exact Or.inl rfl | exact Or.inr rfl) (Z.pe_callO O__law_take (by rfl) (hr.mono (by decide)) pass0 (pa_cons (pv 0) (pa_cons (pe_callB Z.zLen (by rfl) T.b_len (by decide +kernel) (pa_cons (pe_ix ix_seq (pv 4) (pv 7) (fun _ _ => rfl)) pa_nil)) pa_nil))))
      (pss_cons (ps_set (i := 9) sc__law_pictures.nd rfl (by first | exact Or.inl rfl | exact Or.inr rfl) (pe_ifExp (PW.pt (pw_or (Z.pt_truN (Z.pe_callO O__law_take (by rfl) (hr.mono (by decide)) pass0 (pa_cons (pv 0) (pa_cons pe_int pa_nil)))) (pw_or1 (pt_cmpR (Z.zEq (Z.hu0 hr)) (pe_op Z.zMod (pe_callTy Z.zInt (by rfl) T.b_int (by decide +kernel) (pa_cons (pv 8) pa_nil)) pe_int) pe_int (nomark _))))) pe_str pe_str))
      (pss_cons (ps_for PassesOwn.never (by rfl) (Z.pi_seq (pe_lst (pa_cons pe_str (pa_cons pe_str (pa_cons (pe_op Z.zAdd (pe_ix ix_seq (pv 4) (pv 7) (fun _ _ => rfl)) pe_str) (pa_cons (pe_slice sl_str (pe_ix ix_seq (pv 4) (pv 7) (fun _ _ => rfl)) (po_some pe_int) po_none) (pa_cons (pe_op Z.zAdd (pe_op Z.zAdd (pe_slice sl_str (pe_ix ix_seq (pv 4) (pv 7) (fun _ _ => rfl)) po_none (po_some (pv 8))) (pv 9)) (pe_slice sl_str (pe_ix ix_seq (pv 4) (pv 7) (fun _ _ => rfl)) (po_some (pe_op Z.zAdd (pv 8) pe_int)) po_none)) (pa_cons (pe_op Z.zAdd (pe_ix ix_seq (pv 4) (pv 7) (fun _ _ => rfl)) pe_str) (pa_cons (pe_op Z.zAdd pe_str (pe_ix ix_seq (pv 4) (pv 7) (fun _ _ => rfl))) pa_nil))))))))) (pg_name (i := 10) sc__law_pictures.nd rfl (by first | exact Or.inl rfl | exact Or.inr rfl))
        (pss_one (ps_if (pt_cmpR (Z.zNe (Z.hu0 hr)) (Z.pe_callO O__law_looked (by rfl) (hr.mono (by decide)) pass0 (pa_cons (pv 1) (pa_cons (Z.pe_callO O__law_with (by rfl) (hr.mono (by decide)) pass0 (pa_cons (pv 4) (pa_cons (pv 7) (pa_cons (pv 10) pa_nil)))) pa_nil))) (pe_lst (pa_cons (pv 7) (pa_cons pe_str pa_nil))) (nomark _))
          (pss_one (ps_ret pe_bl))
          pss_nil)))
      (pss_cons (ps_if (pt_cmpR (Z.zNe (Z.hu0 hr)) (Z.pe_callO O__law_looked (by rfl) (hr.mono (by decide)) pass0 (pa_cons (pv 1) (pa_cons (Z.pe_callO O__law_with (by rfl) (hr.mono (by decide)) pass0 (pa_cons (pv 4) (pa_cons (pv 7) (pa_cons (Z.pe_callO O__law_shown (by rfl) (hr.mono (by decide)) pass0 (pa_cons (pe_op Z.zAdd (pe_tup (pa_cons (pv 3) pa_nil)) (pe_ix ix_seq (pv 2) pe_int (fun _ _ => rfl))) pa_nil)) pa_nil)))) pa_nil))) (pe_lst (pa_cons (pv 7) (pa_cons pe_str pa_nil))) (nomark _))
        (pss_one (ps_ret pe_bl))
        pss_nil)
      (pss_cons (ps_set (i := 11) sc__law_pictures.nd rfl (by first | exact Or.inl rfl | exact Or.inr rfl) (pe_op Z.zAdd (pe_op Z.zAdd (pe_op Z.zAdd (pe_slice Z.zSl (pv 4) po_none (po_some (pv 7))) (pe_lst (pa_cons (Z.pe_callO O__law_shown (by rfl) (hr.mono (by decide)) pass0 (pa_cons (pe_op Z.zAdd (pe_tup (pa_cons (pv 3) pa_nil)) (pe_ix ix_seq (pv 2) pe_int (fun _ _ => rfl))) pa_nil)) pa_nil))) (pe_slice Z.zSl (pv 4) (po_some (pe_op Z.zAdd (pv 7) pe_int)) po_none)) (pe_lst (pa_cons pe_str pa_nil))))
      (pss_cons (ps_if (pt_cmpR (Z.zNe (Z.hu0 hr)) (Z.pe_callO O__law_looked (by rfl) (hr.mono (by decide)) pass0 (pa_cons (pv 1) (pa_cons (Z.pe_joi pe_str (pv 11)) pa_nil))) (pe_lst (pa_cons (pv 7) (pa_cons pe_str pa_nil))) (nomark _))
        (pss_one (ps_ret pe_bl))
        pss_nil)
      (pss_cons (ps_set (i := 12) sc__law_pictures.nd rfl (by first | exact Or.inl rfl | exact Or.inr rfl) (pe_op Z.zAdd (pe_ix ix_seq (pv 4) (pv 7) (fun _ _ => rfl)) (pe_slice sl_str (pe_ix ix_seq (pv 4) (pv 7) (fun _ _ => rfl)) (po_some pe_int) po_none)))
      (pss_cons (ps_if (PW.pt (pw_and (pt_cmpR Z.zGt (pe_callB Z.zLen (by rfl) T.b_len (by decide +kernel) (pa_cons (pv 4) pa_nil)) pe_int (nomark _)) (pw_and1 (pt_cmpR (Z.zNe (Z.hu0 hr)) (Z.pe_callO O__law_looked (by rfl) (hr.mono (by decide)) pass0 (pa_cons (pv 1) (pa_cons (Z.pe_callO O__law_with (by rfl) (hr.mono (by decide)) pass0 (pa_cons (pv 4) (pa_cons (pv 7) (pa_cons (pv 12) pa_nil)))) pa_nil))) (pe_lst (pa_cons (pe_callB (Z.zMax2 rfl) (by rfl) T.b_max (by decide +kernel) (pa_cons (pv 7) (pa_cons pe_int pa_nil))) (pa_cons pe_str pa_nil))) (nomark _)))))
        (pss_one (ps_ret pe_bl))
        pss_nil)
      (pss_cons (ps_set (i := 13) sc__law_pictures.nd rfl (by first | exact Or.inl rfl | exact Or.inr rfl) (pe_op Z.op_rep1 (pe_tup (pa_cons (pe_ix ix_seq (pe_ix ix_seq (pv 2) pe_int (fun _ _ => rfl)) pe_int (fun _ _ => rfl)) pa_nil)) (pe_op Z.zDiv pe_int (pe_ix ix_seq (pe_ix ix_seq (pv 2) pe_int (fun _ _ => rfl)) pe_int (fun _ _ => rfl)))))
      (pss_cons (ps_set (i := 14) sc__law_pictures.nd rfl (by first | exact Or.inl rfl | exact Or.inr rfl) (pe_op Z.zAdd pe_str (pe_op Z.op_mulT (pe_op Z.zAdd (pe_op Z.op_mulT pe_str (pe_op op_sub (pe_op Z.zMul pe_int (pe_ix ix_seq (pe_ix ix_seq (pv 2) pe_int (fun _ _ => rfl)) pe_int (fun _ _ => rfl))) pe_int)) pe_str) (pe_callB Z.zLen (by rfl) T.b_len (by decide +kernel) (pa_cons (pv 13) pa_nil)))))
      (pss_cons (ps_if (PW.pt (pw_or (pt_cmpR (Z.op_neOwnO O_Wall___eq__ (hr.mono (by decide))) (Z.pe_callO O__law_looked (by rfl) (hr.mono (by decide)) pass0 (pa_cons (pv 1) (pa_cons (pv 14) pa_nil))) (Z.pe_makeO O_Wall_2 (hr.mono (by decide)) T.g_Wall (by rfl) passL (pa_cons (pv 1) (pa_cons (pe_lst (pa_cons (pv 13) pa_nil)) pa_nil))) (nomark _)) (pw_or1 (pt_cmpR (Z.zNe (Z.hu0 hr)) (Z.pe_callO O__law_looked (by rfl) (hr.mono (by decide)) pass0 (pa_cons (pv 1) (pa_cons (pe_op Z.zAdd (pv 14) (pe_slice sl_str (pv 14) (po_some pe_int) (po_some (pe_op Z.zAdd (pe_op Z.zMul pe_int (pe_ix ix_seq (pe_ix ix_seq (pv 2) pe_int (fun _ _ => rfl)) pe_int (fun _ _ => rfl))) pe_int)))) pa_nil))) (pe_lst (pa_cons pe_int (pa_cons pe_str pa_nil))) (nomark _)))))
        (pss_one (ps_ret pe_bl))
        pss_nil)
      (pss_cons (ps_if (PW.pt (pw_or (pt_cmpR (Z.zNe (Z.hu0 hr)) (Z.pe_callO O__law_looked (by rfl) (hr.mono (by decide)) pass0 (pa_cons (pv 1) (pa_cons (pe_op Z.zAdd (pv 5) pe_str) pa_nil))) (pe_lst (pa_cons (pe_callB Z.zLen (by rfl) T.b_len (by decide +kernel) (pa_cons (pv 4) pa_nil)) (pa_cons pe_str pa_nil))) (nomark _)) (pw_or1 (pt_cmpR (Z.zNe (Z.hu0 hr)) (Z.pe_callO O__law_looked (by rfl) (hr.mono (by decide)) pass0 (pa_cons (pv 1) (pa_cons (Z.pe_joi pe_str (pe_op Z.zAdd (pe_lst (pa_cons pe_str pa_nil)) (pe_op Z.zMul (pe_lst (pa_cons (pe_ix ix_seq (pv 4) pe_int (fun _ _ => rfl)) pa_nil)) pe_int))) pa_nil))) (pe_lst (pa_cons pe_int (pa_cons pe_str pa_nil))) (nomark _)))))
        (pss_one (ps_ret pe_bl))
        pss_nil)
      (pss_one (ps_ret (pe_andT (pe_cmpR (Z.op_eqOwnO O_Wall___eq__ (hr.mono (by decide))) (Z.pe_callO O__law_looked (by rfl) (hr.mono (by decide)) pass0 (pa_cons (pv 1) (pa_cons (Z.pe_joi pe_str (pe_op Z.zMul (pe_lst (pa_cons (pe_ix ix_seq (pv 4) pe_int (fun _ _ => rfl)) pa_nil)) pe_int)) pa_nil))) (Z.pe_makeO O_Wall_2 (hr.mono (by decide)) T.g_Wall (by rfl) passL (pa_cons (pv 1) (pa_cons (pe_op Z.zMul (pe_lst (pa_cons (pe_ix ix_seq (pv 2) (pe_un un_neg pe_int) (fun _ _ => rfl)) pa_nil)) pe_int) pa_nil))) (nomark _)) (pe_one (pe_cmpR (Z.zEq (Z.hu0 hr)) (Z.pe_callO O__law_looked (by rfl) (hr.mono (by decide)) pass0 (pa_cons (pv 1) (pa_cons pe_int pa_nil))) (pe_lst (pa_cons pe_int (pa_cons pe_str pa_nil))) (nomark _))))))))))))))))))))))), ?_⟩
    try dsimp only [cxOf, Cx.nox, Cx.wish]
    refine Z.at_start (σ' := [some a, some b, some c, some d, none, none, none, none, none, none, none, none, none, none, none, none]) rfl ?_
    obtain ⟨L, l, hc, x, cp, vs, crs, ns, lap, r, st, F, rfl, hm, rfl, si, rfl, mc, al, hw, h8, h48, hns, rfl, s1, s2, s3, q⟩ := h
    have lb := Z.line_big
    have hvl := al.len
    obtain ⟨hw1, hw60, hwr⟩ := hw
    have hc8 : ∀ cs ∈ crs, ∀ c ∈ cs, 1 ≤ c ∧ c ≤ 8 := fun cs hcs c hcc => hns c ((hwr cs hcs).1.1 c hcc)
    walk_at "y"
    have hcn : ∀ cs ∈ crs, cs ≠ [] ∧ (∀ c ∈ cs, 1 ≤ c) ∧ cs.sum ≤ 48 ∧ ∀ c ∈ cs, c ∈ ns := fun cs h => by
      refine ⟨fun e => ?_, fun c hcc => (hc8 cs h c hcc).1, (h48 cs h).2, (hwr cs h).1.1⟩
      have := (hwr cs h).1.2.1
      rw [e] at this
      exact absurd this (by decide)
    have alr := al2_rev al
    obtain ⟨rcs, ercs⟩ : ∃ rcs, crs.reverse = rcs := ⟨_, rfl⟩
    rw [ercs] at alr
    have hrcl : rcs.length = crs.length := by rw [← ercs, List.length_reverse]
    have hrin : ∀ cs ∈ rcs, cs ∈ crs := fun cs h => by rw [← ercs] at h; exact List.mem_reverse.mp h
    refine Z.wLcRev mc F (fun i acc L' => L' = L ∧ ∃ rs : List Str, acc = rs.map V.str ∧ rs.map TL.tl = (rcs.take i).map TP.picL ∧ ∀ w ∈ rs, w.length ≤ 97) ⟨rfl, [], rfl, rfl, by simp⟩ (fun _ _ _ r => by rw [r.1]; exact fun _ h => h) ?_ ?_
    · rintro i v D H1 acc L' hx ⟨rfl, rs, rfl, hy, hl⟩ F1
      obtain ⟨cs, hcs, hto⟩ := alr.getL hx
      have hcm := hrin _ (List.mem_of_getElem? hcs)
      have hrl : rs.length = min i rcs.length := by
        have := congrArg List.length hy
        rw [List.length_map, List.length_map, List.length_take] at this
        exact this
      obtain ⟨h1, h2, h3, _⟩ := hcn cs hcm
      walk_at "zw"
      walk_at "z"
      refine ⟨rfl, ?_⟩
      walk_at "z"
      refine use__law_shown F1 ((hto.mono fun e m => .tail _ m).seq) h1 h2 (by omega) fun z H2 ez F2 => ?_
      have lz : z.length ≤ 97 := by
        rw [TL.len_tl, ez, TP.pic_len h2]
        have := TP.tot_sum h2
        omega
      refine Z.lcPut F2 (by rw [List.length_map]; omega) ⟨rfl, rs ++ [z], by rw [List.map_append]; rfl, ?_, fun w hw => ?_⟩
      · rw [List.map_append, hy, List.take_add_one, hcs, List.map_append]
        show _ ++ [TL.tl z] = _ ++ [TP.picL cs]
        rw [ez]
      · rcases List.mem_append.mp hw with h | h
        · exact hl w h
        · cases List.mem_singleton.mp h
          exact lz
    rintro rp acc L' H2 F2 ⟨rfl, rs, rfl, hy, hl⟩
    rw [hvl, ← hrcl, List.take_length] at hy
    have hrl : rs.length = rcs.length := by
      have := congrArg List.length hy
      rw [List.length_map, List.length_map] at this
      exact this
    have hget : ∀ j, j < rcs.length → TL.tl (rs.getD j "") = TP.picL (rcs.getD j []) ∧ rcs.getD j [] ∈ crs := by
      intro j hj
      have e : (rs.map TL.tl)[j]? = (rcs.map TP.picL)[j]? := by rw [hy]
      rw [List.getElem?_map, List.getElem?_map, List.getElem?_eq_getElem (by omega), List.getElem?_eq_getElem hj] at e
      injection e with e
      rw [List.getD_eq_getElem?_getD, List.getD_eq_getElem?_getD, List.getElem?_eq_getElem (by omega), List.getElem?_eq_getElem hj]
      exact ⟨e, hrin _ (List.getElem_mem hj)⟩
    have hS0 : ∀ cs ∈ crs, cs.sum = (crs.getD 0 []).sum := fun cs h => (hwr cs h).2
    have hS : ∀ cs ∈ rcs, cs.sum = (rcs.getD 0 []).sum := fun cs h => by rw [hS0 cs (hrin cs h), hS0 _ (hget 0 (by omega)).2]
    have R : RowsG (picErr ns) picNums rcs rs := by
      refine ⟨hrl, fun j hj => ?_, fun j hj => ?_⟩
      · obtain ⟨e, m⟩ := hget j hj
        obtain ⟨a1, a2, a3, a4⟩ := hcn _ m
        exact (pic_good e a1 a2 (by omega) a4).1
      · obtain ⟨e, m⟩ := hget j hj
        obtain ⟨a1, a2, a3, a4⟩ := hcn _ m
        exact (pic_good e a1 a2 (by omega) a4).2
    have hok : ∀ w ∈ rs, 10 ∉ TL.tl w ∧ w.length ≤ 1000 ∧ PyData.strOk w = true ∧ PicOf w := by
      intro w hw
      obtain ⟨j, hj, rfl⟩ := List.mem_iff_getElem.mp hw
      obtain ⟨e, m⟩ := hget j (by omega)
      have e2 : rs.getD j "" = rs[j] := by rw [List.getD_eq_getElem?_getD, List.getElem?_eq_getElem hj]; rfl
      rw [e2] at e
      obtain ⟨a1, a2, a3, a4⟩ := hcn _ m
      obtain ⟨b1, b2, b3⟩ := pic_fine e a2 (by omega)
      exact ⟨b1, by omega, b3, _, e, a1, a2, by omega⟩
    have fine : FineP rs := ⟨⟨fun e => by rw [e] at hrl; simp at hrl; omega, by omega, fun w hw => ⟨(hok w hw).1, (hok w hw).2.1, (hok w hw).2.2.1⟩⟩, fun w hw _ => (hok w hw).2.2.2⟩
    have e1n : ("\n" : Str).length = 1 := by decide
    have hsum := TR.sum_le hl
    walk_at "z"
    refine Z.wJoin (F2.lst List.mem_cons_self) (by rw [e1n]; omega) ?_
    walk_at "z"
    have hWR : WRows ns crs := ⟨hw1, hw60, hwr⟩
    have alc : Z.Al2 (CourseAt (.ob rp (.lst (rs.map V.str)) :: L')) vs (crs.map intsO) := by
      refine ⟨by rw [List.length_map]; exact hvl, fun i a b ha hb => ?_⟩
      rw [List.getElem?_map] at hb
      obtain ⟨cs, hcs, hto⟩ := al.getL ha
      rw [hcs] at hb
      injection hb with hb
      subst hb
      refine ⟨(hto.mono fun e m => .tail _ m).seq, fun xs e x hx => ?_⟩
      cases e
      obtain ⟨n, _, rfl⟩ := List.mem_map.mp hx
      exact ⟨_, .int n⟩
    have hin : Z.inLen 1 60 (some vs) = true := by
      simp only [Z.inLen, Bool.and_eq_true, decide_eq_true_eq]
      omega
    refine use_Wall (ns := ns) F2 (si.le (List.sublist_cons_self _ _)) (.lst (.tail _ mc)) (os := crs.map intsO) (fun ws e => by cases e; exact alc) (fun hm => by rw [hin] at hm; cases hm) (fun i w h1 h2 h3 h4 => by
      rw [List.length_map] at h2
      rw [flaw_none (fun cs h => hwr cs h) h2] at h4
      cases h4) (fun rows' h1 h2 h3 y L3 H3 s wi F3 => ?_)
    obtain rfl := intsO_inj h2
    walk_at "z"
    refine use_wall_picture F3 wi hw60 (fun cs h => by obtain ⟨a1, a2, a3, _⟩ := hcn cs h; exact ⟨a1, a2, by omega⟩) fun z H4 ez F4 => ?_
    obtain rfl : z = Txt.join ("\n" : Str) rs := TL.ext_tl (by rw [ez, TL.join_eq, TL.tl_join, hy, ercs]; rfl)
    walk_at "z"
    refine Z.wOr1 (Z.wNeS rfl ?_)
    rw [decide_eq_true rfl]
    have subL : L'.Sublist L3 := (List.sublist_cons_self _ _).trans s
    have mr3 : Z.En.ob rp (.lst (rs.map V.str)) ∈ L3 := s.subset List.mem_cons_self
    walk_at "z"
    refine look_good F4 (si.le subL) fine (by omega) (all_goodG R hS) fun y2 L5 H5 s5 wi5 F5 => ?_
    have own : ∀ {H0 : Hp} {L0 : List Z.En} {w1 w2 x1 x2 : Addr} {ra rb : List (List Int)} {na nb : List Int} {la lb qa qb : Int} {f : Bool → Bool} {Q0 : VK}, Z.Fx H0 L0 → WallIn c_Wall L0 w1 x1 ra → StockIn c_Stock L0 x1 na la qa → WallIn c_Wall L0 w2 x2 rb → StockIn c_Stock L0 x2 nb lb qb →
        Q0 (.bl (f ((decide (na = nb) && (decide (la = lb) && decide (qa = qb))) && decide (ra = rb)))) H0 → Z.rOwn K c_Wall (sp_Wall___eq__ K c_Stock c_Wall) f (.ref w1) (.ref w2) H0 Q0 := by
      intro H0 L0 w1 w2 x1 x2 ra rb na nb la lb qa qb f Q0 F0 i1 j1 i2 j2 q0
      obtain ⟨d1, p1, m1, _⟩ := id i1
      obtain ⟨d2, p2, m2, _⟩ := id i2
      exact ⟨w1, _, _, _, rfl, F0.get m1, T.i_Wall.ty (F0.get m2), T.i_Wall.nf, _, _, rfl, L0, w1, x1, ra, na, la, qa, rfl, F0, i1, j1, .inl ⟨w2, x2, rb, nb, lb, qb, rfl, i2, j2, ⟨_, rfl, q0⟩⟩⟩
    rw [R.map, ← ercs, List.reverse_reverse] at wi5
    have sub5 := subL.trans s5
    walk_at "z"
    refine own F5 wi5 (si.le sub5) (wi.le s5) (si.le sub5) ?_
    rw [decide_eq_true rfl, decide_eq_true rfl, decide_eq_true rfl, decide_eq_true rfl]
    have mr5 := s5.subset mr3
    have hm5 := sub5.subset hm
    have mc5 := sub5.subset mc
    have si5 := si.le sub5
    have al5 := al.mono fun _ _ h => h.mono fun e m => sub5.subset m
    clear F4 F3 s F2 alc wi5
    walk_at "y"
    rename_i n0 H6 F6 n1 n2
    rw [List.length_map] at n2
    obtain ⟨n, rfl⟩ : ∃ n : Nat, n0 = n := ⟨n0.toNat, by omega⟩
    have hn : n < rcs.length := by omega
    obtain ⟨er, cm⟩ := hget n hn
    obtain ⟨rw0, erw, hat⟩ : ∃ rw0, rs.getD n "" = rw0 ∧ atI (rs.map V.str) (n : Int) = some (V.str rw0) := ⟨_, rfl, atI_nat (by rw [List.getElem?_map, List.getD_eq_getElem?_getD, List.getElem?_eq_getElem (by omega)]; rfl)⟩
    rw [erw] at er
    obtain ⟨c, ehc⟩ : ∃ c, rcs.getD n [] = c := ⟨_, rfl⟩
    rw [ehc] at er cm
    have hrm : rw0 ∈ rs := by
      rw [← erw, List.getD_eq_getElem?_getD, List.getElem?_eq_getElem (by omega)]
      exact List.getElem_mem _
    obtain ⟨f1, f2, f3, f5⟩ := hok _ hrm
    have f4 := hl _ hrm
    obtain ⟨k1, k2, k3, k4⟩ := hcn _ cm
    have hlw := TL.len_tl rw0
    have hlw2 : rw0.length = 2 * TP.tot c + 1 := by rw [hlw, er, TP.pic_len k2]
    have hls : rw0.length ≤ sizeLine := by omega
    refine Z.wIxL (F6.lst mr5) hat ?_
    refine Z.wNil ?_
    refine Z.wLenS hls ?_
    refine Z.wNil ?_
    refine use__law_take F6 hm5 (by omega) (Nat.lt_of_lt_of_le (TW.log_small (by omega)) (by decide)) fun m0 H7 F7 m0a m0b => ?_
    obtain ⟨m, rfl⟩ : ∃ m : Nat, m0 = m := ⟨m0.toNat, by omega⟩
    have hml : m < (TL.tl rw0).length := by omega
    refine Z.wG8 ?_
    refine Z.wSeq ?_
    refine Z.wAsg ?_
    refine Z.wMidE (fun v H' => ∃ sg c, v = .str sg ∧ TL.tl sg = [c] ∧ (c = 120 ∨ (c = 124 ∧ m % 2 = 1)) ∧ Z.Fx H' L5) (fun R0 hk => ?_) ?_
    · have e1 : TL.tl ("x" : Str) = [120] := by decide
      have e2 : TL.tl ("|" : Str) = [124] := by decide
      walk_at "z"
      rename_i v3 H9 F9 v3a v3b
      by_cases h3 : v3 = 0
      · rw [if_neg (by rw [h3]; decide)]
        walk_at "z"
        refine Z.wIfD (fun h4 => ?_) (fun h4 => ?_)
        · walk_at "z"
          exact hk _ _ ⟨_, _, rfl, e1, .inl rfl, F9⟩
        · walk_at "z"
          exact hk _ _ ⟨_, _, rfl, e2, .inr ⟨rfl, by omega⟩, F9⟩
      · rw [if_pos (by simpa using h3), if_pos rfl]
        walk_at "z"
        exact hk _ _ ⟨_, _, rfl, e1, .inl rfl, F9⟩
    rintro _ H8 ⟨sg, cg, rfl, esg, hcg, F8⟩
    have hsg1 : sg.length = 1 := by rw [TL.len_tl, esg]; rfl
    walk_at "y"
    refine Z.wFor ?_
    refine Z.wIS ?_
    refine Z.wMidE (fun v H' => ∃ pB, ∃ zs : List Str, v = .ref pB ∧ Z.Fx H' (.ob pB (.lst (zs.map V.str)) :: L5) ∧ ∀ z ∈ zs, BadP z) (fun R0 hk => ?_) ?_
    · walk_at "z"
      refine Z.wSlStr hls ?_
      walk_at "z"
      refine Z.wSlStr hls ?_
      walk_at "z"
      have q2 : TL.tl (cutS rw0 none (some (m : Int))) = (TL.tl rw0).take m := Z.tl_to rw0 m
      have q3 : TL.tl (cutS rw0 (some ((m : Int) + 1)) none) = (TL.tl rw0).drop (m + 1) := Z.tl_from rw0 (m + 1)
      have g2 : (cutS rw0 none (some (m : Int))).length ≤ 97 := by rw [TL.len_tl, q2, List.length_take]; omega
      have g3 : (cutS rw0 (some ((m : Int) + 1)) none).length ≤ 97 := by rw [TL.len_tl, q3, List.length_drop]; omega
      have g4 := TX.len_app (cutS rw0 none (some (m : Int))) sg
      refine Z.wAddSS (by omega) (by omega) ?_
      walk_at "z"
      refine Z.wSlStr hls ?_
      refine Z.wAddSS (by omega) (by omega) ?_
      walk_at "z"
      rename_i pB G1 g1
      exact hk _ _ ⟨pB, [("" : Str), ("|" : Str), rw0 ++ ("_" : Str), cutS rw0 (some 1) none, cutS rw0 none (some (m : Int)) ++ sg ++ cutS rw0 (some ((m : Int) + 1)) none, rw0 ++ ("_ _|" : Str), (" " : Str) ++ rw0], rfl, g1, badP7 er k2 f4 hml esg hcg⟩
    rintro _ HC ⟨pB, zs, rfl, FC, hzs⟩
    refine Z.wForQ (.lst List.mem_cons_self) FC (fun i σ' H' => ∃ v10, σ' = [some (V.ref l), some (V.ref x), some (V.ref cp), some (V.int st), some (V.ref rp), some (V.str (Txt.join ("\n" : Str) rs)), some (V.ref y), some (V.int (n : Nat)), some (V.int (m : Nat)), some (V.str sg), v10, none, none, none, none, none] ∧ Z.Fx H' (.ob pB (.lst (zs.map V.str)) :: L5)) ⟨_, rfl, FC⟩ (fun i σ' H' r => ?_) (fun i x1 σ' H' hx r => ?_) (fun σ' H' r => ?_)
    · obtain ⟨v10, rfl, F'⟩ := r
      exact ⟨_, F', fun _ h => h⟩
    · obtain ⟨v10, rfl, F'⟩ := r
      obtain ⟨w, rfl, hw⟩ : ∃ w, x1 = V.str w ∧ w ∈ zs := by
        rw [List.getElem?_map] at hx
        cases hh : zs[i]? with
        | none => rw [hh] at hx; cases hx
        | some w => rw [hh] at hx; exact ⟨w, by injection hx with hx; exact hx.symm, List.mem_of_getElem? hh⟩
      exact turn7 F' (si5.le (List.sublist_cons_self _ _)) (.tail _ mr5) R hS fine (by omega) hn (hzs w hw) rfl rfl rfl rfl fun H'' F'' => ⟨_, rfl, F''⟩
    obtain ⟨v10, rfl, F'⟩ := r
    replace F' := F'.sub (List.sublist_cons_self _ _)
    clear FC F8 F7 F6 F5
    obtain ⟨c0, hc0⟩ : ∃ c0, crs[0]? = some c0 := ⟨_, List.getElem?_eq_getElem (by omega)⟩
    have hc0m := List.mem_of_getElem? hc0
    obtain ⟨v0, hv0, t0, rfl, mt0⟩ := al5.getR hc0
    have hat0 : atI vs 0 = some (V.ref t0) := atI_nat (j := 0) hv0
    obtain ⟨j1, j2, j3, j4⟩ := hcn _ hc0m
    walk_at "z"
    rename_i pa A1 a1
    have len0 := len_le_sumJ j2
    refine Z.wCatTu (ns := [st]) (ms := c0) (a1.tup List.mem_cons_self) (a1.tup (.tail _ mt0)) (by simp) j1 (by simp; omega) a1 fun pb A2 a2 => ?_
    have ns1 : [st] ++ c0 ≠ [] := by simp
    have ns2 : ∀ b ∈ [st] ++ c0, 1 ≤ b := fun b hb => by
      rcases List.mem_append.mp hb with h | h
      · cases List.mem_singleton.mp h; exact s2
      · exact j2 b h
    have ns3 : ([st] ++ c0).sum ≤ 56 := by rw [List.sum_append]; simp; omega
    walk_at "z"
    refine use__law_shown a2 (.tup List.mem_cons_self) ns1 ns2 (by omega) fun zc A3 ezc a3 => ?_
    obtain ⟨y1, y2, y3⟩ := pic_fine ezc ns2 (by omega)
    have yerr : picErr ns zc = some ("course" : Str) := pic_course ezc ns1 ns2 (by omega) ⟨st, by simp, s1⟩
    have ypic : TP.isPic (TL.tl zc) = true → PicOf zc := fun _ => ⟨_, ezc, ns1, ns2, by omega⟩
    walk_at "z"
    refine use__law_with a3 (.tail _ (.tail _ mr5)) (by omega) (by omega) (by omega) (fun w hw => by have := hl w hw; omega) fun A4 a4 => ?_
    walk_at "z"
    obtain ⟨b1, b2⟩ := bad_atG (W := rs.set n zc) (n := n) (w := ("course" : Str)) R hS (by omega) (fun j hj => getD_set_ne (by omega)) (by rw [getD_set_eq (by omega)]; exact yerr)
    refine look_bad a4 (si5.le (by walk_at "zsub")) (fine.set y1 (by omega) y3 ypic) (by rw [List.length_set]; omega) (by rw [List.length_set]; omega) b1 b2 fun v6 L6 A5 s6 dv6 a5 => ?_
    walk_at "z"
    rename_i p6 A6 a6
    refine Z.wNeSame a6 (dv6.mono fun _ h => .tail _ h) (.lst List.mem_cons_self (.cons (.int _) (.cons (.str ("course" : Str)) .nil))) (Z.Sh.lst (Z.ShA.cons (Z.Sh.int _) (Z.ShA.cons (show Z.Sh (.str ("course" : Str)) 0 from ⟨by decide +kernel, Nat.le_refl _⟩) Z.ShA.nil))).ok ?_
    have sub6 : L5.Sublist L6 := List.Sublist.trans (by walk_at "zsub") s6
    replace a6 := a6.sub (List.sublist_cons_self _ _)
    clear a5 a4 a3 a2 a1 F' dv6
    have mr6 := sub6.subset mr5
    have si6 := si5.le sub6
    have mc6 := sub6.subset mc5
    have mt6 := sub6.subset mt0
    have h8r : rs.length ≤ 8 := by omega
    walk_at "z"
    rename_i p7 A7 a7 p8 A8 a8
    refine Z.wCatTu (ns := [st]) (ms := c0) (a8.tup List.mem_cons_self) (a8.tup (.tail _ (.tail _ mt6))) (by simp) j1 (by simp; omega) a8 fun pb2 A9 a9 => ?_
    walk_at "z"
    refine use__law_shown a9 (.tup List.mem_cons_self) ns1 ns2 (by omega) fun zd A10 ezd a10 => ?_
    obtain rfl : zc = zd := TL.ext_tl (by rw [ezc, ezd])
    walk_at "z"
    rename_i p9 A11 a11
    have e1w : ([V.str zc] : List V) = [zc].map V.str := rfl
    have ewr : ([V.str ("|" : Str)] : List V) = [("|" : Str)].map V.str := rfl
    rw [Z.cut_to n, ← List.map_take, e1w] at a11
    refine Z.wCatL a11 (.tail _ (.tail _ (.tail _ (.head _)))) (.head _) (by rw [List.length_map, List.length_take]; simp; omega) fun p10 A12 a12 => ?_
    walk_at "z"
    rename_i p11 A13 a13
    rw [show (some ((n : Int) + 1) : Option Int) = some (((n + 1 : Nat) : Nat) : Int) from rfl, Z.cut_from (n + 1), ← List.map_drop, ← List.map_append] at a13
    refine Z.wCatL a13 (.tail _ (.head _)) (.head _) (by simp; omega) fun p12 A14 a14 => ?_
    rw [← List.map_append, set_cut (by omega)] at a14
    walk_at "z"
    rename_i p13 A15 a15
    rw [ewr] at a15
    refine Z.wCatL a15 (.tail _ (.head _)) (.head _) (by rw [List.length_map, List.length_set]; simp; omega) fun p14 A16 a16 => ?_
    rw [← List.map_append] at a16
    have tb : TL.tl ("|" : Str) = [124] := by decide
    have fineW : FineP (rs.set n zc ++ [("|" : Str)]) := (fine.set (n := n) y1 (by omega) y3 ypic).snoc (by rw [List.length_set]; omega) (by decide) (by decide) (by decide +kernel) (fun h => by rw [tb] at h; exact absurd h (by decide))
    have lenW : (rs.set n zc ++ [("|" : Str)]).length = rs.length + 1 := by rw [List.length_append, List.length_set, List.length_singleton]
    obtain ⟨b3, b4⟩ := bad_atG (W := rs.set n zc ++ [("|" : Str)]) (n := n) (w := ("course" : Str)) R hS (by omega) (fun j hj => by rw [getD_snoc (by rw [List.length_set]; omega)]; exact getD_set_ne (by omega)) (by rw [getD_snoc (by rw [List.length_set]; omega), getD_set_eq (by omega)]; exact yerr)
    have hsumW := TR.sum_le fun w hw => (fineW.1.2.2 w hw).2.1
    walk_at "z"
    refine Z.wJoin (a16.lst List.mem_cons_self) (by rw [e1n]; omega) ?_
    walk_at "z"
    refine look_bad a16 (si6.le (by walk_at "zsub")) fineW (by omega) (by omega) b3 b4 fun v7 L7 A17 s7 dv7 a17 => ?_
    walk_at "z"
    rename_i p15 A18 a18
    refine Z.wNeSame a18 (dv7.mono fun _ h => .tail _ h) (.lst List.mem_cons_self (.cons (.int _) (.cons (.str ("course" : Str)) .nil))) (Z.Sh.lst (Z.ShA.cons (Z.Sh.int _) (Z.ShA.cons (show Z.Sh (.str ("course" : Str)) 0 from ⟨by decide +kernel, Nat.le_refl _⟩) Z.ShA.nil))).ok ?_
    have sub7 : L5.Sublist L7 := sub6.trans (List.Sublist.trans (by walk_at "zsub") s7)
    replace a18 := a18.sub (List.sublist_cons_self _ _)
    clear a17 a16 a15 a14 a13 a12 a11 a10 a9 a8 a7 a6 dv7
    have mr7 := sub7.subset mr5
    have si7 := si5.le sub7
    have mc7 := sub7.subset mc5
    have mt7 := sub7.subset mt0
    walk_at "z"
    refine Z.wSlStr hls ?_
    have tc1 : TL.tl (cutS rw0 (some 1) none) = (TL.tl rw0).drop 1 := Z.tl_from rw0 1
    have lc1 : (cutS rw0 (some 1) none).length ≤ 97 := by rw [TL.len_tl, tc1, List.length_drop]; omega
    refine Z.wAddSS (by omega) (by omega) ?_
    obtain ⟨zl, ezl⟩ : ∃ zl, rw0 ++ cutS rw0 (some 1) none = zl := ⟨_, rfl⟩
    have tzl : TL.tl zl = TP.picL (c ++ c) := by
      rw [← ezl, TL.tl_append, tc1]
      exact TP.pic_twice er
    rw [ezl]
    have hcc : ∀ b ∈ c ++ c, b ∈ c := fun b hb => by rcases List.mem_append.mp hb with h | h <;> exact h
    have hccs : (c ++ c).sum ≤ 96 := by rw [List.sum_append]; omega
    have hccn : c ++ c ≠ [] := by simpa using k1
    have cp1 := sum_pos k1 k2
    walk_at "z"
    refine wIfJ (fun H' => ∃ L8, L7.Sublist L8 ∧ Z.Fx H' L8) (fun h1 R0 k0 => ?_) (fun _ => ⟨_, .refl _, a18⟩) ?_
    · rw [List.length_map] at h1
      obtain ⟨u1, u2, u3⟩ := pic_fine tzl (fun b hb => k2 b (hcc b hb)) (by omega)
      obtain ⟨d1, d2⟩ := pic_good (ns := ns) tzl hccn (fun b hb => k2 b (hcc b hb)) (by omega) (fun b hb => k4 b (hcc b hb))
      obtain ⟨b5, b6⟩ := long_atG R hS hn (by omega) d1 d2 ehc.symm cp1
      walk_at "z"
      refine use__law_with a18 mr7 (by omega) (by omega) (by omega) (fun w hw => by have := hl w hw; omega) fun A19 a19 => ?_
      walk_at "z"
      refine look_bad a19 si7 (fine.set u1 (by omega) u3 fun _ => ⟨_, tzl, hccn, fun b hb => k2 b (hcc b hb), by omega⟩) (by rw [List.length_set]; omega) (by rw [List.length_set]; omega) b5 b6 fun v L8 A20 s8 dv8 a20 => ?_
      walk_at "z"
      rename_i p16 A21 a21
      have emx : (if (1 : Int) > (n : Int) then (1 : Int) else (n : Int)) = ((max n 1 : Nat) : Int) := by
        by_cases h : 1 > n
        · rw [if_pos (by omega), Nat.max_eq_right (by omega)]; rfl
        · rw [if_neg (by omega), Nat.max_eq_left (by omega)]
      rw [emx] at a21
      refine Z.wNeSame a21 (dv8.mono fun _ h => .tail _ h) (.lst List.mem_cons_self (.cons (.int _) (.cons (.str ("length" : Str)) .nil))) (Z.Sh.lst (Z.ShA.cons (Z.Sh.int _) (Z.ShA.cons (show Z.Sh (.str ("length" : Str)) 0 from ⟨by decide +kernel, Nat.le_refl _⟩) Z.ShA.nil))).ok ?_
      exact ⟨_, rfl, k0 _ ⟨L8, s8, a21.sub (List.sublist_cons_self _ _)⟩⟩
    rintro A19 ⟨L8, s8, a19⟩
    have sub8 := sub7.trans s8
    clear a18
    have mr8 := sub8.subset mr5
    have si8 := si5.le sub8
    have mc8 := sub8.subset mc5
    have mt8 := sub8.subset mt0
    obtain ⟨a0, r0, rfl⟩ : ∃ a0 r0, c0 = a0 :: r0 := by
      cases c0 with
      | nil => exact absurd rfl j1
      | cons a0 r0 => exact ⟨a0, r0, rfl⟩
    have ha1 := j2 a0 List.mem_cons_self
    have hain := j4 a0 List.mem_cons_self
    have ha8 := (hns a0 hain).2
    have hata : atI ((a0 :: r0).map V.int) 0 = some (V.int a0) := atI_nat (j := 0) rfl
    walk_at "z"
    obtain ⟨k, ekq, kk1, kk2, kk3, kk4⟩ := tall_facts ha1 ha8
    rename_i p17 A20 a20
    refine ⟨400, a0, rfl, rfl, ⟨by omega, Nat.lt_of_lt_of_le (TW.log_small (n := a0.natAbs) (by omega)) (by decide)⟩, ?_⟩
    dsimp only
    rw [ekq]
    refine Z.wRep1 a20 List.mem_cons_self (by omega) (by omega) (by simp) (by simp) fun p18 A21 L9 m18 s9 a21 => ?_
    rw [Int.toNat_natCast, flat_rep] at m18
    have sub9 : L5.Sublist L9 := sub8.trans ((List.sublist_cons_self _ _).trans s9)
    clear a20 a19
    have mr9 := sub9.subset mr5
    have si9 := si5.le sub9
    have mc9 := sub9.subset mc5
    have mt9 := sub9.subset mt0
    have eu : TL.tl ("_" : Str) = [95] := by decide
    have eb : TL.tl ("|" : Str) = [124] := by decide
    have eul : ("_" : Str).length = 1 := by decide
    have ebl : ("|" : Str).length = 1 := by decide
    walk_at "z"
    refine Z.wMulT (by omega) (by omega) (by omega) (by omega) ?_
    have tr1 : TL.tl (Z.repS ("_" : Str) (2 * a0 - 1)) = List.replicate (2 * a0.toNat - 1) 95 := by
      rw [tl_repS, eu, flat_one, show (2 * a0 - 1).toNat = 2 * a0.toNat - 1 from by omega]
    have lr1 : (Z.repS ("_" : Str) (2 * a0 - 1)).length = 2 * a0.toNat - 1 := by rw [TL.len_tl, tr1, List.length_replicate]
    have lr2 := TX.len_app (Z.repS ("_" : Str) (2 * a0 - 1)) ("|" : Str)
    walk_at "z"
    rw [List.length_replicate]
    refine Z.wMulT (n := (k : Int)) (by omega) (by omega) (by omega) (by omega) ?_
    have hrk1 : ∀ b ∈ List.replicate k a0, 1 ≤ b := fun b hb => by rw [List.eq_of_mem_replicate hb]; exact ha1
    have hrki : ∀ b ∈ List.replicate k a0, b ∈ ns := fun b hb => by rw [List.eq_of_mem_replicate hb]; exact hain
    have htk : TP.tot (List.replicate k a0) = k * a0.toNat := TP.tot_rep a0 k
    have tr3 : TL.tl (Z.repS (Z.repS ("_" : Str) (2 * a0 - 1) ++ ("|" : Str)) (k : Int)) = TP.body (List.replicate k a0) := by
      rw [tl_repS, TL.tl_append, tr1, eb, Int.toNat_natCast, TP.body_rep]
    have lr3 : (Z.repS (Z.repS ("_" : Str) (2 * a0 - 1) ++ ("|" : Str)) (k : Int)).length = 2 * (k * a0.toNat) := by rw [TL.len_tl, tr3, TP.body_len hrk1, htk]
    refine Z.wAddSS (by omega) (by omega) ?_
    obtain ⟨zr, ezr⟩ : ∃ zr, ("|" : Str) ++ Z.repS (Z.repS ("_" : Str) (2 * a0 - 1) ++ ("|" : Str)) (k : Int) = zr := ⟨_, rfl⟩
    have tzr : TL.tl zr = TP.picL (List.replicate k a0) := by rw [← ezr, TL.tl_append, eb, tr3]; rfl
    rw [ezr]
    have hrkt := TP.tot_sum hrk1
    have hrks : (List.replicate k a0).sum ≤ 400 := by omega
    have hrkn : List.replicate k a0 ≠ [] := by
      intro e
      have := congrArg List.length e
      rw [List.length_replicate] at this
      have : k = 0 := this
      omega
    have lzr : zr.length = 2 * (k * a0.toNat) + 1 := by rw [TL.len_tl, tzr, TP.pic_len hrk1, htk]
    have hzrs : zr.length ≤ sizeLine := by omega
    clear tr3 lr3 lr2 lr1 tr1
    walk_at "z"
    refine look_one a21 si9 tzr hrkn hrk1 hrks hrki fun y3 L10 A22 s10 wi10 a22 => ?_
    walk_at "z"
    rename_i p19 A23 a23
    have sub10 := sub9.trans s10
    refine wall_made (rows := [List.replicate k a0]) a23 (si5.le (sub10.trans (List.sublist_cons_self _ _))) List.mem_cons_self (Z.Al2.nil.snoc ⟨p18, rfl, .tail _ (s10.subset m18)⟩) ⟨by simp, by simp, fun cs h => by
      cases List.mem_singleton.mp h
      exact ⟨⟨hrki, by rw [List.length_replicate]; omega, by rw [List.length_replicate]; omega, hrks⟩, rfl⟩⟩ fun y4 L11 A24 s11 wi11 a24 => ?_
    have sub11 := sub10.trans ((List.sublist_cons_self _ _).trans s11)
    walk_at "z"
    refine own a24 (wi10.le ((List.sublist_cons_self _ _).trans s11)) (si5.le sub11) wi11 (si5.le sub11) ?_
    rw [decide_eq_true rfl, decide_eq_true rfl, decide_eq_true rfl, decide_eq_true rfl]
    clear a23 a22 a21 wi10 wi11
    have mr11 := sub11.subset mr5
    have si11 := si5.le sub11
    have mc11 := sub11.subset mc5
    have mt11 := sub11.subset mt0
    walk_at "z"
    refine Z.wSlStr hzrs ?_
    have tsl : TL.tl (cutS zr (some 1) (some (2 * a0 + 1))) = ((TL.tl zr).drop 1).take (2 * a0.toNat) := by
      have := Z.tl_mid zr 1 (2 * a0.toNat + 1) (by
        have : 1 * a0.toNat ≤ k * a0.toNat := Nat.mul_le_mul_right _ kk1
        omega) (by omega)
      rw [show ((2 * a0.toNat + 1 : Nat) : Int) = 2 * a0 + 1 from by omega, Nat.add_sub_cancel] at this
      exact this
    have lsl : (cutS zr (some 1) (some (2 * a0 + 1))).length = 2 * a0.toNat := by
      rw [TL.len_tl, tsl, List.length_take, List.length_drop, ← TL.len_tl, lzr]
      have : 1 * a0.toNat ≤ k * a0.toNat := Nat.mul_le_mul_right _ kk1
      omega
    refine Z.wAddSS (by omega) (by omega) ?_
    have lo := TX.len_app zr (cutS zr (some 1) (some (2 * a0 + 1)))
    have off : BadP (zr ++ cutS zr (some 1) (some (2 * a0 + 1))) := by
      refine BadP.of (fun ch h => ?_) (by omega) (TP.isPic_len2 (.inr (.inr (by rw [← TL.len_tl]; omega))))
      rw [TL.tl_append, tsl] at h
      have : ch ∈ TL.tl zr := by
        rcases List.mem_append.mp
              h with h | h
        · exact h
        · exact List.mem_of_mem_drop (List.mem_of_mem_take h)
      rw [tzr] at this
      rcases TP.pic_in ch this with h | h
      · exact .inl h
      · exact .inr (.inl h)
    walk_at "z"
    refine look_off a24 si11 off fun v12 L12 A25 s12 dv12 a25 => ?_
    walk_at "z"
    rename_i p20 A26 a26
    refine Z.wNeSame a26 (dv12.mono fun _ h => .tail _ h) (.lst List.mem_cons_self (.cons (.int _) (.cons (.str ("shape" : Str)) .nil))) (Z.Sh.lst (Z.ShA.cons (Z.Sh.int _) (Z.ShA.cons (show Z.Sh (.str ("shape" : Str)) 0 from ⟨by decide +kernel, Nat.le_refl _⟩) Z.ShA.nil))).ok ?_
    have sub12 := sub11.trans s12
    replace a26 := a26.sub (List.sublist_cons_self _ _)
    clear a25 a24 dv12
    have mr12 := sub12.subset mr5
    have si12 := si5.le sub12
    have mc12 := sub12.subset mc5
    walk_at "z"
    have ltxt := TR.join_len rs hl
    have ltxt2 : rs.length * (97 + 1) ≤ 8 * 98 := Nat.mul_le_mul_right _ h8r
    refine Z.wAddSS (by omega) (by decide) ?_
    rw [join_more fine.1.1]
    have te : TL.tl ("" : Str) = [] := by decide
    have tx : TL.tl ("x" : Str) = [120] := by decide
    have fineM : FineP (rs ++ [("" : Str)]) := fine.snoc (by omega) (by decide) (by decide) (by decide +kernel) (fun h => by rw [te] at h; exact absurd h (by decide))
    obtain ⟨c1, c2⟩ := bad_atG (W := rs ++ [("" : Str)]) (n := rs.length) (w := ("shape" : Str)) R hS (by omega) (fun j hj => getD_snoc hj) (by rw [getD_last]; exact pic_shape (by rw [te]; decide))
    walk_at "z"
    refine look_bad a26 si12 fineM (by simp; omega) (by simp) c1 c2 fun v13 L13 A27 s13 dv13 a27 => ?_
    have sub13 := sub12.trans s13
    have mr13 := sub13.subset mr5
    have si13 := si5.le sub13
    obtain ⟨rr, err0, hatr⟩ : ∃ rr, rs.getD 0 "" = rr ∧ atI (rs.map V.str) 0 = some (V.str rr) := ⟨_, rfl, atI_nat (j := 0) (by rw [List.getElem?_map, List.getD_eq_getElem?_getD, List.getElem?_eq_getElem (by omega)]; rfl)⟩
    have hrr : rr ∈ rs := by
      rw [← err0, List.getD_eq_getElem?_getD, List.getElem?_eq_getElem (by omega)]
      exact List.getElem_mem _
    walk_at "z"
    rename_i p21 A28 a28
    rw [List.length_map] at a28
    refine Z.wNeSame a28 (dv13.mono fun _ h => .tail _ h) (.lst List.mem_cons_self (.cons (.int _) (.cons (.str ("shape" : Str)) .nil))) (Z.Sh.lst (Z.ShA.cons (Z.Sh.int _) (Z.ShA.cons (show Z.Sh (.str ("shape" : Str)) 0 from ⟨by decide +kernel, Nat.le_refl _⟩) Z.ShA.nil))).ok ?_
    replace a27 := a28.sub (List.sublist_cons_self _ _)
    clear a28 dv13 a26
    walk_at "z"
    rename_i q1 B1 b1 q2 B2 b2 q3 B3 b3
    have efl : (List.replicate (Int.toNat 60) [V.str rr]).flatten = (List.replicate 60 rr).map V.str := rfl
    rw [efl] at b3
    refine Z.wCatL b3 (.tail _ (.tail _ (.head _))) (.head _) (by simp) fun q4 B4 b4 => ?_
    rw [show ([V.str ("x" : Str)] : List V) = [("x" : Str)].map V.str from rfl, ← List.map_append] at b4
    have finR := fine.rep hrr
    have finN : FineP ([("x" : Str)] ++ List.replicate 60 rr) := finR.cons (by simp) (by decide) (by decide) (by decide +kernel) (fun h => by rw [tx] at h; exact absurd h (by decide))
    have hsN := TR.sum_le fun w hw => (finN.1.2.2 w hw).2.1
    have hsR := TR.sum_le fun w hw => (finR.1.2.2 w hw).2.1
    have lN : ([("x" : Str)] ++ List.replicate 60 rr).length = 61 := by simp
    have lR : (List.replicate 60 rr).length = 60 := by simp
    refine Z.wJoin (b4.lst List.mem_cons_self) (by rw [e1n]; omega) ?_
    walk_at "z"
    refine look_many b4 (si13.le (by walk_at "zsub")) finN (by omega) fun v14 L14 B5 s14 dv14 b5 => ?_
    have sub14 : L5.Sublist L14 := sub13.trans (List.Sublist.trans (by walk_at "zsub") s14)
    have mr14 := sub14.subset mr5
    have si14 := si5.le sub14
    clear b4 b3 b2 b1 a27
    walk_at "z"
    rename_i q5 B6 b6
    refine Z.wNeSame b6 (dv14.mono fun _ h => .tail _ h) (.lst List.mem_cons_self (.cons (.int _) (.cons (.str ("many" : Str)) .nil))) (Z.Sh.lst (Z.ShA.cons (Z.Sh.int _) (Z.ShA.cons (show Z.Sh (.str ("many" : Str)) 0 from ⟨by decide +kernel, Nat.le_refl _⟩) Z.ShA.nil))).ok ?_
    replace b5 := b6.sub (List.sublist_cons_self _ _)
    clear b6 dv14
    walk_at "z"
    rename_i q6 B7 b7 q7 B8 b8
    rw [efl] at b8
    refine Z.wJoin (b8.lst List.mem_cons_self) (by rw [e1n]; omega) ?_
    walk_at "z"
    obtain ⟨rc0, erc0⟩ : ∃ rc0, rcs.getD 0 [] = rc0 := ⟨_, rfl⟩
    have R60 := rep_rowsG R (by omega) 60
    rw [err0, erc0] at R60
    have hS60 : ∀ cs ∈ List.replicate 60 rc0, cs.sum = ((List.replicate 60 rc0).getD 0 []).sum := fun cs hcs => by
      rw [List.eq_of_mem_replicate hcs]; rfl
    refine look_good b8 (si14.le (by walk_at "zsub")) finR (by omega) (all_goodG R60 hS60) fun y15 L15 B9 s15 wi15 b9 => ?_
    rw [R60.map, List.reverse_replicate] at wi15
    have sub15 : L5.Sublist L15 := sub14.trans (List.Sublist.trans (by walk_at "zsub") s15)
    clear b8 b7 b5
    have alr5 := al2_rev al5
    rw [ercs] at alr5
    have hrc0 : rcs[0]? = some rc0 := by
      rw [List.getElem?_eq_getElem (by omega), ← erc0, List.getD_eq_getElem?_getD, List.getElem?_eq_getElem (by omega)]
      rfl
    obtain ⟨vl, hvl0, tl0, rfl, mtl⟩ := alr5.getR hrc0
    have hatl : atI vs (-1) = some (V.ref tl0) := by
      have : ∃ l, vs = l ++ [V.ref tl0] := by
        refine ⟨vs.reverse.tail.reverse, ?_⟩
        have e : vs.reverse = V.ref tl0 :: vs.reverse.tail := by
          cases hv : vs.reverse with
          | nil => rw [hv] at hvl0; cases hvl0
          | cons a r =>
            rw [hv] at hvl0
            have : a = V.ref tl0 := by simpa using hvl0
            rw [this]
            rfl
        have e2 := congrArg List.reverse e
        rw [List.reverse_reverse, List.reverse_cons] at e2
        exact e2
      obtain ⟨l2, e⟩ := this
      rw [e]
      exact atI_last l2 _
    have mc15 := sub15.subset mc5
    have hrcm : rc0 ∈ crs := by
      have := (hget 0 (by omega)).2
      rwa [erc0] at this
    walk_at "z"
    rename_i q8 B10 b10 q9 B11 b11
    have efl2 : (List.replicate (Int.toNat 60) [V.ref tl0]).flatten = List.replicate 60 (V.ref tl0) := rfl
    rw [efl2] at b11
    have al60 : Z.Al2 (TupOf (.ob q9 (.lst (List.replicate 60 (V.ref tl0))) :: .ob q8 (.lst [V.ref tl0]) :: L15)) (List.replicate 60 (V.ref tl0)) (List.replicate 60 rc0) := by
      refine ⟨by simp, fun i a b ha hb => ?_⟩
      have ha := List.eq_of_mem_replicate (List.mem_of_getElem? ha)
      have hb := List.eq_of_mem_replicate (List.mem_of_getElem? hb)
      subst ha
      subst hb
      exact ⟨tl0, rfl, .tail _ (.tail _ (sub15.subset mtl))⟩
    refine wall_made (rows := List.replicate 60 rc0) b11 (si5.le (sub15.trans (by walk_at "zsub"))) List.mem_cons_self al60 ⟨by simp, by simp, fun cs h => by
      rw [List.eq_of_mem_replicate h]
      exact ⟨(hwr _ hrcm).1, rfl⟩⟩ fun y16 L16 B12 s16 wi16 b12 => ?_
    have sub16 := sub15.trans (List.Sublist.trans (by walk_at "zsub") s16)
    refine own b12 (wi15.le (List.Sublist.trans (by walk_at "zsub") s16)) (si5.le sub16) wi16 (si5.le sub16) ?_
    rw [decide_eq_true rfl, decide_eq_true rfl, decide_eq_true rfl, decide_eq_true rfl]
    walk_at "z"
    refine use__law_looked b12 (si5.le sub16) (.int 7) trivial (fun w hw => by cases hw) (fun w he v17 L17 B13 s17 dv17 b13 => ?_) (fun he => by cases he) (fun he => by cases he)
    obtain rfl : ("text" : Str) = w := by injection he
    walk_at "z"
    rename_i q10 B14 b14
    refine Z.wEqSame b14 (dv17.mono fun _ h => .tail _ h) (.lst List.mem_cons_self (.cons (.int _) (.cons (.str ("text" : Str)) .nil))) (Z.Sh.lst (Z.ShA.cons (Z.Sh.int _) (Z.ShA.cons (show Z.Sh (.str ("text" : Str)) 0 from ⟨by decide +kernel, Nat.le_refl _⟩) Z.ShA.nil))).ok ?_
    exact q _ (b14.sub ((sub5.trans sub16).trans (s17.trans (List.sublist_cons_self _ _))))
theorem ok__law_pictures (T : Txt K mg c_BadCourse c_BadJoints c_BadLength c_BadStock c_BadText c_BadWall c_Stock c_Wall) : Z.Ok CX0 P w K mg base "_law_pictures" 11 ["_law_hand_here", "_law_stock", "_law_courses", "_law_stranger"] [] (sp__law_pictures K c_Stock c_Wall) := by
  obtain ⟨f, fd, F, g⟩ := T.d__law_pictures
  exact Z.mkOk F g (F.binds (ps := ["_law_hand_here", "_law_stock", "_law_courses", "_law_stranger"]) fun _ _ _ _ _ _ us hl => match us, hl with | [_, _, _, _], _ => rfl) (fn__law_pictures T F)
theorem use__law_pictures {cS cW : Addr} {K : PySem.W.Frag} {H : Hp} {Q : VK} {E : XK} {L : List Z.En} {l hc x cp : Addr} {vs : List V} {crs : List (List Int)} {ns : List Int} {lap r st : Int} (F : Z.Fx H L) (hm : Z.En.hand l hc ∈ L) (si : StockIn cS L x ns lap r) (mc : Z.En.ob cp (.lst vs) ∈ L)
  (al : Z.Al2 (TupOf L) vs crs) (hw : WRows ns crs) (h8 : crs.length ≤ 8) (h48 : ∀ cs ∈ crs, cs.length ≤ 48 ∧ cs.sum ≤ 48) (hns : ∀ n ∈ ns, 1 ≤ n ∧ n ≤ 8) (s1 : st ∉ ns) (s2 : 1 ≤ st) (s3 : st ≤ 8) (q : ∀ H', Z.Fx H' L → Q (.bl true) H') : sp__law_pictures K cS cW [.ref l, .ref x, .ref cp, .int st] H Q E :=
  ⟨_, _, _, _, rfl, L, l, hc, x, cp, vs, crs, ns, lap, r, st, F, rfl, hm, rfl, si, rfl, mc, al, hw, h8, h48, hns, rfl, s1, s2, s3, q⟩
theorem sc_law : FnScope ["_law_script", "_law_hand_here", "_law_bricks_here", "_law_stock", "_law_courses", "_law_turn", "_law_strangers", "_law_stranger", "_law_brick"] ["_law_script"] (defScope s_law) := ⟨rfl, rfl, rfl, by decide +kernel, rfl, by decide +kernel, by decide +kernel⟩
theorem stranger_is {ns : List Int} (h4 : ns.length ≤ 4) : ∃ b, 1 ≤ b ∧ b ≤ 5 ∧ b ∉ ns := by
  refine Classical.byContradiction fun hno => ?_
  have hin : ∀ b, 1 ≤ b → b ≤ 5 → b ∈ ns := fun b h1 h5 => Classical.byContradiction fun h => hno ⟨b, h1, h5, h⟩
  have a1 := hin 1 (by decide) (by decide)
  have a2 := hin 2 (by decide) (by decide)
  have a3 := hin 3 (by decide) (by decide)
  have a4 := hin 4 (by decide) (by decide)
  have a5 := hin 5 (by decide) (by decide)
  rcases ns with _ | ⟨a, _ | ⟨b, _ | ⟨c, _ | ⟨d, _ | ⟨e, r⟩⟩⟩⟩⟩
  · simp at a1
  · simp at a1 a2 <;> omega
  · simp at a1 a2 a3 <;> omega
  · simp at a1 a2 a3 a4 <;> omega
  · simp at a1 a2 a3 a4 a5 <;> omega
  · simp at h4
theorem sum_rev (l : List Int) : l.reverse.sum = l.sum := by
  induction l with
  | nil => rfl
  | cons a r ih => rw [List.reverse_cons, List.sum_append, ih, List.sum_cons, List.sum_cons]; show _ + (a + 0) = _; omega
/-- courses of one length -/
def Crs (ns cs : List Int) (L : List Z.En) (vs : List V) (crs : List (List Int)) : Prop := Z.Al2 (TupOf L) vs crs ∧ crs[0]? = some cs ∧ ∀ c ∈ crs, c ≠ [] ∧ (∀ b ∈ c, b ∈ ns) ∧ c.sum = cs.sum
theorem Crs.snoc {ns cs c : List Int} {L : List Z.En} {vs : List V} {crs : List (List Int)} {t : Addr} (h : Crs ns cs L vs crs) (hn : c ≠ []) (hi : ∀ b ∈ c, b ∈ ns) (hs : c.sum = cs.sum) : Crs ns cs (.ob t (.tup (c.map V.int)) :: L) (vs ++ [.ref t]) (crs ++ [c]) := by
  obtain ⟨al, h0, hc⟩ := h
  refine ⟨(al.mono fun _ _ h => h.mono fun e m => .tail _ m).snoc ⟨t, rfl, List.mem_cons_self⟩, ?_, fun d hd => ?_⟩
  · rw [List.getElem?_append_left (List.getElem?_eq_some_iff.mp h0).1]; exact h0
  · rcases List.mem_append.mp hd with h | h
    · exact hc d h
    · cases List.mem_singleton.mp h; exact ⟨hn, hi, hs⟩
theorem Crs.le {ns cs : List Int} {L L' : List Z.En} {vs : List V} {crs : List (List Int)} (h : Crs ns cs L vs crs) (s : ∀ e ∈ L, e ∈ L') : Crs ns cs L' vs crs := ⟨h.1.mono fun _ _ t => t.mono fun e m => s e m, h.2⟩
theorem len_sum1 {cs : List Int} (h : ∀ c ∈ cs, 1 ≤ c) : (cs.length : Int) ≤ cs.sum := len_le_sumJ h
def sp_law (K : PySem.W.Frag) : Sp := Z.Sp1 fun a H Q E => ∃ (l : Addr) (ns : List Int), a = .ref l ∧ SqL K H l (ns.map V.int) ∧ ns.length ≤ 63 ∧ ∀ H', Q (.bl true) H'
theorem fn_law (T : Txt K mg c_BadCourse c_BadJoints c_BadLength c_BadStock c_BadText c_BadWall c_Stock c_Wall) {f : Addr} {fd : FuncData} (F : Fun K "law" "law" s_law f fd) : FnOk P w K mg base CX0 12 f fd ["_law_script"] (sp_law K) := by
  have O__law_bricks := ok__law_bricks (P := P) (w := w) (base := base) T
  have O__law_fellow := ok__law_fellow (P := P) (w := w) (base := base) T
  have O__law_hand := ok__law_hand (P := P) (w := w) (base := base) T
  have O__law_pictures := ok__law_pictures (P := P) (w := w) (base := base) T
  have O__law_row := ok__law_row (P := P) (w := w) (base := base) T
  have O__law_take := ok__law_take (P := P) (w := w) (base := base) T
  have O__law_texts := ok__law_texts (P := P) (w := w) (base := base) T
  have O_Stock_3 := ok_Stock___init___3 (P := P) (w := w) (base := base) T
  have O_Stock_k1_reach_lap := ok_Stock___init___k1_reach_lap (P := P) (w := w) (base := base) T
  refine F.ok sc_law (fun vs H Q E h => ?_) (fun cdv A outer s H vs Q E hr h => ?_)
  · obtain ⟨a, rfl, _⟩ := h; rfl
  · obtain ⟨a, rfl, h⟩ := h
    refine ⟨_, (pss_cons (ps_set (i := 1) sc_law.nd rfl (by first | exact Or.inl rfl | exact Or.inr rfl) (Z.pe_callO O__law_hand (by rfl) (hr.mono (by decide)) pass0 (pa_cons (pv 0) pa_nil)))
      (pss_cons (ps_set (i := 2) sc_law.nd rfl (by first | exact Or.inl rfl | exact Or.inr rfl) (Z.pe_callO O__law_bricks (by rfl) (hr.mono (by decide)) pass0 (pa_cons (pv 1) (pa_cons pe_int pa_nil))))
      (pss_cons (ps_set (i := 3) sc_law.nd rfl (by first | exact Or.inl rfl | exact Or.inr rfl) (Z.pe_makeO O_Stock_3 (hr.mono (by decide)) T.g_Stock (by rfl) passL (pa_cons (pv 2) (pa_cons (pe_op Z.zAdd pe_int (Z.pe_callO O__law_take (by rfl) (hr.mono (by decide)) pass0 (pa_cons (pv 1) (pa_cons pe_int pa_nil)))) (pa_cons (pe_op Z.zAdd pe_int (Z.pe_callO O__law_take (by rfl) (hr.mono (by decide)) pass0 (pa_cons (pv 1) (pa_cons pe_int pa_nil)))) pa_nil)))))
      (pss_cons (ps_set (i := 4) sc_law.nd rfl (by first | exact Or.inl rfl | exact Or.inr rfl) (pe_lst (pa_cons (Z.pe_callO O__law_row (by rfl) (hr.mono (by decide)) pass0 (pa_cons (pv 1) (pa_cons (pv 2) (pa_cons (pe_op Z.zAdd pe_int (Z.pe_callO O__law_take (by rfl) (hr.mono (by decide)) pass0 (pa_cons (pv 1) (pa_cons pe_int pa_nil)))) pa_nil)))) pa_nil)))
      (pss_cons (ps_for PassesOwn.never (by rfl) (pi_range1 (by rfl) T.b_range (pa_cons (Z.pe_callO O__law_take (by rfl) (hr.mono (by decide)) pass0 (pa_cons (pv 1) (pa_cons pe_int pa_nil))) pa_nil)) (pg_name (i := 5) sc_law.nd rfl (by first | exact Or.inl rfl | exact Or.inr rfl))
        (pss_one (ps_expr (pe_bm PySem.F.plainAttrs_list PySem.F.slot_list_append PySem.F.type_list_append mt_append (pv 4) (pa_cons (Z.pe_callO O__law_fellow (by rfl) (hr.mono (by decide)) pass0 (pa_cons (pv 1) (pa_cons (pv 2) (pa_cons (pe_ix ix_seq (pv 4) pe_int (fun _ _ => rfl)) pa_nil)))) pa_nil)))))
      (pss_cons (ps_if (pt_cmpR (Z.zEq (Z.hu0 hr)) (Z.pe_callO O__law_take (by rfl) (hr.mono (by decide)) pass0 (pa_cons (pv 1) (pa_cons pe_int pa_nil))) pe_int (nomark _))
        (pss_one (ps_expr (pe_bm PySem.F.plainAttrs_list PySem.F.slot_list_append PySem.F.type_list_append mt_append (pv 4) (pa_cons (Z.pe_tupRevT (by rfl) (by rfl) T.b_tuple (by rfl) T.b_reversed (pe_ix ix_seq (pv 4) (pe_un un_neg pe_int) (fun _ _ => rfl))) pa_nil))))
        pss_nil)
      (pss_cons (by exact (ps_setLc (i := 6) (own := [("_law_brick", 8)]) (g := (gName 8)) (by rfl) sc_law.nd rfl rfl (sw_true rfl rfl rfl (by decide +kernel)) (pi_range2 (by rfl) T.b_range (pa_cons pe_int (pa_cons pe_int pa_nil))) (blkOk_by (own := [("_law_brick", 8)]) (N := ["_law_script", "_law_hand_here", "_law_bricks_here", "_law_stock", "_law_courses", "_law_turn", "_law_strangers", "_law_stranger", "_law_brick"]) (sc := defScope s_law) (by decide +kernel)) (fun _ _ _ _ _ => (by exact (pg_name (i := 8) sc_law.nd rfl (by first | exact Or.inl rfl | exact Or.inr rfl)))) (fun _ _ _ _ _ => (by exact (pts_one (pt_cmpR (show OpR _ _ (rIn K true) from Z.zNotIn) (pv 8) (pv 2) (by rfl))))) (fun _ _ _ _ _ => (by exact (pv 8)))))
      (pss_cons (ps_set (i := 7) sc_law.nd rfl (by first | exact Or.inl rfl | exact Or.inr rfl) (pe_ix ix_seq (pv 6) (Z.pe_callO O__law_take (by rfl) (hr.mono (by decide)) pass0 (pa_cons (pv 1) (pa_cons (pe_callB Z.zLen (by rfl) T.b_len (by decide +kernel) (pa_cons (pv 6) pa_nil)) pa_nil))) (fun _ _ => rfl)))
      (pss_one (ps_ret (pe_andT (Z.pe_callO O__law_texts (by rfl) (hr.mono (by decide)) pass0 (pa_cons (pv 1) (pa_cons (pv 3) (pa_cons (pv 4) (pa_cons (pv 7) pa_nil))))) (pe_one (Z.pe_callO O__law_pictures (by rfl) (hr.mono (by decide)) pass0 (pa_cons (pv 1) (pa_cons (pv 3) (pa_cons (pv 4) (pa_cons (pv 7) pa_nil))))))))))))))))), ?_⟩
    try dsimp only [cxOf, Cx.nox, Cx.wish]
    refine Z.at_start (σ' := [some a, none, none, none, none, none, none, none, none]) rfl ?_
    obtain ⟨l, ns0, rfl, hS, hl, q⟩ := h
    have lb := Z.line_big
    walk_at "z"
    refine ⟨_, rfl, l, ns0, rfl, hS, hl, fun hp cp H1 F1 => ?_⟩
    walk_at "z"
    rename_i pb ns H2 hb F2 lap0 H3 F3 l0 l1 reach0 H4 F4 r0 r1
    obtain ⟨hpw, hn1, hn4, hb8⟩ := hb
    have hg : goodB (some (ns.map V.int)) = true := good_of hn1 hn4 hb8 hpw
    refine use_StockG F4 (.tup List.mem_cons_self) hg ⟨by omega, by omega⟩ ⟨by omega, by omega⟩ fun x L2 H8 sub si F8 => ?_
    have hm2 := sub.subset (.tail _ List.mem_cons_self)
    have mb2 := sub.subset List.mem_cons_self
    walk_at "z"
    rename_i m0 H9 F9 m1 m2
    refine use__law_row F9 hm2 mb2 (by omega) (by omega) (by omega) (by omega) fun t cs H10 hcs hlen F10 => ?_
    have csn : cs ≠ [] := fun e => by rw [e] at hlen; simp at hlen; omega
    have cs6 : cs.length ≤ 6 := by omega
    walk_at "z"
    rename_i pc G1 g1 v0 G2 g2 v1 v2
    refine Z.wForW walk_range (fun i σ H' => ∃ v5 vs crs L', σ = [some (V.ref l), some (V.ref hp), some (V.ref pb), some (V.ref x), some (V.ref pc), v5, none, none, none] ∧ L2.Sublist L' ∧ Z.Fx H' (.ob pc (.lst vs) :: L') ∧ Crs ns cs L' vs crs ∧ crs.length = i + 1) ?_ (fun _ _ _ _ _ => trivial) ?_ ?_
    · exact ⟨_, [V.ref t], [cs], .ob t (.tup (cs.map V.int)) :: L2, rfl, List.sublist_cons_self _ _, g2, ⟨Z.Al2.nil.snoc ⟨t, rfl, List.mem_cons_self⟩, rfl, fun c hc => by cases List.mem_singleton.mp hc; exact ⟨csn, hcs, rfl⟩⟩, rfl⟩
    · rintro i u σ H5 H6 hi ⟨v5, vs, crs, L', rfl, s, F5, hC, hcl⟩ ⟨rfl, rfl⟩
      obtain ⟨vt, hvt, tt, rfl, mtt⟩ := hC.1.getR hC.2.1
      have hat : atI vs 0 = some (V.ref tt) := atI_nat (j := 0) hvt
      have hvl := hC.1.len
      walk_at "z"
      refine use__law_fellow F5 (.tail _ (s.subset hm2)) (.tail _ (s.subset mb2)) (.tail _ mtt) hpw hb8 csn hcs cs6 (by omega) fun t2 ds H7 d1 d2 d3 F7 => ?_
      walk_at "z"
      refine Z.wApp F7 (.tail _ List.mem_cons_self) (.tail .head) (by omega) fun H8 F8 => ?_
      exact ⟨_, vs ++ [.ref t2], crs ++ [ds], .ob t2 (.tup (ds.map V.int)) :: L', rfl, s.cons _, F8.perm (.swap _ _ _), hC.snoc d1 d2 d3, by simp; omega⟩
    rintro σ H5 ⟨v5, vs, crs, L', rfl, s, F5, hC, hcl⟩
    refine Z.wSeq ?_
    refine Z.wMidS (fun σ' H' => ∃ v5 vs crs L', σ' = [some (V.ref l), some (V.ref hp), some (V.ref pb), some (V.ref x), some (V.ref pc), v5, none, none, none] ∧ L2.Sublist L' ∧ Z.Fx H' (.ob pc (.lst vs) :: L') ∧ Crs ns cs L' vs crs ∧ 1 ≤ crs.length ∧ crs.length ≤ 8) (fun N hk => ?_) ?_
    · have hvl := hC.1.len
      have hm5 := s.subset hm2
      have hvn : vs ≠ [] := fun e => by rw [e] at hvl; simp at hvl; omega
      have hvk : vs[vs.length - 1]? = some (vs.getLast hvn) := by
        rw [List.getElem?_eq_getElem (by omega), List.getLast_eq_getElem]
      obtain ⟨ck, hck, tk, etk, mtk⟩ := hC.1.getL hvk
      obtain ⟨x1, x2, x3⟩ := hC.2.2 ck (List.mem_of_getElem? hck)
      have hatl : atI vs (-1) = some (V.ref tk) := by
        rw [← etk]
        have e := List.dropLast_concat_getLast hvn
        generalize vs.getLast hvn = y at *
        rw [← e]
        exact atI_last _ _
      walk_at "z"
      rename_i w0 G3 g3 w1 w2
      refine Z.wIfD (fun h => ?_) (fun h => ?_)
      · walk_at "z"
        rename_i q1 G4 g4
        rw [← List.map_reverse] at g4
        refine Z.wApp g4 (.tail _ List.mem_cons_self) (.tail .head) (by omega) fun G5 g5 => ?_
        exact hk _ _ ⟨_, vs ++ [.ref q1], crs ++ [ck.reverse], .ob q1 (.tup (ck.reverse.map V.int)) :: L', rfl, s.cons _, g5.perm (.swap _ _ _), hC.snoc (by simpa using x1) (fun b hb => x2 b (List.mem_reverse.mp hb)) (by rw [sum_rev]; exact x3), by simp, by simp; omega⟩
      · walk_at "z"
        exact hk _ _ ⟨_, vs, crs, L', rfl, s, g3, hC, by omega, by omega⟩
    clear F5 hC hcl s g2 g1 F10 F9 F8 F4 F3 F2
    rintro _ H6 ⟨v5, vs, crs, L', rfl, s, F6, hC, hc1, hc8⟩
    have hm6 := s.subset hm2
    have mb6 := s.subset mb2
    walk_at "z"
    refine Z.wLcW walk_range F6 (fun i acc L3 => L3 = .ob pc (.lst vs) :: L' ∧ acc = (((List.range i).map (fun j : Nat => (1 : Int) + (j : Int))).filter (fun b => !decide (b ∈ ns))).map V.int) ⟨rfl, rfl⟩ (fun _ _ _ _ _ _ _ => trivial) ?_ ?_
    · rintro i u Ds H23 H24 acc L3 hi ⟨rfl, rfl⟩ F25 ⟨rfl, rfl⟩
      have hlen : (((List.range i).map (fun j : Nat => (1 : Int) + (j : Int))).filter (fun b => !decide (b ∈ ns))).length ≤ 8 := by
        have := List.length_filter_le (fun b => !decide (b ∈ ns)) ((List.range i).map (fun j : Nat => (1 : Int) + (j : Int)))
        rw [List.length_map, List.length_range] at this
        omega
      have er : (List.range (i + 1)).map (fun j : Nat => (1 : Int) + (j : Int)) = (List.range i).map (fun j : Nat => (1 : Int) + (j : Int)) ++ [1 + (i : Int)] := by rw [List.range_succ, List.map_append]; rfl
      walk_at "zw"
      walk_at "z"
      refine ⟨rfl, ?_⟩
      walk_at "z"
      refine Z.wNotInTu (F25.tup (.tail _ (.tail _ mb6))) ?_
      walk_at "z"
      refine Z.wIf (fun hb => ?_) (fun hb => ?_)
      · walk_at "z"
        refine Z.lcPut F25 (by rw [List.length_map]; have := Z.line_big; omega) ⟨rfl, ?_⟩
        rw [er, List.filter_append, List.map_append, List.filter_cons_of_pos (by exact hb)]
        rfl
      · refine ⟨_, _, F25, rfl, ?_⟩
        rw [er, List.filter_append, List.map_append, List.filter_cons_of_neg (by rw [hb]; decide)]
        simp
    rintro Ds acc L3 H23 F25 ⟨rfl, rfl⟩
    obtain ⟨sps, esp⟩ : ∃ sps, sps = (((List.range ((9 : Int) - 1).toNat).map (fun j : Nat => (1 : Int) + (j : Int))).filter (fun b => !decide (b ∈ ns))) := ⟨_, rfl⟩
    rw [← esp] at F25
    have hsp : ∀ b ∈ sps, 1 ≤ b ∧ b ≤ 8 ∧ b ∉ ns := fun b hb => by
      rw [esp] at hb
      obtain ⟨h1, h2⟩ := List.mem_filter.mp hb
      obtain ⟨j, hj, rfl⟩ := List.mem_map.mp h1
      have := List.mem_range.mp hj
      simp only [Bool.not_eq_true', decide_eq_false_iff_not] at h2
      have h8 : ((9 : Int) - 1).toNat = 8 := rfl
      exact ⟨by omega, by omega, h2⟩
    have hspl : sps.length ≤ 8 := by
      have := List.length_filter_le (fun b => !decide (b ∈ ns)) ((List.range ((9 : Int) - 1).toNat).map (fun j : Nat => (1 : Int) + (j : Int)))
      rw [← esp, List.length_map, List.length_range] at this
      exact this
    have hspn : 0 < sps.length := by
      obtain ⟨b, b1, b5, bn⟩ := stranger_is hn4
      have : b ∈ sps := by
        rw [esp]
        refine List.mem_filter.mpr ⟨List.mem_map.mpr ⟨(b - 1).toNat, List.mem_range.mpr (by have h8 : ((9 : Int) - 1).toNat = 8 := rfl; omega), by omega⟩, by simpa using bn⟩
      exact List.length_pos_of_mem this
    clear esp
    walk_at "z"
    rename_i w0 H7 F7 w1 w2
    have hst := hsp _ (List.mem_of_getElem? (Z.get_getD (ns := sps) (k := w0.toNat) (by omega)))
    generalize sps.getD w0.toNat 0 = st at *
    have hc0 : crs.getD 0 [] = cs := by rw [List.getD_eq_getElem?_getD, hC.2.1]; rfl
    have hs8 := sum_small fun c h => (hb8 c (hcs c h)).2
    have hrow : ∀ c ∈ crs, (∀ b ∈ c, b ∈ ns) ∧ 1 ≤ c.length ∧ c.length ≤ 48 ∧ c.sum ≤ 48 ∧ c.sum = cs.sum := fun c h => by
      obtain ⟨x1, x2, x3⟩ := hC.2.2 c h
      have h1 := len_sum1 fun b hb => (hb8 b (x2 b hb)).1
      have h2 : 1 ≤ c.length := by cases c with | nil => exact absurd rfl x1 | cons a r => simp
      exact ⟨x2, h2, by omega, by omega, x3⟩
    have hWR : WRows ns crs := ⟨hc1, by omega, fun c h => by
      obtain ⟨x1, x2, x3, x4, x5⟩ := hrow c h
      exact ⟨⟨x1, x2, by omega, by omega⟩, by rw [hc0, x5]⟩⟩
    have si7 := si.le (s.trans (show L'.Sublist (.ob Ds (.lst (sps.map V.int)) :: .ob pc (.lst vs) :: L') from .cons _ (.cons _ (.refl _))))
    have al7 := (hC.le (L' := .ob Ds (.lst (sps.map V.int)) :: .ob pc (.lst vs) :: L') fun e m => .tail _ (.tail _ m)).1
    refine use__law_texts F7 (.tail _ (.tail _ hm6)) si7 (.tail _ List.mem_cons_self) al7 hWR hc8 (fun c h => ⟨(hrow c h).2.2.1, (hrow c h).2.2.2.1⟩) hb8 hst.2.2 hst.1 hst.2.1 fun H8 F8 => ?_
    walk_at "z"
    refine use__law_pictures F8 (.tail _ (.tail _ hm6)) si7 (.tail _ List.mem_cons_self) al7 hWR hc8 (fun c h => ⟨(hrow c h).2.2.1, (hrow c h).2.2.2.1⟩) hb8 hst.2.2 hst.1 hst.2.1 fun H9 F9 => ?_
    exact q _
theorem ok_law (T : Txt K mg c_BadCourse c_BadJoints c_BadLength c_BadStock c_BadText c_BadWall c_Stock c_Wall) : Z.Ok CX0 P w K mg base "law" 12 ["_law_script"] [] (sp_law K) := by
  obtain ⟨f, fd, F, g⟩ := T.d_law
  exact Z.mkOk F g (F.binds (ps := ["_law_script"]) fun _ _ _ _ _ _ us hl => match us, hl with | [_], _ => rfl) (fn_law T F)
end
section
open PyProof.Rows
theorem all_facts {l : PySem.W.OpenLaw} {w : World} {K : PySem.W.Frag} {h : Heap} {mg : Str → Option Value} {fa : Addr} (X : K.In h) (G : h.Ns mainGlobals mg)
    (hfa : mg "law" = some (.ref fa))
    {c_BadCourse N_BadCourse c_BadJoints N_BadJoints c_BadLength N_BadLength c_BadStock N_BadStock c_BadText N_BadText c_BadWall N_BadWall c_Stock c_Wall f0 f1 f2 f3 f4 f5 f6 f7 f8 f9 f10 f11 f12 f13 f14 f15 f16 f17 f18 f19 f20 f21 f22 f23 f24 f25 f26 f27 f28 f29 f30 f31 f32 f33 f34 f35 f36 f37 f38 f39 f40 f41 f42 f43 f44 f45 f46 f47 f48 f49 f50 f51 f52 : Addr} {od0 an0 od1 an1 od2 an2 od3 an3 od4 an4 od5 an5 od6 an6 od7 an7 od8 an8 od9 an9 od10 an10 od11 an11 od12 an12 od13 an13 od14 an14 od15 an15 od16 an16 od17 an17 od18 an18 od19 an19 od20 an20 od21 an21 od22 an22 od23 an23 od24 an24 od25 an25 od26 an26 od27 an27 od28 an28 od29 an29 od30 an30 od31 an31 od32 an32 od33 an33 od34 an34 od35 an35 od36 an36 od37 an37 od38 an38 od39 an39 od40 an40 od41 an41 od42 an42 od43 an43 od44 an44 od45 an45 od46 an46 od47 an47 od48 an48 od49 an49 od50 an50 od51 an51 od52 an52 : Option Addr} {sl0 sl1 sl2 sl3 sl4 sl5 sl6 sl7 sl8 sl9 sl10 sl11 sl12 sl13 sl14 sl15 sl16 sl17 sl18 sl19 sl20 sl21 sl22 sl23 sl24 sl25 sl26 sl27 sl28 sl29 sl30 sl31 sl32 sl33 sl34 sl35 sl36 sl37 sl38 sl39 sl40 sl41 sl42 sl43 sl44 sl45 sl46 sl47 sl48 sl49 sl50 sl51 sl52 : Array (Option Value)}
    {oc0 kV0 dc0 pm0 cd0 ct0 oc1 kV1 dc1 pm1 cd1 ct1 oc2 kV2 dc2 pm2 cd2 ct2 oc3 kV3 dc3 pm3 cd3 ct3 oc4 kV4 dc4 pm4 cd4 ct4 oc5 kV5 dc5 pm5 cd5 ct5 oc6 kV6 dc6 pm6 cd6 ct6 oc7 kV7 dc7 pm7 cd7 ct7 oc8 kV8 dc8 pm8 cd8 ct8 oc9 kV9 dc9 pm9 cd9 ct9 oc10 kV10 dc10 pm10 cd10 ct10 dV10 oc11 kV11 dc11 pm11 cd11 ct11 oc12 kV12 dc12 pm12 cd12 ct12 dV12 oc13 kV13 dc13 pm13 cd13 ct13 oc14 kV14 dc14 pm14 cd14 ct14 oc15 kV15 dc15 pm15 cd15 ct15 oc16 kV16 dc16 pm16 cd16 ct16 oc17 kV17 dc17 pm17 cd17 ct17 dV17 oc18 kV18 dc18 pm18 cd18 ct18 oc19 kV19 dc19 pm19 cd19 ct19 dV19 oc20 kV20 dc20 pm20 cd20 ct20 oc21 kV21 dc21 pm21 cd21 ct21 oc22 kV22 dc22 pm22 cd22 ct22 oc23 kV23 dc23 pm23 cd23 ct23 oc24 kV24 dc24 pm24 cd24 ct24 oc25 kV25 dc25 pm25 cd25 ct25 oc26 kV26 dc26 pm26 cd26 ct26 oc27 kV27 dc27 pm27 cd27 ct27 oc28 kV28 dc28 pm28 cd28 ct28 oc29 kV29 dc29 pm29 cd29 ct29 oc30 kV30 dc30 pm30 cd30 ct30 oc31 kV31 dc31 pm31 cd31 ct31 oc32 kV32 dc32 pm32 cd32 ct32 oc33 kV33 dc33 pm33 cd33 ct33 oc34 kV34 dc34 pm34 cd34 ct34 oc35 kV35 dc35 pm35 cd35 ct35 oc36 kV36 dc36 pm36 cd36 ct36 oc37 kV37 dc37 pm37 cd37 ct37 oc38 kV38 dc38 pm38 cd38 ct38 oc39 kV39 dc39 pm39 cd39 ct39 oc40 kV40 dc40 pm40 cd40 ct40 dV40 oc41 kV41 dc41 pm41 cd41 ct41 oc42 kV42 dc42 pm42 cd42 ct42 oc43 kV43 dc43 pm43 cd43 ct43 oc44 kV44 dc44 pm44 cd44 ct44 oc45 kV45 dc45 pm45 cd45 ct45 oc46 kV46 dc46 pm46 cd46 ct46 oc47 kV47 dc47 pm47 cd47 ct47 oc48 kV48 dc48 pm48 cd48 ct48 oc49 kV49 dc49 pm49 cd49 ct49 oc50 kV50 dc50 pm50 cd50 ct50 oc51 kV51 dc51 pm51 cd51 ct51 oc52 kV52 dc52 pm52 cd52 ct52 : Value}
    {nm_BadCourse : Str} {qq_BadCourse : Str} {bs_BadCourse : List Value} {bm_BadCourse : List Value} {sn_BadCourse : List Str} {sub_BadCourse : List Value} {ab_BadCourse : Bool} {col_BadCourse : Option Bool} {dd_BadCourse : Option Addr} {m0_BadCourse : Option Value} {m1_BadCourse : Option Value} {m2_BadCourse : Option Value} {m3_BadCourse : Option Value} {m5_BadCourse : Option Value} {nm_BadJoints : Str} {qq_BadJoints : Str} {bs_BadJoints : List Value} {bm_BadJoints : List Value} {sn_BadJoints : List Str} {sub_BadJoints : List Value} {ab_BadJoints : Bool} {col_BadJoints : Option Bool} {dd_BadJoints : Option Addr} {m0_BadJoints : Option Value} {m1_BadJoints : Option Value} {m2_BadJoints : Option Value} {m3_BadJoints : Option Value} {m5_BadJoints : Option Value} {nm_BadLength : Str} {qq_BadLength : Str} {bs_BadLength : List Value} {bm_BadLength : List Value} {sn_BadLength : List Str} {sub_BadLength : List Value} {ab_BadLength : Bool} {col_BadLength : Option Bool} {dd_BadLength : Option Addr} {m0_BadLength : Option Value} {m1_BadLength : Option Value} {m2_BadLength : Option Value} {m3_BadLength : Option Value} {m5_BadLength : Option Value} {nm_BadStock : Str} {qq_BadStock : Str} {bs_BadStock : List Value} {bm_BadStock : List Value} {sn_BadStock : List Str} {sub_BadStock : List Value} {ab_BadStock : Bool} {col_BadStock : Option Bool} {dd_BadStock : Option Addr} {m0_BadStock : Option Value} {m1_BadStock : Option Value} {m2_BadStock : Option Value} {m3_BadStock : Option Value} {m5_BadStock : Option Value} {nm_BadText : Str} {qq_BadText : Str} {bs_BadText : List Value} {bm_BadText : List Value} {sn_BadText : List Str} {sub_BadText : List Value} {ab_BadText : Bool} {col_BadText : Option Bool} {dd_BadText : Option Addr} {m0_BadText : Option Value} {m1_BadText : Option Value} {m2_BadText : Option Value} {m3_BadText : Option Value} {m5_BadText : Option Value} {nm_BadWall : Str} {qq_BadWall : Str} {bs_BadWall : List Value} {bm_BadWall : List Value} {sn_BadWall : List Str} {sub_BadWall : List Value} {ab_BadWall : Bool} {col_BadWall : Option Bool} {dd_BadWall : Option Addr} {m0_BadWall : Option Value} {m1_BadWall : Option Value} {m2_BadWall : Option Value} {m3_BadWall : Option Value} {m5_BadWall : Option Value}
    (g_BadCourse : PySem.W.nsIn K mainGlobals "BadCourse" = some (some (.ref c_BadCourse)))
    (xL_BadCourse : K.lookup c_BadCourse = some (excClassObj nm_BadCourse qq_BadCourse c_BadCourse N_BadCourse bs_BadCourse bm_BadCourse true sn_BadCourse sub_BadCourse ab_BadCourse col_BadCourse dd_BadCourse m0_BadCourse m1_BadCourse m2_BadCourse m3_BadCourse m5_BadCourse "ValueError.__new__"))
    (rv_BadCourse : PySem.HandSPX.refsVE bm_BadCourse = true)
    (sa_BadCourse : PySem.W.findIn K (.ref c_BadCourse) "__setattr__" = some (some (.builtin "object.__setattr__")))
    (ex_BadCourse : PySem.W.subIn K (.ref c_BadCourse) (.type "BaseException") = some true)
    (ty_BadCourse : PySem.W.typeIn K (.ref c_BadCourse) = some (.type "type"))
    (kc_BadCourse : PySem.W.keepIn K (.ref c_BadCourse) = true)
    (ga_BadCourse : PySem.W.findIn K (.ref c_BadCourse) "__getattribute__" = some (some (.builtin "BaseException.__getattribute__")))
    (gg_BadCourse : PySem.W.findIn K (.ref c_BadCourse) "__getattr__" = some none)
    (hd_BadCourse : PySem.W.hasDictIn K c_BadCourse = true)
    (ic_BadCourse : PySem.W.isClsIn K c_BadCourse = true)
    (ss_BadCourse : PySem.W.subIn K (.ref c_BadCourse) (.ref c_BadCourse) = some true)
    (n_BadCourse_index : PySem.W.findIn K (.ref c_BadCourse) "index" = some none)
    (n_BadCourse_what : PySem.W.findIn K (.ref c_BadCourse) "what" = some none)
    (g_BadJoints : PySem.W.nsIn K mainGlobals "BadJoints" = some (some (.ref c_BadJoints)))
    (xL_BadJoints : K.lookup c_BadJoints = some (excClassObj nm_BadJoints qq_BadJoints c_BadJoints N_BadJoints bs_BadJoints bm_BadJoints true sn_BadJoints sub_BadJoints ab_BadJoints col_BadJoints dd_BadJoints m0_BadJoints m1_BadJoints m2_BadJoints m3_BadJoints m5_BadJoints "ValueError.__new__"))
    (rv_BadJoints : PySem.HandSPX.refsVE bm_BadJoints = true)
    (sa_BadJoints : PySem.W.findIn K (.ref c_BadJoints) "__setattr__" = some (some (.builtin "object.__setattr__")))
    (ex_BadJoints : PySem.W.subIn K (.ref c_BadJoints) (.type "BaseException") = some true)
    (ty_BadJoints : PySem.W.typeIn K (.ref c_BadJoints) = some (.type "type"))
    (kc_BadJoints : PySem.W.keepIn K (.ref c_BadJoints) = true)
    (ga_BadJoints : PySem.W.findIn K (.ref c_BadJoints) "__getattribute__" = some (some (.builtin "BaseException.__getattribute__")))
    (gg_BadJoints : PySem.W.findIn K (.ref c_BadJoints) "__getattr__" = some none)
    (hd_BadJoints : PySem.W.hasDictIn K c_BadJoints = true)
    (ic_BadJoints : PySem.W.isClsIn K c_BadJoints = true)
    (ss_BadJoints : PySem.W.subIn K (.ref c_BadJoints) (.ref c_BadJoints) = some true)
    (e0_BadJoints : PySem.W.excIn K c_BadJoints [.type "ValueError", .type "Exception", .type "BaseException", .type "object"] "ValueError.__new__" = true)
    (g_BadLength : PySem.W.nsIn K mainGlobals "BadLength" = some (some (.ref c_BadLength)))
    (xL_BadLength : K.lookup c_BadLength = some (excClassObj nm_BadLength qq_BadLength c_BadLength N_BadLength bs_BadLength bm_BadLength true sn_BadLength sub_BadLength ab_BadLength col_BadLength dd_BadLength m0_BadLength m1_BadLength m2_BadLength m3_BadLength m5_BadLength "ValueError.__new__"))
    (rv_BadLength : PySem.HandSPX.refsVE bm_BadLength = true)
    (sa_BadLength : PySem.W.findIn K (.ref c_BadLength) "__setattr__" = some (some (.builtin "object.__setattr__")))
    (ex_BadLength : PySem.W.subIn K (.ref c_BadLength) (.type "BaseException") = some true)
    (ty_BadLength : PySem.W.typeIn K (.ref c_BadLength) = some (.type "type"))
    (kc_BadLength : PySem.W.keepIn K (.ref c_BadLength) = true)
    (ga_BadLength : PySem.W.findIn K (.ref c_BadLength) "__getattribute__" = some (some (.builtin "BaseException.__getattribute__")))
    (gg_BadLength : PySem.W.findIn K (.ref c_BadLength) "__getattr__" = some none)
    (hd_BadLength : PySem.W.hasDictIn K c_BadLength = true)
    (ic_BadLength : PySem.W.isClsIn K c_BadLength = true)
    (ss_BadLength : PySem.W.subIn K (.ref c_BadLength) (.ref c_BadLength) = some true)
    (e0_BadLength : PySem.W.excIn K c_BadLength [.type "ValueError", .type "Exception", .type "BaseException", .type "object"] "ValueError.__new__" = true)
    (g_BadStock : PySem.W.nsIn K mainGlobals "BadStock" = some (some (.ref c_BadStock)))
    (xL_BadStock : K.lookup c_BadStock = some (excClassObj nm_BadStock qq_BadStock c_BadStock N_BadStock bs_BadStock bm_BadStock true sn_BadStock sub_BadStock ab_BadStock col_BadStock dd_BadStock m0_BadStock m1_BadStock m2_BadStock m3_BadStock m5_BadStock "ValueError.__new__"))
    (rv_BadStock : PySem.HandSPX.refsVE bm_BadStock = true)
    (sa_BadStock : PySem.W.findIn K (.ref c_BadStock) "__setattr__" = some (some (.builtin "object.__setattr__")))
    (ex_BadStock : PySem.W.subIn K (.ref c_BadStock) (.type "BaseException") = some true)
    (ty_BadStock : PySem.W.typeIn K (.ref c_BadStock) = some (.type "type"))
    (kc_BadStock : PySem.W.keepIn K (.ref c_BadStock) = true)
    (ga_BadStock : PySem.W.findIn K (.ref c_BadStock) "__getattribute__" = some (some (.builtin "BaseException.__getattribute__")))
    (gg_BadStock : PySem.W.findIn K (.ref c_BadStock) "__getattr__" = some none)
    (hd_BadStock : PySem.W.hasDictIn K c_BadStock = true)
    (ic_BadStock : PySem.W.isClsIn K c_BadStock = true)
    (ss_BadStock : PySem.W.subIn K (.ref c_BadStock) (.ref c_BadStock) = some true)
    (n_BadStock_what : PySem.W.findIn K (.ref c_BadStock) "what" = some none)
    (g_BadText : PySem.W.nsIn K mainGlobals "BadText" = some (some (.ref c_BadText)))
    (xL_BadText : K.lookup c_BadText = some (excClassObj nm_BadText qq_BadText c_BadText N_BadText bs_BadText bm_BadText true sn_BadText sub_BadText ab_BadText col_BadText dd_BadText m0_BadText m1_BadText m2_BadText m3_BadText m5_BadText "ValueError.__new__"))
    (rv_BadText : PySem.HandSPX.refsVE bm_BadText = true)
    (sa_BadText : PySem.W.findIn K (.ref c_BadText) "__setattr__" = some (some (.builtin "object.__setattr__")))
    (ex_BadText : PySem.W.subIn K (.ref c_BadText) (.type "BaseException") = some true)
    (ty_BadText : PySem.W.typeIn K (.ref c_BadText) = some (.type "type"))
    (kc_BadText : PySem.W.keepIn K (.ref c_BadText) = true)
    (ga_BadText : PySem.W.findIn K (.ref c_BadText) "__getattribute__" = some (some (.builtin "BaseException.__getattribute__")))
    (gg_BadText : PySem.W.findIn K (.ref c_BadText) "__getattr__" = some none)
    (hd_BadText : PySem.W.hasDictIn K c_BadText = true)
    (ic_BadText : PySem.W.isClsIn K c_BadText = true)
    (ss_BadText : PySem.W.subIn K (.ref c_BadText) (.ref c_BadText) = some true)
    (n_BadText_number : PySem.W.findIn K (.ref c_BadText) "number" = some none)
    (n_BadText_what : PySem.W.findIn K (.ref c_BadText) "what" = some none)
    (g_BadWall : PySem.W.nsIn K mainGlobals "BadWall" = some (some (.ref c_BadWall)))
    (xL_BadWall : K.lookup c_BadWall = some (excClassObj nm_BadWall qq_BadWall c_BadWall N_BadWall bs_BadWall bm_BadWall true sn_BadWall sub_BadWall ab_BadWall col_BadWall dd_BadWall m0_BadWall m1_BadWall m2_BadWall m3_BadWall m5_BadWall "ValueError.__new__"))
    (rv_BadWall : PySem.HandSPX.refsVE bm_BadWall = true)
    (sa_BadWall : PySem.W.findIn K (.ref c_BadWall) "__setattr__" = some (some (.builtin "object.__setattr__")))
    (ex_BadWall : PySem.W.subIn K (.ref c_BadWall) (.type "BaseException") = some true)
    (ty_BadWall : PySem.W.typeIn K (.ref c_BadWall) = some (.type "type"))
    (kc_BadWall : PySem.W.keepIn K (.ref c_BadWall) = true)
    (ga_BadWall : PySem.W.findIn K (.ref c_BadWall) "__getattribute__" = some (some (.builtin "BaseException.__getattribute__")))
    (gg_BadWall : PySem.W.findIn K (.ref c_BadWall) "__getattr__" = some none)
    (hd_BadWall : PySem.W.hasDictIn K c_BadWall = true)
    (ic_BadWall : PySem.W.isClsIn K c_BadWall = true)
    (ss_BadWall : PySem.W.subIn K (.ref c_BadWall) (.ref c_BadWall) = some true)
    (n_BadWall_index : PySem.W.findIn K (.ref c_BadWall) "index" = some none)
    (n_BadWall_what : PySem.W.findIn K (.ref c_BadWall) "what" = some none)
    (g_Stock : PySem.W.nsIn K mainGlobals "Stock" = some (some (.ref c_Stock)))
    (pg_Stock : PySem.W.plainGet K c_Stock Str.empty = true)
    (hd_Stock : PySem.W.hasDictIn K c_Stock = true)
    (po_Stock : PySem.W.plainOver K c_Stock = true)
    (sa_Stock : PySem.W.findIn K (.ref c_Stock) "__setattr__" = some (some (.builtin "object.__setattr__")))
    (ha_Stock : PySem.W.findIn K (.ref c_Stock) "__class__" = some (some (.builtin "object.__class__")))
    (hn_Stock : PySem.W.specialIn K (.builtin "object.__class__") "__get__" = some (some (.builtin "getset_descriptor.__get__")))
    (tk_Stock : PySem.W.takesIn K (.builtin "object.__class__") = some true)
    (hm_Stock : PySem.W.mroIn K c_Stock (.type "object") = some true)
    (me_Stock : PySem.W.kitOne K (.ref c_Stock) (.ref c_Stock) = some true)
    (nt_Stock : PySem.W.kitOne K (.type "tuple") (.ref c_Stock) = some false)
    (nl_Stock : PySem.W.kitOne K (.type "list") (.ref c_Stock) = some false)
    (ns_Stock : PySem.W.kitOne K (.type "str") (.ref c_Stock) = some false)
    (nf_Stock : PySem.W.notFirst K c_Stock (.type "tuple") = true)
    (n_Stock_bricks : PySem.W.findIn K (.ref c_Stock) "bricks" = some none)
    (n_Stock_lap : PySem.W.findIn K (.ref c_Stock) "lap" = some none)
    (n_Stock_reach : PySem.W.findIn K (.ref c_Stock) "reach" = some none)
    (g_Wall : PySem.W.nsIn K mainGlobals "Wall" = some (some (.ref c_Wall)))
    (pg_Wall : PySem.W.plainGet K c_Wall Str.empty = true)
    (hd_Wall : PySem.W.hasDictIn K c_Wall = true)
    (po_Wall : PySem.W.plainOver K c_Wall = true)
    (sa_Wall : PySem.W.findIn K (.ref c_Wall) "__setattr__" = some (some (.builtin "object.__setattr__")))
    (ha_Wall : PySem.W.findIn K (.ref c_Wall) "__class__" = some (some (.builtin "object.__class__")))
    (hn_Wall : PySem.W.specialIn K (.builtin "object.__class__") "__get__" = some (some (.builtin "getset_descriptor.__get__")))
    (tk_Wall : PySem.W.takesIn K (.builtin "object.__class__") = some true)
    (hm_Wall : PySem.W.mroIn K c_Wall (.type "object") = some true)
    (me_Wall : PySem.W.kitOne K (.ref c_Wall) (.ref c_Wall) = some true)
    (nt_Wall : PySem.W.kitOne K (.type "tuple") (.ref c_Wall) = some false)
    (nl_Wall : PySem.W.kitOne K (.type "list") (.ref c_Wall) = some false)
    (ns_Wall : PySem.W.kitOne K (.type "str") (.ref c_Wall) = some false)
    (nf_Wall : PySem.W.notFirst K c_Wall (.type "tuple") = true)
    (n_Wall_stock : PySem.W.findIn K (.ref c_Wall) "stock" = some none)
    (n_Wall_courses : PySem.W.findIn K (.ref c_Wall) "courses" = some none)
    (n_Wall_length : PySem.W.findIn K (.ref c_Wall) "length" = some none)
    (z_all : PySem.W.nsIn K mainGlobals "all" = some none)
    (z_bool : PySem.W.nsIn K mainGlobals "bool" = some none)
    (z_enumerate : PySem.W.nsIn K mainGlobals "enumerate" = some none)
    (z_int : PySem.W.nsIn K mainGlobals "int" = some none)
    (z_isinstance : PySem.W.nsIn K mainGlobals "isinstance" = some none)
    (z_len : PySem.W.nsIn K mainGlobals "len" = some none)
    (z_list : PySem.W.nsIn K mainGlobals "list" = some none)
    (z_max : PySem.W.nsIn K mainGlobals "max" = some none)
    (z_range : PySem.W.nsIn K mainGlobals "range" = some none)
    (z_reversed : PySem.W.nsIn K mainGlobals "reversed" = some none)
    (z_sorted : PySem.W.nsIn K mainGlobals "sorted" = some none)
    (z_str : PySem.W.nsIn K mainGlobals "str" = some none)
    (z_sum : PySem.W.nsIn K mainGlobals "sum" = some none)
    (z_tuple : PySem.W.nsIn K mainGlobals "tuple" = some none)
    (z_zip : PySem.W.nsIn K mainGlobals "zip" = some none)
    (a0 : PySem.W.nsIn K mainGlobals "_law_hand" = some (some (.ref f0)))
    (l0 : K.lookup f0 = some ⟨oc0, od0, .func (PySem.W.fnOf "_law_hand" "_law_hand" (defArgs s__law_hand) (defBody s__law_hand) (defScope s__law_hand) .none kV0 dc0 pm0 an0 cd0 ct0), sl0⟩)
    (c0 : PySem.W.codeIn K cd0 "_law_hand" = true)
    (k0 : PySem.W.keepIn K (.ref f0) = true)
    (a1 : PySem.W.nsIn K mainGlobals "_law_mixed" = some (some (.ref f1)))
    (l1 : K.lookup f1 = some ⟨oc1, od1, .func (PySem.W.fnOf "_law_mixed" "_law_mixed" (defArgs s__law_mixed) (defBody s__law_mixed) (defScope s__law_mixed) .none kV1 dc1 pm1 an1 cd1 ct1), sl1⟩)
    (c1 : PySem.W.codeIn K cd1 "_law_mixed" = true)
    (k1 : PySem.W.keepIn K (.ref f1) = true)
    (a2 : PySem.W.nsIn K mainGlobals "_law_take" = some (some (.ref f2)))
    (l2 : K.lookup f2 = some ⟨oc2, od2, .func (PySem.W.fnOf "_law_take" "_law_take" (defArgs s__law_take) (defBody s__law_take) (defScope s__law_take) .none kV2 dc2 pm2 an2 cd2 ct2), sl2⟩)
    (c2 : PySem.W.codeIn K cd2 "_law_take" = true)
    (k2 : PySem.W.keepIn K (.ref f2) = true)
    (a3 : PySem.W.nsIn K mainGlobals "_law_bricks" = some (some (.ref f3)))
    (l3 : K.lookup f3 = some ⟨oc3, od3, .func (PySem.W.fnOf "_law_bricks" "_law_bricks" (defArgs s__law_bricks) (defBody s__law_bricks) (defScope s__law_bricks) .none kV3 dc3 pm3 an3 cd3 ct3), sl3⟩)
    (c3 : PySem.W.codeIn K cd3 "_law_bricks" = true)
    (k3 : PySem.W.keepIn K (.ref f3) = true)
    (a4 : PySem.W.nsIn K mainGlobals "_law_row" = some (some (.ref f4)))
    (l4 : K.lookup f4 = some ⟨oc4, od4, .func (PySem.W.fnOf "_law_row" "_law_row" (defArgs s__law_row) (defBody s__law_row) (defScope s__law_row) .none kV4 dc4 pm4 an4 cd4 ct4), sl4⟩)
    (c4 : PySem.W.codeIn K cd4 "_law_row" = true)
    (k4 : PySem.W.keepIn K (.ref f4) = true)
    (a5 : PySem.W.nsIn K mainGlobals "_law_counts" = some (some (.ref f5)))
    (l5 : K.lookup f5 = some ⟨oc5, od5, .func (PySem.W.fnOf "_law_counts" "_law_counts" (defArgs s__law_counts) (defBody s__law_counts) (defScope s__law_counts) .none kV5 dc5 pm5 an5 cd5 ct5), sl5⟩)
    (c5 : PySem.W.codeIn K cd5 "_law_counts" = true)
    (k5 : PySem.W.keepIn K (.ref f5) = true)
    (a6 : PySem.W.nsIn K mainGlobals "_law_picked" = some (some (.ref f6)))
    (l6 : K.lookup f6 = some ⟨oc6, od6, .func (PySem.W.fnOf "_law_picked" "_law_picked" (defArgs s__law_picked) (defBody s__law_picked) (defScope s__law_picked) .none kV6 dc6 pm6 an6 cd6 ct6), sl6⟩)
    (c6 : PySem.W.codeIn K cd6 "_law_picked" = true)
    (k6 : PySem.W.keepIn K (.ref f6) = true)
    (a7 : PySem.W.nsIn K mainGlobals "_law_fellow" = some (some (.ref f7)))
    (l7 : K.lookup f7 = some ⟨oc7, od7, .func (PySem.W.fnOf "_law_fellow" "_law_fellow" (defArgs s__law_fellow) (defBody s__law_fellow) (defScope s__law_fellow) .none kV7 dc7 pm7 an7 cd7 ct7), sl7⟩)
    (c7 : PySem.W.codeIn K cd7 "_law_fellow" = true)
    (k7 : PySem.W.keepIn K (.ref f7) = true)
    (a8 : PySem.W.findIn K (.ref c_BadStock) "__init__" = some (some (.ref f8)))
    (l8 : K.lookup f8 = some ⟨oc8, od8, .func (PySem.W.fnOf "__init__" "BadStock.__init__" (defArgs s_BadStock___init__) (defBody s_BadStock___init__) (defScope s_BadStock___init__) .none kV8 dc8 pm8 an8 cd8 ct8), sl8⟩)
    (c8 : PySem.W.codeIn K cd8 "BadStock.__init__" = true)
    (k8 : PySem.W.keepIn K (.ref f8) = true)
    (t8 : PySem.W.typeIn K (.ref f8) = some (.type "function"))
    (a9 : PySem.W.nsIn K mainGlobals "is_sequence" = some (some (.ref f9)))
    (l9 : K.lookup f9 = some ⟨oc9, od9, .func (PySem.W.fnOf "is_sequence" "is_sequence" (defArgs s_is_sequence) (defBody s_is_sequence) (defScope s_is_sequence) .none kV9 dc9 pm9 an9 cd9 ct9), sl9⟩)
    (c9 : PySem.W.codeIn K cd9 "is_sequence" = true)
    (k9 : PySem.W.keepIn K (.ref f9) = true)
    (a10 : PySem.W.nsIn K mainGlobals "is_whole" = some (some (.ref f10)))
    (l10 : K.lookup f10 = some ⟨oc10, od10, .func (PySem.W.fnOf "is_whole" "is_whole" (defArgs s_is_whole) (defBody s_is_whole) (defScope s_is_whole) dV10 kV10 dc10 pm10 an10 cd10 ct10), sl10⟩)
    (c10 : PySem.W.codeIn K cd10 "is_whole" = true)
    (k10 : PySem.W.keepIn K (.ref f10) = true)
    (v10 : He.dflB K dV10 [.non, .non] = true)
    (a11 : PySem.W.nsIn K mainGlobals "_are_bricks" = some (some (.ref f11)))
    (l11 : K.lookup f11 = some ⟨oc11, od11, .func (PySem.W.fnOf "_are_bricks" "_are_bricks" (defArgs s__are_bricks) (defBody s__are_bricks) (defScope s__are_bricks) .none kV11 dc11 pm11 an11 cd11 ct11), sl11⟩)
    (c11 : PySem.W.codeIn K cd11 "_are_bricks" = true)
    (k11 : PySem.W.keepIn K (.ref f11) = true)
    (a12 : PySem.W.findIn K (.ref c_Stock) "__init__" = some (some (.ref f12)))
    (l12 : K.lookup f12 = some ⟨oc12, od12, .func (PySem.W.fnOf "__init__" "Stock.__init__" (defArgs s_Stock___init__) (defBody s_Stock___init__) (defScope s_Stock___init__) dV12 kV12 dc12 pm12 an12 cd12 ct12), sl12⟩)
    (c12 : PySem.W.codeIn K cd12 "Stock.__init__" = true)
    (k12 : PySem.W.keepIn K (.ref f12) = true)
    (v12 : He.dflB K dV12 [.int 1, .int 1] = true)
    (i12 : PySem.W.isFn K (.ref f12) = true)
    (mk_Stock : PySem.W.makesIn K c_Stock = true)
    (kc_Stock : PySem.W.keepIn K (.ref c_Stock) = true)
    (a13 : PySem.W.findIn K (.ref c_Stock) "__eq__" = some (some (.ref f13)))
    (l13 : K.lookup f13 = some ⟨oc13, od13, .func (PySem.W.fnOf "__eq__" "Stock.__eq__" (defArgs s_Stock___eq__) (defBody s_Stock___eq__) (defScope s_Stock___eq__) .none kV13 dc13 pm13 an13 cd13 ct13), sl13⟩)
    (c13 : PySem.W.codeIn K cd13 "Stock.__eq__" = true)
    (k13 : PySem.W.keepIn K (.ref f13) = true)
    (i13 : PySem.W.isFn K (.ref f13) = true)
    (ne_Stock : PySem.W.findIn K (.ref c_Stock) "__ne__" = some (some (.builtin "object.__ne__")))
    (a14 : PySem.W.nsIn K mainGlobals "length_of" = some (some (.ref f14)))
    (l14 : K.lookup f14 = some ⟨oc14, od14, .func (PySem.W.fnOf "length_of" "length_of" (defArgs s_length_of) (defBody s_length_of) (defScope s_length_of) .none kV14 dc14 pm14 an14 cd14 ct14), sl14⟩)
    (c14 : PySem.W.codeIn K cd14 "length_of" = true)
    (k14 : PySem.W.keepIn K (.ref f14) = true)
    (a15 : PySem.W.findIn K (.ref c_BadCourse) "__init__" = some (some (.ref f15)))
    (l15 : K.lookup f15 = some ⟨oc15, od15, .func (PySem.W.fnOf "__init__" "BadCourse.__init__" (defArgs s_BadCourse___init__) (defBody s_BadCourse___init__) (defScope s_BadCourse___init__) .none kV15 dc15 pm15 an15 cd15 ct15), sl15⟩)
    (c15 : PySem.W.codeIn K cd15 "BadCourse.__init__" = true)
    (k15 : PySem.W.keepIn K (.ref f15) = true)
    (t15 : PySem.W.typeIn K (.ref f15) = some (.type "function"))
    (a16 : PySem.W.nsIn K mainGlobals "check_course" = some (some (.ref f16)))
    (l16 : K.lookup f16 = some ⟨oc16, od16, .func (PySem.W.fnOf "check_course" "check_course" (defArgs s_check_course) (defBody s_check_course) (defScope s_check_course) .none kV16 dc16 pm16 an16 cd16 ct16), sl16⟩)
    (c16 : PySem.W.codeIn K cd16 "check_course" = true)
    (k16 : PySem.W.keepIn K (.ref f16) = true)
    (a17 : PySem.W.nsIn K mainGlobals "course_flaw" = some (some (.ref f17)))
    (l17 : K.lookup f17 = some ⟨oc17, od17, .func (PySem.W.fnOf "course_flaw" "course_flaw" (defArgs s_course_flaw) (defBody s_course_flaw) (defScope s_course_flaw) dV17 kV17 dc17 pm17 an17 cd17 ct17), sl17⟩)
    (c17 : PySem.W.codeIn K cd17 "course_flaw" = true)
    (k17 : PySem.W.keepIn K (.ref f17) = true)
    (v17 : He.dflB K dV17 [.non] = true)
    (a18 : PySem.W.findIn K (.ref c_BadWall) "__init__" = some (some (.ref f18)))
    (l18 : K.lookup f18 = some ⟨oc18, od18, .func (PySem.W.fnOf "__init__" "BadWall.__init__" (defArgs s_BadWall___init__) (defBody s_BadWall___init__) (defScope s_BadWall___init__) .none kV18 dc18 pm18 an18 cd18 ct18), sl18⟩)
    (c18 : PySem.W.codeIn K cd18 "BadWall.__init__" = true)
    (k18 : PySem.W.keepIn K (.ref f18) = true)
    (t18 : PySem.W.typeIn K (.ref f18) = some (.type "function"))
    (a19 : PySem.W.nsIn K mainGlobals "course_for" = some (some (.ref f19)))
    (l19 : K.lookup f19 = some ⟨oc19, od19, .func (PySem.W.fnOf "course_for" "course_for" (defArgs s_course_for) (defBody s_course_for) (defScope s_course_for) dV19 kV19 dc19 pm19 an19 cd19 ct19), sl19⟩)
    (c19 : PySem.W.codeIn K cd19 "course_for" = true)
    (k19 : PySem.W.keepIn K (.ref f19) = true)
    (v19 : He.dflB K dV19 [.non] = true)
    (a20 : PySem.W.nsIn K mainGlobals "_checked_courses" = some (some (.ref f20)))
    (l20 : K.lookup f20 = some ⟨oc20, od20, .func (PySem.W.fnOf "_checked_courses" "_checked_courses" (defArgs s__checked_courses) (defBody s__checked_courses) (defScope s__checked_courses) .none kV20 dc20 pm20 an20 cd20 ct20), sl20⟩)
    (c20 : PySem.W.codeIn K cd20 "_checked_courses" = true)
    (k20 : PySem.W.keepIn K (.ref f20) = true)
    (a21 : PySem.W.findIn K (.ref c_Wall) "__init__" = some (some (.ref f21)))
    (l21 : K.lookup f21 = some ⟨oc21, od21, .func (PySem.W.fnOf "__init__" "Wall.__init__" (defArgs s_Wall___init__) (defBody s_Wall___init__) (defScope s_Wall___init__) .none kV21 dc21 pm21 an21 cd21 ct21), sl21⟩)
    (c21 : PySem.W.codeIn K cd21 "Wall.__init__" = true)
    (k21 : PySem.W.keepIn K (.ref f21) = true)
    (i21 : PySem.W.isFn K (.ref f21) = true)
    (mk_Wall : PySem.W.makesIn K c_Wall = true)
    (kc_Wall : PySem.W.keepIn K (.ref c_Wall) = true)
    (a22 : PySem.W.findIn K (.ref c_BadText) "__init__" = some (some (.ref f22)))
    (l22 : K.lookup f22 = some ⟨oc22, od22, .func (PySem.W.fnOf "__init__" "BadText.__init__" (defArgs s_BadText___init__) (defBody s_BadText___init__) (defScope s_BadText___init__) .none kV22 dc22 pm22 an22 cd22 ct22), sl22⟩)
    (c22 : PySem.W.codeIn K cd22 "BadText.__init__" = true)
    (k22 : PySem.W.keepIn K (.ref f22) = true)
    (t22 : PySem.W.typeIn K (.ref f22) = some (.type "function"))
    (a23 : PySem.W.nsIn K mainGlobals "check_text" = some (some (.ref f23)))
    (l23 : K.lookup f23 = some ⟨oc23, od23, .func (PySem.W.fnOf "check_text" "check_text" (defArgs s_check_text) (defBody s_check_text) (defScope s_check_text) .none kV23 dc23 pm23 an23 cd23 ct23), sl23⟩)
    (c23 : PySem.W.codeIn K cd23 "check_text" = true)
    (k23 : PySem.W.keepIn K (.ref f23) = true)
    (a24 : PySem.W.nsIn K mainGlobals "_rows_in" = some (some (.ref f24)))
    (l24 : K.lookup f24 = some ⟨oc24, od24, .func (PySem.W.fnOf "_rows_in" "_rows_in" (defArgs s__rows_in) (defBody s__rows_in) (defScope s__rows_in) .none kV24 dc24 pm24 an24 cd24 ct24), sl24⟩)
    (c24 : PySem.W.codeIn K cd24 "_rows_in" = true)
    (k24 : PySem.W.keepIn K (.ref f24) = true)
    (a25 : PySem.W.nsIn K mainGlobals "_check_like" = some (some (.ref f25)))
    (l25 : K.lookup f25 = some ⟨oc25, od25, .func (PySem.W.fnOf "_check_like" "_check_like" (defArgs s__check_like) (defBody s__check_like) (defScope s__check_like) .none kV25 dc25 pm25 an25 cd25 ct25), sl25⟩)
    (c25 : PySem.W.codeIn K cd25 "_check_like" = true)
    (k25 : PySem.W.keepIn K (.ref f25) = true)
    (a26 : PySem.W.nsIn K mainGlobals "course_told" = some (some (.ref f26)))
    (l26 : K.lookup f26 = some ⟨oc26, od26, .func (PySem.W.fnOf "course_told" "course_told" (defArgs s_course_told) (defBody s_course_told) (defScope s_course_told) .none kV26 dc26 pm26 an26 cd26 ct26), sl26⟩)
    (c26 : PySem.W.codeIn K cd26 "course_told" = true)
    (k26 : PySem.W.keepIn K (.ref f26) = true)
    (a27 : PySem.W.nsIn K mainGlobals "are_figures" = some (some (.ref f27)))
    (l27 : K.lookup f27 = some ⟨oc27, od27, .func (PySem.W.fnOf "are_figures" "are_figures" (defArgs s_are_figures) (defBody s_are_figures) (defScope s_are_figures) .none kV27 dc27 pm27 an27 cd27 ct27), sl27⟩)
    (c27 : PySem.W.codeIn K cd27 "are_figures" = true)
    (k27 : PySem.W.keepIn K (.ref f27) = true)
    (a28 : PySem.W.nsIn K mainGlobals "_is_numeral" = some (some (.ref f28)))
    (l28 : K.lookup f28 = some ⟨oc28, od28, .func (PySem.W.fnOf "_is_numeral" "_is_numeral" (defArgs s__is_numeral) (defBody s__is_numeral) (defScope s__is_numeral) .none kV28 dc28 pm28 an28 cd28 ct28), sl28⟩)
    (c28 : PySem.W.codeIn K cd28 "_is_numeral" = true)
    (k28 : PySem.W.keepIn K (.ref f28) = true)
    (a29 : PySem.W.nsIn K mainGlobals "_numbers_of" = some (some (.ref f29)))
    (l29 : K.lookup f29 = some ⟨oc29, od29, .func (PySem.W.fnOf "_numbers_of" "_numbers_of" (defArgs s__numbers_of) (defBody s__numbers_of) (defScope s__numbers_of) .none kV29 dc29 pm29 an29 cd29 ct29), sl29⟩)
    (c29 : PySem.W.codeIn K cd29 "_numbers_of" = true)
    (k29 : PySem.W.keepIn K (.ref f29) = true)
    (a30 : PySem.W.nsIn K mainGlobals "course_in" = some (some (.ref f30)))
    (l30 : K.lookup f30 = some ⟨oc30, od30, .func (PySem.W.fnOf "course_in" "course_in" (defArgs s_course_in) (defBody s_course_in) (defScope s_course_in) .none kV30 dc30 pm30 an30 cd30 ct30), sl30⟩)
    (c30 : PySem.W.codeIn K cd30 "course_in" = true)
    (k30 : PySem.W.keepIn K (.ref f30) = true)
    (a31 : PySem.W.nsIn K mainGlobals "wall_of" = some (some (.ref f31)))
    (l31 : K.lookup f31 = some ⟨oc31, od31, .func (PySem.W.fnOf "wall_of" "wall_of" (defArgs s_wall_of) (defBody s_wall_of) (defScope s_wall_of) .none kV31 dc31 pm31 an31 cd31 ct31), sl31⟩)
    (c31 : PySem.W.codeIn K cd31 "wall_of" = true)
    (k31 : PySem.W.keepIn K (.ref f31) = true)
    (a32 : PySem.W.nsIn K mainGlobals "_law_read" = some (some (.ref f32)))
    (l32 : K.lookup f32 = some ⟨oc32, od32, .func (PySem.W.fnOf "_law_read" "_law_read" (defArgs s__law_read) (defBody s__law_read) (defScope s__law_read) .none kV32 dc32 pm32 an32 cd32 ct32), sl32⟩)
    (c32 : PySem.W.codeIn K cd32 "_law_read" = true)
    (k32 : PySem.W.keepIn K (.ref f32) = true)
    (a33 : PySem.W.nsIn K mainGlobals "_law_with" = some (some (.ref f33)))
    (l33 : K.lookup f33 = some ⟨oc33, od33, .func (PySem.W.fnOf "_law_with" "_law_with" (defArgs s__law_with) (defBody s__law_with) (defScope s__law_with) .none kV33 dc33 pm33 an33 cd33 ct33), sl33⟩)
    (c33 : PySem.W.codeIn K cd33 "_law_with" = true)
    (k33 : PySem.W.keepIn K (.ref f33) = true)
    (a34 : PySem.W.nsIn K mainGlobals "course_text" = some (some (.ref f34)))
    (l34 : K.lookup f34 = some ⟨oc34, od34, .func (PySem.W.fnOf "course_text" "course_text" (defArgs s_course_text) (defBody s_course_text) (defScope s_course_text) .none kV34 dc34 pm34 an34 cd34 ct34), sl34⟩)
    (c34 : PySem.W.codeIn K cd34 "course_text" = true)
    (k34 : PySem.W.keepIn K (.ref f34) = true)
    (a35 : PySem.W.nsIn K mainGlobals "wall_text" = some (some (.ref f35)))
    (l35 : K.lookup f35 = some ⟨oc35, od35, .func (PySem.W.fnOf "wall_text" "wall_text" (defArgs s_wall_text) (defBody s_wall_text) (defScope s_wall_text) .none kV35 dc35 pm35 an35 cd35 ct35), sl35⟩)
    (c35 : PySem.W.codeIn K cd35 "wall_text" = true)
    (k35 : PySem.W.keepIn K (.ref f35) = true)
    (a36 : PySem.W.findIn K (.ref c_Wall) "__eq__" = some (some (.ref f36)))
    (l36 : K.lookup f36 = some ⟨oc36, od36, .func (PySem.W.fnOf "__eq__" "Wall.__eq__" (defArgs s_Wall___eq__) (defBody s_Wall___eq__) (defScope s_Wall___eq__) .none kV36 dc36 pm36 an36 cd36 ct36), sl36⟩)
    (c36 : PySem.W.codeIn K cd36 "Wall.__eq__" = true)
    (k36 : PySem.W.keepIn K (.ref f36) = true)
    (i36 : PySem.W.isFn K (.ref f36) = true)
    (ne_Wall : PySem.W.findIn K (.ref c_Wall) "__ne__" = some (some (.builtin "object.__ne__")))
    (a37 : PySem.W.findIn K (.ref c_Wall) "__len__" = some (some (.ref f37)))
    (l37 : K.lookup f37 = some ⟨oc37, od37, .func (PySem.W.fnOf "__len__" "Wall.__len__" (defArgs s_Wall___len__) (defBody s_Wall___len__) (defScope s_Wall___len__) .none kV37 dc37 pm37 an37 cd37 ct37), sl37⟩)
    (c37 : PySem.W.codeIn K cd37 "Wall.__len__" = true)
    (k37 : PySem.W.keepIn K (.ref f37) = true)
    (t37 : PySem.W.typeIn K (.ref f37) = some (.type "function"))
    (a38 : PySem.W.nsIn K mainGlobals "_law_texts" = some (some (.ref f38)))
    (l38 : K.lookup f38 = some ⟨oc38, od38, .func (PySem.W.fnOf "_law_texts" "_law_texts" (defArgs s__law_texts) (defBody s__law_texts) (defScope s__law_texts) .none kV38 dc38 pm38 an38 cd38 ct38), sl38⟩)
    (c38 : PySem.W.codeIn K cd38 "_law_texts" = true)
    (k38 : PySem.W.keepIn K (.ref f38) = true)
    (a39 : PySem.W.nsIn K mainGlobals "_are_joints" = some (some (.ref f39)))
    (l39 : K.lookup f39 = some ⟨oc39, od39, .func (PySem.W.fnOf "_are_joints" "_are_joints" (defArgs s__are_joints) (defBody s__are_joints) (defScope s__are_joints) .none kV39 dc39 pm39 an39 cd39 ct39), sl39⟩)
    (c39 : PySem.W.codeIn K cd39 "_are_joints" = true)
    (k39 : PySem.W.keepIn K (.ref f39) = true)
    (a40 : PySem.W.nsIn K mainGlobals "check_length" = some (some (.ref f40)))
    (l40 : K.lookup f40 = some ⟨oc40, od40, .func (PySem.W.fnOf "check_length" "check_length" (defArgs s_check_length) (defBody s_check_length) (defScope s_check_length) dV40 kV40 dc40 pm40 an40 cd40 ct40), sl40⟩)
    (c40 : PySem.W.codeIn K cd40 "check_length" = true)
    (k40 : PySem.W.keepIn K (.ref f40) = true)
    (v40 : He.dflB K dV40 [.int 400] = true)
    (a41 : PySem.W.nsIn K mainGlobals "course_from" = some (some (.ref f41)))
    (l41 : K.lookup f41 = some ⟨oc41, od41, .func (PySem.W.fnOf "course_from" "course_from" (defArgs s_course_from) (defBody s_course_from) (defScope s_course_from) .none kV41 dc41 pm41 an41 cd41 ct41), sl41⟩)
    (c41 : PySem.W.codeIn K cd41 "course_from" = true)
    (k41 : PySem.W.keepIn K (.ref f41) = true)
    (a42 : PySem.W.nsIn K mainGlobals "joints_of" = some (some (.ref f42)))
    (l42 : K.lookup f42 = some ⟨oc42, od42, .func (PySem.W.fnOf "joints_of" "joints_of" (defArgs s_joints_of) (defBody s_joints_of) (defScope s_joints_of) .none kV42 dc42 pm42 an42 cd42 ct42), sl42⟩)
    (c42 : PySem.W.codeIn K cd42 "joints_of" = true)
    (k42 : PySem.W.keepIn K (.ref f42) = true)
    (a43 : PySem.W.nsIn K mainGlobals "_law_sums" = some (some (.ref f43)))
    (l43 : K.lookup f43 = some ⟨oc43, od43, .func (PySem.W.fnOf "_law_sums" "_law_sums" (defArgs s__law_sums) (defBody s__law_sums) (defScope s__law_sums) .none kV43 dc43 pm43 an43 cd43 ct43), sl43⟩)
    (c43 : PySem.W.codeIn K cd43 "_law_sums" = true)
    (k43 : PySem.W.keepIn K (.ref f43) = true)
    (a44 : PySem.W.nsIn K mainGlobals "_law_shown" = some (some (.ref f44)))
    (l44 : K.lookup f44 = some ⟨oc44, od44, .func (PySem.W.fnOf "_law_shown" "_law_shown" (defArgs s__law_shown) (defBody s__law_shown) (defScope s__law_shown) .none kV44 dc44 pm44 an44 cd44 ct44), sl44⟩)
    (c44 : PySem.W.codeIn K cd44 "_law_shown" = true)
    (k44 : PySem.W.keepIn K (.ref f44) = true)
    (a45 : PySem.W.nsIn K mainGlobals "_bricks_seen" = some (some (.ref f45)))
    (l45 : K.lookup f45 = some ⟨oc45, od45, .func (PySem.W.fnOf "_bricks_seen" "_bricks_seen" (defArgs s__bricks_seen) (defBody s__bricks_seen) (defScope s__bricks_seen) .none kV45 dc45 pm45 an45 cd45 ct45), sl45⟩)
    (c45 : PySem.W.codeIn K cd45 "_bricks_seen" = true)
    (k45 : PySem.W.keepIn K (.ref f45) = true)
    (a46 : PySem.W.nsIn K mainGlobals "_course_picture" = some (some (.ref f46)))
    (l46 : K.lookup f46 = some ⟨oc46, od46, .func (PySem.W.fnOf "_course_picture" "_course_picture" (defArgs s__course_picture) (defBody s__course_picture) (defScope s__course_picture) .none kV46 dc46 pm46 an46 cd46 ct46), sl46⟩)
    (c46 : PySem.W.codeIn K cd46 "_course_picture" = true)
    (k46 : PySem.W.keepIn K (.ref f46) = true)
    (a47 : PySem.W.nsIn K mainGlobals "_is_picture" = some (some (.ref f47)))
    (l47 : K.lookup f47 = some ⟨oc47, od47, .func (PySem.W.fnOf "_is_picture" "_is_picture" (defArgs s__is_picture) (defBody s__is_picture) (defScope s__is_picture) .none kV47 dc47 pm47 an47 cd47 ct47), sl47⟩)
    (c47 : PySem.W.codeIn K cd47 "_is_picture" = true)
    (k47 : PySem.W.keepIn K (.ref f47) = true)
    (a48 : PySem.W.nsIn K mainGlobals "wall_picture" = some (some (.ref f48)))
    (l48 : K.lookup f48 = some ⟨oc48, od48, .func (PySem.W.fnOf "wall_picture" "wall_picture" (defArgs s_wall_picture) (defBody s_wall_picture) (defScope s_wall_picture) .none kV48 dc48 pm48 an48 cd48 ct48), sl48⟩)
    (c48 : PySem.W.codeIn K cd48 "wall_picture" = true)
    (k48 : PySem.W.keepIn K (.ref f48) = true)
    (a49 : PySem.W.nsIn K mainGlobals "wall_seen" = some (some (.ref f49)))
    (l49 : K.lookup f49 = some ⟨oc49, od49, .func (PySem.W.fnOf "wall_seen" "wall_seen" (defArgs s_wall_seen) (defBody s_wall_seen) (defScope s_wall_seen) .none kV49 dc49 pm49 an49 cd49 ct49), sl49⟩)
    (c49 : PySem.W.codeIn K cd49 "wall_seen" = true)
    (k49 : PySem.W.keepIn K (.ref f49) = true)
    (a50 : PySem.W.nsIn K mainGlobals "_law_looked" = some (some (.ref f50)))
    (l50 : K.lookup f50 = some ⟨oc50, od50, .func (PySem.W.fnOf "_law_looked" "_law_looked" (defArgs s__law_looked) (defBody s__law_looked) (defScope s__law_looked) .none kV50 dc50 pm50 an50 cd50 ct50), sl50⟩)
    (c50 : PySem.W.codeIn K cd50 "_law_looked" = true)
    (k50 : PySem.W.keepIn K (.ref f50) = true)
    (a51 : PySem.W.nsIn K mainGlobals "_law_pictures" = some (some (.ref f51)))
    (l51 : K.lookup f51 = some ⟨oc51, od51, .func (PySem.W.fnOf "_law_pictures" "_law_pictures" (defArgs s__law_pictures) (defBody s__law_pictures) (defScope s__law_pictures) .none kV51 dc51 pm51 an51 cd51 ct51), sl51⟩)
    (c51 : PySem.W.codeIn K cd51 "_law_pictures" = true)
    (k51 : PySem.W.keepIn K (.ref f51) = true)
    (a52 : PySem.W.nsIn K mainGlobals "law" = some (some (.ref f52)))
    (l52 : K.lookup f52 = some ⟨oc52, od52, .func (PySem.W.fnOf "law" "law" (defArgs s_law) (defBody s_law) (defScope s_law) .none kV52 dc52 pm52 an52 cd52 ct52), sl52⟩)
    (c52 : PySem.W.codeIn K cd52 "law" = true)
    (k52 : PySem.W.keepIn K (.ref f52) = true)
    (q_BadCourse_BadJoints : PySem.W.subIn K (.ref c_BadCourse) (.ref c_BadJoints) = some false)
    (q_BadCourse_BadLength : PySem.W.subIn K (.ref c_BadCourse) (.ref c_BadLength) = some false)
    (q_BadCourse_BadStock : PySem.W.subIn K (.ref c_BadCourse) (.ref c_BadStock) = some false)
    (q_BadCourse_BadText : PySem.W.subIn K (.ref c_BadCourse) (.ref c_BadText) = some false)
    (q_BadCourse_BadWall : PySem.W.subIn K (.ref c_BadCourse) (.ref c_BadWall) = some false)
    (q_BadJoints_BadCourse : PySem.W.subIn K (.ref c_BadJoints) (.ref c_BadCourse) = some false)
    (q_BadJoints_BadLength : PySem.W.subIn K (.ref c_BadJoints) (.ref c_BadLength) = some false)
    (q_BadJoints_BadStock : PySem.W.subIn K (.ref c_BadJoints) (.ref c_BadStock) = some false)
    (q_BadJoints_BadText : PySem.W.subIn K (.ref c_BadJoints) (.ref c_BadText) = some false)
    (q_BadJoints_BadWall : PySem.W.subIn K (.ref c_BadJoints) (.ref c_BadWall) = some false)
    (q_BadLength_BadCourse : PySem.W.subIn K (.ref c_BadLength) (.ref c_BadCourse) = some false)
    (q_BadLength_BadJoints : PySem.W.subIn K (.ref c_BadLength) (.ref c_BadJoints) = some false)
    (q_BadLength_BadStock : PySem.W.subIn K (.ref c_BadLength) (.ref c_BadStock) = some false)
    (q_BadLength_BadText : PySem.W.subIn K (.ref c_BadLength) (.ref c_BadText) = some false)
    (q_BadLength_BadWall : PySem.W.subIn K (.ref c_BadLength) (.ref c_BadWall) = some false)
    (q_BadStock_BadCourse : PySem.W.subIn K (.ref c_BadStock) (.ref c_BadCourse) = some false)
    (q_BadStock_BadJoints : PySem.W.subIn K (.ref c_BadStock) (.ref c_BadJoints) = some false)
    (q_BadStock_BadLength : PySem.W.subIn K (.ref c_BadStock) (.ref c_BadLength) = some false)
    (q_BadStock_BadText : PySem.W.subIn K (.ref c_BadStock) (.ref c_BadText) = some false)
    (q_BadStock_BadWall : PySem.W.subIn K (.ref c_BadStock) (.ref c_BadWall) = some false)
    (q_BadText_BadCourse : PySem.W.subIn K (.ref c_BadText) (.ref c_BadCourse) = some false)
    (q_BadText_BadJoints : PySem.W.subIn K (.ref c_BadText) (.ref c_BadJoints) = some false)
    (q_BadText_BadLength : PySem.W.subIn K (.ref c_BadText) (.ref c_BadLength) = some false)
    (q_BadText_BadStock : PySem.W.subIn K (.ref c_BadText) (.ref c_BadStock) = some false)
    (q_BadText_BadWall : PySem.W.subIn K (.ref c_BadText) (.ref c_BadWall) = some false)
    (q_BadWall_BadCourse : PySem.W.subIn K (.ref c_BadWall) (.ref c_BadCourse) = some false)
    (q_BadWall_BadJoints : PySem.W.subIn K (.ref c_BadWall) (.ref c_BadJoints) = some false)
    (q_BadWall_BadLength : PySem.W.subIn K (.ref c_BadWall) (.ref c_BadLength) = some false)
    (q_BadWall_BadStock : PySem.W.subIn K (.ref c_BadWall) (.ref c_BadStock) = some false)
    (q_BadWall_BadText : PySem.W.subIn K (.ref c_BadWall) (.ref c_BadText) = some false)
    : ∃ fd : FuncData, (∀ (s : Shared) (u : Value), BindsTo s fd ⟨[u], []⟩ [("_law_script", u)]) ∧ ∀ base : Heap, K.In base → base.Ns mainGlobals mg → FnOk l.prog w K mg base CX0 12 fa fd ["_law_script"] (sp_law K) := by
  have e := hfa.symm.trans (PySem.W.mg_of X G a52)
  cases e
  have T : Txt K mg c_BadCourse c_BadJoints c_BadLength c_BadStock c_BadText c_BadWall c_Stock c_Wall :=
    { g_BadCourse := PySem.W.mg_of X G g_BadCourse,
      x_BadCourse := ⟨⟨⟨_, _, _, _, _, _, _, _, _, _, _, _, _, _, _, xL_BadCourse, rv_BadCourse⟩, sa_BadCourse, ex_BadCourse, ty_BadCourse, kc_BadCourse⟩, ⟨ga_BadCourse, gg_BadCourse, ex_BadCourse, hd_BadCourse⟩, Z.exm_of ex_BadCourse ic_BadCourse ty_BadCourse ss_BadCourse⟩,
      q_BadCourse_BadJoints := Z.exm_of ex_BadJoints ic_BadJoints ty_BadJoints q_BadCourse_BadJoints,
      q_BadCourse_BadLength := Z.exm_of ex_BadLength ic_BadLength ty_BadLength q_BadCourse_BadLength,
      q_BadCourse_BadStock := Z.exm_of ex_BadStock ic_BadStock ty_BadStock q_BadCourse_BadStock,
      q_BadCourse_BadText := Z.exm_of ex_BadText ic_BadText ty_BadText q_BadCourse_BadText,
      q_BadCourse_BadWall := Z.exm_of ex_BadWall ic_BadWall ty_BadWall q_BadCourse_BadWall,
      n_BadCourse_index := n_BadCourse_index,
      n_BadCourse_what := n_BadCourse_what,
      g_BadJoints := PySem.W.mg_of X G g_BadJoints,
      x_BadJoints := ⟨⟨⟨_, _, _, _, _, _, _, _, _, _, _, _, _, _, _, xL_BadJoints, rv_BadJoints⟩, sa_BadJoints, ex_BadJoints, ty_BadJoints, kc_BadJoints⟩, ⟨ga_BadJoints, gg_BadJoints, ex_BadJoints, hd_BadJoints⟩, Z.exm_of ex_BadJoints ic_BadJoints ty_BadJoints ss_BadJoints⟩,
      y_BadJoints := ⟨e0_BadJoints, kc_BadJoints, ex_BadJoints, ty_BadJoints⟩,
      q_BadJoints_BadCourse := Z.exm_of ex_BadCourse ic_BadCourse ty_BadCourse q_BadJoints_BadCourse,
      q_BadJoints_BadLength := Z.exm_of ex_BadLength ic_BadLength ty_BadLength q_BadJoints_BadLength,
      q_BadJoints_BadStock := Z.exm_of ex_BadStock ic_BadStock ty_BadStock q_BadJoints_BadStock,
      q_BadJoints_BadText := Z.exm_of ex_BadText ic_BadText ty_BadText q_BadJoints_BadText,
      q_BadJoints_BadWall := Z.exm_of ex_BadWall ic_BadWall ty_BadWall q_BadJoints_BadWall,
      g_BadLength := PySem.W.mg_of X G g_BadLength,
      x_BadLength := ⟨⟨⟨_, _, _, _, _, _, _, _, _, _, _, _, _, _, _, xL_BadLength, rv_BadLength⟩, sa_BadLength, ex_BadLength, ty_BadLength, kc_BadLength⟩, ⟨ga_BadLength, gg_BadLength, ex_BadLength, hd_BadLength⟩, Z.exm_of ex_BadLength ic_BadLength ty_BadLength ss_BadLength⟩,
      y_BadLength := ⟨e0_BadLength, kc_BadLength, ex_BadLength, ty_BadLength⟩,
      q_BadLength_BadCourse := Z.exm_of ex_BadCourse ic_BadCourse ty_BadCourse q_BadLength_BadCourse,
      q_BadLength_BadJoints := Z.exm_of ex_BadJoints ic_BadJoints ty_BadJoints q_BadLength_BadJoints,
      q_BadLength_BadStock := Z.exm_of ex_BadStock ic_BadStock ty_BadStock q_BadLength_BadStock,
      q_BadLength_BadText := Z.exm_of ex_BadText ic_BadText ty_BadText q_BadLength_BadText,
      q_BadLength_BadWall := Z.exm_of ex_BadWall ic_BadWall ty_BadWall q_BadLength_BadWall,
      g_BadStock := PySem.W.mg_of X G g_BadStock,
      x_BadStock := ⟨⟨⟨_, _, _, _, _, _, _, _, _, _, _, _, _, _, _, xL_BadStock, rv_BadStock⟩, sa_BadStock, ex_BadStock, ty_BadStock, kc_BadStock⟩, ⟨ga_BadStock, gg_BadStock, ex_BadStock, hd_BadStock⟩, Z.exm_of ex_BadStock ic_BadStock ty_BadStock ss_BadStock⟩,
      q_BadStock_BadCourse := Z.exm_of ex_BadCourse ic_BadCourse ty_BadCourse q_BadStock_BadCourse,
      q_BadStock_BadJoints := Z.exm_of ex_BadJoints ic_BadJoints ty_BadJoints q_BadStock_BadJoints,
      q_BadStock_BadLength := Z.exm_of ex_BadLength ic_BadLength ty_BadLength q_BadStock_BadLength,
      q_BadStock_BadText := Z.exm_of ex_BadText ic_BadText ty_BadText q_BadStock_BadText,
      q_BadStock_BadWall := Z.exm_of ex_BadWall ic_BadWall ty_BadWall q_BadStock_BadWall,
      n_BadStock_what := n_BadStock_what,
      g_BadText := PySem.W.mg_of X G g_BadText,
      x_BadText := ⟨⟨⟨_, _, _, _, _, _, _, _, _, _, _, _, _, _, _, xL_BadText, rv_BadText⟩, sa_BadText, ex_BadText, ty_BadText, kc_BadText⟩, ⟨ga_BadText, gg_BadText, ex_BadText, hd_BadText⟩, Z.exm_of ex_BadText ic_BadText ty_BadText ss_BadText⟩,
      q_BadText_BadCourse := Z.exm_of ex_BadCourse ic_BadCourse ty_BadCourse q_BadText_BadCourse,
      q_BadText_BadJoints := Z.exm_of ex_BadJoints ic_BadJoints ty_BadJoints q_BadText_BadJoints,
      q_BadText_BadLength := Z.exm_of ex_BadLength ic_BadLength ty_BadLength q_BadText_BadLength,
      q_BadText_BadStock := Z.exm_of ex_BadStock ic_BadStock ty_BadStock q_BadText_BadStock,
      q_BadText_BadWall := Z.exm_of ex_BadWall ic_BadWall ty_BadWall q_BadText_BadWall,
      n_BadText_number := n_BadText_number,
      n_BadText_what := n_BadText_what,
      g_BadWall := PySem.W.mg_of X G g_BadWall,
      x_BadWall := ⟨⟨⟨_, _, _, _, _, _, _, _, _, _, _, _, _, _, _, xL_BadWall, rv_BadWall⟩, sa_BadWall, ex_BadWall, ty_BadWall, kc_BadWall⟩, ⟨ga_BadWall, gg_BadWall, ex_BadWall, hd_BadWall⟩, Z.exm_of ex_BadWall ic_BadWall ty_BadWall ss_BadWall⟩,
      q_BadWall_BadCourse := Z.exm_of ex_BadCourse ic_BadCourse ty_BadCourse q_BadWall_BadCourse,
      q_BadWall_BadJoints := Z.exm_of ex_BadJoints ic_BadJoints ty_BadJoints q_BadWall_BadJoints,
      q_BadWall_BadLength := Z.exm_of ex_BadLength ic_BadLength ty_BadLength q_BadWall_BadLength,
      q_BadWall_BadStock := Z.exm_of ex_BadStock ic_BadStock ty_BadStock q_BadWall_BadStock,
      q_BadWall_BadText := Z.exm_of ex_BadText ic_BadText ty_BadText q_BadWall_BadText,
      n_BadWall_index := n_BadWall_index,
      n_BadWall_what := n_BadWall_what,
      g_Stock := PySem.W.mg_of X G g_Stock,
      i_Stock := ⟨⟨pg_Stock, hd_Stock, po_Stock, sa_Stock⟩, ha_Stock, hn_Stock, tk_Stock, hm_Stock, me_Stock, nt_Stock, nl_Stock, ns_Stock, nf_Stock⟩,
      n_Stock_bricks := n_Stock_bricks,
      n_Stock_lap := n_Stock_lap,
      n_Stock_reach := n_Stock_reach,
      g_Wall := PySem.W.mg_of X G g_Wall,
      i_Wall := ⟨⟨pg_Wall, hd_Wall, po_Wall, sa_Wall⟩, ha_Wall, hn_Wall, tk_Wall, hm_Wall, me_Wall, nt_Wall, nl_Wall, ns_Wall, nf_Wall⟩,
      n_Wall_stock := n_Wall_stock,
      n_Wall_courses := n_Wall_courses,
      n_Wall_length := n_Wall_length,
      b_all := PySem.W.mg_none_of X G z_all,
      b_bool := PySem.W.mg_none_of X G z_bool,
      b_enumerate := PySem.W.mg_none_of X G z_enumerate,
      b_int := PySem.W.mg_none_of X G z_int,
      b_isinstance := PySem.W.mg_none_of X G z_isinstance,
      b_len := PySem.W.mg_none_of X G z_len,
      b_list := PySem.W.mg_none_of X G z_list,
      b_max := PySem.W.mg_none_of X G z_max,
      b_range := PySem.W.mg_none_of X G z_range,
      b_reversed := PySem.W.mg_none_of X G z_reversed,
      b_sorted := PySem.W.mg_none_of X G z_sorted,
      b_str := PySem.W.mg_none_of X G z_str,
      b_sum := PySem.W.mg_none_of X G z_sum,
      b_tuple := PySem.W.mg_none_of X G z_tuple,
      b_zip := PySem.W.mg_none_of X G z_zip,
      d__law_hand := ⟨f0, _, fun_mk (st := s__law_hand) l0 c0 k0, PySem.W.mg_of X G a0⟩,
      d__law_mixed := ⟨f1, _, fun_mk (st := s__law_mixed) l1 c1 k1, PySem.W.mg_of X G a1⟩,
      d__law_take := ⟨f2, _, fun_mk (st := s__law_take) l2 c2 k2, PySem.W.mg_of X G a2⟩,
      d__law_bricks := ⟨f3, _, fun_mk (st := s__law_bricks) l3 c3 k3, PySem.W.mg_of X G a3⟩,
      d__law_row := ⟨f4, _, fun_mk (st := s__law_row) l4 c4 k4, PySem.W.mg_of X G a4⟩,
      d__law_counts := ⟨f5, _, fun_mk (st := s__law_counts) l5 c5 k5, PySem.W.mg_of X G a5⟩,
      d__law_picked := ⟨f6, _, fun_mk (st := s__law_picked) l6 c6 k6, PySem.W.mg_of X G a6⟩,
      d__law_fellow := ⟨f7, _, fun_mk (st := s__law_fellow) l7 c7 k7, PySem.W.mg_of X G a7⟩,
      d_BadStock___init__ := ⟨f8, _, fun_mk (st := s_BadStock___init__) l8 c8 k8, ⟨a8, t8⟩⟩,
      d_is_sequence := ⟨f9, _, fun_mk (st := s_is_sequence) l9 c9 k9, PySem.W.mg_of X G a9⟩,
      d_is_whole := ⟨f10, _, ⟨⟨_, _, _, _, _, _, _, _, _, _, rfl, l10, c10, He.dflB_ok v10, .inl rfl⟩, k10⟩, PySem.W.mg_of X G a10⟩,
      d__are_bricks := ⟨f11, _, fun_mk (st := s__are_bricks) l11 c11 k11, PySem.W.mg_of X G a11⟩,
      d_Stock___init__ := ⟨f12, _, ⟨⟨_, _, _, _, _, _, _, _, _, _, rfl, l12, c12, He.dflB_ok v12, .inl rfl⟩, k12⟩, ⟨mk_Stock, a12, i12, kc_Stock⟩⟩,
      d_Stock___eq__ := ⟨f13, _, fun_mk (st := s_Stock___eq__) l13 c13 k13, ⟨a13, ne_Stock, i13, hm_Stock⟩⟩,
      d_length_of := ⟨f14, _, fun_mk (st := s_length_of) l14 c14 k14, PySem.W.mg_of X G a14⟩,
      d_BadCourse___init__ := ⟨f15, _, fun_mk (st := s_BadCourse___init__) l15 c15 k15, ⟨a15, t15⟩⟩,
      d_check_course := ⟨f16, _, fun_mk (st := s_check_course) l16 c16 k16, PySem.W.mg_of X G a16⟩,
      d_course_flaw := ⟨f17, _, ⟨⟨_, _, _, _, _, _, _, _, _, _, rfl, l17, c17, He.dflB_ok v17, .inl rfl⟩, k17⟩, PySem.W.mg_of X G a17⟩,
      d_BadWall___init__ := ⟨f18, _, fun_mk (st := s_BadWall___init__) l18 c18 k18, ⟨a18, t18⟩⟩,
      d_course_for := ⟨f19, _, ⟨⟨_, _, _, _, _, _, _, _, _, _, rfl, l19, c19, He.dflB_ok v19, .inl rfl⟩, k19⟩, PySem.W.mg_of X G a19⟩,
      d__checked_courses := ⟨f20, _, fun_mk (st := s__checked_courses) l20 c20 k20, PySem.W.mg_of X G a20⟩,
      d_Wall___init__ := ⟨f21, _, fun_mk (st := s_Wall___init__) l21 c21 k21, ⟨mk_Wall, a21, i21, kc_Wall⟩⟩,
      d_BadText___init__ := ⟨f22, _, fun_mk (st := s_BadText___init__) l22 c22 k22, ⟨a22, t22⟩⟩,
      d_check_text := ⟨f23, _, fun_mk (st := s_check_text) l23 c23 k23, PySem.W.mg_of X G a23⟩,
      d__rows_in := ⟨f24, _, fun_mk (st := s__rows_in) l24 c24 k24, PySem.W.mg_of X G a24⟩,
      d__check_like := ⟨f25, _, fun_mk (st := s__check_like) l25 c25 k25, PySem.W.mg_of X G a25⟩,
      d_course_told := ⟨f26, _, fun_mk (st := s_course_told) l26 c26 k26, PySem.W.mg_of X G a26⟩,
      d_are_figures := ⟨f27, _, fun_mk (st := s_are_figures) l27 c27 k27, PySem.W.mg_of X G a27⟩,
      d__is_numeral := ⟨f28, _, fun_mk (st := s__is_numeral) l28 c28 k28, PySem.W.mg_of X G a28⟩,
      d__numbers_of := ⟨f29, _, fun_mk (st := s__numbers_of) l29 c29 k29, PySem.W.mg_of X G a29⟩,
      d_course_in := ⟨f30, _, fun_mk (st := s_course_in) l30 c30 k30, PySem.W.mg_of X G a30⟩,
      d_wall_of := ⟨f31, _, fun_mk (st := s_wall_of) l31 c31 k31, PySem.W.mg_of X G a31⟩,
      d__law_read := ⟨f32, _, fun_mk (st := s__law_read) l32 c32 k32, PySem.W.mg_of X G a32⟩,
      d__law_with := ⟨f33, _, fun_mk (st := s__law_with) l33 c33 k33, PySem.W.mg_of X G a33⟩,
      d_course_text := ⟨f34, _, fun_mk (st := s_course_text) l34 c34 k34, PySem.W.mg_of X G a34⟩,
      d_wall_text := ⟨f35, _, fun_mk (st := s_wall_text) l35 c35 k35, PySem.W.mg_of X G a35⟩,
      d_Wall___eq__ := ⟨f36, _, fun_mk (st := s_Wall___eq__) l36 c36 k36, ⟨a36, ne_Wall, i36, hm_Wall⟩⟩,
      d_Wall___len__ := ⟨f37, _, fun_mk (st := s_Wall___len__) l37 c37 k37, ⟨a37, t37⟩⟩,
      d__law_texts := ⟨f38, _, fun_mk (st := s__law_texts) l38 c38 k38, PySem.W.mg_of X G a38⟩,
      d__are_joints := ⟨f39, _, fun_mk (st := s__are_joints) l39 c39 k39, PySem.W.mg_of X G a39⟩,
      d_check_length := ⟨f40, _, ⟨⟨_, _, _, _, _, _, _, _, _, _, rfl, l40, c40, He.dflB_ok v40, .inl rfl⟩, k40⟩, PySem.W.mg_of X G a40⟩,
      d_course_from := ⟨f41, _, fun_mk (st := s_course_from) l41 c41 k41, PySem.W.mg_of X G a41⟩,
      d_joints_of := ⟨f42, _, fun_mk (st := s_joints_of) l42 c42 k42, PySem.W.mg_of X G a42⟩,
      d__law_sums := ⟨f43, _, fun_mk (st := s__law_sums) l43 c43 k43, PySem.W.mg_of X G a43⟩,
      d__law_shown := ⟨f44, _, fun_mk (st := s__law_shown) l44 c44 k44, PySem.W.mg_of X G a44⟩,
      d__bricks_seen := ⟨f45, _, fun_mk (st := s__bricks_seen) l45 c45 k45, PySem.W.mg_of X G a45⟩,
      d__course_picture := ⟨f46, _, fun_mk (st := s__course_picture) l46 c46 k46, PySem.W.mg_of X G a46⟩,
      d__is_picture := ⟨f47, _, fun_mk (st := s__is_picture) l47 c47 k47, PySem.W.mg_of X G a47⟩,
      d_wall_picture := ⟨f48, _, fun_mk (st := s_wall_picture) l48 c48 k48, PySem.W.mg_of X G a48⟩,
      d_wall_seen := ⟨f49, _, fun_mk (st := s_wall_seen) l49 c49 k49, PySem.W.mg_of X G a49⟩,
      d__law_looked := ⟨f50, _, fun_mk (st := s__law_looked) l50 c50 k50, PySem.W.mg_of X G a50⟩,
      d__law_pictures := ⟨f51, _, fun_mk (st := s__law_pictures) l51 c51 k51, PySem.W.mg_of X G a51⟩,
      d_law := ⟨fa, _, fun_mk (st := s_law) l52 c52 k52, PySem.W.mg_of X G a52⟩ }
  exact ⟨PySem.W.fnOf "law" "law" (defArgs s_law) (defBody s_law) (defScope s_law) .none kV52 dc52 pm52 an52 cd52 ct52, fun s u => .of_eq rfl, fun base _ _ => fn_law T (fun_mk (st := s_law) l52 c52 k52)⟩
theorem walk {l : PySem.W.OpenLaw} {q : Program} {loose : List Str} {XP : (Str → Option Value) → Heap → Prop} {YP : World → Heap → Prop}
    {d : DefRec} {K : Params → PySem.W.Frag} (hn : l.most = some 63) (hdf : d.params.defaults = [])
    (hY : ∀ (w : World) (h : Heap),
          YP w h → (K w.params).In h)
    (F : ∀ (w : World) (mg : Str → Option Value) (fa : Addr) (h : Heap),
      (K w.params).In h → h.Ns mainGlobals mg → mg d.name = some (.ref fa) →
      ∃ fd : FuncData, (∀ (s : Shared) (u : Value), BindsTo s fd ⟨[u], []⟩ [("_law_script", u)]) ∧
        ∀ base : Heap, (K w.params).In base → base.Ns mainGlobals mg → FnOk l.prog w (K w.params) mg base CX0 12 fa fd ["_law_script"] (sp_law (K w.params))) :
    PySem.W.WalkO q loose XP YP l.row.toRowW
          d [] (fun f vs => PySem.call f vs) :=
  L2.walk_of (n := 63) (k := 12) (x := "_law_script") (CX := fun _ => CX0) (sp := fun w => sp_law (K w.params)) hn (by decide) hdf ⟨rfl, by decide, by decide⟩
    hY F (fun _ _ a ns hl _ hS => ⟨_, rfl, a, ns, rfl, hS, hl, fun _ => rfl⟩) fun _ _ _ _ _ z => z
end
end M
open PySem PySem.W
      PyProof.Rows
set_option
      maxRecDepth 100000 in
set_option maxHeartbeats 0 in
theorem PySem.Challenge.cw_jointsapart_k66_whole_walls_written_seen_holds : PySem.Challenge.rw_jointsapart_k66_whole_walls_written_seen.Holds := by
  w_on; o_law; k_head;
        (case hw => w_witness2)
  k_fill
  refine M.walk (l := PySem.Challenge.rw_jointsapart_k66_whole_walls_written_seen) rfl rfl (fun w h Y => PySem.W.kIn_of Y) ?F
  case F =>
    intro w mg fa h KX G hmg
    refine' M.all_facts (l := PySem.Challenge.rw_jointsapart_k66_whole_walls_written_seen) KX G hmg ?h_g_BadCourse ?h_xL_BadCourse ?h_rv_BadCourse ?h_sa_BadCourse ?h_ex_BadCourse ?h_ty_BadCourse ?h_kc_BadCourse ?h_ga_BadCourse ?h_gg_BadCourse ?h_hd_BadCourse ?h_ic_BadCourse ?h_ss_BadCourse ?h_n_BadCourse_index ?h_n_BadCourse_what ?h_g_BadJoints ?h_xL_BadJoints ?h_rv_BadJoints ?h_sa_BadJoints ?h_ex_BadJoints ?h_ty_BadJoints ?h_kc_BadJoints ?h_ga_BadJoints ?h_gg_BadJoints ?h_hd_BadJoints ?h_ic_BadJoints ?h_ss_BadJoints ?h_e0_BadJoints ?h_g_BadLength ?h_xL_BadLength ?h_rv_BadLength ?h_sa_BadLength ?h_ex_BadLength ?h_ty_BadLength ?h_kc_BadLength ?h_ga_BadLength ?h_gg_BadLength ?h_hd_BadLength ?h_ic_BadLength ?h_ss_BadLength ?h_e0_BadLength ?h_g_BadStock ?h_xL_BadStock ?h_rv_BadStock ?h_sa_BadStock ?h_ex_BadStock ?h_ty_BadStock ?h_kc_BadStock ?h_ga_BadStock ?h_gg_BadStock ?h_hd_BadStock ?h_ic_BadStock ?h_ss_BadStock ?h_n_BadStock_what ?h_g_BadText ?h_xL_BadText ?h_rv_BadText ?h_sa_BadText ?h_ex_BadText ?h_ty_BadText ?h_kc_BadText ?h_ga_BadText ?h_gg_BadText ?h_hd_BadText ?h_ic_BadText ?h_ss_BadText ?h_n_BadText_number ?h_n_BadText_what ?h_g_BadWall ?h_xL_BadWall ?h_rv_BadWall ?h_sa_BadWall ?h_ex_BadWall ?h_ty_BadWall ?h_kc_BadWall ?h_ga_BadWall ?h_gg_BadWall ?h_hd_BadWall ?h_ic_BadWall ?h_ss_BadWall ?h_n_BadWall_index ?h_n_BadWall_what ?h_g_Stock ?h_pg_Stock ?h_hd_Stock ?h_po_Stock ?h_sa_Stock ?h_ha_Stock ?h_hn_Stock ?h_tk_Stock ?h_hm_Stock ?h_me_Stock ?h_nt_Stock ?h_nl_Stock ?h_ns_Stock ?h_nf_Stock ?h_n_Stock_bricks ?h_n_Stock_lap ?h_n_Stock_reach ?h_g_Wall ?h_pg_Wall ?h_hd_Wall ?h_po_Wall ?h_sa_Wall ?h_ha_Wall ?h_hn_Wall ?h_tk_Wall ?h_hm_Wall ?h_me_Wall ?h_nt_Wall ?h_nl_Wall ?h_ns_Wall ?h_nf_Wall ?h_n_Wall_stock ?h_n_Wall_courses ?h_n_Wall_length ?h_z_all ?h_z_bool ?h_z_enumerate ?h_z_int ?h_z_isinstance ?h_z_len ?h_z_list ?h_z_max ?h_z_range ?h_z_reversed ?h_z_sorted ?h_z_str ?h_z_sum ?h_z_tuple ?h_z_zip ?h_a0 ?h_l0 ?h_c0 ?h_k0 ?h_a1 ?h_l1 ?h_c1 ?h_k1 ?h_a2 ?h_l2 ?h_c2 ?h_k2 ?h_a3 ?h_l3 ?h_c3 ?h_k3 ?h_a4 ?h_l4 ?h_c4 ?h_k4 ?h_a5 ?h_l5 ?h_c5 ?h_k5 ?h_a6 ?h_l6 ?h_c6 ?h_k6 ?h_a7 ?h_l7 ?h_c7 ?h_k7 ?h_a8 ?h_l8 ?h_c8 ?h_k8 ?h_t8 ?h_a9 ?h_l9 ?h_c9 ?h_k9 ?h_a10 ?h_l10 ?h_c10 ?h_k10 ?h_v10 ?h_a11 ?h_l11 ?h_c11 ?h_k11 ?h_a12 ?h_l12 ?h_c12 ?h_k12 ?h_v12 ?h_i12 ?h_mk_Stock ?h_kc_Stock ?h_a13 ?h_l13 ?h_c13 ?h_k13 ?h_i13 ?h_ne_Stock ?h_a14 ?h_l14 ?h_c14 ?h_k14 ?h_a15 ?h_l15 ?h_c15 ?h_k15 ?h_t15 ?h_a16 ?h_l16 ?h_c16 ?h_k16 ?h_a17 ?h_l17 ?h_c17 ?h_k17 ?h_v17 ?h_a18 ?h_l18 ?h_c18 ?h_k18 ?h_t18 ?h_a19 ?h_l19 ?h_c19 ?h_k19 ?h_v19 ?h_a20 ?h_l20 ?h_c20 ?h_k20 ?h_a21 ?h_l21 ?h_c21 ?h_k21 ?h_i21 ?h_mk_Wall ?h_kc_Wall ?h_a22 ?h_l22 ?h_c22 ?h_k22 ?h_t22 ?h_a23 ?h_l23 ?h_c23 ?h_k23 ?h_a24 ?h_l24 ?h_c24 ?h_k24 ?h_a25 ?h_l25 ?h_c25 ?h_k25 ?h_a26 ?h_l26 ?h_c26 ?h_k26 ?h_a27 ?h_l27 ?h_c27 ?h_k27 ?h_a28 ?h_l28 ?h_c28 ?h_k28 ?h_a29 ?h_l29 ?h_c29 ?h_k29 ?h_a30 ?h_l30 ?h_c30 ?h_k30 ?h_a31 ?h_l31 ?h_c31 ?h_k31 ?h_a32 ?h_l32 ?h_c32 ?h_k32 ?h_a33 ?h_l33 ?h_c33 ?h_k33 ?h_a34 ?h_l34 ?h_c34 ?h_k34 ?h_a35 ?h_l35 ?h_c35 ?h_k35 ?h_a36 ?h_l36 ?h_c36 ?h_k36 ?h_i36 ?h_ne_Wall ?h_a37 ?h_l37 ?h_c37 ?h_k37 ?h_t37 ?h_a38 ?h_l38 ?h_c38 ?h_k38 ?h_a39 ?h_l39 ?h_c39 ?h_k39 ?h_a40 ?h_l40 ?h_c40 ?h_k40 ?h_v40 ?h_a41 ?h_l41 ?h_c41 ?h_k41 ?h_a42 ?h_l42 ?h_c42 ?h_k42 ?h_a43 ?h_l43 ?h_c43 ?h_k43 ?h_a44 ?h_l44 ?h_c44 ?h_k44 ?h_a45 ?h_l45 ?h_c45 ?h_k45 ?h_a46 ?h_l46 ?h_c46 ?h_k46 ?h_a47 ?h_l47 ?h_c47 ?h_k47 ?h_a48 ?h_l48 ?h_c48 ?h_k48 ?h_a49 ?h_l49 ?h_c49 ?h_k49 ?h_a50 ?h_l50 ?h_c50 ?h_k50 ?h_a51 ?h_l51 ?h_c51 ?h_k51 ?h_a52 ?h_l52 ?h_c52 ?h_k52 ?h_q_BadCourse_BadJoints ?h_q_BadCourse_BadLength ?h_q_BadCourse_BadStock ?h_q_BadCourse_BadText ?h_q_BadCourse_BadWall ?h_q_BadJoints_BadCourse ?h_q_BadJoints_BadLength ?h_q_BadJoints_BadStock ?h_q_BadJoints_BadText ?h_q_BadJoints_BadWall ?h_q_BadLength_BadCourse ?h_q_BadLength_BadJoints ?h_q_BadLength_BadStock ?h_q_BadLength_BadText ?h_q_BadLength_BadWall ?h_q_BadStock_BadCourse ?h_q_BadStock_BadJoints ?h_q_BadStock_BadLength ?h_q_BadStock_BadText ?h_q_BadStock_BadWall ?h_q_BadText_BadCourse ?h_q_BadText_BadJoints ?h_q_BadText_BadLength ?h_q_BadText_BadStock ?h_q_BadText_BadWall ?h_q_BadWall_BadCourse ?h_q_BadWall_BadJoints ?h_q_BadWall_BadLength ?h_q_BadWall_BadStock ?h_q_BadWall_BadText
    case h_g_BadCourse => first | k_is | rfl | decide +kernel
    case h_xL_BadCourse => first | k_is | rfl | decide +kernel
    case h_rv_BadCourse => first | k_is | rfl | decide +kernel
    case h_sa_BadCourse => first | k_is | rfl | decide +kernel
    case h_ex_BadCourse => first | k_is | rfl | decide +kernel
    case h_ty_BadCourse => first | k_is | rfl | decide +kernel
    case h_kc_BadCourse => first | k_is | rfl | decide +kernel
    case h_ga_BadCourse => first | k_is | rfl | decide +kernel
    case h_gg_BadCourse => first | k_is | rfl | decide +kernel
    case h_hd_BadCourse => first | k_is | rfl | decide +kernel
    case h_ic_BadCourse => first | k_is | rfl | decide +kernel
    case h_ss_BadCourse => first | k_is | rfl | decide +kernel
    case h_n_BadCourse_index => first | k_is | rfl | decide +kernel
    case h_n_BadCourse_what => first | k_is | rfl | decide +kernel
    case h_g_BadJoints => first | k_is | rfl | decide +kernel
    case h_xL_BadJoints => first | k_is | rfl | decide +kernel
    case h_rv_BadJoints => first | k_is | rfl | decide +kernel
    case h_sa_BadJoints => first | k_is | rfl | decide +kernel
    case h_ex_BadJoints => first | k_is | rfl | decide +kernel
    case h_ty_BadJoints => first | k_is | rfl | decide +kernel
    case h_kc_BadJoints => first | k_is | rfl | decide +kernel
    case h_ga_BadJoints => first | k_is | rfl | decide +kernel
    case h_gg_BadJoints => first | k_is | rfl | decide +kernel
    case h_hd_BadJoints => first | k_is | rfl | decide +kernel
    case h_ic_BadJoints => first | k_is | rfl | decide +kernel
    case h_ss_BadJoints => first | k_is | rfl | decide +kernel
    case h_e0_BadJoints => k_exc
    case h_g_BadLength => first | k_is | rfl | decide +kernel
    case h_xL_BadLength => first | k_is | rfl | decide +kernel
    case h_rv_BadLength => first | k_is | rfl | decide +kernel
    case h_sa_BadLength => first | k_is | rfl | decide +kernel
    case h_ex_BadLength => first | k_is | rfl | decide +kernel
    case h_ty_BadLength => first | k_is | rfl | decide +kernel
    case h_kc_BadLength => first | k_is | rfl | decide +kernel
    case h_ga_BadLength => first | k_is | rfl | decide +kernel
    case h_gg_BadLength => first | k_is | rfl | decide +kernel
    case h_hd_BadLength => first | k_is | rfl | decide +kernel
    case h_ic_BadLength => first | k_is | rfl | decide +kernel
    case h_ss_BadLength => first | k_is | rfl | decide +kernel
    case h_e0_BadLength => k_exc
    case h_g_BadStock => first | k_is | rfl | decide +kernel
    case h_xL_BadStock => first | k_is | rfl | decide +kernel
    case h_rv_BadStock => first | k_is | rfl | decide +kernel
    case h_sa_BadStock => first | k_is | rfl | decide +kernel
    case h_ex_BadStock => first | k_is | rfl | decide +kernel
    case h_ty_BadStock => first | k_is | rfl | decide +kernel
    case h_kc_BadStock => first | k_is | rfl | decide +kernel
    case h_ga_BadStock => first | k_is | rfl | decide +kernel
    case h_gg_BadStock => first | k_is | rfl | decide +kernel
    case h_hd_BadStock => first | k_is | rfl | decide +kernel
    case h_ic_BadStock => first | k_is | rfl | decide +kernel
    case h_ss_BadStock => first | k_is | rfl | decide +kernel
    case h_n_BadStock_what => first | k_is | rfl | decide +kernel
    case h_g_BadText => first | k_is | rfl | decide +kernel
    case h_xL_BadText => first | k_is | rfl | decide +kernel
    case h_rv_BadText => first | k_is | rfl | decide +kernel
    case h_sa_BadText => first | k_is | rfl | decide +kernel
    case h_ex_BadText => first | k_is | rfl | decide +kernel
    case h_ty_BadText => first | k_is | rfl | decide +kernel
    case h_kc_BadText => first | k_is | rfl | decide +kernel
    case h_ga_BadText => first | k_is | rfl | decide +kernel
    case h_gg_BadText => first | k_is | rfl | decide +kernel
    case h_hd_BadText => first | k_is | rfl | decide +kernel
    case h_ic_BadText => first | k_is | rfl | decide +kernel
    case h_ss_BadText => first | k_is | rfl | decide +kernel
    case h_n_BadText_number => first | k_is | rfl | decide +kernel
    case h_n_BadText_what => first | k_is | rfl | decide +kernel
    case h_g_BadWall => first | k_is | rfl | decide +kernel
    case h_xL_BadWall => first | k_is | rfl | decide +kernel
    case h_rv_BadWall => first | k_is | rfl | decide +kernel
    case h_sa_BadWall => first | k_is | rfl | decide +kernel
    case h_ex_BadWall => first | k_is | rfl | decide +kernel
    case h_ty_BadWall => first | k_is | rfl | decide +kernel
    case h_kc_BadWall => first | k_is | rfl | decide +kernel
    case h_ga_BadWall => first | k_is | rfl | decide +kernel
    case h_gg_BadWall => first | k_is | rfl | decide +kernel
    case h_hd_BadWall => first | k_is | rfl | decide +kernel
    case h_ic_BadWall => first | k_is | rfl | decide +kernel
    case h_ss_BadWall => first | k_is | rfl | decide +kernel
    case h_n_BadWall_index => first | k_is | rfl | decide +kernel
    case h_n_BadWall_what => first | k_is | rfl | decide +kernel
    case h_g_Stock => first | k_is | rfl | decide +kernel
    case h_pg_Stock => first | k_is | rfl | decide +kernel
    case h_hd_Stock => first | k_is | rfl | decide +kernel
    case h_po_Stock => first | k_is | rfl | decide +kernel
    case h_sa_Stock => first | k_is | rfl | decide +kernel
    case h_ha_Stock => first | k_is | rfl | decide +kernel
    case h_hn_Stock => first | k_is | rfl | decide +kernel
    case h_tk_Stock => first | k_is | rfl | decide +kernel
    case h_hm_Stock => first | k_is | rfl | decide +kernel
    case h_me_Stock => first | k_is | rfl | decide +kernel
    case h_nt_Stock => first | k_is | rfl | decide +kernel
    case h_nl_Stock => first | k_is | rfl | decide +kernel
    case h_ns_Stock => first | k_is | rfl | decide +kernel
    case h_nf_Stock => first | k_is | rfl | decide +kernel
    case h_n_Stock_bricks => first | k_is | rfl | decide +kernel
    case h_n_Stock_lap => first | k_is | rfl | decide +kernel
    case h_n_Stock_reach => first | k_is | rfl | decide +kernel
    case h_g_Wall => first | k_is | rfl | decide +kernel
    case h_pg_Wall => first | k_is | rfl | decide +kernel
    case h_hd_Wall => first | k_is | rfl | decide +kernel
    case h_po_Wall => first | k_is | rfl | decide +kernel
    case h_sa_Wall => first | k_is | rfl | decide +kernel
    case h_ha_Wall => first | k_is | rfl | decide +kernel
    case h_hn_Wall => first | k_is | rfl | decide +kernel
    case h_tk_Wall => first | k_is | rfl | decide +kernel
    case h_hm_Wall => first | k_is | rfl | decide +kernel
    case h_me_Wall => first | k_is | rfl | decide +kernel
    case h_nt_Wall => first | k_is | rfl | decide +kernel
    case h_nl_Wall => first | k_is | rfl | decide +kernel
    case h_ns_Wall => first | k_is | rfl | decide +kernel
    case h_nf_Wall => first | k_is | rfl | decide +kernel
    case h_n_Wall_stock => first | k_is | rfl | decide +kernel
    case h_n_Wall_courses => first | k_is | rfl | decide +kernel
    case h_n_Wall_length => first | k_is | rfl | decide +kernel
    case h_z_all => first | k_is | rfl | decide +kernel
    case h_z_bool => first | k_is | rfl | decide +kernel
    case h_z_enumerate => first | k_is | rfl | decide +kernel
    case h_z_int => first | k_is | rfl | decide +kernel
    case h_z_isinstance => first | k_is | rfl | decide +kernel
    case h_z_len => first | k_is | rfl | decide +kernel
    case h_z_list => first | k_is | rfl | decide +kernel
    case h_z_max => first | k_is | rfl | decide +kernel
    case h_z_range => first | k_is | rfl | decide +kernel
    case h_z_reversed => first | k_is | rfl | decide +kernel
    case h_z_sorted => first | k_is | rfl | decide +kernel
    case h_z_str => first | k_is | rfl | decide +kernel
    case h_z_sum => first | k_is | rfl | decide +kernel
    case h_z_tuple => first | k_is | rfl | decide +kernel
    case h_z_zip => first | k_is | rfl | decide +kernel
    case h_a0 => first | k_is | rfl | decide +kernel
    case h_l0 => first | k_is | rfl | decide +kernel
    case h_c0 => first | k_is | rfl | decide +kernel
    case h_k0 => first | k_is | rfl | decide +kernel
    case h_a1 => first | k_is | rfl | decide +kernel
    case h_l1 => first | k_is | rfl | decide +kernel
    case h_c1 => first | k_is | rfl | decide +kernel
    case h_k1 => first | k_is | rfl | decide +kernel
    case h_a2 => first | k_is | rfl | decide +kernel
    case h_l2 => first | k_is | rfl | decide +kernel
    case h_c2 => first | k_is | rfl | decide +kernel
    case h_k2 => first | k_is | rfl | decide +kernel
    case h_a3 => first | k_is | rfl | decide +kernel
    case h_l3 => first | k_is | rfl | decide +kernel
    case h_c3 => first | k_is | rfl | decide +kernel
    case h_k3 => first | k_is | rfl | decide +kernel
    case h_a4 => first | k_is | rfl | decide +kernel
    case h_l4 => first | k_is | rfl | decide +kernel
    case h_c4 => first | k_is | rfl | decide +kernel
    case h_k4 => first | k_is | rfl | decide +kernel
    case h_a5 => first | k_is | rfl | decide +kernel
    case h_l5 => first | k_is | rfl | decide +kernel
    case h_c5 => first | k_is | rfl | decide +kernel
    case h_k5 => first | k_is | rfl | decide +kernel
    case h_a6 => first | k_is | rfl | decide +kernel
    case h_l6 => first | k_is | rfl | decide +kernel
    case h_c6 => first | k_is | rfl | decide +kernel
    case h_k6 => first | k_is | rfl | decide +kernel
    case h_a7 => first | k_is | rfl | decide +kernel
    case h_l7 => first | k_is | rfl | decide +kernel
    case h_c7 => first | k_is | rfl | decide +kernel
    case h_k7 => first | k_is | rfl | decide +kernel
    case h_a8 => first | k_is | rfl | decide +kernel
    case h_l8 => first | k_is | rfl | decide +kernel
    case h_c8 => first | k_is | rfl | decide +kernel
    case h_k8 => first | k_is | rfl | decide +kernel
    case h_t8 => first | k_is | rfl | decide +kernel
    case h_a9 => first | k_is | rfl | decide +kernel
    case h_l9 => first | k_is | rfl | decide +kernel
    case h_c9 => first | k_is | rfl | decide +kernel
    case h_k9 => first | k_is | rfl | decide +kernel
    case h_a10 => first | k_is | rfl | decide +kernel
    case h_l10 => first | k_is | rfl | decide +kernel
    case h_c10 => first | k_is | rfl | decide +kernel
    case h_k10 => first | k_is | rfl | decide +kernel
    case h_v10 => first | k_is | rfl | decide +kernel
    case h_a11 => first | k_is | rfl | decide +kernel
    case h_l11 => first | k_is | rfl | decide +kernel
    case h_c11 => first | k_is | rfl | decide +kernel
    case h_k11 => first | k_is | rfl | decide +kernel
    case h_a12 => first | k_is | rfl | decide +kernel
    case h_l12 => first | k_is | rfl | decide +kernel
    case h_c12 => first | k_is | rfl | decide +kernel
    case h_k12 => first | k_is | rfl | decide +kernel
    case h_v12 => first | k_is | rfl | decide +kernel
    case h_i12 => first | k_is | rfl | decide +kernel
    case h_mk_Stock => first | k_is | rfl | decide +kernel
    case h_kc_Stock => first | k_is | rfl | decide +kernel
    case h_a13 => first | k_is | rfl | decide +kernel
    case h_l13 => first | k_is | rfl | decide +kernel
    case h_c13 => first | k_is | rfl | decide +kernel
    case h_k13 => first | k_is | rfl | decide +kernel
    case h_i13 => first | k_is | rfl | decide +kernel
    case h_ne_Stock => first | k_is | rfl | decide +kernel
    case h_a14 => first | k_is | rfl | decide +kernel
    case h_l14 => first | k_is | rfl | decide +kernel
    case h_c14 => first | k_is | rfl | decide +kernel
    case h_k14 => first | k_is | rfl | decide +kernel
    case h_a15 => first | k_is | rfl | decide +kernel
    case h_l15 => first | k_is | rfl | decide +kernel
    case h_c15 => first | k_is | rfl | decide +kernel
    case h_k15 => first | k_is | rfl | decide +kernel
    case h_t15 => first | k_is | rfl | decide +kernel
    case h_a16 => first | k_is | rfl | decide +kernel
    case h_l16 => first | k_is | rfl | decide +kernel
    case h_c16 => first | k_is | rfl | decide +kernel
    case h_k16 => first | k_is | rfl | decide +kernel
    case h_a17 => first | k_is | rfl | decide +kernel
    case h_l17 => first | k_is | rfl | decide +kernel
    case h_c17 => first | k_is | rfl | decide +kernel
    case h_k17 => first | k_is | rfl | decide +kernel
    case h_v17 => first | k_is | rfl | decide +kernel
    case h_a18 => first | k_is | rfl | decide +kernel
    case h_l18 => first | k_is | rfl | decide +kernel
    case h_c18 => first | k_is | rfl | decide +kernel
    case h_k18 => first | k_is | rfl | decide +kernel
    case h_t18 => first | k_is | rfl | decide +kernel
    case h_a19 => first | k_is | rfl | decide +kernel
    case h_l19 => first | k_is | rfl | decide +kernel
    case h_c19 => first | k_is | rfl | decide +kernel
    case h_k19 => first | k_is | rfl | decide +kernel
    case h_v19 => first | k_is | rfl | decide +kernel
    case h_a20 => first | k_is | rfl | decide +kernel
    case h_l20 => first | k_is | rfl | decide +kernel
    case h_c20 => first | k_is | rfl | decide +kernel
    case h_k20 => first | k_is | rfl | decide +kernel
    case h_a21 => first | k_is | rfl | decide +kernel
    case h_l21 => first | k_is | rfl | decide +kernel
    case h_c21 => first | k_is | rfl | decide +kernel
    case h_k21 => first | k_is | rfl | decide +kernel
    case h_i21 => first | k_is | rfl | decide +kernel
    case h_mk_Wall => first | k_is | rfl | decide +kernel
    case h_kc_Wall => first | k_is | rfl | decide +kernel
    case h_a22 => first | k_is | rfl | decide +kernel
    case h_l22 => first | k_is | rfl | decide +kernel
    case h_c22 => first | k_is | rfl | decide +kernel
    case h_k22 => first | k_is | rfl | decide +kernel
    case h_t22 => first | k_is | rfl | decide +kernel
    case h_a23 => first | k_is | rfl | decide +kernel
    case h_l23 => first | k_is | rfl | decide +kernel
    case h_c23 => first | k_is | rfl | decide +kernel
    case h_k23 => first | k_is | rfl | decide +kernel
    case h_a24 => first | k_is | rfl | decide +kernel
    case h_l24 => first | k_is | rfl | decide +kernel
    case h_c24 => first | k_is | rfl | decide +kernel
    case h_k24 => first | k_is | rfl | decide +kernel
    case h_a25 => first | k_is | rfl | decide +kernel
    case h_l25 => first | k_is | rfl | decide +kernel
    case h_c25 => first | k_is | rfl | decide +kernel
    case h_k25 => first | k_is | rfl | decide +kernel
    case h_a26 => first | k_is | rfl | decide +kernel
    case h_l26 => first | k_is | rfl | decide +kernel
    case h_c26 => first | k_is | rfl | decide +kernel
    case h_k26 => first | k_is | rfl | decide +kernel
    case h_a27 => first | k_is | rfl | decide +kernel
    case h_l27 => first | k_is | rfl | decide +kernel
    case h_c27 => first | k_is | rfl | decide +kernel
    case h_k27 => first | k_is | rfl | decide +kernel
    case h_a28 => first | k_is | rfl | decide +kernel
    case h_l28 => first | k_is | rfl | decide +kernel
    case h_c28 => first | k_is | rfl | decide +kernel
    case h_k28 => first | k_is | rfl | decide +kernel
    case h_a29 => first | k_is | rfl | decide +kernel
    case h_l29 => first | k_is | rfl | decide +kernel
    case h_c29 => first | k_is | rfl | decide +kernel
    case h_k29 => first | k_is | rfl | decide +kernel
    case h_a30 => first | k_is | rfl | decide +kernel
    case h_l30 => first | k_is | rfl | decide +kernel
    case h_c30 => first | k_is | rfl | decide +kernel
    case h_k30 => first | k_is | rfl | decide +kernel
    case h_a31 => first | k_is | rfl | decide +kernel
    case h_l31 => first | k_is | rfl | decide +kernel
    case h_c31 => first | k_is | rfl | decide +kernel
    case h_k31 => first | k_is | rfl | decide +kernel
    case h_a32 => first | k_is | rfl | decide +kernel
    case h_l32 => first | k_is | rfl | decide +kernel
    case h_c32 => first | k_is | rfl | decide +kernel
    case h_k32 => first | k_is | rfl | decide +kernel
    case h_a33 => first | k_is | rfl | decide +kernel
    case h_l33 => first | k_is | rfl | decide +kernel
    case h_c33 => first | k_is | rfl | decide +kernel
    case h_k33 => first | k_is | rfl | decide +kernel
    case h_a34 => first | k_is | rfl | decide +kernel
    case h_l34 => first | k_is | rfl | decide +kernel
    case h_c34 => first | k_is | rfl | decide +kernel
    case h_k34 => first | k_is | rfl | decide +kernel
    case h_a35 => first | k_is | rfl | decide +kernel
    case h_l35 => first | k_is | rfl | decide +kernel
    case h_c35 => first | k_is | rfl | decide +kernel
    case h_k35 => first | k_is | rfl | decide +kernel
    case h_a36 => first | k_is | rfl | decide +kernel
    case h_l36 => first | k_is | rfl | decide +kernel
    case h_c36 => first | k_is | rfl | decide +kernel
    case h_k36 => first | k_is | rfl | decide +kernel
    case h_i36 => first | k_is | rfl | decide +kernel
    case h_ne_Wall => first | k_is | rfl | decide +kernel
    case h_a37 => first | k_is | rfl | decide +kernel
    case h_l37 => first | k_is | rfl | decide +kernel
    case h_c37 => first | k_is | rfl | decide +kernel
    case h_k37 => first | k_is | rfl | decide +kernel
    case h_t37 => first | k_is | rfl | decide +kernel
    case h_a38 => first | k_is | rfl | decide +kernel
    case h_l38 => first | k_is | rfl | decide +kernel
    case h_c38 => first | k_is | rfl | decide +kernel
    case h_k38 => first | k_is | rfl | decide +kernel
    case h_a39 => first | k_is | rfl | decide +kernel
    case h_l39 => first | k_is | rfl | decide +kernel
    case h_c39 => first | k_is | rfl | decide +kernel
    case h_k39 => first | k_is | rfl | decide +kernel
    case h_a40 => first | k_is | rfl | decide +kernel
    case h_l40 => first | k_is | rfl | decide +kernel
    case h_c40 => first | k_is | rfl | decide +kernel
    case h_k40 => first | k_is | rfl | decide +kernel
    case h_v40 => first | k_is | rfl | decide +kernel
    case h_a41 => first | k_is | rfl | decide +kernel
    case h_l41 => first | k_is | rfl | decide +kernel
    case h_c41 => first | k_is | rfl | decide +kernel
    case h_k41 => first | k_is | rfl | decide +kernel
    case h_a42 => first | k_is | rfl | decide +kernel
    case h_l42 => first | k_is | rfl | decide +kernel
    case h_c42 => first | k_is | rfl | decide +kernel
    case h_k42 => first | k_is | rfl | decide +kernel
    case h_a43 => first | k_is | rfl | decide +kernel
    case h_l43 => first | k_is | rfl | decide +kernel
    case h_c43 => first | k_is | rfl | decide +kernel
    case h_k43 => first | k_is | rfl | decide +kernel
    case h_a44 => first | k_is | rfl | decide +kernel
    case h_l44 => first | k_is | rfl | decide +kernel
    case h_c44 => first | k_is | rfl | decide +kernel
    case h_k44 => first | k_is | rfl | decide +kernel
    case h_a45 => first | k_is | rfl | decide +kernel
    case h_l45 => first | k_is | rfl | decide +kernel
    case h_c45 => first | k_is | rfl | decide +kernel
    case h_k45 => first | k_is | rfl | decide +kernel
    case h_a46 => first | k_is | rfl | decide +kernel
    case h_l46 => first | k_is | rfl | decide +kernel
    case h_c46 => first | k_is | rfl | decide +kernel
    case h_k46 => first | k_is | rfl | decide +kernel
    case h_a47 => first | k_is | rfl | decide +kernel
    case h_l47 => first | k_is | rfl | decide +kernel
    case h_c47 => first | k_is | rfl | decide +kernel
    case h_k47 => first | k_is | rfl | decide +kernel
    case h_a48 => first | k_is | rfl | decide +kernel
    case h_l48 => first | k_is | rfl | decide +kernel
    case h_c48 => first | k_is | rfl | decide +kernel
    case h_k48 => first | k_is | rfl | decide +kernel
    case h_a49 => first | k_is | rfl | decide +kernel
    case h_l49 => first | k_is | rfl | decide +kernel
    case h_c49 => first | k_is | rfl | decide +kernel
    case h_k49 => first | k_is | rfl | decide +kernel
    case h_a50 => first | k_is | rfl | decide +kernel
    case h_l50 => first | k_is | rfl | decide +kernel
    case h_c50 => first | k_is | rfl | decide +kernel
    case h_k50 => first | k_is | rfl | decide +kernel
    case h_a51 => first | k_is | rfl | decide +kernel
    case h_l51 => first | k_is | rfl | decide +kernel
    case h_c51 => first | k_is | rfl | decide +kernel
    case h_k51 => first | k_is | rfl | decide +kernel
    case h_a52 => first | k_is | rfl | decide +kernel
    case h_l52 => first | k_is | rfl | decide +kernel
    case h_c52 => first | k_is | rfl | decide +kernel
    case h_k52 => first | k_is | rfl | decide +kernel
    case h_q_BadCourse_BadJoints => first | k_is | rfl | decide +kernel
    case h_q_BadCourse_BadLength => first | k_is | rfl | decide +kernel
    case h_q_BadCourse_BadStock => first | k_is | rfl | decide +kernel
    case h_q_BadCourse_BadText => first | k_is | rfl | decide +kernel
    case h_q_BadCourse_BadWall => first | k_is | rfl | decide +kernel
    case h_q_BadJoints_BadCourse => first | k_is | rfl | decide +kernel
    case h_q_BadJoints_BadLength => first | k_is | rfl | decide +kernel
    case h_q_BadJoints_BadStock => first | k_is | rfl | decide +kernel
    case h_q_BadJoints_BadText => first | k_is | rfl | decide +kernel
    case h_q_BadJoints_BadWall => first | k_is | rfl | decide +kernel
    case h_q_BadLength_BadCourse => first | k_is | rfl | decide +kernel
    case h_q_BadLength_BadJoints => first | k_is | rfl | decide +kernel
    case h_q_BadLength_BadStock => first | k_is | rfl | decide +kernel
    case h_q_BadLength_BadText => first | k_is | rfl | decide +kernel
    case h_q_BadLength_BadWall => first | k_is | rfl | decide +kernel
    case h_q_BadStock_BadCourse => first | k_is | rfl | decide +kernel
    case h_q_BadStock_BadJoints => first | k_is | rfl | decide +kernel
    case h_q_BadStock_BadLength => first | k_is | rfl | decide +kernel
    case h_q_BadStock_BadText => first | k_is | rfl | decide +kernel
    case h_q_BadStock_BadWall => first | k_is | rfl | decide +kernel
    case h_q_BadText_BadCourse => first | k_is | rfl | decide +kernel
    case h_q_BadText_BadJoints => first | k_is | rfl | decide +kernel
    case h_q_BadText_BadLength => first | k_is | rfl | decide +kernel
    case h_q_BadText_BadStock => first | k_is | rfl | decide +kernel
    case h_q_BadText_BadWall => first | k_is | rfl | decide +kernel
    case h_q_BadWall_BadCourse => first | k_is | rfl | decide +kernel
    case h_q_BadWall_BadJoints => first | k_is | rfl | decide +kernel
    case h_q_BadWall_BadLength => first | k_is | rfl | decide +kernel
    case h_q_BadWall_BadStock => first | k_is | rfl | decide +kernel
    case h_q_BadWall_BadText => first | k_is | rfl | decide +kernel