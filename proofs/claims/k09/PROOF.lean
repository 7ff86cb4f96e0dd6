import PyProof.Rows.All
import Wide.All
import OpenK.AllK
import Wide.FinOn
import HandS.ForExc
import HandS.Comp
import HandS.Iter
import HandS.Wide
import HandS.IsInst
import HandS.TupLe
import HandS.Flow
import HandS.Defaults
import HandS.MakeKw
import HandS.ExcInit
import HandS.ExcField
import HandS.TryMany
import HandS.Zip
import HandS.OwnEq
import HandS.Property
import HandS.TupMul
import HandS.Conv
import HandS.Style
import HandS.Star
import HandS.Rev
import HandS.Small
import HandS.Walk
import KE.GoesEnum
import KE.GoesMore
import KE.KTupSum
import HandS.TupAny
import HandS.RevTup
import HandS.Gcd
import KE.KMathGC
import PyProof.LongRange
import KE.GoesZip
import HandS.Dict
import KE.DatumOrd
import HandS.HeadHook2
import HandS.Ends
import PySem.Challenge.RW_jointsapart_k09_courses_made_and_refused
set_option Elab.async false
set_option linter.all false
set_option maxRecDepth 100000
/-! ### Z: a ledger of what stands in the heap, and rules for readings over it -/
namespace Z
open PySem L2
/-- an entry of the ledger: an object with all that it holds; the draws' list l with its cells c -/
inductive En where
  | ob (a : Addr) (o : HO)
  | hand (l c : Addr)
def En.fp : En → List Addr
  | .ob a _ => [a]
  | .hand l c => [l, c]
def HandAt (H : Hp) (l c : Addr) : Prop := ∃ (ns : List Int) (i j t : Int), 0 ≤ i ∧ H l = some (.lst [.ref c, .int i, .int j, .int t]) ∧ H c = some (.lst (ns.map V.int))
def En.sat (H : Hp) : En → Prop
  | .ob a o => H a = some o
  | .hand l c => HandAt H l c
def Fx (H : Hp) (L : List En) : Prop := (∀ e ∈ L, e.sat H) ∧ (L.flatMap En.fp).Nodup
theorem En.there {H : Hp} {e : En} (h : e.sat H) {a : Addr} (ha : a ∈ e.fp) : ∃ o, H a = some o := by
  cases e with
  | ob b o =>
    have e : a = b := List.mem_singleton.mp ha
    subst e
    exact ⟨o, h⟩
  | hand l c =>
    obtain ⟨ns, i, j, t, h0, h1, h2⟩ := (show HandAt H l c from h)
    rcases List.mem_cons.mp (show a ∈ [l, c] from ha) with e | e
    · subst e
      exact ⟨_, h1⟩
    · have e := List.mem_singleton.mp e
      subst e
      exact ⟨_, h2⟩
theorem En.keep {H H' : Hp} {e : En} (h : e.sat H) (k : ∀ a ∈ e.fp, ∀ o, H a = some o → H' a = some o) : e.sat H' := by
  cases e with
  | ob b o => exact k b List.mem_cons_self o h
  | hand l c =>
    obtain ⟨ns, i, j, t, h0, h1, h2⟩ := (show HandAt H l c from h)
    exact ⟨ns, i, j, t, h0, k l List.mem_cons_self _ h1, k c (List.mem_cons_of_mem _ List.mem_cons_self) _ h2⟩
section
variable {H H' : Hp} {L L' : List En} {a p : Addr} {o o' : HO}
theorem Fx.get (F : Fx H L) (h : En.ob a o ∈ L) : H a = some o := F.1 _ h
theorem Fx.gh {l c : Addr} (F : Fx H L) (h : En.hand l c ∈ L) : HandAt H l c := F.1 _ h
theorem Fx.nil : Fx H [] := ⟨fun e h => (nomatch h), List.nodup_nil⟩
theorem Fx.notin (F : Fx H L) (h : H p = none) : p ∉ L.flatMap En.fp := fun hp => by
  obtain ⟨e, he, ha⟩ := List.mem_flatMap.mp hp
  obtain ⟨o, q⟩ := En.there (F.1 e he) ha
  rw [h] at q
  cases q
theorem Fx.new (F : Fx H L) (h : H p = none) : Fx (upd H p o) (.ob p o :: L) := by
  have ni := F.notin h
  refine ⟨fun e he => ?_, ?_⟩
  · rcases List.mem_cons.mp he with e1 | he
    · subst e1
      exact upd_same
    · refine En.keep (F.1 e he) fun a ha o q => ?_
      rw [upd_ne (ne_of_none q h)]
      exact q
  · show (p :: L.flatMap En.fp).Nodup
    exact List.nodup_cons.mpr ⟨ni, F.2⟩
theorem Fx.same (F : Fx H L) (k : Same H H') : Fx H' L := ⟨fun e he => En.keep (F.1 e he) fun a _ o q => k a o q, F.2⟩
theorem Fx.add (F : Fx H L) (h : H p = some o) (n : p ∉ L.flatMap En.fp) : Fx H (.ob p o :: L) := by
  refine ⟨fun e he => ?_, ?_⟩
  · rcases List.mem_cons.mp he with e1 | he
    · subst e1
      exact h
    · exact F.1 e he
  · show (p :: L.flatMap En.fp).Nodup
    exact List.nodup_cons.mpr ⟨n, F.2⟩
theorem Fx.sub (F : Fx H L) (h : L'.Sublist L) : Fx H L' := by
  refine ⟨fun e he => F.1 e (h.subset he), ?_⟩
  have : (L'.flatMap En.fp).Sublist (L.flatMap En.fp) := by
    induction h with
    | slnil => exact List.Sublist.refl _
    | cons a _ ih =>
      rw [List.flatMap_cons]
      exact List.Sublist.trans (ih ⟨fun e he => F.1 e (List.mem_cons_of_mem _ he), (List.nodup_append.mp (by have := F.2; rwa [List.flatMap_cons] at this)).2.1⟩) (List.sublist_append_right _ _)
    | cons_cons a _ ih =>
      rw [List.flatMap_cons, List.flatMap_cons]
      exact (List.Sublist.refl _).append (ih ⟨fun e he => F.1 e (List.mem_cons_of_mem _ he), (List.nodup_append.mp (by have := F.2; rwa [List.flatMap_cons] at this)).2.1⟩)
  exact List.Sublist.nodup this F.2
/-- p's object is exchanged -/
inductive Put (p : Addr) (o' : HO) : List En → List En → Prop where
  | head {o : HO} {L : List En} : Put p o' (.ob p o :: L) (.ob p o' :: L)
  | tail {e : En} {L L' : List En} (h : Put p o' L L') : Put p o' (e :: L) (e :: L')
theorem Put.fps (h : Put p o' L L') : L'.flatMap En.fp = L.flatMap En.fp := by
  induction h with
  | head => rfl
  | tail _ ih => rw [List.flatMap_cons, List.flatMap_cons, ih]
theorem Put.mem (h : Put p o' L L') : p ∈ L.flatMap En.fp := by
  induction h with
  | head => exact List.mem_cons_self
  | tail _ ih =>
    rw [List.flatMap_cons]
    exact List.mem_append_right _ ih
theorem Put.sat (h : Put p o' L L') (nd : (L.flatMap En.fp).Nodup) (s : ∀ e ∈ L, e.sat H) : ∀ e ∈ L', e.sat (upd H p o') := by
  induction h with
  | @head o L =>
    intro e he
    rcases List.mem_cons.mp he with e1 | he
    · subst e1
      exact upd_same
    · refine En.keep (s e (List.mem_cons_of_mem _ he)) fun a ha u q => ?_
      have n := (List.nodup_cons.mp (show (p :: L.flatMap En.fp).Nodup from nd)).1
      rw [upd_ne (fun z => n (by rw [← z]; exact List.mem_flatMap.mpr ⟨e, he, ha⟩))]
      exact q
  | @tail x L L' h ih =>
    rw [List.flatMap_cons] at nd
    obtain ⟨n1, n2, n3⟩ := List.nodup_append.mp nd
    intro e he
    rcases List.mem_cons.mp he with e1 | he
    · subst e1
      refine En.keep (s e List.mem_cons_self) fun a ha u q => ?_
      rw [upd_ne (n3 a ha p h.mem)]
      exact q
    · exact ih n2 (fun e he => s e (List.mem_cons_of_mem _ he)) e he
theorem Fx.put (F : Fx H L) (h : Put p o' L L') : Fx (upd H p o') L' := ⟨h.sat F.2 F.1, by rw [h.fps]; exact F.2⟩
/-- all but the list l stands; the draws go on at l -/
theorem Fx.drawn {l c : Addr} (F : Fx H L) (h : En.hand l c ∈ L) (k : ∀ b o, H b = some o → b ≠ l → H' b = some o) (d : HandAt H' l c) : Fx H' L := by
  refine ⟨fun e he => ?_, F.2⟩
  by_cases hl : l ∈ e.fp
  · have key : e = En.hand l c := by
      have nd := F.2
      have h' := h
      have he' := he
      clear d k F
      induction L with
      | nil => cases he
      | cons x L ih =>
        rw [List.flatMap_cons] at nd
        obtain ⟨n1, n2, n3⟩ := List.nodup_append.mp nd
        rcases List.mem_cons.mp h with e1 | h1
        · rcases List.mem_cons.mp he with e2 | h2
          · rw [e1, e2]
          · exact absurd rfl (n3 l (e1 ▸ List.mem_cons_self) l (List.mem_flatMap.mpr ⟨e, h2, hl⟩))
        · rcases List.mem_cons.mp he with e2 | h2
          · exact absurd rfl (n3 l (e2 ▸ hl) l (List.mem_flatMap.mpr ⟨_, h1, List.mem_cons_self⟩))
          · exact ih h1 h2 n2 h1 h2
    rw [key]
    exact d
  · exact En.keep (F.1 e he) fun a ha o q => k a o q fun z => hl (z ▸ ha)
end
end Z

set_option Elab.async false
set_option linter.all false
set_option maxRecDepth 100000
namespace Z
open PySem L2
/-! ### rules -/
theorem hu0 {X : Cx} {k : Nat} (hr : Room k X.A) : X.A.units + 64 < cLine := hr.units
section
variable {CX : CXT} {P : Program} {w : World} {K : PySem.W.Frag} {mg : Str → Option Value} {base : Heap}
/-- the def x keeps its promise; dvs: the defaults that fill up the call -/
def Ok (CX : CXT) (P : Program) (w : World) (K : PySem.W.Frag) (mg : Str → Option Value) (base : Heap) (x : Str) (k : Nat) (ps : List Str) (dvs : List V) (sp : Sp) : Prop :=
  ∃ (f : Addr) (fd : FuncData) (ds : List Value), mg x = some (.ref f) ∧ PySem.W.keepIn K (.ref f) = true ∧ Binds K fd ps ds ∧ Vals dvs ds ∧ FnOk P w K mg base CX k f fd ps sp
theorem mkOk {x : Str} {k : Nat} {ps : List Str} {sp : Sp} {st : Stmt} {f : Addr} {fd : FuncData} (F : Fun K x x st f fd) (g : mg x = some (.ref f)) (b : Binds K fd ps []) (G : FnOk P w K mg base CX k f fd ps sp) : Ok CX P w K mg base x k ps [] sp :=
  ⟨f, fd, [], g, F.kp, b, .nil, G⟩
end
section
variable {X : Cx} {CX : CXT} {k : Nat} {ps : List Str} {sp : Sp} {E : XK} {x : Str} {p pos apos : Pos} {e : Expr} {es : List Expr} {t : TA} {dvs : List V}
theorem pe_callO (O : Ok CX X.prog X.w X.K X.mg X.base x k ps dvs sp) (hg : Gl X x) (hr : Room k X.A) (hx : Passes CX X E) (ha : PA X (e :: es) t)
    (hdb : (x == ("__debug__" : Str)) = false := by decide) (he : starEach (e :: es) X.env = (false, eval e
          X.env) :: starEach es X.env := by rfl) (hpl : (backTo pos (starEach es X.env)).any (·.1) = false := by rfl) :
    PE X (.Call (.Name x p) (e :: es)
          [] pos) (tCall sp dvs E t) := by
  obtain ⟨f, fd, ds, g, kp, b, v, F⟩ := O
  exact pe_call F hr hg g kp b v hx ha hdb he hpl
theorem pt_tru {a : Expr} {ta : TE} (ha : PE X a ta) (he : ∀ whole, isTrue a X.env whole = (do let v ← whole; standAt a.pos; holding [v] (truthy v)) := by intro _; rfl) :
    PT X a (fun σ H Q => ta σ H fun x H' => ∃ k, TruV X.K x H' k ∧ Q k H') := pt_truth ha he
end
/-! named readings -/
def rTru (K : PySem.W.Frag) (ta : TE) : TT := fun σ H Q => ta σ H fun x H' => ∃ k, TruV K x H' k ∧ Q k H'
theorem pt_truN {X : Cx} {a : Expr} {ta : TE} (ha : PE X a ta) (he : ∀ whole, isTrue a X.env whole = (do let v ← whole; standAt a.pos; holding [v] (truthy v)) := by intro _; rfl) : PT X a (rTru X.K ta) := pt_truth ha he
def rAddS : R2 := fun x y H Q => ∃ i j, x = .str i ∧ y = .str j ∧ i.length + j.length ≤ sizeLine ∧ Q (.str (i ++ j)) H
def rOr (r r' : R2) : R2 := fun x y H Q => r x y H Q ∨ r' x y H Q
theorem opOr {X : Cx} {f : Value → Value → Sem Value} {r r' : R2} (h : OpR X f r) (h' : OpR X f r') : OpR X f (rOr r r') := h.or h'
abbrev rAddI : R2 := rI0 fun i j => .int (i + j)
abbrev rSubI : R2 := rI0 fun i j => .int (i - j)
theorem zAdd {X : Cx} : OpR X (binaryOp .Add) (rOr rAddI (rOr rAddS (rOr rCat (rCatT X.K)))) := opOr op_add (opOr op_add_str (opOr op_cat op_catT))
abbrev rMulI : R2 := rI CMulW fun i j => .int (i * j)
abbrev rMulC : R2 := rI CMul fun i j => .int (i * j)
theorem zMul {X : Cx} : OpR X (binaryOp .Mult) (rOr rMulC (rOr rMulI (rOr rRep (rRepT X.K)))) := opOr op_mul (opOr op_mulW (opOr op_rep op_repT))
abbrev rDivI : R2 := rI CDivW fun i j => .int (i / j)
theorem zDiv {X : Cx} : OpR X (binaryOp .FloorDiv) rDivI := op_fdivW
abbrev rModI : R2 := rI (fun _ j => 0 < j) fun i j => .int (i % j)
theorem zMod {X : Cx} : OpR X (binaryOp .Mod) rModI := op_mod
abbrev rPowI : R2 := rI CPow fun i j => .int (i ^ j.toNat)
theorem zPow {X : Cx} : OpR X (binaryOp .Pow) rPowI := op_pow
abbrev rLtI : R2 := rI0 fun i j => .bl (decide (i < j))
abbrev rLeI : R2 := rI0 fun i j => .bl (decide (i ≤ j))
abbrev rGtI : R2 := rI0 fun i j => .bl (decide (j < i))
abbrev rGeI : R2 := rI0 fun i j => .bl (decide (j ≤ i))
theorem zLt {X : Cx} : OpR X (compareOp .Lt) rLtI := op_lt
theorem zLe {X : Cx} : OpR X (compareOp .LtE) rLeI := op_le
theorem zGt {X : Cx} : OpR X (compareOp .Gt) rGtI := op_gt
theorem zGe {X : Cx} : OpR X (compareOp .GtE) rGeI := op_ge
theorem zEq {X : Cx} (hu : X.A.units + 64 < cLine) : OpR X (compareOp .Eq) (rOr rEq (rEqD X.K)) := opOr op_eq (op_eqD hu)
theorem zNe {X : Cx} (hu : X.A.units + 64 < cLine) : OpR X (compareOp .NotEq) (rOr rNe (rNeD X.K)) := opOr op_ne (op_neD hu)
def rIsN : R2 := fun x y H Q => y =
      .non ∧ Q (.bl (decide (x = .non))) H
def rNotN : R2 := fun x y H Q => y =
      .non ∧ Q (.bl (!decide (x = .non))) H
theorem zIs {X : Cx} : OpR X (compareOp .Is) (rOr rIsN rIsB) := opOr op_isN op_isBl
theorem zIsNot {X : Cx} : OpR X (compareOp .IsNot) (rOr rNotN rNotB) := opOr op_notN op_notBl
theorem zIn {X : Cx} : OpR X (compareOp .In) (rIn X.K false) := op_in_seq
theorem zNotIn {X : Cx} : OpR X (compareOp .NotIn) (rIn X.K true) := op_notIn_seq
def rLen (K : PySem.W.Frag) : List V → Hp → VK → Prop :=
      fun xs H Q => ∃ x n, xs = [x] ∧ LenV K x H n ∧ Q (.int n) H
theorem zLen {X : Cx} : CallR X (.builtin "len") (rLen X.K) := call_len
def rOrC (r r' : List V → Hp → VK → Prop) : List V → Hp → VK → Prop := fun xs H Q => r xs H Q ∨ r' xs H Q
theorem zIsi {X : Cx} : CallR X (.builtin "isinstance") (rOrC (rIsi X.K) (rIsiT X.K)) := CallR.or call_isi call_isiT
def rInt : List V → Hp → VK → Prop := fun xs H Q => (∃ i, xs = [.int i] ∧ Q (.int i) H) ∨ ∃ k, xs = [.bl k] ∧ Q (.int (if k then 1 else 0)) H
theorem zInt {X : Cx} : CallR X (.type "int") rInt := call_int1
def rList (K : PySem.W.Frag) : List V → Hp → VK → Prop := fun xs H Q => ∃ p ys, xs = [.ref p] ∧ (SqL K H p ys ∨ SqT K H p ys) ∧ ∀ l, H l = none → Q (.ref l) (upd H l (.lst ys))
theorem zList {X : Cx} : CallR X (.type "list") (rList X.K) := call_list_of
def rTuple (K : PySem.W.Frag) : List V → Hp → VK → Prop := fun xs H Q => ∃ p ys, xs = [.ref p] ∧ ((SqL K H p ys ∧ ∀ l, H l = none → Q (.ref l) (upd H l (.tup ys))) ∨ (SqT K H p ys ∧ Q (.ref p) H))
theorem zTuple {X : Cx} : CallR X (.type "tuple") (rTuple X.K) := call_tuple_of
def rAbs : List V → Hp → VK → Prop := fun xs H Q => ∃ i, xs = [.int i] ∧ Q (.int (if i < 0 then -i else i)) H
theorem zAbs {X : Cx} : CallR X (.builtin "abs") rAbs := call_abs
def rOrS (r r' : V → Option Int → Option Int → Hp → VK → Prop) : V → Option Int → Option Int → Hp → VK → Prop := fun x lo hi H Q => r x lo hi H Q ∨ r' x lo hi H Q
theorem zSl {X : Cx} : SlR X (rOrS (rSlL X.K) (rSlT X.K)) := SlR.or sl_list sl_tup

def NewT (xs : List V) (H : Hp) (Q : VK) : Prop := xs.length ≤ sizeLine ∧ ∀ p, H p = none → Q (.ref p) (upd H p (.tup xs))
def NewL (xs : List V) (H : Hp) (Q : VK) : Prop := xs.length ≤ sizeLine ∧ ∀ p, H p = none → Q (.ref p) (upd H p (.lst xs))
/-! ### how a reading is answered -/
section
variable {K : PySem.W.Frag} {H : Hp} {Q : VK} {L : List En} {σ : St} {v w : V} {i j : Int} {t u : TS} {nx bk ct : St → Hp → Prop} {rt : VK} {te ta tb tc : TE} {tt tt' : TT} {ts : TA} {g : TG} {r r' : R2} {QB : Bool → Hp → Prop} {QA : List V → Hp → Prop}
theorem at_start {σ' : St} {N : List Str} {vs : List V} {D : Ends} (e : start N vs = σ') (h : t D σ' H) : t D (start N vs) H := by rw [e]; exact h
theorem wSeq (h : t ⟨u ⟨nx, rt, bk, ct⟩, rt, bk, ct⟩ σ H) : tSeq t u ⟨nx, rt, bk, ct⟩ σ H := h
theorem wNext (h : nx σ H) : tNext ⟨nx, rt, bk, ct⟩ σ H := h
theorem wBreak (h : bk σ H) : tBreak ⟨nx, rt, bk, ct⟩ σ H := h
theorem wCont (h : ct σ H) : tCont ⟨nx, rt, bk, ct⟩ σ H := h
theorem wDrop (h : te σ H fun _ H1 => nx σ H1) : tDrop te ⟨nx, rt, bk, ct⟩ σ H := h
theorem wRet (h : te σ H rt) : tRet te ⟨nx, rt, bk, ct⟩ σ H := h
theorem wRetN (h : rt .non H) : tRetN ⟨nx, rt, bk, ct⟩ σ H := h
theorem wIfS (h : tt σ H fun b H1 => if b = true then t ⟨nx, rt, bk, ct⟩ σ H1 else u ⟨nx, rt, bk, ct⟩ σ H1) : tIfS tt t u ⟨nx, rt, bk, ct⟩ σ H := h
theorem wAsg (h : te σ H fun x H1 => g x σ H1 nx) : tAsg te g ⟨nx, rt, bk, ct⟩ σ H := h
theorem wFor {wi : TI} {tb : TS} (h : wi σ H fun J H1 => ∃ W : Nat → Nat → St → Hp → Prop, (∃ m, W 0 m σ H1) ∧ ∀ i m σ H, W i m σ H →
  (J.stop i H ∧ nx σ H) ∨ (J.go i H ∧ ∃ N : St → Hp → Prop, (∀ σ' H', N σ' H' → ∃ m', m' < m ∧ W (i + 1) m' σ' H') ∧ ∀ x H', J.yld i H x H' → g x σ H' fun σ2 H2 => tb ⟨N, rt, nx, N⟩ σ2 H2)) : tFor wi g tb ⟨nx, rt, bk, ct⟩ σ H := h
variable {a0 a1 a2 a3 a4 a5 a6 a7 a8 a9 b0 b1 b2 b3 b4 b5 b6 b7 : Option V} {ρ : St} {N : St → Hp → Prop}
theorem wG0 (h : N (some v :: ρ) H) : gName 0 v (a0 :: ρ) H N := h
theorem wG1 (h : N (a0 :: some v :: ρ) H) : gName 1 v (a0 :: a1 :: ρ) H N := h
theorem wG2 (h : N (a0 :: a1 :: some v :: ρ) H) : gName 2 v (a0 :: a1 :: a2 :: ρ) H N := h
theorem wG3 (h : N (a0 :: a1 :: a2 :: some v :: ρ) H) : gName 3 v (a0 :: a1 :: a2 :: a3 :: ρ) H N := h
theorem wG4 (h : N (a0 :: a1 :: a2 :: a3 :: some v :: ρ) H) : gName 4 v (a0 :: a1 :: a2 :: a3 :: a4 :: ρ) H N := h
theorem wG5 (h : N (a0 :: a1 :: a2 :: a3 :: a4 :: some v :: ρ) H) : gName 5 v (a0 :: a1 :: a2 :: a3 :: a4 :: a5 :: ρ) H N := h
theorem wG6 (h : N (a0 :: a1 :: a2 :: a3 :: a4 :: a5 :: some v :: ρ) H) : gName 6 v (a0 :: a1 :: a2 :: a3 :: a4 :: a5 :: a6 :: ρ) H N := h
theorem wG7 (h : N (a0 :: a1 :: a2 :: a3 :: a4 :: a5 :: a6 :: some v :: ρ) H) : gName 7 v (a0 :: a1 :: a2 :: a3 :: a4 :: a5 :: a6 :: a7 :: ρ) H N := h
theorem wG8 (h : N (a0 :: a1 :: a2 :: a3 :: a4 :: a5 :: a6 :: a7 :: some v :: ρ) H) : gName 8 v (a0 :: a1 :: a2 :: a3 :: a4 :: a5 :: a6 :: a7 :: a8 :: ρ) H N := h
theorem wG9 (h : N (a0 :: a1 :: a2 :: a3 :: a4 :: a5 :: a6 :: a7 :: a8 :: some v :: ρ) H) : gName 9 v (a0 :: a1 :: a2 :: a3 :: a4 :: a5 :: a6 :: a7 :: a8 :: a9 :: ρ) H N := h
theorem wG10 (h : N (a0 :: a1 :: a2 :: a3 :: a4 :: a5 :: a6 :: a7 :: a8 :: a9 :: some v :: ρ) H) : gName 10 v (a0 :: a1 :: a2 :: a3 :: a4 :: a5 :: a6 :: a7 :: a8 :: a9 :: b0 :: ρ) H N := h
theorem wG11 (h : N (a0 :: a1 :: a2 :: a3 :: a4 :: a5 :: a6 :: a7 :: a8 :: a9 :: b0 :: some v :: ρ) H) : gName 11 v (a0 :: a1 :: a2 :: a3 :: a4 :: a5 :: a6 :: a7 :: a8 :: a9 :: b0 :: b1 :: ρ) H N := h
theorem wG12 (h : N (a0 :: a1 :: a2 :: a3 :: a4 :: a5 :: a6 :: a7 :: a8 :: a9 :: b0 :: b1 :: some v :: ρ) H) : gName 12 v (a0 :: a1 :: a2 :: a3 :: a4 :: a5 :: a6 :: a7 :: a8 :: a9 :: b0 :: b1 :: b2 :: ρ) H N := h
theorem wG13 (h : N (a0 :: a1 :: a2 :: a3 :: a4 :: a5 :: a6 :: a7 :: a8 :: a9 :: b0 :: b1 :: b2 :: some v :: ρ) H) : gName 13 v (a0 :: a1 :: a2 :: a3 :: a4 :: a5 :: a6 :: a7 :: a8 :: a9 :: b0 :: b1 :: b2 :: b3 :: ρ) H N := h
theorem wG14 (h : N (a0 :: a1 :: a2 :: a3 :: a4 :: a5 :: a6 :: a7 :: a8 :: a9 :: b0 :: b1 :: b2 :: b3 :: some v :: ρ) H) : gName 14 v (a0 :: a1 :: a2 :: a3 :: a4 :: a5 :: a6 :: a7 :: a8 :: a9 :: b0 :: b1 :: b2 :: b3 :: b4 :: ρ) H N := h
theorem wV {n : Nat} (e : σ[n]? = some (some v)) (h : Q v H) : tVar n σ H Q := ⟨v, e, h⟩
theorem wV0 (h : Q v H) : tVar 0 (some v :: ρ) H Q := ⟨v, rfl, h⟩
theorem wV1 (h : Q v H) : tVar 1 (a0 :: some v :: ρ) H Q := ⟨v, rfl, h⟩
theorem wV2 (h : Q v H) : tVar 2 (a0 :: a1 :: some v :: ρ) H Q := ⟨v, rfl, h⟩
theorem wV3 (h : Q v H) : tVar 3 (a0 :: a1 :: a2 :: some v :: ρ) H Q := ⟨v, rfl, h⟩
theorem wV4 (h : Q v H) : tVar 4 (a0 :: a1 :: a2 :: a3 :: some v :: ρ) H Q := ⟨v, rfl, h⟩
theorem wV5 (h : Q v H) : tVar 5 (a0 :: a1 :: a2 :: a3 :: a4 :: some v :: ρ) H Q := ⟨v, rfl, h⟩
theorem wV6 (h : Q v H) : tVar 6 (a0 :: a1 :: a2 :: a3 :: a4 :: a5 :: some v :: ρ) H Q := ⟨v, rfl, h⟩
theorem wV7 (h : Q v H) : tVar 7 (a0 :: a1 :: a2 :: a3 :: a4 :: a5 :: a6 :: some v :: ρ) H Q := ⟨v, rfl, h⟩
theorem wV8 (h : Q v H) : tVar 8 (a0 :: a1 :: a2 :: a3 :: a4 :: a5 :: a6 :: a7 :: some v :: ρ) H Q := ⟨v, rfl, h⟩
theorem wV9 (h : Q v H) : tVar 9 (a0 :: a1 :: a2 :: a3 :: a4 :: a5 :: a6 :: a7 :: a8 :: some v :: ρ) H Q := ⟨v, rfl, h⟩
theorem wV10 (h : Q v H) : tVar 10 (a0 :: a1 :: a2 :: a3 :: a4 :: a5 :: a6 :: a7 :: a8 :: a9 :: some v :: ρ) H Q := ⟨v, rfl, h⟩
theorem wV11 (h : Q v H) : tVar 11 (a0 :: a1 :: a2 :: a3 :: a4 :: a5 :: a6 :: a7 :: a8 :: a9 :: b0 :: some v :: ρ) H Q := ⟨v, rfl, h⟩
theorem wV12 (h : Q v H) : tVar 12 (a0 :: a1 :: a2 :: a3 :: a4 :: a5 :: a6 :: a7 :: a8 :: a9 :: b0 :: b1 :: some v :: ρ) H Q := ⟨v, rfl, h⟩
theorem wV13 (h : Q v H) : tVar 13 (a0 :: a1 :: a2 :: a3 :: a4 :: a5 :: a6 :: a7 :: a8 :: a9 :: b0 :: b1 :: b2 :: some v :: ρ) H Q := ⟨v, rfl, h⟩
theorem wV14 (h : Q v H) : tVar 14 (a0 :: a1 :: a2 :: a3 :: a4 :: a5 :: a6 :: a7 :: a8 :: a9 :: b0 :: b1 :: b2 :: b3 :: some v :: ρ) H Q := ⟨v, rfl, h⟩
theorem wC (h : Q v H) : tC v σ H Q := h
theorem wOp (h : ta σ H fun x H1 => tb σ H1 fun y H2 => r x y H2 Q) : tOp r ta tb σ H Q := h
theorem wUn {rr : V → Hp → VK → Prop} (h : ta σ H fun x H1 => rr x H1 Q) : tUn rr ta σ H Q := h
theorem wNeg (h : Q (.int (-i)) H) : rU (fun i => .int (-i)) (.int i) H Q := ⟨i, rfl, h⟩
theorem wI0 {f : Int → Int → V} (h : Q (f i j) H) : rI0 f (.int i) (.int j) H Q := ⟨i, j, rfl, rfl, h⟩
theorem wI {C : Int → Int → Prop} {f : Int → Int → V} (c : C i j) (h : Q (f i j) H) : rI C f (.int i) (.int j) H Q := ⟨i, j, rfl, rfl, c, h⟩
theorem wOr1 (h : r v w H Q) : rOr r r' v w H Q := .inl h
theorem wOr2 (h : r' v w H Q) : rOr r r' v w H Q := .inr h
theorem wNil (h : QA [] H) : tNil σ H QA := h
theorem wCons (h : ta σ H fun x H1 => ts σ H1 fun xs H2 => QA (x :: xs) H2) : tCons ta ts σ H QA := h
theorem wCB {rr : List V → Hp → VK → Prop} (h : ts σ H fun vs H1 => rr vs H1 Q) : tCB rr ts σ H Q := h
theorem wTest (h : te σ H fun x H' => ∃ k, x = .bl k ∧ QB k H') : tTest te σ H QB := h
theorem wBl {b : Bool} {QP : Bool → Prop} (h : QP b) : ∃ k, V.bl b = .bl k ∧ QP k := ⟨b, rfl, h⟩
theorem wTruN (h : te σ H fun x H' => ∃ k, TruV K x H' k ∧ QB k H') : rTru K te σ H QB := h
theorem wTbl {b : Bool} {QP : Bool → Prop} (h : QP b) : ∃ k, TruV K (.bl b) H k ∧ QP k := ⟨b, rfl, h⟩
theorem wTint {QP : Bool → Prop} (h : QP (i != 0)) : ∃ k, TruV K (.int i) H k ∧ QP k := ⟨_, rfl, h⟩
theorem wTnon {QP : Bool → Prop} (h : QP false) : ∃ k, TruV K .non H k ∧ QP k := ⟨_, rfl, h⟩
theorem wTlst {a : Addr} {xs : List V} (s : SqL K H a xs) {QP : Bool → Prop} (h : QP (!xs.isEmpty)) : ∃ k, TruV K (.ref a) H k ∧ QP k := ⟨_, .inl ⟨xs, s, rfl⟩, h⟩
theorem wTtup {a : Addr} {xs : List V} (s : SqT K H a xs) {QP : Bool → Prop} (h : QP (!xs.isEmpty)) : ∃ k, TruV K (.ref a) H k ∧ QP k := ⟨_, .inr (.inl ⟨xs, s, rfl⟩), h⟩
theorem wNot (h : tt σ H fun c H1 => QB (!c) H1) : tNot tt σ H QB := h
theorem wAnd (h : tt σ H fun c H1 => if c = true then tt' σ H1 QB else QB false H1) : tAnd tt tt' σ H QB := h
theorem wOrb (h : tt σ H fun c H1 => if c = true then QB true H1 else tt' σ H1 QB) : tOr tt tt' σ H QB := h
theorem wAndT (h : ta σ H fun x H1 => ∃ k, TruV K x H1 k ∧ if k = true then tb σ H1 Q else Q x H1) : tAndT K ta tb σ H Q := h
theorem wOrT (h : ta σ H fun x H1 => ∃ k, TruV K x H1 k ∧ if k = true then Q x H1 else tb σ H1 Q) : tOrT K ta tb σ H Q := h
theorem wNotT (h : ta σ H fun x H1 => ∃ k, TruV K x H1 k ∧ Q (.bl (!k)) H1) : tNotT K ta σ H Q := h
theorem wTIf (h : tt σ H fun c H1 => if c = true then ta σ H1 Q else tb σ H1 Q) : tIf tt ta tb σ H Q := h
theorem wChain (h : ta σ H fun x H1 => tb σ H1 fun y H2 => r x y H2 fun z H3 => ∃ k, z = .bl k ∧ (if k = true then tc σ H3 fun w' H4 => r' y w' H4 Q else Q (.bl false) H3)) : tChain r r' ta tb tc σ H Q := h
theorem wIfT {b : Bool} {A B : Prop} (e : b = true) (h : A) : if b = true then A else B := by rw [if_pos e]; exact h
theorem wIfF {b : Bool} {A B : Prop} (e : b = false) (h : B) : if b = true then A else B := by rw [if_neg (by rw [e]; exact Bool.false_ne_true)]; exact h
theorem wIf {b : Bool} {A B : Prop} (h : b = true → A) (h' : b = false → B) : if b = true then A else B := by
  cases b with
  | true => exact wIfT rfl (h rfl)
  | false => exact wIfF rfl (h' rfl)
theorem wIfD {p : Prop} [Decidable p] {A B : Prop} (h : p → A) (h' : ¬ p → B) : if decide p = true then A else B := wIf (fun e => h (of_decide_eq_true e)) fun e => h' (of_decide_eq_false e)
theorem wIfND {p : Prop} [Decidable p] {A B : Prop} (h : ¬ p → A) (h' : p → B) : if (!decide p) = true then A else B := wIf (fun e => h (by simpa using e)) fun e => h' (by simpa using e)
theorem wEqII (h : Q (.bl (decide (i = j))) H) : rEq (.int i) (.int j) H Q := ⟨rfl, by
  have e : decide (V.int i = V.int j) = decide (i = j) := by
    by_cases q : i = j
    · rw [q, decide_eq_true rfl, decide_eq_true rfl]
    · rw [decide_eq_false q, decide_eq_false (fun z => q (by injection z))]
  rw [e]; exact h⟩
theorem wNeII (h : Q (.bl (!decide (i = j))) H) : rNe (.int i) (.int j) H Q := ⟨rfl, by
  have e : decide (V.int i = V.int j) = decide (i = j) := by
    by_cases q : i = j
    · rw [q, decide_eq_true rfl, decide_eq_true rfl]
    · rw [decide_eq_false q, decide_eq_false (fun z => q (by injection z))]
  rw [e]; exact h⟩
theorem wEqS {x y : V} (s : scal x y = true) (h : Q (.bl (decide (x = y))) H) : rEq x y H Q := ⟨s, h⟩
theorem wNeS {x y : V} (s : scal x y = true) (h : Q (.bl (!decide (x = y))) H) : rNe x y H Q := ⟨s, h⟩
theorem wIsN {x : V} (h : Q (.bl (decide (x = .non))) H) : rIsN x .non H Q := ⟨rfl, h⟩
theorem wNotN {x : V} (h : Q (.bl (!decide (x = .non))) H) : rNotN x .non H Q := ⟨rfl, h⟩
theorem wIsB {b c : Bool} (h : Q (.bl (decide (b = c))) H) : rIsB (.bl b) (.bl c) H Q := ⟨b, c, rfl, rfl, h⟩
theorem wNotB {b c : Bool} (h : Q (.bl (!decide (b = c))) H) : rNotB (.bl b) (.bl c) H Q := ⟨b, c, rfl, rfl, h⟩
theorem wIntI (h : Q (.int i) H) : rInt [.int i] H Q := .inl ⟨i, rfl, h⟩
theorem wAbs (h : Q (.int (if i < 0 then -i else i)) H) : rAbs [.int i] H Q := ⟨i, rfl, h⟩
variable {a b : Addr} {xs ys : List V} {o : HO}
theorem wLenL (s : SqL K H a xs) (h : Q (.int xs.length) H) : rLen K [.ref a] H Q := ⟨_, _, rfl, .inl ⟨_, s, rfl⟩, h⟩
theorem wLenT (s : SqT K H a xs) (h : Q (.int xs.length) H) : rLen K [.ref a] H Q := ⟨_, _, rfl, .inr ⟨_, s, rfl⟩, h⟩
theorem wLenS {z : Str} (s : z.length ≤ sizeLine) (h : Q (.int z.length) H) : rLen K [.str z] H Q := ⟨_, _, rfl, ⟨s, rfl⟩, h⟩
theorem wIxL (s : SqL K H a xs) (e : atI xs i = some v) (h : Q v H) : rIx K (.ref a) (.int i) H Q := .inl ⟨a, xs, i, v, rfl, rfl, s, e, h⟩
theorem wIxT (s : SqT K H a xs) (e : atI xs i = some v) (h : Q v H) : rIx K (.ref a) (.int i) H Q := .inr (.inl ⟨a, xs, i, v, rfl, rfl, s, e, h⟩)
theorem wIxS {z : Str} {c : Nat} (n : z.length ≤ sizeLine) (e : atI z.cps.toList i = some c) (h : Q (.str ⟨#[c]⟩) H) : rIx K (.str z) (.int i) H Q := .inr (.inr ⟨z, i, c, rfl, rfl, n, e, h⟩)
theorem SqT.of {K : PySem.W.Frag} {H : Hp} {a : Addr} {xs : List V} (h : H a = some (.tup xs)) : SqT K H a xs := .inl (.inl h)
/-- from the ledger -/
theorem Fx.lst (F : Fx H L) (m : En.ob a (.lst xs) ∈ L) : SqL K H a xs := SqL.of (F.get m)
theorem Fx.tup (F : Fx H L) (m : En.ob a (.tup xs) ∈ L) : SqT K H a xs := SqT.of (F.get m)
theorem Fx.frz {ob : Obj} (F : Fx H L) (m : En.ob a (.frz ob (.lst xs)) ∈ L) : SqL K H a xs := .inl (.inr ⟨ob, F.get m⟩)
/-- new objects -/
theorem wNewF (F : Fx H L) (k : ∀ p H', Fx H' (.ob p o :: L) → Q (.ref p) H') : ∀ p, H p = none → Q (.ref p) (upd H p o) := fun p n => k p _ (F.new n)
theorem wTup (n : xs.length ≤ 1000) (F : Fx H L) (k : ∀ p H', Fx H' (.ob p (.tup xs) :: L) → Q (.ref p) H') : NewT xs H Q := ⟨Nat.le_of_lt (small1000 n), wNewF F k⟩
theorem wLst (n : xs.length ≤ 1000) (F : Fx H L) (k : ∀ p H', Fx H' (.ob p (.lst xs) :: L) → Q (.ref p) H') : NewL xs H Q := ⟨Nat.le_of_lt (small1000 n), wNewF F k⟩
theorem wTTup (h : ts σ H fun xs H1 => NewT xs H1 Q) : tTup ts σ H Q := h
theorem wTLst (h : ts σ H fun xs H1 => NewL xs H1 Q) : tLst ts σ H Q := h
theorem wListL (s : SqL K H a xs) (F : Fx H L) (k : ∀ p H', Fx H' (.ob p (.lst xs) :: L) → Q (.ref p) H') : rList K [.ref a] H Q := ⟨a, xs, rfl, .inl s, wNewF F k⟩
theorem wListT (s : SqT K H a xs) (F : Fx H L) (k : ∀ p H', Fx H' (.ob p (.lst xs) :: L) → Q (.ref p) H') : rList K [.ref a] H Q := ⟨a, xs, rfl, .inr s, wNewF F k⟩
theorem wTupleL (s : SqL K H a xs) (F : Fx H L) (k : ∀ p H', Fx H' (.ob p (.tup xs) :: L) → Q (.ref p) H') : rTuple K [.ref a] H Q := ⟨a, xs, rfl, .inl ⟨s, wNewF F k⟩⟩
theorem wTupleT (s : SqT K H a xs) (h : Q (.ref a) H) : rTuple K [.ref a] H Q := ⟨a, xs, rfl, .inr ⟨s, h⟩⟩
/-- xs.append(v) -/
theorem wBM {T : String} {rr : V → List V → Hp → VK → Prop} (h : ta σ H fun x H1 => tyV K T x H1 ∧ ts σ H1 fun xs H2 => rr x xs H2 Q) : tBM K T rr ta ts σ H Q := h
theorem wBM0 {T : String} {rr : V → List V → Hp → VK → Prop} (h : ta σ H fun x H1 => tyV K T x H1 ∧ rr x [] H1 Q) : tBM0 K T rr ta σ H Q := h
theorem wTyL (s : SqL K H a xs) {B : Prop} (h : B) : tyV K "list" (.ref a) H ∧ B := ⟨.inl ⟨rfl, _, s⟩, h⟩
theorem wApp {L' : List En} (F : Fx H L) (m : En.ob a (.lst xs) ∈ L) (pt : Put a (.lst (xs ++ [v])) L L') (n : xs.length < sizeLine) (k : ∀ H', Fx H' L' → Q .non H') : rAppend (.ref a) [v] H Q :=
  ⟨a, xs, v, rfl, rfl, F.get m, n, k _ (F.put pt)⟩
theorem wPopAt {L' : List En} {n : Nat} (F : Fx H L) (m : En.ob a (.lst xs) ∈ L) (pt : Put a (.lst (xs.eraseIdx n)) L L') (h1 : -(2 ^ 63) ≤ i) (h2 : i < 2 ^ 63) (hi : seqIndex? i xs.length = some n) (hv : xs[n]? = some v) (k : ∀ H', Fx H' L' → Q v H') : rPopAt (.ref a) [.int i] H Q :=
  ⟨a, xs, i, n, v, rfl, rfl, F.get m, h1, h2, hi, hv, k _ (F.put pt)⟩
/-- a[i] = v -/
theorem wGSub {to ti : TE} {ts : TSet} (h : to σ H fun o H1 => ti σ H1 fun i H2 => ts o i v H2 fun H3 => N σ H3) : gSub to ti ts v σ H N := h
theorem wSetL {L' : List En} {QH : Hp → Prop} {n : Nat} (F : Fx H L) (m : En.ob a (.lst xs) ∈ L) (e : ixN xs.length i = some n) (pt : Put a (.lst (xs.set n v)) L L') (k : ∀ H', Fx H' L' → QH H') : rSetL (.ref a) (.int i) v H QH :=
  ⟨a, xs, i, n, rfl, rfl, F.get m, e, k _ (F.put pt)⟩
/-- calls -/
theorem wCall0 {sp : Sp} {E : XK} (h : ts σ H fun vs H1 => sp vs H1 Q E) : tCall sp [] E ts σ H Q := by unfold tCall; simpa only [List.append_nil] using h
theorem wCallD {sp : Sp} {E : XK} {d : V} {ds : List V} (h : ts σ H fun vs H1 => sp (vs ++ (d :: ds)) H1 Q E) : tCall sp (d :: ds) E ts σ H Q := h
/-- promises by the number of their arguments -/
def Sp1 (f : V → Hp → VK → XK → Prop) : Sp := fun vs H Q E => ∃ a, vs = [a] ∧ f a H Q E
def Sp2 (f : V → V → Hp → VK → XK → Prop) : Sp := fun vs H Q E => ∃ a b, vs = [a, b] ∧ f a b H Q E
def Sp3 (f : V → V → V → Hp → VK → XK → Prop) : Sp := fun vs H Q E => ∃ a b c, vs = [a, b, c] ∧ f a b c H Q E
def Sp4 (f : V → V → V → V → Hp → VK → XK → Prop) : Sp := fun vs H Q E => ∃ a b c d, vs = [a, b, c, d] ∧ f a b c d H Q E
theorem wSp1 {f : V → Hp → VK → XK → Prop} {E : XK} {x : V} (h : f x H Q E) : Sp1 f [x] H Q E := ⟨x, rfl, h⟩
theorem wSp2 {f : V → V → Hp → VK → XK → Prop} {E : XK} {x y : V} (h : f x y H Q E) : Sp2 f [x, y] H Q E := ⟨x, y, rfl, h⟩
theorem wSp3 {f : V → V → V → Hp → VK → XK → Prop} {E : XK} {x y z : V} (h : f x y z H Q E) : Sp3 f [x, y, z] H Q E := ⟨x, y, z, rfl, h⟩
theorem wSp4 {f : V → V → V → V → Hp → VK → XK → Prop} {E : XK} {x y z z' : V} (h : f x y z z' H Q E) : Sp4 f [x, y, z, z'] H Q E := ⟨x, y, z, z', rfl, h⟩
/-- loops -/
theorem wListI {R : It → Hp → Prop} {tl : TE} (h : tl σ H fun x H1 => ∃ a, x = .ref a ∧ (∃ xs, SqL K H1 a xs) ∧ R (Itl K a) H1) : iList K tl σ H R := h
theorem wForL {tb : TS} (s : SqL K H a xs) (Pv : Nat → St → Hp → Prop) (h0 : Pv 0 σ H) (hl : ∀ i σ H, i ≤ xs.length → Pv i σ H → SqL K H a xs)
    (hs : ∀ i x σ H, xs[i]? = some x → Pv i σ H → g x σ H fun σ2 H2 => tb ⟨Pv (i + 1), rt, nx, Pv (i + 1)⟩ σ2 H2) (hd : ∀ σ H, Pv xs.length σ H → nx σ H) :
    ∃ a', V.ref a = .ref a' ∧ (∃ xs, SqL K H a' xs) ∧ ∃ W : Nat → Nat → St → Hp → Prop, (∃ m, W 0 m σ H) ∧ ∀ i m σ H, W i m σ H →
  ((Itl K a').stop i H ∧ nx σ H) ∨ ((Itl K a').go i H ∧ ∃ N : St → Hp → Prop, (∀ σ' H', N σ' H' → ∃ m', m' < m ∧ W (i + 1) m' σ' H') ∧ ∀ x H', (Itl K a').yld i H x H' → g x σ H' fun σ2 H2 => tb ⟨N, rt, nx, N⟩ σ2 H2) :=
  ⟨a, rfl, ⟨xs, s⟩, for_list (D := ⟨nx, rt, fun _ _ => False, fun _ _ => False⟩) Pv h0 hl hs hd⟩
end
end Z

set_option Elab.async false
set_option linter.all false
set_option maxRecDepth 100000
namespace Z
open PySem L2
/-! ### kinds of things -/
inductive Kd where
  | non | bl | int | str | lst | tup | dct
def Kd.ty : Kd → Value
  | .non => .type "NoneType"
  | .bl => .type "bool"
  | .int => .type "int"
  | .str => .type "str"
  | .lst => .type "list"
  | .tup => .type "tuple"
  | .dct => .type "dict"
/-- isinstance's answers -/
def Kd.isInt : Kd → Bool | .int => true | .bl => true | _ => false
def Kd.isBool : Kd → Bool | .bl => true | _ => false
def Kd.isStr : Kd → Bool | .str => true | _ => false
def Kd.isList : Kd → Bool | .lst => true | _ => false
def Kd.isTuple : Kd → Bool | .tup => true | _ => false
inductive HasK (K : PySem.W.Frag) (H : Hp) : V → Kd → Prop where
  | non : HasK K H .non .non
  | bl (b : Bool) : HasK K H (.bl b) .bl
  | int (i : Int) : HasK K H (.int i) .int
  | str (z : Str) : HasK K H (.str z) .str
  | lst {a : Addr} {xs : List V} (s : SqL K H a xs) : HasK K H (.ref a) .lst
  | tup {a : Addr} {xs : List V} (s : SqT K H a xs) : HasK K H (.ref a) .tup
  | dct {a : Addr} {kvs : List (Key × V)} (e : H a = some (.dK kvs)) : HasK K H (.ref a) .dct
section
variable {K : PySem.W.Frag} {H H' : Hp} {x : V} {k : Kd} {Q : VK} {L : List En} {a p : Addr}
theorem HasK.tyx (h : HasK K H x k) : TyX K H x k.ty := by
  cases h with
  | non => exact .base .non
  | bl b => exact .base (.bl b)
  | int i => exact .base (.int i)
  | str z => exact .base (.str z)
  | lst s =>
    rcases s with (h | ⟨o, h⟩) | ⟨o, its, n, h1, h2, _⟩
    · exact .base (.lst h)
    · exact .base (.frz h)
    · exact .kList h1 h2
  | tup s =>
    rcases s with (h | ⟨o, h⟩) | h
    · exact .base (.tup h)
    · exact .fTuple h
    · obtain ⟨o, its, n, h1, h2, _⟩ := h
      exact .kTuple h1 h2
  | dct e => exact .base (.dK e)
theorem HasK.mono (h : HasK K H x k) (e : Same H H') : HasK K H' x k := by
  cases h with
  | non => exact .non
  | bl b => exact .bl b
  | int i => exact .int i
  | str z => exact .str z
  | lst s => exact .lst (e.seq s)
  | @tup b ys s =>
    have s' : SqT K H' b ys := by
      rcases s with (h | ⟨o, h⟩) | h
      · exact .inl (.inl (e _ _ h))
      · exact .inl (.inr
            ⟨o, e _ _ h⟩)
      · exact .inr h
    exact .tup s'
  | dct h => exact .dct (e _ _ h)
theorem kit_int : PySem.W.kitOne K k.ty (.type "int") = some k.isInt := by cases k <;> exact kit_ty (by decide +kernel)
theorem kit_bool : PySem.W.kitOne K k.ty (.type "bool") = some k.isBool := by cases k <;> exact kit_ty (by decide +kernel)
theorem kit_str : PySem.W.kitOne K k.ty (.type "str") = some k.isStr := by cases k <;> exact kit_ty (by decide +kernel)
theorem kit_list : PySem.W.kitOne K k.ty (.type "list") = some k.isList := by cases k <;> exact kit_ty (by decide +kernel)
theorem kit_tuple : PySem.W.kitOne K k.ty (.type "tuple") = some k.isTuple := by cases k <;> exact kit_ty (by decide +kernel)
theorem wIsiInt (h : HasK K H x k) (q : Q (.bl k.isInt) H) : rOrC (rIsi K) (rIsiT K) [x, .ty "int"] H Q := .inl ⟨x, _, _, _, _, rfl, .ty _, h.tyx, kit_int, q⟩
theorem wIsiBool (h : HasK K H x k) (q : Q (.bl k.isBool) H) : rOrC (rIsi K) (rIsiT K) [x, .ty "bool"] H Q := .inl ⟨x, _, _, _, _, rfl, .ty _, h.tyx, kit_bool, q⟩
theorem wIsiStr (h : HasK K H x k) (q : Q (.bl k.isStr) H) : rOrC (rIsi K) (rIsiT K) [x, .ty "str"] H Q := .inl ⟨x, _, _, _, _, rfl, .ty _, h.tyx, kit_str, q⟩
theorem wIsiList (h : HasK K H x k) (q : Q (.bl k.isList) H) : rOrC (rIsi K) (rIsiT K) [x, .ty "list"] H Q := .inl ⟨x, _, _, _, _, rfl, .ty _, h.tyx, kit_list, q⟩
theorem wIsiTuple (h : HasK K H x k) (q : Q (.bl k.isTuple) H) : rOrC (rIsi K) (rIsiT K) [x, .ty "tuple"] H Q := .inl ⟨x, _, _, _, _, rfl, .ty _, h.tyx, kit_tuple, q⟩
theorem wIsiLT (h : HasK K H x k) (F : Fx H L) (m : En.ob p (.tup [.ty "list", .ty "tuple"]) ∈ L) (q : Q (.bl (k.isList || k.isTuple)) H) : rOrC (rIsi K) (rIsiT K) [x, .ref p] H Q :=
  .inr ⟨x, p, _, _, _, _, rfl, F.get m, .cons (.ty _) (.cons (.ty _) .nil), h.tyx, kitAny_cons kit_list (fun e => by rw [e]; exact kitAny_cons kit_tuple (fun e => by rw [e]; exact kitAny_nil) (fun e => by rw [e]; rfl)) (fun e => by rw [e]; rfl), q⟩
/-- a whole number within bounds, by is_whole's own words -/
def inB (x : V) (lo hi : V) : Bool := match x with
  | .int i => (match lo with | .int l => decide (l ≤ i) | _ => true) && (match hi with | .int h => decide (i ≤ h) | _ => true)
  | _ => false
end
/-! ### a fact of the heap as an entry: a sequence of the script's kind -/
theorem seq_keep {K : PySem.W.Frag} {H : Hp} {a : Addr} {xs : List V} (s : SqL K H a xs) (L : List En) (F : Fx H L) (n : a ∉ L.flatMap En.fp) : ∃ L0 : List En, Fx H (L0 ++ L) ∧ ∀ H' L', Fx H' (L' ++ (L0 ++ L)) → SqL K H' a xs := by
  rcases s with (h | ⟨o, h⟩) | h
  · exact ⟨[.ob a (.lst xs)], F.add h n, fun H' L' F' => .inl (.inl (F'.get (List.mem_append_right _ (List.mem_append_left _ List.mem_cons_self))))⟩
  · exact ⟨[.ob a (.frz o (.lst xs))], F.add h n, fun H' L' F' => .inl (.inr ⟨o, F'.get (List.mem_append_right _ (List.mem_append_left _ List.mem_cons_self))⟩)⟩
  · exact ⟨[], F, fun H' L' F' => .inr h⟩
end Z
namespace Z
open PySem L2
theorem Fx.perm {H : Hp} {L L' : List En} (F : Fx H L) (p : L.Perm L') : Fx H L' := by
  refine ⟨fun e he => F.1 e (p.mem_iff.mpr he), ?_⟩
  have q : (L.flatMap En.fp).Perm (L'.flatMap En.fp) := by
    induction p with
    | nil => exact List.Perm.refl _
    | cons x _ ih =>
      rw [List.flatMap_cons, List.flatMap_cons]
      exact (ih ⟨fun e he => F.1 e (List.mem_cons_of_mem _ he), (List.nodup_append.mp (by have := F.2; rwa [List.flatMap_cons] at this)).2.1⟩).append_left _
    | swap x y l =>
      rw [List.flatMap_cons, List.flatMap_cons, List.flatMap_cons, List.flatMap_cons, ← List.append_assoc, ← List.append_assoc]
      exact List.perm_append_comm.append_right _
    | trans p1 p2 ih1 ih2 =>
      have q1 := ih1 F
      exact q1.trans (ih2 ⟨fun e he => F.1 e (p1.mem_iff.mpr he), q1.nodup_iff.mp F.2⟩)
  exact q.nodup_iff.mp F.2
/-- the draws' list, opened and shut again -/
theorem Fx.open {H : Hp} {L : List En} {l c : Addr} (F : Fx H L) (hm : En.hand l c ∈ L) : ∃ (ns : List Int) (i j t : Int) (L1 : List En), 0 ≤ i ∧ Fx H (.ob l (.lst [.ref c, .int i, .int j, .int t]) :: .ob c (.lst (ns.map V.int)) :: L1) ∧
    ∀ H' (ns' : List Int) (i' j' t' : Int), 0 ≤ i' → Fx H' (.ob l (.lst [.ref c, .int i', .int j', .int t']) :: .ob c (.lst (ns'.map V.int)) :: L1) → Fx H' L := by
  obtain ⟨ns, i, j, t, h0, h1, h2⟩ := F.gh hm
  obtain ⟨A, B, rfl⟩ := List.append_of_mem hm
  have G := F.perm List.perm_middle
  refine ⟨ns, i, j, t, A ++ B, h0, ⟨fun e he => ?_, G.2⟩, fun H' ns' i' j' t' h0' G' => ?_⟩
  · rcases List.mem_cons.mp he with e1 | he
    · subst e1; exact h1
    · rcases List.mem_cons.mp he with e1 | he
      · subst e1; exact h2
      · exact G.1 e (List.mem_cons_of_mem _ he)
  · have G2 : Fx H' (.hand l c :: (A ++ B)) := by
      refine ⟨fun e he => ?_, G'.2⟩
      rcases List.mem_cons.mp he with e1 | he
      · subst e1
        exact ⟨ns', i', j', t', h0', G'.get List.mem_cons_self, G'.get (List.mem_cons_of_mem _ List.mem_cons_self)⟩
      · exact G'.1 e (List.mem_cons_of_mem _ (List.mem_cons_of_mem _ he))
    exact G2.perm List.perm_middle.symm
theorem at_ints {ns : List Int} {i : Nat} (h : i < ns.length) : atI (ns.map V.int) (i : Int) = some (V.int (ns.getD i 0)) := by
  have e : (ns.map V.int)[i]? = some (V.int (ns.getD i 0)) := by
    rw [List.getElem?_map, List.getElem?_eq_getElem h,
          List.getD_eq_getElem?_getD, List.getElem?_eq_getElem h]
    rfl
  exact at_of rfl e

theorem ixN_of {n : Nat} {k : Int} (h0 : 0 ≤ k) (h1 : k < n) : ixN n k = some k.toNat := by
  unfold ixN
  rw [if_pos h0, if_pos h1]
theorem at_intsI {ns : List Int} {k : Int} (h0 : 0 ≤ k) (h1 : k < ns.length) : atI (ns.map V.int) k = some (V.int (ns.getD k.toNat 0)) := by
  have e : k = ((k.toNat : Nat) : Int) := (Int.toNat_of_nonneg h0).symm
  have h2 : k.toNat < ns.length := by omega
  have q := at_ints (ns := ns) h2
  rw [← e] at q
  exact q
section
variable {K : PySem.W.Frag} {H : Hp} {Q : VK} {L : List En} {a : Addr} {ns : List Int} {k : Int} {xs : List V}
theorem wIxLi (s : SqL K H a (ns.map V.int)) (h0 : 0 ≤ k) (h1 : k < ns.length) (h : Q (.int (ns.getD k.toNat 0)) H) : rIx K (.ref a) (.int k) H Q := wIxL s (at_intsI h0 h1) h
theorem wIxTi (s : SqT K H a (ns.map V.int)) (h0 : 0 ≤ k) (h1 : k < ns.length) (h : Q (.int (ns.getD k.toNat 0)) H) : rIx K (.ref a) (.int k) H Q := wIxT s (at_intsI h0 h1) h
theorem wLenLi (s : SqL K H a (ns.map V.int)) (h : Q (.int ns.length) H) : rLen K [.ref a] H Q := by
  have := wLenL (Q := Q) s
  rw [List.length_map] at this
  exact this h
theorem wLenTi (s : SqT K H a (ns.map V.int)) (h : Q (.int ns.length) H) : rLen K [.ref a] H Q := by
  have := wLenT (Q := Q) s
  rw [List.length_map] at this
  exact this h
end

theorem log_small {m : Int} (h0 : 0 ≤ m) (h1 : m < 1000000000000) : m.natAbs.log2 < 9000 := by
  have h2 : m.natAbs < 2 ^ 40 := by omega
  exact Nat.lt_of_lt_of_le (PySem.Flt.log2_lt_of (by decide) h2) (by decide)

theorem int_of_map {ns : List Int} {i : Nat} {x : V} (h : (ns.map V.int)[i]? = some x) : ∃ z, x = V.int z := by
  rw [List.getElem?_map] at h
  cases e : ns[i]? with
  | none => rw [e]
        at h; cases h
  | some z => rw [e] at h; exact ⟨z, (Option.some.inj h).symm⟩
theorem int_of_map' {ns : List Int} {i : Nat} {x : V} (h : (ns.map V.int)[i]? = some x) : ∃ z, x = V.int z ∧ ns[i]? = some z := by
  rw [List.getElem?_map] at h
  cases e : ns[i]? with
  | none => rw [e]
        at h; cases h
  | some z => rw [e] at h; exact ⟨z, (Option.some.inj h).symm, rfl⟩
theorem line_big : 1000000 ≤ sizeLine := by rw [sizeLine_eq]; decide
end Z

set_option Elab.async false
set_option linter.all false
set_option maxRecDepth 100000
set_option maxHeartbeats 2000500
namespace Z
open PySem L2 PySem.W
/-! ### == and != of an instance by its class's own __eq__ -/
section
variable {prog : Program} {w : World} {A : Around} {E : Value → Shared → Prop} {s : Shared} {K : Frag} {x C L f : Addr} {h₀ : Heap} {m : Str → Option Value} {ox : Obj} {od : Option Obj} {b tb : Value}
theorem ifBound_ne {args : List Value} {Q : Option Value → Shared → Prop} (X : K.In s.heap) (I : InstAt s.heap x ox C od) (hs : findIn K (.ref C) "__ne__" = some (some (.builtin "object.__ne__")))
    (h : wpAny (model prog w) A (call (.builtin "object.__ne__") (.ref x :: args)) (fun v => Q (some v)) E s) : wpAny (model prog w) A (callSpecialIfBound? (.ref x) "__ne__" args) Q E s := by
  simp only [callSpecialIfBound?,
        bindSpecialIfBound?]
  refine wpAny_holding (wpAny_bind (wpAny_bind (wpAny_bind
        (I.type.here ((looks_findIn X hs).here ?_)))))
  refine wpAny_bind
        (wpAny_askSetting (wpAny_ite ?_))
  have fin : wpAny (model prog w) A (call (.builtin "object.__ne__") ([.ref x] ++ args) >>= fun v => pure (some v)) Q E s := wpAny_bind (wpAny_mono h (fun v s' h' => wpAny_pure h') fun _ _ h' => h')
  have S := F.cmp_object.ne
  split
  · simp only [S.bind]
    exact wpAny_bind (wpAny_pure (wpAny_pure (by exact fin)))
  · simp only [S.bind]
    exact wpAny_tryCatch (wpAny_bind (wpAny_pure (wpAny_pure (by exact fin))))

theorem cmp_one {op : CmpOp} {Q : Value → Shared → Prop} (hu : A.units < cLine) (X : K.In s.heap) (I : InstAt s.heap x ox C od) (hb : Looks (model prog w) s.heap (typeOf b) tb) (hn : notFirst K C tb = true)
    (one : wpAny (model prog w) A (tryCompare (.ref x) (cmpInfo op).2.1 b) (fun r s' => ∃ v, r = some v ∧ Q v s') E s) : wpAny (model prog w) A (richCompare op (.ref x) b) Q E s := by
  unfold richCompare
  simp only [oneThing_ref]
  refine wpAny_holding (wpAny_bind
        (wpAny_cRoomFor hu ?_))
  refine wpAny_bind (I.type.here
        (wpAny_bind (hb.here ?_)))
  split
  · rename_i q
    have e : subIn K tb (.ref
          C) = some false := by
      rcases Bool.or_eq_true_iff.mp
            hn with e | e
      · rw [beq_iff_eq.mp
            e] at q; simp at q
      · exact beq_iff_eq.mp e
    refine wpAny_bind
          ((looks_subIn X e).here ?_)
    simp only [Bool.false_eq_true,
          if_false]
    refine wpAny_bind (wpAny_mono one
          (fun r s' z => ?_) fun _ _ e => e)
    obtain ⟨v, rfl, hq⟩ := z
    exact wpAny_pure hq
  · refine wpAny_bind
        (wpAny_pure ?_)
    simp only [Bool.false_eq_true,
          if_false]
    refine wpAny_bind (wpAny_mono one
          (fun r s' z => ?_) fun _ _ e => e)
    obtain ⟨v, rfl, hq⟩ := z
    exact wpAny_pure hq
theorem ne_entry {Q : Fin → Shared → Prop} (hu : A.units < cLine) (X : K.In s.heap) (I : InstAt s.heap x ox C od) (hs : findIn K (.ref C) "__eq__" = some (some (.ref f))) (hf : isFn K (.ref f) = true)
    (h : wpAny (model prog w) A (call (.ref f) [.ref x, b]) (fun v s' => ∃ r : Bool, v = .bool r ∧ Q (.done (.ret (.bool (!r)))) s') E s) : wpAny (model prog w) A (Builtin.«object.__ne__» ⟨[.ref x, b], []⟩) Q E s := by
  have key : wpAny (model prog w) A (callSpecialIfBound? (.ref x) "__eq__" [b]) (fun o s' => ∃ r : Bool, o = some (.bool r) ∧ Q (.done (.ret (.bool (!r)))) s') E s := by
    refine ifBound_K X I hs hf (wpAny_mono h (fun v s' hv => ?_) fun _ _ e => e)
    obtain ⟨r, rfl, q⟩ := hv
    exact ⟨r, rfl, q⟩
  unfold
        Builtin.«object.__ne__»
  show wpAny (model prog w) A (cRoomFor "comparison" [.ref x, b] >>= _) Q E s
  refine wpAny_bind
        (wpAny_cRoomFor hu ?_)
  refine wpAny_bind (wpAny_mono key (fun o s' z => ?_) fun _ _ e => e)
  obtain ⟨r, rfl, q⟩ := z
  show wpAny (model prog w) A (truthy (.bool r) >>= _) Q E s'
  exact wpAny_bind (wpAny_truthy_bool (wpAny_pure q))
theorem cmp_Kne {Q : Value → Shared → Prop} (hu : A.units + 1 < cLine) (X : K.In s.heap) (I : InstAt s.heap x ox C od) (hb : Looks (model prog w) s.heap (typeOf b) tb) (hn : notFirst K C tb = true)
    (hne : findIn K (.ref C) "__ne__" = some (some (.builtin "object.__ne__"))) (hs : findIn K (.ref C) "__eq__" = some (some (.ref f))) (hf : isFn K (.ref f) = true) (hm : mroIn K C (.type "object") = some true)
    (h : wpAny (model prog w) A.in1 (call (.ref f) [.ref x, b]) (fun v s' => ∃ r : Bool, v = .bool r ∧ Q (.bool (!r)) s') E s) : wpAny (model prog w) A (richCompare .NotEq (.ref x) b) Q E s := by
  refine cmp_one (Nat.lt_of_succ_lt hu) X I hb hn ?_
  show wpAny (model prog w) A (tryCompare (.ref x) "__ne__" b) _ E s
  unfold tryCompare
  have sub : Looks (model prog w) s.heap (isInstance (.ref x) (.type "object")) true := I.type.andThen (looks_mroIn X hm)
  refine wpAny_bind (ifBound_ne X I hne (wpAny_call (codeAny_call_builtin F.cmp_object.ne.plain F.cmpEntry_ne (@check_slot (model prog w) _ _ s "object.__ne__" "object" "__ne__" (.ref x) [b] [] _ F.cmpKind_ne F.cmpSplit_ne sub (F.cmpArgs_ne _ _) ?_))))
  refine ne_entry (A := A.in1) hu X I hs hf (wpAny_mono h (fun v s' z => ?_) fun _ _ e => e)
  obtain ⟨r, rfl, q⟩ := z
  exact ⟨r, rfl, wpAny_pure ⟨_, rfl, q⟩⟩
end

structure OwnEqF (K : PySem.W.Frag) (C f : Addr) : Prop where
  eq : PySem.W.findIn K (.ref C) "__eq__" = some (some (.ref f))
  ne : PySem.W.findIn K (.ref C) "__ne__" = some (some (.builtin "object.__ne__"))
  fn : PySem.W.isFn
        K (.ref f) = true
  ob : PySem.W.mroIn K C (.type "object") = some true
def rOwn (K : PySem.W.Frag) (C : Addr) (sp : Sp) (g : Bool → Bool) : R2 := fun x y H Q => ∃ a dx fs tb, x = .ref a ∧ H a = some (.ins C dx fs) ∧ TyX K H y tb ∧ PySem.W.notFirst K C tb = true ∧ sp [x, y] H (fun v H' => ∃ b, v = .bl b ∧ Q (.bl (g b)) H') E0
section
variable {X : Cx} {k : Nat} {C f : Addr} {fd : FuncData} {ps : List Str} {sp : Sp}
theorem own_call {A : Around} {pins : List (Addr × Obj)} {σ : St} {H : Hp} {s : Shared} {Q : VK} {x y : V} {u v : Value} (F : FnOk X.prog X.w X.K X.mg X.base CX0 k f fd ps sp) (hb : Binds X.K fd ps []) (hr : Room k A) (hf : A.frames = X.A.frames)
    (I : L2.Inv X pins σ H s) (rx : RelV x u) (ry : RelV y v) (h : sp [x, y] H Q E0) : wpAny (model X.prog X.w) A (call (.ref f) [u, v]) (EP X pins σ Q) X.xe s := by
  have e0 : Env0 X.prog X.w X.K
        X.mg X.base A X.stack s H := by
    have e := I.env0
    exact ⟨by rw [hf]; exact e.frames, e.mod, e.bs, e.bsz, e.funs, e.frf, e.hok, e.bare⟩
  have hl := F.len _ _ _ _ h
  have r2 : Vals [x, y] [u, v] := .cons rx (.cons ry .nil)
  refine wpAny_call (codeAny_mono (F.run A X.stack s H ⟨[u, v], []⟩ [u, v] [x, y] _ E0 hr e0 (by
    have := hb s [u, v] I.kIn (by simpa using hl)
    simpa using this) r2 h) fun r s' hq => ?_)
  cases r with
  | error e => exact
        False.elim hq
  | ok fl =>
    cases fl with
    | ret w => exact I.after hq
    | next => exact False.elim hq
    | brk => exact False.elim hq
    | cont => exact False.elim hq
theorem op_eqOwn (F : FnOk X.prog X.w X.K X.mg X.base CX0 k f fd ps sp) (q : OwnEqF X.K C f) (hb : Binds X.K fd ps []) (hr : Room k X.A) : OpR X (compareOp .Eq) (rOwn X.K C sp id) := by
  intro pins s σ H x
        y v u Q I rx ry h
  obtain ⟨a, dx, fs, tb, rfl, ha, ty, nf, hsp⟩ := h
  cases rx
  obtain ⟨mA, J, _⟩
        := ins_get I.hok ha
  obtain ⟨od, J, _⟩ := J.look
  obtain ⟨P, Z, p, _⟩ := kit_of I ry ty
  show wpAny (model X.prog X.w) X.A (richCompare .Eq (.ref a) u) (EP X pins σ Q) X.xe s
  refine cmp_one hr.units0 I.kIn J (Z.ty _ _ I.kIn p) nf ?_
  show wpAny (model X.prog X.w) X.A (tryCompare (.ref a) "__eq__" u) _ X.xe s
  unfold tryCompare
  refine wpAny_bind (PySem.W.ifBound_K I.kIn J q.eq q.fn (wpAny_mono (own_call F hb hr rfl I (show RelV (V.ref a) (Value.ref a) from rfl) ry hsp) (fun v s' z => ?_) fun _ _ e => e))
  obtain ⟨v', H', I', rv, b, eb, hq⟩ := z
  subst eb
  cases rv
  exact wpAny_pure ⟨_, rfl, .bl b, H', I', rfl, hq⟩
theorem op_neOwn (F : FnOk X.prog X.w X.K X.mg X.base CX0 k f fd ps sp) (q : OwnEqF X.K C f) (hb : Binds X.K fd ps []) (hr : Room (k + 1) X.A) : OpR X (compareOp .NotEq) (rOwn X.K C sp not) := by
  intro pins s σ H x
        y v u Q I rx ry h
  obtain ⟨a, dx, fs, tb, rfl, ha, ty, nf, hsp⟩ := h
  cases rx
  obtain ⟨mA, J, _⟩
        := ins_get I.hok ha
  obtain ⟨od, J, _⟩ := J.look
  obtain ⟨P, Z, p, _⟩ := kit_of I ry ty
  show wpAny (model X.prog X.w) X.A (richCompare .NotEq (.ref a) u) (EP X pins σ Q) X.xe s
  refine cmp_Kne (by have := hr.units; omega) I.kIn J (Z.ty _ _ I.kIn p) nf q.ne q.eq q.fn q.ob (wpAny_mono (own_call F hb hr.in1 rfl I (show RelV (V.ref a) (Value.ref a) from rfl) ry hsp) (fun v s' z => ?_) fun _ _ e => e)
  obtain ⟨v', H', I', rv, b, eb, hq⟩ := z
  subst eb
  cases rv
  exact ⟨b, rfl, .bl (!b), H', I', rfl, hq⟩
end
end Z

set_option Elab.async false
set_option linter.all false
set_option maxRecDepth 100000
set_option maxHeartbeats 2000500
namespace Z
open PySem L2
/-! ### errors -/
/-- what the written part says of an error class: it is raised, caught by its own name -/
structure ErrF (K : PySem.W.Frag) (C : Addr) : Prop where
  oex : OexC K C
  xf : XfC K C
  me : PySem.W.exmOne K (.ref C) (.ref C) = some true
/-- its __init__ at fI -/
structure ErrI (K : PySem.W.Frag) (C fI : Addr) : Prop where
  iC : PySem.W.findIn K (.ref C) "__init__" = some (some (.ref fI))
  tI : PySem.W.typeIn K (.ref fI) = some (.type "function")
section
variable {X : Cx} {CX : CXT} {C fI : Addr} {k : Nat} {fd : FuncData} {ps : List Str} {sp : Sp} {ta : TA} {x : Str} {e : Expr} {es : List Expr} {p pos : Pos}
theorem pmk_err (T : ErrF X.K C) (iC : ErrI X.K C fI) (F1 : FnOk X.prog X.w X.K X.mg X.base CX0 k fI fd ps sp) (hb : Binds X.K fd ps []) (hr : Room (k + 1) X.A) (hm : X.mg x = some (.ref C)) (hg : Gl X x) (ha : PA X (e :: es) ta)
    (hdb : (x == ("__debug__" : Str)) = false := by decide) (he : starEach (e :: es) X.env = (false, eval e
          X.env) :: starEach es X.env := by rfl) (hpl : (backTo pos (starEach es X.env)).any (·.1) = false := by rfl) :
    PMk X (.Call (.Name x p) (e :: es) [] pos) (tMkO C sp [] ta) :=
  pmk_oex (dvs := []) (ds := []) T.oex iC.iC iC.tI F1 hr hb .nil (fun _ _ _ _ _ _ _ h => h.elim) hg hm ha hdb he hpl
end
/-- an __init__ that keeps one thing under one name -/
def spErr1 (K : PySem.W.Frag) (f : Str) : Sp := Sp2 fun a b H Q E => ∃ (q C : Addr), a = .ref q ∧ OexC K C ∧ PySem.W.findIn K (.ref C) f = some none ∧ H q = some (exo q C none) ∧
  ∀ d, H d = none → d ≠ q → Q .non (upd (upd H d (exd d [(f, b)])) q (exo q C (some d)))
def spErr2 (K : PySem.W.Frag) (f g : Str) : Sp := Sp3 fun a b c H Q E => ∃ (q C : Addr), a = .ref q ∧ OexC K C ∧ PySem.W.findIn K (.ref C) f = some none ∧ PySem.W.findIn K (.ref C) g = some none ∧ H q = some (exo q C none) ∧
  ∀ d, H d = none → d ≠ q → Q .non (upd (upd (upd H d (exd d [(f, b)])) q (exo q C (some d))) d (exd d [(g, c), (f, b)]))
theorem exd_ne {q C d : Addr} {o : Option Addr} {fs : List (Str × V)} : exo q C o ≠ exo q C o → False := fun h => h rfl
section
variable {K : PySem.W.Frag} {H H' : Hp} {L : List En} {C : Addr} {E : XK} {EK : XK} {ts : TA} {f g : Str} {v w : V}
/-- the heap behind an error's making -/
theorem Fx.made {a d : Addr} {o : HO} {H2 : Hp} (F : Fx H L) (ha : H a = none) (hd : H d = none) (k : ∀ b, b ≠ a → b ≠ d → H2 b = H b) : Fx (upd (del H2 a) d o) (.ob d o :: L) := by
  have F1 : Fx (upd (del H2 a) d o) L := F.same fun b u q => by
    have nb := ne_of_none q hd
    have na := ne_of_none q ha
    rw [upd_ne nb, del_ne na, k b na nb]
    exact q
  refine F1.add upd_same fun h => ?_
  obtain ⟨e, he, hm⟩ := List.mem_flatMap.mp h
  obtain ⟨o, q⟩ := En.there (F.1 e he) hm
  rw [hd] at q
  cases q
theorem wMk1 (T : OexC K C) (n : PySem.W.findIn K (.ref C) f = some none) (F : Fx H L) (k : ∀ d H', Fx H' (.ob d (.xd [(f, v)]) :: L) → EK (.ref C) (some d) H') :
    [v].length ≤ 1000 ∧ ∀ a, H a = none → spErr1 K f (.ref a :: ([v] ++ [])) (upd H a (exo a C none))
  (fun v H2 => v = .non ∧ ∃ (d : Addr) (fs : List (Str × V)), H2 a = some (exo a C (some d)) ∧ H2 d = some (exd d fs) ∧ H d = none ∧ EK (.ref C) (some d) (upd (del H2 a) d (.xd fs))) (fun _ _ _ => False) := by
  refine ⟨Nat.le_of_ble_eq_true rfl, fun a ha => ⟨_, _, rfl, a, C, rfl, T, n, upd_same, fun d hd hn => ⟨rfl, d, _, upd_same, ?_, ?_, k d _ (F.made ha ?_ fun b h1 h2 => ?_)⟩⟩⟩
  · rw [upd_ne hn, upd_same]
  · rw [upd_ne hn] at hd; exact hd
  · rw [upd_ne hn] at hd; exact hd
  · rw [upd_ne h1, upd_ne h2, upd_ne h1]
theorem wMk2 (T : OexC K C) (n : PySem.W.findIn K (.ref C) f = some none) (n' : PySem.W.findIn K (.ref C) g = some none) (F : Fx H L) (k : ∀ d H', Fx H' (.ob d (.xd [(g, w), (f, v)]) :: L) → EK (.ref C) (some d) H') :
    [v, w].length ≤ 1000 ∧ ∀ a, H a = none → spErr2 K f g (.ref a :: ([v, w] ++ [])) (upd H a (exo a C none))
  (fun v H2 => v = .non ∧ ∃ (d : Addr) (fs : List (Str × V)), H2 a = some (exo a C (some d)) ∧ H2 d = some (exd d fs) ∧ H d = none ∧ EK (.ref C) (some d) (upd (del H2 a) d (.xd fs))) (fun _ _ _ => False) := by
  refine ⟨Nat.le_of_ble_eq_true rfl, fun a ha => ⟨_, _, _, rfl, a, C, rfl, T, n, n', upd_same, fun d hd hn => ⟨rfl, d, _, ?_, upd_same, ?_, k d _ (F.made ha ?_ fun b h1 h2 => ?_)⟩⟩⟩
  · rw [upd_ne (Ne.symm hn), upd_same]
  · rw [upd_ne hn] at hd; exact hd
  · rw [upd_ne hn] at hd; exact hd
  · rw [upd_ne h2, upd_ne h1, upd_ne h2, upd_ne h1]
end
theorem owns {X : Cx} {K : Value → Shared → Prop} {E₁ : Value → Shared → Prop} (hx : X.xe = fun e s' => wpAny (model X.prog X.w) X.A (leaving X.env e) (fun _ s'' => K e s'') E₁ s') : PassesOwn (model X.prog X.w) X.A X.env X.xe := passes_of hx
/-! ### an instance is made in a try -/
section
variable {X : Cx} {CX : CXT} {k : Nat} {f C : Addr} {fd : FuncData} {ps : List Str} {ds : List Value} {dvs : List V} {sp : Sp} {E : St → XK} {x : Str} {p pos : Pos} {e : Expr} {es : List Expr} {t : TA}
def tMakeS (C : Addr) (sp : Sp) (dvs : List V) (E : St → XK) (t : TA) : TE := fun σ H Q => t σ H fun vs H1 => ∀ x dx, H1 x = none → H1 dx = none → dx ≠ x →
  sp (.ref x :: (vs ++ dvs)) (upd (upd H1 dx (.own x)) x (.ins C dx [])) (fun v H2 => v = .non ∧ Q (.ref x) H2) (E σ)
theorem run_makeS {pins : List (Addr × Obj)} {σ : St} {H : Hp} {s : Shared} {Q : VK} {us : List Value} {vs : List V} (M : Mk X.K C f) (F : FnOk X.prog X.w X.K X.mg X.base CX k f fd ps sp) (hr : Room (k + 1) X.A) (hb : Binds X.K fd ps ds) (hd : Vals dvs ds)
    (hx : PassesAt CX X σ (E σ)) (I : L2.Inv X pins σ H s) (r : Vals vs us)
    (h : ∀ x dx, H x = none → H dx = none → dx ≠ x → sp (.ref x :: (vs ++ dvs)) (upd (upd H dx (.own x)) x (.ins C dx [])) (fun v H2 => v = .non ∧ Q (.ref x) H2) (E σ)) :
    wpAny (model X.prog X.w) X.A (call (.ref
          C) us) (EP X pins σ Q) X.xe s := by
  have hq := h (s.heap.objs.size + 1) s.heap.objs.size (I.hok.fresh (Nat.le_succ
        _)) (I.hok.fresh (Nat.le_refl _)) (Nat.ne_of_lt (Nat.lt_succ_self _))
  have I2 := Inv.made
        (C := C) I
  have r2 : Vals (V.ref (s.heap.objs.size + 1) :: (vs ++ dvs)) (Value.ref
        (s.heap.objs.size + 1) :: (us ++ ds)) := .cons rfl (r.append hd)
  have hl : (Value.ref (s.heap.objs.size +
        1) :: us ++ ds).length = ps.length := by
    have e := r2.length
    rw [F.len _ _ _ _ hq] at e
    exact e.symm
  refine wpAny_call (make_map (f := f) I.kIn M.makes M.init (beq_iff_eq.mp M.fn) (codeAny_mono (F.run _ X.stack _ _ ⟨Value.ref (s.heap.objs.size + 1) :: us, []⟩ (Value.ref (s.heap.objs.size + 1) :: (us ++ ds)) _ _ (E σ) (hr.make C us [])
    (I2.env0.make C us []) (hb _ (Value.ref (s.heap.objs.size
          + 1) :: us) I2.kIn hl) r2 hq) fun r s' hq' => ?_))
  cases r with
  | error e => exact hx pins _ _ e s' I2 hq'
  | ok fl =>
    cases fl with
    | ret u =>
      obtain ⟨v, H', I3, rv,
            ev, q3⟩ := I2.after hq'
      subst ev
      exact ⟨rv, ⟨V.ref (s.heap.objs.size
            + 1), H', I3, rfl, q3⟩⟩
    | next => exact
          False.elim hq'
    | brk => exact False.elim hq'
    | cont => exact
          False.elim hq'
theorem pe_makeS (M : Mk X.K C f) (F : FnOk X.prog X.w X.K X.mg X.base CX k f fd ps sp) (hr : Room (k + 1) X.A) (hg : Gl X x) (hm : X.mg x = some (.ref C)) (hb : Binds X.K fd ps ds) (hd : Vals dvs ds) (hx : ∀ σ, PassesAt CX X σ (E σ))
    (ha : PA X (e :: es) t) (hdb : (x == ("__debug__" : Str)) = false := by decide) (he : starEach (e :: es) X.env = (false,
          eval e X.env) :: starEach es X.env := by rfl) (hpl : (backTo pos (starEach es X.env)).any (·.1) = false := by rfl) :
    PE X (.Call (.Name x p) (e :: es) [] pos) (tMakeS C sp dvs E t) := by
  refine ⟨fun pins
        s σ H Q I h => ?_⟩
  refine wpAny_Call_Name_kw
        (ld_glob I hg hm ?_ hdb)
  refine PySem.W.callWith_K (h₀ := X.base) I.ok.mod.kin M.kp (thn (ha.run
        pos pins s σ H _ I h) fun us s1 ⟨vs, H1, I1, r, q⟩ => ⟨I1.kIn, ?_⟩) he hpl
  exact run_makeS M F hr hb hd (hx σ) I1 r q
end
/-- the new instance and its dict, as entries -/
theorem Fx.inst {H : Hp} {L : List En} {C x dx : Addr} (F : Fx H L) (hx : H x = none) (hd : H dx = none) (ne : dx ≠ x) : Fx (upd (upd H dx (.own x)) x (.ins C dx [])) (.ob x (.ins C dx []) :: .ob dx (.own x) :: L) := by
  have F1 := F.new (o := .own x) hd
  exact F1.new (by rw [upd_ne (Ne.symm ne)]; exact hx)
theorem wMake {sp : Sp} {C : Addr} {dvs : List V} {E : XK} {t : TA} {σ : St} {H : Hp} {Q : VK} (h : t σ H fun vs H1 => ∀ x dx, H1 x = none → H1 dx = none → dx ≠ x →
  sp (.ref x :: (vs ++ dvs)) (upd (upd H1 dx (.own x)) x (.ins C dx [])) (fun v H2 => v = .non ∧ Q (.ref x) H2) E) : tMake C sp dvs E t σ H Q := h
theorem wMakeS {sp : Sp} {C : Addr} {dvs : List V} {E : St → XK} {t : TA} {σ : St} {H : Hp} {Q : VK} (h : t σ H fun vs H1 => ∀ x dx, H1 x = none → H1 dx = none → dx ≠ x →
  sp (.ref x :: (vs ++ dvs)) (upd (upd H1 dx (.own x)) x (.ins C dx [])) (fun v H2 => v = .non ∧ Q (.ref x) H2) (E σ)) : tMakeS C sp dvs E t σ H Q := h
/-- o.f and self.f = v of an instance -/
theorem wFld {K : PySem.W.Frag} {ta : TE} {f : Str} {σ : St} {H : Hp} {Q : VK} (h : ta σ H fun x H1 => ∃ a C dx fs v, x = .ref a ∧ H1 a = some (.ins C dx fs) ∧ Cls K C ∧ NoAttr K C f ∧ fs.lookup f = some v ∧ Q v H1) : tFld K ta f σ H Q := h
theorem wFldAt {K : PySem.W.Frag} {f : Str} {H : Hp} {L : List En} {a C dx : Addr} {fs : List (Str × V)} {v : V} {QP : V → Prop} (F : Fx H L) (m : En.ob a (.ins C dx fs) ∈ L) (c : Cls K C) (n : NoAttr K C f) (e : fs.lookup f = some v) (h : QP v) :
    ∃ a' C dx fs v, V.ref a = .ref a' ∧ H a' = some (.ins C dx fs) ∧ Cls K C ∧ NoAttr K C f ∧ fs.lookup f = some v ∧ QP v := ⟨a, C, dx, fs, v, rfl, F.get m, c, n, e, h⟩

def StoreF (K : PySem.W.Frag) (f : Str) (x y : V) (H : Hp) (N : Hp → Prop) : Prop := ∃ a C dx fs, x = .ref a ∧ H a = some (.ins C dx fs) ∧ Cls K C ∧ NoAttr K C f ∧ fs.length < 1000 ∧ N (upd H a (.ins C dx (putF f y fs)))
theorem wSFld {K : PySem.W.Frag} {ta tv : TE} {f : Str} {σ : St} {H : Hp} {nx bk ct : St → Hp → Prop} {rt : VK} (h : tv σ H fun y H1 => ta σ H1 fun x H2 => StoreF K f x y H2 (fun H3 => nx σ H3)) : sFld K ta tv f ⟨nx, rt, bk, ct⟩ σ H := h
theorem wStoreF {K : PySem.W.Frag} {f : Str} {y : V} {H : Hp} {N : Hp → Prop} {L L' : List En} {a C dx : Addr} {fs : List (Str × V)} (F : Fx H L) (m : En.ob a (.ins C dx fs) ∈ L) (c : Cls K C) (n : NoAttr K C f) (l : fs.length < 1000) (pt : Put a (.ins C dx (putF f y fs)) L L') (k : ∀ H', Fx H' L' → N H') : StoreF K f (.ref a) y H N :=
  ⟨a, C, dx, fs, rfl, F.get m, c, n, l, k _ (F.put pt)⟩
/-- self.f = v in an error's __init__ -/
theorem init1_run {K : PySem.W.Frag} {f : Str} {a b : V} {H : Hp} {Q : VK} {rt : VK} {bk ct : St → Hp → Prop} (h : ∃ (q C : Addr), a = .ref q ∧ OexC K C ∧ PySem.W.findIn K (.ref C) f = some none ∧ H q = some (exo q C none) ∧
  ∀ d, H d = none → d ≠ q → Q .non (upd (upd H d (exd d [(f, b)])) q (exo q C (some d)))) : tOst K f (tVar 0) (tVar 1) ⟨fun _ H' => Q .non H', rt, bk, ct⟩ [some a, some b] H := by
  obtain ⟨q, C, rfl, T, n, hq, k⟩ := h
  exact ⟨_, rfl, _, rfl, q, C, rfl, T, n, .inl ⟨hq, fun dx hd ne => k dx hd ne⟩⟩
theorem init2_run {K : PySem.W.Frag} {f g : Str} {a b c : V} {H : Hp} {Q : VK} {rt : VK} {bk ct : St → Hp → Prop} (h : ∃ (q C : Addr), a = .ref q ∧ OexC K C ∧ PySem.W.findIn K (.ref C) f = some none ∧ PySem.W.findIn K (.ref C) g = some none ∧ H q = some (exo q C none) ∧
  ∀ d, H d = none → d ≠ q → Q .non (upd (upd (upd H d (exd d [(f, b)])) q (exo q C (some d))) d (exd d [(g, c), (f, b)]))) : tSeq (tOst K f (tVar 0) (tVar 1)) (tOst K g (tVar 0) (tVar 2)) ⟨fun _ H' => Q .non H', rt, bk, ct⟩ [some a, some b, some c] H := by
  obtain ⟨q, C, rfl, T, n, n', hq, k⟩ := h
  exact ⟨_, rfl, _, rfl, q, C, rfl, T, n, .inl ⟨hq, fun dx hd ne => ⟨_, rfl, _, rfl, q, C, rfl, T, n', .inr ⟨dx, _, upd_same, by rw [upd_ne ne, upd_same], Nat.le_of_ble_eq_true rfl, k dx hd ne⟩⟩⟩⟩
end Z

set_option Elab.async false
set_option linter.all false
set_option maxRecDepth 100000
set_option maxHeartbeats 2000500
namespace Z
open PySem L2
section
variable (CX : CXT) (P : Program) (w : World) (K : PySem.W.Frag) (mg : Str → Option Value) (base : Heap)
def ErrO (C : Addr) (k : Nat) (ps : List Str) (sp : Sp) : Prop := ∃ (f : Addr) (fd : FuncData), ErrI K C f ∧ Binds K fd ps [] ∧ FnOk P w K mg base CX0 k f fd ps sp
def MkO (C : Addr) (k : Nat) (ps : List Str) (dvs : List V) (sp : Sp) : Prop := ∃ (f : Addr) (fd : FuncData) (ds : List Value), Mk K C f ∧ Binds K fd ps ds ∧ Vals dvs ds ∧ FnOk P w K mg base CX k f fd ps sp
def MkKO (C : Addr) (k : Nat) (ps ks : List Str) (n : Nat) (gV : List V → List V → List V) (sp : Sp) : Prop := ∃ (f : Addr) (fd : FuncData) (g : List Value → List Value → List Value), Mk K C f ∧ KBn K fd ps (n + 1) ks g gV ∧ FnOk P w K mg base CX k f fd ps sp
def EqO (C : Addr) (k : Nat) (ps : List Str) (sp : Sp) : Prop := ∃ (f : Addr) (fd : FuncData), OwnEqF K C f ∧ Binds K fd ps [] ∧ FnOk P w K mg base CX0 k f fd ps sp
def PropO (C : Addr) (x : Str) (k : Nat) (ps : List Str) (sp : Sp) : Prop := ∃ (p f : Addr) (fd : FuncData), PropOf K C x p f ∧ Binds K fd ps [] ∧ FnOk P w K mg base CX k f fd ps sp
def MethO (C : Addr) (x : Str) (k : Nat) (ps : List Str) (dvs : List V) (sp : Sp) : Prop := ∃ (f : Addr) (fd : FuncData) (ds : List Value), Meth K C x f ∧ Binds K fd ps ds ∧ Vals dvs ds ∧ FnOk P w K mg base CX k f fd ps sp
end
section
variable {X : Cx} {CX : CXT} {C : Addr} {k : Nat} {ps ks : List Str} {sp : Sp} {ta t tk : TA} {x : Str} {e o : Expr} {es : List Expr} {p pos apos : Pos} {E : XK} {ES : St → XK} {dvs : List V} {te : TE} {n : Nat} {gV : List V → List V → List V} {kws : List Keyword}
theorem pmk_errO (T : ErrF X.K C) (O : ErrO X.prog X.w X.K X.mg X.base C k ps sp) (hr : Room (k + 1) X.A) (hm : X.mg x = some (.ref C)) (hg : Gl X x) (ha : PA X (e :: es) ta)
    (hdb : (x == ("__debug__" : Str)) = false := by decide) (he : starEach (e :: es) X.env = (false, eval e
          X.env) :: starEach es X.env := by rfl) (hpl : (backTo pos (starEach es X.env)).any (·.1) = false := by rfl) :
    PMk X (.Call (.Name x p) (e :: es) [] pos) (tMkO C sp [] ta) := by
  obtain ⟨f, fd, i, b, F⟩ := O
  exact pmk_err T i F b hr hm hg ha hdb he hpl
theorem pe_makeO (O : MkO CX X.prog X.w X.K X.mg X.base C k ps dvs sp) (hr : Room (k + 1) X.A) (hm : X.mg x = some (.ref C)) (hg : Gl X x) (hx : Passes CX X E) (ha : PA X (e :: es) t)
    (hdb : (x == ("__debug__" : Str)) = false := by decide) (he : starEach (e :: es) X.env = (false, eval e
          X.env) :: starEach es X.env := by rfl) (hpl : (backTo pos (starEach es X.env)).any (·.1) = false := by rfl) :
    PE X (.Call (.Name x p) (e :: es)
          [] pos) (tMake C sp dvs E t) := by
  obtain ⟨f, fd, ds, M, b, v, F⟩ := O
  exact pe_make M F hr hg hm b v hx ha hdb he hpl
theorem pe_makeSO (O : MkO CX X.prog X.w X.K X.mg X.base C k ps dvs sp) (hr : Room (k + 1) X.A) (hm : X.mg x = some (.ref C)) (hg : Gl X x) (hx : ∀ σ, PassesAt CX X σ (ES σ)) (ha : PA X (e :: es) t)
    (hdb : (x == ("__debug__" : Str)) = false := by decide) (he : starEach (e :: es) X.env = (false, eval e
          X.env) :: starEach es X.env := by rfl) (hpl : (backTo pos (starEach es X.env)).any (·.1) = false := by rfl) :
    PE X (.Call (.Name x p) (e :: es) [] pos) (tMakeS C sp dvs ES t) := by
  obtain ⟨f, fd, ds, M, b, v, F⟩ := O
  exact pe_makeS M F hr hg hm b v hx ha hdb he hpl
theorem pe_makeKO (O : MkKO CX X.prog X.w X.K X.mg X.base C k ps ks n gV sp) (hr : Room (k + 1) X.A) (hm : X.mg x = some (.ref C)) (hg : Gl X x) (hx : Passes CX X E) (ha : PA X (e :: es) t) (hkw : PK X kws tk)
    (hall : (backToKw pos (keywordEach kws X.env)).all (·.1.isSome) = true := by rfl) (hks : (backToKw pos (keywordEach kws X.env)).filterMap (·.1) = ks := by rfl)
    (hdb : (x == ("__debug__" : Str)) = false := by decide) (he : starEach
          (e :: es) X.env = (false, eval e X.env) :: starEach es X.env := by rfl)
    (hpl : ((backTo pos (starEach (e :: es) X.env)).any (·.1) || (backToKw
          pos (keywordEach kws X.env)).any (·.1.isNone)) = false := by rfl) :
    PE X (.Call (.Name x p) (e :: es) kws pos)
          (tMakeN C n ks.length sp gV E t tk) := by
  obtain ⟨f, fd, g, M, b, F⟩ := O
  exact pe_makeN M F hr hg hm b hx ha hkw hall hks hdb he hpl
theorem pe_propO (O : PropO CX X.prog X.w X.K X.mg X.base C x k ps sp) (c : Cls X.K C) (hr : Room (k + 1) X.A) (hx : Passes CX X.nox E) (he : PE X e te) (hab : attributeBase e x X.env (eval e X.env) = eval e X.env := by rfl) :
    PE X (.Attribute e x pos) (tProp C sp [] E te) := by
  obtain ⟨p, f, fd, q, b, F⟩ := O
  exact pe_prop he c q F hr b .nil hx hab
theorem op_eqOwnO (O : EqO X.prog X.w X.K X.mg X.base C k ps sp) (hr : Room k X.A) : OpR X (compareOp .Eq) (rOwn X.K C sp id) := by
  obtain ⟨f, fd, q, b, F⟩ := O
  exact op_eqOwn F q b hr
theorem op_neOwnO (O : EqO X.prog X.w X.K X.mg X.base C k ps sp) (hr : Room (k + 1) X.A) : OpR X (compareOp .NotEq) (rOwn X.K C sp not) := by
  obtain ⟨f, fd, q, b, F⟩ := O
  exact op_neOwn F q b hr
end
/-- what the written part says of an own class whose instances are asked for their kind -/
structure InsF (K : PySem.W.Frag) (C : Addr) : Prop where
  cl : Cls K C
  ha : PySem.W.findIn K (.ref C) "__class__"
        = some (some (.builtin "object.__class__"))
  hn : PySem.W.specialIn K (.builtin "object.__class__")
        "__get__" = some (some (.builtin "getset_descriptor.__get__"))
  htk : PySem.W.takesIn K (.builtin
        "object.__class__") = some true
  hm : PySem.W.mroIn K C
        (.type "object") = some true
  me : PySem.W.kitOne K (.ref
        C) (.ref C) = some true
  tup : PySem.W.kitOne K (.type "tuple") (.ref C) = some false
  lst : PySem.W.kitOne K (.type "list") (.ref C) = some false
  str : PySem.W.kitOne K (.type "str") (.ref C) = some false
  nft : PySem.W.notFirst K C (.type "tuple") = true
section
variable {K : PySem.W.Frag} {C a dx : Addr} {H : Hp} {L : List En} {fs : List (Str × V)} {Q : VK} {xs : List V}
theorem InsF.ty (c : InsF K C) (h : H a = some (.ins C dx fs)) : TyX K H (.ref a) (.ref C) := .base (.ins h c.cl c.ha c.hn c.htk c.hm)
theorem InsF.nf (c : InsF K C) : PySem.W.notFirst K C (.ref C) = true := by
  show ((Value.ref C == .ref C) || _) = true
  rw [beq_self_eq_true]
  rfl
theorem wIsiOwn (c : InsF K C) (h : H a = some (.ins C dx fs)) (q : Q (.bl true) H) : rOrC (rIsi K) (rIsiT K) [.ref a, .ref C] H Q := .inl ⟨_, _, _, _, _, rfl, .own _, c.ty h, c.me, q⟩
theorem wIsiTupOwn (c : InsF K C) (s : SqT K H a xs) (q : Q (.bl false) H) : rOrC (rIsi K) (rIsiT K) [.ref a, .ref C] H Q := .inl ⟨_, _, _, _, _, rfl, .own _, (HasK.tup s).tyx, c.tup, q⟩
end
end Z
namespace Z
open PySem L2
section
variable {X : Cx} {CX : CXT} {k : Nat} {ps : List Str} {sp : Sp} {E : St → XK} {x : Str} {p pos : Pos} {e : Expr} {es : List Expr} {t : TA}
theorem pe_callSO (O : Ok CX X.prog X.w X.K X.mg X.base x k ps [] sp) (hg : Gl X x) (hr : Room k X.A) (hx : ∀ σ, PassesAt CX X σ (E σ)) (ha : PA X (e :: es) t)
    (hdb : (x == ("__debug__" : Str)) = false := by decide) (he : starEach (e :: es) X.env = (false, eval e
          X.env) :: starEach es X.env := by rfl) (hpl : (backTo pos (starEach es X.env)).any (·.1) = false := by rfl) :
    PE X (.Call (.Name x p) (e ::
          es) [] pos) (tCallS sp E t) := by
  obtain ⟨f, fd, ds, g, kp, b, v, F⟩ := O
  cases v
  exact pe_callS F hr hg g kp b hx ha hdb he hpl
end
theorem wCallS {sp : Sp} {E : St → XK} {t : TA} {σ : St} {H : Hp} {Q : VK} (h : t σ H fun vs H1 => sp vs H1 Q (E σ)) : tCallS sp E t σ H Q := h
end Z

set_option Elab.async false
set_option linter.all false
set_option maxRecDepth 100000
set_option maxHeartbeats 2000500
namespace Z
open PySem L2 RZ
/-! ### things by the ledger alone -/
inductive Thing (L : List En) : V → Kd → Prop where
  | non : Thing L .non .non
  | bl (b : Bool) : Thing L (.bl b) .bl
  | int (i : Int) : Thing L (.int i) .int
  | str (z : Str) : Thing L (.str z) .str
  | lst {a : Addr} {xs : List V} (m : En.ob a (.lst xs) ∈ L) : Thing L (.ref a) .lst
  | tup {a : Addr} {xs : List V} (m : En.ob a (.tup xs) ∈ L) : Thing L (.ref a) .tup
  | dct {a : Addr} {kvs : List (Key × V)} (m : En.ob a (.dK kvs) ∈ L) : Thing L (.ref a) .dct
theorem Thing.has {K : PySem.W.Frag} {H : Hp} {L : List En} {x : V} {k : Kd} (F : Fx H L) (t : Thing L x k) : HasK K H x k := by
  cases t with
  | non => exact .non
  | bl b => exact .bl b
  | int i => exact .int i
  | str z => exact .str z
  | lst m => exact .lst (F.lst m)
  | tup m => exact .tup (F.tup m)
  | dct m => exact .dct (F.get m)
theorem Thing.mono {L L' : List En} {x : V} {k : Kd} (t : Thing L x k) (h : ∀ e ∈ L, e ∈ L') : Thing L' x k := by
  cases t with
  | non => exact .non
  | bl b => exact .bl b
  | int i => exact .int i
  | str z => exact .str z
  | lst m => exact .lst (h _ m)
  | tup m => exact .tup (h _ m)
  | dct m => exact .dct (h _ m)
theorem Thing.cons {L : List En} {x : V} {k : Kd} {e : En} (t : Thing L x k) : Thing (e :: L) x k := t.mono fun _ h => List.mem_cons_of_mem _ h
/-- its items, where it is a sequence -/
inductive SeqIs (L : List En) : V → Option (List V) → Prop where
  | non : SeqIs L .non none
  | bl (b : Bool) : SeqIs L (.bl b) none
  | int (i : Int) : SeqIs L (.int i) none
  | str (z : Str) : SeqIs L (.str z) none
  | lst {a : Addr} {xs : List V} (m : En.ob a (.lst xs) ∈ L) : SeqIs L (.ref a) (some xs)
  | tup {a : Addr} {xs : List V} (m : En.ob a (.tup xs) ∈ L) : SeqIs L (.ref a) (some xs)
  | dct {a : Addr} {kvs : List (Key × V)} (m : En.ob a (.dK kvs) ∈ L) : SeqIs L (.ref a) none
def inLen (lo hi : Int) : Option (List V) → Bool
  | some xs => decide (lo ≤ (xs.length : Int)) && decide ((xs.length : Int) ≤ hi)
  | none => false
/-! ### comprehensions -/
section
variable {D : Addr} {R : Nat → List V → List En → Prop}
def LcP (D : Addr) (R : Nat → List V → List En → Prop) (i : Nat) (H : Hp) : Prop := ∃ acc L, Fx H (.ob D (.lst acc) :: L) ∧ R i acc L
def LcPut (D : Addr) (R : Nat → List V → List En → Prop) (i : Nat) (y : V) (H : Hp) : Prop := ∃ acc, H D = some (.lst acc) ∧ acc.length < sizeLine ∧ LcP D R (i + 1) (upd H D (.lst (acc ++ [y])))
theorem lcPut {i : Nat} {y : V} {H : Hp} {acc : List V} {L : List En} (F : Fx H (.ob D (.lst acc) :: L)) (n : acc.length < sizeLine) (r : R (i + 1) (acc ++ [y]) L) : LcPut D R i y H :=
  ⟨acc, F.get List.mem_cons_self, n, acc ++ [y], L, F.put .head, r⟩
variable {J : It} {n : Nat} {G : Hp → Prop} {Y : Nat → Hp → V → Hp → Prop} {g : TG} {tt : TT} {te : TE} {vs : List Nat} {σ : St} {H : Hp} {Q : VK} {L : List En}
theorem wLcW {QD : Addr → Hp → Prop} (w : Walk J n G Y) (F : Fx H L) (R : Nat → List V → List En → Prop) (h0 : R 0 [] L) (hG : ∀ i acc L' D H', R i acc L' → Fx H' (.ob D (.lst acc) :: L') → G H')
    (hs : ∀ i x D H' H'' acc L', i < n → R i acc L' → Fx H' (.ob D (.lst acc) :: L') → Y i H' x H'' → g x (wipe σ vs) H'' fun σ2 H2 => wipe σ2 vs = wipe σ vs ∧ tt σ2 H2 fun b H3 =>
      if b = true then te σ2 H3 fun y H4 => LcPut D R i y H4 else LcP D R (i + 1) H3)
    (hd : ∀ D acc L' H', Fx H' (.ob D (.lst acc) :: L') → R n acc L' → QD D H') :
    ∀ D, H D = none → ∃ W : Nat → Nat → Hp → Prop, (∃ m, W 0 m (upd H D (.lst []))) ∧ ∀ i m H, W i m H →
  (J.stop i H ∧ QD D H) ∨ (J.go i H ∧ ∃ Nx : Hp → Prop, (∀ H', Nx H' → ∃ m', m' < m ∧ W (i + 1) m' H') ∧ ∀ x H', J.yld i H x H' → g x (wipe σ vs) H' fun σ2 H2 => wipe σ2 vs = wipe σ vs ∧ tt σ2 H2 fun b H3 =>
    if b = true then te σ2 H3 fun y H4 => ∃ acc, H4 D = some (.lst acc) ∧ acc.length < sizeLine ∧ Nx (upd H4 D (.lst (acc ++ [y]))) else Nx H3) := fun D hD =>
  lc_it w (Qd := fun H' => QD D H') (LcP D R) ⟨[], L, F.new hD, h0⟩ (fun i H' _ ⟨acc, L', F', r⟩ => hG i acc L' D H' r F')
    (fun i x H' H'' hi ⟨acc, L', F', r⟩ y => hs i x D H' H'' acc L' hi r F' y) (fun H' ⟨acc, L', F', r⟩ => hd D acc L' H' F' r)
end
theorem wLc {wi : TI} {g : TG} {tt : TT} {te : TE} {vs : List Nat} {σ : St} {H : Hp} {Q : VK} (h : wi σ H fun J H1 => ∀ D, H1 D = none → ∃ W : Nat → Nat → Hp → Prop, (∃ m, W 0 m (upd H1 D (.lst []))) ∧ ∀ i m H, W i m H →
  (J.stop i H ∧ Q (.ref D) H) ∨ (J.go i H ∧ ∃ Nx : Hp → Prop, (∀ H', Nx H' → ∃ m', m' < m ∧ W (i + 1) m' H')
        ∧ ∀ x H', J.yld i H x H' → g x (wipe σ vs) H' fun σ2 H2 => wipe σ2 vs = wipe σ vs ∧ tt σ2 H2 fun b H3 =>
    if b = true then te σ2 H3 fun y H4 => ∃ acc, H4 D = some (.lst acc) ∧ acc.length < sizeLine ∧ Nx (upd H4 D (.lst (acc ++ [y]))) else Nx H3)) : tLc wi g tt te vs σ H Q := h
/-! what a loop or a comprehension walks -/
section
variable {K : PySem.W.Frag} {H : Hp} {L : List En} {a b : Addr} {xs ys : List V} {RI : It → Hp → Prop} {σ : St} {te : TE} {ta : TA}
def GoL (K : PySem.W.Frag) (x : V) (H : Hp) (R : It → Hp → Prop) : Prop := ∃ a, x = .ref a ∧ (∃ xs, SqL K H a xs) ∧ R (Itl K a) H
def GoT (K : PySem.W.Frag) (x : V) (H : Hp) (R : It → Hp → Prop) : Prop := ∃ a, x = .ref a ∧ (∃ xs, SqT K H a xs) ∧ R (Itt K a) H
theorem wIL (h : te σ H fun x H1 => GoL K x H1 RI) : iList K te σ H RI := h
theorem wIT (h : te σ H fun x H1 => GoT K x H1 RI) : iTup K te σ H RI := h
theorem wGoL (s : SqL K H a xs) (h : RI (Itl K a) H) : GoL K (.ref a) H RI := ⟨a, rfl, ⟨xs, s⟩, h⟩
theorem wGoT (s : SqT K H a xs) (h : RI (Itt K a) H) : GoT K (.ref a) H RI := ⟨a, rfl, ⟨xs, s⟩, h⟩
def GoR1 (vs : List V) (H : Hp) (R : It → Hp → Prop) : Prop := ∃ j : Int, vs = [.int j] ∧ -(2 ^ 62) ≤ j ∧ j < 2 ^ 62 ∧ R (Itr 0 j.toNat) H
def GoR2 (vs : List V) (H : Hp) (R : It → Hp → Prop) : Prop := ∃ i j : Int, vs = [.int i, .int j] ∧ (-(2 ^ 62) ≤ i ∧ i < 2 ^ 62 ∧ -(2 ^ 62) ≤ j ∧ j < 2 ^ 62) ∧ R (Itr i (j - i).toNat) H
theorem wIR1 (h : ta σ H fun vs H1 => GoR1 vs H1 RI) : iRng1 ta σ H RI := h
theorem wIR2 (h : ta σ H fun vs H1 => GoR2 vs H1 RI) : iRng2 ta σ H RI := h
theorem wGoR1 {j : Int} (h1 : -(2 ^ 62) ≤ j) (h2 : j < 2 ^ 62) (h : RI (Itr 0 j.toNat) H) : GoR1 [.int j] H RI := ⟨j, rfl, h1, h2, h⟩
theorem wGoR2 {i j : Int} (h1 : -(2 ^ 62) ≤ i) (h2 : i < 2 ^ 62) (h3 : -(2 ^ 62) ≤ j) (h4 : j < 2 ^ 62) (h : RI (Itr i (j - i).toNat) H) : GoR2 [.int i, .int j] H RI := ⟨i, j, rfl, ⟨h1, h2, h3, h4⟩, h⟩
def GoZ (K : PySem.W.Frag) (vs : List V) (H : Hp) (R : It → Hp → Prop) : Prop := ∃ a b xs ys, vs = [.ref a, .ref b] ∧ ((SqL K H a xs ∧ SqL K H b ys ∧ R (Itz K a b) H) ∨ (SqT K H a xs ∧ SqT K H b ys ∧ R (ItzT K a b) H))
theorem wIZ (h : ta σ H fun vs H1 => GoZ K vs H1 RI) : iZipA K ta σ H RI := h
theorem wGoZL (s : SqL K H a xs) (s' : SqL K H b ys) (h : RI (Itz K a b) H) : GoZ K [.ref a, .ref b] H RI := ⟨a, b, xs, ys, rfl, .inl ⟨s, s', h⟩⟩
theorem wGoZT (s : SqT K H a xs) (s' : SqT K H b ys) (h : RI (ItzT K a b) H) : GoZ K [.ref a, .ref b] H RI := ⟨a, b, xs, ys, rfl, .inr ⟨s, s', h⟩⟩
theorem walk_zipT {n : Nat} (hn : n = min xs.length ys.length) : Walk (ItzT K a b) n (fun H => SqT K H a xs ∧ SqT K H b ys) (YPair (fun i => xs[i]?) (fun i => ys[i]?)) := by
  subst hn
  refine ⟨fun i _ hi q => ?_, fun _ q => ⟨xs, ys,
        q.1, q.2, by omega⟩, fun i H v H' _ q y => ?_⟩
  · have h1 : i <
        xs.length := by omega
    have h2 : i <
          ys.length := by omega
    exact ⟨xs, ys, xs[i], ys[i], q.1,
          q.2, by simp [h1], by simp [h2]⟩
  · obtain ⟨T, x, z, h1,
        h2, h3, h4, h5⟩ := y
    exact ⟨T, x, z, h1, h2,
          h3, h4 xs q.1, h5 ys q.2⟩
theorem wYes {QB : Bool → Hp → Prop} (h : QB true H) : tYes σ H QB := h
end
/-- a for over a walk -/
theorem wForW {J : It} {n : Nat} {G : Hp → Prop} {Y : Nat → Hp → V → Hp → Prop} (w : Walk J n G Y) {g : TG} {tb : TS} {nx : St → Hp → Prop} {rt : VK} {σ : St} {H : Hp} (Pv : Nat → St → Hp → Prop) (h0 : Pv 0 σ H) (hG : ∀ i σ H, i ≤ n → Pv i σ H → G H)
    (hs : ∀ i x σ H H', i < n → Pv i σ H → Y i H x H' → g x σ H' fun σ2 H2 => tb ⟨Pv (i + 1), rt, nx, Pv (i + 1)⟩ σ2 H2) (hd : ∀ σ H, Pv n σ H → nx σ H) :
    ∃ W : Nat → Nat → St → Hp → Prop, (∃
          m, W 0 m σ H) ∧ ∀ i m σ H, W i m σ H →
      (J.stop i H ∧ nx σ H) ∨ (J.go i H ∧ ∃ N : St → Hp → Prop, (∀ σ' H', N σ' H' → ∃ m', m' < m ∧ W (i + 1) m' σ' H') ∧ ∀ x H', J.yld i H x H' → g x σ H' fun σ2 H2 => tb ⟨N, rt, nx, N⟩ σ2 H2) :=
  for_it (D := ⟨nx, rt, fun _ _ => False, fun _ _ => False⟩) w Pv h0 hG hs hd
/-- a tuple's items to names -/
theorem wGTup {K : PySem.W.Frag} {n : Nat} {t : TGs} {a : Addr} {xs : List V} {σ : St} {H : Hp} {N : St → Hp → Prop} (s : SqT K H a xs) (e : xs.length = n) (h : t xs σ H N) : gTup K n t (.ref a) σ H N := ⟨a, xs, rfl, s, e, h⟩
theorem wGCons {t : TG} {u : TGs} {v : V} {r : List V} {σ : St} {H : Hp} {N : St → Hp → Prop} (h : t v σ H fun σ' H' => u r σ' H' N) : gCons t u (v :: r) σ H N := ⟨v, r, rfl, h⟩
theorem wGNil {σ : St} {H : Hp} {N : St → Hp → Prop} (h : N σ H) : gNil [] σ H N := ⟨rfl, h⟩
/-! slices -/
section
variable {K : PySem.W.Frag} {H : Hp} {L : List En} {a : Addr} {xs : List V} {Q : VK} {σ : St} {r : V → Option Int → Option Int → Hp → VK → Prop} {te : TE} {tl th : TO} {lo hi : Option Int} {i : Int}
theorem wSl (h : te σ H fun x H1 => tl σ H1 fun l H2 => th σ H2 fun u H3 => r x l u H3 Q) : tSl r te tl th σ H Q := h
theorem wNoPart {QO : Option Int → Hp → Prop} (h : QO none H) : tNoPart σ H QO := h
def PartV (x : V) (H : Hp) (QO : Option Int → Hp → Prop) : Prop := ∃ i, x = .int i ∧ QO (some i) H
theorem wPart {QO : Option Int → Hp → Prop} {t : TE} (h : t σ H fun x H1 => PartV x H1 QO) : tPart t σ H QO := h
theorem wPartV {QO : Option Int → Hp → Prop} (h : QO (some i) H) : PartV (.int i) H QO := ⟨i, rfl, h⟩
theorem wSlL (s : SqL K H a xs) (F : Fx H L) (k : ∀ p H', Fx H' (.ob p (.lst (cutV xs lo hi)) :: L) → Q (.ref p) H') : rOrS (rSlL K) (rSlT K) (.ref a) lo hi H Q := .inl ⟨a, xs, rfl, s, wNewF F k⟩
theorem wSlT (s : SqT K H a xs) (n : ¬ (HT.sIx xs.length 0 lo = 0 ∧ HT.sIx xs.length xs.length hi = xs.length)) (F : Fx H L) (k : ∀ p H', Fx H' (.ob p (.tup (cutV xs lo hi)) :: L) → Q (.ref p) H') : rOrS (rSlL K) (rSlT K) (.ref a) lo hi H Q := .inr ⟨a, xs, rfl, s, n, wNewF F k⟩
theorem cut_tail : cutV xs (some 1) none = xs.tail := by
  unfold cutV HT.sIx
  cases xs with
  | nil => rfl
  | cons x r =>
    simp only [List.length_cons]
    have e : (min (1 : Int).toNat (r.length + 1)) = 1 := by
      have : (1 : Int).toNat = 1 := rfl
      omega
    simp
end

/-! a list or a tuple, walked -/
section
variable {X : Cx} {tg : Expr}
def GoS (K : PySem.W.Frag) (x : V) (H : Hp) (R : It → Hp → Prop) : Prop := GoL K x H R ∨ GoT K x H R
def iSeq (K : PySem.W.Frag) (tl : TE) : TI := fun σ H R => tl σ H fun x H1 => GoS K x H1 R
theorem pi_seq {l : Expr} {tl : TE} (hl : PE X l tl) : PI X tg l (iSeq X.K tl) := by
  refine ⟨fun pins
        s σ H R I h => ?_⟩
  refine thn (hl.run pins s σ H _ I h)
        fun v s1 ⟨x, H1, I1, r1, q1⟩ => ?_
  rcases q1 with q1 | q1
  · obtain ⟨a, e, ⟨xs, hq⟩, q⟩ := q1
    subst e
    cases r1
    obtain ⟨its, rv, p,
          hz⟩ := I1.list hq
    refine wpAny_pyIter_list
          p.isList ?_
    refine ⟨s1.heap.objs.size, [s1.heap.objs.size], _, _, H1, rfl, I1.kept (t' := s1.toks) fun b o e =>
          Heap.get?_push_of_some _ e, turn_list a _, ⟨_, Heap.get?_push_size _ rfl, rfl, rfl⟩, fun b hb => ?_, q⟩
    have e : b = s1.heap.objs.size
          := by simpa using hb
    subst e
    exact I1.fpOk (Nat.le_refl _)
          (I1.hok.fresh (Nat.le_refl _))
  · obtain ⟨a, e, ⟨xs, hq⟩, q⟩ := q1
    subst e
    cases r1
    obtain ⟨its, rv, p,
          hz⟩ := I1.tuple hq
    refine wpAny_pyIter_tuple (show
          s1.heap.IsTuple a its.toArray from p) ?_
    refine ⟨s1.heap.objs.size, [s1.heap.objs.size], _, _, H1, rfl, I1.kept (t' := s1.toks) fun b o e =>
          Heap.get?_push_of_some _ e, turn_tuple a _, ⟨_, Heap.get?_push_size _ rfl, rfl, rfl⟩, fun b hb => ?_, q⟩
    have e : b = s1.heap.objs.size
          := by simpa using hb
    subst e
    exact I1.fpOk (Nat.le_refl _)
          (I1.hok.fresh (Nat.le_refl _))
end
section
variable {K : PySem.W.Frag} {H : Hp} {L : List En} {a : Addr} {xs : List V} {RI : It → Hp → Prop} {σ : St} {te : TE}
theorem wIS (h : te σ H fun x H1 => GoS K x H1 RI) : iSeq K te σ H RI := h
theorem wGoSL (s : SqL K H a xs) (h : RI (Itl K a) H) : GoS K (.ref a) H RI := .inl (wGoL s h)
theorem wGoST (s : SqT K H a xs) (h : RI (Itt K a) H) : GoS K (.ref a) H RI := .inr (wGoT s h)
end
end Z
namespace Z
open PySem L2 RZ
theorem SeqIs.mono {L L' : List En} {a : V} {o : Option (List V)} (s : SeqIs L a o) (h : ∀ e ∈ L, e ∈ L') : SeqIs L' a o := by
  cases s with
  | non => exact .non
  | bl b => exact .bl b
  | int i => exact .int i
  | str z => exact .str z
  | lst m => exact .lst (h _ m)
  | tup m => exact .tup (h _ m)
  | dct m => exact .dct (h _ m)
end Z

set_option Elab.async false
set_option linter.all false
set_option maxRecDepth 100000
set_option maxHeartbeats 2000500
namespace Z
open PySem L2 RZ
theorem wAll {K : PySem.W.Frag} {H : Hp} {a : Addr} {bs : List Bool} {Q : VK} (s : SqL K H a (bs.map V.bl)) (h : Q (.bl (bs.all id)) H) : rAll K [.ref a] H Q := ⟨a, bs, rfl, s, h⟩
theorem wSum {K : PySem.W.Frag} {H : Hp} {a : Addr} {ns : List Int} {Q : VK} (s : SqL K H a (ns.map V.int)) (h : Q (.int ns.sum) H) : rSum K [.ref a] H Q := ⟨a, ns, rfl, s, h⟩
theorem wSorted {K : PySem.W.Frag} {H : Hp} {L : List En} {a : Addr} {ns : List Int} {Q : VK} (s : SqL K H a (ns.map V.int)) (n : ns.length < 64) (F : Fx H L) (k : ∀ (ms : List Int) p H', ms.Perm ns → ms.Pairwise (· ≤ ·) → Fx H' (.ob p (.lst (ms.map V.int)) :: L) → Q (.ref p) H') : rSorted K [.ref a] H Q :=
  ⟨a, ns, rfl, s, n, fun ms p q r hp => k ms p _ q r (F.new hp)⟩
/-- neighbours ascend -/
def asc : List Int → Bool
  | a :: b :: r => decide (a < b) && asc (b :: r)
  | _ => true
theorem asc_pw : ∀ {l : List Int}, asc l = true ↔ l.Pairwise (· < ·)
  | [] => by simp [asc]
  | [a] => by simp [asc]
  | a :: b :: r => by
    have ih := asc_pw (l := b :: r)
    have e : asc (a :: b :: r) = (decide (a < b) && asc (b :: r)) := by rw [asc]
    rw [e, Bool.and_eq_true, ih, decide_eq_true_iff]
    constructor
    · intro hp
      obtain ⟨h, p⟩ := hp
      refine List.pairwise_cons.mpr ⟨fun x hx => ?_, p⟩
      rcases List.mem_cons.mp hx with e1 | hx
      · rw [e1]; exact h
      · exact Int.lt_trans h ((List.pairwise_cons.mp p).1 x hx)
    · intro hp
      obtain ⟨h, p⟩ := List.pairwise_cons.mp hp
      exact ⟨h b List.mem_cons_self, p⟩
theorem asc_zip : ∀ {l : List Int}, ((l.zip l.tail).all fun p => decide (p.1 < p.2)) = asc l
  | [] => rfl
  | [a] => rfl
  | a :: b :: r => by
    have ih := asc_zip (l := b :: r)
    have e : asc (a :: b :: r) = (decide (a < b) && asc (b :: r)) := by rw [asc]
    rw [e, ← ih]
    rfl
theorem ints_of {xs : List V} {lo hi : V} (h : xs.all (fun x => inB x lo hi) = true) : ∃ ns : List Int, xs = ns.map V.int := by
  induction xs with
  | nil => exact ⟨[], rfl⟩
  | cons x r ih =>
    rw [List.all_cons,
          Bool.and_eq_true] at h
    obtain ⟨ns, e⟩ := ih h.2
    cases x with
    | int i => exact ⟨i :: ns, by rw [e]; rfl⟩
    | _ => exact absurd h.1 (by simp [inB])
theorem take_succ_map {α β : Type} {f : α → β} {l : List α} {i : Nat} {x : α} (h : l[i]? = some x) : (l.take (i + 1)).map f = (l.take i).map f ++ [f x] := by
  rw [List.take_add_one, h, List.map_append]
  rfl

section
variable {K : PySem.W.Frag} {H : Hp} {L : List En} {a b : V} {xs ys : List V} {Q : VK} {g : TG} {tt : TT} {te : TE} {vs : List Nat} {σ : St}
theorem wLcS {QD : Addr → Hp → Prop} (hq : SeqIs L a (some xs)) (F : Fx H L) (R : Nat → List V → List En → Prop) (h0 : R 0 [] L) (keep : ∀ i acc L', R i acc L' → ∀ e ∈ L, e ∈ L')
    (hs : ∀ i x D H' acc L', xs[i]? = some x → R i acc L' → Fx H' (.ob D (.lst acc) :: L') → g x (wipe σ vs) H' fun σ2 H2 => wipe σ2 vs = wipe σ vs ∧ tt σ2 H2 fun b H3 =>
      if b = true then te σ2 H3 fun y H4 => LcPut D R i y H4 else LcP D R (i + 1) H3)
    (hd : ∀ D acc L' H', Fx H' (.ob D (.lst acc) :: L') → R xs.length acc L' → QD D H') :
    GoS K a H fun J H1 => ∀ D, H1 D = none → ∃ W : Nat → Nat → Hp → Prop, (∃ m, W 0 m (upd H1 D (.lst []))) ∧ ∀ i m H, W i m H →
  (J.stop i H ∧ QD D H) ∨ (J.go i H ∧ ∃ Nx : Hp → Prop, (∀ H', Nx H' → ∃ m', m' < m ∧ W (i + 1) m' H') ∧ ∀ x H', J.yld i H x H' → g x (wipe σ vs) H' fun σ2 H2 => wipe σ2 vs = wipe σ vs ∧ tt σ2 H2 fun b H3 =>
    if b = true then te σ2 H3 fun y H4 => ∃ acc, H4 D = some (.lst acc) ∧
          acc.length < sizeLine ∧ Nx (upd H4 D (.lst (acc ++ [y]))) else Nx H3) := by
  cases hq with
  | lst m =>
    refine wGoSL (F.lst m) (wLcW (walk_list (K := K) (xs := xs)) F R h0 (fun i acc L' D H' r F' => F'.lst (List.mem_cons_of_mem _ (keep _ _ _ r _ m))) ?_ hd)
    rintro i x D H' H'' acc L' _ r F' ⟨rfl, e⟩
    exact hs i x D H'' acc L' e r F'
  | tup m =>
    refine wGoST (F.tup m) (wLcW (walk_tup (K := K) (xs := xs)) F R h0 (fun i acc L' D H' r F' => F'.tup (List.mem_cons_of_mem _ (keep _ _ _ r _ m))) ?_ hd)
    rintro i x D H' H'' acc L' _ r F' ⟨rfl, e⟩
    exact hs i x D H'' acc L' e r F'
/-- zip of two lists, or of two tuples -/
inductive Seq2 (L : List En) : V → V → List V → List V → Prop where
  | lst {a b : Addr} {xs ys : List V} (m : En.ob a (.lst xs) ∈ L) (m' : En.ob b (.lst ys) ∈ L) : Seq2 L (.ref a) (.ref b) xs ys
  | tup {a b : Addr} {xs ys : List V} (m : En.ob a (.tup xs) ∈ L) (m' : En.ob b (.tup ys) ∈ L) : Seq2 L (.ref a) (.ref b) xs ys
theorem wLcZ {QD : Addr → Hp → Prop} (hq : Seq2 L a b xs ys) (F : Fx H L) (R : Nat → List V → List En → Prop) (h0 : R 0 [] L) (keep : ∀ i acc L', R i acc L' → ∀ e ∈ L, e ∈ L')
    (hs : ∀ i x y T D H' acc L', xs[i]? = some x → ys[i]? = some y → R i acc L' → Fx H' (.ob T (.tup [x, y]) :: .ob D (.lst acc) :: L') → g (.ref T) (wipe σ vs) H' fun σ2 H2 => wipe σ2 vs = wipe σ vs ∧ tt σ2 H2 fun b H3 =>
      if b = true then te σ2 H3 fun y H4 => LcPut D R i y H4 else LcP D R (i + 1) H3)
    (hd : ∀ D acc L' H', Fx H' (.ob D (.lst acc) :: L') → R (min xs.length ys.length) acc L' → QD D H') :
    GoZ K [a, b] H fun J H1 => ∀ D, H1 D = none → ∃ W : Nat → Nat → Hp → Prop, (∃ m, W 0 m (upd H1 D (.lst []))) ∧ ∀ i m H, W i m H →
  (J.stop i H ∧ QD D H) ∨ (J.go i H ∧ ∃ Nx : Hp → Prop, (∀ H', Nx H' → ∃ m', m' < m ∧ W (i + 1) m' H') ∧ ∀ x H', J.yld i H x H' → g x (wipe σ vs) H' fun σ2 H2 => wipe σ2 vs = wipe σ vs ∧ tt σ2 H2 fun b H3 =>
    if b = true then te σ2 H3 fun y H4 => ∃ acc, H4 D = some (.lst acc) ∧
          acc.length < sizeLine ∧ Nx (upd H4 D (.lst (acc ++ [y]))) else Nx H3) := by
  cases hq with
  | lst m m' =>
    refine wGoZL (F.lst m) (F.lst m') (wLcW (walk_zip (K := K) (xs := xs) (ys := ys) rfl) F R h0 (fun i acc L' D H' r F' => ⟨F'.lst (List.mem_cons_of_mem _ (keep _ _ _ r _ m)), F'.lst (List.mem_cons_of_mem _ (keep _ _ _ r _ m'))⟩) ?_ hd)
    rintro i v D H' H'' acc L' _ r F' ⟨T, x, y, rfl, hT, rfl, e1, e2⟩
    exact hs i x y T D _ acc L' e1 e2 r (F'.new hT)
  | tup m m' =>
    refine wGoZT (F.tup m) (F.tup m') (wLcW (walk_zipT (K := K) (xs := xs) (ys := ys) rfl) F R h0 (fun i acc L' D H' r F' => ⟨F'.tup (List.mem_cons_of_mem _ (keep _ _ _ r _ m)), F'.tup (List.mem_cons_of_mem _ (keep _ _ _ r _ m'))⟩) ?_ hd)
    rintro i v D H' H'' acc L' _ r F' ⟨T, x, y, rfl, hT, rfl, e1, e2⟩
    exact hs i x y T D _ acc L' e1 e2 r (F'.new hT)
/-- a for over a list or a tuple -/
theorem wForS {tb : TS} {nx : St → Hp → Prop} {rt : VK} (hq : SeqIs L a (some xs)) (F : Fx H L) (Pv : Nat → St → Hp → Prop) (h0 : Pv 0 σ H) (keep : ∀ i σ H', Pv i σ H' → ∃ L', Fx H' L' ∧ ∀ p o, En.ob p o ∈ L → En.ob p o ∈ L')
    (hs : ∀ i x σ H', xs[i]? = some x → Pv i σ H' → g x σ H' fun σ2 H2 => tb ⟨Pv (i + 1), rt, nx, Pv (i + 1)⟩ σ2 H2) (hd : ∀ σ H', Pv xs.length σ H' → nx σ H') :
    GoS K a H fun J H1 => ∃ W : Nat → Nat → St → Hp → Prop, (∃ m, W 0 m σ H1) ∧ ∀ i m σ H, W i m σ H →
      (J.stop i H ∧ nx σ H) ∨ (J.go i H ∧ ∃ N : St → Hp → Prop, (∀ σ' H', N σ' H' → ∃ m', m' < m ∧ W (i + 1) m' σ' H') ∧ ∀ x H', J.yld i H x H' → g x σ H' fun σ2 H2 => tb ⟨N, rt, nx, N⟩ σ2 H2) := by
  cases hq with
  | lst m =>
    refine wGoSL (F.lst m) (wForW (walk_list (K := K) (xs := xs)) Pv h0 (fun i σ H' _ p => ?_) ?_ hd)
    · obtain ⟨L', F', k⟩ := keep i σ H' p
      exact F'.lst (k _ _ m)
    · rintro i x σ H' H'' _ p ⟨rfl, e⟩
      exact hs i x σ H'' e p
  | tup m =>
    refine wGoST (F.tup m) (wForW (walk_tup (K := K) (xs := xs)) Pv h0 (fun i σ H' _ p => ?_) ?_ hd)
    · obtain ⟨L', F', k⟩ := keep i σ H' p
      exact F'.tup (k _ _ m)
    · rintro i x σ H' H'' _ p ⟨rfl, e⟩
      exact hs i x σ H'' e p
/-- the tail of a list or of a tuple that is not empty -/
theorem wSlS (hq : SeqIs L a (some xs)) (n : xs ≠ []) (F : Fx H L) (k : ∀ p H' e, Fx H' (e :: L) → Seq2 (e :: L) a (.ref p) xs xs.tail → Q (.ref p) H') : rOrS (rSlL K) (rSlT K) a (some 1) none H Q := by
  cases hq with
  | lst m => exact wSlL (F.lst m) F fun p H' F' => k p H' _ F' (.lst (List.mem_cons_of_mem _ m) (by rw [cut_tail]; exact List.mem_cons_self))
  | tup m =>
    refine wSlT (F.tup m) (fun h => ?_) F fun p H' F' => k p H' _ F' (.tup (List.mem_cons_of_mem _ m) (by rw [cut_tail]; exact List.mem_cons_self))
    have e := h.1
    cases xs with
    | nil => exact n rfl
    | cons x r => simp [HT.sIx] at e
end

/-! list(range(a, b)) -/
def rgI (a b : Int) : List Int := (List.range (b - a).toNat).map fun i => a + (i : Nat)
theorem rgV_ints (a b : Int) : rgV a b = (rgI a b).map V.int := by
  unfold rgV rgI
  rw [List.map_map]
  rfl
theorem rgI_len (a b : Int) : (rgI a b).length = (b - a).toNat := by unfold rgI; rw [List.length_map, List.length_range]
theorem rgI_mem {a b n : Int} (h : n ∈ rgI a b) : a ≤ n ∧ n < b := by
  unfold rgI at h
  obtain ⟨i, hi, rfl⟩
        := List.mem_map.mp h
  have := List.mem_range.mp hi
  omega
theorem rgI_nodup (a b : Int) : (rgI a b).Nodup := by
  unfold rgI
  refine List.Pairwise.map _ (fun x y h => ?_) List.nodup_range
  intro e
  exact h (by omega)
section
variable {H : Hp} {L : List En} {Q : VK} {σ : St} {ta tb : TE} {i j : Int}
def RgV (x y : V) (H : Hp) (Q : VK) : Prop := ∃ i j, x = .int i ∧ y = .int j ∧ RgOk i j ∧ ∀ q, H q = none → Q (.ref q) (upd H q (.lst (rgV i j)))
theorem wListRg2 (h : ta σ H fun x H1 => tb σ H1 fun y H2 => RgV x y H2 Q) : tLstRg (tRg2 ta tb) σ H Q := h
theorem wListRg1 (h : ta σ H fun x H1 => RgV (.int 0) x H1 Q) (mono : ∀ (P P' : V → Hp → Prop) , (∀ x H, P x H → P' x H) → ta σ H P → ta σ H P') : tLstRg (tRg1 ta) σ H Q := by
  refine mono _ _ (fun x H1 z => ?_) h
  obtain ⟨i, j, e1, e2, r, q⟩ := z
  cases e1
  exact ⟨j, e2, r, q⟩
theorem wRgV (ok : RgOk i j) (F : Fx H L) (k : ∀ p H', Fx H' (.ob p (.lst ((rgI i j).map V.int)) :: L) → Q (.ref p) H') : RgV (.int i) (.int j) H Q := ⟨i, j, rfl, rfl, ok, by rw [rgV_ints]; exact wNewF F k⟩
end
theorem pw_lt {l : List Int} (h : l.Pairwise (· ≤ ·)) (n : l.Nodup) : l.Pairwise (· < ·) := by
  have q : l.Pairwise (fun a b => a ≤ b ∧ a ≠ b) := h.and n
  exact q.imp fun ⟨a, b⟩ => by omega
theorem erase_perm {α : Type} : ∀ {l : List α} {k : Nat} {x : α}, l[k]? = some x → (x :: l.eraseIdx k).Perm l
  | [], k, x, h => by simp at h
  | a :: r, 0, x, h => by
    have e : a = x :=
          Option.some.inj h
    subst e
    exact List.Perm.refl _
  | a :: r, k + 1, x, h => by
    have ih := erase_perm (l := r) (k := k) (x := x) h
    exact (List.Perm.swap a x _).trans (ih.cons a)
theorem seqIx {v : Int} {n : Nat} (h0 : 0 ≤ v) (h1 : v < n) : seqIndex? v n = some v.toNat := by
  unfold seqIndex?
  simp [h0, h1]
  try omega
theorem map_get {ns : List Int} {k : Nat} (h : k < ns.length) : (ns.map V.int)[k]? = some (V.int (ns.getD k 0)) := by
  rw [List.getElem?_map, List.getElem?_eq_getElem h,
        List.getD_eq_getElem?_getD, List.getElem?_eq_getElem h]
  rfl
theorem get_getD {ns : List Int} {k : Nat} (h : k < ns.length) : ns[k]? = some (ns.getD k 0) := by
  rw [List.getElem?_eq_getElem h,
        List.getD_eq_getElem?_getD, List.getElem?_eq_getElem h]
  rfl
theorem map_erase : ∀ {ns : List Int} {k : Nat}, (ns.map V.int).eraseIdx k = (ns.eraseIdx k).map V.int
  | [], _ => rfl
  | _ :: _, 0 => rfl
  | a :: r, k + 1 => by
    have ih := map_erase (ns := r) (k := k)
    show V.int a :: (r.map V.int).eraseIdx k = V.int a :: (r.eraseIdx k).map V.int
    rw [ih]
end Z

set_option Elab.async false
set_option linter.all false
set_option maxRecDepth 100000
set_option maxHeartbeats 2000500
namespace Z
open PySem L2 RZ
/-! ### data of whole numbers, compared -/
def iD (ns : List Int) : List PyData := ns.map PyData.int
theorem dpAll_ints {K : PySem.W.Frag} {H : Hp} : ∀ ns : List Int, DpAll K H (ns.map V.int) (iD ns)
  | [] => .nil
  | n :: r => .cons (.int n) (dpAll_ints r)
theorem eqvAll_ints : ∀ ns ms : List Int, PyData.eqvAll (iD ns) (iD ms) = decide (ns = ms)
  | [], [] => rfl
  | [], _ :: _ => rfl
  | _ :: _, [] => rfl
  | n :: r, m :: q => by
    show (PyData.eqv (.int n) (.int m) && PyData.eqvAll (iD r) (iD q)) = decide (n :: r = m :: q)
    rw [eqvAll_ints r q]
    show ((n == m) && decide (r = q)) = decide (n :: r = m :: q)
    by_cases h : n = m
    · subst h
      by_cases h' : r = q
      · subst h'; simp
      · simp [h']
    · simp [h]
theorem canLay_ints : ∀ ns : List Int, PyData.canLayAll0 (iD ns) = true
  | [] => rfl
  | n :: r => by
    show (PyData.canLay0 (.int n) && PyData.canLayAll0 (iD r)) = true
    rw [canLay_ints r]
    rfl
theorem depth_ints : ∀ ns : List Int, PyData.depthAll (iD ns) = 0
  | [] => rfl
  | n :: r => by
    show max (PyData.depth (.int n)) (PyData.depthAll (iD r)) = 0
    rw [depth_ints r]
    rfl
theorem shaped_tup (ns : List Int) : SeqAt.shaped (.tuple (iD ns)) = true := by
  unfold SeqAt.shaped
  rw [Bool.and_eq_true]
  refine ⟨canLay_ints ns, decide_eq_true ?_⟩
  show PyData.depthAll (iD ns) + 1 ≤ 64
  rw [depth_ints]
  decide
theorem shaped_lst (ns : List Int) : SeqAt.shaped (.list (iD ns)) = true := shaped_tup ns
section
variable {K : PySem.W.Frag} {H : Hp} {Q : VK} {a b : Addr} {ns ms : List Int} {x y : V} {r : R2}
theorem wEqTT (s : SqT K H a (ns.map V.int)) (t : SqT K H b (ms.map V.int)) (h : Q (.bl (decide (ns = ms))) H) : rOr rEq (rEqD K) (.ref a) (.ref b) H Q :=
  .inr ⟨_, _, .tup s (dpAll_ints ns), .tup t (dpAll_ints ms), shaped_tup ns, shaped_tup ms, by
    have e : PyData.eqv (.tuple (iD ns)) (.tuple (iD ms)) = decide (ns = ms) := eqvAll_ints ns ms
    rw [e]; exact h⟩
theorem wEqLL (s : SqL K H a (ns.map V.int)) (t : SqL K H b (ms.map V.int)) (h : Q (.bl (decide (ns = ms))) H) : rOr rEq (rEqD K) (.ref a) (.ref b) H Q :=
  .inr ⟨_, _, .lst s (dpAll_ints ns), .lst t (dpAll_ints ms), shaped_lst ns, shaped_lst ms, by
    have e : PyData.eqv (.list (iD ns)) (.list (iD ms)) = decide (ns = ms) := eqvAll_ints ns ms
    rw [e]; exact h⟩
theorem wNeTT (s : SqT K H a (ns.map V.int)) (t : SqT K H b (ms.map V.int)) (h : Q (.bl (!decide (ns = ms))) H) : rOr rNe (rNeD K) (.ref a) (.ref b) H Q :=
  .inr ⟨_, _, .tup s (dpAll_ints ns), .tup t (dpAll_ints ms), shaped_tup ns, shaped_tup ms, by
    have e : PyData.eqv (.tuple (iD ns)) (.tuple (iD ms)) = decide (ns = ms) := eqvAll_ints ns ms
    rw [e]; exact h⟩
theorem wNeLL (s : SqL K H a (ns.map V.int)) (t : SqL K H b (ms.map V.int)) (h : Q (.bl (!decide (ns = ms))) H) : rOr rNe (rNeD K) (.ref a) (.ref b) H Q :=
  .inr ⟨_, _, .lst s (dpAll_ints ns), .lst t (dpAll_ints ms), shaped_lst ns, shaped_lst ms, by
    have e : PyData.eqv (.list (iD ns)) (.list (iD ms)) = decide (ns = ms) := eqvAll_ints ns ms
    rw [e]; exact h⟩
/-- two texts, one of them known -/
theorem wNeStr {z z' : Str} (h : Q (.bl (!decide (z = z'))) H) : rOr rNe (rNeD K) (.str z) (.str z') H Q := .inl ⟨rfl, by
  have e : decide (V.str z = V.str z') = decide (z = z') := by
    by_cases q : z = z'
    · rw [q, decide_eq_true rfl, decide_eq_true rfl]
    · rw [decide_eq_false q, decide_eq_false (fun z => q (by injection z))]
  rw [e]; exact h⟩
theorem wEqStr {z z' : Str} (h : Q (.bl (decide (z = z'))) H) : rOr rEq (rEqD K) (.str z) (.str z') H Q := .inl ⟨rfl, by
  have e : decide (V.str z = V.str z') = decide (z = z') := by
    by_cases q : z = z'
    · rw [q, decide_eq_true rfl, decide_eq_true rfl]
    · rw [decide_eq_false q, decide_eq_false (fun z => q (by injection z))]
  rw [e]; exact h⟩
theorem wProp {C : Addr} {sp : Sp} {E : XK} {te : TE} {σ : St} (h : te σ H fun x H1 => ∃ a dx fs, x = .ref a ∧ H1 a = some (.ins C dx fs) ∧ sp [.ref a] H1 Q E) : tProp C sp [] E te σ H Q := h
theorem wSqTof {L : List En} (F : Fx H L) {xs : List V} (m : En.ob a (.tup xs) ∈ L) : SqT K H a xs := F.tup m
end
end Z
namespace Z
open PySem L2 RZ
theorem at_last {ns : List Int} (h : 0 < ns.length) : atI (ns.map V.int) (-1) = some (V.int (ns.getD (ns.length - 1) 0)) := by
  unfold atI ixN
  rw [if_neg (by decide), if_pos (by rw [List.length_map]; omega)]
  have e : ((-1 : Int) + (ns.map V.int).length).toNat = ns.length - 1 := by rw [List.length_map]; omega
  rw [e]
  exact map_get (by omega)
end Z
namespace Z
open PySem L2 RZ
theorem wXf {a : Addr} {cls : Value} {d : Option Addr} {C : Addr} {f : Str} {te : TE} {σ : St} {H : Hp} {Q : VK} (h : te σ H fun x H1 => x = .ref a ∧ cls = .ref C ∧ ∃ (dd : Addr) (fs : List (Str × V)) (v : V), d = some dd ∧ H1 dd = some (.xd fs) ∧ fs.lookup f = some v ∧ Q v H1) : tXf a cls d C f te σ H Q := h
theorem wAs_yes {K : PySem.W.Frag} {c : Value} {i : Nat} {ts : Addr → Value → Option Addr → TS} {Wout : WX} {nx bk ct : St → Hp → Prop} {rt : VK} {d : Option Addr} {σ : St} {H : Hp} (e : PySem.W.exmOne K c c = some true)
    (h : ∀ a, H a = none → ts a c d ⟨fun σ' H' => nx (σ'.set i none) H', rt, fun σ' H' => bk (σ'.set i none) H', fun σ' H' => ct (σ'.set i none) H'⟩ (σ.set i (some (.ref a))) H) : WE (wAs K c i ts Wout ⟨nx, rt, bk, ct⟩) σ c d H :=
  ⟨true, e, fun _ a ha => h a ha, fun q => Bool.noConfusion q⟩
end Z

set_option Elab.async false
set_option linter.all false
set_option maxRecDepth 100000
set_option maxHeartbeats 2000500
namespace Z
open PySem L2 RZ PySem.Spec PyProof.Rows
/-! ### a try whose clauses have a name or none, mixed -/
/-- a clause: the class, the slot of its name if it has one, the suite -/
structure Cl where
  c : Value
  i : Option Nat
  ts : Addr → Value → Option Addr → TS
/-- behind a suite the name is gone -/
def gone (D : Ends) : Option Nat → Ends
  | none => D
  | some i => ⟨fun σ H => D.nx (σ.set i none) H, D.rt, fun σ H => D.bk (σ.set i none) H, fun σ H => D.ct (σ.set i none) H⟩
def held (a : Addr) (σ : L2.St) : Option Nat → L2.St
  | none => σ
  | some i => σ.set i (some (.ref a))
def wMix (K : PySem.W.Frag) (Wout : WX) (D : Ends) : List Cl → WX
  | [] => Wout
  | k :: r => fun cls d σ H => ∃ b, PySem.W.exmOne K cls k.c = some b ∧
    (b = true → ∀ a, H a = none → k.ts a cls d (gone D k.i) (held a σ k.i) H) ∧
    (b = false → wMix K Wout D r cls d σ H)
inductive ClsOk (X : Cx) : List ExceptHandler → List Cl → Prop
  | nil : ClsOk X [] []
  | bare {x : Str} {c : Value} {ts : Addr → Value → Option Addr → TS} {b₀ : Stmt} {su : List Stmt} {np ps : Pos} {hs : List ExceptHandler} {l : List Cl}
      (hc : Names X x c) (hsu : ∀ (a : Addr) (oe : Obj) (cls : Value) (d : Option Addr) (pn : List (Addr × Obj)), Zc cls d oe →
        (∃ vs, oe.data = .fields vs) → PSs (X.suite a ((a, oe) :: pn)) (b₀ :: su) (ts a cls d)) (r : ClsOk X hs l) :
      ClsOk X (.ExceptHandler (some (.Name x np)) none (b₀ :: su) ps :: hs) (⟨c, none, ts⟩ :: l)
  | named {x n : Str} {i : Nat} {c : Value} {ts : Addr → Value → Option Addr → TS} {b₀ : Stmt} {su : List Stmt} {np ps : Pos} {hs : List ExceptHandler} {l : List Cl}
      (hN : X.N.Nodup) (hi : X.N[i]? = some n) (hln : X.env.kindOf n = some .local)
      (hc : Names X x c) (hsu : ∀ (a : Addr) (oe : Obj) (cls : Value) (d : Option Addr) (pn : List (Addr × Obj)), Zc cls d oe →
        (∃ vs, oe.data = .fields vs) → PSs (X.suite a ((a, oe) :: pn)) (b₀ :: su) (ts a cls d)) (r : ClsOk X hs l) :
      ClsOk X (.ExceptHandler (some (.Name x np)) (some n) (b₀ :: su) ps :: hs) (⟨c, some i, ts⟩ :: l)
section
variable {X : Cx} {body : List Stmt} {h₀ : ExceptHandler} {hds : List ExceptHandler} {l : List Cl} {pos : Pos} {tb : WX → TS} {Wout : WX}
theorem ps_try_mix (hs : X.stack = X.env :: X.outer) (hf : X.env.frame = some X.env.locals) (tk : Takes X Wout)
    (hb : ∀ (W : WX) (pn : List (Addr × Obj)) (xe : Value → Shared → Prop), Takes (X.tr pn xe) W →
      PassesOwn (model X.prog X.w) X.A X.env xe → PSs (X.tr pn xe) body (tb W))
    (hh : ClsOk X (h₀ :: hds) l) : PS X (.Try body (h₀ :: hds) [] [] pos) (fun D σ H => tb (wMix X.K Wout D l) D σ H) := by
  refine ⟨fun pins
        s σ H D I h => ?_⟩
  have ok := I.ok
  have frs0 : X.A.frames = some (X.env :: X.outer) := by rw [ok.frames, hs]
  have run := (hb (wMix X.K Wout D l) (X.pn ++ pins)
    (fun e s₁ => wpAny (model X.prog X.w) X.A (noteFrame e X.env) (fun _ s₂ => wpAny (model X.prog X.w) X.A (setFlight e none)
      (fun _ s₃ => wpAny (model X.prog X.w) X.A (handleBy e X.env (h₀ :: hds)) (SP X pins D) X.xe s₃) X.xe s₂) X.xe s₁)
    (fun u s' xx => ?caught) PassesOwn.looking).run [] s σ H D (I.toTry _) h
  · refine wpAny_Try_except (wpAny_mono run (fun f s1 done => ?_) fun e s1 z => z)
    cases f with
    | next =>
      obtain ⟨σ1, H1, J1, q1⟩ := done
      exact wpAny_execs_nil ⟨σ1, H1, J1.ofTry ok, q1⟩
    | brk => exact done.imp fun σ1 ⟨H1, J1, q1⟩ => ⟨H1, J1.ofTry ok, q1⟩
    | cont => exact done.imp fun σ1 ⟨H1, J1, q1⟩ => ⟨H1, J1.ofTry ok, q1⟩
    | ret u =>
      obtain ⟨v, σ1, H1, J1, r1, q1⟩ := done
      exact ⟨v, σ1, H1, J1.ofTry ok, r1, q1⟩
  obtain ⟨a, B, sI, pins', σ', H', cls, d, rfl, J', nb, up, sky, na, os, ag, wish⟩ := xx
  have J : Inv X pins σ'
        H' sI := J'.ofTry ok
  have sky1 : Sky B (X.env :: X.outer) a (Zc cls d) X.env.locals s'.heap := by rw [← hs]; exact sky
  show wpAny (model X.prog X.w) X.A
        (noteFrame (.ref a) X.env) _ _ _
  refine Sky.land Zc.steady frs0 hf sky1 fun h3 fl3 up3 => ?_
  have up13 := up.trans up3
  have J3 : Inv X pins σ' H' { s' with heap := h3 } := J.landed nb fl3.1 up13 os ag
  obtain ⟨oe3, vs3, he3,
        hz3, hd3⟩ := fl3.there
  have away : a ∉ frs (X.env :: X.outer) := fun hm => by
    obtain ⟨_, o', e', q⟩ := fl3.2.2.1.mem hm
    rw [he3] at e'
    cases e'
    exact q _ hd3
  have nL : a ≠ X.env.locals := fun z => away (List.mem_filterMap.mpr ⟨X.env, List.mem_cons_self, by rw [hf, z]⟩)
  have nF : a ∉ X.fs
        := fun hm => by
    obtain ⟨e, he, q⟩ :=
          List.mem_filterMap.mp hm
    exact away (List.mem_filterMap.mpr ⟨e, List.mem_cons_of_mem _ he, q⟩)
  have S3 := J3.suite
        he3 hd3 na nL nF
  have asks : ∀ {x : Str} {c : Value} {np : Pos} {Q E : Value → Shared → Prop}, Names X x c → Q c { s' with heap := h3 } →
      wpAny (model X.prog X.w) (X.A.mark (some (.ref a))) (eval (.Name x np) X.env) Q E { s' with heap := h3 } := fun {x c np Q E} hc q => by
    obtain ⟨hg, hdbg, hm
          | ⟨hm, hv, hnn⟩⟩ := hc
    · exact ld_glob (X := X.suite a ((a,
          oe3) :: (X.pn ++ pins))) S3 hg hm q hdbg
    · exact ld_blt (X := X.suite a ((a, oe3)
          :: (X.pn ++ pins))) S3 hg hm hv q hnn hdbg
  have LT : PySem.W.Looks (model X.prog X.w) h3 (typeOf (.ref a)) cls :=
    fun A Q E s k q => wpAny_typeOf_ref (k _ _ he3) (by rw [hz3.1]; exact q)
  have each : ∀ {hs' : List ExceptHandler} {l' : List Cl}, ClsOk X hs' l' → wMix X.K Wout D l' cls d σ' H' →
      wpAny (model X.prog X.w) X.A (handleBy (.ref a) X.env hs') (SP X pins D) X.xe { s' with heap := h3 } := by
    intro hs' l' hk
    induction hk with
    | nil =>
      intro w
      refine wpAny_handleBy_nil ?_
      obtain ⟨k1, k2, k3, oe, vs, T, oT,
            ts', he, hz, hd, h1, hr⟩ := id fl3
      unfold PySem.passOn
      refine wpAny_bind
            (wpAny_field he hd h1 ?_)
      rw [if_neg (show ¬ ((Value.ref T ==
            Value.none) = true) from by simp)]
      have out : wpAny (model X.prog X.w) X.A (setFlight (.ref a) X.env.frame)
          (fun _ s4 => wpAny (model X.prog X.w) X.A (throw (.ref a) : Sem Flow) (SP X pins D) X.xe s4) X.xe { s' with heap := h3 } := by
        rw [hf]
        refine HandSPX.setFlight_upZ fl3 fun
              h4 hh4 up4 => wpAny_throw (tk _ _ ?_)
        exact ⟨a, B, sI, pins, σ', H', cls, d, rfl, J, nb, up13.trans up4, .inr (.inr (by rw [hs]; exact hh4)), na, os, ag, w⟩
      first
        | exact wpAny_bind (wpAny_pure (wpAny_bind out))
        | exact wpAny_bind out
    | @bare x c ts b₀ su np ps hs2 l2 hc hsu r ih =>
      intro w
      obtain ⟨b, hb1, yes, no⟩ := w
      refine wpAny_handleBy_cons
            (codeAny_handlers_test ?_) (by intro q; cases q)
      have LM := PySem.W.exm_one (M := model X.prog X.w) J3.kIn LT hb1
      refine asks hc (LM.here ?_)
      cases b with
      | false =>
        show wpAny _ X.A (handleBy (.ref a) X.env hs2) _ _ _
        exact ih (no rfl)
      | true =>
        refine codeAny_handlers_suite (HandSPX.lands_againZ fl3 fun h4 fl4 up4 => ?_)
        have J4 : Inv X pins σ' H' { s' with heap := h4 } := J.landed nb fl4.1 (up13.trans up4) os ag
        obtain ⟨oe4, vs4, he4,
              hz4, hd4⟩ := fl4.there
        have S4 := J4.suite
              he4 hd4 na nL nF
        refine wpAny_mono ((hsu a oe4 cls d (X.pn ++ pins) hz4 ⟨_, hd4⟩).run [] _ _ H' _ S4 (yes rfl a na)) (fun f s6 done => ?_) (fun _ _ z => False.elim z)
        cases f with
        | ret u =>
          obtain ⟨v6, σ6, H6, S6, r6, q6⟩ := done
          exact ⟨_, _, _,
                S6.unsuite ok, r6, q6⟩
        | next => exact done.imp fun σ6 ⟨H6, S6, q6⟩ => ⟨H6, S6.unsuite ok, q6⟩
        | brk => exact done.imp fun σ6 ⟨H6, S6, q6⟩ => ⟨H6, S6.unsuite ok, q6⟩
        | cont => exact done.imp fun σ6 ⟨H6, S6, q6⟩ => ⟨H6, S6.unsuite ok, q6⟩
    | @named x n i c ts b₀ su np ps hs2 l2 hN hi hln hc hsu r ih =>
      intro w
      obtain ⟨b, hb1, yes, no⟩ := w
      refine wpAny_handleBy_cons
            (codeAny_handlers_test ?_) (by intro q; cases q)
      have LM := PySem.W.exm_one (M := model X.prog X.w) J3.kIn LT hb1
      refine asks hc (LM.here ?_)
      cases b with
      | false =>
        show wpAny _ X.A (handleBy (.ref a) X.env hs2) _ _ _
        exact ih (no rfl)
      | true =>
        refine codeAny_handlers_suite_as (HandSPX.lands_againZ fl3 fun h4 fl4 up4 => ?_)
        have J4 : Inv X pins σ' H' { s' with heap := h4 } := J.landed nb fl4.1 (up13.trans up4) os ag
        obtain ⟨oe4, vs4, he4,
              hz4, hd4⟩ := fl4.there
        have S4 := J4.suite
              he4 hd4 na nL nF
        refine store_ok (X := X.suite a ((a, oe4) :: (X.pn ++ pins))) (v := .ref a) S4 hN hi (.inl hln) rfl (fun s5 S5 => ?_) (.inr hln)
        refine wpAny_mono ((hsu a oe4 cls d (X.pn ++ pins) hz4 ⟨_, hd4⟩).run [] s5 _ H' _ S5 (yes rfl a na)) (fun f s6 done => ?_) (fun _ _ z => False.elim z)
        have free : ∀ {σ6 : L2.St} {H6 : Hp} {Q : Shared → Prop}, Inv (X.suite a ((a, oe4) :: (X.pn ++ pins))) [] σ6 H6 s6 →
            (∀ s7, Inv X pins (σ6.set i none) H6 s7 → Q s7) →
            wpAny (model X.prog X.w) X.A (do bindName X.env n .none; unbindBehindTheSuite X.env n ps) (fun _ s7 => Q s7) X.xe s6 :=
          fun {σ6 H6 Q} S6 hq => gone_ok (S6.unsuite ok) hN hi hln hq
        cases f with
        | ret u =>
          obtain ⟨v6, σ6, H6, S6, r6, q6⟩ := done
          exact free S6 fun s7 J7 => ⟨_, _, _, J7, r6, q6⟩
        | next =>
          obtain ⟨σ6, H6, S6, q6⟩ := done
          exact free S6 fun s7 J7 => ⟨_, _, J7, q6⟩
        | brk =>
          obtain ⟨σ6, H6, S6, q6⟩ := done
          exact free S6 fun s7 J7 => ⟨_, _, J7, q6⟩
        | cont =>
          obtain ⟨σ6, H6, S6, q6⟩ := done
          exact free S6 fun s7 J7 => ⟨_, _, J7, q6⟩
  exact each hh wish
end
end Z
namespace Z
open PySem L2 RZ PySem.Spec PyProof.Rows
section
variable {X : Cx} {C : Addr} {bmB :
      List Value} {B newId initId : String}
/-- X() of an own error without an __init__ -/
theorem pmk_own0 {x : Str} {p pos : Pos} (F : ExcBaseFacts B newId initId bmB) (q : PySem.W.excIn X.K C bmB newId = true)
    (gC : X.mg x = some (.ref C)) (kC : PySem.W.keepIn X.K (.ref C) = true) (r : Raises X (.ref C)) (hg : Gl X x)
    (hdb : (x == ("__debug__" : Str)) = false := by decide) : PMk X (.Call (.Name x p) [] [] pos) (fun _ H Q => Q (.ref C) none H) := by
  intro pins s σ H Q I h
  refine wpAny_Call_Name_kw
        (ld_glob I hg gC ?_ hdb)
  refine PySem.W.callWith_K0 I.kIn kC ?_
  show wpAny _ _ (call (.ref C) []) _ _ _
  obtain ⟨bm, N, nm, qn, bs, hdct, sn, sub, ab, col, dd, k0, k1, k2, k3, k5, mN, hC, hN, hni, T⟩ := exc_obj I.kIn q
  refine wpAny_call_exc_subT F T hC hN hni (fun h' e hm => ?_) (Nat.zero_le _)
  exact mk_of I hm r h (I.hok.gone hm.new)
end
end Z
/-! ### a method is called in a try; an own error without arguments is raised -/
namespace Z
open PySem L2 RZ
section
variable {X : Cx} {CX : CXT} {k : Nat} {C : Addr} {ps : List Str} {sp : Sp} {E : L2.St → XK} {m x : Str} {p pos apos : Pos} {e o : Expr} {es : List Expr} {ta : TE} {t : TA}
def tMethS (C : Addr) (m : Str) (sp : Sp) (E : L2.St → XK) (ta : TE) (t : TA) : TE := fun σ H Q => ta σ H fun x H1 =>
  ∃ a dx fs, x = .ref a ∧ H1 a = some (.ins C dx fs) ∧ fs.lookup m = none ∧ t σ H1 fun vs H2 => sp (x :: vs) H2 Q (E σ)
theorem pe_methSO {pl : Sem Bool} (O : MethO CX X.prog X.w X.K X.mg X.base C m k ps [] sp) (c : Cls X.K C) (hr : Room k X.A)
    (hx : ∀ σ, PassesAt CX X σ (E σ)) (he : PE X o ta) (ha : PA X (e :: es) t)
    (hst : starEach (e :: es) X.env = (false, eval e X.env) :: starEach es X.env := by rfl)
    (hpl : (backTo pos (starEach es X.env)).any (·.1) = false := by rfl)
    (ht : eval (.Call (.Attribute o m
          apos) (e :: es) [] pos) X.env = (do
      let ov ← eval o X.env
      standAt apos.atName
      let (f, first) ← holding
            [ov] (getMethod ov m pl)
      callWith pos f first (backTo pos (starEach (e :: es)
            X.env)) (backToKw pos (keywordEach [] X.env))) := by rfl) :
    PE X (.Call (.Attribute o m apos) (e ::
          es) [] pos) (tMethS C m sp E ta t) := by
  obtain ⟨f, fd, ds, hm, hb, v, F⟩ := O
  cases v
  refine ⟨fun pins
        s σ H Q I h => ?_⟩
  refine PySem.W.methodCall_KW (pl := pl) (thn (he.run pins s σ H _
        I h) fun u s1 ⟨x, H1, I1, rx, a, dx, fs, ex, ea, l, q⟩ => ?_) ht
  subst ex
  cases rx
  refine getmeth_ok
        I1 ea c hm l ?_
  refine PySem.W.callWith_K (first := [.ref a]) (h₀ := X.base) I.ok.mod.kin hm.kp (thn
        (ha.run pos pins s1 σ H1 _ I1 q) fun us s2 ⟨vs, H2, I2, r, q2⟩ => ⟨I2.kIn, ?_⟩) hst hpl
  exact run_fnS (us := .ref a :: us) (vs := .ref
        a :: vs) F hr hb (hx σ) I2 (.cons rfl r) q2
theorem wMethS {σ : L2.St} {H : Hp} {Q : VK} (h : ta σ H fun x H1 => ∃ a dx fs, x = .ref a ∧ H1 a = some (.ins C dx fs) ∧ fs.lookup m = none ∧ t σ H1 fun vs H2 => sp (x :: vs) H2 Q (E σ)) : tMethS C m sp E ta t σ H Q := h
theorem wMeth {dvs : List V} {E : XK} {σ : L2.St} {H : Hp} {Q : VK} (h : ta σ H fun x H1 => ∃ a dx fs, x = .ref a ∧ H1 a = some (.ins C dx fs) ∧ fs.lookup m = none ∧ t σ H1 fun vs H2 => sp (x :: (vs ++ dvs)) H2 Q E) : tMeth C m sp dvs E ta t σ H Q := h
/-- an own error class that is made without arguments -/
structure ErrF0 (K : PySem.W.Frag) (C : Addr) : Prop where
  ex0 : PySem.W.excIn K C [.type "ValueError", .type "Exception", .type "BaseException", .type "object"] "ValueError.__new__" = true
  kp : PySem.W.keepIn
        K (.ref C) = true
  exC : PySem.W.subIn K (.ref C)
        (.type "BaseException") = some true
  tyC : PySem.W.typeIn K (.ref
        C) = some (.type "type")
theorem pmk_err00 (T : ErrF0 X.K C) (hm : X.mg x = some (.ref C)) (hg : Gl X x) (hdb : (x == ("__debug__" : Str)) = false := by decide) :
    PMk X (.Call (.Name x p) [] [] pos) (fun _ H Q => Q (.ref C) none H) :=
  pmk_own0 PySem.F.excBase_ValueError T.ex0 hm T.kp (raises_own T.exC T.tyC) hg hdb
end
end Z
namespace Z
open PySem L2
theorem exm_of {K : PySem.W.Frag} {cls : Value} {C : Addr} {b : Bool} (hb : PySem.W.subIn K (.ref C) (.type "BaseException") = some true)
    (ic : PySem.W.isClsIn K C = true) (ty : PySem.W.typeIn K (.ref C) = some (.type "type")) (q : PySem.W.subIn K cls (.ref C) = some b) :
    PySem.W.exmOne K cls (.ref C) = some b := by
  have i' : (PySem.W.clsIn K C).isSome = true := ic
  have e2 : ((PySem.W.clsIn K C).isSome && PySem.W.typeIn K (.ref C) == some (.type "type")) = true := by
    rw [i', ty]
    rfl
  have e3 : PySem.W.kitCls K cls (.ref C) = some b := by
    unfold PySem.W.kitCls
    exact (if_pos e2).trans q
  unfold PySem.W.exmOne
  rw [hb]
  exact e3
end Z
namespace Z
open PySem L2
/-- what a callee lets out is let out -/
theorem passE {X : Cx} {E : XK} (tk : Takes X (fun cls d _ H => E cls d H)) : Passes (L2.CX X.prog X.w) X E := fun pins σ H s e s' I c => passAt (W := fun cls d _ H => E cls d H) tk σ pins H s e s' I c
end Z
namespace Z
open PySem L2
theorem wStarL {K : PySem.W.Frag} {te : TE} {t : TA} {σ : L2.St} {H : Hp} {Q : List V → Hp → Prop} (h : te σ H fun x H1 => ∃ p xs, x = V.ref p ∧ (SqT K H1 p xs ∨ SqL K H1 p xs) ∧ t σ H1 fun ys H2 => Q (xs ++ ys) H2) : StX.tStar K te t σ H Q := h
theorem starL {K : PySem.W.Frag} {a : Addr} {xs : List V} {H : Hp} {R : List V → Prop} (s : SqL K H a xs) (h : R xs) : ∃ p xs, V.ref a = V.ref p ∧ (SqT K H p xs ∨ SqL K H p xs) ∧ R xs := ⟨a, xs, rfl, .inr s, h⟩
end Z
namespace Z
open PySem L2
section
variable {K : PySem.W.Frag} {Wout : WX} {D : Ends} {k : Cl} {r : List Cl} {cls : Value} {d : Option Addr} {σ : L2.St} {H : Hp}
theorem wMix_yes (e : PySem.W.exmOne K cls k.c = some true) (h : ∀ a, H a = none → k.ts a cls d (gone D k.i) (held a σ k.i) H) : WE (wMix K Wout D (k :: r)) σ cls d H :=
  ⟨true, e, fun _ => h, fun q => Bool.noConfusion q⟩
theorem wMix_no (e : PySem.W.exmOne K cls k.c = some false) (h : WE (wMix K Wout D r) σ cls d H) : WE (wMix K Wout D (k :: r)) σ cls d H :=
  ⟨false, e, fun q => Bool.noConfusion q, fun _ => h⟩
end
end Z

set_option Elab.async false
set_option linter.all false
set_option maxRecDepth 100000
set_option maxHeartbeats 2000500
namespace Z
open PySem PySem.Spec
      PyProof.Rows
/-- a new list, then all of vs in it -/
abbrev poured (h : Heap) (vs : List Value) : Heap := (h.push (seqObj "list" #[] 0)).update h.objs.size (Obj.mapSeq (· ++ vs.toArray))
section
variable {prog : Program} {w : World} {A :
      Around} {E : Value → Shared → Prop} {s : Shared}
theorem collect_tuple {l : Addr} {vs : List Value} {Q : List Value → Shared → Prop} (hl : s.heap.IsTuple l vs.toArray)
    (h : Q vs { s with heap := poured s.heap vs })
    (hsz : vs.length ≤ sizeLine := by size_fits) : wpAny (model prog w) A (collect (.ref l)) Q E s := by
  obtain ⟨o, ho, hc,
        n, hd⟩ := id hl
  unfold collect
  refine wpAny_bind (wpAny_runValue
        (codeAny_builtin entry_proto_collect' ?_))
  show wpAny _ _ (do again (.builtin "list.__iadd__"
        ⟨[← newList [], .ref l], []⟩)) _ _ s
  refine wpAny_bind (wpAny_newList (wpAny_pure ⟨Code.quiet_builtin
        _ (by decide +kernel), codeAny_builtin entry_list_iadd' ?_⟩))
  show wpAny _ _ (Builtin.List.listExtendWith (.ref s.heap.objs.size) (.ref l) (.ref s.heap.objs.size)) _ _
    { s with heap := s.heap.push (seqObj "list" #[] 0) }
  unfold
        Builtin.List.listExtendWith
  have there : (s.heap.push (seqObj "list" #[] 0)).get? l = some o := Heap.get?_push_of_some _ ho
  refine wpAny_bind (wpAny_typeOf (T := "tuple") ⟨o, there, hc⟩ ?_)
  have tt : (Value.type "tuple" == Value.type "tuple") = true := by rfl
  rw [if_pos (by rw [tt, Bool.or_true])]
  refine wpAny_bind (listItems_at there hd (wpAny_bind (listItems_at (xs := #[]) (n := 0) (Heap.get?_push_size _ rfl) rfl ?_)))
  rw [if_neg (by simp)]
  refine wpAny_bind (listUpdate_at (xs := #[]) (n := 0) (Heap.get?_push_size _ rfl) rfl ?_ (Nat.zero_le _)
    (by show (#[] ++ vs.toArray).size ≤ sizeLine + 1; simp only [Array.size_append, List.size_toArray, List.length_nil]; omega))
  refine wpAny_pure ?_
  show wpAny (model
        prog w) A (do
      let o ← load s.heap.objs.size
      match o.data with
      | .seq xs _ => pure xs.toList
      | _ => unsupported "internal:collect") Q E { s with heap := poured s.heap vs }
  refine wpAny_bind (wpAny_load (get?_update_seq
        (Heap.get?_push_size _ rfl) _) ?_)
  show wpAny _ _ (pure ((#[] : Array
        Value) ++ vs.toArray).toList) Q E _
  have e : ((#[] : Array Value) ++ vs.toArray).toList = vs := by simp
  rw [e]
  exact wpAny_pure h
theorem sorted_intsT {l : Addr} {vs : List Value} {ns : List Int} {Q : Value → Shared → Prop} (ht : s.heap.IsTuple l vs.toArray) (hI : IntsAre vs ns) (h64 : vs.length < 64)
    (h : ∀ (out : Array Value) (ns' : List Int), IntsAre out.toList ns' → ns'.Perm ns → ns'.Pairwise (· ≤ ·) →
      Q (.ref (s.heap.objs.size + 1)) { s with heap := sortedAll s.heap vs out }) :
    wpAny (model prog w) A (call (.builtin
          "sorted") [.ref l]) Q E s := by
  refine Calls.call_function_entry kind_sorted
        plain_sorted entry_sorted (args_sorted1 _) ?_
  unfold Builtin.«sorted»
  refine wpAny_bind (m := checkCount "sorted" 1 1 _) (wpAny_pure (wpAny_bind (collect_tuple ht (wpAny_bind (wpAny_newList ?_)))))
  have sz : (poured s.heap vs).objs.size = s.heap.objs.size + 1 := by
    rw [Heap.size_update,
          size_push']
  have at1 : ((poured s.heap vs).push (seqObj "list" vs.toArray 0)).get? (s.heap.objs.size + 1) =
      some (seqObj "list" vs.toArray 0) := by
    rw [← sz]
    exact Heap.get?_push_size
          _ rfl
  show wpAny _ _ _ _ _ { s with heap := (poured s.heap vs).push (seqObj "list" vs.toArray 0) }
  rw [sz]
  exact wpAny_bind (wpAny_holding (wpAny_call_entry slot_list_sort ⟨_, at1, rfl⟩ entry_list_sort
    (list_sort_tree at1 hI h64 fun out ns' a1 a2 a3 => ⟨_, rfl, wpAny_pure ⟨_, rfl, h out ns' a1 a2 a3⟩⟩) (args_list_sort _)))
end
open L2
/-- sorted of a tuple of ints -/
def rSortedTu (K : PySem.W.Frag) : List V → Hp → VK → Prop := fun vs H Q => ∃ (a : Addr) (ns : List Int), vs = [V.ref a] ∧ SqT K H a (ns.map V.int) ∧ ns.length < 64 ∧
  ∀ (ns' : List Int) (p : Addr), ns'.Perm ns → ns'.Pairwise (· ≤
        ·) → H p = none → Q (.ref p) (upd H p (.lst (ns'.map V.int)))
theorem cr_sortedTu {X : Cx} : CallR X (.builtin "sorted") (rSortedTu X.K) := by
  intro pins s σ
        H vs us Q I r h
  obtain ⟨a, ns, rfl,
        hs, h64, q⟩ := h
  obtain ⟨its, rv, hl, _⟩ := I.tuple hs
  rw [Vals.ref1 r]
  have hi := rv.ints
  refine sorted_intsT (show s.heap.IsTuple a its.toArray from hl) hi (by rw [hi.length]; exact h64) fun out ns' h1 h2 h3 => ?_
  obtain ⟨ep, he'⟩ :=
        PyProof.Rows.sortedAll_at s.heap its out
  have len : (ns'.map V.int).length ≤ sizeLine := by rw [List.length_map, h2.length_eq]; exact small64 h64
  exact ⟨.ref _, upd H (s.heap.objs.size + 1) (.lst (ns'.map V.int)),
    I.laid (t' := s.toks) (fun _ _ => PyProof.Rows.sortedAll_old) (Nat.le_succ _) ⟨len, out.toList, ep, vals_of_ints h1, he'⟩, rfl, q ns' _ h2 h3 (I.hok.fresh (Nat.le_succ _))⟩
theorem wSortedTu {K : PySem.W.Frag} {H : Hp} {L : List En} {a : Addr} {ns : List Int} {Q : VK} (s : SqT K H a (ns.map V.int)) (n : ns.length < 64) (F : Fx H L)
    (k : ∀ (ms : List Int) p H', ms.Perm ns → ms.Pairwise (· ≤ ·) → Fx H' (.ob p (.lst (ms.map V.int)) :: L) → Q (.ref p) H') : rSortedTu K [.ref a] H Q :=
  ⟨a, ns, rfl, s, n, fun ms p q r hp => k ms p _ q r (F.new hp)⟩
end Z
namespace Z
open PySem L2
section
variable {K : PySem.W.Frag} {H : Hp} {L : List En} {a b : Addr} {ns ms : List Int} {z : Int} {Q : VK}
theorem inV_ints (z : Int) : ∀ ns : List Int, inV (.int z) (ns.map V.int) = decide (z ∈ ns)
  | [] => rfl
  | a :: r => by
    have ih := inV_ints z r
    show (eqV (.int a) (.int z) || inV (.int z) (r.map V.int)) = decide (z ∈ a :: r)
    have e : eqV (.int a) (.int z) = decide (a = z) := by
      show (a == z) = decide (a = z)
      by_cases q : a = z <;> simp [q]
    rw [ih, e]
    by_cases h : a = z
    · subst h; simp
    · have h' : ¬ z = a := fun q => h q.symm
      simp [h, h']
theorem flat_ints (ns : List Int) : (ns.map V.int).all flatV = true := by
  rw [List.all_eq_true]
  intro x hx
  obtain ⟨z, _, rfl⟩ := List.mem_map.mp hx
  rfl
theorem wInTu (s : SqT K H a (ns.map V.int)) (h : Q (.bl (decide (z ∈ ns))) H) : rIn K false (.int z) (.ref a) H Q :=
  ⟨a, _, rfl, .inr s, rfl, flat_ints ns, by rw [← inV_ints] at h; exact h⟩
theorem wCatTu (s : SqT K H a (ns.map V.int)) (t : SqT K H b (ms.map V.int)) (n : ns ≠ []) (n' : ms ≠ []) (l : ns.length + ms.length ≤ 1000000) (F : Fx H L)
    (k : ∀ p H', Fx H' (.ob p (.tup ((ns ++ ms).map V.int)) :: L) → Q (.ref p) H') : rOr rAddI (rOr rAddS (rOr rCat (rCatT K))) (.ref a) (.ref b) H Q :=
  .inr (.inr (.inr ⟨a, b, _, _, rfl, rfl, s, t, by simpa using n, by rw [List.length_map, List.length_map]; exact Nat.le_trans l line_big, fun e => absurd e (by simpa using n'), fun _ p hp => by
    rw [← List.map_append]
    exact k p _ (F.new hp)⟩))
end
end Z
namespace Z
open PySem L2
section
variable {K : PySem.W.Frag} {H : Hp} {L : List En} {q q' p p' : Addr} {ns : List Int} {l r : Int} {Q : VK}
/-- a list of a row of ints and two ints -/
def nestD (ns : List Int) (l r : Int) : List PyData := [.tuple (iD ns), .int l, .int r]
theorem nest_dp (F : Fx H L) (n : En.ob p (.tup (ns.map V.int)) ∈ L) : DpAll K H [.ref p, .int l, .int r] (nestD ns l r) :=
  .cons (.tup (F.tup n) (dpAll_ints ns)) (.cons (.int l) (.cons (.int r) .nil))
theorem nest_shaped (ns : List Int) (l r : Int) : SeqAt.shaped (.list (nestD ns l r)) = true := by
  unfold SeqAt.shaped
  rw [Bool.and_eq_true]
  refine ⟨?_, decide_eq_true ?_⟩
  · show (PyData.canLayAll0 (iD ns) && (PyData.canLayAll0 [PyData.int l, PyData.int r])) = true
    rw [canLay_ints]
    rfl
  · show max (PyData.depthAll (iD ns) + 1) (PyData.depthAll [PyData.int l, PyData.int r]) + 1 ≤ 64
    rw [depth_ints]
    show max (0 + 1) (max 0 (max 0 0)) + 1 ≤ 64
    decide
theorem nest_eqv (ns : List Int) (l r : Int) : PyData.eqv (.list (nestD ns l r)) (.list (nestD ns l r)) = true := by
  show (PyData.eqvAll (iD ns) (iD ns) && ((l == l) && ((r == r) && true))) = true
  rw [eqvAll_ints, decide_eq_true rfl, beq_self_eq_true, beq_self_eq_true]
  rfl
theorem wNeNest (F : Fx H L) (m : En.ob q (.lst [.ref p, .int l, .int r]) ∈ L) (n : En.ob p (.tup (ns.map V.int)) ∈ L)
    (m' : En.ob q' (.lst [.ref p', .int l, .int r]) ∈ L) (n' : En.ob p' (.tup (ns.map V.int)) ∈ L) (h : Q (.bl false) H) :
    rOr rNe (rNeD K) (.ref q) (.ref q') H Q :=
  .inr ⟨_, _, .lst (F.lst m) (nest_dp F n), .lst (F.lst m') (nest_dp F n'), nest_shaped ns l r, nest_shaped ns l r, by
    rw [nest_eqv ns l r]
    exact h⟩
end
end Z
namespace Z
open PySem L2
section
variable {X : Cx} {CX : CXT} {k : Nat} {C : Addr} {ps : List Str} {sp : Sp} {E : XK} {m : Str} {pos apos : Pos} {e o : Expr} {es : List Expr} {ta : TE} {t : TA}
theorem pe_methO {pl : Sem Bool} (O : MethO CX X.prog X.w X.K X.mg X.base C m k ps [] sp) (c : Cls X.K C) (hr : Room k X.A)
    (hx : Passes CX X E) (he : PE X o ta) (ha : PA X (e :: es) t)
    (hst : starEach (e :: es) X.env = (false, eval e X.env) :: starEach es X.env := by rfl)
    (hpl : (backTo pos (starEach es X.env)).any (·.1) = false := by rfl)
    (ht : eval (.Call (.Attribute o m
          apos) (e :: es) [] pos) X.env = (do
      let ov ← eval o X.env
      standAt apos.atName
      let (f, first) ← holding
            [ov] (getMethod ov m pl)
      callWith pos f first (backTo pos (starEach (e :: es)
            X.env)) (backToKw pos (keywordEach [] X.env))) := by rfl) :
    PE X (.Call (.Attribute o m apos) (e :: es) [] pos) (tMeth C m sp [] E ta t) := by
  obtain ⟨f, fd, ds, hm, hb, v, F⟩ := O
  cases v
  exact pe_meth he c hm F hr hb .nil hx ha hst hpl ht
end
end Z

set_option Elab.async false
set_option linter.all false
set_option maxRecDepth 100000
set_option maxHeartbeats 2000500
namespace Z
open PySem L2 RZ
/-! ### a middle: what holds where two ways meet -/
section
variable {σ : L2.St} {H : Hp} {Q : VK} {ts tu : TS} {te tf : TE} {nx bk ct : L2.St → Hp → Prop} {rt : VK} {b : Bool}
theorem wMidS (C : L2.St → Hp → Prop) (h : ∀ N : L2.St → Hp → Prop, (∀ σ' H', C σ' H' → N σ' H') → ts ⟨N, rt, bk, ct⟩ σ H) (k : ∀ σ' H', C σ' H' → nx σ' H') : ts ⟨nx, rt, bk, ct⟩ σ H := h nx k
theorem wMidI (C : L2.St → Hp → Prop) (h : ∀ N : L2.St → Hp → Prop, (∀ σ' H', C σ' H' → N σ' H') → if b = true then ts ⟨N, rt, bk, ct⟩ σ H else tu ⟨N, rt, bk, ct⟩ σ H) (k : ∀ σ' H', C σ' H' → nx σ' H') :
    if b = true then ts ⟨nx, rt, bk, ct⟩ σ H else tu ⟨nx, rt, bk, ct⟩ σ H := h nx k
theorem wMidE (C : V → Hp → Prop) (h : ∀ R : VK, (∀ v H', C v H' → R v H') → te σ H R) (k : ∀ v H', C v H' → Q v H') : te σ H Q := h Q k
theorem wMidV (C : V → Hp → Prop) (h : ∀ R : VK, (∀ v H', C v H' → R v H') → if b = true then te σ H R else tf σ H R) (k : ∀ v H', C v H' → Q v H') :
    if b = true then te σ H Q else tf σ H Q := h Q k
end
end Z
/-! ### data by the ledger -/
namespace Z
open PySem L2 RZ
mutual
inductive Dt (L : List En) : V → PyData → Prop
  | non : Dt L .non .none
  | bl (b : Bool) : Dt L (.bl b) (.bool b)
  | int (i : Int) : Dt L (.int i) (.int i)
  | str (x : Str) : Dt L (.str x) (.str x)
  | lst {a : Addr} {xs : List V} {ds : List PyData} (m : En.ob a (.lst xs) ∈ L) (h : DtA L xs ds) : Dt L (.ref a) (.list ds)
  | tup {a : Addr} {xs : List V} {ds : List PyData} (m : En.ob a (.tup xs) ∈ L) (h : DtA L xs ds) : Dt L (.ref a) (.tuple ds)
inductive DtA (L : List En) : List V → List PyData → Prop
  | nil : DtA L [] []
  | cons {v : V} {vs : List V} {d : PyData} {ds : List PyData} (h : Dt L v d) (r : DtA L vs ds) : DtA L (v :: vs) (d :: ds)
end
section
variable {L L' : List En} {K : PySem.W.Frag} {H : Hp}
mutual
theorem Dt.mono' (s : ∀ e ∈ L, e ∈ L') : ∀ (d : PyData) (v : V), Dt L v d → Dt L' v d
  | .none, _, h => by cases h; exact .non
  | .bool b, _, h => by cases h; exact .bl b
  | .int i, _, h => by cases h; exact .int i
  | .str x, _, h => by cases h; exact .str x
  | .list ds, _, h => by
    cases h with
    | lst m a => exact .lst (s _ m) (DtA.mono' s ds _ a)
  | .tuple ds, _, h => by
    cases h with
    | tup m a => exact .tup (s _ m) (DtA.mono' s ds _ a)
  | .dict _, _, h => by cases h
theorem DtA.mono' (s : ∀ e ∈ L, e ∈ L') : ∀ (ds : List PyData) (vs : List V), DtA L vs ds → DtA L' vs ds
  | [], _, h => by cases h; exact .nil
  | d :: ds, _, h => by
    cases h with
    | cons a r => exact .cons (Dt.mono' s d _ a) (DtA.mono' s ds _ r)
end
mutual
theorem Dt.dp' (F : Fx H L) : ∀ (d : PyData) (v : V), Dt L v d → Dp K H v d
  | .none, _, h => by cases h; exact .non
  | .bool b, _, h => by cases h; exact .bl b
  | .int i, _, h => by cases h; exact .int i
  | .str x, _, h => by cases h; exact .str x
  | .list ds, _, h => by
    cases h with
    | lst m a => exact .lst (F.lst m) (DtA.dp' F ds _ a)
  | .tuple ds, _, h => by
    cases h with
    | tup m a => exact .tup (F.tup m) (DtA.dp' F ds _ a)
  | .dict _, _, h => by cases h
theorem DtA.dp' (F : Fx H L) : ∀ (ds : List PyData) (vs : List V), DtA L vs ds → DpAll K H vs ds
  | [], _, h => by cases h; exact .nil
  | d :: ds, _, h => by
    cases h with
    | cons a r => exact .cons (Dt.dp' F d _ a) (DtA.dp' F ds _ r)
end
variable {v : V} {d : PyData} {vs : List V} {ds : List PyData}
theorem Dt.mono (h : Dt L v d) (s : ∀ e ∈ L, e ∈ L') : Dt L' v d := Dt.mono' s d v h
theorem DtA.mono (h : DtA L vs ds) (s : ∀ e ∈ L, e ∈ L') : DtA L' vs ds := DtA.mono' s ds vs h
theorem Dt.sub (h : Dt L v d) (s : L.Sublist L') : Dt L' v d := h.mono fun _ m => s.subset m
theorem DtA.sub (h : DtA L vs ds) (s : L.Sublist L') : DtA L' vs ds := h.mono fun _ m => s.subset m
theorem Dt.dp (h : Dt L v d) (F : Fx H L) : Dp K H v d := Dt.dp' F d v h
theorem DtA.len : ∀ {vs : List V} {ds : List PyData}, DtA L vs ds → vs.length = ds.length
  | _, [], h => by cases h; rfl
  | _, _ :: _, h => by
    cases h with
    | cons a r => rw [List.length_cons, List.length_cons, r.len]
theorem DtA.get : ∀ {vs : List V} {ds : List PyData} {i : Nat} {d : PyData}, DtA L vs ds → ds[i]? = some d → ∃ v, vs[i]? = some v ∧ Dt L v d
  | _, [], i, d, h, e => by simp at e
  | _, x :: ds, 0, d, h, e => by
    cases h with
    | cons a r =>
      cases e
      exact ⟨_, rfl, a⟩
  | _, x :: ds, i + 1, d, h, e => by
    cases h with
    | cons a r => exact r.get e
theorem DtA.getV : ∀ {ds : List PyData} {vs : List V} {i : Nat} {v : V}, DtA L vs ds → vs[i]? = some v → ∃ d, ds[i]? = some d ∧ Dt L v d
  | [], _, i, d, h, e => by cases h; simp at e
  | x :: ds, _, 0, d, h, e => by
    cases h with
    | cons a r =>
      cases e
      exact ⟨_, rfl, a⟩
  | x :: ds, _, i + 1, d, h, e => by
    cases h with
    | cons a r => exact r.getV e
theorem DtA.app : ∀ {ds ds' : List PyData} {vs vs' : List V}, DtA L vs ds → DtA L vs' ds' → DtA L (vs ++ vs') (ds ++ ds')
  | [], _, _, _, h, h' => by cases h; exact h'
  | _ :: _, _, _, _, h, h' => by
    cases h with
    | cons a r => exact .cons a (r.app h')
theorem DtA.ints : ∀ ns : List Int, DtA L (ns.map V.int) (iD ns)
  | [] => .nil
  | n :: r => .cons (.int n) (DtA.ints r)
theorem DtA.ints_eq : ∀ {ns : List Int} {vs : List V}, DtA L vs (iD ns) → vs = ns.map V.int
  | [], _, h => by cases h; rfl
  | n :: r, _, h => by
    cases h with
    | cons a r =>
      cases a
      rw [r.ints_eq]
      rfl
theorem Dt.tupI {a : Addr} {ns : List Int} (m : En.ob a (.tup (ns.map V.int)) ∈ L) : Dt L (.ref a) (.tuple (iD ns)) := .tup m (DtA.ints ns)
theorem Dt.lstI {a : Addr} {ns : List Int} (m : En.ob a (.lst (ns.map V.int)) ∈ L) : Dt L (.ref a) (.list (iD ns)) := .lst m (DtA.ints ns)
theorem Dt.tupI_mem {v : V} {ns : List Int} (h : Dt L v (.tuple (iD ns))) : ∃ a, v = .ref a ∧ En.ob a (.tup (ns.map V.int)) ∈ L := by
  cases h with
  | tup m r =>
    have e := r.ints_eq
    subst e
    exact ⟨_, rfl, m⟩
theorem Dt.lstI_mem {v : V} {ns : List Int} (h : Dt L v (.list (iD ns))) : ∃ a, v = .ref a ∧ En.ob a (.lst (ns.map V.int)) ∈ L := by
  cases h with
  | lst m r =>
    have e := r.ints_eq
    subst e
    exact ⟨_, rfl, m⟩
/-! shapes -/
def ShA (ds : List PyData) (n : Nat) : Prop := PyData.canLayAll0 ds = true ∧ PyData.depthAll ds ≤ n
def Sh (d : PyData) (n : Nat) : Prop := PyData.canLay0 d = true ∧ PyData.depth d ≤ n
theorem Sh.ok {n : Nat} (h : Sh d n) (hn : n ≤ 64 := by decide) : SeqAt.shaped d = true := by
  unfold SeqAt.shaped
  rw [Bool.and_eq_true]
  exact ⟨h.1, decide_eq_true (Nat.le_trans h.2 hn)⟩
theorem Sh.int (i : Int) : Sh (.int i) 0 := ⟨rfl, Nat.le_refl _⟩
theorem Sh.tup {n : Nat} (h : ShA ds n) : Sh (.tuple ds) (n + 1) := ⟨h.1, Nat.succ_le_succ h.2⟩
theorem Sh.lst {n : Nat} (h : ShA ds n) : Sh (.list ds) (n + 1) := ⟨h.1, Nat.succ_le_succ h.2⟩
theorem ShA.ints (ns : List Int) : ShA (iD ns) 0 := ⟨canLay_ints ns, Nat.le_of_eq (depth_ints ns)⟩
theorem ShA.nil : ShA [] 0 := ⟨rfl, Nat.le_refl _⟩
theorem ShA.cons {n m : Nat} (h : Sh d n) (r : ShA ds m) : ShA (d :: ds) (max n m) := by
  refine ⟨?_, ?_⟩
  · show (PyData.canLay0 d && PyData.canLayAll0 ds) = true
    rw [h.1, r.1]
    rfl
  · show max (PyData.depth d) (PyData.depthAll ds) ≤ _
    have := h.2
    have := r.2
    omega
theorem ShA.map {α : Type} {f : α → PyData} {n : Nat} : ∀ {xs : List α}, (∀ x ∈ xs, Sh (f x) n) → ShA (xs.map f) n
  | [], _ => ⟨rfl, Nat.zero_le _⟩
  | x :: r, h => by
    have a := h x List.mem_cons_self
    have b := ShA.map (f := f) (n := n) (xs := r) fun y hy => h y (List.mem_cons_of_mem _ hy)
    have c := ShA.cons a b
    rw [Nat.max_self] at c
    exact c
end
/-! what == and != say -/
section
variable {L : List En} {K : PySem.W.Frag} {H : Hp} {x y : V} {d e : PyData} {Q : VK}
theorem wEqD (F : Fx H L) (a : Dt L x d) (b : Dt L y e) (sd : SeqAt.shaped d = true) (se : SeqAt.shaped e = true) (h : Q (.bl (PyData.eqv d e)) H) : rOr rEq (rEqD K) x y H Q :=
  .inr ⟨d, e, a.dp F, b.dp F, sd, se, h⟩
theorem wNeD (F : Fx H L) (a : Dt L x d) (b : Dt L y e) (sd : SeqAt.shaped d = true) (se : SeqAt.shaped e = true) (h : Q (.bl (!PyData.eqv d e)) H) : rOr rNe (rNeD K) x y H Q :=
  .inr ⟨d, e, a.dp F, b.dp F, sd, se, h⟩
theorem wNeSame (F : Fx H L) (a : Dt L x d) (b : Dt L y d) (sd : SeqAt.shaped d = true) (h : Q (.bl false) H) : rOr rNe (rNeD K) x y H Q :=
  wNeD F a b sd sd (by rw [SeqAt.eqv_refl _ (SeqAt.canLay_of_shaped sd)]; exact h)
theorem wEqSame (F : Fx H L) (a : Dt L x d) (b : Dt L y d) (sd : SeqAt.shaped d = true) (h : Q (.bl true) H) : rOr rEq (rEqD K) x y H Q :=
  wEqD F a b sd sd (by rw [SeqAt.eqv_refl _ (SeqAt.canLay_of_shaped sd)]; exact h)
end
end Z

set_option Elab.async false
set_option linter.all false
set_option maxRecDepth 100000
set_option maxHeartbeats 2000500
namespace Z
open PySem PySem.Spec PyProof.Rows Builtin Builtin.Str
open Sem (wp)
/-! ### enumerate over a tuple -/
theorem meets_enum1 {v : Value} {o : Obj} {H : Heap → Prop} (B : Begins v o H) :
    Meets (Builtin.«enumerate.__new__» ⟨[.type "enumerate", v], []⟩) (fun _ R s => H s.heap ∧
      R (.ok (.ret (.ref (s.heap.push o).objs.size))) { s with heap := (s.heap.push o).push { cls := .type "enumerate", data := .fields #[.none, .bool false, .ref s.heap.objs.size, rawInt 0, .none, .none] } }) :=
  .of_wp fun prog
        w A R s h => by
    obtain ⟨hp, g, d, tk, os⟩
          := s; obtain ⟨h1, h⟩ := h
    have hsub := sub_enumerate
    have q1 : ∀ {A' : Around} {E : Value → Shared → Prop} {Q : Value → Shared → Prop}, Q (.ref
          hp.objs.size) ⟨hp.push o, g, d, tk, os⟩ → wpAny (model prog w) A' (pyIter v) Q E ⟨hp, g, d, tk, os⟩ :=
      fun q => B.iter prog w _ _
            ⟨hp, g, d, tk, os⟩ _ h1 q
    wp_walk using q1
    refine wpAny_stack_any
          fun st => wpAny_pure ?_
    split
    · rename_i c _ _ _ _ _
      cases (c == Value.type
            "enumerate")
      · wp_walk using q1
        exact ⟨_, rfl, h⟩
      · wp_walk using q1
        exact ⟨_, rfl, h⟩
    · wp_walk using q1
      exact ⟨_, rfl, h⟩
section
variable {prog : Program} {w : World} {A :
      Around} {E : Value → Shared → Prop} {s : Shared}
theorem enum_begins1 {v : Value} {o : Obj} {H : Heap → Prop} {Q : Value → Shared → Prop} (B : Begins v o H) (h1 : H s.heap)
    (h : ∀ h', IsEnum h' (s.heap.objs.size + 1) s.heap.objs.size 0 .none → h'.get? s.heap.objs.size = some o →
      (∀ b o, s.heap.get? b = some o → h'.get? b = some o) →
            Q (.ref (s.heap.objs.size +
                  1)) { s with heap := h' }) :
    wpAny (model prog w) A (call (.type "enumerate") [v]) Q E s := by
  refine callType_new F.called_enumerate (by decide) (F.typeCall_enumerate_1 _)
        (F.newCall_enumerate_1 _) (fun obj => F.args_object_init_2 obj _) F.entry_enumerate_new
    (meets_enum1 B) ⟨h1, ?_⟩
  have hz : (s.heap.push o).objs.size =
        s.heap.objs.size + 1 := Heap.size_push ..
  show _ ∧ _
  rw [hz]
  have he : IsEnum ((s.heap.push o).push { cls := .type "enumerate", data := .fields #[.none, .bool false, .ref s.heap.objs.size, rawInt 0, .none, .none] }) (s.heap.objs.size + 1) s.heap.objs.size 0 .none := by
    have := Heap.get?_push_size (s.heap.push o) (o := { cls := .type "enumerate", data := .fields #[.none, .bool false, .ref s.heap.objs.size, rawInt 0, .none, .none] }) rfl
    rw [hz] at this; exact this
  exact ⟨⟨_, he, rfl⟩, h _ he (Heap.get?_push_of_some _ (Heap.get?_push_size _ B.free)) fun b o x => Heap.get?_push_of_some _ (Heap.get?_push_of_some _ x)⟩
end
end Z
namespace Z
open PySem PySem.Spec
      PyProof.Rows L2
def IteT (K : PySem.W.Frag) (a : Addr) : It :=
  ⟨fun i H => ∃ (xs : List V) (x : V), SqT K H a xs ∧ xs[i]? = some x, fun i H v H' => ∃ T x, v = .ref T ∧ H T = none ∧ H' = upd H T (.tup [.int (i : Nat), x]) ∧ ∀ xs, SqT K H a xs → xs[i]? = some x,
    fun i H => ∃ xs : List V, SqT K H a xs ∧ xs.length ≤ i⟩
theorem turn_enumT {P : Program} {w : World} {K : PySem.W.Frag} {elts : List Expr} {kk : Nat} {tpos : Pos} (a e it : Addr) :
    Turn P w K (.Tuple elts kk tpos) (IteT K a) [e, it] e (fun i h => (∃ old, IsEnum h e it ((i : Nat) : Int) old) ∧ h.IsTupleIter it a i ∧ e ≠ it) where
  mem := by simp
  obj := fun i h st b hb => by
    obtain ⟨⟨old, he⟩, ⟨o,
          ho, hc, hd⟩, _⟩ := st
    have e' : b = e ∨ b = it
          := by simpa using hb
    rcases e' with z | z
    · rw [z]; exact ⟨_, he,
          fun v q => nomatch q⟩
    · rw [z]; exact ⟨o, ho, fun v
          q => by rw [hd] at q; cases q⟩
  keep := fun i h h' st k => let ⟨⟨old, he⟩, hi, hne⟩ := st; ⟨⟨old,
        k e (by simp) _ he⟩, hi.at fun o q => k it (by simp) o q, hne⟩
  item := by
    intro X hP hw hK hc i
          pins s σ H E I hf st hg
    subst hP hw hK
    obtain ⟨⟨old, he⟩,
          hit, hne⟩ := st
    obtain ⟨xs, x, hq,
          hx⟩ := hg
    obtain ⟨its, rv, p,
          hz⟩ := I.tuple hq
    obtain ⟨u, hu, ru⟩
          := rv.get hx
    have hel : e < s.heap.objs.size
          := Heap.lt_size he
    have hil : it < s.heap.objs.size := by
          obtain ⟨_, q, _⟩ := hit; exact Heap.lt_size q
    have ht : s.heap.IsTuple a its.toArray := p
    have hai : a ≠ it
          := fun z => by
      obtain ⟨o1, e1, c1, _⟩ := hit
      obtain ⟨o2, e2, c2, _⟩ := id ht
      rw [z, e1] at e2
      cases e2
      rw [c1] at c2
      exact absurd c2 (by simp)
    have hae : e ∉ [it, a] := fun z => by
      rcases List.mem_cons.mp
            z with z | z
      · exact hne z
      · have z :=
            List.mem_singleton.mp z
        obtain ⟨o2, e2, c2, _⟩ := id ht
        have he' : s.heap.get? e = some _ := he
        rw [z, e2] at he'
        cases he'
        exact absurd c2 (by simp)
    have il : i < its.toArray.size := by
      have := (List.getElem?_eq_some_iff.mp hu).1
      simpa using this
    refine wpAny_pyNext_enum_itemD (Draws.tuple (by exact (I.ok.hd hc)) it a hai its.toArray) he ⟨hit, ht⟩ il hne hae fun x' h' tk hP ho hs' hT hsz hk => ?_
    have hxu : x' = u := by
      have e1 : its.toArray[i]? = some x' := hP
      have e2 : its.toArray[i]? = some u := by simpa using hu
      rw [e2] at e1
      exact (Option.some.inj e1).symm
    subst hxu
    refine ⟨_, rfl, wpAny_letOwnedTupleGo_enum (s := { s with heap := h', toks := tk + 1 }) ho fun h'' he' sb => ?_⟩
    have hT2 : h''.get? s.heap.objs.size = some { cls := .type "tuple", data := .seq #[.int i tk, x'] } := (sb.2 _ (Nat.ne_of_gt hel)).trans hT
    have new : ObjOk X.prog X.w (upd H s.heap.objs.size (.tup [.int (i
          : Nat), x])) h'' s.heap.objs.size (.tup [.int (i : Nat), x]) :=
      ⟨by show 2 ≤ sizeLine; decide, [.int i tk, x'], .cons ⟨_, rfl⟩ (.cons ru .nil), ⟨_, hT2, rfl, _, rfl⟩⟩
    have I1 : Inv X pins σ (upd H s.heap.objs.size (.tup [.int (i : Nat), x])) { s with heap := h'', toks := tk + 1 } :=
      I.turnedNew (ch := [e, it]) (fun b ob hb q => (sb.2 b (fun z => hb (by simp [z]))).trans
            (hk b ob (fun z => hb (by simp [z])) (fun z => hb (by simp [z])) q)) hf (Nat.le_refl _) new
    refine ⟨.ref s.heap.objs.size, _, I1, rfl, ⟨_, x, rfl, I.hok.fresh (Nat.le_refl _), rfl, fun ys hy => ?_⟩, ⟨⟨x', ?_⟩, hs'.1.at fun o q => (sb.2 it (Ne.symm hne)).trans q, hne⟩, fun b hb => ?_⟩
    · rw [I.tuple_inj hy hq]; exact hx
    · have e1 : ((i + 1 : Nat) :
          Int) = (i : Int) + 1 := by omega
      rw [e1]; exact he'
    · have hb' : b <
          s.heap.objs.size := by
        have e' : b = e ∨ b = it
              := by simpa using hb
        rcases e' with z | z
        · rw [z]; exact hel
        · rw [z]; exact hil
      rw [upd_ne
            (Nat.ne_of_lt hb')]
      exact (hf b hb).1
  done := by
    intro X hP hw hK hc i pins
          s σ H E I hf st hg
    subst hP hw hK
    obtain ⟨⟨old, he⟩,
          hit, hne⟩ := st
    obtain ⟨xs, hq, hx⟩
          := hg
    obtain ⟨its, rv, p,
          hz⟩ := I.tuple hq
    obtain ⟨f0, f1, f2, f3,
          f4, f5⟩ := hf it (by simp)
    have hl := rv.length
    have ht : s.heap.IsTuple a its.toArray := p
    have hT : s.TypeIs (.ref e)
          "enumerate" := ⟨_, he, rfl⟩
    unfold pyNext
    refine wpAny_bind (wpAny_attempt (wpAny_callSpecial?_slot
          (name := Str.ofString "__next__") hT F.slot_enumerate_next
      (wpAny_call_entry F.slot_enumerate_next hT
            F.entry_enumerate_next ?_ (F.args_enumerate_next_1 _))))
    show wpAny _ _ (field
          (.ref e) 2 >>= _) _ _ _
    refine wpAny_bind (wpAny_field
          he rfl (x := .ref it) rfl ?_)
    refine wpAny_bind (wpAny_nextOf_tuple_end (by exact (I.ok.hd hc)) hit ht (by simp; omega) fun h' x eb hx' => ?_)
    obtain ⟨o, ho, hc'⟩ := hx'
    refine wpAny_bind (wpAny_isInstance (T := "StopIteration") (b := true) ⟨o, ho, hc'⟩ isSubtype_stop ?_)
    exact wpAny_pure ⟨rfl, I.turned (t' := s.toks) (fun b o hb q => eb b o hb q) f0 f1 f3 f4 f5⟩
  self := fun A i s Q E st h => let ⟨⟨_,
        he⟩, _⟩ := st; wpAny_pyIter_enum he h
section
variable {X : Cx}
/-- a list or a tuple, counted along -/
def iEnumS (K : PySem.W.Frag) (ta : TA) : TI := fun σ H R => ta σ H fun vs H1 => ∃ a, vs = [.ref a] ∧ ((∃ xs, SqL K H1 a xs ∧ R (Ite K a) H1) ∨ ∃ xs, SqT K H1 a xs ∧ R (IteT K a) H1)
theorem pi_enumS {e : Expr} {ta : TA} {p pos tpos : Pos} {elts : List Expr} {kk : Nat} (hg : Gl X "enumerate") (hm : X.mg "enumerate" = none) (ha : PA X [e] ta) (hs : starEach [e] X.env = [(false, eval e X.env)] := by rfl) :
    PI X (.Tuple elts kk tpos) (.Call (.Name "enumerate" p) [e] [] pos) (iEnumS X.K ta) := by
  refine ⟨fun pins
        s σ H R I h => ?_⟩
  refine Call_ (ld_blt I hg hm boot_enumerate (PyProof.Rows.callWith_type1 (thn (ha.run
        pos pins s σ H _ I h) fun us s1 ⟨vs, H1, I1, r1, q1⟩ => ?_) hs rfl))
  obtain ⟨a, ex, q⟩ := q1
  subst ex
  cases r1 with
  | cons r rr =>
    cases rr
    cases r
    rcases q with ⟨xs, hq, q⟩ | ⟨xs, hq, q⟩
    · obtain ⟨its, rv,
          p', hz⟩ := I1.list hq
      refine call_enumerate_list p'.isList
            fun h' he hit hsz hk => wpAny_pyIter_enum he ?_
      have I2 : Inv X pins σ H1 { s1 with
            heap := h' } := I1.kept (t' := s1.toks) hk
      refine ⟨s1.heap.objs.size + 1, [s1.heap.objs.size + 1, s1.heap.objs.size], _, _, H1, rfl, I2, turn_enum a
            (s1.heap.objs.size + 1) s1.heap.objs.size, ⟨⟨.none, he⟩, hit, Nat.succ_ne_self _⟩, fun b hb => ?_, q⟩
      have e' : b = s1.heap.objs.size + 1 ∨
            b = s1.heap.objs.size := by simpa using hb
      have hle :
            s1.heap.objs.size ≤ b := by
        rcases e' with z | z
        · rw [z]; exact
              Nat.le_add_right _ _
        · rw [z]; exact Nat.le_refl _
      exact I1.fpOk hle
            (I1.hok.fresh hle)
    · obtain ⟨its, rv,
          p', hz⟩ := I1.tuple hq
      refine enum_begins1 (begins_tuple a its.toArray) p' fun h' he hit hk => wpAny_pyIter_enum he ?_
      have I2 : Inv X pins σ H1 { s1 with
            heap := h' } := I1.kept (t' := s1.toks) hk
      refine ⟨s1.heap.objs.size + 1, [s1.heap.objs.size + 1, s1.heap.objs.size], _, _, H1, rfl, I2, turn_enumT a
            (s1.heap.objs.size + 1) s1.heap.objs.size, ⟨⟨.none, he⟩, ⟨_, hit, rfl, rfl⟩, Nat.succ_ne_self _⟩, fun b hb => ?_, q⟩
      have e' : b = s1.heap.objs.size + 1 ∨
            b = s1.heap.objs.size := by simpa using hb
      have hle :
            s1.heap.objs.size ≤ b := by
        rcases e' with z | z
        · rw [z]; exact
              Nat.le_add_right _ _
        · rw [z]; exact Nat.le_refl _
      exact I1.fpOk hle
            (I1.hok.fresh hle)
end
theorem walk_enumT {K : PySem.W.Frag} {a : Addr} {xs : List V} : Walk (IteT K a) xs.length (fun H => SqT K H a xs) (YPair (fun i => some (.int (i : Nat))) (fun i => xs[i]?)) := by
  refine ⟨fun i _ hi q => ⟨xs, xs[i], q, by simp [hi]⟩, fun _ q
        => ⟨xs, q, Nat.le_refl _⟩, fun i H v H' _ q y => ?_⟩
  obtain ⟨T, x, h1,
        h2, h3, h4⟩ := y
  exact ⟨T, .int (i : Nat), x, h1,
        h2, h3, rfl, h4 xs q⟩
section
variable {K : PySem.W.Frag} {H : Hp} {L : List En} {a : V} {xs : List V} {RI : It → Hp → Prop} {σ : L2.St} {ta : TA} {g : TG} {tb : TS} {nx : L2.St → Hp → Prop} {rt : VK}
def GoE (K : PySem.W.Frag) (vs : List V) (H : Hp) (R : It → Hp → Prop) : Prop := ∃ a, vs = [.ref a] ∧ ((∃ xs, SqL K H a xs ∧ R (Ite K a) H) ∨ ∃ xs, SqT K H a xs ∧ R (IteT K a) H)
theorem wIE (h : ta σ H fun vs H1 => GoE K vs H1 RI) : iEnumS K ta σ H RI := h
/-- a for over enumerate(list or tuple) -/
theorem wForE (hq : SeqIs L a (some xs)) (F : Fx H L) (Pv : Nat → L2.St → Hp → Prop) (h0 : Pv 0 σ H) (keep : ∀ i σ H', Pv i σ H' → ∃ L', Fx H' L' ∧ ∀ p o, En.ob p o ∈ L → En.ob p o ∈ L')
    (hs : ∀ i x T σ H', xs[i]? = some x → Pv i σ H' → H' T = none → g (.ref T) σ (upd H' T (.tup [.int (i : Nat), x])) fun σ2 H2 => tb ⟨Pv (i + 1), rt, nx, Pv (i + 1)⟩ σ2 H2) (hd : ∀ σ H', Pv xs.length σ H' → nx σ H') :
    GoE K [a] H fun J H1 => ∃ W : Nat → Nat → L2.St → Hp → Prop, (∃ m, W 0 m σ H1) ∧ ∀ i m σ H, W i m σ H →
      (J.stop i H ∧ nx σ H) ∨ (J.go i H ∧ ∃ N : L2.St → Hp → Prop, (∀ σ' H', N σ' H' → ∃ m', m' < m ∧ W (i + 1) m' σ' H') ∧ ∀ x H', J.yld i H x H' → g x σ H' fun σ2 H2 => tb ⟨N, rt, nx, N⟩ σ2 H2) := by
  cases hq with
  | @lst p xs m =>
    refine ⟨p, rfl, .inl ⟨xs, F.lst m, wForW (walk_enum (K := K) (xs := xs)) Pv h0 (fun i σ H' _ q => ?_) ?_ hd⟩⟩
    · obtain ⟨L', F', k⟩ := keep i σ H' q
      exact F'.lst (k _ _ m)
    · rintro i x σ H' H'' _ q ⟨T, u, v, rfl, hT, rfl, e1, e2⟩
      cases e1
      exact hs i v T σ H' e2 q hT
  | @tup p xs m =>
    refine ⟨p, rfl, .inr ⟨xs, F.tup m, wForW (walk_enumT (K := K) (xs := xs)) Pv h0 (fun i σ H' _ q => ?_) ?_ hd⟩⟩
    · obtain ⟨L', F', k⟩ := keep i σ H' q
      exact F'.tup (k _ _ m)
    · rintro i x σ H' H'' _ q ⟨T, u, v, rfl, hT, rfl, e1, e2⟩
      cases e1
      exact hs i v T σ H' e2 q hT
end
/-! ### sum of a tuple -/
def rSumT (K : PySem.W.Frag) : List V → Hp → VK → Prop := fun vs H Q => ∃ (a : Addr) (ns : List Int), vs = [V.ref a] ∧ SqT K H a (ns.map V.int) ∧ Q (.int ns.sum) H
theorem cr_sumT {X : Cx} (hc : X.calm = true) : CallR X (.builtin "sum") (rSumT X.K) := by
  intro pins s σ
        H vs us Q I r h
  obtain ⟨a, ns,
        rfl, hs, q⟩ := h
  obtain ⟨its, rv, hl, _⟩ := I.tuple hs
  rw [Vals.ref1 r]
  have hi := rv.ints
  obtain ⟨xs, hx⟩ :=
        hi.allInts.items
  have hn : numsOf its.toArray.toList = ns := by rw [show its.toArray.toList = its from rfl, hi.numsOf]
  have ht : s.heap.IsTuple a its.toArray := hl
  rw [hx] at ht hn
  rw [nums_intItems] at hn
  refine PySem.W.ktm_sumG (I.ok.hd hc) ht fun h' tk t' hk => ?_
  refine ⟨.int ns.sum, H, I.kept hk, ?_, q⟩
  rw [preSum_eq, List.take_of_length_le
        (by simp), hn]
  exact ⟨_, rfl⟩
theorem cr_sumS {X : Cx} (hc : X.calm = true) : CallR X (.builtin "sum") (rOrC (rSum X.K) (rSumT X.K)) := CallR.or (cr_sum hc) (cr_sumT hc)
section
variable {K : PySem.W.Frag} {H : Hp} {L : List En} {a : Addr} {b : V} {ns : List Int} {Q : VK}
theorem wSumL (s : SqL K H a (ns.map V.int)) (h : Q (.int ns.sum) H) : rOrC (rSum K) (rSumT K) [.ref a] H Q := .inl ⟨a, ns, rfl, s, h⟩
theorem wSumT (s : SqT K H a (ns.map V.int)) (h : Q (.int ns.sum) H) : rOrC (rSum K) (rSumT K) [.ref a] H Q := .inr ⟨a, ns, rfl, s, h⟩
theorem wSumS (s : SeqIs L b (some (ns.map V.int))) (F : Fx H L) (h : Q (.int ns.sum) H) : rOrC (rSum K) (rSumT K) [b] H Q := by
  generalize e : ns.map V.int = xs at s
  cases s with
  | lst m => exact wSumL (F.lst (e ▸ m)) h
  | tup m => exact wSumT (F.tup (e ▸ m)) h
end
/-! ### while -/
section
variable {σ : L2.St} {H : Hp} {tc : TT} {tb : TS} {nx bk ct : L2.St → Hp → Prop} {rt : VK}
def WBody (tb : TS) (Pv : Nat → L2.St → Hp → Prop) (m : Nat) (nx : L2.St → Hp → Prop) (rt : VK) (σ : L2.St) (H : Hp) : Prop :=
  ∃ N : L2.St → Hp → Prop, (∀ σ' H', N σ' H' → ∃ m', m' < m ∧ Pv m' σ' H') ∧ tb ⟨N, rt, nx, N⟩ σ H
theorem wWhile (Pv : Nat → L2.St → Hp → Prop) (m : Nat) (h0 : Pv m σ H) (hs : ∀ m σ H, Pv m σ H → tc σ H fun b H1 => if b = true then WBody tb Pv m nx rt σ H1 else nx σ H1) :
    tWhile tc tb ⟨nx, rt, bk, ct⟩ σ H := ⟨Pv, ⟨m, h0⟩, hs⟩
theorem wBody {Pv : Nat → L2.St → Hp → Prop} {m : Nat} (h : tb ⟨fun σ' H' => ∃ m', m' < m ∧ Pv m' σ' H', rt, nx, fun σ' H' => ∃ m', m' < m ∧ Pv m' σ' H'⟩ σ H) : WBody tb Pv m nx rt σ H := ⟨_, fun _ _ h => h, h⟩
end
/-! ### range with a step, lists made of lists, order of tuples, min and max -/
section
variable {K : PySem.W.Frag} {H : Hp} {L : List En} {a b : Addr} {xs ys : List V} {RI : It → Hp → Prop} {σ : L2.St} {ta : TA} {Q : VK} {i j : Int} {ns ms : List Int}
def GoR3 (vs : List V) (H : Hp) (R : It → Hp → Prop) : Prop := ∃ (i j c : Int) (n : Nat), vs = [.int i, .int j, .int c] ∧ RgC i j c n ∧ R (Itc i c n) H
theorem wIR3 (h : ta σ H fun vs H1 => GoR3 vs H1 RI) : iRng3 ta σ H RI := h
theorem wGoDown (ha : -(2 ^ 62) ≤ i) (ha' : i < 2 ^ 62) (hb : -(2 ^ 62) ≤ j) (hb' : j < 2 ^ 62) (h : RI (Itc i (-1) (i - j).toNat) H) : GoR3 [.int i, .int j, .int (-1)] H RI := ⟨i, j, -1, _, rfl, RgC.neg ha ha' hb hb', h⟩
theorem wRepL {n : Int} (F : Fx H L) (m : En.ob a (.lst xs) ∈ L) (n1 : -(2 ^ 63) ≤ n) (n2 : n < 2 ^ 63) (n3 : xs.length * n.toNat ≤ 1000000)
    (k : ∀ p H', Fx H' (.ob p (.lst (List.replicate n.toNat xs).flatten) :: L) → Q (.ref p) H') : rOr rMulC (rOr rMulI (rOr rRep (rRepT K))) (.ref a) (.int n) H Q :=
  .inr (.inr (.inl ⟨a, n, xs, rfl, rfl, F.get m, n1, n2, Nat.le_trans n3 line_big, wNewF F k⟩))
theorem wCatL (F : Fx H L) (m : En.ob a (.lst xs) ∈ L) (m' : En.ob b (.lst ys) ∈ L) (l : xs.length + ys.length ≤ 1000000)
    (k : ∀ p H', Fx H' (.ob p (.lst (xs ++ ys)) :: L) → Q (.ref p) H') : rOr rAddI (rOr rAddS (rOr rCat (rCatT K))) (.ref a) (.ref b) H Q :=
  .inr (.inr (.inl ⟨a, b, xs, ys, rfl, rfl, F.get m, F.get m', Nat.le_trans l line_big, wNewF F k⟩))
theorem wLtT (s : SqT K H a (ns.map V.int)) (t : SqT K H b (ms.map V.int)) (h : Q (.bl (HT.lexLt ns ms)) H) : rOr rLtI (rLtT K) (.ref a) (.ref b) H Q := .inr ⟨a, b, ns, ms, rfl, rfl, s, t, h⟩
theorem flat_one (n : Nat) (x : V) : (List.replicate n [x]).flatten = List.replicate n x := by
  induction n with
  | zero => rfl
  | succ n ih => rw [List.replicate_succ, List.flatten_cons, ih]; rfl
end
theorem zLtS {X : Cx} (hu : X.A.units < cLine) : OpR X (compareOp .Lt) (rOr rLtI (rLtT X.K)) := opOr op_lt (op_ltT hu)
def rMin2 : List V → Hp → VK → Prop := fun xs H Q => ∃ i j, xs = [V.int i, V.int j] ∧ Q (.int (if j < i then j else i)) H
def rMax2 : List V → Hp → VK → Prop := fun xs H Q => ∃ i j, xs = [V.int i, V.int j] ∧ Q (.int (if j > i then j else i)) H
theorem zMin2 {X : Cx} (hc : X.calm = true) : CallR X (.builtin "min") rMin2 := call_min2 hc
theorem zMax2 {X : Cx} (hc : X.calm = true) : CallR X (.builtin "max") rMax2 := call_max2 hc
theorem wMin2 {H : Hp} {Q : VK} {i j : Int} (h : Q (.int (if j < i then j else i)) H) : rMin2 [.int i, .int j] H Q := ⟨i, j, rfl, h⟩
theorem wMax2 {H : Hp} {Q : VK} {i j : Int} (h : Q (.int (if j > i then j else i)) H) : rMax2 [.int i, .int j] H Q := ⟨i, j, rfl, h⟩
/-! ### comprehensions and loops over a tuple or a list of the ledger -/
section
variable {K : PySem.W.Frag} {H : Hp} {L : List En} {a : Addr} {xs : List V} {g : TG} {tt : TT} {te : TE} {vs : List Nat} {σ : L2.St} {QD : Addr → Hp → Prop}
theorem wLcT (m : En.ob a (.tup xs) ∈ L) (F : Fx H L) (R : Nat → List V → List En → Prop) (h0 : R 0 [] L) (keep : ∀ i acc L', R i acc L' → En.ob a (.tup xs) ∈ L')
    (hs : ∀ i x D H' acc L', xs[i]? = some x → R i acc L' → Fx H' (.ob D (.lst acc) :: L') → g x (wipe σ vs) H' fun σ2 H2 => wipe σ2 vs = wipe σ vs ∧ tt σ2 H2 fun b H3 =>
      if b = true then te σ2 H3 fun y H4 => LcPut D R i y H4 else LcP D R (i + 1) H3)
    (hd : ∀ D acc L' H', Fx H' (.ob D (.lst acc) :: L') → R xs.length acc L' → QD D H') :
    ∀ D, H D = none → ∃ W : Nat → Nat → Hp → Prop, (∃ m, W 0 m (upd H D (.lst []))) ∧ ∀ i m H, W i m H →
  ((Itt K a).stop i H ∧ QD D H) ∨ ((Itt K a).go i H ∧ ∃ Nx : Hp → Prop, (∀ H', Nx H' → ∃ m', m' < m ∧ W (i + 1) m' H') ∧ ∀ x H', (Itt K a).yld i H x H' → g x (wipe σ vs) H' fun σ2 H2 => wipe σ2 vs = wipe σ vs ∧ tt σ2 H2 fun b H3 =>
    if b = true then te σ2 H3 fun y H4 => ∃ acc, H4 D = some (.lst acc) ∧
          acc.length < sizeLine ∧ Nx (upd H4 D (.lst (acc ++ [y]))) else Nx H3) :=
  wLcW (walk_tup (K := K) (xs := xs)) F R h0 (fun i acc L' D H' r F' => F'.tup (List.mem_cons_of_mem _ (keep _ _ _ r))) (fun i x D H' H'' acc L' _ r F' y => by
    obtain ⟨rfl, e⟩ := y
    exact hs i x D H'' acc L' e r F') hd
theorem wLcL (m : En.ob a (.lst xs) ∈ L) (F : Fx H L) (R : Nat → List V → List En → Prop) (h0 : R 0 [] L) (keep : ∀ i acc L', R i acc L' → En.ob a (.lst xs) ∈ L')
    (hs : ∀ i x D H' acc L', xs[i]? = some x → R i acc L' → Fx H' (.ob D (.lst acc) :: L') → g x (wipe σ vs) H' fun σ2 H2 => wipe σ2 vs = wipe σ vs ∧ tt σ2 H2 fun b H3 =>
      if b = true then te σ2 H3 fun y H4 => LcPut D R i y H4 else LcP D R (i + 1) H3)
    (hd : ∀ D acc L' H', Fx H' (.ob D (.lst acc) :: L') → R xs.length acc L' → QD D H') :
    ∀ D, H D = none → ∃ W : Nat → Nat → Hp → Prop, (∃ m, W 0 m (upd H D (.lst []))) ∧ ∀ i m H, W i m H →
  ((Itl K a).stop i H ∧ QD D H) ∨ ((Itl K a).go i H ∧ ∃ Nx : Hp → Prop, (∀ H', Nx H' → ∃ m', m' < m ∧ W (i + 1) m' H') ∧ ∀ x H', (Itl K a).yld i H x H' → g x (wipe σ vs) H' fun σ2 H2 => wipe σ2 vs = wipe σ vs ∧ tt σ2 H2 fun b H3 =>
    if b = true then te σ2 H3 fun y H4 => ∃ acc, H4 D = some (.lst acc) ∧
          acc.length < sizeLine ∧ Nx (upd H4 D (.lst (acc ++ [y]))) else Nx H3) :=
  wLcW (walk_list (K := K) (xs := xs)) F R h0 (fun i acc L' D H' r F' => F'.lst (List.mem_cons_of_mem _ (keep _ _ _ r))) (fun i x D H' H'' acc L' _ r F' y => by
    obtain ⟨rfl, e⟩ := y
    exact hs i x D H'' acc L' e r F') hd
variable {tb : TS} {nx : L2.St → Hp → Prop} {rt : VK}
theorem wForT (F : Fx H L) (m : En.ob a (.tup xs) ∈ L) (Pv : Nat → L2.St → Hp → Prop) (h0 : Pv 0 σ H) (keep : ∀ i σ H', Pv i σ H' → ∃ L', Fx H' L' ∧ En.ob a (.tup xs) ∈ L')
    (hs : ∀ i x σ H', xs[i]? = some x → Pv i σ H' → g x σ H' fun σ2 H2 => tb ⟨Pv (i + 1), rt, nx, Pv (i + 1)⟩ σ2 H2) (hd : ∀ σ H', Pv xs.length σ H' → nx σ H') :
    ∃ W : Nat → Nat → L2.St → Hp → Prop, (∃
          m, W 0 m σ H) ∧ ∀ i m σ H, W i m σ H →
      ((Itt K a).stop i H ∧ nx σ H) ∨ ((Itt K a).go i H ∧ ∃ N : L2.St → Hp → Prop, (∀ σ' H', N σ' H' → ∃ m', m' < m ∧ W (i + 1) m' σ' H') ∧ ∀ x H', (Itt K a).yld i H x H' → g x σ H' fun σ2 H2 => tb ⟨N, rt, nx, N⟩ σ2 H2) :=
  wForW (walk_tup (K := K) (xs := xs)) Pv h0 (fun i σ H' _ q => let ⟨_, F', k⟩ := keep i σ H' q; F'.tup k) (fun i x σ H' H'' _ q y => by
    obtain ⟨rfl, e⟩ := y
    exact hs i x σ H'' e q) hd
theorem wForLi (F : Fx H L) (m : En.ob a (.lst xs) ∈ L) (Pv : Nat → L2.St → Hp → Prop) (h0 : Pv 0 σ H) (keep : ∀ i σ H', Pv i σ H' → ∃ L', Fx H' L' ∧ En.ob a (.lst xs) ∈ L')
    (hs : ∀ i x σ H', xs[i]? = some x → Pv i σ H' → g x σ H' fun σ2 H2 => tb ⟨Pv (i + 1), rt, nx, Pv (i + 1)⟩ σ2 H2) (hd : ∀ σ H', Pv xs.length σ H' → nx σ H') :
    ∃ W : Nat → Nat → L2.St → Hp → Prop, (∃
          m, W 0 m σ H) ∧ ∀ i m σ H, W i m σ H →
      ((Itl K a).stop i H ∧ nx σ H) ∨ ((Itl K a).go i H ∧ ∃ N : L2.St → Hp → Prop, (∀ σ' H', N σ' H' → ∃ m', m' < m ∧ W (i + 1) m' σ' H') ∧ ∀ x H', (Itl K a).yld i H x H' → g x σ H' fun σ2 H2 => tb ⟨N, rt, nx, N⟩ σ2 H2) :=
  wForW (walk_list (K := K) (xs := xs)) Pv h0 (fun i σ H' _ q => let ⟨_, F', k⟩ := keep i σ H' q; F'.lst k) (fun i x σ H' H'' _ q y => by
    obtain ⟨rfl, e⟩ := y
    exact hs i x σ H'' e q) hd
end
section
variable {σ : L2.St} {H : Hp} {te : TE} {ti : TIp} {nx bk ct : L2.St → Hp → Prop} {rt : VK} {i : Nat} {x : V} {f : Int → Int → Int} {a b : Int} {Q : VK}
theorem wAug (e : σ[i]? = some (some x)) (h : te σ H fun y H1 => ti x y H1 fun z H2 => nx (σ.set i (some z)) H2) : tAug i te ti ⟨nx, rt, bk, ct⟩ σ H := ⟨x, e, h⟩
theorem wIpI (h : Q (.int (f a b)) H) : ipI f (.int a) (.int b) H Q := ⟨a, b, rfl, rfl, h⟩
end
section
variable {K : PySem.W.Frag} {H : Hp} {a : Addr} {ns : List Int} {z : Int} {Q : VK}
theorem wNotInTu (s : SqT K H a (ns.map V.int)) (h : Q (.bl (!decide (z ∈ ns))) H) : rIn K true (.int z) (.ref a) H Q :=
  ⟨a, _, rfl, .inr s, rfl, flat_ints ns, by rw [← inV_ints] at h; exact h⟩
end
section
variable {sp : Sp} {v : V} {vs ds : List V} {H : Hp} {Q : VK} {E : XK}
theorem wSpC (h : sp (v :: (vs ++ ds)) H Q E) : sp ((v :: vs) ++ ds) H Q E := h
theorem wSpN (h : sp ds H Q E) : sp ([] ++ ds) H Q E := h
theorem wSpC1 {u : V} (h : sp (u :: v :: (vs ++ ds)) H Q E) : sp (u :: ((v :: vs) ++ ds)) H Q E := h
theorem wSpN1 {u : V} (h : sp (u :: ds) H Q E) : sp (u :: ([] ++ ds)) H Q E := h
theorem wSpC2 {u u' : V} (h : sp (u :: u' :: v :: (vs ++ ds)) H Q E) : sp (u :: u' :: ((v :: vs) ++ ds)) H Q E := h
theorem wSpN2 {u u' : V} (h : sp (u :: u' :: ds) H Q E) : sp (u :: u' :: ([] ++ ds)) H Q E := h
end
theorem wMkO {C : Addr} {sp : Sp} {dvs : List V} {ta : TA} {σ : L2.St} {H : Hp} {EK : XK} (h : ta σ H fun vs H1 => vs.length ≤ 1000 ∧ ∀ a, H1 a = none → sp (.ref a :: (vs ++ dvs)) (upd H1 a (exo a C none))
  (fun v H2 => v = .non ∧ ∃ (d : Addr) (fs : List (Str × V)), H2 a = some (exo a C (some d)) ∧ H2 d = some (exd d fs) ∧ H1 d = none ∧ EK (.ref C) (some d) (upd (del H2 a) d (.xd fs))) (fun _ _ _ => False)) : tMkO C sp dvs ta σ H EK := h
section
variable {x0 x1 x2 x3 x4 x5 x6 x7 x8 x9 x10 x11 x12 x13 x14 x15 x16 x17 x18 x19 x20 x21 x22 x23 x24 x25 x26 : Option V} {v : V} {ρ : L2.St} {H : Hp} {Q : VK} {N : L2.St → Hp → Prop}
theorem wV15 (h : Q v H) : tVar 15 (x0 :: x1 :: x2 :: x3 :: x4 :: x5 :: x6 :: x7 :: x8 :: x9 :: x10 :: x11 :: x12 :: x13 :: x14 :: some v :: ρ) H Q := ⟨v, rfl, h⟩
theorem wG15 (h : N (x0 :: x1 :: x2 :: x3 :: x4 :: x5 :: x6 :: x7 :: x8 :: x9 :: x10 :: x11 :: x12 :: x13 :: x14 :: some v :: ρ) H) : gName 15 v (x0 :: x1 :: x2 :: x3 :: x4 :: x5 :: x6 :: x7 :: x8 :: x9 :: x10 :: x11 :: x12 :: x13 :: x14 :: x15 :: ρ) H N := h
theorem wV16 (h : Q v H) : tVar 16 (x0 :: x1 :: x2 :: x3 :: x4 :: x5 :: x6 :: x7 :: x8 :: x9 :: x10 :: x11 :: x12 :: x13 :: x14 :: x15 :: some v :: ρ) H Q := ⟨v, rfl, h⟩
theorem wG16 (h : N (x0 :: x1 :: x2 :: x3 :: x4 :: x5 :: x6 :: x7 :: x8 :: x9 :: x10 :: x11 :: x12 :: x13 :: x14 :: x15 :: some v :: ρ) H) : gName 16 v (x0 :: x1 :: x2 :: x3 :: x4 :: x5 :: x6 :: x7 :: x8 :: x9 :: x10 :: x11 :: x12 :: x13 :: x14 :: x15 :: x16 :: ρ) H N := h
theorem wV17 (h : Q v H) : tVar 17 (x0 :: x1 :: x2 :: x3 :: x4 :: x5 :: x6 :: x7 :: x8 :: x9 :: x10 :: x11 :: x12 :: x13 :: x14 :: x15 :: x16 :: some v :: ρ) H Q := ⟨v, rfl, h⟩
theorem wG17 (h : N (x0 :: x1 :: x2 :: x3 :: x4 :: x5 :: x6 :: x7 :: x8 :: x9 :: x10 :: x11 :: x12 :: x13 :: x14 :: x15 :: x16 :: some v :: ρ) H) : gName 17 v (x0 :: x1 :: x2 :: x3 :: x4 :: x5 :: x6 :: x7 :: x8 :: x9 :: x10 :: x11 :: x12 :: x13 :: x14 :: x15 :: x16 :: x17 :: ρ) H N := h
theorem wV18 (h : Q v H) : tVar 18 (x0 :: x1 :: x2 :: x3 :: x4 :: x5 :: x6 :: x7 :: x8 :: x9 :: x10 :: x11 :: x12 :: x13 :: x14 :: x15 :: x16 :: x17 :: some v :: ρ) H Q := ⟨v, rfl, h⟩
theorem wG18 (h : N (x0 :: x1 :: x2 :: x3 :: x4 :: x5 :: x6 :: x7 :: x8 :: x9 :: x10 :: x11 :: x12 :: x13 :: x14 :: x15 :: x16 :: x17 :: some v :: ρ) H) : gName 18 v (x0 :: x1 :: x2 :: x3 :: x4 :: x5 :: x6 :: x7 :: x8 :: x9 :: x10 :: x11 :: x12 :: x13 :: x14 :: x15 :: x16 :: x17 :: x18 :: ρ) H N := h
theorem wV19 (h : Q v H) : tVar 19 (x0 :: x1 :: x2 :: x3 :: x4 :: x5 :: x6 :: x7 :: x8 :: x9 :: x10 :: x11 :: x12 :: x13 :: x14 :: x15 :: x16 :: x17 :: x18 :: some v :: ρ) H Q := ⟨v, rfl, h⟩
theorem wG19 (h : N (x0 :: x1 :: x2 :: x3 :: x4 :: x5 :: x6 :: x7 :: x8 :: x9 :: x10 :: x11 :: x12 :: x13 :: x14 :: x15 :: x16 :: x17 :: x18 :: some v :: ρ) H) : gName 19 v (x0 :: x1 :: x2 :: x3 :: x4 :: x5 :: x6 :: x7 :: x8 :: x9 :: x10 :: x11 :: x12 :: x13 :: x14 :: x15 :: x16 :: x17 :: x18 :: x19 :: ρ) H N := h
theorem wV20 (h : Q v H) : tVar 20 (x0 :: x1 :: x2 :: x3 :: x4 :: x5 :: x6 :: x7 :: x8 :: x9 :: x10 :: x11 :: x12 :: x13 :: x14 :: x15 :: x16 :: x17 :: x18 :: x19 :: some v :: ρ) H Q := ⟨v, rfl, h⟩
theorem wG20 (h : N (x0 :: x1 :: x2 :: x3 :: x4 :: x5 :: x6 :: x7 :: x8 :: x9 :: x10 :: x11 :: x12 :: x13 :: x14 :: x15 :: x16 :: x17 :: x18 :: x19 :: some v :: ρ) H) : gName 20 v (x0 :: x1 :: x2 :: x3 :: x4 :: x5 :: x6 :: x7 :: x8 :: x9 :: x10 :: x11 :: x12 :: x13 :: x14 :: x15 :: x16 :: x17 :: x18 :: x19 :: x20 :: ρ) H N := h
theorem wV21 (h : Q v H) : tVar 21 (x0 :: x1 :: x2 :: x3 :: x4 :: x5 :: x6 :: x7 :: x8 :: x9 :: x10 :: x11 :: x12 :: x13 :: x14 :: x15 :: x16 :: x17 :: x18 :: x19 :: x20 :: some v :: ρ) H Q := ⟨v, rfl, h⟩
theorem wG21 (h : N (x0 :: x1 :: x2 :: x3 :: x4 :: x5 :: x6 :: x7 :: x8 :: x9 :: x10 :: x11 :: x12 :: x13 :: x14 :: x15 :: x16 :: x17 :: x18 :: x19 :: x20 :: some v :: ρ) H) : gName 21 v (x0 :: x1 :: x2 :: x3 :: x4 :: x5 :: x6 :: x7 :: x8 :: x9 :: x10 :: x11 :: x12 :: x13 :: x14 :: x15 :: x16 :: x17 :: x18 :: x19 :: x20 :: x21 :: ρ) H N := h
theorem wV22 (h : Q v H) : tVar 22 (x0 :: x1 :: x2 :: x3 :: x4 :: x5 :: x6 :: x7 :: x8 :: x9 :: x10 :: x11 :: x12 :: x13 :: x14 :: x15 :: x16 :: x17 :: x18 :: x19 :: x20 :: x21 :: some v :: ρ) H Q := ⟨v, rfl, h⟩
theorem wG22 (h : N (x0 :: x1 :: x2 :: x3 :: x4 :: x5 :: x6 :: x7 :: x8 :: x9 :: x10 :: x11 :: x12 :: x13 :: x14 :: x15 :: x16 :: x17 :: x18 :: x19 :: x20 :: x21 :: some v :: ρ) H) : gName 22 v (x0 :: x1 :: x2 :: x3 :: x4 :: x5 :: x6 :: x7 :: x8 :: x9 :: x10 :: x11 :: x12 :: x13 :: x14 :: x15 :: x16 :: x17 :: x18 :: x19 :: x20 :: x21 :: x22 :: ρ) H N := h
theorem wV23 (h : Q v H) : tVar 23 (x0 :: x1 :: x2 :: x3 :: x4 :: x5 :: x6 :: x7 :: x8 :: x9 :: x10 :: x11 :: x12 :: x13 :: x14 :: x15 :: x16 :: x17 :: x18 :: x19 :: x20 :: x21 :: x22 :: some v :: ρ) H Q := ⟨v, rfl, h⟩
theorem wG23 (h : N (x0 :: x1 :: x2 :: x3 :: x4 :: x5 :: x6 :: x7 :: x8 :: x9 :: x10 :: x11 :: x12 :: x13 :: x14 :: x15 :: x16 :: x17 :: x18 :: x19 :: x20 :: x21 :: x22 :: some v :: ρ) H) : gName 23 v (x0 :: x1 :: x2 :: x3 :: x4 :: x5 :: x6 :: x7 :: x8 :: x9 :: x10 :: x11 :: x12 :: x13 :: x14 :: x15 :: x16 :: x17 :: x18 :: x19 :: x20 :: x21 :: x22 :: x23 :: ρ) H N := h
theorem wV24 (h : Q v H) : tVar 24 (x0 :: x1 :: x2 :: x3 :: x4 :: x5 :: x6 :: x7 :: x8 :: x9 :: x10 :: x11 :: x12 :: x13 :: x14 :: x15 :: x16 :: x17 :: x18 :: x19 :: x20 :: x21 :: x22 :: x23 :: some v :: ρ) H Q := ⟨v, rfl, h⟩
theorem wG24 (h : N (x0 :: x1 :: x2 :: x3 :: x4 :: x5 :: x6 :: x7 :: x8 :: x9 :: x10 :: x11 :: x12 :: x13 :: x14 :: x15 :: x16 :: x17 :: x18 :: x19 :: x20 :: x21 :: x22 :: x23 :: some v :: ρ) H) : gName 24 v (x0 :: x1 :: x2 :: x3 :: x4 :: x5 :: x6 :: x7 :: x8 :: x9 :: x10 :: x11 :: x12 :: x13 :: x14 :: x15 :: x16 :: x17 :: x18 :: x19 :: x20 :: x21 :: x22 :: x23 :: x24 :: ρ) H N := h
theorem wV25 (h : Q v H) : tVar 25 (x0 :: x1 :: x2 :: x3 :: x4 :: x5 :: x6 :: x7 :: x8 :: x9 :: x10 :: x11 :: x12 :: x13 :: x14 :: x15 :: x16 :: x17 :: x18 :: x19 :: x20 :: x21 :: x22 :: x23 :: x24 :: some v :: ρ) H Q := ⟨v, rfl, h⟩
theorem wG25 (h : N (x0 :: x1 :: x2 :: x3 :: x4 :: x5 :: x6 :: x7 :: x8 :: x9 :: x10 :: x11 :: x12 :: x13 :: x14 :: x15 :: x16 :: x17 :: x18 :: x19 :: x20 :: x21 :: x22 :: x23 :: x24 :: some v :: ρ) H) : gName 25 v (x0 :: x1 :: x2 :: x3 :: x4 :: x5 :: x6 :: x7 :: x8 :: x9 :: x10 :: x11 :: x12 :: x13 :: x14 :: x15 :: x16 :: x17 :: x18 :: x19 :: x20 :: x21 :: x22 :: x23 :: x24 :: x25 :: ρ) H N := h
theorem wV26 (h : Q v H) : tVar 26 (x0 :: x1 :: x2 :: x3 :: x4 :: x5 :: x6 :: x7 :: x8 :: x9 :: x10 :: x11 :: x12 :: x13 :: x14 :: x15 :: x16 :: x17 :: x18 :: x19 :: x20 :: x21 :: x22 :: x23 :: x24 :: x25 :: some v :: ρ) H Q := ⟨v, rfl, h⟩
theorem wG26 (h : N (x0 :: x1 :: x2 :: x3 :: x4 :: x5 :: x6 :: x7 :: x8 :: x9 :: x10 :: x11 :: x12 :: x13 :: x14 :: x15 :: x16 :: x17 :: x18 :: x19 :: x20 :: x21 :: x22 :: x23 :: x24 :: x25 :: some v :: ρ) H) : gName 26 v (x0 :: x1 :: x2 :: x3 :: x4 :: x5 :: x6 :: x7 :: x8 :: x9 :: x10 :: x11 :: x12 :: x13 :: x14 :: x15 :: x16 :: x17 :: x18 :: x19 :: x20 :: x21 :: x22 :: x23 :: x24 :: x25 :: x26 :: ρ) H N := h
end
theorem perm4 {A : Type} {a b c d r : A} {L : List A} : (a :: b :: c :: d :: r :: L).Perm (r :: a :: b :: c :: d :: L) := List.perm_middle (l₁ := [a, b, c, d])
end Z

set_option Elab.async false
set_option linter.all false
set_option maxRecDepth 100000
set_option maxHeartbeats 2000500
/-! ### t[::-1] of a tuple -/
namespace Z
open PySem PySem.Spec PyProof.Rows L2 HT
section
variable {prog : Program} {w : World} {A :
      Around} {E : Value → Shared → Prop} {s : Shared}
theorem adjust_rev (n : Nat) : Builtin.Slice.sliceAdjust none none (-1) (n : Int) = ((n : Int) - 1, -1) := by
  unfold
        Builtin.Slice.sliceAdjust
  simp
theorem places_rev (n : Nat) : Builtin.Slice.slicePlaces ((n : Int) - 1) (-1) (-1) = n := by
  unfold
        Builtin.Slice.slicePlaces
  have h1 : ¬ ((-1 : Int) > 0) := by omega
  simp only [h1, if_false, Int.neg_neg, Int.ediv_one]
  split <;> omega
theorem sliceApplied_rev {sl : Addr} {vs : Value} {n : Nat} {Q : Int × Int × Nat → Shared → Prop} (hs : s.heap.IsSliceOf sl .none .none vs) (ps : IsPart vs (some (-1)))
    (h : Q ((n : Int) - 1, -1, n) s) : wpAny (model prog w) A (Builtin.Slice.sliceApplied (.ref sl) (pure (n : Int))) Q E s := by
  obtain ⟨os, hos,
        hcs, hds⟩ := id hs
  unfold Builtin.Slice.sliceApplied
        Builtin.Slice.sliceFields
  refine wpAny_bind (wpAny_bind (wpAny_field hos hds (x := .none) rfl (wpAny_bind (wpAny_field hos hds (x := .none) rfl (wpAny_bind (wpAny_field hos hds (x := vs) rfl (wpAny_pure ?_)))))))
  refine wpAny_bind (slicePart_ ps ?_)
  show wpAny _ _ (if ((-1 : Int) == 0) = true then _ else _) _ _ s
  rw [if_neg (by decide)]
  refine wpAny_bind (slicePart_none (wpAny_bind (slicePart_none (wpAny_bind (wpAny_pure ?_)))))
  show wpAny _ _ (match Builtin.Slice.sliceAdjust none none (-1) (n : Int) with | (lo, hi) => pure (lo, (-1 : Int), Builtin.Slice.slicePlaces lo hi (-1))) _ _ s
  rw [adjust_rev]
  show wpAny _ _ (pure ((n : Int) - 1, (-1 : Int), Builtin.Slice.slicePlaces ((n : Int) - 1) (-1) (-1))) _ _ s
  rw [places_rev]
  exact wpAny_pure h
theorem fmap_map {α β : Type} {f : α → Option β} {g : α → β} : ∀ {l : List α}, (∀ x ∈ l, f x = some (g x)) → l.filterMap f = l.map g
  | [], _ => rfl
  | x :: r, h => by
    rw [List.filterMap_cons, h x List.mem_cons_self, List.map_cons]
    show _ :: _ = _ :: _
    rw [fmap_map fun y hy => h y (List.mem_cons_of_mem _ hy)]
theorem pick_rev (xs : Array Value) : ((List.range xs.size).filterMap fun (m : Nat) => xs[((xs.size : Int) - 1 + (m : Int) * -1).toNat]?).toArray = xs.toList.reverse.toArray := by
  congr 1
  apply List.ext_getElem?
  intro j
  have e : (List.range xs.size).filterMap (fun (m : Nat) => xs[((xs.size : Int) - 1 + (m : Int) * -1).toNat]?) = (List.range xs.size).map (fun m => xs.toList.reverse.getD m .none) := by
    refine fmap_map fun m hm => ?_
    have hm := List.mem_range.mp hm
    have e1 : ((xs.size : Int) - 1 + (m : Int) * -1).toNat = xs.size - 1 - m := by omega
    rw [e1]
    show xs[xs.size - 1 - m]? = some (xs.toList.reverse.getD m .none)
    rw [← Array.getElem?_toList, List.getD_eq_getElem?_getD, List.getElem?_reverse (by simpa using hm)]
    have hl : xs.toList.length - 1 - m < xs.toList.length := by rw [Array.length_toList]; omega
    rw [Array.length_toList, List.getElem?_eq_getElem (by rw [Array.length_toList]; omega)]
    rfl
  rw [e, List.getElem?_map]
  by_cases hj : j < xs.size
  · rw [List.getElem?_range hj]
    have hl : j < xs.toList.reverse.length := by rw [List.length_reverse, Array.length_toList]; exact hj
    rw [List.getElem?_eq_getElem hl]
    show some (xs.toList.reverse.getD j .none) = _
    rw [List.getD_eq_getElem?_getD, List.getElem?_eq_getElem hl]
    rfl
  · rw [List.getElem?_eq_none (by rw [List.length_range]; omega), List.getElem?_eq_none (by rw [List.length_reverse, Array.length_toList]; omega)]
    rfl
theorem getItem_tuple_rev {t sl : Addr} {items : Array Value} {vs : Value} {Q : Value → Shared → Prop} (ht : IsTup s.heap t items) (hs : s.heap.IsSliceOf sl .none .none vs) (ps : IsPart vs (some (-1)))
    (h : Q (.ref s.heap.objs.size) { s with heap := s.heap.push { cls := .type "tuple", data := .seq items.toList.reverse.toArray } })
    (hsz : items.size ≤ sizeLine) : wpAny (model prog
          w) A (getItem (.ref t) (.ref sl)) Q E s := by
  have htake : sizeOk (.seq items.toList.reverse.toArray) := by
    show items.toList.reverse.toArray.size ≤ sizeLine
    rw [List.size_toArray, List.length_reverse, Array.length_toList]
    exact hsz
  obtain ⟨os, hos,
        hcs, hds⟩ := id hs
  have hTs : s.TypeIs (.ref sl)
        "slice" := ⟨os, hos, hcs⟩
  unfold getItem
  try (with_reducible refine wpAny_holding ?_)
  first | (refine wpAny_bind (wpAny_pure ?_)) | skip
  refine wpAny_bind (wpAny_sequenceKey
        ht.typeIs (by decide) ?_)
  refine wpAny_bind (wpAny_callSpecial?_slot (name := Str.ofString
        "__getitem__") ht.typeIs PyProof.Rows.slot_tuple_getitem
    (wpAny_call_entry PyProof.Rows.slot_tuple_getitem
          ht.typeIs entry_tuple_getitem ?_ (args_tuple_getitem _ _)))
  show wpAny _ _ (Builtin.Tuple.tupleItemsOf
        (.ref t) >>= _) _ _ s
  refine wpAny_bind
        (tupleItemsOf_ ht ?_)
  refine wpAny_bind
        (wpAny_typeOf hTs ?_)
  rw [if_pos (by decide)]
  refine wpAny_bind (sliceApplied_rev hs ps ?_)
  show wpAny _ _ (if (((items.size : Int) - 1) == 0 && (-1 : Int) == 1 && items.size == items.size) = true then _ else _) _ _ s
  rw [if_neg (by simp), pick_rev]
  first
    | exact wpAny_bind (m := Builtin.Tuple.tupleExact _)
          (wpAny_newObj_type (wpAny_pure ⟨_, rfl, wpAny_pure h⟩) htake)
    | exact wpAny_bind (m := Builtin.Tuple.tupleExact _) (wpAny_newObj_type
          (wpAny_bind (wpAny_pure (wpAny_pure ⟨_, rfl, wpAny_pure h⟩))) htake)
    | exact wpAny_bind (wpAny_bind (m := Builtin.Tuple.tupleExact _)
          (wpAny_newObj_type (wpAny_pure (wpAny_pure ⟨_, rfl, wpAny_pure h⟩)) htake))
    | exact wpAny_bind (wpAny_bind (m := Builtin.Tuple.tupleExact _)
          (wpAny_newObj_type (wpAny_pure ⟨_, rfl, wpAny_pure h⟩) htake))
end
section
variable {X : Cx}
/-- x[::-1] of a list or of a tuple -/
def tRevS (K : PySem.W.Frag) (te : TE) : TE := fun σ H Q => te σ H fun x H1 => ∃ a xs, x = .ref a ∧ ((SqL K H1 a xs ∧ ∀ p, H1 p = none → Q (.ref p) (upd H1 p (.lst xs.reverse))) ∨ (SqT K H1 a xs ∧ ∀ p, H1 p = none → Q (.ref p) (upd H1 p (.tup xs.reverse))))
theorem pe_revS {e : Expr} {te : TE} {k : Nat} {p1 p2 p3 pos : Pos} (he : PE X e te) : PE X (.Subscript e (.Slice none none (some (.UnaryOp .USub (.Constant (.int 1) k p1) p2)) p3) pos) (tRevS X.K te) := by
  refine ⟨fun pins
        s σ H Q I h => ?_⟩
  refine Subscript_ (thn (he.run pins s σ H
        _ I h) fun v s1 ⟨x, H1, I1, r1, q1⟩ => ?_)
  obtain ⟨a, xs, ex, q⟩ := q1
  subst ex
  cases r1
  have hst : PO X (some (.UnaryOp .USub (.Constant (.int 1) k p1) p2)) (tPart
        (tUn (rU fun i => .int (-i)) (tC (.int 1)))) := po_some (pe_un un_neg pe_int)
  refine wpAny_Slice (thn (po_none.run pins s1 σ H1 (fun o H2 => o = none
        ∧ H2 = H1) I1 ⟨rfl, rfl⟩) fun vl s2 ⟨l, H2, I2, pl, el, e2⟩ => ?_)
  subst el e2
  refine thn (po_none.run pins s2 σ H2 (fun o H3 => o = none ∧ H3
        = H2) I2 ⟨rfl, rfl⟩) fun vu s3 ⟨u, H3, I3, pu, eu, e3⟩ => ?_
  subst eu e3
  refine thn (hst.run pins s3 σ H3 (fun o H4 => o = some (-1) ∧ H4 = H3)
        I3 ⟨1, rfl, -1, rfl, rfl, rfl⟩) fun vs s4 ⟨o, H4, I4, ps, eo, e4⟩ => ?_
  subst eo e4
  have I5 : Inv X pins σ H4 {
        s4 with heap := s4.heap.push { cls := .type "slice", data := .fields #[vl, vu, vs] } } := I4.kept (t' := s4.toks) fun b ob q => Heap.get?_push_of_some _ q
  rcases q with ⟨hx, q⟩ | ⟨hx, q⟩
  · obtain ⟨its, r, ht, hz⟩ := I5.list hx
    have hlen := r.length
    show wpAny (model X.prog X.w) X.A (subscriptTail e (.Slice none none (some (.UnaryOp .USub (.Constant (.int 1) k p1) p2)) p3) (.ref a)
          (.ref s4.heap.objs.size)) (EP X pins σ Q) X.xe { s4 with heap := s4.heap.push { cls := .type "slice", data := .fields #[vl, vu, vs] } }
    refine tail_any (ops := [.ref a, .ref s4.heap.objs.size]) ht.isList.typeIs
          (PySem.slot_list_getitem.lookup) ?_ (by with_unfolding_all rfl)
    refine wpAny_getItem_list_slice ht.isList (Heap.IsSliceOf.new _ vl
          vu vs) pl pu ps (by decide) ?_ (by rw [List.size_toArray]; omega)
    rw [PySem.W.krv_pick]
    refine ⟨.ref _, _, I5.laid (t' := s4.toks) (o := .lst xs.reverse) (fun b ob q =>
          Heap.get?_push_of_some _ q) (Nat.le_refl _) ?_, rfl, q _ (I5.hok.fresh (Nat.le_refl _))⟩
    exact ⟨by rw [List.length_reverse]; exact hz,
          _, 0, r.reverse, Heap.get?_push_size _ rfl⟩
  · obtain ⟨its, r, ht, hz⟩ := I5.tuple hx
    have hlen := r.length
    cases pl
    cases pu
    show wpAny (model X.prog X.w) X.A (subscriptTail e (.Slice none none (some (.UnaryOp .USub (.Constant (.int 1) k p1) p2)) p3) (.ref a) (.ref s4.heap.objs.size)) (EP X pins σ Q) X.xe { s4 with heap := s4.heap.push { cls := .type "slice", data := .fields #[.none, .none, vs] } }
    refine tail_any (ops := [.ref a, .ref s4.heap.objs.size]) ht.typeIs (PyProof.Rows.slot_tuple_getitem.lookup) ?_ (by with_unfolding_all rfl)
    refine getItem_tuple_rev ht (Heap.IsSliceOf.new _ .none .none vs) ps ?_ (by rw [List.size_toArray]; omega)
    refine ⟨.ref _, _, I5.laid (t' := s4.toks) (o := .tup xs.reverse) (fun b ob q => Heap.get?_push_of_some _ q) (Nat.le_refl _) ?_, rfl, q _ (I5.hok.fresh (Nat.le_refl _))⟩
    exact ⟨by rw [List.length_reverse]; exact hz, _, r.reverse, IsTup.new _ _⟩
end
end Z
/-! ### tuple(reversed(t)) of a tuple -/
namespace Z
open PySem PySem.Spec PyProof.Rows RT
theorem nolen_rt : typeLookup (.type "reversed") "__len__" = pure none := by rw [typeLookup_type, builtinLookup_eq_fast]; kernel_rfl
theorem hint_rt : typeLookup (.type "reversed") "__length_hint__" = pure (some (.builtin "reversed.__length_hint__")) := by rw [typeLookup_type, builtinLookup_eq_fast]; kernel_rfl
theorem slot_rt_hint : Slot "reversed" (Str.ofString "__length_hint__") "reversed.__length_hint__" := by
  refine Slot.of (owner := "reversed") (n := "__length_hint__") hint_rt ?_ ?_ ?_ (Or.inr ?_) ?_ ?_
  all_goals first | (rw [isSubtype_type]; kernel_rfl) | kernel_rfl | decide +kernel
theorem entry_rt_hint : entryFor table "reversed.__length_hint__" = some Builtin.«reversed.__length_hint__» := entryFor_of_tree (by kernel_rfl)
theorem args_rt_hint (a : Value) : argsOk "reversed.__length_hint__" { pos := [a] } := by
  show (match Manifest.signature? "reversed.__length_hint__" with | some sig => Bind.checkArgs "reversed.__length_hint__" sig { pos := [a] } | none => pure ()) = pure ()
  rw [signature?_of (n := "__length_hint__".toList.reverse) (o := "reversed".toList.reverse) (by kernel_rfl) RT.owner_rt]
  kernel_rfl
section
variable {prog : Program} {w : World} {A :
      Around} {E : Value → Shared → Prop} {s : Shared}
theorem call_hint_rt {it l : Addr} {items : Array Value} {Q : Value → Shared → Prop} (hit : IsRt s.heap it l ((items.size : Int) - 1)) (hl : IsTup s.heap l items) (hn : items.size ≤ sizeLine)
    (hQ : ∀ tk tk', Q (.int (items.size : Int) tk) { s with toks := tk' }) :
    wpAny (model prog w) A (call (.builtin "reversed.__length_hint__") [.ref it]) Q E s := by
  refine wpAny_call_entry slot_rt_hint hit.typeIs entry_rt_hint ?_ (args_rt_hint _)
  obtain ⟨o, ho,
        hc, hd⟩ := id hit
  unfold Builtin.«reversed.__length_hint__»
  have hz : ((items.size : Nat) : Int) < 2 ^ 63 := by
    have : sizeLine < 2 ^ 63 := by decide +kernel
    omega
  wp_walk using wpAny_field ho hd (i := 0) (x := .ref l) rfl, wpAny_field ho hd (i := 1) (x := rawInt ((items.size : Int) - 1)) rfl, len_tuple hl hz
  rw [hd]
  wp_walk
  rw [show ((items.size : Int) - 1) + 1 = items.size from by omega]
  exact ⟨_, rfl, hQ _ _⟩
end
theorem Walks.tupRev {prog : Program} {w : World} {A : Around} (hh : A.handled = none) (I l : Addr) (hne : l ≠ I) (items : Array Value) (hz : items.size ≤ sizeLine) :
    Walks prog w A I [I, l] [I] items.size (fun i v => items[items.size - 1 - i]? = some v) (fun i h => i ≤ items.size ∧ IsRt h I l ((items.size : Int) - 1 - (i : Int)) ∧ IsTup h l items) where
  sub := fun b hb => by
    simp at hb; simp [hb]
  frame := fun _ _ _ x hk => ⟨x.1, x.2.1.at fun o e => hk I (by simp) o e, by
    obtain ⟨o, ho, r⟩ := x.2.2
    exact ⟨o, hk l (by simp) o ho, r⟩⟩
  item := fun i s
        Q E hi x hQ => by
    have e : (items.size : Int) - 1 - (i : Int) =
          ((items.size - 1 - i : Nat) : Int) := by omega
    have hit := x.2.1
    rw [e] at hit
    have hx : items[items.size - 1 - i]? = some (items[items.size - 1 - i]'(by
          omega)) := Array.getElem?_eq_getElem (by omega)
    refine next_rt_item hit x.2.2 hx hz fun h' hit' hs' => ?_
    have e2 : ((items.size - 1 - i : Nat) : Int) - 1 = (items.size : Int) - 1 -
          ((i + 1 : Nat) : Int) := by omega
    rw [e2] at hit'
    refine hQ _ h' (s.toks + 1) hx ⟨hi, hit', ?_⟩ fun b o hb eo => hs'.extBut b o (fun h => hb (by simp [h])) eo
    obtain ⟨o, ho, r⟩ := x.2.2
    exact ⟨o, (hs'.2 l hne).trans ho, r⟩
  done := fun s Q E x hQ => by
    have e : (items.size : Int) - 1 -
          (items.size : Int) = -1 := by omega
    have hit := x.2.1
    rw [e] at hit
    exact next_rt_end hh hit fun h' he' => hQ h' s.toks fun b o hb eo => he' b o (fun h => hb (by simp [h])) eo
  self := fun _ _ _ _ x hQ => iter_rt x.2.1 hQ
section
variable {prog : Program} {w : World} {A :
      Around} {E : Value → Shared → Prop} {s : Shared}
theorem fits_size {n : Nat} (hn : n ≤ sizeLine) : Builtin.List.listFitsIndex (n : Int) = true := by
  have : sizeLine < 2 ^ 63 := by decide +kernel
  unfold
        Builtin.List.listFitsIndex
  rw [Bool.and_eq_true,
        decide_eq_true_eq, decide_eq_true_eq]
  omega
theorem notlong_size {n : Nat} (hn : n ≤ sizeLine) : Builtin.List.listTooLong (n : Int).toNat = false := by
  unfold
        Builtin.List.listTooLong
  rw [decide_eq_false_iff_not]
  omega
theorem hint_wp {it l : Addr} {items : Array Value} {Q : Bool → Shared → Prop} (hit : IsRt s.heap it l ((items.size : Int) - 1)) (hl : IsTup s.heap l items) (hn : items.size ≤ sizeLine)
    (hQ : ∀ b tk', Q b { s with toks := tk' }) :
    wpAny (model prog w) A (Builtin.List.listLengthHint (.ref it)) Q E s := by
  have hT : s.TypeIs (.ref it) "reversed" := hit.typeIs
  unfold
        Builtin.List.listLengthHint
  refine wpAny_bind (wpAny_specialOf hT nolen_rt ?_)
  show wpAny _ A (specialOf (Value.ref it) (Str.ofString "__length_hint__") >>= _) _ _ _
  refine wpAny_bind (wpAny_specialOf hT hint_rt ?_)
  generalize hid : ("reversed.__length_hint__" : String) = id0
  wp_delta
  rw [show splitId id0 = some ("reversed", "__length_hint__") from by subst hid; decide +kernel]
  subst hid
  refine wpAny_bind (wpAny_isInstance (b := true)
        hT (by rw [isSubtype_type]; kernel_rfl) ?_)
  rw [if_neg (by decide)]
  rw [if_neg (by
        decide +kernel)]
  refine wpAny_bind
        (wpAny_rule ?_)
  rw [slot_rt_hint.bind]
  refine wpAny_bind
        (wpAny_pure ?_)
  refine wpAny_bind (wpAny_attempt (call_hint_rt hit hl hn fun tk tk' => ?_))
  have hfit := fits_size hn
  have hlong := notlong_size hn
  have hneg : ¬ (items.size : Int) < 0 := by omega
  generalize (items.size : Int) = nn at hfit hlong hneg ⊢
  dsimp only
  rw [asInt?.eq_1]
  refine wpAny_bind
        (wpAny_pure ?_)
  dsimp only
  rw [hfit, hlong]
  rw [if_neg (by decide), if_neg hneg, if_neg (by decide)]
  exact wpAny_pure (hQ _ _)
theorem collect_revT {it l : Addr} {items : Array Value} {Q : List Value → Shared → Prop} (hh : A.handled = none) (hit : IsRt s.heap it l ((items.size : Int) - 1)) (hl : IsTup s.heap l items) (hne : l ≠ it) (hn : items.size ≤ sizeLine)
    (hQ : ∀ (h' : Heap) (tk : Nat) (acc : Array Value), (∀ b o, b ≠ it → s.heap.get? b = some o → h'.get? b = some o) →
          ItemsOf (fun i v => items[items.size - 1 - i]? = some v) acc items.size → Q acc.toList { s with heap := h', toks := tk }) :
    wpAny (model prog w) A (collect
          (.ref it)) Q E s := by
  have W := (Walks.tupRev (prog := prog) (w := w) (A := A.in1) hh it l hne items hn).toS
  obtain ⟨oi, hoi, _⟩ := id hit
  obtain ⟨ol, hol, hrl⟩ := id hl
  have hSi : s.heap.objs.size ≠ it :=
        Nat.ne_of_gt (Heap.lt_size hoi)
  have hSl : s.heap.objs.size ≠ l :=
        Nat.ne_of_gt (Heap.lt_size hol)
  have hSf : s.heap.objs.size ∉ [it, l] := by
    simp only [List.mem_cons, List.not_mem_nil, or_false, not_or]; exact ⟨hSi, hSl⟩
  unfold collect
  refine wpAny_bind (wpAny_runValue (codeAny_builtin
        F.entry_proto_collect ?_))
  rw [Around.under_plainId
        F.plain_proto_collect _]
  show wpAny _ A.in1 (newList [] >>= fun l' =>
    again (.builtin "list.__iadd__" ⟨[l', .ref it], []⟩)) _ _ s
  refine wpAny_bind
        (wpAny_newObj_type ?_)
  refine wpAny_pure ⟨plainId_quiet F.plain_list_iadd _,
        codeAny_builtin F.entry_list_iadd ?_⟩
  rw [Around.under_plainId
        F.plain_list_iadd _]
  have hS₁ : (s.heap.push { cls := .type "list", data := .seq ([] : List Value).toArray }).get? s.heap.objs.size =
      some { cls := .type "list", data := .seq ([] : List Value).toArray } := Heap.get?_push_size _ rfl
  have hit1 : IsRt (s.heap.push { cls := .type "list", data := .seq ([] : List Value).toArray }) it l ((items.size : Int) - 1) := hit.at fun o e => Heap.get?_push_of_some _ e
  have hl1 : IsTup (s.heap.push { cls := .type "list", data := .seq ([] : List Value).toArray }) l items := ⟨ol, Heap.get?_push_of_some _ hol, hrl⟩
  have hT : ({ s with heap := s.heap.push { cls := .type "list", data := .seq ([] : List Value).toArray } } : Shared).TypeIs (.ref it) "reversed" := IsRt.typeIs (s := { s with heap := s.heap.push { cls := .type "list", data := .seq ([] : List Value).toArray } }) hit1
  have h1 : Builtin.List.listSameRef (.ref s.heap.objs.size) (.ref it) = false := by
    simp [Builtin.List.listSameRef, hSi]
  show wpAny _ A.in1 (Builtin.List.listExtendWith (.ref s.heap.objs.size)
        (.ref it) (.ref s.heap.objs.size)) _ _ _
  unfold
        Builtin.List.listExtendWith
  refine wpAny_bind
        (wpAny_typeOf hT ?_)
  rw [if_neg (show ¬ _ = true by rw [h1]; decide)]
  refine wpAny_bind (iter_rt (s := { s with heap := s.heap.push { cls := .type "list", data := .seq ([] : List Value).toArray } }) hit1 ?_)
  refine wpAny_bind
        (wpAny_holding ?_)
  have e0 : ((items.size : Nat) : Int) - 1 - ((0 : Nat) : Int) =
        (items.size : Int) - 1 := by omega
  have key : ∀ (R : Result → Shared → Prop) (h2 : Heap) (c tk2 : Nat), h2.get? s.heap.objs.size = some { cls := .type "list", data := .seq #[] c } →
      (∀ b o, b ≠ s.heap.objs.size → s.heap.get? b = some o → h2.get? b = some o) →
      (∀ (h' : Heap) (tk3 c' : Nat) (acc : Array Value), h'.get? s.heap.objs.size = some { cls := .type "list", data := .seq acc c' } →
        (∀ b o, b ≠ it → s.heap.get? b = some o → h'.get? b = some o) → ItemsOf (fun i v => items[items.size - 1 - i]? = some v) acc items.size → R (Except.ok (Flow.ret (.ref s.heap.objs.size))) { s with heap := h', toks := tk3 }) →
      codeAny (model prog w) A (.builtin "list.extend.loop" { pos := [.ref s.heap.objs.size, .ref it, .ref s.heap.objs.size] }) R { s with heap := h2, toks := tk2 } := by
    intro R h2 c tk2 g2 f2 hR
    have g3 : ({ s with heap := h2, toks := tk2 } : Shared).heap.get? s.heap.objs.size = some { cls := .type "list", data := .seq #[] c } := g2
    refine codeAny_extend_loopS W hn _ hSf _ items.size 0 _ _ _ rfl (Nat.zero_le _) ⟨Nat.zero_le _, ?_, ?_⟩ g3 (ItemsOf.nil _) fun s' acc' c' hm hS' hacc => ?_
    · rw [e0]
      obtain ⟨o9, h9, r9⟩ := hit
      exact ⟨o9, f2 _ _ (Ne.symm hSi) h9, r9⟩
    · exact ⟨ol, f2 _ _ (Ne.symm hSl) hol, hrl⟩
    have em := Moved.eq_with hm
    have frame : ∀ b o, b ≠ it → s.heap.get? b = some o → s'.heap.get? b = some o := fun b o hb e => hm.heap b o (fun hmem => by
      rcases List.mem_cons.mp
            hmem with e' | hmem
      · exact absurd (Heap.lt_size e)
            (by rw [e']; exact Nat.lt_irrefl _)
      · exact hb (List.mem_singleton.mp hmem)) (f2 b o (fun e' => absurd (Heap.lt_size e) (by rw [e']; exact Nat.lt_irrefl _)) e)
    rw [em]
    exact hR s'.heap s'.toks c' acc' hS' frame hacc
  refine hint_wp hit1 hl1 hn fun b tk' => ?_
  have fin : ∀ (h2 : Heap) (c : Nat), h2.get? s.heap.objs.size = some { cls := .type "list", data := .seq #[] c } →
      (∀ b o, b ≠ s.heap.objs.size → s.heap.get? b = some o → h2.get? b = some o) →
      codeAny (model prog w) A (.builtin "list.extend.loop" { pos := [.ref s.heap.objs.size, .ref it, .ref s.heap.objs.size] })
        (fun r s' => match r with
          | Except.ok (Flow.ret v) => wpAny (model prog w) A (match v with
            | .ref a => load a >>= fun o => match o.data with
              | .seq xs _ => pure xs.toList
              | _ => unsupported
                    "internal:collect"
            | _ => unsupported "internal:collect") Q E s'
          | Except.ok _ => False
          | Except.error e => E e s') { s with heap := h2, toks := tk' } := by
    intro h2 c g2 f2
    refine key _ h2 c tk' g2 f2 fun h' tk3 c' acc g3 f3 hacc => ?_
    show wpAny (model prog w) A (load s.heap.objs.size >>= _) _ _ _
    refine wpAny_bind (wpAny_load g3 ?_)
    exact wpAny_pure (hQ h' tk3 acc f3 hacc)
  have f1 : ∀ b o, b ≠ s.heap.objs.size → s.heap.get? b = some o → (s.heap.push { cls := .type "list", data := .seq ([] : List Value).toArray }).get? b = some o := fun b o _ e => Heap.get?_push_of_some _ e
  rw [show (Bool.or b _) = b from ?hb]
  case hb => exact Bool.or_false b
  cases b
  · rw [if_neg (by decide)]
    exact wpAny_pure ⟨plainId_quiet F.plain_extend_loop _, fin _ _ hS₁ f1⟩
  · rw [if_pos rfl]
    refine wpAny_bind
          (wpAny_rule ?_)
    unfold Builtin.List.listTouch
    refine wpAny_bind (wpAny_bind (wpAny_updateSeq hS₁ rfl ?_))
    have g2 := Heap.get?_update_self (f := Obj.mapSeq fun x => x.push Value.none) hS₁ rfl
    refine wpAny_updateSeq g2 rfl ?_
    have g3 := Heap.get?_update_self (f := Obj.mapSeq fun x => x.pop) g2 rfl
    exact wpAny_pure ⟨plainId_quiet F.plain_extend_loop _, fin _ _ g3 fun b o hb e => Heap.get?_update_of_ne _ (Ne.symm hb) (Heap.get?_update_of_ne _ (Ne.symm hb) (f1 b o hb e))⟩
theorem code_tuple_new_revT {it l : Addr} {items : Array Value} {Q₁ : Value → Shared → Prop} (hh : A.handled = none) (hit : IsRt s.heap it l ((items.size : Int) - 1)) (hl : IsTup s.heap l items) (hne : l ≠ it) (hn : items.size ≤ sizeLine)
    (h : ∀ (h' : Heap) (tk : Nat) (acc : Array Value), (∀ b o, b ≠ it → s.heap.get? b = some o →
          h'.get? b = some o) → ItemsOf (fun i v => items[items.size - 1 - i]? = some v) acc items.size →
      Q₁ (.ref h'.objs.size) {
            s with heap := h'.push { cls := .type "tuple", data := .seq acc }, toks := tk }) :
    codeAny (model prog w) A (.call (.builtin "tuple.__new__")
          ⟨[.type "tuple", .ref it], []⟩) (wants Q₁ E) s := by
  refine codeAny_of_tree ?_
  show wpAny _ A.in1 (checkBuiltinCall "tuple.__new__" ⟨[.type "tuple", .ref it], []⟩ >>= fun _ =>
    again (.builtin "tuple.__new__" ⟨[.type "tuple", .ref it], []⟩)) _ _ s
  refine wpAny_bind (wpAny_of_eq (F.newCall_tuple_1 _) (wpAny_pure ⟨plainId_quiet
        F.plain_tuple_new _, codeAny_builtin F.entry_tuple_new ?_⟩))
  rw [Around.under_plainId
        F.plain_tuple_new _]
  have hsub := sub_tuple_self
  have hinit :=
        init_tuple_lookup
  have hmh := madeHere_tuple
  have hTI : s.TypeIs (.ref it) "reversed" := hit.typeIs
  have hh1 : A.in1.handled
        = none := hh
  wp_walk using wpAny_typeOf hTI, collect_revT (A := A.in1) hh1 hit hl hne hn
  intro h' tk acc hk hacc
  show wpAny _ _ (Builtin.Tuple.tupleExact acc.toList.toArray
        >>= fun v => ret v) _ _ _
  unfold
        Builtin.Tuple.tupleExact
  have hza : acc.toList.toArray.size ≤ sizeLine := by
    simp only [Array.toArray_toList]; rw [hacc.1]; exact hn
  refine wpAny_bind (wpAny_newObj_type ?_ hza)
  refine wpAny_pure ?_
  have e : acc.toList.toArray
        = acc := by simp
  rw [e]
  exact h h' tk acc
        hk hacc
theorem call_tuple_revT {it l : Addr} {items : Array Value} {Q : Value → Shared → Prop} (hh : A.handled = none) (hit : IsRt s.heap it l ((items.size : Int) - 1)) (hl : IsTup s.heap l items) (hne : l ≠ it) (hn : items.size ≤ sizeLine)
    (hQ : ∀ (h' : Heap) (tk : Nat) (acc : Array Value), (∀ b o, b ≠ it → s.heap.get? b = some o →
          h'.get? b = some o) → ItemsOf (fun i v => items[items.size - 1 - i]? = some v) acc items.size →
      Q (.ref h'.objs.size) {
            s with heap := h'.push { cls := .type "tuple", data := .seq acc }, toks := tk }) :
    wpAny (model prog w) A (call (.type
          "tuple") [.ref it]) Q E s := by
  refine callType_codes (Q₁ := fun obj s₁ => s₁.TypeIs obj "tuple" ∧ Q obj s₁)
        F.called_tuple (F.typeCall_tuple_1 _) F.entry_object_init
    (code_tuple_new_revT (A := A.in1) hh hit hl hne hn fun h' tk acc hk hacc => ⟨⟨_, Heap.get?_push_size _ rfl, rfl⟩, hQ h' tk acc hk hacc⟩) fun obj s₁ h₁ => ?_
  exact ⟨h₁.1, F.args_object_init_2 obj _, object_init_meets F.called_tuple.init.lookup F.called_tuple.made
        (by decide) prog w A.in1 _ s₁ ⟨h₁.1, rfl, h₁.2⟩⟩
end
end Z

set_option Elab.async false
set_option linter.all false
set_option maxRecDepth 100000
set_option maxHeartbeats 2000500
/-! ### t * 1 of a tuple: the same tuple -/
namespace Z
open PySem PySem.Spec PyProof.Rows L2 HT
theorem tuple_mul1 (l : Addr) (items : Array Value) (n : Nat) (dd : Option Addr) (sl : Array (Option Value)) (x : Int) (u : Tok)
    (c0 : (decide (x < -2 ^ 63) || decide (x ≥ 2 ^ 63)) = false) (c1 : (items.isEmpty || x == 1) = true) :
    Meets (Builtin.«tuple.__mul__» { pos := [Value.ref l, Value.int x u] }) fun _ R s =>
      s.heap.get? l = some { cls := Value.type "tuple", dict := dd, data := Data.seq items n, slots := sl } ∧ R (Except.ok (Flow.ret (Value.ref l))) s :=
  Meets.of_wp fun prog w A R s h => by
    obtain ⟨hp, g,
          d, tk, os⟩ := s
    obtain ⟨hl, h⟩ := h
    have f1 := AutoSeq1.idx_int
    have hT : (⟨hp, g, d, tk, os⟩ : Shared).TypeIs (.ref l) "tuple" := ⟨_, hl, rfl⟩
    wp_walk
    rw [if_neg (by rw [c0]; decide)]
    refine wpAny_bind (tupleItemsOf_ (items := items) ⟨_, hl, rfl, _, rfl⟩ ?_)
    rw [if_pos c1]
    unfold Builtin.Tuple.tupleIsExact
    wp_walk using wpAny_typeOf hT
    exact ⟨_, rfl, h⟩
/-- t * k of a tuple that is not empty, k at least 1 -/
def rRep1 (K : PySem.W.Frag) : R2 := fun x y H Q => ∃ l k xs, x = .ref l ∧ y = .int k ∧ SqT K H l xs ∧ xs ≠ [] ∧ 1 ≤ k ∧ k ≤ 1000 ∧ xs.length ≤ 1000 ∧
  (k = 1 → Q (.ref l) H) ∧ (k ≠ 1 → ∀ p, H p = none → Q (.ref p) (upd H p (.tup (List.replicate k.toNat xs).flatten)))
theorem op_rep1 {X : Cx} : OpR X (binaryOp Operator.Mult) (rRep1 X.K) := by
  intro pins s σ H x
        y v u Q I rx ry h
  obtain ⟨l, k, xs, ex, ey, hT, hne, h1, h2, hz, q1, q2⟩ := h
  by_cases hk : k = 1
  · subst ex ey
    cases rx
    obtain ⟨t, e⟩ := ry
    subst e hk
    obtain ⟨its, r, ht, hs⟩ := I.tuple hT
    obtain ⟨⟨cls, dd, data, sl⟩,
          ho, hc, n, hd⟩ := id ht
    dsimp only at hc hd
    subst hc hd
    refine wpAny_binaryOp_repeat_ref (by decide) ⟨_, ho, rfl⟩ (fun s' => typeIs_int s' 1 t) noFill_tuple_mul F.fills_int_mul F.slot_int_rmul repeat_tuple F.slot_int_index.lookup ?_
    refine call_meets F.slot_int_rmul (typeIs_int s 1 t) F.entry_int_rmul (F.args_int_rmul_2 (Value.int 1 t) (Value.ref l)) (int_rmul_tuple 1 t l its.toArray n dd sl) ⟨ho, rfl, ⟨_, ho, rfl⟩, ?_⟩
    refine call_meets F.slot_tuple_mul ⟨_, ho, rfl⟩ F.entry_tuple_mul (F.args_tuple_mul_2 (Value.ref l) (Value.int 1 t)) (tuple_mul1 l its.toArray n dd sl 1 t (by decide) (by simp)) ⟨ho, ?_⟩
    exact ⟨.ref l, H, I, rfl, q1 rfl⟩
  · exact op_repT pins s σ H x y v u Q I rx ry ⟨l, k, xs, ex, ey, hT, hne, by omega, h2, hz, q2 hk⟩
end Z
/-! ### tuple(reversed(t)) of a tuple as an expression -/
namespace Z
open PySem PySem.Spec PyProof.Rows L2 RT
def tTupRevT (K : PySem.W.Frag) (te : TE) : TE := fun σ H Q => te σ H fun v H1 => ∃ a xs, v = .ref a ∧ SqT K H1 a xs ∧ ∀ q, H1 q = none → Q (.ref q) (upd H1 q (.tup xs.reverse))
theorem pe_tupRevT {X : Cx} {e : Expr} {te : TE} {p p2 pos pos2 : Pos} (hc : X.calm = true) (hg : Gl X "tuple") (hm : X.mg "tuple" = none) (hg2 : Gl X "reversed") (hm2 : X.mg "reversed" = none) (he : PE X e te)
    (hs : starEach [e] X.env = (false, eval
          e X.env) :: starEach [] X.env := by rfl)
    (hs2 : starEach [.Call (.Name "reversed" p2) [e] [] pos2] X.env = (false, eval
          (.Call (.Name "reversed" p2) [e] [] pos2) X.env) :: starEach [] X.env := by rfl) :
    PE X (.Call (.Name "tuple" p) [.Call (.Name "reversed" p2) [e] [] pos2] [] pos) (tTupRevT X.K te) := by
  refine ⟨fun pins
        s σ H Q I h => ?_⟩
  refine Call_ (ld_blt I hg hm boot_tuple (PyProof.Rows.callWith_type1 (he := hs2) ?_))
  refine args_cons (he := hs2) (Call_ (ld_blt I hg2 hm2 boot_reversed (PyProof.Rows.callWith_type1 (he := hs) (args_cons (he := hs) ?_))))
  refine (thn (he.run pins s σ H _ I h) fun u s1 x => ?_)
  obtain ⟨v, H1, I1, r1, a, xs, ev, hq, q⟩ := x
  subst ev
  cases r1
  obtain ⟨its, r, ht, hz⟩ := I1.tuple hq
  have hlen := r.length
  have hne : a ≠ s1.heap.objs.size := by
    obtain ⟨o, ho, _⟩ := ht
    exact Nat.ne_of_lt
          (Heap.lt_size ho)
  have hsz : its.toArray.size ≤ sizeLine := by rw [List.size_toArray]; omega
  have hlt : ((its.toArray.size : Nat) : Int) < 2 ^ 63 := by
    have : sizeLine < 2 ^ 63 := by decide +kernel
    omega
  refine args_nil (call_reversed_tup ht (fun _ _ _ h9 => len_tuple ht hlt h9) (args_nil ?_))
  have I2 : L2.Inv X pins σ H1 { s1 with heap := s1.heap.push (rtObj a ((its.toArray.size : Int) - 1)), toks := s1.toks + 1 + 1 } := I1.kept fun b ob q9 => Heap.get?_push_of_some _ q9
  have hit : IsRt (s1.heap.push (rtObj a ((its.toArray.size : Int) - 1))) s1.heap.objs.size a ((its.toArray.size : Int) - 1) := ⟨_, Heap.get?_push_size _ rfl, rfl, rfl⟩
  obtain ⟨f0, f1, f2, f3, f4, f5⟩ := I1.fpOk (Nat.le_refl s1.heap.objs.size) (I1.hok.fresh (Nat.le_refl s1.heap.objs.size))
  have ht2 : IsTup (s1.heap.push (rtObj a ((its.toArray.size : Int) - 1))) a its.toArray := by
    obtain ⟨o, ho, r9⟩ := ht
    exact ⟨o, Heap.get?_push_of_some _ ho, r9⟩
  refine call_tuple_revT (s := { s1 with heap := s1.heap.push (rtObj a ((its.toArray.size : Int) - 1)), toks := s1.toks + 1 + 1 }) (items := its.toArray) (I1.ok.hd hc) hit ht2 hne hsz fun h' tk acc hk hacc => ?_
  have I3 := Inv.turned (t' := tk) I2 (fun b o hb e => hk b o hb e) f0 f1 f3 f4 f5
  refine ⟨.ref h'.objs.size, upd H1 h'.objs.size (.tup xs.reverse), I3.laid (t' := tk) (fun c o e => Heap.get?_push_of_some _ e) (Nat.le_refl _) ?_, rfl, q _ (I3.hok.fresh (Nat.le_refl _))⟩
  refine ⟨by rw [List.length_reverse]; exact hz, acc.toList, vals_rev r hacc, ?_⟩
  rw [Array.toArray_toList]
  exact IsTup.new h' acc
end Z
/-! ### readings of these over a ledger -/
namespace Z
open PySem PySem.Spec PyProof.Rows L2 HT
theorem zSlA {X : Cx} : SlR X (rOrS (rSlL X.K) (rSlA X.K)) := SlR.or sl_list sl_tupA
theorem cut_whole {xs : List V} {lo hi : Option Int} (h : HT.sIx xs.length 0 lo = 0 ∧ HT.sIx xs.length xs.length hi = xs.length) : cutV xs lo hi = xs := by
  unfold cutV
  rw [h.1, h.2]
  simp
def RevR (K : PySem.W.Frag) (x : V) (H1 : Hp) (Q : VK) : Prop := ∃ a xs, x = .ref a ∧ ((SqL K H1 a xs ∧ ∀ p, H1 p = none → Q (.ref p) (upd H1 p (.lst xs.reverse))) ∨ (SqT K H1 a xs ∧ ∀ p, H1 p = none → Q (.ref p) (upd H1 p (.tup xs.reverse))))
def TupRevR (K : PySem.W.Frag) (x : V) (H1 : Hp) (Q : VK) : Prop := ∃ a xs, x = .ref a ∧ SqT K H1 a xs ∧ ∀ q, H1 q = none → Q (.ref q) (upd H1 q (.tup xs.reverse))
def RevI (K : PySem.W.Frag) (vs : List V) (H1 : Hp) (R : It → Hp → Prop) : Prop := ∃ a xs, vs = [V.ref a] ∧ SqL K H1 a xs ∧ R (Itv K a xs.length) H1
section
variable {K : PySem.W.Frag} {σ : L2.St} {H : Hp} {te : TE} {ta : TA} {Q : VK} {L : List En} {a : Addr} {xs : List V} {RI : It → Hp → Prop} {k : Int} {b : V} {lo hi : Option Int}
theorem wRevS (h : te σ H fun x H1 => RevR K x H1 Q) : tRevS K te σ H Q := h
theorem wRevL (s : SqL K H a xs) (F : Fx H L) (k : ∀ p H', Fx H' (.ob p (.lst xs.reverse) :: L) → Q (.ref p) H') : RevR K (.ref a) H Q := ⟨a, xs, rfl, .inl ⟨s, wNewF F k⟩⟩
theorem wRevT (s : SqT K H a xs) (F : Fx H L) (k : ∀ p H', Fx H' (.ob p (.tup xs.reverse) :: L) → Q (.ref p) H') : RevR K (.ref a) H Q := ⟨a, xs, rfl, .inr ⟨s, wNewF F k⟩⟩
theorem wTupRev (h : te σ H fun x H1 => TupRevR K x H1 Q) : tTupRevT K te σ H Q := h
theorem wTupRevT (s : SqT K H a xs) (F : Fx H L) (k : ∀ p H', Fx H' (.ob p (.tup xs.reverse) :: L) → Q (.ref p) H') : TupRevR K (.ref a) H Q := ⟨a, xs, rfl, s, wNewF F k⟩
theorem wIRev (h : ta σ H fun vs H1 => RevI K vs H1 RI) : iRev K ta σ H RI := h
theorem wRevI (s : SqL K H a xs) (h : RI (Itv K a xs.length) H) : RevI K [.ref a] H RI := ⟨a, xs, rfl, s, h⟩
theorem wRep1 (F : Fx H L) (m : En.ob a (.tup xs) ∈ L) (n1 : 1 ≤ k) (n2 : k ≤ 1000) (n3 : xs.length ≤ 1000) (n4 : xs ≠ [])
    (q : ∀ p H' L1, En.ob p (.tup (List.replicate k.toNat xs).flatten) ∈ L1 → L.Sublist L1 → Fx H' L1 → Q (.ref p) H') : rRep1 K (.ref a) (.int k) H Q := by
  refine ⟨a, k, xs, rfl, rfl, F.tup m, n4, n1, n2, n3, fun e => ?_, fun _ => ?_⟩
  · subst e
    refine q a H L ?_ (.refl _) F
    rw [show (List.replicate (Int.toNat 1) xs).flatten = xs from by
      show (List.replicate 1 xs).flatten = xs
      simp]
    exact m
  · exact wNewF F fun p H' F' => q p H' _ List.mem_cons_self (List.sublist_cons_self _ _) F'
theorem wSlAS {L' : List En} (hq : SeqIs L b (some xs)) (sb : L.Sublist L') (F : Fx H L')
    (q : ∀ p H' N, Seq2 (N ++ L) b (.ref p) xs (cutV xs lo hi) → Fx H' (N ++ L') → Q (.ref p) H') : rOrS (rSlL K) (rSlA K) b lo hi H Q := by
  cases hq with
  | lst m => exact .inl ⟨_, xs, rfl, F.lst (sb.subset m), wNewF F fun p H' F' => q p H' [_] (.lst (.tail _ m) List.mem_cons_self) F'⟩
  | tup m =>
    refine .inr ⟨_, xs, rfl, F.tup (sb.subset m), fun e => ?_, fun _ => ?_⟩
    · refine q _ H [] (.tup m ?_) F
      rw [cut_whole e]
      exact m
    · exact wNewF F fun p H' F' => q p H' [_] (.tup (.tail _ m) List.mem_cons_self) F'
theorem wLenSq (hq : SeqIs L b (some xs)) (F : Fx H L) (h : Q (.int xs.length) H) : rLen K [b] H Q := by
  cases hq with
  | lst m => exact wLenL (F.lst m) h
  | tup m => exact wLenT (F.tup m) h
theorem wIxSq {i : Int} {v : V} (hq : SeqIs L b (some xs)) (F : Fx H L) (e : atI xs i = some v) (h : Q v H) : rIx K b (.int i) H Q := by
  cases hq with
  | lst m => exact wIxL (F.lst m) e h
  | tup m => exact wIxT (F.tup m) e h
theorem wMany_yes {c cls : Value} {ts : Addr → Value → Option Addr → TS} {r : List (Value × (Addr → Value → Option Addr → TS))} {Wout : WX} {D : Ends} {d : Option Addr} (e : PySem.W.exmOne K cls c = some true) (h : ∀ a, H a = none → ts a cls d D σ H) : WE (wMany K Wout D ((c, ts) :: r)) σ cls d H :=
  ⟨true, e, fun _ a ha => h a ha, fun q => Bool.noConfusion q⟩
theorem wMany_no {c cls : Value} {ts : Addr → Value → Option Addr → TS} {r : List (Value × (Addr → Value → Option Addr → TS))} {Wout : WX} {D : Ends} {d : Option Addr} (e : PySem.W.exmOne K cls c = some false) (h : WE (wMany K Wout D r) σ cls d H) : WE (wMany K Wout D ((c, ts) :: r)) σ cls d H :=
  ⟨false, e, fun q => Bool.noConfusion q, fun _ => h⟩
theorem starSq {R : List V → Prop} (hq : SeqIs L b (some xs)) (F : Fx H L) (h : R xs) : ∃ p xs, b = V.ref p ∧ (SqT K H p xs ∨ SqL K H p xs) ∧ R xs := by
  cases hq with
  | lst m => exact ⟨_, xs, rfl, .inr (F.lst m), h⟩
  | tup m => exact ⟨_, xs, rfl, .inl (F.tup m), h⟩
theorem wOnly_yes {c : Value} {ts : Addr → Value → Option Addr → TS} {Wout : WX} {D : Ends} {d : Option Addr} (e : PySem.W.exmOne K c c = some true) (h : ∀ a, H a = none → ts a c d D σ H) : WE (wOnly K c ts Wout D) σ c d H :=
  ⟨true, e, fun _ a ha => h a ha, fun q => Bool.noConfusion q⟩
theorem Seq2.isR {L : List En} {a c : V} {xs ys : List V} (h : Seq2 L a c xs ys) : SeqIs L c (some ys) := by
  cases h with
  | lst _ m => exact .lst m
  | tup _ m => exact .tup m
theorem wLcZL {a b : Addr} {xs ys : List V} {g : TG} {tt : TT} {te : TE} {vs : List Nat} {σ : L2.St} {QD : Addr → Hp → Prop} (m : En.ob a (.lst xs) ∈ L) (m' : En.ob b (.lst ys) ∈ L) (F : Fx H L) (R : Nat → List V → List En → Prop) (h0 : R 0 [] L) (keep : ∀ i acc L', R i acc L' → ∀ e ∈ L, e ∈ L')
    (hs : ∀ i x y T D H' acc L', xs[i]? = some x → ys[i]? = some y → R i acc L' → Fx H' (.ob T (.tup [x, y]) :: .ob D (.lst acc) :: L') → g (.ref T) (wipe σ vs) H' fun σ2 H2 => wipe σ2 vs = wipe σ vs ∧ tt σ2 H2 fun b H3 =>
      if b = true then te σ2 H3 fun y H4 => LcPut D R i y H4 else LcP D R (i + 1) H3)
    (hd : ∀ D acc L' H', Fx H' (.ob D (.lst acc) :: L') → R (min xs.length ys.length) acc L' → QD D H') :
    ∀ D, H D = none → ∃ W : Nat → Nat → Hp → Prop, (∃ m, W 0 m (upd H D (.lst []))) ∧ ∀ i m H, W i m H →
  ((Itz K a b).stop i H ∧ QD D H) ∨ ((Itz K a b).go i H ∧ ∃ Nx : Hp → Prop, (∀ H', Nx H' → ∃ m', m' < m ∧ W (i + 1) m' H') ∧ ∀ x H', (Itz K a b).yld i H x H' → g x (wipe σ vs) H' fun σ2 H2 => wipe σ2 vs = wipe σ vs ∧ tt σ2 H2 fun b H3 =>
    if b = true then te σ2 H3 fun y H4 => ∃ acc, H4 D = some (.lst acc) ∧
          acc.length < sizeLine ∧ Nx (upd H4 D (.lst (acc ++ [y]))) else Nx H3) := by
  refine wLcW (walk_zip (K := K) (xs := xs) (ys := ys) rfl) F R h0 (fun i acc L' D H' r F' => ⟨F'.lst (List.mem_cons_of_mem _ (keep _ _ _ r _ m)), F'.lst (List.mem_cons_of_mem _ (keep _ _ _ r _ m'))⟩) ?_ hd
  rintro i v D H' H'' acc L' _ r F' ⟨T, x, y, rfl, hT, rfl, e1, e2⟩
  exact hs i x y T D _ acc L' e1 e2 r (F'.new hT)
theorem wLcRev {a : Addr} {xs : List V} {g : TG} {tt : TT} {te : TE} {vs : List Nat} {σ : L2.St} {QD : Addr → Hp → Prop} (m : En.ob a (.lst xs) ∈ L) (F : Fx H L) (R : Nat → List V → List En → Prop) (h0 : R 0 [] L) (keep : ∀ i acc L', R i acc L' → ∀ e ∈ L, e ∈ L')
    (hs : ∀ i x D H' acc L', xs.reverse[i]? = some x → R i acc L' → Fx H' (.ob D (.lst acc) :: L') → g x (wipe σ vs) H' fun σ2 H2 => wipe σ2 vs = wipe σ vs ∧ tt σ2 H2 fun b H3 =>
      if b = true then te σ2 H3 fun y H4 => LcPut D R i y H4 else LcP D R (i + 1) H3)
    (hd : ∀ D acc L' H', Fx H' (.ob D (.lst acc) :: L') → R xs.length acc L' → QD D H') :
    ∀ D, H D = none → ∃ W : Nat → Nat → Hp → Prop, (∃ m, W 0 m (upd H D (.lst []))) ∧ ∀ i m H, W i m H →
  ((Itv K a xs.length).stop i H ∧ QD D H) ∨ ((Itv K a xs.length).go i H ∧ ∃ Nx : Hp → Prop, (∀ H', Nx H' → ∃ m', m' < m ∧ W (i + 1) m' H') ∧ ∀ x H', (Itv K a xs.length).yld i H x H' → g x (wipe σ vs) H' fun σ2 H2 => wipe σ2 vs = wipe σ vs ∧ tt σ2 H2 fun b H3 =>
    if b = true then te σ2 H3 fun y H4 => ∃ acc, H4 D = some (.lst acc) ∧
          acc.length < sizeLine ∧ Nx (upd H4 D (.lst (acc ++ [y]))) else Nx H3) := by
  refine wLcW (walk_rev (K := K) (a := a) (xs := xs)) F R h0 (fun i acc L' D H' r F' => F'.lst (List.mem_cons_of_mem _ (keep _ _ _ r _ m))) ?_ hd
  rintro i v D H' H'' acc L' hi r F' ⟨rfl, e⟩
  exact hs i v D _ acc L' (by rw [List.getElem?_reverse hi]; exact e) r F'
end
end Z

set_option Elab.async false
set_option linter.all false
set_option maxRecDepth 100000
/-! ### range of any bounds; math.lcm; min and max of a list -/
namespace Z
open PySem PySem.Spec
      PyProof.Rows L2
theorem turn_long {P : Program} {w : World} {K : PySem.W.Frag} {tg : Expr} (it : Addr) (lo : Int) (n : Nat) : Turn P w K tg (Itr lo n) [it] it (fun i h => IsLongIter h it (lo + (i : Nat) * 1) ((n : Int) - (i : Nat)) 1) where
  mem := by simp
  obj := fun i h st b hb => by
    have e : b = it :=
          by simpa using hb
    subst e
    exact ⟨_, st, fun v z => by
      have z' : Data.fields
            _ = Data.cell v := z
      cases z'⟩
  keep := fun i h h' st k
        => k it (by simp) _ st
  item := by
    intro X hP hw hK hc i
          pins s σ H E I hf st hg
    subst hP hw hK
    obtain ⟨f0, f1, f2, f3,
          f4, f5⟩ := hf it (by simp)
    have W := Walks.longrange (prog := X.prog) (w := X.w) (I.ok.hd hc) it lo 1 n
    refine W.item i s _ _ hg st
          fun v h' tk hv st' kk => ?_
    obtain ⟨t, rfl⟩ := hv
    have I1 : Inv X pins σ H {
          s with heap := h', toks := tk } := I.turned (fun b o hb e => kk b o (by simpa using hb) e) f0 f1 f3 f4 f5
    refine ⟨_, rfl, go_of (s := { s with heap := h', toks := tk }) (n := "longrange_iterator") st' rfl rfl (by decide) ⟨.int (lo + i), H, I1, ⟨t, ?_⟩, ⟨rfl, rfl⟩, st', fun b hb => (hf b hb).1⟩⟩
    rw [Int.mul_one]
  done := by
    intro X hP hw hK hc i
          pins s σ H E I hf st hg
    subst hP hw hK
    obtain ⟨f0, f1, f2, f3,
          f4, f5⟩ := hf it (by simp)
    exact wpAny_pyNext_long_end (I.ok.hd hc) st (by have : n ≤ i := hg; omega) fun h' eb => ⟨rfl, I.turned (t' := s.toks) (fun b o hb e => eb b o hb e) f0 f1 f3 f4 f5⟩
  self := fun _ _ _ _ _ st h => wpAny_pyIter_longiter st h
section
variable {X : Cx} {tg : Expr}
theorem range_itG {pins : List (Addr × Obj)} {σ : L2.St} {H : Hp} {s : Shared} {R : It → Hp → Prop} {E : Value → Shared → Prop} {lo hi : Int} {t u v : Tok} {tk : Nat} (I : Inv X pins σ H s)
    (q : R (Itr lo (hi - lo).toNat) H) : wpAny (model X.prog X.w) X.A (pyIter (.ref s.heap.objs.size)) (PIE X pins σ tg R) E {
          s with heap := s.heap.push { cls := .type "range", data := .fields #[.int lo t, .int hi u, .int 1 v] }, toks := tk } := by
  cases hs : Builtin.Range.small lo hi 1 with
  | true =>
    refine wpAny_pyIter_range (IsRange.new ..) hs ?_
    have I1 : Inv X pins σ H {
          s with heap := s.heap.push { cls := .type "range", data := .fields #[.int lo t, .int hi u, .int 1 v] }, toks := tk } := I.kept fun b o e => Heap.get?_push_of_some _ e
    refine pi_one (tk := tk) I1 _ (turn_range _ lo (hi - lo).toNat) ?_ q
    have e1 : lo + ((0 : Nat) : Int) * 1 = lo := by simp
    have e2 : (((hi - lo).toNat : Nat) : Int) - ((0 : Nat) : Int) =
          Builtin.Range.rangeSize lo hi 1 := by rw [rangeSize_one]; split <;> omega
    show IsRangeIter _ _ (lo + ((0 : Nat) : Int) * 1)
          ((((hi - lo).toNat : Nat) : Int) - ((0 : Nat) : Int)) 1
    rw [e1, e2]
    exact Heap.get?_push_size
          _ rfl
  | false =>
    refine wpAny_pyIter_longrange (IsRange.new ..) hs ?_
    have I1 : Inv X pins σ H {
          s with heap := s.heap.push { cls := .type "range", data := .fields #[.int lo t, .int hi u, .int 1 v] }, toks := tk } := I.kept fun b o e => Heap.get?_push_of_some _ e
    refine pi_one (tk := tk) I1 _ (turn_long _ lo (hi - lo).toNat) ?_ q
    have e1 : lo + ((0 : Nat) : Int) * 1 = lo := by simp
    have e2 : (((hi - lo).toNat : Nat) : Int) - ((0 : Nat) : Int) =
          Builtin.Range.rangeSize lo hi 1 := by rw [rangeSize_one]; split <;> omega
    show IsLongIter _ _ (lo + ((0 : Nat) : Int) * 1) ((((hi - lo).toNat : Nat) : Int) - ((0 : Nat) : Int)) 1
    rw [e1, e2]
    exact Heap.get?_push_size
          _ rfl
def iRngG (ta : TA) : TI := fun σ H R => ta σ H fun vs H1 => ∃ i j : Int, vs = [.int i, .int j] ∧ R (Itr i (j - i).toNat) H1
/-- for .. in range(a, b), numbers of any size -/
theorem pi_rangeG {a b : Expr} {ta : TA} {p pos : Pos} (hg : Gl X "range") (hm : X.mg "range" = none) (ha : PA X [a, b] ta) (hs : starEach [a, b] X.env = [(false, eval a X.env), (false, eval b X.env)] := by rfl) (hs2 : starEach [b] X.env = [(false, eval b X.env)] := by rfl) :
    PI X tg (.Call (.Name "range" p) [a, b] [] pos) (iRngG ta) := by
  refine ⟨fun pins
        s σ H R I h => ?_⟩
  refine Call_ (ld_blt I hg hm boot_range (PyProof.Rows.callWith_type1 (thn (ha.run pos pins
        s σ H _ I h) fun us s1 ⟨vs, H1, I1, r1, q1⟩ => ?_) (by rw [hs, hs2]) (by rw [hs2]; rfl)))
  obtain ⟨i, j, e, q⟩ := q1
  subst e
  cases r1 with
  | cons r rr =>
    cases rr with
    | cons r' rr =>
      cases rr
      obtain ⟨t, rfl⟩ := r
      obtain ⟨t', rfl⟩ := r'
      exact call_range_2 (range_itG I1 q)
def rLcm : List V → Hp → VK → Prop := fun vs H Q => ∃ a b : Int, vs = [.int a, .int b] ∧ a.natAbs < 2 ^ 64 ∧ b.natAbs < 2 ^ 64 ∧ Q (.int ((Nat.lcm a.natAbs b.natAbs : Nat) : Int)) H
theorem cr_lcm : CallR X (.builtin "math.lcm") rLcm := by
  intro pins s σ
        H vs us Q I r h
  obtain ⟨a, b, rfl, ha, hb, q⟩ := h
  obtain ⟨t, u, rfl⟩
        := Vals.int2 r
  exact PySem.W.mc_lcm ha hb fun _ => ⟨.int _, H, I.tok _, ⟨_, rfl⟩, q⟩
end
section
variable {K : PySem.W.Frag} {H : Hp} {Q : VK} {σ : L2.St} {ta : TA} {RI : It → Hp → Prop}
def GoRG (vs : List V) (H : Hp) (R : It → Hp → Prop) : Prop := ∃ i j : Int, vs = [.int i, .int j] ∧ R (Itr i (j - i).toNat) H
theorem wIRG (h : ta σ H fun vs H1 => GoRG vs H1 RI) : iRngG ta σ H RI := h
theorem wGoRG {i j : Int} (h : RI (Itr i (j - i).toNat) H) : GoRG [.int i, .int j] H RI := ⟨i, j, rfl, h⟩
theorem wLcm {a b : Int} (ha : a.natAbs < 2 ^ 64) (hb : b.natAbs < 2 ^ 64) (h : Q (.int ((Nat.lcm a.natAbs b.natAbs : Nat) : Int)) H) : rLcm [.int a, .int b] H Q := ⟨a, b, rfl, ha, hb, h⟩
theorem wMinL {a : Addr} {ns : List Int} (s : SqL K H a (ns.map V.int)) (n : 0 < ns.length) (h : ∀ m, m ∈ ns → (∀ y, y ∈ ns → m ≤ y) → Q (.int m) H) : rMin K [.ref a] H Q := ⟨a, ns, rfl, s, n, h⟩
theorem wMaxL {a : Addr} {ns : List Int} (s : SqL K H a (ns.map V.int)) (n : 0 < ns.length) (h : ∀ m, m ∈ ns → (∀ y, y ∈ ns → y ≤ m) → Q (.int m) H) : rMax K [.ref a] H Q := ⟨a, ns, rfl, s, n, h⟩
end
end Z

set_option Elab.async false
set_option linter.all false
set_option maxRecDepth 100000
set_option maxHeartbeats 2000500
/-! ### zip of a list or a tuple with a list or a tuple; len of an own instance -/
namespace Z
open PySem PySem.Spec
      PyProof.Rows L2
inductive Sd where | l | t
def Sd.seq : Sd → PySem.W.Frag → Hp → Addr → List V → Prop
  | .l => SqL
  | .t => SqT
def Sd.isIt : Sd → Heap → Addr → Addr → Nat → Prop
  | .l => fun h it a i => h.IsListIter it a i
  | .t => fun h it a i => h.IsTupleIter it a i
def Sd.holds : Sd → Heap → Addr → Array Value → Prop
  | .l => fun h a its => h.IsList a its
  | .t => fun h a its => h.IsTuple a its
def Sd.obj : Sd → Addr → Obj
  | .l => fun a => { cls := .type "list_iterator", data := .fields #[.ref a, .int 0 0] }
  | .t => fun a => { cls := .type "tuple_iterator", data := .fields #[.ref a, .int 0 0] }
theorem Sd.draws (k : Sd) {prog : Program} {w : World} {A : Around} (hh : A.handled = none) (it a : Addr) (n : a ≠ it) (its : Array Value) :
    Draws prog w A it [it, a] its.size (fun i v => its[i]? = some v) (fun i h => k.isIt h it a i ∧ k.holds h a its) := by
  cases k with
  | l => exact Draws.list hh it a n its
  | t => exact Draws.tuple hh it a n its
theorem Sd.begins (k : Sd) (a : Addr) (its : Array Value) : Begins (.ref a) (k.obj a) fun h => k.holds h a its := by
  cases k with
  | l => exact begins_list a its
  | t => exact begins_tuple a its
theorem Sd.isIt_at (k : Sd) {h h' : Heap} {it a : Addr} {i : Nat} (x : k.isIt h it a i) (e : ∀ o, h.get? it = some o → h'.get? it = some o) : k.isIt h' it a i := by
  cases k with
  | l => exact Heap.IsListIter.at x e
  | t => exact Heap.IsTupleIter.at x e
theorem Sd.isIt_new (k : Sd) {h : Heap} {it a : Addr} (e : h.get? it = some (k.obj a)) : k.isIt h it a 0 := by
  cases k with
  | l => exact ⟨_, e, rfl, rfl⟩
  | t => exact ⟨_, e, rfl, rfl⟩
theorem Sd.isIt_obj (k : Sd) {h : Heap} {it a : Addr} {i : Nat} (x : k.isIt h it a i) : ∃ o, h.get? it = some o ∧ ∀ v, o.data ≠ Data.cell v := by
  cases k with
  | l => obtain ⟨o, e, _, d⟩ := x; exact ⟨o, e, fun v q => by rw [d] at q; cases q⟩
  | t => obtain ⟨o, e, _, d⟩ := x; exact ⟨o, e, fun v q => by rw [d] at q; cases q⟩
section
variable {X : Cx} {pins : List (Addr ×
      Obj)} {σ : L2.St} {H : Hp} {s : Shared}
theorem Sd.have (k : Sd) {a : Addr} {xs : List V} (I : Inv X pins σ H s) (q : k.seq X.K H a xs) : ∃ its : List Value, Vals xs its ∧ k.holds s.heap a its.toArray ∧ a < s.heap.objs.size := by
  cases k with
  | l =>
    obtain ⟨its, rv, p, _⟩ := I.list q
    exact ⟨its, rv, p.isList, p.lt⟩
  | t =>
    obtain ⟨its, rv, p, _⟩ := I.tuple q
    obtain ⟨o1, ho1, _⟩ := id p
    exact ⟨its, rv, p, Heap.lt_size ho1⟩
theorem Sd.inj (k : Sd) {a : Addr} {xs ys : List V} (I : Inv X pins σ H s) (q : k.seq X.K H a xs) (q' : k.seq X.K H a ys) : xs = ys := by
  cases k with
  | l => exact I.list_inj q q'
  | t => exact I.tuple_inj q q'
end
/-- the two as they stand at each turn, the items in new pairs -/
def ItzG (K : PySem.W.Frag) (ka kb : Sd) (a b : Addr) : It :=
  ⟨fun i H => ∃ (xs ys : List V) (x y : V), ka.seq K H a xs ∧ kb.seq K H b ys ∧ xs[i]? = some x ∧ ys[i]? = some y,
    fun i H v H' => ∃ T x y, v = .ref T ∧ H T = none ∧ H' = upd H T (.tup [x, y]) ∧ (∀ xs, ka.seq K H a xs → xs[i]? = some x) ∧ ∀ ys, kb.seq K H b ys → ys[i]? = some y,
    fun i H => ∃ xs ys : List V, ka.seq K H a xs ∧ kb.seq K H b ys ∧ i ≤ xs.length ∧ i ≤ ys.length ∧ (i = xs.length ∨ i = ys.length)⟩
theorem turn_zipG {P : Program} {w : World} {K : PySem.W.Frag} {elts : List Expr} {kk : Nat} {tpos : Pos} {ka kb : Sd} {a b z TI TO i1 i2 : Addr} (S : ZipSep2 z TI TO i1 i2 [i1, a] [i2, b]) (n1 : a ≠ i1) (n2 : b ≠ i2) :
    Turn P w K (.Tuple elts kk tpos) (ItzG K ka kb a b) [z, TI, TO, i1, i2] z (fun i h => IsZip h z TI TO .none ∧ IsTupOf2 h TI (.ref i1) (.ref i2) ∧ (∃ x y, IsTupOf2 h TO x y) ∧ ka.isIt h i1 a i ∧ kb.isIt h i2 b i) where
  mem := by simp
  obj := fun i h st c hc => by
    obtain ⟨hz, hTI, ⟨x,
          y, hTO⟩, h1, h2⟩ := st
    simp only [List.mem_cons, List.not_mem_nil, or_false] at hc
    rcases hc with rfl | rfl | rfl | rfl | rfl
    · exact ⟨_, hz, fun v q => nomatch q⟩
    · exact ⟨_, hTI, fun v q => nomatch q⟩
    · exact ⟨_, hTO, fun v q => nomatch q⟩
    · exact ka.isIt_obj h1
    · exact kb.isIt_obj h2
  keep := fun i h h' st k => by
    obtain ⟨hz, hTI, ⟨x,
          y, hTO⟩, h1, h2⟩ := st
    exact ⟨k z (by simp) _ hz, k TI (by simp) _ hTI, ⟨x, y, k TO (by simp) _ hTO⟩, ka.isIt_at h1 fun o q => k i1 (by simp) o q, kb.isIt_at h2 fun o q => k i2 (by simp) o q⟩
  item := by
    intro X hP hw hK hc i
          pins s σ H E I hf st hg
    subst hP hw hK
    obtain ⟨hz, hTI, ⟨x0,
          y0, hTO⟩, h1, h2⟩ := st
    obtain ⟨xs, ys, x, y,
          hqx, hqy, hx, hy⟩ := hg
    obtain ⟨its, rv, p, la⟩ := ka.have I hqx
    obtain ⟨its2, rv2, p2, lb⟩ := kb.have I hqy
    obtain ⟨u, hu,
          ru⟩ := rv.get hx
    obtain ⟨u2, hu2,
          ru2⟩ := rv2.get hy
    have hzl : z < s.heap.objs.size
          := Heap.lt_size hz
    have il := (List.getElem?_eq_some_iff.mp hu).1
    have il2 := (List.getElem?_eq_some_iff.mp hu2).1
    refine wpAny_pyNext_zipD2_item S (ka.draws (by exact (I.ok.hd hc)) i1 a n1 its.toArray) (kb.draws (by exact (I.ok.hd hc)) i2 b n2 its2.toArray) hz hTI hTO ⟨h1, p⟩ ⟨h2, p2⟩ (by simpa using il) (by simpa using il2) fun v1 v2 h' tk e1 e2 z' TO' h1' h2' hT hsz hk => ?_
    obtain rfl : v1 = u := by
      have a1 : its.toArray[i]? = some u := by simpa using hu
      exact Option.some.inj (e1.symm.trans a1)
    obtain rfl : v2 = u2 := by
      have a1 : its2.toArray[i]? = some u2 := by simpa using hu2
      exact Option.some.inj (e2.symm.trans a1)
    refine ⟨_, rfl, wpAny_letOwnedTupleGo_zip (s := { s with heap := h', toks := tk }) z' fun h'' z'' sb => ?_⟩
    have hT2 : h''.get? s.heap.objs.size = some { cls := .type "tuple", data := .seq #[v1, v2] } := (sb.2 _ (Nat.ne_of_gt hzl)).trans hT
    have new : ObjOk X.prog X.w (upd H s.heap.objs.size
          (.tup [x, y])) h'' s.heap.objs.size (.tup [x, y]) :=
      ⟨by show 2 ≤ sizeLine; decide, [v1, v2], .cons ru (.cons ru2 .nil), ⟨_, hT2, rfl, _, rfl⟩⟩
    have I1 : Inv X pins σ (upd H s.heap.objs.size (.tup [x, y])) { s with heap := h'', toks := tk } :=
      I.turnedNew (t' := tk) (ch := [z, TI, TO, i1, i2]) (fun c o hb q => (sb.2 c (fun e => hb (by simp [e]))).trans (hk c o (fun e => hb (by simp [e])) (fun e => hb (by simp [e])) (fun e => hb (by simp [e])) (fun e => hb (by simp [e])) q)) hf (Nat.le_refl _) new
    refine ⟨.ref s.heap.objs.size, _, I1, rfl, ⟨_, x, y, rfl, I.hok.fresh (Nat.le_refl _), rfl, fun l hl => by rw [ka.inj I hl hqx]; exact hx, fun l hl => by rw [kb.inj I hl hqy]; exact hy⟩, ⟨z'', ?_, ⟨v1, v2, ?_⟩, ?_, ?_⟩, fun c hcm => ?_⟩
    · exact (sb.2 _ S.TIz).trans (hk _ _ S.TIz S.TITO S.TIi1 S.TIi2 hTI)
    · exact (sb.2 _ S.TOz).trans TO'
    · exact ka.isIt_at h1'.1 fun o q => (sb.2 _ (Ne.symm S.zi1)).trans q
    · exact kb.isIt_at h2'.1 fun o q => (sb.2 _ (Ne.symm S.zi2)).trans q
    · have hlt : c <
          s.heap.objs.size := by
        simp only [List.mem_cons, List.not_mem_nil, or_false] at hcm
        rcases hcm with rfl | rfl | rfl | rfl | rfl
        · exact hzl
        · exact Heap.lt_size hTI
        · exact Heap.lt_size hTO
        · obtain ⟨_, e1, _⟩ := ka.isIt_obj h1; exact Heap.lt_size e1
        · obtain ⟨_, e2, _⟩ := kb.isIt_obj h2; exact Heap.lt_size e2
      rw [upd_ne
            (Nat.ne_of_lt hlt)]
      exact (hf c hcm).1
  done := by
    intro X hP hw hK hc i
          pins s σ H E I hf st hg
    subst hP hw hK
    obtain ⟨hz, hTI, ⟨x0,
          y0, hTO⟩, h1, h2⟩ := st
    obtain ⟨xs, ys, hqx, hqy, g1, g2, g3⟩ := hg
    obtain ⟨its, rv, p, _⟩ := ka.have I hqx
    obtain ⟨its2, rv2, p2, _⟩ := kb.have I hqy
    have l1 := rv.length
    have l2 := rv2.length
    exact wpAny_pyNext_zipD2_end S (ka.draws (by exact (I.ok.hd hc)) i1 a n1 its.toArray) (kb.draws (by exact (I.ok.hd hc)) i2 b n2 its2.toArray) hz hTI hTO ⟨h1, p⟩ ⟨h2, p2⟩ (by simp; omega) (by simp; omega) (by simp; omega)
      fun h' tk hk => ⟨rfl, I.turnedL (t' := tk) (ch := [z, TI, TO, i1, i2]) (fun c o hb q => hk c o (fun e => hb (by simp [e])) (fun e => hb (by simp [e])) (fun e => hb (by simp [e])) (fun e => hb (by simp [e])) q) hf⟩
  self := fun A i s Q E st h
        => wpAny_pyIter_zip st.1 h
def iZipG (K : PySem.W.Frag) (ta : TA) : TI := fun σ H R => ta σ H fun vs H1 => ∃ a b ka kb xs ys, vs = [.ref a, .ref b] ∧ Sd.seq ka K H1 a xs ∧ Sd.seq kb K H1 b ys ∧ R (ItzG K ka kb a b) H1
theorem pi_zipG {X : Cx} {e e2 : Expr} {ta : TA} {p pos tpos : Pos} {elts : List Expr} {kk : Nat} (hg : Gl X "zip") (hm : X.mg "zip" = none) (ha : PA X [e, e2] ta)
    (hs : starEach [e, e2] X.env = (false, eval e X.env) :: starEach [e2] X.env :=
          by rfl) (hpl : (backTo pos (starEach [e2] X.env)).any (·.1) = false := by rfl) :
    PI X (.Tuple elts kk tpos) (.Call (.Name "zip" p) [e, e2] [] pos) (iZipG X.K ta) := by
  refine ⟨fun pins
        s σ H R I h => ?_⟩
  refine Call_ (ld_blt I hg hm PyProof.Rows.boot_zip (PyProof.Rows.callWith_type1
        (thn (ha.run pos pins s σ H _ I h) fun us s1 ⟨vs, H1, I1, r1, q1⟩ => ?_) hs hpl))
  obtain ⟨a, b, ka, kb, xs, ys, ex, hqx, hqy, q⟩ := q1
  subst ex
  cases r1 with
  | cons r rr =>
    cases rr with
    | cons r' rr =>
      cases rr
      cases r
      cases r'
      obtain ⟨its, rv, p1, la⟩ := ka.have I1 hqx
      obtain ⟨its2, rv2, p2, lb⟩ := kb.have I1 hqy
      refine zip_begins2 (ka.begins a its.toArray) (kb.begins b its2.toArray) p1 p2 fun h' hz hTI hTO h1 h2 hsz hk => wpAny_pyIter_zip hz ?_
      have I2 : Inv X pins σ H1 {
            s1 with heap := h' } := I1.kept (t' := s1.toks) hk
      refine ⟨s1.heap.objs.size + 4, [s1.heap.objs.size + 4, s1.heap.objs.size + 2, s1.heap.objs.size + 3, s1.heap.objs.size, s1.heap.objs.size + 1], _, _, H1, rfl, I2,
        turn_zipG (zip_sep2 (fp1 := [a]) (fp2 := [b]) (by simpa using la) (by simpa using lb)) (Nat.ne_of_lt la) (Nat.ne_of_lt (Nat.lt_succ_of_lt lb)), ⟨hz, hTI, ⟨_, _, hTO⟩, ka.isIt_new h1, kb.isIt_new h2⟩, fun c hcm => ?_, q⟩
      have hle :
            s1.heap.objs.size ≤ c := by
        simp only [List.mem_cons, List.not_mem_nil, or_false] at hcm
        rcases hcm with e | e | e | e | e
        · rw [e]; exact Nat.le_add_right _ _
        · rw [e]; exact Nat.le_add_right _ _
        · rw [e]; exact Nat.le_add_right _ _
        · rw [e]; exact Nat.le_refl _
        · rw [e]; exact Nat.le_add_right _ _
      exact I1.fpOk hle
            (I1.hok.fresh hle)
theorem walk_zipG {K : PySem.W.Frag} {ka kb : Sd} {a b : Addr} {xs ys : List V} {n : Nat} (hn : n = min xs.length ys.length) :
    Walk (ItzG K ka kb a b) n (fun H => ka.seq K H a xs ∧ kb.seq K H b ys) (YPair (fun i => xs[i]?) (fun i => ys[i]?)) := by
  refine ⟨fun i _ hi q => ⟨xs, ys, xs[i]'(by omega), ys[i]'(by omega), q.1, q.2, by simp, by simp⟩, fun _ q => ⟨xs, ys, q.1, q.2, by omega, by omega, by omega⟩, fun i H v H' _ q y => ?_⟩
  obtain ⟨T, x, y, h1, h2, h3, h4, h5⟩ := y
  exact ⟨T, x, y, h1, h2, h3, h4 xs q.1, h5 ys q.2⟩
theorem SeqIs.side {L : List En} {v : V} {xs : List V} (s : SeqIs L v (some xs)) : ∃ (k : Sd) (a : Addr), v = .ref a ∧ ∀ K H L', Fx H L' → (∀ p o, En.ob p o ∈ L → En.ob p o ∈ L') → Sd.seq k K H a xs := by
  cases s with
  | @lst a xs m => exact ⟨.l, a, rfl, fun K H L' F s => F.lst (s _ _ m)⟩
  | @tup a xs m => exact ⟨.t, a, rfl, fun K H L' F s => F.tup (s _ _ m)⟩
section
variable {K : PySem.W.Frag} {H : Hp} {L : List En} {a b : V} {xs ys : List V} {RI : It → Hp → Prop} {σ : L2.St} {ta : TA} {g : TG} {tb : TS} {nx : L2.St → Hp → Prop} {rt : VK}
def GoZG (K : PySem.W.Frag) (vs : List V) (H : Hp) (R : It → Hp → Prop) : Prop := ∃ a b ka kb xs ys, vs = [.ref a, .ref b] ∧ Sd.seq ka K H a xs ∧ Sd.seq kb K H b ys ∧ R (ItzG K ka kb a b) H
theorem wIZG (h : ta σ H fun vs H1 => GoZG K vs H1 RI) : iZipG K ta σ H RI := h
/-- a for over zip of two sequences of the ledger -/
theorem wForZ (ha : SeqIs L a (some xs)) (hb : SeqIs L b (some ys)) (F : Fx H L) (Pv : Nat → L2.St → Hp → Prop) (h0 : Pv 0 σ H) (keep : ∀ i σ H', Pv i σ H' → ∃ L', Fx H' L' ∧ ∀ p o, En.ob p o ∈ L → En.ob p o ∈ L')
    (hs : ∀ i x y T σ H', xs[i]? = some x → ys[i]? = some y → Pv i σ H' → H' T = none → g (.ref T) σ (upd H' T (.tup [x, y])) fun σ2 H2 => tb ⟨Pv (i + 1), rt, nx, Pv (i + 1)⟩ σ2 H2) (hd : ∀ σ H', Pv (min xs.length ys.length) σ H' → nx σ H') :
    GoZG K [a, b] H fun J H1 => ∃ W : Nat → Nat → L2.St → Hp → Prop, (∃ m, W 0 m σ H1) ∧ ∀ i m σ H, W i m σ H →
      (J.stop i H ∧ nx σ H) ∨ (J.go i H ∧ ∃ N : L2.St → Hp → Prop, (∀ σ' H', N σ' H' → ∃ m', m' < m ∧ W (i + 1) m' σ' H') ∧ ∀ x H', J.yld i H x H' → g x σ H' fun σ2 H2 => tb ⟨N, rt, nx, N⟩ σ2 H2) := by
  obtain ⟨ka, p, rfl, qa⟩ := ha.side
  obtain ⟨kb, q, rfl, qb⟩ := hb.side
  refine ⟨p, q, ka, kb, xs, ys, rfl, qa K H L F (fun _ _ h => h), qb K H L F (fun _ _ h => h), wForW (walk_zipG (K := K) (xs := xs) (ys := ys) rfl) Pv h0 (fun i σ H' _ pv => ?_) ?_ hd⟩
  · obtain ⟨L', F', k⟩ := keep i σ H' pv
    exact ⟨qa K H' L' F' k, qb K H' L' F' k⟩
  · rintro i x σ H' H'' _ pv ⟨T, u, v, rfl, hT, rfl, e1, e2⟩
    exact hs i u v T σ H' e1 e2 pv hT
/-- a comprehension over zip of two sequences of the ledger -/
theorem wLcZG {te : TE} {tt : TT} {vs : List Nat} {QD : Addr → Hp → Prop} (ha : SeqIs L a (some xs)) (hb : SeqIs L b (some ys)) (F : Fx H L) (R : Nat → List V → List En → Prop) (h0 : R 0 [] L)
    (keep : ∀ i acc L', R i acc L' → ∀ p o, En.ob p o ∈ L → En.ob p o ∈ L')
    (hs : ∀ i x y T D H' acc L', xs[i]? = some x → ys[i]? = some y → R i acc L' → Fx H' (.ob T (.tup [x, y]) :: .ob D (.lst acc) :: L') → g (.ref T) (wipe σ vs) H' fun σ2 H2 => wipe σ2 vs = wipe σ vs ∧ tt σ2 H2 fun b H3 =>
      if b = true then te σ2 H3 fun y H4 => LcPut D R i y H4 else LcP D R (i + 1) H3)
    (hd : ∀ D acc L' H', Fx H' (.ob D (.lst acc) :: L') → R (min xs.length ys.length) acc L' → QD D H') :
    GoZG K [a, b] H fun J H1 => ∀ D, H1 D = none → ∃ W : Nat → Nat → Hp → Prop, (∃ m, W 0 m (upd H1 D (.lst []))) ∧ ∀ i m H, W i m H →
  (J.stop i H ∧ QD D H) ∨ (J.go i H ∧ ∃ Nx : Hp → Prop, (∀ H', Nx H' → ∃ m', m' < m ∧ W (i + 1) m' H') ∧ ∀ x H', J.yld i H x H' → g x (wipe σ vs) H' fun σ2 H2 => wipe σ2 vs = wipe σ vs ∧ tt σ2 H2 fun b H3 =>
    if b = true then te σ2 H3 fun y H4 => ∃ acc, H4 D = some (.lst acc) ∧
          acc.length < sizeLine ∧ Nx (upd H4 D (.lst (acc ++ [y]))) else Nx H3) := by
  obtain ⟨ka, p, rfl, qa⟩ := ha.side
  obtain ⟨kb, q, rfl, qb⟩ := hb.side
  refine ⟨p, q, ka, kb, xs, ys, rfl, qa K H L F (fun _ _ h => h), qb K H L F (fun _ _ h => h), wLcW (walk_zipG (K := K) (xs := xs) (ys := ys) rfl) F R h0 (fun i acc L' D H' r F' => ?_) ?_ hd⟩
  · have k := keep i acc L' r
    exact ⟨qa K H' _ F' fun p o m => .tail _ (k p o m), qb K H' _ F' fun p o m => .tail _ (k p o m)⟩
  · rintro i x D H' H'' acc L' _ r F' ⟨T, u, v, rfl, hT, rfl, e1, e2⟩
    exact hs i u v T D _ acc L' e1 e2 r (F'.new hT)
end
/-! ### len(x), an own __len__ -/
structure OwnLenF (K : PySem.W.Frag) (C f : Addr) : Prop where
  len : PySem.W.findIn K (.ref C) "__len__" = some (some (.ref f))
  fn : PySem.W.typeIn K (.ref f) = some (.type "function")
def rLenOwn (K : PySem.W.Frag) (C : Addr) (sp : Sp) : List V → Hp → VK → Prop := fun vs H Q => ∃ a dx fs, vs = [.ref a] ∧ H a = some (.ins C dx fs) ∧ sp [.ref a] H (fun v H' => ∃ n : Int, v = .int n ∧ 0 ≤ n ∧ n < 2 ^ 63 ∧ Q (.int n) H') E0
section
variable {X : Cx} {k : Nat} {C f : Addr} {fd : FuncData} {ps : List Str} {sp : Sp}
theorem own_call1 {A : Around} {pins : List (Addr × Obj)} {σ : L2.St} {H : Hp} {s : Shared} {Q : VK} {x : V} {u : Value} (F : FnOk X.prog X.w X.K X.mg X.base CX0 k f fd ps sp) (hb : Binds X.K fd ps []) (hr : Room k A) (hf : A.frames = X.A.frames)
    (I : L2.Inv X pins σ H s) (rx : RelV x u) (h : sp [x] H Q E0) : wpAny (model X.prog X.w) A (call (.ref f) [u]) (EP X pins σ Q) X.xe s := by
  have e0 : Env0 X.prog X.w X.K
        X.mg X.base A X.stack s H := by
    have e := I.env0
    exact ⟨by rw [hf]; exact e.frames, e.mod, e.bs, e.bsz, e.funs, e.frf, e.hok, e.bare⟩
  have hl := F.len _ _ _ _ h
  have r2 : Vals [x] [u] := .cons rx .nil
  refine wpAny_call (codeAny_mono (F.run A X.stack s H ⟨[u], []⟩ [u] [x] _ E0 hr e0 (by
    have := hb s [u] I.kIn (by simpa using hl)
    simpa using this) r2 h) fun r s' hq => ?_)
  cases r with
  | error e => exact
        False.elim hq
  | ok fl =>
    cases fl with
    | ret w => exact I.after hq
    | next => exact False.elim hq
    | brk => exact False.elim hq
    | cont => exact False.elim hq
theorem cr_lenOwn (F : FnOk X.prog X.w X.K X.mg X.base CX0 k f fd ps sp) (q : OwnLenF X.K C f) (hb : Binds X.K fd ps []) (hr : Room (k + 1) X.A) : CallR X (.builtin "len") (rLenOwn X.K C sp) := by
  intro pins s σ
        H vs us Q I r h
  obtain ⟨a, dx, fs, rfl, ha, hsp⟩ := h
  obtain ⟨u, rfl,
        ru⟩ := vals1 r
  obtain rfl : u =
        Value.ref a := ru
  obtain ⟨mA, J, _⟩
        := ins_get I.hok ha
  obtain ⟨od, J, _⟩ := J.look
  refine PySem.Calls.call_function_entry PySem.kind_len PySem.plain_len PySem.entry_len (PySem.args_len1 _) ?_
  unfold Builtin.«len»
  refine wpAny_bind (m := oneArg
        "len" _) (wpAny_pure ?_)
  refine wpAny_bind (m := callSpecial? (.ref a) (Str.ofString "__len__")) (PySem.W.special_fn I.kIn J q.len q.fn (wpAny_mono (own_call1 F hb hr.in1 rfl I (show RelV (V.ref a) (Value.ref a) from rfl) hsp) (fun v s' z => ?_) fun _ _ e => e))
  obtain ⟨v', H', I', rv, n, en, h0, h1, hq⟩ := z
  subst en
  obtain ⟨t, rfl⟩ := rv
  refine wpAny_bind
        (wpAny_holding (wpAny_pure ?_))
  refine wpAny_bind
        (wpAny_letGo ?_)
  show wpAny _ _ (if n <
        0 then _ else _) _ _ _
  rw [if_neg (by omega)]
  show wpAny _ _ (if n ≥ 2
        ^ 63 then _ else _) _ _ _
  rw [if_neg (by omega)]
  exact wpAny_bind (wpAny_mkInt (wpAny_pure ⟨_, rfl, .int n, H', I'.tok _, ⟨_, rfl⟩, hq⟩))
def LenO (P : Program) (w : World) (K : PySem.W.Frag) (mg : Str → Option Value) (base : Heap) (C : Addr) (k : Nat) (ps : List Str) (sp : Sp) : Prop := ∃ (f : Addr) (fd : FuncData), OwnLenF K C f ∧ Binds K fd ps [] ∧ FnOk P w K mg base CX0 k f fd ps sp
theorem cr_lenO (O : LenO X.prog X.w X.K X.mg X.base C k ps sp) (hr : Room (k + 1) X.A) : CallR X (.builtin "len") (rLenOwn X.K C sp) := by
  obtain ⟨f, fd, q, b, F⟩ := O
  exact cr_lenOwn F q b hr
theorem wLenOwn {K : PySem.W.Frag} {H : Hp} {Q : VK} {a dx : Addr} {fs : List (Str × V)} (ha : H a = some (.ins C dx fs)) (h : sp [.ref a] H (fun v H' => ∃ n : Int, v = .int n ∧ 0 ≤ n ∧ n < 2 ^ 63 ∧ Q (.int n) H') E0) : rLenOwn K C sp [.ref a] H Q := ⟨a, dx, fs, rfl, ha, h⟩
end
/-! ### two lists, place by place -/
structure Al2 {α β : Type} (R : α → β → Prop) (xs : List α) (ys : List β) : Prop where
  len : xs.length = ys.length
  get : ∀ (i : Nat) (x : α) (y : β), xs[i]? = some x → ys[i]? = some y → R x y
section
variable {α β : Type} {R R' : α → β → Prop} {xs xs' : List α} {ys ys' : List β} {x : α} {y : β} {i : Nat}
theorem Al2.nil : Al2 R ([] : List α) ([] : List β) := ⟨rfl, fun i x y e => by simp at e⟩
theorem Al2.mono (h : Al2 R xs ys) (k : ∀ x y, R x y → R' x y) : Al2 R' xs ys := ⟨h.len, fun i x y e e' => k x y (h.get i x y e e')⟩
theorem Al2.getL (h : Al2 R xs ys) (e : xs[i]? = some x) : ∃ y, ys[i]? = some y ∧ R x y := by
  have hi := (List.getElem?_eq_some_iff.mp e).1
  have hy : ys[i]? = some (ys[i]'(by rw [← h.len]; exact hi)) := List.getElem?_eq_getElem _
  exact ⟨_, hy, h.get i x _ e hy⟩
theorem Al2.getR (h : Al2 R xs ys) (e : ys[i]? = some y) : ∃ x, xs[i]? = some x ∧ R x y := by
  have hi := (List.getElem?_eq_some_iff.mp e).1
  have hx : xs[i]? = some (xs[i]'(by rw [h.len]; exact hi)) := List.getElem?_eq_getElem _
  exact ⟨_, hx, h.get i _ y hx e⟩
theorem Al2.app (h : Al2 R xs ys) (h' : Al2 R xs' ys') : Al2 R (xs ++ xs') (ys ++ ys') := by
  refine ⟨by rw [List.length_append, List.length_append, h.len, h'.len], fun i x y e e' => ?_⟩
  by_cases hi : i < xs.length
  · rw [List.getElem?_append_left hi] at e
    rw [List.getElem?_append_left (by rw [← h.len]; exact hi)] at e'
    exact h.get i x y e e'
  · rw [List.getElem?_append_right (by omega)] at e
    rw [List.getElem?_append_right (by rw [← h.len]; omega), ← h.len] at e'
    exact h'.get _ x y e e'
theorem Al2.one (r : R x y) : Al2 R [x] [y] := ⟨rfl, fun i a b e e' => by
  cases i with
  | zero => cases e; cases e'; exact r
  | succ i => simp at e⟩
theorem Al2.snoc (h : Al2 R xs ys) (r : R x y) : Al2 R (xs ++ [x]) (ys ++ [y]) := h.app (.one r)
theorem Al2.cons (r : R x y) (h : Al2 R xs ys) : Al2 R (x :: xs) (y :: ys) := (Al2.one r).app h
theorem Al2.take (h : Al2 R xs ys) (n : Nat) : Al2 R (xs.take n) (ys.take n) := by
  refine ⟨by rw [List.length_take, List.length_take, h.len], fun i x y e e' => ?_⟩
  by_cases hi : i < n
  · rw [List.getElem?_take_of_lt hi] at e e'
    exact h.get i x y e e'
  · rw [List.getElem?_take_eq_none (by omega)] at e
    cases e
theorem Al2.drop (h : Al2 R xs ys) (n : Nat) : Al2 R (xs.drop n) (ys.drop n) := by
  refine ⟨by rw [List.length_drop, List.length_drop, h.len], fun i x y e e' => ?_⟩
  rw [List.getElem?_drop] at e e'
  exact h.get _ x y e e'
theorem Al2.set (h : Al2 R xs ys) (r : R x y) (n : Nat) : Al2 R (xs.set n x) (ys.set n y) := by
  refine ⟨by rw [List.length_set, List.length_set, h.len], fun i a b e e' => ?_⟩
  by_cases hi : n = i
  · subst hi
    have h1 := (List.getElem?_eq_some_iff.mp e).1
    have h2 := (List.getElem?_eq_some_iff.mp e').1
    rw [List.length_set] at h1 h2
    rw [List.getElem?_set_self h1] at e
    rw [List.getElem?_set_self h2] at e'
    cases e
    cases e'
    exact r
  · rw [List.getElem?_set_ne hi] at e e'
    exact h.get i a b e e'
theorem Al2.rep (r : R x y) (n : Nat) : Al2 R (List.replicate n x) (List.replicate n y) := by
  refine ⟨by rw [List.length_replicate, List.length_replicate], fun i a b e e' => ?_⟩
  obtain ⟨_, rfl⟩ := List.getElem?_eq_some_iff.mp e
  obtain ⟨_, rfl⟩ := List.getElem?_eq_some_iff.mp e'
  simpa using r
end
/-- an entry of a sublist, brought to the front -/
theorem sub_front {α : Type} {e : α} {r : List α} : ∀ {L : List α}, (e :: r).Sublist L → ∃ L2, L.Perm (e :: L2) ∧ r.Sublist L2
  | _, .cons a h => by
    obtain ⟨L2, p, s⟩ := sub_front h
    exact ⟨a :: L2, (p.cons a).trans (.swap _ _ _), s.cons a⟩
  | _, .cons_cons _ h => ⟨_, .refl _, h⟩
def Sp5 (f : V → V → V → V → V → Hp → VK → XK → Prop) : Sp := fun vs H Q E => ∃ a b c d e, vs = [a, b, c, d, e] ∧ f a b c d e H Q E
end Z

set_option Elab.async false
set_option linter.all false
set_option maxRecDepth 100000
set_option maxHeartbeats 2000500
/-! ### slices -/
namespace Z
open PySem L2 RZ
theorem cut_mem {xs : List V} {lo hi : Option Int} {x : V} (h : x ∈ cutV xs lo hi) : x ∈ xs := by
  unfold cutV at h
  exact List.mem_of_mem_drop (List.mem_of_mem_take h)
theorem cut_ints (cs : List Int) (lo hi : Option Int) : ∃ ds : List Int, cutV (cs.map V.int) lo hi = ds.map V.int ∧ ds.length ≤ cs.length ∧ ∀ d ∈ ds, d ∈ cs := by
  refine ⟨(cs.drop (HT.sIx cs.length 0 lo)).take (HT.sIx cs.length cs.length hi - HT.sIx cs.length 0 lo), ?_, ?_, fun d h => List.mem_of_mem_drop (List.mem_of_mem_take h)⟩
  · unfold cutV
    rw [List.length_map, ← List.map_drop, ← List.map_take]
  · rw [List.length_take, List.length_drop]; omega
theorem cut_take {xs : List V} {k : Int} (h : 0 ≤ k) : cutV xs none (some k) = xs.take k.toNat := by
  obtain ⟨n, rfl⟩ := Int.eq_ofNat_of_zero_le h
  unfold cutV
  rw [HT.sIx_nat, HT.sIx_none, List.drop_zero, Nat.sub_zero, Int.toNat_natCast]
  by_cases hn : n ≤ xs.length
  · rw [Nat.min_eq_left hn]
  · rw [Nat.min_eq_right (by omega), List.take_length, List.take_of_length_le (by omega)]
theorem cut_drop {xs : List V} {k : Int} (h : 0 ≤ k) : cutV xs (some k) none = xs.drop k.toNat := by
  obtain ⟨n, rfl⟩ := Int.eq_ofNat_of_zero_le h
  unfold cutV
  rw [HT.sIx_nat, HT.sIx_none, Int.toNat_natCast]
  by_cases hn : n ≤ xs.length
  · rw [Nat.min_eq_left hn, List.take_of_length_le (by rw [List.length_drop]; exact Nat.le_refl _)]
  · rw [Nat.min_eq_right (by omega), Nat.sub_self, List.take_zero, List.drop_eq_nil_of_le (by omega)]
theorem cut_but {xs : List V} : cutV xs none (some (-1)) = xs.dropLast := by
  unfold cutV HT.sIx
  show List.take ((-1 + (xs.length : Int)).toNat - 0) (List.drop 0 _) = _
  rw [List.drop_zero, List.dropLast_eq_take, show (-1 + (xs.length : Int)).toNat - 0 = xs.length - 1 from by omega]
end Z
namespace Z
open PySem PySem.Spec
      PyProof.Rows L2
/-! ### max and min of a tuple of whole numbers -/
theorem maxI : ∀ (xs : List Int) (x : Int), PySem.W.maxOf x xs ∈ x :: xs ∧ ∀ y ∈ x :: xs, y ≤ PySem.W.maxOf x xs
  | [], x => ⟨List.mem_cons_self, fun y h => by cases List.mem_singleton.mp h; exact Int.le_refl _⟩
  | z :: r, x => by
    have lt : PySem.W.DatumOrd.lt x z = decide (x < z) := rfl
    have e : PySem.W.maxOf x (z :: r) = PySem.W.maxOf (if PySem.W.DatumOrd.lt x z = true then z else x) r := rfl
    rw [e, lt]
    by_cases h : x < z
    · rw [if_pos (decide_eq_true h)]
      obtain ⟨a, b⟩ := maxI r z
      refine ⟨List.mem_cons_of_mem _ a, fun y hy => ?_⟩
      have hz := b z List.mem_cons_self
      rcases List.mem_cons.mp
            hy with rfl | hy
      · omega
      · exact b y hy
    · rw [if_neg (by simpa using h)]
      obtain ⟨a, b⟩ := maxI r x
      refine ⟨?_, fun y hy => ?_⟩
      · rcases List.mem_cons.mp a with a | a
        · rw [a]; exact List.mem_cons_self
        · exact List.mem_cons_of_mem _ (List.mem_cons_of_mem _ a)
      · have hx := b x List.mem_cons_self
        rcases List.mem_cons.mp
              hy with rfl | hy
        · exact hx
        · rcases List.mem_cons.mp
              hy with rfl | hy
          · omega
          · exact b y (List.mem_cons_of_mem _ hy)
def rMaxT (K : PySem.W.Frag) : List V → Hp → VK → Prop := fun vs H Q => ∃ (a : Addr) (ns : List Int), vs = [V.ref a] ∧ SqT K H a (ns.map V.int) ∧ 0 < ns.length ∧ ∀ m, m ∈ ns → (∀ y, y ∈ ns → y ≤ m) → Q (.int m) H
theorem cr_maxT {X : Cx} (hc : X.calm = true) (hu : X.A.units + 1 < cLine) : CallR X (.builtin "max") (rMaxT X.K) := by
  intro pins s σ
        H vs us Q I r h
  obtain ⟨a, ns, rfl,
        hs, hne, q⟩ := h
  obtain ⟨its, rv, hl, _⟩ := I.tuple hs
  rw [Vals.ref1 r]
  cases ns with
  | nil => simp at hne
  | cons n ms =>
    obtain ⟨m1, m2⟩ := maxI ms n
    refine PySem.W.max_tuple_datum (α := Int) (x := n) (xs := ms) (I.ok.hd hc) (show s.heap.IsTuple a its.toArray from hl) (by simpa using PySem.W.HoldAll.of_ints rv.ints) hu fun i v h' tk _ hv hk => ?_
    obtain ⟨as, hv⟩ := hv
    cases hv
    exact ⟨.int _, H, I.kept hk, ⟨_, rfl⟩, q _ m1 m2⟩
theorem wMaxT {K : PySem.W.Frag} {H : Hp} {Q : VK} {a : Addr} {ns : List Int} (s : SqT K H a (ns.map V.int)) (n : 0 < ns.length) (h : ∀ m, m ∈ ns → (∀ y, y ∈ ns → y ≤ m) → Q (.int m) H) : rMaxT K [.ref a] H Q := ⟨a, ns, rfl, s, n, h⟩
/-! ### slices and sums of tuples, any -/
theorem opCatA {X : Cx} : OpR X (binaryOp .Add) (rCatA X.K) := op_catA
section
variable {K : PySem.W.Frag} {H : Hp} {L : List En} {a b : Addr} {v : V} {xs ys : List V} {lo hi : Option Int} {Q : VK}
theorem wSlTu (m : En.ob a (.tup xs) ∈ L) (F : Fx H L) (k : ∀ p H' L1, L.Sublist L1 → En.ob p (.tup (cutV xs lo hi)) ∈ L1 → Fx H' L1 → Q (.ref p) H') : rOrS (rSlL K) (rSlA K) (.ref a) lo hi H Q := by
  refine .inr ⟨_, xs, rfl, F.tup m, fun e => ?_, fun _ => ?_⟩
  · refine k a H L (.refl _) ?_ F
    rw [cut_whole e]
    exact m
  · exact wNewF F fun p H' F' => k p H' _ (.cons _ (.refl _)) List.mem_cons_self F'
theorem wSlLi (m : En.ob a (.lst xs) ∈ L) (F : Fx H L) (k : ∀ p H', Fx H' (.ob p (.lst (cutV xs lo hi)) :: L) → Q (.ref p) H') : rOrS (rSlL K) (rSlA K) (.ref a) lo hi H Q :=
  .inl ⟨_, xs, rfl, F.lst m, wNewF F k⟩
theorem wCatA (m : En.ob a (.tup xs) ∈ L) (m' : En.ob b (.tup ys) ∈ L) (l : xs.length + ys.length ≤ 1000000) (F : Fx H L) (k : ∀ p H' L1, L.Sublist L1 → En.ob p (.tup (xs ++ ys)) ∈ L1 → Fx H' L1 → Q (.ref p) H') : rCatA K (.ref a) (.ref b) H Q := by
  refine ⟨a, b, xs, ys, rfl, rfl, F.tup m, F.tup m', Nat.le_trans l line_big, fun e => ?_, fun e e' => ?_, fun _ _ => ?_⟩
  · subst e
    exact k b H L (.refl _) m' F
  · subst e'
    exact k a H L (.refl _) (by rw [List.append_nil]; exact m) F
  · exact wNewF F fun p H' F' => k p H' _ (.cons _ (.refl _)) List.mem_cons_self F'
theorem wListSq (hq : SeqIs L v (some xs)) (F : Fx H L) (k : ∀ p H', Fx H' (.ob p (.lst xs) :: L) → Q (.ref p) H') : rList K [v] H Q := by
  cases hq with
  | lst m => exact wListL (F.lst m) F k
  | tup m => exact wListT (F.tup m) F k
end
theorem units1 {n : Nat} {A : Around} (hr : Room (n + 1) A) : A.units + 1 < cLine := by have := hr.units; omega
theorem sum_rep (b : Int) : ∀ n : Nat, (List.replicate n b).sum = n * b
  | 0 => by simp
  | n + 1 => by rw [List.replicate_succ, List.sum_cons, sum_rep b n, Int.natCast_add, Int.add_mul]; omega
/-- what is no list, past a list -/
theorem mem_skip {L : List En} {a b : Addr} {o : HO} {xs : List V} (h : En.ob a o ∈ (En.ob b (.lst xs) :: L)) (n : ∀ ys, o ≠ .lst ys) : En.ob a o ∈ L := by
  rcases List.mem_cons.mp h with h | h
  · injection h with _ h
    exact absurd h (n xs)
  · exact h
theorem nodup_le : ∀ {l m : List Int}, l.Nodup → (∀ x ∈ l, x ∈ m) → l.length ≤ m.length
  | [], _, _, _ =>
        Nat.zero_le _
  | a :: l, m, hn, h => by
    have hm := h a List.mem_cons_self
    have h1 := nodup_le (l := l) (m := m.erase a) (List.nodup_cons.mp hn).2 fun x hx => (List.mem_erase_of_ne (fun e : x = a => (List.nodup_cons.mp hn).1 (by rw [← e]; exact hx))).mpr (h x (List.mem_cons_of_mem _ hx))
    rw [List.length_erase_of_mem hm] at h1
    have := List.length_pos_of_mem hm
    rw [List.length_cons]
    omega
end Z

set_option Elab.async false
set_option linter.all false
set_option maxRecDepth 100000
set_option
      maxHeartbeats 4000000
namespace M
open PySem L2 RZ
local macro_rules | `(tactic| walk_at "zm") => `(tactic| with_reducible first | exact List.mem_cons_self | assumption | (refine List.mem_cons_of_mem _ ?_; walk_at "zm"))
local macro_rules | `(tactic| walk_at "zp") => `(tactic| with_reducible first | exact Z.Put.head | (refine Z.Put.tail ?_; walk_at "zp"))
local macro_rules | `(tactic| walk_at "zo") => `(tactic| first | omega | (simp only [List.length_map, List.length_cons, List.length_nil, List.length_append, List.length_range] at *; omega))
local macro_rules | `(tactic| walk_at "zF") => `(tactic| with_reducible assumption)
local macro_rules | `(tactic| walk_at "zsq") => `(tactic| first | exact Z.Fx.lst (by walk_at "zF") (by walk_at "zm") | exact Z.Fx.tup (by walk_at "zF") (by walk_at "zm") | with_reducible assumption | exact Z.Fx.frz (by walk_at "zF") (by walk_at "zm"))
local macro_rules | `(tactic| walk_at "zsL") => `(tactic| first | exact Z.Fx.lst (by walk_at "zF") (by walk_at "zm") | with_reducible assumption | exact Z.Fx.frz (by walk_at "zF") (by walk_at "zm"))
local macro_rules | `(tactic| walk_at "zsT") => `(tactic| first | exact Z.SqT.of (Z.Fx.get (by walk_at "zF") (by walk_at "zm")) | with_reducible assumption)
local macro_rules | `(tactic| walk_at "zcm") => `(tactic| first | exact Or.inr ⟨by decide, by decide⟩ | exact Or.inl ⟨by decide, by decide⟩ | exact Or.inl ⟨by omega, by omega⟩ | exact Or.inr ⟨by omega, by omega⟩)
local macro_rules | `(tactic| walk_at "zcd") => `(tactic| first | exact ⟨by decide, by decide +kernel⟩ | assumption | exact ⟨by omega, by assumption⟩)
local macro_rules | `(tactic| walk_at "zb1") => `(tactic| first | rfl | assumption | exact decide_eq_true (by omega) | exact decide_eq_true (by assumption) | (simp only [Bool.not_eq_true', decide_eq_false_iff_not, bne_iff_ne, ne_eq]; omega))
local macro_rules | `(tactic| walk_at "zb0") => `(tactic| first | rfl | assumption | exact decide_eq_false (by omega) | exact decide_eq_false (by assumption) | (simp only [Bool.not_eq_false', decide_eq_true_iff, bne_eq_false_iff_eq]; omega))
local macro_rules | `(tactic| walk_at "zv") => `(tactic| with_reducible first | refine Z.wV0 ?_ | refine Z.wV1 ?_ | refine Z.wV2 ?_ | refine Z.wV3 ?_ | refine Z.wV4 ?_ | refine Z.wV5 ?_ | refine Z.wV6 ?_ | refine Z.wV7 ?_ | refine Z.wV8 ?_ | refine Z.wV9 ?_ | refine Z.wV10 ?_ | refine Z.wV11 ?_ | refine Z.wV12 ?_ | refine Z.wV13 ?_ | refine Z.wV14 ?_)
local macro_rules | `(tactic| walk_at "zg") => `(tactic| with_reducible first | refine Z.wG0 ?_ | refine Z.wG1 ?_ | refine Z.wG2 ?_ | refine Z.wG3 ?_ | refine Z.wG4 ?_ | refine Z.wG5 ?_ | refine Z.wG6 ?_ | refine Z.wG7 ?_ | refine Z.wG8 ?_ | refine Z.wG9 ?_ | refine Z.wG10 ?_ | refine Z.wG11 ?_ | refine Z.wG12 ?_ | refine Z.wG13 ?_ | refine Z.wG14 ?_)
-- syntax nodes
local macro_rules | `(tactic| walk_at "zt") => `(tactic| with_reducible first | refine Z.wSeq ?_ | refine Z.wAsg ?_ | refine Z.wOp ?_ | refine Z.wC ?_ | refine Z.wCons ?_ | refine Z.wNil ?_ | refine Z.wCB ?_ | refine Z.wTest ?_ | refine Z.wRet ?_ | refine Z.wNext ?_ | refine Z.wDrop ?_ | refine Z.wTruN ?_ | refine Z.wNot ?_ | refine Z.wAnd ?_ | refine Z.wOrb ?_ | refine Z.wCall0 ?_ | refine Z.wAndT ?_ | refine Z.wOrT ?_ | refine Z.wNotT ?_ | refine Z.wUn ?_ | refine Z.wTIf ?_ | refine Z.wChain ?_ | refine Z.wBM ?_ | refine Z.wBM0 ?_ | refine Z.wGSub ?_ | refine Z.wTTup ?_ | refine Z.wTLst ?_ | refine Z.wRetN ?_ | refine Z.wBreak ?_ | refine Z.wCont ?_ | refine Z.wListI ?_)
-- values
local macro_rules | `(tactic| walk_at "zx") => `(tactic| first
  | with_reducible refine Z.wBl ?_ | with_reducible refine Z.wTbl ?_ | with_reducible refine Z.wTint ?_ | with_reducible refine Z.wTnon ?_ | with_reducible refine Z.wIntI ?_ | with_reducible refine Z.wNeg ?_
  | with_reducible refine Z.wI0 ?_ | with_reducible refine Z.wOr1 (Z.wI0 ?_)
  | with_reducible refine Z.wOr1 (Z.wEqII ?_) | with_reducible refine Z.wOr1 (Z.wNeII ?_)
  | with_reducible refine Z.wOr1 (Z.wIsN ?_) | with_reducible refine Z.wOr1 (Z.wNotN ?_) | with_reducible refine Z.wOr2 (Z.wIsB ?_) | with_reducible refine Z.wOr2 (Z.wNotB ?_)
  | ((with_reducible refine' Z.wI ?zc ?_); (case zc => first | omega | decide | (walk_at "zcd") | exact ⟨by decide, by decide, by decide +kernel⟩))
  | ((with_reducible refine' Z.wOr1 (Z.wI (C := L2.CMul) ?zc ?_)); (case zc => walk_at "zcm"))
  | ((with_reducible refine' Z.wSetL ?zf ?zm ?ze ?zp ?_); (case zf => walk_at "zF"); (case zm => walk_at "zm"); (case ze => first | rfl | exact Z.ixN_of (by walk_at "zo") (by walk_at "zo")); (case zp => walk_at "zp"); with_reducible intro _ _)
  | ((with_reducible refine' Z.wIxL ?zs ?ze ?_); (case zs => walk_at "zsL"); (case ze => first | rfl | assumption))
  | ((with_reducible refine' Z.wIxT ?zs ?ze ?_); (case zs => walk_at "zsT"); (case ze => first | rfl | assumption))
  | ((with_reducible refine' Z.wIxLi ?zs ?z0 ?z1 ?_); (case zs => walk_at "zsL"); (case z0 => walk_at "zo"); (case z1 => walk_at "zo"))
  | ((with_reducible refine' Z.wIxTi ?zs ?z0 ?z1 ?_); (case zs => walk_at "zsT"); (case z0 => walk_at "zo"); (case z1 => walk_at "zo"))
  | ((with_reducible refine' Z.wLenLi ?zs ?_); (case zs => walk_at "zsL"))
  | ((with_reducible refine' Z.wLenTi ?zs ?_); (case zs => walk_at "zsT"))
  | ((with_reducible refine' Z.wLenL ?zs ?_); (case zs => walk_at "zsL"))
  | ((with_reducible refine' Z.wLenT ?zs ?_); (case zs => walk_at "zsT"))
  | ((with_reducible refine' Z.wTyL ?zs ?_); (case zs => walk_at "zsL"))
  | ((with_reducible refine' Z.wApp ?zf ?zm ?zp ?zn ?_); (case zf => walk_at "zF"); (case zm => walk_at "zm"); (case zp => walk_at "zp"); (case zn => first | (have := Z.line_big; walk_at "zo") | assumption); with_reducible intro _ _)
  | ((with_reducible refine' Z.wTup ?zn ?zf ?_); (case zn => first | exact Nat.le_of_ble_eq_true rfl | walk_at "zo"); (case zf => walk_at "zF"); with_reducible intro _ _ _)
  | ((with_reducible refine' Z.wLst ?zn ?zf ?_); (case zn => first | exact Nat.le_of_ble_eq_true rfl | walk_at "zo"); (case zf => walk_at "zF"); with_reducible intro _ _ _)
  | ((with_reducible refine' Z.wListL ?zs ?zf ?_); (case zs => walk_at "zsL"); (case zf => walk_at "zF"); with_reducible intro _ _ _)
  | ((with_reducible refine' Z.wListT ?zs ?zf ?_); (case zs => walk_at "zsT"); (case zf => walk_at "zF"); with_reducible intro _ _ _)
  | ((with_reducible refine' Z.wTupleL ?zs ?zf ?_); (case zs => walk_at "zsL"); (case zf => walk_at "zF"); with_reducible intro _ _ _)
  | ((with_reducible refine' Z.wTupleT ?zs ?_); (case zs => walk_at "zsT"))
  | ((with_reducible refine' Z.wTlst ?zs ?_); (case zs => walk_at "zsL"))
  | ((with_reducible refine' Z.wTtup ?zs ?_); (case zs => walk_at "zsT"))
  | with_reducible refine Z.wAbs ?_)
-- branches that the facts decide
local macro_rules | `(tactic| walk_at "zi") => `(tactic| first | ((with_reducible refine' Z.wIfT ?zb ?_); (case zb => walk_at "zb1")) | ((with_reducible refine' Z.wIfF ?zb ?_); (case zb => walk_at "zb0")))
local macro_rules | `(tactic| walk_at "z") => `(tactic| repeat walk_at "z1")
local macro_rules | `(tactic| walk_at "zc") => `(tactic| fail)
local macro_rules | `(tactic| walk_at "zif") => `(tactic| with_reducible first | refine Z.wIfS ?_ | refine Z.wFor ?_)
local macro_rules | `(tactic| walk_at "z1") => `(tactic| first | walk_at "zt" | walk_at "zv" | walk_at "zg" | walk_at "zc" | walk_at "zif" | walk_at "zx" | walk_at "zi")
local macro_rules | `(tactic| walk_at "y1") => `(tactic| first | walk_at "zt" | walk_at "zv" | walk_at "zg" | walk_at "zc" | walk_at "zx" | walk_at "zi")
local macro_rules | `(tactic| walk_at "y") => `(tactic| repeat walk_at "y1")
local macro_rules | `(tactic| walk_at "zfs") => `(tactic| (refine Z.Fx.sub (by walk_at "zF") ?_; walk_at "zsub"))
local macro_rules | `(tactic| walk_at "zs") => `(tactic| first | refine Z.wIfD (fun _ => ?_) (fun _ => ?_) | refine Z.wIfND (fun _ => ?_) (fun _ => ?_) | refine Z.wIf (fun _ => ?_) (fun _ => ?_))
local macro_rules | `(tactic| walk_at "zz") => `(tactic| ((repeat walk_at "z1"); try (walk_at "zs" <;> walk_at "zz")))
local macro_rules | `(tactic| walk_at "zlog") => `(tactic| first | decide +kernel | assumption | exact Z.log_small (by walk_at "zo") (by walk_at "zo"))
local macro_rules | `(tactic| walk_at "zk") => `(tactic| first | with_reducible assumption | exact Z.HasK.int _ | exact Z.HasK.bl _ | exact Z.HasK.str _ | exact Z.HasK.non | exact Z.HasK.lst (by walk_at "zsL") | exact Z.HasK.tup (by walk_at "zsT"))
local macro_rules | `(tactic| walk_at "zsub") => `(tactic| ((try dsimp only [List.cons_append, List.nil_append, List.append_eq]); (with_reducible first | exact List.Sublist.refl _ | (refine List.Sublist.cons_cons _ ?_; walk_at "zsub") | (refine List.Sublist.cons _ ?_; walk_at "zsub"))))
local macro_rules | `(tactic| walk_at "zt") => `(tactic| with_reducible first | refine Z.wIS ?_ | refine Z.wIL ?_ | refine Z.wIT ?_ | refine Z.wIR1 ?_ | refine Z.wIR2 ?_ | refine Z.wIZ ?_ | refine Z.wLc ?_ | refine Z.wSl ?_ | refine Z.wNoPart ?_ | refine Z.wPart ?_ | refine Z.wPartV ?_ | refine Z.wGCons ?_ | refine Z.wGNil ?_ | refine Z.wYes ?_ | refine Z.wMake ?_ | refine Z.wMakeS ?_ | refine Z.wFld ?_ | refine Z.wSFld ?_ | refine Z.wCallS ?_)
local macro_rules | `(tactic| walk_at "zx") => `(tactic| first
  | ((with_reducible refine' Z.wGTup ?zs ?ze ?_); (case zs => walk_at "zsT"); (case ze => first | rfl | assumption))
  | ((with_reducible refine' Z.wGoSL ?zs ?_); (case zs => walk_at "zsL"))
  | ((with_reducible refine' Z.wGoST ?zs ?_); (case zs => walk_at "zsT"))
  | ((with_reducible refine' Z.wGoL ?zs ?_); (case zs => walk_at "zsL"))
  | ((with_reducible refine' Z.wGoT ?zs ?_); (case zs => walk_at "zsT"))
  | ((with_reducible refine' Z.wGoZL ?zs ?zt ?_); (case zs => walk_at "zsL"); (case zt => walk_at "zsL"))
  | ((with_reducible refine' Z.wGoZT ?zs ?zt ?_); (case zs => walk_at "zsT"); (case zt => walk_at "zsT"))
  | ((with_reducible refine' Z.wGoR1 ?za ?zb ?_); (case za => walk_at "zo"); (case zb => walk_at "zo"))
  | ((with_reducible refine' Z.wGoR2 ?za ?zb ?zc ?zd ?_); (case za => walk_at "zo"); (case zb => walk_at "zo"); (case zc => walk_at "zo"); (case zd => walk_at "zo"))
  | ((with_reducible refine' Z.wSlL ?zs ?zf ?_); (case zs => walk_at "zsL"); (case zf => walk_at "zF"); with_reducible intro _ _ _))
local macro_rules | `(tactic| walk_at "zis") => `(tactic| first | with_reducible assumption | exact Z.SeqIs.int _ | exact Z.SeqIs.bl _ | exact Z.SeqIs.str _ | exact Z.SeqIs.non | exact Z.SeqIs.lst (by walk_at "zm") | exact Z.SeqIs.tup (by walk_at "zm") | exact Z.SeqIs.dct (by walk_at "zm"))
local macro_rules | `(tactic| walk_at "zw") => `(tactic| (simp only [List.map_cons, List.map_nil, wipe, List.set_cons_zero, List.set_cons_succ]))
local macro_rules | `(tactic| walk_at "zt") => `(tactic| with_reducible first | refine Z.wListRg2 ?_)
local macro_rules | `(tactic| walk_at "zx") => `(tactic| first
  | ((with_reducible refine' Z.wRgV ?zo ?zf ?_); (case zo => exact L2.RgOk.of_le (by walk_at "zo") (by walk_at "zo") (by walk_at "zo") (by walk_at "zo")); (case zf => walk_at "zF"); with_reducible intro _ _ _))

local macro_rules | `(tactic| walk_at "zt") => `(tactic| with_reducible first | refine Z.wIE ?_ | refine Z.wIR3 ?_ | refine Z.wMin2 ?_ | refine Z.wMax2 ?_ | refine Z.wBody ?_ | refine Z.wAug rfl ?_)
local macro_rules | `(tactic| walk_at "zx") => `(tactic| first
  | ((with_reducible refine' Z.wGoDown ?za ?zb ?zc ?zd ?_); (case za => walk_at "zo"); (case zb => walk_at "zo"); (case zc => walk_at "zo"); (case zd => walk_at "zo"))
  | ((with_reducible refine' Z.wSumL ?zs ?_); (case zs => walk_at "zsL"))
  | ((with_reducible refine' Z.wSumT ?zs ?_); (case zs => walk_at "zsT"))
  | ((with_reducible refine' Z.wRepL ?zf ?zm ?z1 ?z2 ?z3 ?_); (case zf => walk_at "zF"); (case zm => walk_at "zm"); (case z1 => walk_at "zo"); (case z2 => walk_at "zo"); (case z3 => walk_at "zo"); with_reducible intro _ _ _)
  | ((with_reducible refine' Z.wCatL ?zf ?zm ?z1 ?z2 ?_); (case zf => walk_at "zF"); (case zm => walk_at "zm"); (case z1 => walk_at "zm"); (case z2 => walk_at "zo"); with_reducible intro _ _ _))
local macro_rules | `(tactic| walk_at "zx") => `(tactic| ((with_reducible refine Z.wIpI ?_); try simp only [List.set_cons_zero, List.set_cons_succ]))
local macro_rules | `(tactic| walk_at "zt") => `(tactic| with_reducible first | refine Z.wMkO ?_ | refine Z.wCallD ?_ | refine Z.wSpC ?_ | refine Z.wSpN ?_ | refine Z.wSpC1 ?_ | refine Z.wSpN1 ?_ | refine Z.wSpC2 ?_ | refine Z.wSpN2 ?_)
local macro_rules | `(tactic| walk_at "zv") => `(tactic| with_reducible first | refine Z.wV15 ?_ | refine Z.wV16 ?_ | refine Z.wV17 ?_ | refine Z.wV18 ?_ | refine Z.wV19 ?_ | refine Z.wV20 ?_ | refine Z.wV21 ?_ | refine Z.wV22 ?_ | refine Z.wV23 ?_ | refine Z.wV24 ?_ | refine Z.wV25 ?_ | refine Z.wV26 ?_)
local macro_rules | `(tactic| walk_at "zg") => `(tactic| with_reducible first | refine Z.wG15 ?_ | refine Z.wG16 ?_ | refine Z.wG17 ?_ | refine Z.wG18 ?_ | refine Z.wG19 ?_ | refine Z.wG20 ?_ | refine Z.wG21 ?_ | refine Z.wG22 ?_ | refine Z.wG23 ?_ | refine Z.wG24 ?_ | refine Z.wG25 ?_ | refine Z.wG26 ?_)
local macro_rules | `(tactic| walk_at "zt") => `(tactic| with_reducible first | refine Z.wRevS ?_ | refine Z.wTupRev ?_ | refine Z.wIRev ?_)
local macro_rules | `(tactic| walk_at "zx") => `(tactic| first
  | ((with_reducible refine' Z.wRevL ?zs ?zf ?_); (case zs => walk_at "zsL"); (case zf => walk_at "zF"); with_reducible intro _ _ _)
  | ((with_reducible refine' Z.wRevT ?zs ?zf ?_); (case zs => walk_at "zsT"); (case zf => walk_at "zF"); with_reducible intro _ _ _)
  | ((with_reducible refine' Z.wTupRevT ?zs ?zf ?_); (case zs => walk_at "zsT"); (case zf => walk_at "zF"); with_reducible intro _ _ _)
  | ((with_reducible refine' Z.wRevI ?zs ?_); (case zs => walk_at "zsL")))
local macro_rules | `(tactic| walk_at "zt") => `(tactic| with_reducible first | refine Z.wIRG ?_ | refine Z.wGoRG ?_)
local macro_rules | `(tactic| walk_at "zr") => `(tactic| ((walk_at "z"); (try ((first | ((refine' Z.wIfF ?zb ?_); (case zb => (simp; done))) | ((refine' Z.wIfT ?zb ?_); (case zb => (simp; done)))); (walk_at "z")))))
def top (i : Nat) : Stmt := PySem.Challenge.pw_jointsapart_k09_courses_made_and_refused.main.body.getD i (.Pass ⟨0, 0, 0, 0⟩)

abbrev s_BadStock___init__ : Stmt := inClass (top 3) 0
abbrev s_is_sequence : Stmt := top 8
abbrev s_is_whole : Stmt := top 7
abbrev s__are_bricks : Stmt := top 20
abbrev s_Stock___init__ : Stmt := inClass (top 19) 0
abbrev s_Stock___eq__ : Stmt := inClass (top 19) 1
abbrev s_length_of : Stmt := top 12
abbrev s_BadCourse___init__ : Stmt := inClass (top 4) 0
abbrev s_check_course : Stmt := top 10
abbrev s_course_flaw : Stmt := top 11
abbrev s_BadWall___init__ : Stmt := inClass (top 5) 0
abbrev s_course_for : Stmt := top 17
abbrev s__checked_courses : Stmt := top 16
abbrev s_Wall___init__ : Stmt := inClass (top 14) 0
abbrev s__law_mix : Stmt := top 22
abbrev s__law_draw : Stmt := top 24
abbrev s__law_stock : Stmt := top 28
abbrev s__law_told : Stmt := top 39
abbrev s__law_as_sequence : Stmt := top 25
abbrev s__law_is : Stmt := top 26
abbrev s__law_tuples : Stmt := top 27
abbrev s__law_ends : Stmt := top 29
abbrev s__law_walk : Stmt := top 30
abbrev s_Wall___eq__ : Stmt := inClass (top 14) 2
abbrev s_Wall___len__ : Stmt := inClass (top 14) 1
abbrev s_Clash___init__ : Stmt := inClass (top 15) 0
abbrev s__law_refused : Stmt := top 40
abbrev s__law_many : Stmt := top 43
abbrev s__law_joints : Stmt := top 31
abbrev s__law_apart : Stmt := top 32
abbrev s__law_fits : Stmt := top 33
abbrev s__law_laid_on : Stmt := top 35
abbrev s__law_good : Stmt := top 41
abbrev s__law_rows : Stmt := top 34
abbrev s__law_bad_course : Stmt := top 36
abbrev s__law_other_length : Stmt := top 37
abbrev s__law_spoilt : Stmt := top 42
abbrev s__law_some_rows : Stmt := top 38
abbrev s__law_hand : Stmt := top 23
abbrev s_law : Stmt := top 44
structure Txt (K : PySem.W.Frag) (mg : Str → Option Value) (c_BadCourse : Addr) (c_BadStock : Addr) (c_BadWall : Addr) (c_Clash : Addr) (c_Stock : Addr) (c_Wall : Addr) : Prop where
  b_abs : mg "abs" = none
  b_all : mg "all" = none
  b_bool : mg "bool" = none
  b_enumerate : mg "enumerate" = none
  b_int : mg "int" = none
  b_isinstance : mg "isinstance" = none
  b_len : mg "len" = none
  b_list : mg "list" = none
  b_max : mg "max" = none
  b_range : mg "range" = none
  b_sorted : mg "sorted" = none
  b_sum : mg "sum" = none
  b_tuple : mg "tuple" = none
  b_zip : mg "zip" = none
  g_BadCourse : mg "BadCourse" = some (.ref c_BadCourse)
  g_BadStock : mg "BadStock" = some (.ref c_BadStock)
  g_BadWall : mg "BadWall" = some (.ref c_BadWall)
  g_Clash : mg "Clash" = some (.ref c_Clash)
  g_Stock : mg "Stock" = some (.ref c_Stock)
  g_Wall : mg "Wall" = some (.ref c_Wall)
  x_BadCourse : Z.ErrF K c_BadCourse
  q_BadCourse_BadStock : PySem.W.exmOne K (.ref c_BadCourse) (.ref c_BadStock) = some false
  q_BadCourse_BadWall : PySem.W.exmOne K (.ref c_BadCourse) (.ref c_BadWall) = some false
  n_BadCourse_index : PySem.W.findIn K (.ref c_BadCourse) "index" = some none
  n_BadCourse_what : PySem.W.findIn K (.ref c_BadCourse) "what" = some none
  x_BadStock : Z.ErrF K c_BadStock
  q_BadStock_BadCourse : PySem.W.exmOne K (.ref c_BadStock) (.ref c_BadCourse) = some false
  q_BadStock_BadWall : PySem.W.exmOne K (.ref c_BadStock) (.ref c_BadWall) = some false
  n_BadStock_what : PySem.W.findIn K (.ref c_BadStock) "what" = some none
  x_BadWall : Z.ErrF K c_BadWall
  q_BadWall_BadCourse : PySem.W.exmOne K (.ref c_BadWall) (.ref c_BadCourse) = some false
  q_BadWall_BadStock : PySem.W.exmOne K (.ref c_BadWall) (.ref c_BadStock) = some false
  n_BadWall_index : PySem.W.findIn K (.ref c_BadWall) "index" = some none
  n_BadWall_what : PySem.W.findIn K (.ref c_BadWall) "what" = some none
  i_Clash : Z.InsF K c_Clash
  n_Clash_lower : NoAttr K c_Clash "lower"
  n_Clash_upper : NoAttr K c_Clash "upper"
  n_Clash_joint : NoAttr K c_Clash "joint"
  n_Clash_other : NoAttr K c_Clash "other"
  i_Stock : Z.InsF K c_Stock
  n_Stock_bricks : NoAttr K c_Stock "bricks"
  n_Stock_lap : NoAttr K c_Stock "lap"
  n_Stock_reach : NoAttr K c_Stock "reach"
  i_Wall : Z.InsF K c_Wall
  n_Wall_stock : NoAttr K c_Wall "stock"
  n_Wall_courses : NoAttr K c_Wall "courses"
  n_Wall_length : NoAttr K c_Wall "length"
  d_BadStock___init__ : ∃ f fd, Fun K "__init__" "BadStock.__init__" s_BadStock___init__ f fd ∧ Z.ErrI K c_BadStock f
  d_is_sequence : ∃ f fd, Fun K "is_sequence" "is_sequence" s_is_sequence f fd ∧ mg "is_sequence" = some (.ref f)
  d_is_whole : ∃ f fd, FunD K "is_whole" "is_whole" (defArgs s_is_whole) (defBody s_is_whole) (defScope s_is_whole) [.non, .non] [] f fd ∧ mg "is_whole" = some (.ref f)
  d__are_bricks : ∃ f fd, Fun K "_are_bricks" "_are_bricks" s__are_bricks f fd ∧ mg "_are_bricks" = some (.ref f)
  d_Stock___init__ : ∃ f fd, FunD K "__init__" "Stock.__init__" (defArgs s_Stock___init__) (defBody s_Stock___init__) (defScope s_Stock___init__) [.int 1, .int 1] [] f fd ∧ Mk K c_Stock f
  d_Stock___eq__ : ∃ f fd, Fun K "__eq__" "Stock.__eq__" s_Stock___eq__ f fd ∧ Z.OwnEqF K c_Stock f
  d_length_of : ∃ f fd, Fun K "length_of" "length_of" s_length_of f fd ∧ mg "length_of" = some (.ref f)
  d_BadCourse___init__ : ∃ f fd, Fun K "__init__" "BadCourse.__init__" s_BadCourse___init__ f fd ∧ Z.ErrI K c_BadCourse f
  d_check_course : ∃ f fd, Fun K "check_course" "check_course" s_check_course f fd ∧ mg "check_course" = some (.ref f)
  d_course_flaw : ∃ f fd, FunD K "course_flaw" "course_flaw" (defArgs s_course_flaw) (defBody s_course_flaw) (defScope s_course_flaw) [.non] [] f fd ∧ mg "course_flaw" = some (.ref f)
  d_BadWall___init__ : ∃ f fd, Fun K "__init__" "BadWall.__init__" s_BadWall___init__ f fd ∧ Z.ErrI K c_BadWall f
  d_course_for : ∃ f fd, FunD K "course_for" "course_for" (defArgs s_course_for) (defBody s_course_for) (defScope s_course_for) [.non] [] f fd ∧ mg "course_for" = some (.ref f)
  d__checked_courses : ∃ f fd, Fun K "_checked_courses" "_checked_courses" s__checked_courses f fd ∧ mg "_checked_courses" = some (.ref f)
  d_Wall___init__ : ∃ f fd, Fun K "__init__" "Wall.__init__" s_Wall___init__ f fd ∧ Mk K c_Wall f
  d__law_mix : ∃ f fd, Fun K "_law_mix" "_law_mix" s__law_mix f fd ∧ mg "_law_mix" = some (.ref f)
  d__law_draw : ∃ f fd, Fun K "_law_draw" "_law_draw" s__law_draw f fd ∧ mg "_law_draw" = some (.ref f)
  d__law_stock : ∃ f fd, Fun K "_law_stock" "_law_stock" s__law_stock f fd ∧ mg "_law_stock" = some (.ref f)
  d__law_told : ∃ f fd, Fun K "_law_told" "_law_told" s__law_told f fd ∧ mg "_law_told" = some (.ref f)
  d__law_as_sequence : ∃ f fd, Fun K "_law_as_sequence" "_law_as_sequence" s__law_as_sequence f fd ∧ mg "_law_as_sequence" = some (.ref f)
  d__law_is : ∃ f fd, Fun K "_law_is" "_law_is" s__law_is f fd ∧ mg "_law_is" = some (.ref f)
  d__law_tuples : ∃ f fd, Fun K "_law_tuples" "_law_tuples" s__law_tuples f fd ∧ mg "_law_tuples" = some (.ref f)
  d__law_ends : ∃ f fd, Fun K "_law_ends" "_law_ends" s__law_ends f fd ∧ mg "_law_ends" = some (.ref f)
  d__law_walk : ∃ f fd, Fun K "_law_walk" "_law_walk" s__law_walk f fd ∧ mg "_law_walk" = some (.ref f)
  d_Wall___eq__ : ∃ f fd, Fun K "__eq__" "Wall.__eq__" s_Wall___eq__ f fd ∧ Z.OwnEqF K c_Wall f
  d_Wall___len__ : ∃ f fd, Fun K "__len__" "Wall.__len__" s_Wall___len__ f fd ∧ Z.OwnLenF K c_Wall f
  d_Clash___init__ : ∃ f fd, Fun K "__init__" "Clash.__init__" s_Clash___init__ f fd ∧ Mk K c_Clash f
  d__law_refused : ∃ f fd, Fun K "_law_refused" "_law_refused" s__law_refused f fd ∧ mg "_law_refused" = some (.ref f)
  d__law_many : ∃ f fd, Fun K "_law_many" "_law_many" s__law_many f fd ∧ mg "_law_many" = some (.ref f)
  d__law_joints : ∃ f fd, Fun K "_law_joints" "_law_joints" s__law_joints f fd ∧ mg "_law_joints" = some (.ref f)
  d__law_apart : ∃ f fd, Fun K "_law_apart" "_law_apart" s__law_apart f fd ∧ mg "_law_apart" = some (.ref f)
  d__law_fits : ∃ f fd, Fun K "_law_fits" "_law_fits" s__law_fits f fd ∧ mg "_law_fits" = some (.ref f)
  d__law_laid_on : ∃ f fd, Fun K "_law_laid_on" "_law_laid_on" s__law_laid_on f fd ∧ mg "_law_laid_on" = some (.ref f)
  d__law_good : ∃ f fd, Fun K "_law_good" "_law_good" s__law_good f fd ∧ mg "_law_good" = some (.ref f)
  d__law_rows : ∃ f fd, Fun K "_law_rows" "_law_rows" s__law_rows f fd ∧ mg "_law_rows" = some (.ref f)
  d__law_bad_course : ∃ f fd, Fun K "_law_bad_course" "_law_bad_course" s__law_bad_course f fd ∧ mg "_law_bad_course" = some (.ref f)
  d__law_other_length : ∃ f fd, Fun K "_law_other_length" "_law_other_length" s__law_other_length f fd ∧ mg "_law_other_length" = some (.ref f)
  d__law_spoilt : ∃ f fd, Fun K "_law_spoilt" "_law_spoilt" s__law_spoilt f fd ∧ mg "_law_spoilt" = some (.ref f)
  d__law_some_rows : ∃ f fd, Fun K "_law_some_rows" "_law_some_rows" s__law_some_rows f fd ∧ mg "_law_some_rows" = some (.ref f)
  d__law_hand : ∃ f fd, Fun K "_law_hand" "_law_hand" s__law_hand f fd ∧ mg "_law_hand" = some (.ref f)
  d_law : ∃ f fd, Fun K "law" "law" s_law f fd ∧ mg "law" = some (.ref f)
  nf_Wall_Clash : PySem.W.notFirst K c_Wall (.ref c_Clash) = true
  ko_Clash_Wall : PySem.W.kitOne K (.ref c_Clash) (.ref c_Wall) = some false
section
variable {P : Program} {w : World} {K : PySem.W.Frag} {mg : Str → Option Value} {base : Heap} {c_BadCourse c_BadStock c_BadWall c_Clash c_Stock c_Wall : Addr}
theorem sc_BadStock___init__ : FnScope ["self", "what"] ["self", "what"] (defScope s_BadStock___init__) := ⟨rfl, rfl, rfl, by decide +kernel, rfl, by decide +kernel, by decide +kernel⟩

theorem fn_BadStock___init__ (T : Txt K mg c_BadCourse c_BadStock c_BadWall c_Clash c_Stock c_Wall) {f : Addr} {fd : FuncData} (F : Fun K "__init__" "BadStock.__init__" s_BadStock___init__ f fd) : FnOk P w K mg base CX0 1 f fd ["self", "what"] (Z.spErr1 K "what") := by
  refine F.ok sc_BadStock___init__ (fun vs H Q E h => ?_) (fun cdv A outer s H vs Q E hr h => ?_)
  · obtain ⟨a, b, rfl, _⟩ := h; rfl
  · obtain ⟨a, b, rfl, h⟩ := h
    refine ⟨_, (pss_one (ps_ost (pv 0) (pv 1))), ?_⟩
    try dsimp only [cxOf, Cx.nox, Cx.wish]
    refine Z.at_start (σ' := [some a, some b]) rfl ?_
    exact Z.init1_run h
theorem ok_BadStock___init__ (T : Txt K mg c_BadCourse c_BadStock c_BadWall c_Clash c_Stock c_Wall) : Z.ErrO P w K mg base c_BadStock 1 ["self", "what"] (Z.spErr1 K "what") := by
  obtain ⟨f, fd, F, i⟩ := T.d_BadStock___init__
  exact ⟨f, fd, i, (F.binds (ps := ["self", "what"]) fun _ _ _ _ _ _ us hl => match us, hl with | [_, _], _ => rfl), fn_BadStock___init__ T F⟩
theorem sc_is_sequence : FnScope ["thing", "low", "high"] ["thing", "low", "high"] (defScope s_is_sequence) := ⟨rfl, rfl, rfl, by decide +kernel, rfl, by decide +kernel, by decide +kernel⟩
/-- the length within bounds, of a list or a tuple -/
def sp_is_sequence (K : PySem.W.Frag) : Sp := Z.Sp3 fun a b c H Q E => ∃ (L : List Z.En) (o : Option (List V)) (lo hi : Int), Z.Fx H L ∧ Z.SeqIs L a o ∧ b = .int lo ∧ c = .int hi ∧ ∀ H', Z.Fx H' L → Q (.bl (Z.inLen lo hi o)) H'
theorem fn_is_sequence (T : Txt K mg c_BadCourse c_BadStock c_BadWall c_Clash c_Stock c_Wall) {f : Addr} {fd : FuncData} (F : Fun K "is_sequence" "is_sequence" s_is_sequence f fd) : FnOk P w K mg base CX0 1 f fd ["thing", "low", "high"] (sp_is_sequence K) := by
  refine F.ok sc_is_sequence (fun vs H Q E h => ?_) (fun cdv A outer s H vs Q E hr h => ?_)
  · obtain ⟨a, b, c, rfl, _⟩ := h; rfl
  · obtain ⟨a, b, c, rfl, h⟩ := h
    refine ⟨_, (pss_one (ps_ret (pe_andT (pe_callB Z.zIsi (by rfl) T.b_isinstance (by decide +kernel) (pa_cons (pv 0) (pa_cons (pe_tup (pa_cons (pe_bltn (by rfl) T.b_list (by decide +kernel) (show RelV (.ty "list") _ from rfl)) (pa_cons (pe_bltn (by rfl) T.b_tuple (by decide +kernel) (show RelV (.ty "tuple") _ from rfl)) pa_nil))) pa_nil))) (pe_one (pe_chain Z.zLe Z.zLe (pv 1) (pe_callB Z.zLen (by rfl) T.b_len (by decide +kernel) (pa_cons (pv 0) pa_nil)) (pv 2)))))), ?_⟩
    try dsimp only [cxOf, Cx.nox, Cx.wish]
    refine Z.at_start (σ' := [some a, some b, some c]) rfl ?_
    obtain ⟨L, o, lo, hi, F, hs, rfl, rfl, k⟩ := h
    walk_at "z"
    rename_i p H1 F1
    have F2 := F1.sub (L' := L) (by walk_at "zsub")
    cases hs with
    | lst m =>
      refine Z.wIsiLT (Z.HasK.lst (F2.lst m)) F1 (by walk_at "zm") ?_
      walk_at "zz"
      all_goals (have e := k _ F2; simpa [Z.inLen, *] using e)
    | tup m =>
      refine Z.wIsiLT (Z.HasK.tup (F2.tup m)) F1 (by walk_at "zm") ?_
      walk_at "zz"
      all_goals (have e := k _ F2; simpa [Z.inLen, *] using e)
    | non => exact Z.wIsiLT .non F1 (by walk_at "zm") (by walk_at "z"; exact k _ F2)
    | bl b => exact Z.wIsiLT (.bl b) F1 (by walk_at "zm") (by walk_at "z"; exact k _ F2)
    | int i => exact Z.wIsiLT (.int i) F1 (by walk_at "zm") (by walk_at "z"; exact k _ F2)
    | str z => exact Z.wIsiLT (.str z) F1 (by walk_at "zm") (by walk_at "z"; exact k _ F2)
    | dct m => exact Z.wIsiLT (.dct (F2.get m)) F1 (by walk_at "zm") (by walk_at "z"; exact k _ F2)
theorem ok_is_sequence (T : Txt K mg c_BadCourse c_BadStock c_BadWall c_Clash c_Stock c_Wall) : Z.Ok CX0 P w K mg base "is_sequence" 1 ["thing", "low", "high"] [] (sp_is_sequence K) := by
  obtain ⟨f, fd, F, g⟩ := T.d_is_sequence
  exact Z.mkOk F g (F.binds (ps := ["thing", "low", "high"]) fun _ _ _ _ _ _ us hl => match us, hl with | [_, _, _], _ => rfl) (fn_is_sequence T F)
theorem use_is_sequence {H : Hp} {Q : VK} {E : XK} {L : List Z.En} {a : V} {o : Option (List V)} {lo hi : Int} (F : Z.Fx H L) (s : Z.SeqIs L a o) (k : ∀ H', Z.Fx H' L → Q (.bl (Z.inLen lo hi o)) H') : sp_is_sequence K [a, .int lo, .int hi] H Q E :=
  ⟨_, _, _, rfl, L, o, lo, hi, F, s, rfl, rfl, k⟩
local macro_rules | `(tactic| walk_at "zc") => `(tactic| ((with_reducible refine' use_is_sequence ?zf ?zs ?_); (case zf => walk_at "zF"); (case zs => walk_at "zis"); with_reducible intro _ _))
theorem sc_is_whole : FnScope ["thing", "low", "high"] ["thing", "low", "high"] (defScope s_is_whole) := ⟨rfl, rfl, rfl, by decide +kernel, rfl, by decide +kernel, by decide +kernel⟩
/-- what a bound may be -/
def isBd (v : V) : Prop := v = .non ∨ ∃ i, v = .int i
def sp_is_whole (K : PySem.W.Frag) : Sp := Z.Sp3 fun a b c H Q E => ∃ k, Z.HasK K H a k ∧ isBd b ∧ isBd c ∧ Q (.bl (Z.inB a b c)) H
theorem fn_is_whole (T : Txt K mg c_BadCourse c_BadStock c_BadWall c_Clash c_Stock c_Wall) {f : Addr} {fd : FuncData} (F : FunD K "is_whole" "is_whole" (defArgs s_is_whole) (defBody s_is_whole) (defScope s_is_whole) [.non, .non] [] f fd) : FnOk P w K mg base CX0 1 f fd ["thing", "low", "high"] (sp_is_whole K) := by
  refine F.ok (CX := CX0) sc_is_whole (fun vs H Q E h => ?_) (fun cdv A outer s H vs Q E hr h => ?_)
  · obtain ⟨a, b, c, rfl, _⟩ := h; rfl
  · obtain ⟨a, b, c, rfl, h⟩ := h
    refine ⟨_, (pss_cons (ps_if (PW.pt (pw_or (pt_not (Z.pt_truN (pe_callB Z.zIsi (by rfl) T.b_isinstance (by decide +kernel) (pa_cons (pv 0) (pa_cons (pe_bltn (by rfl) T.b_int (by decide +kernel) (show RelV (.ty "int") _ from rfl)) pa_nil))))) (pw_or1 (Z.pt_truN (pe_callB Z.zIsi (by rfl) T.b_isinstance (by decide +kernel) (pa_cons (pv 0) (pa_cons (pe_bltn (by rfl) T.b_bool (by decide +kernel) (show RelV (.ty "bool") _ from rfl)) pa_nil)))))))
        (pss_one (ps_ret pe_bl))
        pss_nil)
      (pss_one (ps_ret (pe_andT (pe_orT (pe_cmpR Z.zIs (pv 1) pe_non (nomark _)) (pe_one (pe_cmpR Z.zGe (pv 0) (pv 1) (nomark _)))) (pe_one (pe_orT (pe_cmpR Z.zIs (pv 2) pe_non (nomark _)) (pe_one (pe_cmpR Z.zLe (pv 0) (pv 2) (nomark _))))))))), ?_⟩
    try dsimp only [cxOf, Cx.nox, Cx.wish]
    refine Z.at_start (σ' := [some a, some b, some c]) rfl ?_
    obtain ⟨k, hk, hb, hc, q⟩ := h
    walk_at "z"
    refine Z.wIsiInt hk ?_
    cases hk with
    | int i =>
      walk_at "z"
      refine Z.wIsiBool (.int i) ?_
      rcases hb with rfl | ⟨lo, rfl⟩ <;> rcases hc with rfl | ⟨hi, rfl⟩ <;> walk_at "zz"
      all_goals simpa [Z.inB, *] using q
    | bl b =>
      walk_at "z"
      refine Z.wIsiBool (.bl b) ?_
      walk_at "z"
      exact q
    | _ =>
      walk_at "z"
      exact q
theorem ok_is_whole_1 (T : Txt K mg c_BadCourse c_BadStock c_BadWall c_Clash c_Stock c_Wall) : Z.Ok CX0 P w K mg base "is_whole" 1 ["thing", "low", "high"] [.non, .non] (sp_is_whole K) := by
  obtain ⟨f, fd, F, g⟩ := T.d_is_whole
  obtain ⟨ds, v, b⟩ := F.binds1 (ps := ["thing", "low", "high"]) 1 0 (by decide) rfl fun T kV doc pm an cdv ct us its h1 h2 => match us, h1, its, h2 with | [_], _, [_, _], _ => ⟨_, rfl, rfl⟩
  exact ⟨f, fd, ds, g, F.kp, b, v, fn_is_whole T F⟩
theorem ok_is_whole_2 (T : Txt K mg c_BadCourse c_BadStock c_BadWall c_Clash c_Stock c_Wall) : Z.Ok CX0 P w K mg base "is_whole" 1 ["thing", "low", "high"] [.non] (sp_is_whole K) := by
  obtain ⟨f, fd, F, g⟩ := T.d_is_whole
  obtain ⟨ds, v, b⟩ := F.binds1 (ps := ["thing", "low", "high"]) 2 1 (by decide) rfl fun T kV doc pm an cdv ct us its h1 h2 => match us, h1, its, h2 with | [_, _], _, [_, _], _ => ⟨_, rfl, rfl⟩
  exact ⟨f, fd, ds, g, F.kp, b, v, fn_is_whole T F⟩
theorem ok_is_whole_3 (T : Txt K mg c_BadCourse c_BadStock c_BadWall c_Clash c_Stock c_Wall) : Z.Ok CX0 P w K mg base "is_whole" 1 ["thing", "low", "high"] [] (sp_is_whole K) := by
  obtain ⟨f, fd, F, g⟩ := T.d_is_whole
  obtain ⟨ds, v, b⟩ := F.binds1 (ps := ["thing", "low", "high"]) 3 2 (by decide) rfl fun T kV doc pm an cdv ct us its h1 h2 => match us, h1, its, h2 with | [_, _, _], _, [_, _], _ => ⟨_, rfl, rfl⟩
  exact ⟨f, fd, ds, g, F.kp, b, v, fn_is_whole T F⟩
theorem use_is_whole {H : Hp} {Q : VK} {E : XK} {a b c : V} {k : Z.Kd} (hk : Z.HasK K H a k) (hb : isBd b) (hc : isBd c) (q : Q (.bl (Z.inB a b c)) H) : sp_is_whole K [a, b, c] H Q E := ⟨_, _, _, rfl, k, hk, hb, hc, q⟩
local macro_rules | `(tactic| walk_at "zc") => `(tactic| ((with_reducible refine' use_is_whole ?zk ?zb ?zc ?_); (case zk => walk_at "zk"); (case zb => first | exact Or.inl rfl | exact Or.inr ⟨_, rfl⟩); (case zc => first | exact Or.inl rfl | exact Or.inr ⟨_, rfl⟩)))
theorem sc__are_bricks : FnScope ["bricks", "lesser", "greater", "brick"] ["bricks"] (defScope s__are_bricks) := ⟨rfl, rfl, rfl, by decide +kernel, rfl, by decide +kernel, by decide +kernel⟩
/-- whole numbers from 1 to 8, ascending, one to four of them -/
def intV (x : V) : Int := match x with | .int i => i | _ => 0
def goodB : Option (List V) → Bool
  | none => false
  | some xs => Z.inLen 1 4 (some xs) && xs.all (fun x => Z.inB x (.int 1) (.int 8)) && Z.asc (xs.map intV)
theorem intV_map (ns : List Int) : (ns.map V.int).map intV = ns := by
  rw [List.map_map]
  exact List.map_id'' (fun _ => rfl) ns
def sp__are_bricks (K : PySem.W.Frag) : Sp := Z.Sp1 fun a H Q E => ∃ (L : List Z.En) (o : Option (List V)), Z.Fx H L ∧ Z.SeqIs L a o ∧ (∀ xs, o = some xs → ∀ x ∈ xs, ∃ k, Z.Thing L x k) ∧ ∀ H', Z.Fx H' L → Q (.bl (goodB o)) H'
theorem fn__are_bricks (T : Txt K mg c_BadCourse c_BadStock c_BadWall c_Clash c_Stock c_Wall) {f : Addr} {fd : FuncData} (F : Fun K "_are_bricks" "_are_bricks" s__are_bricks f fd) : FnOk P w K mg base CX0 2 f fd ["bricks"] (sp__are_bricks K) := by
  have O_is_sequence := ok_is_sequence (P := P) (w := w) (base := base) T
  have O_is_whole_1 := ok_is_whole_1 (P := P) (w := w) (base := base) T
  have O_is_whole_2 := ok_is_whole_2 (P := P) (w := w) (base := base) T
  have O_is_whole_3 := ok_is_whole_3 (P := P) (w := w) (base := base) T
  refine F.ok sc__are_bricks (fun vs H Q E h => ?_) (fun cdv A outer s H vs Q E hr h => ?_)
  · obtain ⟨a, rfl, _⟩ := h; rfl
  · obtain ⟨a, rfl, h⟩ := h
    refine ⟨_, (pss_cons (ps_if (PW.pt (pw_or (pt_not (Z.pt_truN (Z.pe_callO O_is_sequence (by rfl) (hr.mono (by decide)) pass0 (pa_cons (pv 0) (pa_cons pe_int (pa_cons pe_int pa_nil)))))) (pw_or1 (pt_not (Z.pt_truN (pe_callB (cr_all rfl) (by rfl) T.b_all (by decide +kernel) (pa_cons (by exact (pe_lc (own := [("brick", 3)]) (g := (gName 3)) (by rfl) sc__are_bricks.nd (Z.pi_seq (pv 0)) (blkOk_by (own := [("brick", 3)]) (N := ["bricks", "lesser", "greater", "brick"]) (sc := defScope s__are_bricks) (by decide +kernel)) (fun _ _ _ _ _ => (by exact (pg_name (i := 3) sc__are_bricks.nd rfl (by first | exact Or.inl rfl | exact Or.inr rfl)))) (fun _ _ _ _ _ => (by exact pts_nil)) (fun _ _ _ _ _ => (by exact (Z.pe_callO O_is_whole_3 (by rfl) (hr.mono (by decide)) pass0 (pa_cons (pv 3) (pa_cons pe_int (pa_cons pe_int pa_nil)))))))) pa_nil)))))))
        (pss_one (ps_ret pe_bl))
        pss_nil)
      (pss_one (ps_ret (pe_callB (cr_all rfl) (by rfl) T.b_all (by decide +kernel) (pa_cons (by exact (pe_lc (own := [("lesser", 1), ("greater", 2)]) (g := (gTup K 2 (gCons (gName 1) (gCons (gName 2) gNil)))) (by rfl) sc__are_bricks.nd (pi_zipA (by rfl) T.b_zip (pa_cons (pv 0) (pa_cons (pe_slice Z.zSl (pv 0) (po_some pe_int) po_none) pa_nil))) (blkOk_by (own := [("lesser", 1), ("greater", 2)]) (N := ["bricks", "lesser", "greater", "brick"]) (sc := defScope s__are_bricks) (by decide +kernel)) (fun _ _ _ _ _ => (by exact (pg_tup (by rfl) (pgs_cons (pg_name (i := 1) sc__are_bricks.nd rfl (by first | exact Or.inl rfl | exact Or.inr rfl)) (pgs_cons (pg_name (i := 2) sc__are_bricks.nd rfl (by first | exact Or.inl rfl | exact Or.inr rfl)) pgs_nil))))) (fun _ _ _ _ _ => (by exact pts_nil)) (fun _ _ _ _ _ => (by exact (pe_cmpR Z.zLt (pv 1) (pv 2) (nomark _)))))) pa_nil))))), ?_⟩
    try dsimp only [cxOf, Cx.nox, Cx.wish]
    refine Z.at_start (σ' := [some a, none, none, none]) rfl ?_
    obtain ⟨L, o, F, hs, ht, k⟩ := h
    cases o with
    | none =>
      walk_at "z"
      rename_i H1 F1
      exact k _ F1
    | some xs =>
      have ht := ht xs rfl
      walk_at "z"
      rename_i H1 F1
      refine Z.wIf (fun hl => ?_) (fun hl => ?_)
      · walk_at "z"
        have e := k _ F1
        have hl' : Z.inLen 1 4 (some xs) = false := by simpa using hl
        simpa [goodB, hl'] using e
      have hl' : Z.inLen 1 4 (some xs) = true := by simpa using hl
      walk_at "z"
      refine Z.wLcS hs F1 (fun i acc L' => L' = L ∧ acc = (xs.take i).map fun x => V.bl (Z.inB x (.int 1) (.int 8))) ⟨rfl, rfl⟩ (fun i acc L' r e he => r.1 ▸ he) ?_ ?_
      · rintro i x D H2 acc L' hx ⟨rfl, rfl⟩ F2
        obtain ⟨kd, tx⟩ := ht x (List.mem_of_getElem? hx)
        have hkx := (tx.cons (e := .ob D (.lst ((xs.take i).map fun x => V.bl (Z.inB x (.int 1) (.int 8)))))).has (K := K) F2
        walk_at "zw"
        walk_at "z"
        refine ⟨rfl, ?_⟩
        walk_at "z"
        refine Z.lcPut F2 (by rw [List.length_map, List.length_take]; have := Z.line_big; have e : decide ((xs.length : Int) ≤ 4) = true := by simp only [Z.inLen, Bool.and_eq_true] at hl'; exact hl'.2
                              have e := of_decide_eq_true e; omega) ⟨rfl, (Z.take_succ_map hx).symm⟩
      rintro D acc L' H2 F2 ⟨rfl, rfl⟩
      rw [List.take_length] at F2
      have e0 : (xs.map fun x => V.bl (Z.inB x (.int 1) (.int 8))) = (xs.map fun x => Z.inB x (.int 1) (.int 8)).map V.bl := by rw [List.map_map]; rfl
      rw [e0] at F2
      walk_at "z"
      refine Z.wAll (F2.lst List.mem_cons_self) ?_
      walk_at "z"
      have ea : (xs.map fun x => Z.inB x (.int 1) (.int 8)).all id = xs.all fun x => Z.inB x (.int 1) (.int 8) := by rw [List.all_map]; rfl
      rw [ea]
      refine Z.wIf (fun hb => ?_) (fun hb => ?_)
      · walk_at "z"
        have e := k _ (F2.sub (by walk_at "zsub"))
        have hb' : (xs.all fun x => Z.inB x (.int 1) (.int 8)) = false := by simpa using hb
        simpa [goodB, hl', hb'] using e
      have hb' : (xs.all fun x => Z.inB x (.int 1) (.int 8)) = true := by simpa using hb
      have F3 := F2.sub (L' := L') (by walk_at "zsub")
      clear F2
      have hne : xs ≠ [] := by rintro rfl; simp [Z.inLen] at hl'
      obtain ⟨ns, rfl⟩ := Z.ints_of hb'
      walk_at "z"
      refine Z.wSlS hs hne F3 fun p H3 e F4 hq => ?_
      walk_at "z"
      refine Z.wLcZ hq F4 (fun i acc L2 => (∀ x ∈ e :: L', x ∈ L2) ∧ (e :: L').Sublist L2 ∧ acc = ((ns.zip ns.tail).take i).map fun p => V.bl (decide (p.1 < p.2))) ⟨fun _ h => h, .refl _, rfl⟩ (fun i acc L' r => r.1) ?_ ?_
      · rintro i x y T D H5 acc L2 hx hy ⟨hk, hsub, rfl⟩ F5
        obtain ⟨u, rfl, hu⟩ := Z.int_of_map' hx
        rw [← List.map_tail] at hy
        obtain ⟨v, rfl, hv⟩ := Z.int_of_map' hy
        walk_at "zw"
        walk_at "z"
        refine ⟨rfl, ?_⟩
        walk_at "z"
        have hz : (ns.zip ns.tail)[i]? = some (u, v) := by
          rw [List.getElem?_zip_eq_some]
          exact ⟨hu, hv⟩
        have F6 := F5.perm (List.Perm.swap _ _ _)
        have hlen : ns.length ≤ 4 := by
          simp only [Z.inLen, Bool.and_eq_true, List.length_map] at hl'
          have e := of_decide_eq_true hl'.2
          omega
        refine Z.lcPut F6 (by rw [List.length_map, List.length_take, List.length_zip]; have := Z.line_big; omega) ⟨fun x hx => List.mem_cons_of_mem _ (hk x hx), hsub.cons _, (Z.take_succ_map hz).symm⟩
      · rintro D acc L2 H5 F5 ⟨hk, hsub, rfl⟩
        have en : min (ns.map V.int).length (ns.map V.int).tail.length = (ns.zip ns.tail).length := by rw [List.length_zip, List.length_tail, List.length_tail, List.length_map]
        rw [en, List.take_length] at F5
        have e1 : ((ns.zip ns.tail).map fun p => V.bl (decide (p.1 < p.2))) = ((ns.zip ns.tail).map fun p => decide (p.1 < p.2)).map V.bl := by rw [List.map_map]; rfl
        rw [e1] at F5
        walk_at "z"
        refine Z.wAll (F5.lst List.mem_cons_self) ?_
        have e2 : ((ns.zip ns.tail).map fun p => decide (p.1 < p.2)).all id = Z.asc ns := by rw [List.all_map, ← Z.asc_zip]; rfl
        rw [e2]
        have F6 := (F5.sub (L' := L2) (by walk_at "zsub")).sub hsub
        have e3 := k _ (F6.sub (L' := L') (by walk_at "zsub"))
        have e4 : goodB (some (ns.map V.int)) = Z.asc ns := by
          show (Z.inLen 1 4 (some (ns.map V.int)) && (ns.map V.int).all (fun x => Z.inB x (.int 1) (.int 8)) && Z.asc ((ns.map V.int).map intV)) = _
          rw [hl', hb', intV_map]
          rfl
        rw [e4] at e3
        exact e3
theorem ok__are_bricks (T : Txt K mg c_BadCourse c_BadStock c_BadWall c_Clash c_Stock c_Wall) : Z.Ok CX0 P w K mg base "_are_bricks" 2 ["bricks"] [] (sp__are_bricks K) := by
  obtain ⟨f, fd, F, g⟩ := T.d__are_bricks
  exact Z.mkOk F g (F.binds (ps := ["bricks"]) fun _ _ _ _ _ _ us hl => match us, hl with | [_], _ => rfl) (fn__are_bricks T F)
theorem use__are_bricks {H : Hp} {Q : VK} {E : XK} {L : List Z.En} {a : V} {o : Option (List V)} (F : Z.Fx H L) (s : Z.SeqIs L a o) (ht : ∀ xs, o = some xs → ∀ x ∈ xs, ∃ k, Z.Thing L x k) (k : ∀ H', Z.Fx H' L → Q (.bl (goodB o)) H') : sp__are_bricks K [a] H Q E := ⟨_, rfl, L, o, F, s, ht, k⟩
theorem sc_Stock___init__ : FnScope ["self", "bricks", "lap", "reach"] ["self", "bricks", "lap", "reach"] (defScope s_Stock___init__) := ⟨rfl, rfl, rfl, by decide +kernel, rfl, by decide +kernel, by decide +kernel⟩
/-- a stock's attributes -/
def stockF (b : V) (lap reach : V) : List (Str × V) := putF "reach" reach (putF "lap" lap (putF "bricks" b []))
theorem putF_len (f : Str) (v : V) : ∀ l : List (Str × V), (putF f v l).length ≤ l.length + 1
  | [] => Nat.le_refl _
  | (g, u) :: r => by
    have ih := putF_len f v r
    unfold putF
    split
    · exact Nat.le_succ _
    · exact Nat.succ_le_succ ih
theorem stock_bricks (b l r : V) : (stockF b l r).lookup ("bricks" : Str) = some b := by
  unfold stockF
  rw [lookup_putF, if_neg (by decide +kernel), lookup_putF, if_neg (by decide +kernel), lookup_putF, if_pos rfl]
theorem stock_lap (b l r : V) : (stockF b l r).lookup ("lap" : Str) = some l := by
  unfold stockF
  rw [lookup_putF, if_neg (by decide +kernel), lookup_putF, if_pos rfl]
theorem stock_reach (b l r : V) : (stockF b l r).lookup ("reach" : Str) = some r := by
  unfold stockF
  rw [lookup_putF, if_pos rfl]
/-- the first word that is due -/
def stockW (o : Option (List V)) (lap reach : V) : Option Str := if goodB o = false then some "bricks" else if Z.inB lap (.int 1) (.int 4) = false then some "lap" else if Z.inB reach (.int 1) (.int 2) = false then some "reach" else none
/-- what a stock is made of: a new tuple of what was handed in, or this very tuple -/
inductive StL (L : List Z.En) (b : V) (xs : List V) (p : Addr) : List Z.En → Prop where
  | new : StL L b xs p (.ob p (.tup xs) :: L)
  | same (e : b = .ref p) (m : Z.En.ob p (.tup xs) ∈ L) : StL L b xs p L
theorem StL.sub {L L1 : List Z.En} {b : V} {xs : List V} {p : Addr} (h : StL L b xs p L1) : L.Sublist L1 := by
  cases h with
  | new => exact .cons _ (.refl _)
  | same e m => exact .refl _
theorem StL.mem {L L1 : List Z.En} {b : V} {xs : List V} {p : Addr} (h : StL L b xs p L1) : Z.En.ob p (.tup xs) ∈ L1 := by
  cases h with
  | new => exact List.mem_cons_self
  | same e m => exact m
def sp_Stock___init__ (K : PySem.W.Frag) (cS cB : Addr) : Sp := Z.Sp4 fun a b c d H Q E => ∃ (L : List Z.En) (x dx : Addr) (o : Option (List V)) (k1 k2 : Z.Kd), a = .ref x ∧
  Z.Fx H (.ob x (.ins cS dx []) :: .ob dx (.own x) :: L) ∧ Z.SeqIs L b o ∧ (∀ xs, o = some xs → ∀ x ∈ xs, ∃ k, Z.Thing L x k) ∧ Z.Thing L c k1 ∧ Z.Thing L d k2 ∧
  (∀ w, stockW o c d = some w → ∀ e H', Z.Fx H' (.ob e (.xd [("what", .str w)]) :: L) → E (.ref cB) (some e) H') ∧
  (stockW o c d = none → ∀ xs p L1 H', o = some xs → StL L b xs p L1 → Z.Fx H' (.ob x (.ins cS dx (stockF (.ref p) c d)) :: .ob dx (.own x) :: L1) → Q .non H')
theorem fn_Stock___init__ (T : Txt K mg c_BadCourse c_BadStock c_BadWall c_Clash c_Stock c_Wall) {f : Addr} {fd : FuncData} (F : FunD K "__init__" "Stock.__init__" (defArgs s_Stock___init__) (defBody s_Stock___init__) (defScope s_Stock___init__) [.int 1, .int 1] [] f fd) : FnOk P w K mg base (L2.CX P w) 3 f fd ["self", "bricks", "lap", "reach"] (sp_Stock___init__ K c_Stock c_BadStock) := by
  have O_BadStock___init__ := ok_BadStock___init__ (P := P) (w := w) (base := base) T
  have O__are_bricks := ok__are_bricks (P := P) (w := w) (base := base) T
  have O_is_whole_1 := ok_is_whole_1 (P := P) (w := w) (base := base) T
  have O_is_whole_2 := ok_is_whole_2 (P := P) (w := w) (base := base) T
  have O_is_whole_3 := ok_is_whole_3 (P := P) (w := w) (base := base) T
  refine F.ok (CX := (L2.CX P w)) sc_Stock___init__ (fun vs H Q E h => ?_) (fun cdv A outer s H vs Q E hr h => ?_)
  · obtain ⟨a, b, c, d, rfl, _⟩ := h; rfl
  · obtain ⟨a, b, c, d, rfl, h⟩ := h
    have TK := takes_of (X := cxOf (L2.CX P w) P w K mg base ["self", "bricks", "lap", "reach"] "Stock.__init__" (defScope s_Stock___init__) f cdv A outer s H E) rfl rfl rfl rfl
    refine ⟨_, (pss_cons (ps_if (pt_not (Z.pt_truN (Z.pe_callO O__are_bricks (by rfl) (hr.mono (by decide)) pass0 (pa_cons (pv 1) pa_nil))))
        (pss_one (ps_raise (by rfl) TK (Z.pmk_errO T.x_BadStock O_BadStock___init__ (hr.mono (by decide)) T.g_BadStock (by rfl) (pa_cons pe_str pa_nil))))
        pss_nil)
      (pss_cons (ps_if (pt_not (Z.pt_truN (Z.pe_callO O_is_whole_3 (by rfl) (hr.mono (by decide)) pass0 (pa_cons (pv 2) (pa_cons pe_int (pa_cons pe_int pa_nil))))))
        (pss_one (ps_raise (by rfl) TK (Z.pmk_errO T.x_BadStock O_BadStock___init__ (hr.mono (by decide)) T.g_BadStock (by rfl) (pa_cons pe_str pa_nil))))
        pss_nil)
      (pss_cons (ps_if (pt_not (Z.pt_truN (Z.pe_callO O_is_whole_3 (by rfl) (hr.mono (by decide)) pass0 (pa_cons (pv 3) (pa_cons pe_int (pa_cons pe_int pa_nil))))))
        (pss_one (ps_raise (by rfl) TK (Z.pmk_errO T.x_BadStock O_BadStock___init__ (hr.mono (by decide)) T.g_BadStock (by rfl) (pa_cons pe_str pa_nil))))
        pss_nil)
      (pss_cons (ps_fld (pv 0) (pe_callTy Z.zTuple (by rfl) T.b_tuple (by decide +kernel) (pa_cons (pv 1) pa_nil)) rfl)
      (pss_cons (ps_fld (pv 0) (pv 2) rfl)
      (pss_one (ps_fld (pv 0) (pv 3) rfl))))))), ?_⟩
    try dsimp only [cxOf, Cx.nox, Cx.wish]
    refine Z.at_start (σ' := [some a, some b, some c, some d]) rfl ?_
    obtain ⟨L, x, dx, o, k1, k2, rfl, F, hs, ht, hc, hd, kE, kQ⟩ := h
    have sub : ∀ e ∈ L, e ∈ (Z.En.ob x (.ins c_Stock dx []) :: Z.En.ob dx (.own x) :: L) := fun e h => List.mem_cons_of_mem _ (List.mem_cons_of_mem _ h)
    walk_at "z"
    refine use__are_bricks F (hs.mono sub) (fun xs e y hy => let ⟨k, t⟩ := ht xs e y hy; ⟨k, t.mono sub⟩) fun H1 F1 => ?_
    walk_at "z"
    refine Z.wIf (fun hb => ?_) (fun hb => ?_)
    · have hb' : goodB o = false := by simpa using hb
      walk_at "z"
      refine Z.wMk1 T.x_BadStock.oex T.n_BadStock_what (F1.sub (L' := L) (by walk_at "zsub")) fun e H2 F2 => kE _ (by unfold stockW; rw [if_pos hb']) _ _ F2
    have hb' : goodB o = true := by simpa using hb
    have nb : ¬ goodB o = false := by rw [hb']; decide
    walk_at "z"
    refine use_is_whole ((hc.mono sub).has F1) (.inr ⟨_, rfl⟩) (.inr ⟨_, rfl⟩) ?_
    walk_at "z"
    refine Z.wIf (fun h1 => ?_) (fun h1 => ?_)
    · have h1' : Z.inB c (.int 1) (.int 4) = false := by simpa using h1
      walk_at "z"
      refine Z.wMk1 T.x_BadStock.oex T.n_BadStock_what (F1.sub (L' := L) (by walk_at "zsub")) fun e H2 F2 => kE _ (by unfold stockW; rw [if_neg nb, if_pos h1']) _ _ F2
    have h1' : ¬ Z.inB c (.int 1) (.int 4) = false := by simpa using h1
    walk_at "z"
    refine use_is_whole ((hd.mono sub).has F1) (.inr ⟨_, rfl⟩) (.inr ⟨_, rfl⟩) ?_
    walk_at "z"
    refine Z.wIf (fun h2 => ?_) (fun h2 => ?_)
    · have h2' : Z.inB d (.int 1) (.int 2) = false := by simpa using h2
      walk_at "z"
      refine Z.wMk1 T.x_BadStock.oex T.n_BadStock_what (F1.sub (L' := L) (by walk_at "zsub")) fun e H2 F2 => kE _ (by unfold stockW; rw [if_neg nb, if_neg h1', if_pos h2']) _ _ F2
    have h2' : ¬ Z.inB d (.int 1) (.int 2) = false := by simpa using h2
    have hw : stockW o c d = none := by unfold stockW; rw [if_neg nb, if_neg h1', if_neg h2']
    have hcl := T.i_Stock.cl
    cases hs with
    | @lst q xs m =>
      walk_at "z"
      rename_i p H2 F2
      refine Z.wStoreF F2 (by walk_at "zm") hcl T.n_Stock_bricks (by decide) (.tail .head) fun H3 F3 => ?_
      walk_at "z"
      refine Z.wStoreF F3 (by walk_at "zm") hcl T.n_Stock_lap (Nat.lt_of_le_of_lt (putF_len _ _ _) (by decide)) (.tail .head) fun H4 F4 => ?_
      walk_at "z"
      refine Z.wStoreF F4 (by walk_at "zm") hcl T.n_Stock_reach (Nat.lt_of_le_of_lt (putF_len _ _ _) (Nat.lt_of_le_of_lt (Nat.succ_le_succ (putF_len _ _ _)) (by decide))) (.tail .head) fun H5 F5 => ?_
      refine kQ hw xs p (.ob p (.tup xs) :: L) _ rfl .new (F5.perm ?_)
      exact (List.Perm.swap _ _ _).trans ((List.Perm.swap _ _ _).cons _)
    | @tup q xs m =>
      walk_at "z"
      refine Z.wStoreF F1 (by walk_at "zm") hcl T.n_Stock_bricks (by decide) .head fun H3 F3 => ?_
      walk_at "z"
      refine Z.wStoreF F3 (by walk_at "zm") hcl T.n_Stock_lap (Nat.lt_of_le_of_lt (putF_len _ _ _) (by decide)) .head fun H4 F4 => ?_
      walk_at "z"
      refine Z.wStoreF F4 (by walk_at "zm") hcl T.n_Stock_reach (Nat.lt_of_le_of_lt (putF_len _ _ _) (Nat.lt_of_le_of_lt (Nat.succ_le_succ (putF_len _ _ _)) (by decide))) .head fun H5 F5 => ?_
      exact kQ hw xs q L _ rfl (.same rfl m) F5
    | _ => exact absurd hb' (by decide)
theorem ok_Stock___init___3 (T : Txt K mg c_BadCourse c_BadStock c_BadWall c_Clash c_Stock c_Wall) : Z.MkO (L2.CX P w) P w K mg base c_Stock 3 ["self", "bricks", "lap", "reach"] [] (sp_Stock___init__ K c_Stock c_BadStock) := by
  obtain ⟨f, fd, F, i⟩ := T.d_Stock___init__
  obtain ⟨ds, v, b⟩ := F.binds1 (ps := ["self", "bricks", "lap", "reach"]) 4 2 (by decide) rfl fun T kV doc pm an cdv ct us its h1 h2 => match us, h1, its, h2 with | [_, _, _, _], _, [_, _], _ => ⟨_, rfl, rfl⟩
  exact ⟨f, fd, ds, i, b, v, fn_Stock___init__ T F⟩
theorem use_Stock {cS cB : Addr} {H : Hp} {QX : Addr → Hp → Prop} {E : XK} {L : List Z.En} {b c d : V} {o : Option (List V)} {k1 k2 : Z.Kd} (F : Z.Fx H L) (hs : Z.SeqIs L b o) (ht : ∀ xs, o = some xs → ∀ x ∈ xs, ∃ k, Z.Thing L x k) (hc : Z.Thing L c k1) (hd : Z.Thing L d k2)
    (kE : ∀ w, stockW o c d = some w → ∀ e H', Z.Fx H' (.ob e (.xd [("what", .str w)]) :: L) → E (.ref cB) (some e) H')
    (kQ : stockW o c d = none → ∀ x dx xs p L1 H', o = some xs → StL L b xs p L1 → Z.Fx H' (.ob x (.ins cS dx (stockF (.ref p) c d)) :: .ob dx (.own x) :: L1) → QX x H') :
    ∀ x dx, H x = none → H dx = none → dx ≠ x → sp_Stock___init__ K cS cB [.ref x, b, c, d] (upd (upd H dx (.own x)) x (.ins cS dx [])) (fun v H2 => v = .non ∧ QX x H2) E := fun x dx hx hdx ne =>
  ⟨_, _, _, _, rfl, L, x, dx, o, k1, k2, rfl, F.inst hx hdx ne, hs, ht, hc, hd, kE, fun w xs p L1 H' e s F' => ⟨rfl, kQ w x dx xs p L1 H' e s F'⟩⟩
def gKw {α : Type} : List α → List α → List α → List α
  | [a, b], _, [r, l] => [a, b, l, r]
  | _, _, _ => []
theorem gKw_rel {vs ds zs : List V} {us its ws : List Value} (h1 : Vals vs us) (h2 : Vals ds its) (h3 : Vals zs ws) : Vals (gKw vs ds zs) (gKw us its ws) := by
  cases h1 with
  | nil => exact .nil
  | cons a r1 =>
    cases r1 with
    | nil => exact .nil
    | cons b r2 =>
      cases r2 with
      | cons _ _ => exact .nil
      | nil =>
        cases h3 with
        | nil => exact .nil
        | cons c r3 =>
          cases r3 with
          | nil => exact .nil
          | cons d r4 =>
            cases r4 with
            | nil => exact .cons a (.cons b (.cons d (.cons c .nil)))
            | cons _ _ => exact .nil
theorem ok_Stock___init___k1_reach_lap (T : Txt K mg c_BadCourse c_BadStock c_BadWall c_Clash c_Stock c_Wall) : Z.MkKO (L2.CX P w) P w K mg base c_Stock 3 ["self", "bricks", "lap", "reach"] ["reach", "lap"] 1 (fun vs zs => gKw vs [.int 1, .int 1] zs) (sp_Stock___init__ K c_Stock c_BadStock) := by
  obtain ⟨f, fd, F, i⟩ := T.d_Stock___init__
  obtain ⟨its, b⟩ := F.kbindsD (ps := ["self", "bricks", "lap", "reach"]) 2 ["reach", "lap"] gKw (by decide) (fun h1 h2 h3 => gKw_rel h1 h2 h3) fun T kV doc pm an cdv ct us its ws h1 h2 h3 => match us, h1, its, h2, ws, h3 with | [_, _], _, [_, _], _, [_, _], _ => ⟨_, rfl, rfl⟩
  exact ⟨f, fd, _, i, b, fn_Stock___init__ T F⟩
theorem sc_Stock___eq__ : FnScope ["self", "other"] ["self", "other"] (defScope s_Stock___eq__) := ⟨rfl, rfl, rfl, by decide +kernel, rfl, by decide +kernel, by decide +kernel⟩
/-- at x a stock of the bricks ns -/
def StockIn (cS : Addr) (L : List Z.En) (x : Addr) (ns : List Int) (l r : Int) : Prop := ∃ dx p, Z.En.ob x (.ins cS dx (stockF (.ref p) (.int l) (.int r))) ∈ L ∧ Z.En.ob p (.tup (ns.map V.int)) ∈ L
def sp_Stock___eq__ (K : PySem.W.Frag) (cS : Addr) : Sp := Z.Sp2 fun a b H Q E => ∃ (L : List Z.En) (x : Addr) (ns : List Int) (l r : Int), a = .ref x ∧ Z.Fx H L ∧ StockIn cS L x ns l r ∧
  ((∃ y ms l' r', b = .ref y ∧ StockIn cS L y ms l' r' ∧ Q (.bl (decide (ns = ms) && (decide (l = l') && decide (r = r')))) H) ∨ ∃ y ys, b = .ref y ∧ Z.En.ob y (.tup ys) ∈ L ∧ Q (.bl false) H)
theorem fn_Stock___eq__ (T : Txt K mg c_BadCourse c_BadStock c_BadWall c_Clash c_Stock c_Wall) {f : Addr} {fd : FuncData} (F : Fun K "__eq__" "Stock.__eq__" s_Stock___eq__ f fd) : FnOk P w K mg base CX0 1 f fd ["self", "other"] (sp_Stock___eq__ K c_Stock) := by
  refine F.ok sc_Stock___eq__ (fun vs H Q E h => ?_) (fun cdv A outer s H vs Q E hr h => ?_)
  · obtain ⟨a, b, rfl, _⟩ := h; rfl
  · obtain ⟨a, b, rfl, h⟩ := h
    refine ⟨_, (pss_one (ps_ret (pe_andT (pe_callB Z.zIsi (by rfl) T.b_isinstance (by decide +kernel) (pa_cons (pv 1) (pa_cons (pe_glob (v := V.ref c_Stock) (by rfl) T.g_Stock (show RelV (V.ref _) _ from rfl)) pa_nil))) (pe_andT (pe_cmpR (Z.zEq (Z.hu0 hr)) (pe_fld (pv 0) rfl) (pe_fld (pv 1) rfl) (nomark _)) (pe_andT (pe_cmpR (Z.zEq (Z.hu0 hr)) (pe_fld (pv 0) rfl) (pe_fld (pv 1) rfl) (nomark _)) (pe_one (pe_cmpR (Z.zEq (Z.hu0 hr)) (pe_fld (pv 0) rfl) (pe_fld (pv 1) rfl) (nomark _)))))))), ?_⟩
    try dsimp only [cxOf, Cx.nox, Cx.wish]
    refine Z.at_start (σ' := [some a, some b]) rfl ?_
    obtain ⟨L, x, ns, l, r, rfl, F, ⟨dx, p, m1, m2⟩, h⟩ := h
    have hcl := T.i_Stock.cl
    rcases h with ⟨y, ms, l', r', rfl, ⟨dy, q, n1, n2⟩, h⟩ | ⟨y, ys, rfl, n1, h⟩
    · walk_at "z"
      refine Z.wIsiOwn T.i_Stock (F.get n1) ?_
      walk_at "z"
      refine Z.wFldAt F m1 hcl T.n_Stock_bricks (stock_bricks _ _ _) ?_
      walk_at "z"
      refine Z.wFldAt F n1 hcl T.n_Stock_bricks (stock_bricks _ _ _) ?_
      refine Z.wEqTT (F.tup m2) (F.tup n2) ?_
      walk_at "z"
      refine Z.wIfD (fun h1 => ?_) (fun h1 => ?_)
      · walk_at "z"
        refine Z.wFldAt F m1 hcl T.n_Stock_lap (stock_lap _ _ _) ?_
        walk_at "z"
        refine Z.wFldAt F n1 hcl T.n_Stock_lap (stock_lap _ _ _) ?_
        walk_at "z"
        refine Z.wIfD (fun h2 => ?_) (fun h2 => ?_)
        · walk_at "z"
          refine Z.wFldAt F m1 hcl T.n_Stock_reach (stock_reach _ _ _) ?_
          walk_at "z"
          refine Z.wFldAt F n1 hcl T.n_Stock_reach (stock_reach _ _ _) ?_
          walk_at "z"
          simpa [h1, h2] using h
        · simpa [h1, h2] using h
      · simpa [h1] using h
    · walk_at "z"
      refine Z.wIsiTupOwn T.i_Stock (F.tup n1) ?_
      walk_at "z"
      exact h
theorem ok_Stock___eq__ (T : Txt K mg c_BadCourse c_BadStock c_BadWall c_Clash c_Stock c_Wall) : Z.EqO P w K mg base c_Stock 1 ["self", "other"] (sp_Stock___eq__ K c_Stock) := by
  obtain ⟨f, fd, F, i⟩ := T.d_Stock___eq__
  exact ⟨f, fd, i, (F.binds (ps := ["self", "other"]) fun _ _ _ _ _ _ us hl => match us, hl with | [_, _], _ => rfl), fn_Stock___eq__ T F⟩
theorem intOf_inB {x lo hi : V} (h : Z.inB x lo hi = true) : ∃ v, x = .int v := by
  cases x with
  | int i => exact ⟨i, rfl⟩
  | _ => exact absurd h (by simp [Z.inB])
/-- what a stock that no word refuses is made of -/
theorem stock_data {o : Option (List V)} {nv fv : V} (h : stockW o nv fv = none) : ∃ (ns : List Int) (l r : Int), o = some (ns.map V.int) ∧ goodB (some (ns.map V.int)) = true ∧ nv = .int l ∧ fv = .int r ∧ (1 ≤ l ∧ l ≤ 4) ∧ 1 ≤ r ∧ r ≤ 2 := by
  unfold stockW at h
  by_cases g : goodB o = false
  · rw [if_pos g] at h; cases h
  rw [if_neg g] at h
  by_cases g1 : Z.inB nv (.int 1) (.int 4) = false
  · rw [if_pos g1] at h; cases h
  rw [if_neg g1] at h
  by_cases g2 : Z.inB fv (.int 1) (.int 2) = false
  · rw [if_pos g2] at h; cases h
  have e0 : goodB o = true := by simpa using g
  have e1 : Z.inB nv (.int 1) (.int 4) = true := by simpa using g1
  have e2 : Z.inB fv (.int 1) (.int 2) = true := by simpa using g2
  cases o with
  | none => cases e0
  | some xs =>
    have e3 : (Z.inLen 1 4 (some xs) && xs.all (fun x => Z.inB x (.int 1) (.int 8)) && Z.asc (xs.map intV)) = true := e0
    rw [Bool.and_eq_true, Bool.and_eq_true] at e3
    obtain ⟨ns, rfl⟩ := Z.ints_of e3.1.2
    obtain ⟨l, rfl⟩ := intOf_inB e1
    obtain ⟨r, rfl⟩ := intOf_inB e2
    simp only [Z.inB, Bool.and_eq_true, decide_eq_true_eq] at e1 e2
    exact ⟨ns, l, r, rfl, e0, rfl, rfl, e1, e2⟩
/-- a stock is made of anything: the word that is due, or the stock -/
theorem use_StockX {K : PySem.W.Frag} {cS cB : Addr} {H : Hp} {QX : Addr → Hp → Prop} {E : XK} {L : List Z.En} {b c d : V} {o : Option (List V)} {k1 k2 : Z.Kd} (F : Z.Fx H L) (hs : Z.SeqIs L b o) (ht : ∀ xs, o = some xs → ∀ x ∈ xs, ∃ k, Z.Thing L x k) (hc : Z.Thing L c k1) (hd : Z.Thing L d k2)
    (kE : ∀ w, stockW o c d = some w → ∀ e H', Z.Fx H' (.ob e (.xd [("what", .str w)]) :: L) → E (.ref cB) (some e) H')
    (kQ : ∀ ns l r, o = some (ns.map V.int) → goodB (some (ns.map V.int)) = true → c = .int l → d = .int r → (1 ≤ l ∧ l ≤ 4) → (1 ≤ r ∧ r ≤ 2) → ∀ x L2 H', L.Sublist L2 → StockIn cS L2 x ns l r → Z.Fx H' L2 → QX x H') :
    ∀ x dx, H x = none → H dx = none → dx ≠ x → sp_Stock___init__ K cS cB [.ref x, b, c, d] (upd (upd H dx (.own x)) x (.ins cS dx [])) (fun v H2 => v = .non ∧ QX x H2) E :=
  use_Stock F hs ht hc hd kE fun hw x dx xs p L1 H' e st F' => by
    obtain ⟨ns, l, r, eo, hg, rfl, rfl, hl, hr⟩ := stock_data hw
    subst e
    cases eo
    exact kQ ns l r rfl hg rfl rfl hl hr x _ H' (.cons _ (.cons _ st.sub)) ⟨dx, p, List.mem_cons_self, List.mem_cons_of_mem _ (List.mem_cons_of_mem _ st.mem)⟩ F'
theorem ints_things {L : List Z.En} {ns : List Int} : ∀ xs, some (ns.map V.int) = some xs → ∀ x ∈ xs, ∃ k, Z.Thing L x k := fun xs e x hx => by
  cases e
  obtain ⟨z, _, rfl⟩ := List.mem_map.mp hx
  exact ⟨_, .int z⟩
theorem good_ints {ns : List Int} (h : goodB (some (ns.map V.int)) = true) : 1 ≤ ns.length ∧ ns.length ≤ 4 ∧ (∀ n ∈ ns, 1 ≤ n ∧ n ≤ 8) ∧ ns.Pairwise (· < ·) := by
  have h' : (Z.inLen 1 4 (some (ns.map V.int)) && (ns.map V.int).all (fun x => Z.inB x (.int 1) (.int 8)) && Z.asc ((ns.map V.int).map intV)) = true := h
  rw [intV_map, Bool.and_eq_true, Bool.and_eq_true] at h'
  obtain ⟨⟨h1, h2⟩, h3⟩ := h'
  simp only [Z.inLen, Bool.and_eq_true, List.length_map] at h1
  have a := of_decide_eq_true h1.1
  have b := of_decide_eq_true h1.2
  refine ⟨by omega, by omega, fun n hn => ?_, Z.asc_pw.mp h3⟩
  have c := List.all_eq_true.mp h2 (.int n) (List.mem_map_of_mem hn)
  simp [Z.inB] at c
  omega
theorem good_of {ns : List Int} (n1 : 1 ≤ ns.length) (n4 : ns.length ≤ 4) (n8 : ∀ n ∈ ns, 1 ≤ n ∧ n ≤ 8) (p : ns.Pairwise (· < ·)) : goodB (some (ns.map V.int)) = true := by
  have e1 : Z.inLen 1 4 (some (ns.map V.int)) = true := by simp only [Z.inLen, Bool.and_eq_true, decide_eq_true_eq, List.length_map]; omega
  have e2 : (ns.map V.int).all (fun x => Z.inB x (.int 1) (.int 8)) = true := by
    rw [List.all_eq_true]
    intro x hx
    obtain ⟨z, hz, rfl⟩ := List.mem_map.mp hx
    simp only [Z.inB, Bool.and_eq_true, decide_eq_true_eq]
    exact n8 z hz
  show (Z.inLen 1 4 (some (ns.map V.int)) && (ns.map V.int).all (fun x => Z.inB x (.int 1) (.int 8)) && Z.asc ((ns.map V.int).map intV)) = true
  rw [e1, e2, intV_map, Z.asc_pw.mpr p]
  rfl
theorem filt_yes {ns : List Int} {i : Nat} {v z : Int} (h : ns[i]? = some v) (n : v ≠ z) : (ns.take (i + 1)).filter (· != z) = (ns.take i).filter (· != z) ++ [v] := by
  rw [List.take_add_one,
        h, List.filter_append]
  simp [n]
theorem filt_no {ns : List Int} {i : Nat} {v z : Int} (h : ns[i]? = some v) (n : v = z) : (ns.take (i + 1)).filter (· != z) = (ns.take i).filter (· != z) := by
  rw [List.take_add_one,
        h, List.filter_append]
  simp [n]
theorem stock_no {m : Str} (b l r : V) (h1 : m ≠ "bricks") (h2 : m ≠ "lap") (h3 : m ≠ "reach") : (stockF b l r).lookup m = none := by
  unfold stockF
  rw [lookup_putF, if_neg h3, lookup_putF, if_neg h2, lookup_putF, if_neg h1]
  rfl
theorem StockIn.le {cS : Addr} {L L2 : List Z.En} {ns : List Int} {l r : Int} {x : Addr} (s : StockIn cS L x ns l r) (h : L.Sublist L2) : StockIn cS L2 x ns l r := by
  obtain ⟨dx, p, m1, m2⟩ := s
  exact ⟨dx, p, h.subset m1, h.subset m2⟩
theorem ints_injG {a b : List Int} (h : some (a.map V.int) = some (b.map V.int)) : a = b := by
  have e := Option.some.inj h
  have e2 := congrArg (List.map intV) e
  rw [intV_map, intV_map] at e2
  exact e2
theorem stockW_G {ms : List Int} {l r : Int} (hg : goodB (some (ms.map V.int)) = true) (hl : 1 ≤ l ∧ l ≤ 4) (hr : 1 ≤ r ∧ r ≤ 2) : stockW (some (ms.map V.int)) (.int l) (.int r) = none := by
  have e1 : Z.inB (.int l) (.int 1) (.int 4) = true := by simp [Z.inB]; omega
  have e2 : Z.inB (.int r) (.int 1) (.int 2) = true := by simp [Z.inB]; omega
  unfold stockW
  rw [if_neg (by rw [hg]; decide), if_neg (by rw [e1]; decide), if_neg (by rw [e2]; decide)]
theorem use_StockG {K : PySem.W.Frag} {cS cB : Addr} {H : Hp} {QX : Addr → Hp → Prop} {E : XK} {L : List Z.En} {b : V} {ns : List Int} {l r : Int} (F : Z.Fx H L) (hs : Z.SeqIs L b (some (ns.map V.int))) (hg : goodB (some (ns.map V.int)) = true) (hl : 1 ≤ l ∧ l ≤ 4) (hr : 1 ≤ r ∧ r ≤ 2)
    (k : ∀ x L2 H', L.Sublist L2 → StockIn cS L2 x ns l r → Z.Fx H' L2 → QX x H') :
    ∀ x dx, H x = none → H dx = none → dx ≠ x → sp_Stock___init__ K cS cB [.ref x, b, .int l, .int r] (upd (upd H dx (.own x)) x (.ins cS dx [])) (fun v H2 => v = .non ∧ QX x H2) E :=
  use_StockX F hs ints_things (.int _) (.int _) (fun w hw => by rw [stockW_G hg hl hr] at hw; cases hw) (fun ms l' r' em hgm el er _ _ x L2 H' s si F' => by
    obtain rfl := ints_injG em
    injection el with e1
    injection er with e2
    subst e1 e2
    exact k x L2 H' s si F')
theorem sc_length_of : FnScope ["course"] ["course"] (defScope s_length_of) := ⟨rfl, rfl, rfl, by decide +kernel, rfl, by decide +kernel, by decide +kernel⟩
def sp_length_of (K : PySem.W.Frag) : Sp := Z.Sp1 fun a H Q E => ∃ (L : List Z.En) (ns : List Int), Z.Fx H L ∧ Z.SeqIs L a (some (ns.map V.int)) ∧ Q (.int ns.sum) H
theorem fn_length_of (T : Txt K mg c_BadCourse c_BadStock c_BadWall c_Clash c_Stock c_Wall) {f : Addr} {fd : FuncData} (F : Fun K "length_of" "length_of" s_length_of f fd) : FnOk P w K mg base CX0 1 f fd ["course"] (sp_length_of K) := by
  refine F.ok sc_length_of (fun vs H Q E h => ?_) (fun cdv A outer s H vs Q E hr h => ?_)
  · obtain ⟨a, rfl, _⟩ := h; rfl
  · obtain ⟨a, rfl, h⟩ := h
    refine ⟨_, (pss_one (ps_ret (pe_callB (Z.cr_sumS rfl) (by rfl) T.b_sum (by decide +kernel) (pa_cons (pv 0) pa_nil)))), ?_⟩
    try dsimp only [cxOf, Cx.nox, Cx.wish]
    refine Z.at_start (σ' := [some a]) rfl ?_
    obtain ⟨L, ns, F, hs, q⟩ := h
    walk_at "z"
    refine Z.wSumS hs F ?_
    exact q
theorem ok_length_of (T : Txt K mg c_BadCourse c_BadStock c_BadWall c_Clash c_Stock c_Wall) : Z.Ok CX0 P w K mg base "length_of" 1 ["course"] [] (sp_length_of K) := by
  obtain ⟨f, fd, F, g⟩ := T.d_length_of
  exact Z.mkOk F g (F.binds (ps := ["course"]) fun _ _ _ _ _ _ us hl => match us, hl with | [_], _ => rfl) (fn_length_of T F)
theorem use_length_of {H : Hp} {Q : VK} {E : XK} {L : List Z.En} {a : V} {ns : List Int} (F : Z.Fx H L) (hs : Z.SeqIs L a (some (ns.map V.int))) (q : Q (.int ns.sum) H) : sp_length_of K [a] H Q E := ⟨_, rfl, L, ns, F, hs, q⟩
theorem sc_BadCourse___init__ : FnScope ["self", "index", "what"] ["self", "index", "what"] (defScope s_BadCourse___init__) := ⟨rfl, rfl, rfl, by decide +kernel, rfl, by decide +kernel, by decide +kernel⟩

theorem fn_BadCourse___init__ (T : Txt K mg c_BadCourse c_BadStock c_BadWall c_Clash c_Stock c_Wall) {f : Addr} {fd : FuncData} (F : Fun K "__init__" "BadCourse.__init__" s_BadCourse___init__ f fd) : FnOk P w K mg base CX0 1 f fd ["self", "index", "what"] (Z.spErr2 K "index" "what") := by
  refine F.ok sc_BadCourse___init__ (fun vs H Q E h => ?_) (fun cdv A outer s H vs Q E hr h => ?_)
  · obtain ⟨a, b, c, rfl, _⟩ := h; rfl
  · obtain ⟨a, b, c, rfl, h⟩ := h
    refine ⟨_, (pss_cons (ps_ost (pv 0) (pv 1))
      (pss_one (ps_ost (pv 0) (pv 2)))), ?_⟩
    try dsimp only [cxOf, Cx.nox, Cx.wish]
    refine Z.at_start (σ' := [some a, some b, some c]) rfl ?_
    exact Z.init2_run h
theorem ok_BadCourse___init__ (T : Txt K mg c_BadCourse c_BadStock c_BadWall c_Clash c_Stock c_Wall) : Z.ErrO P w K mg base c_BadCourse 1 ["self", "index", "what"] (Z.spErr2 K "index" "what") := by
  obtain ⟨f, fd, F, i⟩ := T.d_BadCourse___init__
  exact ⟨f, fd, i, (F.binds (ps := ["self", "index", "what"]) fun _ _ _ _ _ _ us hl => match us, hl with | [_, _, _], _ => rfl), fn_BadCourse___init__ T F⟩
theorem sc_check_course : FnScope ["stock", "course", "index", "brick"] ["stock", "course"] (defScope s_check_course) := ⟨rfl, rfl, rfl, by decide +kernel, rfl, by decide +kernel, by decide +kernel⟩
def brickOk (ns : List Int) (y : V) : Bool := match y with | .int z => decide (z ∈ ns) | _ => false
/-- the first word that is due of a course -/
def courseW (ns : List Int) : Option (List V) → Option (Int × Str)
  | none => some (0, "many")
  | some xs => if Z.inLen 1 400 (some xs) = false then some (0, "many") else if xs.all (brickOk ns) = false then some (((xs.findIdx fun y => !brickOk ns y : Nat) : Int), "brick") else if 400 < (xs.map intV).sum then some (0, "long") else none
theorem courseW_at {ns : List Int} {xs : List V} {i : Nat} {y : V} (hl : Z.inLen 1 400 (some xs) = true) (h : ∀ y ∈ xs.take i, brickOk ns y = true) (hy : xs[i]? = some y) (hn : brickOk ns y = false) : courseW ns (some xs) = some ((i : Int), ("brick" : Str)) := by
  obtain ⟨hi, e⟩ := List.getElem?_eq_some_iff.mp hy
  have ea : xs.all (brickOk ns) = false := by
    rw [List.all_eq_false]
    exact ⟨y, List.mem_of_getElem? hy, by rw [hn]; decide⟩
  have ef : xs.findIdx (fun y => !brickOk ns y) = i := by
    rw [List.findIdx_eq hi]
    refine ⟨by rw [e, hn]; rfl, fun j hj => ?_⟩
    rw [h (xs[j]'(by omega)) (List.mem_take_iff_getElem.mpr ⟨j, by omega, rfl⟩)]
    rfl
  show (if _ then _ else _) = _
  rw [if_neg (by rw [hl]; decide), if_pos ea, ef]
theorem ints_of_ok {ns : List Int} : ∀ {xs : List V}, (∀ y ∈ xs, brickOk ns y = true) → ∃ cs : List Int, xs = cs.map V.int ∧ ∀ c ∈ cs, c ∈ ns
  | [], _ => ⟨[], rfl, by simp⟩
  | y :: r, h => by
    obtain ⟨cs, e, hc⟩ := ints_of_ok (xs := r) fun z hz => h z (List.mem_cons_of_mem _ hz)
    have hy := h y List.mem_cons_self
    cases y with
    | int z =>
      have hz : z ∈ ns := of_decide_eq_true hy
      exact ⟨z :: cs, by rw [e]; rfl, fun c hc' => by
        rcases List.mem_cons.mp hc' with rfl | hc'
        · exact hz
        · exact hc c hc'⟩
    | _ => exact absurd hy (by simp [brickOk])
def sp_check_course (K : PySem.W.Frag) (cS cB : Addr) : Sp := Z.Sp2 fun a b H Q E => ∃ (L : List Z.En) (x : Addr) (ns : List Int) (l r : Int) (o : Option (List V)), a = .ref x ∧ Z.Fx H L ∧ StockIn cS L x ns l r ∧ Z.SeqIs L b o ∧ (∀ xs, o = some xs → ∀ x ∈ xs, ∃ k, Z.Thing L x k) ∧
  (∀ i w, courseW ns o = some (i, w) → ∀ e H', Z.Fx H' (.ob e (.xd [("what", .str w), ("index", .int i)]) :: L) → E (.ref cB) (some e) H') ∧
  (courseW ns o = none → ∀ (cs : List Int) (p : Addr) (L1 : List Z.En) (H' : Hp), o = some (cs.map V.int) → (∀ c ∈ cs, c ∈ ns) → 1 ≤ cs.length → cs.length ≤ 400 → cs.sum ≤ 400 → StL L b (cs.map V.int) p L1 → Z.Fx H' L1 → Q (.ref p) H')
theorem fn_check_course (T : Txt K mg c_BadCourse c_BadStock c_BadWall c_Clash c_Stock c_Wall) {f : Addr} {fd : FuncData} (F : Fun K "check_course" "check_course" s_check_course f fd) : FnOk P w K mg base (L2.CX P w) 3 f fd ["stock", "course"] (sp_check_course K c_Stock c_BadCourse) := by
  have O_BadCourse___init__ := ok_BadCourse___init__ (P := P) (w := w) (base := base) T
  have O_is_sequence := ok_is_sequence (P := P) (w := w) (base := base) T
  have O_is_whole_1 := ok_is_whole_1 (P := P) (w := w) (base := base) T
  have O_is_whole_2 := ok_is_whole_2 (P := P) (w := w) (base := base) T
  have O_is_whole_3 := ok_is_whole_3 (P := P) (w := w) (base := base) T
  have O_length_of := ok_length_of (P := P) (w := w) (base := base) T
  refine F.okX sc_check_course (fun vs H Q E h => ?_) (fun cdv A outer s H vs Q E hr h => ?_)
  · obtain ⟨a, b, rfl, _⟩ := h; rfl
  · obtain ⟨a, b, rfl, h⟩ := h
    have TK := takes_of (X := cxOf (L2.CX P w) P w K mg base ["stock", "course", "index", "brick"] "check_course" (defScope s_check_course) f cdv A outer s H E) rfl rfl rfl rfl
    refine ⟨_, (pss_cons (ps_if (pt_not (Z.pt_truN (Z.pe_callO O_is_sequence (by rfl) (hr.mono (by decide)) pass0 (pa_cons (pv 1) (pa_cons pe_int (pa_cons pe_int pa_nil))))))
        (pss_one (ps_raise (by rfl) TK (Z.pmk_errO T.x_BadCourse O_BadCourse___init__ (hr.mono (by decide)) T.g_BadCourse (by rfl) (pa_cons pe_int (pa_cons pe_str pa_nil)))))
        pss_nil)
      (pss_cons (ps_for (Z.owns rfl) (by rfl) (Z.pi_enumS (by rfl) T.b_enumerate (pa_cons (pv 1) pa_nil)) (pg_tup (by rfl) (pgs_cons (pg_name (i := 2) sc_check_course.nd rfl (by first | exact Or.inl rfl | exact Or.inr rfl)) (pgs_cons (pg_name (i := 3) sc_check_course.nd rfl (by first | exact Or.inl rfl | exact Or.inr rfl)) pgs_nil)))
        (pss_one (ps_if (PW.pt (pw_or (pt_not (Z.pt_truN (Z.pe_callO O_is_whole_1 (by rfl) (hr.mono (by decide)) pass0 (pa_cons (pv 3) pa_nil)))) (pw_or1 (pt_cmpR Z.zNotIn (pv 3) (pe_fld (pv 0) rfl) (by rfl)))))
          (pss_one (ps_raise (by rfl) TK (Z.pmk_errO T.x_BadCourse O_BadCourse___init__ (hr.mono (by decide)) T.g_BadCourse (by rfl) (pa_cons (pv 2) (pa_cons pe_str pa_nil)))))
          pss_nil)))
      (pss_cons (ps_if (pt_cmpR Z.zGt (Z.pe_callO O_length_of (by rfl) (hr.mono (by decide)) pass0 (pa_cons (pv 1) pa_nil)) pe_int (nomark _))
        (pss_one (ps_raise (by rfl) TK (Z.pmk_errO T.x_BadCourse O_BadCourse___init__ (hr.mono (by decide)) T.g_BadCourse (by rfl) (pa_cons pe_int (pa_cons pe_str pa_nil)))))
        pss_nil)
      (pss_one (ps_ret (pe_callTy Z.zTuple (by rfl) T.b_tuple (by decide +kernel) (pa_cons (pv 1) pa_nil))))))), ?_⟩
    try dsimp only [cxOf, Cx.nox, Cx.wish]
    refine Z.at_start (σ' := [some a, some b, none, none]) rfl ?_
    obtain ⟨L, x, ns, l, r, o, rfl, F, ⟨dx, p, m1, m2⟩, hs, ht, kE, kQ⟩ := h
    have hcl := T.i_Stock.cl
    walk_at "z"
    rename_i H1 F1
    refine Z.wIf (fun hb => ?_) (fun hb => ?_)
    · walk_at "z"
      have hb' : Z.inLen 1 400 o = false := by simpa using hb
      refine Z.wMk2 T.x_BadCourse.oex T.n_BadCourse_index T.n_BadCourse_what F1 fun e H2 F2 => kE 0 "many" ?_ _ _ F2
      cases o with
      | none => rfl
      | some xs => exact if_pos hb'
    have hl : Z.inLen 1 400 o = true := by simpa using hb
    cases o with
    | none => exact absurd hl (by decide)
    | some xs =>
      have ht := ht xs rfl
      walk_at "z"
      refine Z.wForE hs F1 (fun i σ H' => ∃ v2 v3, σ = [some (.ref x), some b, v2, v3] ∧ Z.Fx H' L ∧ ∀ y ∈ xs.take i, brickOk ns y = true) ?_ ?_ ?_ ?_
      · exact ⟨_, _, rfl, F1, by simp⟩
      · rintro i σ H' ⟨v2, v3, rfl, F', _⟩
        exact ⟨L, F', fun _ _ h => h⟩
      · rintro i y t σ H2 hy ⟨v2, v3, rfl, F2, h2⟩ hT
        obtain ⟨ky, ty⟩ := ht y (List.mem_of_getElem? hy)
        have F3 := F2.new (o := .tup [.int (i : Nat), y]) hT
        generalize upd H2 t (.tup [.int (i : Nat), y]) = H3 at *
        have hky := (ty.cons (e := .ob t (.tup [.int (i : Nat), y]))).has (K := K) F3
        have ett : xs.take (i + 1) = xs.take i ++ [y] := by rw [List.take_add_one, hy]; rfl
        walk_at "z"
        have bad : brickOk ns y = false → ∀ e H', Z.Fx H' (.ob e (.xd [("what", .str "brick"), ("index", .int (i : Nat))]) :: L) → E (.ref c_BadCourse) (some e) H' := fun hn => kE i "brick" (courseW_at hl h2 hy hn)
        cases y with
        | int z =>
          walk_at "z"
          refine Z.wFldAt F3 (.tail _ m1) hcl T.n_Stock_bricks (stock_bricks _ _ _) ?_
          refine Z.wNotInTu (F3.tup (.tail _ m2)) ?_
          walk_at "z"
          refine Z.wIf (fun hz => ?_) (fun hz => ?_)
          · walk_at "z"
            exact Z.wMk2 T.x_BadCourse.oex T.n_BadCourse_index T.n_BadCourse_what (F3.sub (L' := L) (by walk_at "zsub")) (bad (by simpa [brickOk] using hz))
          · walk_at "z"
            refine ⟨_, _, rfl, F3.sub (by walk_at "zsub"), fun u hu => ?_⟩
            rw [ett] at hu
            rcases List.mem_append.mp
                  hu with hu | hu
            · exact h2 u hu
            · cases List.mem_singleton.mp hu
              simpa [brickOk] using hz
        | _ =>
          walk_at "z"
          exact Z.wMk2 T.x_BadCourse.oex T.n_BadCourse_index T.n_BadCourse_what (F3.sub (L' := L) (by walk_at "zsub")) (bad rfl)
      · rintro σ H2 ⟨v2, v3, rfl, F2, h2⟩
        rw [List.take_length] at h2
        obtain ⟨cs, rfl, hc⟩ := ints_of_ok h2
        have ea : (cs.map V.int).all (brickOk ns) = true := List.all_eq_true.mpr h2
        have hl2 : 1 ≤ cs.length ∧ cs.length ≤ 400 := by
          simp only [Z.inLen, Bool.and_eq_true, List.length_map] at hl
          have a := of_decide_eq_true hl.1
          have b := of_decide_eq_true hl.2
          omega
        walk_at "z"
        refine use_length_of F2 hs ?_
        walk_at "z"
        have ew : courseW ns (some (cs.map V.int)) = if 400 < cs.sum then some (0, ("long" : Str)) else none := by
          show (if _ then _ else _) = _
          rw [if_neg (by rw [hl]; decide), if_neg (by rw [ea]; decide), intV_map]
        refine Z.wIfD (fun h4 => ?_) (fun h4 => ?_)
        · walk_at "z"
          exact Z.wMk2 T.x_BadCourse.oex T.n_BadCourse_index T.n_BadCourse_what F2 fun e H3 F3 => kE 0 "long" (by rw [ew, if_pos h4]) _ _ F3
        · have kQ := kQ (by rw [ew, if_neg h4])
          generalize ey : cs.map V.int = ys at hs
          cases hs with
          | lst m =>
            subst ey
            walk_at "z"
            rename_i t H3 F3
            exact kQ cs t _ _ rfl hc hl2.1 hl2.2 (by omega) .new F3
          | tup m =>
            subst ey
            walk_at "z"
            exact kQ cs _ _ _ rfl hc hl2.1 hl2.2 (by omega) (.same rfl m) F2
theorem ok_check_course (T : Txt K mg c_BadCourse c_BadStock c_BadWall c_Clash c_Stock c_Wall) : Z.Ok (L2.CX P w) P w K mg base "check_course" 3 ["stock", "course"] [] (sp_check_course K c_Stock c_BadCourse) := by
  obtain ⟨f, fd, F, g⟩ := T.d_check_course
  exact Z.mkOk F g (F.binds (ps := ["stock", "course"]) fun _ _ _ _ _ _ us hl => match us, hl with | [_, _], _ => rfl) (fn_check_course T F)
theorem use_check_course {cS cB : Addr} {H : Hp} {Q : VK} {E : XK} {L : List Z.En} {x : Addr} {b : V} {ns : List Int} {l r : Int} {o : Option (List V)} (F : Z.Fx H L) (si : StockIn cS L x ns l r) (hs : Z.SeqIs L b o) (ht : ∀ xs, o = some xs → ∀ x ∈ xs, ∃ k, Z.Thing L x k)
    (kE : ∀ i w, courseW ns o = some (i, w) → ∀ e H', Z.Fx H' (.ob e (.xd [("what", .str w), ("index", .int i)]) :: L) → E (.ref cB) (some e) H')
    (kQ : courseW ns o = none → ∀ (cs : List Int) (p : Addr) (L1 : List Z.En) (H' : Hp), o = some (cs.map V.int) → (∀ c ∈ cs, c ∈ ns) → 1 ≤ cs.length → cs.length ≤ 400 → cs.sum ≤ 400 → StL L b (cs.map V.int) p L1 → Z.Fx H' L1 → Q (.ref p) H') : sp_check_course K cS cB [.ref x, b] H Q E :=
  ⟨_, _, rfl, L, x, ns, l, r, o, rfl, F, si, hs, ht, kE, kQ⟩
theorem sc_course_flaw : FnScope ["stock", "course", "length", "row"] ["stock", "course", "length"] (defScope s_course_flaw) := ⟨rfl, rfl, rfl, by decide +kernel, rfl, by decide +kernel, by decide +kernel⟩
/-- a course of the bricks ns -/
def Cok (ns cs : List Int) : Prop := (∀ c ∈ cs, c ∈ ns) ∧ 1 ≤ cs.length ∧ cs.length ≤ 400 ∧ cs.sum ≤ 400
theorem courseW_data {ns : List Int} {o : Option (List V)} (h : courseW ns o = none) : ∃ cs : List Int, o = some (cs.map V.int) ∧ Cok ns cs := by
  cases o with
  | none => exact absurd h (by simp [courseW])
  | some xs =>
    have h' : (if Z.inLen 1 400 (some xs) = false then some ((0 : Int), ("many" : Str)) else if xs.all (brickOk ns) = false then some (((xs.findIdx fun y => !brickOk ns y : Nat) : Int), "brick") else if 400 < (xs.map intV).sum then some (0, "long") else none) = none := h
    by_cases h1 : Z.inLen 1 400 (some xs) = false
    · rw [if_pos h1] at h'; cases h'
    rw [if_neg h1] at h'
    by_cases h2 : xs.all (brickOk ns) = false
    · rw [if_pos h2] at h'; cases h'
    rw [if_neg h2] at h'
    by_cases h3 : 400 < (xs.map intV).sum
    · rw [if_pos h3] at h'; cases h'
    obtain ⟨cs, rfl, hc⟩ := ints_of_ok (xs := xs) (ns := ns) (List.all_eq_true.mp (by simpa using h2))
    rw [intV_map] at h3
    have h4 : Z.inLen 1 400 (some (cs.map V.int)) = true := by simpa using h1
    simp only [Z.inLen, Bool.and_eq_true, decide_eq_true_eq, List.length_map] at h4
    exact ⟨cs, rfl, hc, by omega, by omega, by omega⟩
theorem courseW_good {ns cs : List Int} (h : Cok ns cs) : courseW ns (some (cs.map V.int)) = none := by
  obtain ⟨h, l1, l4, s4⟩ := h
  have hl : Z.inLen 1 400 (some (cs.map V.int)) = true := by simp only [Z.inLen, Bool.and_eq_true, decide_eq_true_eq, List.length_map]; omega
  have ha : (cs.map V.int).all (brickOk ns) = true := by
    rw [List.all_eq_true]
    intro y hy
    obtain ⟨c, hc, rfl⟩ := List.mem_map.mp hy
    exact decide_eq_true (h c hc)
  show (if _ then _ else _) = _
  rw [if_neg (by rw [hl]; decide), if_neg (by rw [ha]; decide), intV_map, if_neg (by omega)]
/-- a course's first flaw, where a length may be asked for -/
def flawW (ns : List Int) (o : Option (List V)) (m : Option Int) : Option Str := if (courseW ns o).isSome = true then some "course" else match o, m with
  | some xs, some n => if (xs.map intV).sum = n then none else some "length"
  | _, _ => none
theorem flawW_good {ns cs : List Int} (h : Cok ns cs) (m : Option Int) : flawW ns (some (cs.map V.int)) m = match m with | some n => if cs.sum = n then none else some "length" | none => none := by
  unfold flawW
  rw [courseW_good h, if_neg (by simp)]
  cases m with
  | none => rfl
  | some n => dsimp only; rw [intV_map]
theorem flawW_bad {ns : List Int} {o : Option (List V)} {w : Int × Str} (h : courseW ns o = some w) (m : Option Int) : flawW ns o m = some "course" := by
  unfold flawW
  rw [h]
  rfl
def strV : Option Str → V
  | none => .non
  | some s => .str s
/-- a length that is asked for, or none -/
def IsAsk (c : V) (m : Option Int) : Prop := (c = .non ∧ m = none) ∨ ∃ n, c = .int n ∧ m = some n
def sp_course_flaw (K : PySem.W.Frag) (cS : Addr) : Sp := Z.Sp3 fun a b c H Q E => ∃ (L : List Z.En) (x : Addr) (ns : List Int) (l r : Int) (o : Option (List V)) (m : Option Int), a = .ref x ∧ Z.Fx H L ∧ StockIn cS L x ns l r ∧ Z.SeqIs L b o ∧ (∀ xs, o = some xs → ∀ x ∈ xs, ∃ k, Z.Thing L x k) ∧ IsAsk c m ∧ ∀ H', Z.Fx H' L → Q (strV (flawW ns o m)) H'
theorem fn_course_flaw (T : Txt K mg c_BadCourse c_BadStock c_BadWall c_Clash c_Stock c_Wall) {f : Addr} {fd : FuncData} (F : FunD K "course_flaw" "course_flaw" (defArgs s_course_flaw) (defBody s_course_flaw) (defScope s_course_flaw) [.non] [] f fd) : FnOk P w K mg base CX0 4 f fd ["stock", "course", "length"] (sp_course_flaw K c_Stock) := by
  have O_check_course := ok_check_course (P := P) (w := w) (base := base) T
  have O_length_of := ok_length_of (P := P) (w := w) (base := base) T
  refine F.ok (CX := CX0) sc_course_flaw (fun vs H Q E h => ?_) (fun cdv A outer s H vs Q E hr h => ?_)
  · obtain ⟨a, b, c, rfl, _⟩ := h; rfl
  · obtain ⟨a, b, c, rfl, h⟩ := h
    refine ⟨_, (pss_cons (ps_try_only rfl rfl ⟨rfl, by decide, Or.inl T.g_BadCourse⟩ takes0 (fun W pn xe tk _ => (by exact (pss_one (ps_set (i := 3) sc_course_flaw.nd rfl (by first | exact Or.inl rfl | exact Or.inr rfl) (Z.pe_callSO O_check_course (by rfl) (hr.mono (by decide)) (fun σ => passAt tk σ) (pa_cons (pv 0) (pa_cons (pv 1) pa_nil)))))))
        (fun a oe cls d pn hz hf => (by exact (pss_one (ps_ret pe_str)))))
      (pss_one (ps_ret (pe_ifExp (PW.pt (pw_or (pt_cmpR Z.zIs (pv 2) pe_non (nomark _)) (pw_or1 (pt_cmpR (Z.zEq (Z.hu0 hr)) (Z.pe_callO O_length_of (by rfl) (hr.mono (by decide)) pass0 (pa_cons (pv 3) pa_nil)) (pv 2) (nomark _))))) pe_non pe_str)))), ?_⟩
    try dsimp only [cxOf, Cx.nox, Cx.wish]
    refine Z.at_start (σ' := [some a, some b, some c, none]) rfl ?_
    obtain ⟨L, x, ns, l, r, o, m, rfl, F, si, hs, ht, hc, q⟩ := h
    walk_at "z"
    refine use_check_course F si hs ht (fun i w hw e H1 F1 => ?_) (fun hw cs p L1 H1 eo hc1 hc2 hc3 hc4 hst F1 => ?_)
    · refine Z.wOnly_yes T.x_BadCourse.me fun a ha => ?_
      walk_at "z"
      have e := q _ (F1.sub (L' := L) (.cons _ (.refl _)))
      rw [flawW_bad hw] at e
      exact e
    · subst eo
      have e := q _ (F1.sub hst.sub)
      rw [flawW_good ⟨hc1, hc2, hc3, hc4⟩] at e
      walk_at "z"
      rcases hc with ⟨rfl, rfl⟩ | ⟨n, rfl, rfl⟩
      · walk_at "z"
        exact e
      · walk_at "z"
        refine use_length_of F1 (.tup hst.mem) ?_
        walk_at "z"
        dsimp only at e
        refine Z.wIfD (fun h1 => ?_) (fun h1 => ?_)
        · rw [if_pos h1] at e
          walk_at "z"
          exact e
        · rw [if_neg h1] at e
          walk_at "z"
          exact e
theorem ok_course_flaw_2 (T : Txt K mg c_BadCourse c_BadStock c_BadWall c_Clash c_Stock c_Wall) : Z.Ok CX0 P w K mg base "course_flaw" 4 ["stock", "course", "length"] [.non] (sp_course_flaw K c_Stock) := by
  obtain ⟨f, fd, F, g⟩ := T.d_course_flaw
  obtain ⟨ds, v, b⟩ := F.binds1 (ps := ["stock", "course", "length"]) 2 0 (by decide) rfl fun T kV doc pm an cdv ct us its h1 h2 => match us, h1, its, h2 with | [_, _], _, [_], _ => ⟨_, rfl, rfl⟩
  exact ⟨f, fd, ds, g, F.kp, b, v, fn_course_flaw T F⟩
theorem ok_course_flaw_3 (T : Txt K mg c_BadCourse c_BadStock c_BadWall c_Clash c_Stock c_Wall) : Z.Ok CX0 P w K mg base "course_flaw" 4 ["stock", "course", "length"] [] (sp_course_flaw K c_Stock) := by
  obtain ⟨f, fd, F, g⟩ := T.d_course_flaw
  obtain ⟨ds, v, b⟩ := F.binds1 (ps := ["stock", "course", "length"]) 3 1 (by decide) rfl fun T kV doc pm an cdv ct us its h1 h2 => match us, h1, its, h2 with | [_, _, _], _, [_], _ => ⟨_, rfl, rfl⟩
  exact ⟨f, fd, ds, g, F.kp, b, v, fn_course_flaw T F⟩
theorem use_course_flaw {cS : Addr} {H : Hp} {Q : VK} {E : XK} {L : List Z.En} {x : Addr} {b c : V} {ns : List Int} {l r : Int} {o : Option (List V)} {m : Option Int} (F : Z.Fx H L) (si : StockIn cS L x ns l r) (hs : Z.SeqIs L b o) (ht : ∀ xs, o = some xs → ∀ x ∈ xs, ∃ k, Z.Thing L x k)
    (hc : IsAsk c m) (q : ∀ H', Z.Fx H' L → Q (strV (flawW ns o m)) H') : sp_course_flaw K cS [.ref x, b, c] H Q E := ⟨_, _, _, rfl, L, x, ns, l, r, o, m, rfl, F, si, hs, ht, hc, q⟩
theorem sc_BadWall___init__ : FnScope ["self", "index", "what"] ["self", "index", "what"] (defScope s_BadWall___init__) := ⟨rfl, rfl, rfl, by decide +kernel, rfl, by decide +kernel, by decide +kernel⟩

theorem fn_BadWall___init__ (T : Txt K mg c_BadCourse c_BadStock c_BadWall c_Clash c_Stock c_Wall) {f : Addr} {fd : FuncData} (F : Fun K "__init__" "BadWall.__init__" s_BadWall___init__ f fd) : FnOk P w K mg base CX0 1 f fd ["self", "index", "what"] (Z.spErr2 K "index" "what") := by
  refine F.ok sc_BadWall___init__ (fun vs H Q E h => ?_) (fun cdv A outer s H vs Q E hr h => ?_)
  · obtain ⟨a, b, c, rfl, _⟩ := h; rfl
  · obtain ⟨a, b, c, rfl, h⟩ := h
    refine ⟨_, (pss_cons (ps_ost (pv 0) (pv 1))
      (pss_one (ps_ost (pv 0) (pv 2)))), ?_⟩
    try dsimp only [cxOf, Cx.nox, Cx.wish]
    refine Z.at_start (σ' := [some a, some b, some c]) rfl ?_
    exact Z.init2_run h
theorem ok_BadWall___init__ (T : Txt K mg c_BadCourse c_BadStock c_BadWall c_Clash c_Stock c_Wall) : Z.ErrO P w K mg base c_BadWall 1 ["self", "index", "what"] (Z.spErr2 K "index" "what") := by
  obtain ⟨f, fd, F, i⟩ := T.d_BadWall___init__
  exact ⟨f, fd, i, (F.binds (ps := ["self", "index", "what"]) fun _ _ _ _ _ _ us hl => match us, hl with | [_, _, _], _ => rfl), fn_BadWall___init__ T F⟩
theorem sc_course_for : FnScope ["stock", "course", "number", "length", "flaw"] ["stock", "course", "number", "length"] (defScope s_course_for) := ⟨rfl, rfl, rfl, by decide +kernel, rfl, by decide +kernel, by decide +kernel⟩
def sp_course_for (K : PySem.W.Frag) (cS cW : Addr) : Sp := Z.Sp4 fun a b c d H Q E => ∃ (L : List Z.En) (x : Addr) (ns : List Int) (l r : Int) (o : Option (List V)) (m : Option Int) (i : Int), a = .ref x ∧ c = .int i ∧ Z.Fx H L ∧ StockIn cS L x ns l r ∧ Z.SeqIs L b o ∧ (∀ xs, o = some xs → ∀ x ∈ xs, ∃ k, Z.Thing L x k) ∧ IsAsk d m ∧
  (∀ w, flawW ns o m = some w → ∀ e H', Z.Fx H' (.ob e (.xd [("what", .str w), ("index", .int i)]) :: L) → E (.ref cW) (some e) H') ∧
  (flawW ns o m = none → ∀ (cs : List Int) (p : Addr) (L1 : List Z.En) (H' : Hp), o = some (cs.map V.int) → Cok ns cs → (∀ n, m = some n → cs.sum = n) → StL L b (cs.map V.int) p L1 → Z.Fx H' L1 → Q (.ref p) H')
theorem fn_course_for (T : Txt K mg c_BadCourse c_BadStock c_BadWall c_Clash c_Stock c_Wall) {f : Addr} {fd : FuncData} (F : FunD K "course_for" "course_for" (defArgs s_course_for) (defBody s_course_for) (defScope s_course_for) [.non] [] f fd) : FnOk P w K mg base (L2.CX P w) 5 f fd ["stock", "course", "number", "length"] (sp_course_for K c_Stock c_BadWall) := by
  have O_BadWall___init__ := ok_BadWall___init__ (P := P) (w := w) (base := base) T
  have O_course_flaw_2 := ok_course_flaw_2 (P := P) (w := w) (base := base) T
  have O_course_flaw_3 := ok_course_flaw_3 (P := P) (w := w) (base := base) T
  refine F.ok (CX := (L2.CX P w)) sc_course_for (fun vs H Q E h => ?_) (fun cdv A outer s H vs Q E hr h => ?_)
  · obtain ⟨a, b, c, d, rfl, _⟩ := h; rfl
  · obtain ⟨a, b, c, d, rfl, h⟩ := h
    have TK := takes_of (X := cxOf (L2.CX P w) P w K mg base ["stock", "course", "number", "length", "flaw"] "course_for" (defScope s_course_for) f cdv A outer s H E) rfl rfl rfl rfl
    refine ⟨_, (pss_cons (ps_set (i := 4) sc_course_for.nd rfl (by first | exact Or.inl rfl | exact Or.inr rfl) (Z.pe_callO O_course_flaw_3 (by rfl) (hr.mono (by decide)) pass0 (pa_cons (pv 0) (pa_cons (pv 1) (pa_cons (pv 3) pa_nil)))))
      (pss_cons (ps_if (pt_cmpR Z.zIsNot (pv 4) pe_non (nomark _))
        (pss_one (ps_raise (by rfl) TK (Z.pmk_errO T.x_BadWall O_BadWall___init__ (hr.mono (by decide)) T.g_BadWall (by rfl) (pa_cons (pv 2) (pa_cons (pv 4) pa_nil)))))
        pss_nil)
      (pss_one (ps_ret (pe_callTy Z.zTuple (by rfl) T.b_tuple (by decide +kernel) (pa_cons (pv 1) pa_nil)))))), ?_⟩
    try dsimp only [cxOf, Cx.nox, Cx.wish]
    refine Z.at_start (σ' := [some a, some b, some c, some d, none]) rfl ?_
    obtain ⟨L, x, ns, l, r, o, m, i, rfl, rfl, F, si, hs, ht, hd, kE, kQ⟩ := h
    walk_at "z"
    refine use_course_flaw F si hs ht hd fun H1 F1 => ?_
    walk_at "z"
    cases ef : flawW ns o m with
    | some w =>
      dsimp only [strV]
      walk_at "z"
      refine Z.wIfT (by simp) ?_
      walk_at "z"
      exact Z.wMk2 T.x_BadWall.oex T.n_BadWall_index T.n_BadWall_what F1 (kE w ef)
    | none =>
      dsimp only [strV]
      walk_at "z"
      have hw : courseW ns o = none := by
        unfold flawW at ef
        cases e : courseW ns o with
        | none => rfl
        | some w => rw [e] at ef; exact absurd ef (by simp)
      obtain ⟨cs, eo, hok⟩ := courseW_data hw
      have hm : ∀ n, m = some n → cs.sum = n := fun n en => by
        subst en eo
        rw [flawW_good hok] at ef
        dsimp only at ef
        by_cases h : cs.sum = n
        · exact h
        · rw [if_neg h] at ef; cases ef
      subst eo
      refine Z.wIfF (by simp) ?_
      generalize ey : cs.map V.int = ys at hs
      cases hs with
      | lst m =>
        subst ey
        walk_at "z"
        rename_i t H3 F3
        exact kQ ef cs t _ _ rfl hok hm .new F3
      | tup m =>
        subst ey
        walk_at "z"
        exact kQ ef cs _ _ _ rfl hok hm (.same rfl m) F1
theorem ok_course_for_3 (T : Txt K mg c_BadCourse c_BadStock c_BadWall c_Clash c_Stock c_Wall) : Z.Ok (L2.CX P w) P w K mg base "course_for" 5 ["stock", "course", "number", "length"] [.non] (sp_course_for K c_Stock c_BadWall) := by
  obtain ⟨f, fd, F, g⟩ := T.d_course_for
  obtain ⟨ds, v, b⟩ := F.binds1 (ps := ["stock", "course", "number", "length"]) 3 0 (by decide) rfl fun T kV doc pm an cdv ct us its h1 h2 => match us, h1, its, h2 with | [_, _, _], _, [_], _ => ⟨_, rfl, rfl⟩
  exact ⟨f, fd, ds, g, F.kp, b, v, fn_course_for T F⟩
theorem ok_course_for_4 (T : Txt K mg c_BadCourse c_BadStock c_BadWall c_Clash c_Stock c_Wall) : Z.Ok (L2.CX P w) P w K mg base "course_for" 5 ["stock", "course", "number", "length"] [] (sp_course_for K c_Stock c_BadWall) := by
  obtain ⟨f, fd, F, g⟩ := T.d_course_for
  obtain ⟨ds, v, b⟩ := F.binds1 (ps := ["stock", "course", "number", "length"]) 4 1 (by decide) rfl fun T kV doc pm an cdv ct us its h1 h2 => match us, h1, its, h2 with | [_, _, _, _], _, [_], _ => ⟨_, rfl, rfl⟩
  exact ⟨f, fd, ds, g, F.kp, b, v, fn_course_for T F⟩
theorem use_course_for {cS cW : Addr} {H : Hp} {Q : VK} {E : XK} {L : List Z.En} {x : Addr} {b d : V} {ns : List Int} {l r : Int} {o : Option (List V)} {m : Option Int} {i : Int} (F : Z.Fx H L) (si : StockIn cS L x ns l r) (hs : Z.SeqIs L b o) (ht : ∀ xs, o = some xs → ∀ x ∈ xs, ∃ k, Z.Thing L x k)
    (hd : IsAsk d m) (kE : ∀ w, flawW ns o m = some w → ∀ e H', Z.Fx H' (.ob e (.xd [("what", .str w), ("index", .int i)]) :: L) → E (.ref cW) (some e) H')
    (kQ : flawW ns o m = none → ∀ (cs : List Int) (p : Addr) (L1 : List Z.En) (H' : Hp), o = some (cs.map V.int) → Cok ns cs → (∀ n, m = some n → cs.sum = n) → StL L b (cs.map V.int) p L1 → Z.Fx H' L1 → Q (.ref p) H') : sp_course_for K cS cW [.ref x, b, .int i, d] H Q E :=
  ⟨_, _, _, _, rfl, L, x, ns, l, r, o, m, i, rfl, rfl, F, si, hs, ht, hd, kE, kQ⟩
theorem sc__checked_courses : FnScope ["stock", "courses", "checked", "number"] ["stock", "courses"] (defScope s__checked_courses) := ⟨rfl, rfl, rfl, by decide +kernel, rfl, by decide +kernel, by decide +kernel⟩
/-- a tuple of whole numbers -/
def TupOf (L : List Z.En) (v : V) (cs : List Int) : Prop := ∃ a, v = .ref a ∧ Z.En.ob a (.tup (cs.map V.int)) ∈ L
theorem TupOf.le {L L2 : List Z.En} {v : V} {cs : List Int} (h : TupOf L v cs) (s : L.Sublist L2) : TupOf L2 v cs := let ⟨a, e, m⟩ := h; ⟨a, e, s.subset m⟩
theorem TupOf.seq {L : List Z.En} {v : V} {cs : List Int} (h : TupOf L v cs) : Z.SeqIs L v (some (cs.map V.int)) := by
  obtain ⟨a, rfl, m⟩ := h
  exact .tup m
/-- a tuple of such tuples -/
def TupsAt (L : List Z.En) (p : Addr) (rows : List (List Int)) : Prop := ∃ ws, Z.En.ob p (.tup ws) ∈ L ∧ Z.Al2 (TupOf L) ws rows
theorem TupOf.mono {L L2 : List Z.En} {v : V} {cs : List Int} (h : TupOf L v cs) (s : ∀ e ∈ L, e ∈ L2) : TupOf L2 v cs := let ⟨a, e, m⟩ := h; ⟨a, e, s _ m⟩
theorem TupsAt.mono {L L2 : List Z.En} {p : Addr} {rows : List (List Int)} (h : TupsAt L p rows) (s : ∀ e ∈ L, e ∈ L2) : TupsAt L2 p rows := let ⟨ws, m, a⟩ := h; ⟨ws, s _ m, a.mono fun _ _ t => t.mono s⟩
/-- a list and what a tuple of it needs -/
theorem StL.apart {L L1 : List Z.En} {q p : Addr} {xs ys : List V} {b : V} {H : Hp} (h : StL (.ob q (.lst ys) :: L) b xs p L1) (F : Z.Fx H L1) : ∃ L2, L.Sublist L2 ∧ Z.Fx H (.ob q (.lst ys) :: L2) ∧ Z.En.ob p (.tup xs) ∈ L2 := by
  cases h with
  | new => exact ⟨_, .cons _ (.refl _), F.perm (.swap _ _ _), List.mem_cons_self⟩
  | same e m =>
    refine ⟨L, .refl _, F, ?_⟩
    rcases List.mem_cons.mp m with h | h
    · cases h
    · exact h
theorem TupsAt.le {L L2 : List Z.En} {p : Addr} {rows : List (List Int)} (h : TupsAt L p rows) (s : L.Sublist L2) : TupsAt L2 p rows := let ⟨ws, m, a⟩ := h; ⟨ws, s.subset m, a.mono fun _ _ t => t.le s⟩
/-- what is handed in as a course -/
def CourseAt (L : List Z.En) (v : V) (o : Option (List V)) : Prop := Z.SeqIs L v o ∧ ∀ xs, o = some xs → ∀ x ∈ xs, ∃ k, Z.Thing L x k
theorem CourseAt.mono {L L2 : List Z.En} {v : V} {o : Option (List V)} (h : CourseAt L v o) (s : ∀ e ∈ L, e ∈ L2) : CourseAt L2 v o :=
  ⟨h.1.mono s, fun xs e x hx => let ⟨k, t⟩ := h.2 xs e x hx; ⟨k, t.mono s⟩⟩
def sumO (o : Option (List V)) : Int := match o with | some xs => (xs.map intV).sum | none => 0
def flawAt (ns : List Int) (os : List (Option (List V))) (j : Nat) : Option Str := flawW ns (os.getD j none) (if j = 0 then none else some (sumO (os.getD 0 none)))
/-- rows of a wall -/
def WRows (ns : List Int) (rows : List (List Int)) : Prop := 1 ≤ rows.length ∧ rows.length ≤ 60 ∧ ∀ cs ∈ rows, Cok ns cs ∧ cs.sum = (rows.getD 0 []).sum
def intsO (cs : List Int) : Option (List V) := some (cs.map V.int)
def sp__checked_courses (K : PySem.W.Frag) (cS cW : Addr) : Sp := Z.Sp2 fun a b H Q E => ∃ (L : List Z.En) (x : Addr) (ns : List Int) (l r : Int) (oc : Option (List V)) (os : List (Option (List V))), a = .ref x ∧ Z.Fx H L ∧ StockIn cS L x ns l r ∧ Z.SeqIs L b oc ∧
  (∀ vs, oc = some vs → Z.Al2 (CourseAt L) vs os) ∧
  (Z.inLen 1 60 oc = false → ∀ e H', Z.Fx H' (.ob e (.xd [("what", .str "many"), ("index", .int 0)]) :: L) → E (.ref cW) (some e) H') ∧
  (∀ (i : Nat) w, Z.inLen 1 60 oc = true → i < os.length → (∀ j < i, flawAt ns os j = none) → flawAt ns os i = some w → ∀ e H', Z.Fx H' (.ob e (.xd [("what", .str w), ("index", .int (i : Nat))]) :: L) → E (.ref cW) (some e) H') ∧
  (∀ rows, Z.inLen 1 60 oc = true → os = rows.map intsO → WRows ns rows → ∀ p L1 H', L.Sublist L1 → TupsAt L1 p rows → Z.Fx H' L1 → Q (.ref p) H')
theorem fn__checked_courses (T : Txt K mg c_BadCourse c_BadStock c_BadWall c_Clash c_Stock c_Wall) {f : Addr} {fd : FuncData} (F : Fun K "_checked_courses" "_checked_courses" s__checked_courses f fd) : FnOk P w K mg base (L2.CX P w) 6 f fd ["stock", "courses"] (sp__checked_courses K c_Stock c_BadWall) := by
  have O_BadWall___init__ := ok_BadWall___init__ (P := P) (w := w) (base := base) T
  have O_course_for_3 := ok_course_for_3 (P := P) (w := w) (base := base) T
  have O_course_for_4 := ok_course_for_4 (P := P) (w := w) (base := base) T
  have O_is_sequence := ok_is_sequence (P := P) (w := w) (base := base) T
  have O_length_of := ok_length_of (P := P) (w := w) (base := base) T
  refine F.okX sc__checked_courses (fun vs H Q E h => ?_) (fun cdv A outer s H vs Q E hr h => ?_)
  · obtain ⟨a, b, rfl, _⟩ := h; rfl
  · obtain ⟨a, b, rfl, h⟩ := h
    have TK := takes_of (X := cxOf (L2.CX P w) P w K mg base ["stock", "courses", "checked", "number"] "_checked_courses" (defScope s__checked_courses) f cdv A outer s H E) rfl rfl rfl rfl
    refine ⟨_, (pss_cons (ps_if (pt_not (Z.pt_truN (Z.pe_callO O_is_sequence (by rfl) (hr.mono (by decide)) pass0 (pa_cons (pv 1) (pa_cons pe_int (pa_cons pe_int pa_nil))))))
        (pss_one (ps_raise (by rfl) TK (Z.pmk_errO T.x_BadWall O_BadWall___init__ (hr.mono (by decide)) T.g_BadWall (by rfl) (pa_cons pe_int (pa_cons pe_str pa_nil)))))
        pss_nil)
      (pss_cons (ps_set (i := 2) sc__checked_courses.nd rfl (by first | exact Or.inl rfl | exact Or.inr rfl) (pe_lst (pa_cons (Z.pe_callO O_course_for_3 (by rfl) (hr.mono (by decide)) (Z.passE TK) (pa_cons (pv 0) (pa_cons (pe_ix ix_seq (pv 1) pe_int (fun _ _ => rfl)) (pa_cons pe_int pa_nil)))) pa_nil)))
      (pss_cons (ps_for (Z.owns rfl) (by rfl) (pi_range2 (by rfl) T.b_range (pa_cons pe_int (pa_cons (pe_callB Z.zLen (by rfl) T.b_len (by decide +kernel) (pa_cons (pv 1) pa_nil)) pa_nil))) (pg_name (i := 3) sc__checked_courses.nd rfl (by first | exact Or.inl rfl | exact Or.inr rfl))
        (pss_one (ps_expr (pe_bm PySem.F.plainAttrs_list PySem.F.slot_list_append PySem.F.type_list_append mt_append (pv 2) (pa_cons (Z.pe_callO O_course_for_4 (by rfl) (hr.mono (by decide)) (Z.passE TK) (pa_cons (pv 0) (pa_cons (pe_ix ix_seq (pv 1) (pv 3) (fun _ _ => rfl)) (pa_cons (pv 3) (pa_cons (Z.pe_callO O_length_of (by rfl) (hr.mono (by decide)) pass0 (pa_cons (pe_ix ix_seq (pv 2) pe_int (fun _ _ => rfl)) pa_nil)) pa_nil))))) pa_nil)))))
      (pss_one (ps_ret (pe_callTy Z.zTuple (by rfl) T.b_tuple (by decide +kernel) (pa_cons (pv 2) pa_nil))))))), ?_⟩
    try dsimp only [cxOf, Cx.nox, Cx.wish]
    refine Z.at_start (σ' := [some a, some b, none, none]) rfl ?_
    obtain ⟨L, x, ns, l, r, oc, os, rfl, F, si, hs, hal, kM, kF, kQ⟩ := h
    walk_at "z"
    rename_i H1 F1
    refine Z.wIf (fun hb => ?_) (fun hb => ?_)
    · walk_at "z"
      exact Z.wMk2 T.x_BadWall.oex T.n_BadWall_index T.n_BadWall_what F1 (kM (by simpa using hb))
    have hl : Z.inLen 1 60 oc = true := by simpa using hb
    cases oc with
    | none => exact absurd hl (by decide)
    | some vs =>
      have ha := hal vs rfl
      have hvl : 1 ≤ vs.length ∧ vs.length ≤ 60 := by
        simp only [Z.inLen, Bool.and_eq_true, decide_eq_true_eq] at hl
        omega
      have hol := ha.len
      obtain ⟨v0, ev0⟩ : ∃ v0, vs[0]? = some v0 := ⟨_, List.getElem?_eq_getElem (by omega)⟩
      obtain ⟨o0, eo0, c0⟩ := ha.getL ev0
      have g0 : os.getD 0 none = o0 := by rw [List.getD_eq_getElem?_getD, eo0]; rfl
      walk_at "z"
      refine Z.wIxSq hs F1 (atI_nat (j := 0) ev0) ?_
      walk_at "z"
      refine use_course_for F1 si c0.1 c0.2 (.inl ⟨rfl, rfl⟩) (fun w hw e H2 F2 => kF 0 w hl (by omega) (fun j hj => absurd hj (Nat.not_lt_zero _)) (by unfold flawAt; rw [g0]; exact hw) e H2 F2) (fun hw cs0 p0 L1 H2 eo hok _ hst F2 => ?_)
      subst eo
      walk_at "z"
      rename_i cp H3 F3
      have s1 := hst.sub
      have m0 := hst.mem
      have fl0 : flawAt ns os 0 = none := by unfold flawAt; rw [g0]; exact hw
      have os0 : sumO (os.getD 0 none) = cs0.sum := by rw [g0]; show ((cs0.map V.int).map intV).sum = _; rw [intV_map]
      have eo0' : os[0]? = some (intsO cs0) := eo0
      walk_at "z"
      refine Z.wLenSq (hs.mono fun _ h => .tail _ (s1.subset h)) F3 ?_
      walk_at "z"
      refine Z.wForW walk_range (fun i σ H' => ∃ v3 L' vs' rows, σ = [some (.ref x), some b, some (.ref cp), v3] ∧ L.Sublist L' ∧ Z.Fx H' (.ob cp (.lst vs') :: L') ∧ Z.Al2 (TupOf L') vs' rows ∧ rows.length = i + 1 ∧ rows.getD 0 [] = cs0 ∧ rows.map intsO = os.take (i + 1) ∧
        (∀ cs ∈ rows, Cok ns cs ∧ cs.sum = cs0.sum) ∧ ∀ j < i + 1, flawAt ns os j = none) ?_ (fun _ _ _ _ _ => trivial) ?_ ?_
      · refine ⟨_, L1, [.ref p0], [cs0], rfl, s1, F3, .one ⟨p0, rfl, m0⟩, rfl, rfl, ?_, fun cs h => ?_, fun j hj => ?_⟩
        · rw [List.take_add_one, eo0']
          rfl
        · cases List.mem_singleton.mp h
          exact ⟨hok, rfl⟩
        · rw [show j = 0 by omega]
          exact fl0
      · rintro i u σ H4 H5 hi ⟨v3, L', vs', rows, rfl, s4, F4, hal4, hrl, hr0, hro, hrk, hfl⟩ ⟨rfl, rfl⟩
        dsimp only
        have hi2 : i + 1 < vs.length := by omega
        have e1 : (1 : Int) + (i : Int) = ((i + 1 : Nat) : Int) := by omega
        rw [e1]
        obtain ⟨v, ev⟩ : ∃ v, vs[i + 1]? = some v := ⟨_, List.getElem?_eq_getElem hi2⟩
        obtain ⟨o, eo, co⟩ := ha.getL ev
        have g1 : os.getD (i + 1) none = o := by rw [List.getD_eq_getElem?_getD, eo]; rfl
        have s5 : ∀ e ∈ L, e ∈ (Z.En.ob cp (.lst vs') :: L') := fun e h => .tail _ (s4.subset h)
        have co5 := co.mono s5
        have hl4 := hal4.len
        obtain ⟨w0, ew0⟩ : ∃ w0, vs'[0]? = some w0 := ⟨_, List.getElem?_eq_getElem (by omega)⟩
        have tw0 := hal4.get 0 w0 cs0 ew0 (by
          have : rows[0]? = some (rows[0]'(by omega)) := List.getElem?_eq_getElem (by omega)
          rw [List.getD_eq_getElem?_getD, this] at hr0
          rw [this]
          exact congrArg some hr0)
        walk_at "z"
        refine Z.wIxSq (hs.mono s5) F4 (atI_nat (j := i + 1) ev) ?_
        walk_at "z"
        refine Z.wIxL (F4.lst List.mem_cons_self) (atI_nat (j := 0) ew0) ?_
        walk_at "z"
        refine use_length_of F4 ((tw0.le (.cons _ (.refl _))).seq) ?_
        walk_at "z"
        have fa : flawAt ns os (i + 1) = flawW ns o (some cs0.sum) := by
          unfold flawAt
          rw [g1, if_neg (Nat.succ_ne_zero i), os0]
        refine use_course_for F4 (si.le (s4.trans (.cons _ (.refl _)))) co5.1 co5.2 (.inr ⟨_, rfl, rfl⟩) (fun w hw e H6 F6 => kF (i + 1) w hl (by omega) hfl (by rw [fa]; exact hw) e H6 (F6.sub (.cons_cons _ (.cons _ s4)))) (fun hw cs p L6 H6 ec hok6 hsm hst6 F6 => ?_)
        subst ec
        have s6 := hst6.sub
        have m6 := hst6.mem
        obtain ⟨L7, s7, F7, m7⟩ := hst6.apart F6
        clear F6 s6 m6 hst6
        walk_at "z"
        rename_i H8 F8
        refine ⟨_, L7, vs' ++ [.ref p], rows ++ [cs], rfl, s4.trans s7, F8, (hal4.mono fun _ _ t => t.le s7).snoc ⟨p, rfl, m7⟩, by rw [List.length_append, hrl]; rfl, ?_, ?_, ?_, ?_⟩
        · rw [List.getD_eq_getElem?_getD, List.getElem?_append_left (by omega), ← List.getD_eq_getElem?_getD]
          exact hr0
        · rw [List.map_append, hro, List.take_add_one (i := i + 1), eo]
          rfl
        · intro c hc
          rcases List.mem_append.mp
                hc with h | h
          · exact hrk c h
          · cases List.mem_singleton.mp h
            exact ⟨hok6, hsm _ rfl⟩
        · intro j hj
          by_cases e : j = i + 1
          · subst e
            rw [fa]
            exact hw
          · exact hfl j (by omega)
      · rintro σ H4 ⟨v3, L', vs', rows, rfl, s4, F4, hal4, hrl, hr0, hro, hrk, hfl⟩
        walk_at "z"
        rename_i t H5 F5
        have en : ((vs.length : Int) - 1).toNat + 1 = os.length := by omega
        rw [en, List.take_length] at hro
        refine kQ rows hl hro.symm ⟨by omega, by omega, fun cs h => ?_⟩ t (.ob t (.tup vs') :: L') H5 (.cons _ s4) ⟨vs', List.mem_cons_self, hal4.mono fun _ _ t => t.le (.cons _ (.refl _))⟩ (F5.sub (.cons_cons _ (.cons _ (.refl _))))
        rw [hr0]
        exact hrk cs h
theorem ok__checked_courses (T : Txt K mg c_BadCourse c_BadStock c_BadWall c_Clash c_Stock c_Wall) : Z.Ok (L2.CX P w) P w K mg base "_checked_courses" 6 ["stock", "courses"] [] (sp__checked_courses K c_Stock c_BadWall) := by
  obtain ⟨f, fd, F, g⟩ := T.d__checked_courses
  exact Z.mkOk F g (F.binds (ps := ["stock", "courses"]) fun _ _ _ _ _ _ us hl => match us, hl with | [_, _], _ => rfl) (fn__checked_courses T F)
theorem use__checked_courses {cS cW : Addr} {H : Hp} {Q : VK} {E : XK} {L : List Z.En} {x : Addr} {b : V} {ns : List Int} {l r : Int} {oc : Option (List V)} {os : List (Option (List V))} (F : Z.Fx H L) (si : StockIn cS L x ns l r) (hs : Z.SeqIs L b oc)
    (ha : ∀ vs, oc = some vs → Z.Al2 (CourseAt L) vs os)
    (kM : Z.inLen 1 60 oc = false → ∀ e H', Z.Fx H' (.ob e (.xd [("what", .str "many"), ("index", .int 0)]) :: L) → E (.ref cW) (some e) H')
    (kF : ∀ (i : Nat) w, Z.inLen 1 60 oc = true → i < os.length → (∀ j < i, flawAt ns os j = none) → flawAt ns os i = some w → ∀ e H', Z.Fx H' (.ob e (.xd [("what", .str w), ("index", .int (i : Nat))]) :: L) → E (.ref cW) (some e) H')
    (kQ : ∀ rows, Z.inLen 1 60 oc = true → os = rows.map intsO → WRows ns rows → ∀ p L1 H', L.Sublist L1 → TupsAt L1 p rows → Z.Fx H' L1 → Q (.ref p) H') : sp__checked_courses K cS cW [.ref x, b] H Q E := ⟨_, _, rfl, L, x, ns, l, r, oc, os, rfl, F, si, hs, ha, kM, kF, kQ⟩
theorem sc_Wall___init__ : FnScope ["self", "stock", "courses"] ["self", "stock", "courses"] (defScope s_Wall___init__) := ⟨rfl, rfl, rfl, by decide +kernel, rfl, by decide +kernel, by decide +kernel⟩
def wallF (s p n : V) : List (Str × V) := putF "length" n (putF "courses" p (putF "stock" s []))
theorem wall_stock (b l r : V) : (wallF b l r).lookup ("stock" : Str) = some b := by
  unfold wallF
  rw [lookup_putF, if_neg (by decide +kernel), lookup_putF, if_neg (by decide +kernel), lookup_putF, if_pos rfl]
theorem wall_courses (b l r : V) : (wallF b l r).lookup ("courses" : Str) = some l := by
  unfold wallF
  rw [lookup_putF, if_neg (by decide +kernel), lookup_putF, if_pos rfl]
theorem wall_length (b l r : V) : (wallF b l r).lookup ("length" : Str) = some r := by
  unfold wallF
  rw [lookup_putF, if_pos rfl]
/-- at y a wall in the stock at x -/
def WallIn (cW : Addr) (L : List Z.En) (y x : Addr) (rows : List (List Int)) : Prop := ∃ dx p, Z.En.ob y (.ins cW dx (wallF (.ref x) (.ref p) (.int (rows.getD 0 []).sum))) ∈ L ∧ TupsAt L p rows
theorem WallIn.le {cW : Addr} {L L2 : List Z.En} {y x : Addr} {rows : List (List Int)} (h : WallIn cW L y x rows) (s : L.Sublist L2) : WallIn cW L2 y x rows := let ⟨dx, p, m, a⟩ := h; ⟨dx, p, s.subset m, a.le s⟩
def sp_Wall___init__ (K : PySem.W.Frag) (cS cW cB : Addr) : Sp := Z.Sp3 fun a b c H Q E => ∃ (L : List Z.En) (y dx x : Addr) (ns : List Int) (l r : Int) (oc : Option (List V)) (os : List (Option (List V))), a = .ref y ∧ b = .ref x ∧
  Z.Fx H (.ob y (.ins cW dx []) :: .ob dx (.own y) :: L) ∧ StockIn cS L x ns l r ∧ Z.SeqIs L c oc ∧ (∀ vs, oc = some vs → Z.Al2 (CourseAt L) vs os) ∧
  (Z.inLen 1 60 oc = false → ∀ e H', Z.Fx H' (.ob e (.xd [("what", .str "many"), ("index", .int 0)]) :: L) → E (.ref cB) (some e) H') ∧
  (∀ (i : Nat) w, Z.inLen 1 60 oc = true → i < os.length → (∀ j < i, flawAt ns os j = none) → flawAt ns os i = some w → ∀ e H', Z.Fx H' (.ob e (.xd [("what", .str w), ("index", .int (i : Nat))]) :: L) → E (.ref cB) (some e) H') ∧
  (∀ rows, Z.inLen 1 60 oc = true → os = rows.map intsO → WRows ns rows → ∀ L1 H', L.Sublist L1 → WallIn cW L1 y x rows → Z.Fx H' L1 → Q .non H')
theorem fn_Wall___init__ (T : Txt K mg c_BadCourse c_BadStock c_BadWall c_Clash c_Stock c_Wall) {f : Addr} {fd : FuncData} (F : Fun K "__init__" "Wall.__init__" s_Wall___init__ f fd) : FnOk P w K mg base (L2.CX P w) 7 f fd ["self", "stock", "courses"] (sp_Wall___init__ K c_Stock c_Wall c_BadWall) := by
  have O__checked_courses := ok__checked_courses (P := P) (w := w) (base := base) T
  have O_length_of := ok_length_of (P := P) (w := w) (base := base) T
  refine F.okX sc_Wall___init__ (fun vs H Q E h => ?_) (fun cdv A outer s H vs Q E hr h => ?_)
  · obtain ⟨a, b, c, rfl, _⟩ := h; rfl
  · obtain ⟨a, b, c, rfl, h⟩ := h
    have TK := takes_of (X := cxOf (L2.CX P w) P w K mg base ["self", "stock", "courses"] "Wall.__init__" (defScope s_Wall___init__) f cdv A outer s H E) rfl rfl rfl rfl
    refine ⟨_, (pss_cons (ps_fld (pv 0) (pv 1) rfl)
      (pss_cons (ps_fld (pv 0) (Z.pe_callO O__checked_courses (by rfl) (hr.mono (by decide)) (Z.passE TK) (pa_cons (pv 1) (pa_cons (pv 2) pa_nil))) rfl)
      (pss_one (ps_fld (pv 0) (Z.pe_callO O_length_of (by rfl) (hr.mono (by decide)) pass0 (pa_cons (pe_ix ix_seq (pe_fld (pv 0) rfl) pe_int (fun _ _ => rfl)) pa_nil)) rfl)))), ?_⟩
    try dsimp only [cxOf, Cx.nox, Cx.wish]
    refine Z.at_start (σ' := [some a, some b, some c]) rfl ?_
    obtain ⟨L, y, dx, x, ns, l, r, oc, os, rfl, rfl, F, si, hs, hal, kM, kF, kQ⟩ := h
    have hcl := T.i_Wall.cl
    walk_at "z"
    refine Z.wStoreF F List.mem_cons_self hcl T.n_Wall_stock (by decide) .head fun H2 F2 => ?_
    have s2 : L.Sublist (Z.En.ob y (.ins c_Wall dx (putF "stock" (.ref x) [])) :: Z.En.ob dx (.own y) :: L) := .cons _ (.cons _ (.refl _))
    walk_at "z"
    refine use__checked_courses F2 (si.le s2) (hs.mono fun _ h => s2.subset h) (fun vs e => (hal vs e).mono fun _ _ c => c.mono fun _ h => s2.subset h) (fun h e H' F' => kM h e H' (F'.sub (.cons_cons _ s2))) (fun i w h1 h2 h3 h4 e H' F' => kF i w h1 h2 h3 h4 e H' (F'.sub (.cons_cons _ s2))) fun rows e1 e2 e3 p L1 H3 s3 ta F3 => ?_
    obtain ⟨L2, pm, s4⟩ := Z.sub_front s3
    have F4 := F3.perm pm
    have ta4 := ta.mono (L2 := .ob y (.ins c_Wall dx (putF "stock" (.ref x) [])) :: L2) fun e h => pm.mem_iff.mp h
    have ta5 : TupsAt L2 p rows := by
      obtain ⟨ws, m, al⟩ := ta4
      have tl : ∀ (a : Addr) (xs : List V), Z.En.ob a (.tup xs) ∈ (Z.En.ob y (.ins c_Wall dx (putF "stock" (.ref x) [])) :: L2) → Z.En.ob a (.tup xs) ∈ L2 := fun a xs h => by
        rcases List.mem_cons.mp h with h | h
        · cases h
        · exact h
      exact ⟨ws, tl _ _ m, al.mono fun v cs ⟨a, e, m⟩ => ⟨a, e, tl _ _ m⟩⟩
    clear F3 F2 F ta4
    walk_at "z"
    refine Z.wStoreF F4 List.mem_cons_self hcl T.n_Wall_courses (Nat.lt_of_le_of_lt (putF_len _ _ _) (by decide)) .head fun H4 F5 => ?_
    walk_at "z"
    refine Z.wFldAt F5 List.mem_cons_self hcl T.n_Wall_courses (by rw [lookup_putF, if_pos rfl]) ?_
    obtain ⟨ws, mw, al⟩ := id ta5
    have wl := al.len
    obtain ⟨w1, _, _⟩ := id e3
    obtain ⟨w0, ew0⟩ : ∃ w0, ws[0]? = some w0 := ⟨_, List.getElem?_eq_getElem (by omega)⟩
    obtain ⟨cs0, ec0, tw0⟩ := al.getL ew0
    have g0 : rows.getD 0 [] = cs0 := by rw [List.getD_eq_getElem?_getD, ec0]; rfl
    refine Z.wIxT (F5.tup (.tail _ mw)) (atI_nat (j := 0) ew0) ?_
    walk_at "z"
    refine use_length_of F5 ((tw0.le (.cons _ (.refl _))).seq) ?_
    walk_at "z"
    refine Z.wStoreF F5 List.mem_cons_self hcl T.n_Wall_length (Nat.lt_of_le_of_lt (putF_len _ _ _) (Nat.lt_of_le_of_lt (Nat.succ_le_succ (putF_len _ _ _)) (by decide))) .head fun H6 F6 => ?_
    walk_at "z"
    refine kQ rows e1 e2 e3 _ _ (.cons _ ((List.Sublist.cons _ (.refl _)).trans s4)) ⟨dx, p, ?_, ta5.le (.cons _ (.refl _))⟩ F6
    rw [g0]
    exact List.mem_cons_self
theorem ok_Wall___init___2 (T : Txt K mg c_BadCourse c_BadStock c_BadWall c_Clash c_Stock c_Wall) : Z.MkO (L2.CX P w) P w K mg base c_Wall 7 ["self", "stock", "courses"] [] (sp_Wall___init__ K c_Stock c_Wall c_BadWall) := by
  obtain ⟨f, fd, F, i⟩ := T.d_Wall___init__
  exact ⟨f, fd, [], i, (F.binds (ps := ["self", "stock", "courses"]) fun _ _ _ _ _ _ us hl => match us, hl with | [_, _, _], _ => rfl), .nil, fn_Wall___init__ T F⟩
theorem use_Wall {cS cW cB : Addr} {H : Hp} {QX : Addr → Hp → Prop} {E : XK} {L : List Z.En} {x : Addr} {c : V} {ns : List Int} {l r : Int} {oc : Option (List V)} {os : List (Option (List V))} (F : Z.Fx H L) (si : StockIn cS L x ns l r) (hs : Z.SeqIs L c oc)
    (ha : ∀ vs, oc = some vs → Z.Al2 (CourseAt L) vs os)
    (kM : Z.inLen 1 60 oc = false → ∀ e H', Z.Fx H' (.ob e (.xd [("what", .str "many"), ("index", .int 0)]) :: L) → E (.ref cB) (some e) H')
    (kF : ∀ (i : Nat) w, Z.inLen 1 60 oc = true → i < os.length → (∀ j < i, flawAt ns os j = none) → flawAt ns os i = some w → ∀ e H', Z.Fx H' (.ob e (.xd [("what", .str w), ("index", .int (i : Nat))]) :: L) → E (.ref cB) (some e) H')
    (kQ : ∀ rows, Z.inLen 1 60 oc = true → os = rows.map intsO → WRows ns rows → ∀ y L1 H', L.Sublist L1 → WallIn cW L1 y x rows → Z.Fx H' L1 → QX y H') :
    ∀ y dx, H y = none → H dx = none → dx ≠ y → sp_Wall___init__ K cS cW cB [.ref y, .ref x, c] (upd (upd H dx (.own y)) y (.ins cW dx [])) (fun v H2 => v = .non ∧ QX y H2) E := fun y dx hy hdx ne =>
  ⟨_, _, _, rfl, L, y, dx, x, ns, l, r, oc, os, rfl, rfl, F.inst hy hdx ne, si, hs, ha, kM, kF, fun rows e1 e2 e3 L1 H' s wi F' => ⟨rfl, kQ rows e1 e2 e3 y L1 H' s wi F'⟩⟩
theorem sc__law_mix : FnScope ["_law_number", "_law_turn", "_law_once", "_law_twice"] ["_law_number", "_law_turn"] (defScope s__law_mix) := ⟨rfl, rfl, rfl, by decide +kernel, rfl, by decide +kernel, by decide +kernel⟩
def sp__law_mix : Sp := Z.Sp2 fun a b H Q E => ∃ x y : Int, a = .int x ∧ b = .int y ∧ ∀ v : Int, Q (.int v) H
theorem fn__law_mix (T : Txt K mg c_BadCourse c_BadStock c_BadWall c_Clash c_Stock c_Wall) {f : Addr} {fd : FuncData} (F : Fun K "_law_mix" "_law_mix" s__law_mix f fd) : FnOk P w K mg base CX0 1 f fd ["_law_number", "_law_turn"] sp__law_mix := by
  refine F.ok sc__law_mix (fun vs H Q E h => ?_) (fun cdv A outer s H vs Q E hr h => ?_)
  · obtain ⟨a, b, rfl, _⟩ := h; rfl
  · obtain ⟨a, b, rfl, h⟩ := h
    refine ⟨_, (pss_cons (ps_set (i := 2) sc__law_mix.nd rfl (by first | exact Or.inl rfl | exact Or.inr rfl) (pe_op Z.zMod (pe_callTy Z.zInt (by rfl) T.b_int (by decide +kernel) (pa_cons (pe_op Z.zAdd (pe_op Z.zAdd (pe_op Z.zMul (pv 0) pe_int) (pe_op Z.zMul (pv 1) pe_int)) pe_int) pa_nil)) pe_int))
      (pss_cons (ps_set (i := 3) sc__law_mix.nd rfl (by first | exact Or.inl rfl | exact Or.inr rfl) (pe_op Z.zMod (pe_callTy Z.zInt (by rfl) T.b_int (by decide +kernel) (pa_cons (pe_op Z.zAdd (pe_op Z.zAdd (pe_op Z.zMul (pv 2) (pv 2)) (pe_op Z.zMul (pe_op Z.zDiv (pv 2) pe_int) pe_int)) (pe_op Z.zMul (pv 1) pe_int)) pa_nil)) pe_int))
      (pss_one (ps_ret (pe_op Z.zDiv (pe_op Z.zMod (pe_callTy Z.zInt (by rfl) T.b_int (by decide +kernel) (pa_cons (pe_op Z.zAdd (pe_op Z.zDiv (pe_op Z.zMul (pv 3) (pv 3)) pe_int) (pv 2)) pa_nil)) pe_int) pe_int))))), ?_⟩
    try dsimp only [cxOf, Cx.nox, Cx.wish]
    refine Z.at_start (σ' := [some a, some b, none, none]) rfl ?_
    obtain ⟨x, y, rfl, rfl, k⟩ := h
    walk_at "z"
    exact k _
theorem ok__law_mix (T : Txt K mg c_BadCourse c_BadStock c_BadWall c_Clash c_Stock c_Wall) : Z.Ok CX0 P w K mg base "_law_mix" 1 ["_law_number", "_law_turn"] [] sp__law_mix := by
  obtain ⟨f, fd, F, g⟩ := T.d__law_mix
  exact Z.mkOk F g (F.binds (ps := ["_law_number", "_law_turn"]) fun _ _ _ _ _ _ us hl => match us, hl with | [_, _], _ => rfl) (fn__law_mix T F)
theorem use__law_mix {H : Hp} {Q : VK} {E : XK} {x y : Int} (k : ∀ v : Int, Q (.int v) H) : sp__law_mix [.int x, .int y] H Q E := ⟨_, _, rfl, x, y, rfl, rfl, k⟩
local macro_rules | `(tactic| walk_at "zc") => `(tactic| (with_reducible refine use__law_mix ?_; intro _))
theorem sc__law_draw : FnScope ["_law_hand_here", "_law_many_here", "_law_cell", "_law_rest"] ["_law_hand_here", "_law_many_here"] (defScope s__law_draw) := ⟨rfl, rfl, rfl, by decide +kernel, rfl, by decide +kernel, by decide +kernel⟩
/-- a draw below m -/
def sp__law_draw : Sp := Z.Sp2 fun a b H Q E => ∃ (L : List Z.En) (l c : Addr) (m : Int), a = .ref l ∧ b = .int m ∧ Z.Fx H L ∧ Z.En.hand l c ∈ L ∧ 0 < m ∧ m.natAbs.log2 < 9000 ∧ ∀ (v : Int) H', Z.Fx H' L → 0 ≤ v → v < m → Q (.int v) H'
theorem fn__law_draw (T : Txt K mg c_BadCourse c_BadStock c_BadWall c_Clash c_Stock c_Wall) {f : Addr} {fd : FuncData} (F : Fun K "_law_draw" "_law_draw" s__law_draw f fd) : FnOk P w K mg base CX0 2 f fd ["_law_hand_here", "_law_many_here"] sp__law_draw := by
  have O__law_mix := ok__law_mix (P := P) (w := w) (base := base) T
  refine F.ok sc__law_draw (fun vs H Q E h => ?_) (fun cdv A outer s H vs Q E hr h => ?_)
  · obtain ⟨a, b, rfl, _⟩ := h; rfl
  · obtain ⟨a, b, rfl, h⟩ := h
    refine ⟨_, (pss_cons (ps_if (PW.pt (pw_and (pt_cmpR (Z.zEq (Z.hu0 hr)) (pe_ix ix_seq (pv 0) pe_int (fun _ _ => rfl)) pe_int (nomark _)) (pw_and1 (pt_cmpR Z.zLt (pe_ix ix_seq (pv 0) pe_int (fun _ _ => rfl)) (pe_callB Z.zLen (by rfl) T.b_len (by decide +kernel) (pa_cons (pe_ix ix_seq (pv 0) pe_int (fun _ _ => rfl)) pa_nil)) (nomark _)))))
        (pss_cons (ps_set (i := 2) sc__law_draw.nd rfl (by first | exact Or.inl rfl | exact Or.inr rfl) (pe_ix ix_seq (pe_ix ix_seq (pv 0) pe_int (fun _ _ => rfl)) (pe_ix ix_seq (pv 0) pe_int (fun _ _ => rfl)) (fun _ _ => rfl)))
        (pss_cons (ps_asg (pe_op Z.zAdd (pe_ix ix_seq (pv 0) pe_int (fun _ _ => rfl)) pe_int) (pg_sub (pv 0) pe_int set_list))
        (pss_cons (ps_if (pt_cmpR Z.zLt (pv 2) (pe_op Z.zPow pe_int pe_int) (nomark _))
          (pss_one (ps_ret (pe_op Z.zMod (pe_callTy Z.zInt (by rfl) T.b_int (by decide +kernel) (pa_cons (Z.pe_callO O__law_mix (by rfl) (hr.mono (by decide)) pass0 (pa_cons (pe_op Z.zMod (pe_callTy Z.zInt (by rfl) T.b_int (by decide +kernel) (pa_cons (pv 2) pa_nil)) pe_int) (pa_cons (pe_ix ix_seq (pv 0) pe_int (fun _ _ => rfl)) pa_nil))) pa_nil)) (pv 1))))
          pss_nil)
        (pss_one (ps_asg (pv 2) (pg_sub (pv 0) pe_int set_list))))))
        pss_nil)
      (pss_cons (ps_if (pt_cmpR Z.zGt (pe_ix ix_seq (pv 0) pe_int (fun _ _ => rfl)) pe_int (nomark _))
        (pss_cons (ps_set (i := 3) sc__law_draw.nd rfl (by first | exact Or.inl rfl | exact Or.inr rfl) (pe_ix ix_seq (pv 0) pe_int (fun _ _ => rfl)))
        (pss_cons (ps_asg (pe_op Z.zDiv (pv 3) (pv 1)) (pg_sub (pv 0) pe_int set_list))
        (pss_one (ps_ret (pe_op Z.zMod (pe_callTy Z.zInt (by rfl) T.b_int (by decide +kernel) (pa_cons (pv 3) pa_nil)) (pv 1))))))
        pss_nil)
      (pss_cons (ps_asg (pe_op Z.zMod (pe_callTy Z.zInt (by rfl) T.b_int (by decide +kernel) (pa_cons (pe_op Z.zAdd (pe_ix ix_seq (pv 0) pe_int (fun _ _ => rfl)) pe_int) pa_nil)) pe_int) (pg_sub (pv 0) pe_int set_list))
      (pss_one (ps_ret (pe_op Z.zMod (pe_callTy Z.zInt (by rfl) T.b_int (by decide +kernel) (pa_cons (Z.pe_callO O__law_mix (by rfl) (hr.mono (by decide)) pass0 (pa_cons (pe_ix ix_seq (pv 0) pe_int (fun _ _ => rfl)) (pa_cons (pe_ix ix_seq (pv 0) pe_int (fun _ _ => rfl)) pa_nil))) pa_nil)) (pv 1))))))), ?_⟩
    try dsimp only [cxOf, Cx.nox, Cx.wish]
    refine Z.at_start (σ' := [some a, some b, none, none]) rfl ?_
    obtain ⟨L, l, c, m, rfl, rfl, F, hm, h0, h9, k⟩ := h
    obtain ⟨ns, i, j, t, L1, hi, G, back⟩ := F.open hm
    clear F hm
    walk_at "zz"
    all_goals (refine' k _ _ (back _ _ _ _ _ ?hiz ?fxz) (Int.emod_nonneg _ (by omega)) (Int.emod_lt_of_pos _ h0); (case fxz => assumption); (case hiz => omega))
theorem ok__law_draw (T : Txt K mg c_BadCourse c_BadStock c_BadWall c_Clash c_Stock c_Wall) : Z.Ok CX0 P w K mg base "_law_draw" 2 ["_law_hand_here", "_law_many_here"] [] sp__law_draw := by
  obtain ⟨f, fd, F, g⟩ := T.d__law_draw
  exact Z.mkOk F g (F.binds (ps := ["_law_hand_here", "_law_many_here"]) fun _ _ _ _ _ _ us hl => match us, hl with | [_, _], _ => rfl) (fn__law_draw T F)
theorem use__law_draw {H : Hp} {Q : VK} {E : XK} {L : List Z.En} {l c : Addr} {m : Int} (F : Z.Fx H L) (hm : Z.En.hand l c ∈ L) (h0 : 0 < m) (h9 : m.natAbs.log2 < 9000) (k : ∀ (v : Int) H', Z.Fx H' L → 0 ≤ v → v < m → Q (.int v) H') : sp__law_draw [.ref l, .int m] H Q E :=
  ⟨_, _, rfl, L, l, c, m, rfl, rfl, F, hm, h0, h9, k⟩
local macro_rules | `(tactic| walk_at "zc") => `(tactic| ((with_reducible refine' use__law_draw ?zf ?zm ?z0 ?z9 ?_); (case zf => walk_at "zF"); (case zm => walk_at "zm"); (case z0 => first | walk_at "zo" | decide); (case z9 => walk_at "zlog"); with_reducible intro _ _ _ _ _))
theorem sc__law_stock : FnScope ["_law_hand_here", "_law_top", "_law_many_here", "_law_pool", "_law_bricks", "_law_turn", "_law_lap"] ["_law_hand_here", "_law_top"] (defScope s__law_stock) := ⟨rfl, rfl, rfl, by decide +kernel, rfl, by decide +kernel, by decide +kernel⟩
/-- one to four bricks up to the top, ascending -/
def Bricks (top : Int) (ns : List Int) : Prop := ns.Pairwise (· < ·) ∧ 1 ≤ ns.length ∧ ns.length ≤ 4 ∧ ∀ n ∈ ns, 1 ≤ n ∧ n ≤ top
/-- at t the law's own stock -/
def St3 (L : List Z.En) (t : Addr) (ns : List Int) (l r : Int) : Prop := ∃ pb, Z.En.ob t (.tup [.ref pb, .int l, .int r]) ∈ L ∧ Z.En.ob pb (.tup (ns.map V.int)) ∈ L
theorem St3.le {L L2 : List Z.En} {t : Addr} {ns : List Int} {l r : Int} (h : St3 L t ns l r) (s : L.Sublist L2) : St3 L2 t ns l r := let ⟨pb, m1, m2⟩ := h; ⟨pb, s.subset m1, s.subset m2⟩
def sp__law_stock (K : PySem.W.Frag) : Sp := Z.Sp2 fun a b H Q E => ∃ (L : List Z.En) (l c : Addr) (top : Int), a = .ref l ∧ b = .int top ∧ Z.Fx H L ∧ Z.En.hand l c ∈ L ∧ 4 ≤ top ∧ top ≤ 8 ∧ ∀ t ns lp r L1 H', Bricks top ns → (1 ≤ lp ∧ lp ≤ 4) → (1 ≤ r ∧ r ≤ 2) → L.Sublist L1 → St3 L1 t ns lp r → Z.Fx H' L1 → Q (.ref t) H'
theorem fn__law_stock (T : Txt K mg c_BadCourse c_BadStock c_BadWall c_Clash c_Stock c_Wall) {f : Addr} {fd : FuncData} (F : Fun K "_law_stock" "_law_stock" s__law_stock f fd) : FnOk P w K mg base CX0 3 f fd ["_law_hand_here", "_law_top"] (sp__law_stock K) := by
  have O__law_draw := ok__law_draw (P := P) (w := w) (base := base) T
  refine F.ok sc__law_stock (fun vs H Q E h => ?_) (fun cdv A outer s H vs Q E hr h => ?_)
  · obtain ⟨a, b, rfl, _⟩ := h; rfl
  · obtain ⟨a, b, rfl, h⟩ := h
    refine ⟨_, (pss_cons (ps_set (i := 2) sc__law_stock.nd rfl (by first | exact Or.inl rfl | exact Or.inr rfl) (pe_ix ix_seq (pe_lst (pa_cons pe_int (pa_cons pe_int (pa_cons pe_int (pa_cons pe_int (pa_cons pe_int (pa_cons pe_int (pa_cons pe_int (pa_cons pe_int pa_nil))))))))) (Z.pe_callO O__law_draw (by rfl) (hr.mono (by decide)) pass0 (pa_cons (pv 0) (pa_cons pe_int pa_nil))) (fun _ _ => rfl)))
      (pss_cons (ps_set (i := 3) sc__law_stock.nd rfl (by first | exact Or.inl rfl | exact Or.inr rfl) (pe_listRg (by rfl) (by rfl) T.b_list (prg_2 (by rfl) T.b_range pe_int (pe_op Z.zAdd (pv 1) pe_int))))
      (pss_cons (ps_set (i := 4) sc__law_stock.nd rfl (by first | exact Or.inl rfl | exact Or.inr rfl) (pe_lst pa_nil))
      (pss_cons (ps_for PassesOwn.never (by rfl) (pi_range1 (by rfl) T.b_range (pa_cons (pv 2) pa_nil)) (pg_name (i := 5) sc__law_stock.nd rfl (by first | exact Or.inl rfl | exact Or.inr rfl))
        (pss_one (ps_expr (pe_bm PySem.F.plainAttrs_list PySem.F.slot_list_append PySem.F.type_list_append mt_append (pv 4) (pa_cons (pe_bm PySem.F.plainAttrs_list PySem.F.slot_list_pop PySem.F.type_list_pop mt_popAt (pv 3) (pa_cons (Z.pe_callO O__law_draw (by rfl) (hr.mono (by decide)) pass0 (pa_cons (pv 0) (pa_cons (pe_callB Z.zLen (by rfl) T.b_len (by decide +kernel) (pa_cons (pv 3) pa_nil)) pa_nil))) pa_nil)) pa_nil)))))
      (pss_cons (ps_set (i := 6) sc__law_stock.nd rfl (by first | exact Or.inl rfl | exact Or.inr rfl) (pe_ix ix_seq (pe_lst (pa_cons pe_int (pa_cons pe_int (pa_cons pe_int (pa_cons pe_int (pa_cons pe_int (pa_cons pe_int (pa_cons pe_int (pa_cons pe_int pa_nil))))))))) (Z.pe_callO O__law_draw (by rfl) (hr.mono (by decide)) pass0 (pa_cons (pv 0) (pa_cons pe_int pa_nil))) (fun _ _ => rfl)))
      (pss_one (ps_ret (pe_tup (pa_cons (pe_callTy Z.zTuple (by rfl) T.b_tuple (by decide +kernel) (pa_cons (pe_callB cr_sorted (by rfl) T.b_sorted (by decide +kernel) (pa_cons (pv 4) pa_nil)) pa_nil)) (pa_cons (pv 6) (pa_cons (pe_ix ix_seq (pe_lst (pa_cons pe_int (pa_cons pe_int (pa_cons pe_int pa_nil)))) (Z.pe_callO O__law_draw (by rfl) (hr.mono (by decide)) pass0 (pa_cons (pv 0) (pa_cons pe_int pa_nil))) (fun _ _ => rfl)) pa_nil))))))))))), ?_⟩
    try dsimp only [cxOf, Cx.nox, Cx.wish]
    refine Z.at_start (σ' := [some a, some b, none, none, none, none, none]) rfl ?_
    obtain ⟨L, l, c, top, rfl, rfl, F, hm, h4, h5, k⟩ := h
    walk_at "z"
    rename_i q1 H1 F1 v1 H2 F2 v10 v11
    have g1 : ∀ m ∈ ([2, 3, 2, 3, 2, 3, 4, 1] : List Int), 1 ≤ m ∧ m ≤ 4 := by decide
    refine Z.wIxLi (ns := [2, 3, 2, 3, 2, 3, 4, 1]) (F2.lst List.mem_cons_self) v10 (by simpa using v11) ?_
    have g2 := g1 _ (List.mem_of_getElem? (Z.get_getD (ns := [2, 3, 2, 3, 2, 3, 4, 1]) (k := v1.toNat) (by simp; omega)))
    generalize ([2, 3, 2, 3, 2, 3, 4, 1] : List Int).getD v1.toNat 0 = many at g2
    have F3 := F2.sub (L' := L) (.cons _ (.refl _))
    clear F1 F2
    walk_at "z"
    rename_i pp Hp0 Fp0 fp Hf0 Ff0
    refine Z.wForW walk_range (fun i σ H' => ∃ (pool found : List Int) (v : Option V), σ = [some (.ref l), some (.int top), some (.int many), some (.ref pp), some (.ref fp), v, none] ∧
      Z.Fx H' (.ob fp (.lst (found.map V.int)) :: .ob pp (.lst (pool.map V.int)) :: L) ∧ found.length = i ∧ (found ++ pool).Perm (Z.rgI 1 (top + 1))) ?_ ?_ ?_ ?_
    · exact ⟨Z.rgI 1 (top + 1), [], _, rfl, Ff0, rfl, .refl _⟩
    · exact fun _ _ _ _ _ => trivial
    · rintro i x σ H1 H2 hi ⟨pool, found, v, rfl, F1, hl, hp⟩ ⟨rfl, rfl⟩
      have hlen := hp.length_eq
      rw [List.length_append, Z.rgI_len] at hlen
      have hpool : 0 < pool.length := by omega
      walk_at "z"
      rename_i k0 H3 F3 hk0 hk1
      have hk2 : k0.toNat < pool.length := by omega
      refine Z.wPopAt (n := k0.toNat) F3 (by walk_at "zm") (.tail .head) (by omega) (by have := Z.line_big; omega) (by rw [List.length_map]; exact Z.seqIx hk0 hk1) (Z.map_get hk2) fun H4 F4 => ?_
      walk_at "z"
      rename_i H5 F5
      have eg := Z.get_getD hk2
      refine ⟨pool.eraseIdx k0.toNat, found ++ [pool.getD k0.toNat 0], _, rfl, ?_, by rw [List.length_append, hl]; rfl, ?_⟩
      · rw [List.map_append, ← Z.map_erase]
        exact F5
      · refine List.Perm.trans ?_ hp
        rw [List.append_assoc]
        exact (Z.erase_perm eg).append_left found
    · rintro σ H1 ⟨pool, found, v, rfl, F1, hl, hp⟩
      have hlen := hp.length_eq
      rw [List.length_append, Z.rgI_len] at hlen
      walk_at "z"
      rename_i q2 H2 F2 v2 H3 F3 v20 v21
      have g3 : ∀ m ∈ ([1, 1, 1, 1, 1, 2, 3, 4] : List Int), 1 ≤ m ∧ m ≤ 4 := by decide
      refine Z.wIxLi (ns := [1, 1, 1, 1, 1, 2, 3, 4]) (F3.lst List.mem_cons_self) v20 (by simpa using v21) ?_
      have g4 := g3 _ (List.mem_of_getElem? (Z.get_getD (ns := [1, 1, 1, 1, 1, 2, 3, 4]) (k := v2.toNat) (by simp; omega)))
      generalize ([1, 1, 1, 1, 1, 2, 3, 4] : List Int).getD v2.toNat 0 = lap at g4
      have F4 := F3.sub (L' := (.ob fp (.lst (found.map V.int)) :: .ob pp (.lst (pool.map V.int)) :: L)) (.cons _ (.refl _))
      clear F2 F3
      walk_at "z"
      refine Z.wSorted (F4.lst List.mem_cons_self) (by omega) F4 fun ms p H2 q r F2 => ?_
      walk_at "z"
      rename_i t H5 F5 q3 H6 F6 v3 H7 F7 v30 v31
      have g5 : ∀ m ∈ ([1, 2, 1] : List Int), 1 ≤ m ∧ m ≤ 2 := by decide
      refine Z.wIxLi (ns := [1, 2, 1]) (F7.lst List.mem_cons_self) v30 (by simpa using v31) ?_
      have g6 := g5 _ (List.mem_of_getElem? (Z.get_getD (ns := [1, 2, 1]) (k := v3.toNat) (by simp; omega)))
      generalize ([1, 2, 1] : List Int).getD v3.toNat 0 = reach at g6
      walk_at "z"
      rename_i t2 H8 F8
      have nd : (found ++ pool).Nodup := hp.nodup_iff.mpr (Z.rgI_nodup _ _)
      have ml := q.length_eq
      refine k t2 ms lap reach _ H8 ⟨Z.pw_lt r (q.nodup_iff.mpr (List.nodup_append.mp nd).1), by omega, by omega, fun n hn => ?_⟩ g4 g6 ?_ ⟨t, List.mem_cons_self, .tail _ (.tail _ List.mem_cons_self)⟩ F8
      · have hb := Z.rgI_mem (hp.mem_iff.mp (List.mem_append_left _ (q.mem_iff.mp hn)))
        omega
      · walk_at "zsub"
theorem ok__law_stock (T : Txt K mg c_BadCourse c_BadStock c_BadWall c_Clash c_Stock c_Wall) : Z.Ok CX0 P w K mg base "_law_stock" 3 ["_law_hand_here", "_law_top"] [] (sp__law_stock K) := by
  obtain ⟨f, fd, F, g⟩ := T.d__law_stock
  exact Z.mkOk F g (F.binds (ps := ["_law_hand_here", "_law_top"]) fun _ _ _ _ _ _ us hl => match us, hl with | [_, _], _ => rfl) (fn__law_stock T F)
theorem use__law_stock {H : Hp} {Q : VK} {E : XK} {L : List Z.En} {l c : Addr} {top : Int} (F : Z.Fx H L) (hm : Z.En.hand l c ∈ L) (h4 : 4 ≤ top) (h5 : top ≤ 8) (k : ∀ t ns lp r L1 H', Bricks top ns → (1 ≤ lp ∧ lp ≤ 4) → (1 ≤ r ∧ r ≤ 2) → L.Sublist L1 → St3 L1 t ns lp r → Z.Fx H' L1 → Q (.ref t) H') : sp__law_stock K [.ref l, .int top] H Q E :=
  ⟨_, _, rfl, L, l, c, top, rfl, rfl, F, hm, h4, h5, k⟩
theorem sc__law_told : FnScope ["_law_stock_here", "_law_courses", "e"] ["_law_stock_here", "_law_courses"] (defScope s__law_told) := ⟨rfl, rfl, rfl, by decide +kernel, rfl, by decide +kernel, by decide +kernel⟩
def sp__law_told (K : PySem.W.Frag) : Sp := Z.Sp2 fun a b H Q E => ∃ (L : List Z.En) (t : Addr) (ns : List Int) (lap r : Int) (oc : Option (List V)) (os : List (Option (List V))), a = .ref t ∧ Z.Fx H L ∧ St3 L t ns lap r ∧ goodB (some (ns.map V.int)) = true ∧ (1 ≤ lap ∧ lap ≤ 4) ∧ (1 ≤ r ∧ r ≤ 2) ∧ Z.SeqIs L b oc ∧ (∀ vs, oc = some vs → Z.Al2 (CourseAt L) vs os) ∧
  (Z.inLen 1 60 oc = false → ∀ q L1 H', L.Sublist L1 → Z.En.ob q (.tup [.int 0, .str "many"]) ∈ L1 → Z.Fx H' L1 → Q (.ref q) H') ∧
  (∀ (i : Nat) w, Z.inLen 1 60 oc = true → i < os.length → (∀ j < i, flawAt ns os j = none) → flawAt ns os i = some w → ∀ q L1 H', L.Sublist L1 → Z.En.ob q (.tup [.int (i : Nat), .str w]) ∈ L1 → Z.Fx H' L1 → Q (.ref q) H') ∧
  (∀ rows, Z.inLen 1 60 oc = true → os = rows.map intsO → WRows ns rows → ∀ H', Z.Fx H' L → Q .non H')
theorem fn__law_told (T : Txt K mg c_BadCourse c_BadStock c_BadWall c_Clash c_Stock c_Wall) {f : Addr} {fd : FuncData} (F : Fun K "_law_told" "_law_told" s__law_told f fd) : FnOk P w K mg base CX0 9 f fd ["_law_stock_here", "_law_courses"] (sp__law_told K) := by
  have O_Stock_3 := ok_Stock___init___3 (P := P) (w := w) (base := base) T
  have O_Stock_k1_reach_lap := ok_Stock___init___k1_reach_lap (P := P) (w := w) (base := base) T
  have O_Wall_2 := ok_Wall___init___2 (P := P) (w := w) (base := base) T
  refine F.ok sc__law_told (fun vs H Q E h => ?_) (fun cdv A outer s H vs Q E hr h => ?_)
  · obtain ⟨a, b, rfl, _⟩ := h; rfl
  · obtain ⟨a, b, rfl, h⟩ := h
    refine ⟨_, (pss_cons (ps_try_as (i := 2) rfl rfl sc__law_told.nd rfl rfl ⟨rfl, by decide, Or.inl T.g_BadWall⟩ takes0 (fun W pn xe tk _ => (by exact (pss_one (ps_expr (Z.pe_makeSO O_Wall_2 (hr.mono (by decide)) T.g_Wall (by rfl) (fun σ => passAt tk σ) (pa_cons (Z.pe_makeSO O_Stock_3 (hr.mono (by decide)) T.g_Stock (by rfl) (fun σ => passAt tk σ) (pa_cons (pe_ix (show IxR _ (rIx K) from ix_seq) (pv 0) pe_int (fun _ _ => rfl)) (pa_cons (pe_ix (show IxR _ (rIx K) from ix_seq) (pv 0) pe_int (fun _ _ => rfl)) (pa_cons (pe_ix (show IxR _ (rIx K) from ix_seq) (pv 0) pe_int (fun _ _ => rfl)) pa_nil)))) (pa_cons (pv 1) pa_nil)))))))
        (fun a oe cls d pn hz hf => (by exact (pss_one (ps_ret (pe_tup (pa_cons (pe_xf T.x_BadWall.xf T.n_BadWall_index hz hf (pv 2)) (pa_cons (pe_xf T.x_BadWall.xf T.n_BadWall_what hz hf (pv 2)) pa_nil))))))))
      (pss_one (ps_ret pe_non))), ?_⟩
    try dsimp only [cxOf, Cx.nox, Cx.wish]
    refine Z.at_start (σ' := [some a, some b, none]) rfl ?_
    obtain ⟨L, t, ns, lap, r, oc, os, rfl, F, ⟨pb, mt, mb⟩, hg, hlap, hreach, hs, hal, kM, kF, kQ⟩ := h
    walk_at "z"
    refine use_StockG F (.tup mb) hg hlap hreach fun x L2 H2 s2 si F2 => ?_
    walk_at "z"
    have hs2 := hs.mono fun _ h => s2.subset h
    have ha2 : ∀ vs, oc = some vs → Z.Al2 (CourseAt L2) vs os := fun vs e => (hal vs e).mono fun _ _ c => c.mono fun _ h => s2.subset h
    refine use_Wall F2 si hs2 ha2 (fun hl e H3 F3 => ?_) (fun i w h1 h2 h3 h4 e H3 F3 => ?_) (fun rows e1 e2 e3 y L3 H3 s3 wi F3 => ?_)
    · refine Z.wAs_yes T.x_BadWall.me fun a ha => ?_
      simp only [List.set_cons_zero, List.set_cons_succ]
      walk_at "z"
      refine Z.wXf ?_
      walk_at "z"
      refine ⟨rfl, rfl, e, _, _, rfl, F3.get List.mem_cons_self, by rfl, ?_⟩
      walk_at "z"
      refine Z.wXf ?_
      walk_at "z"
      refine ⟨rfl, rfl, e, _, _, rfl, F3.get List.mem_cons_self, by rfl, ?_⟩
      walk_at "z"
      rename_i q4 H4 F4
      exact kM hl q4 _ H4 (s2.trans (.cons _ (.cons _ (.refl _)))) List.mem_cons_self F4
    · refine Z.wAs_yes T.x_BadWall.me fun a ha => ?_
      simp only [List.set_cons_zero, List.set_cons_succ]
      walk_at "z"
      refine Z.wXf ?_
      walk_at "z"
      refine ⟨rfl, rfl, e, _, _, rfl, F3.get List.mem_cons_self, by rfl, ?_⟩
      walk_at "z"
      refine Z.wXf ?_
      walk_at "z"
      refine ⟨rfl, rfl, e, _, _, rfl, F3.get List.mem_cons_self, by rfl, ?_⟩
      walk_at "z"
      rename_i q4 H4 F4
      exact kF i w h1 h2 h3 h4 q4 _ H4 (s2.trans (.cons _ (.cons _ (.refl _)))) List.mem_cons_self F4
    · walk_at "z"
      exact kQ rows e1 e2 e3 _ (F3.sub (s2.trans s3))
theorem ok__law_told (T : Txt K mg c_BadCourse c_BadStock c_BadWall c_Clash c_Stock c_Wall) : Z.Ok CX0 P w K mg base "_law_told" 9 ["_law_stock_here", "_law_courses"] [] (sp__law_told K) := by
  obtain ⟨f, fd, F, g⟩ := T.d__law_told
  exact Z.mkOk F g (F.binds (ps := ["_law_stock_here", "_law_courses"]) fun _ _ _ _ _ _ us hl => match us, hl with | [_, _], _ => rfl) (fn__law_told T F)
theorem use__law_told {H : Hp} {Q : VK} {E : XK} {L : List Z.En} {t : Addr} {b : V} {ns : List Int} {lap r : Int} {oc : Option (List V)} {os : List (Option (List V))} (F : Z.Fx H L) (st : St3 L t ns lap r) (hg : goodB (some (ns.map V.int)) = true) (hlap : 1 ≤ lap ∧ lap ≤ 4) (hr : 1 ≤ r ∧ r ≤ 2) (hs : Z.SeqIs L b oc) (ha : ∀ vs, oc = some vs → Z.Al2 (CourseAt L) vs os)
  (kM : Z.inLen 1 60 oc = false → ∀ q L1 H', L.Sublist L1 → Z.En.ob q (.tup [.int 0, .str "many"]) ∈ L1 → Z.Fx H' L1 → Q (.ref q) H')
  (kF : ∀ (i : Nat) w, Z.inLen 1 60 oc = true → i < os.length → (∀ j < i, flawAt ns os j = none) → flawAt ns os i = some w → ∀ q L1 H', L.Sublist L1 → Z.En.ob q (.tup [.int (i : Nat), .str w]) ∈ L1 → Z.Fx H' L1 → Q (.ref q) H')
  (kQ : ∀ rows, Z.inLen 1 60 oc = true → os = rows.map intsO → WRows ns rows → ∀ H', Z.Fx H' L → Q .non H') : sp__law_told K [.ref t, b] H Q E :=
  ⟨_, _, rfl, L, t, ns, lap, r, oc, os, rfl, F, st, hg, hlap, hr, hs, ha, kM, kF, kQ⟩
theorem sc__law_as_sequence : FnScope ["_law_hand_here", "_law_row"] ["_law_hand_here", "_law_row"] (defScope s__law_as_sequence) := ⟨rfl, rfl, rfl, by decide +kernel, rfl, by decide +kernel, by decide +kernel⟩
/-- what it was, or a new list or tuple of it -/
inductive AsSeq (L : List Z.En) (xs : List V) : V → List Z.En → Prop where
  | lst (q : Addr) : AsSeq L xs (.ref q) (.ob q (.lst xs) :: L)
  | tup (q : Addr) : AsSeq L xs (.ref q) (.ob q (.tup xs) :: L)
  | same (q : Addr) (m : Z.En.ob q (.tup xs) ∈ L) : AsSeq L xs (.ref q) L
theorem AsSeq.sub {L L1 : List Z.En} {xs : List V} {v : V} (h : AsSeq L xs v L1) : L.Sublist L1 := by
  cases h with
  | lst q => exact .cons _ (.refl _)
  | tup q => exact .cons _ (.refl _)
  | same q m => exact .refl _
theorem AsSeq.seq {L L1 : List Z.En} {xs : List V} {v : V} (h : AsSeq L xs v L1) : Z.SeqIs L1 v (some xs) := by
  cases h with
  | lst q => exact .lst List.mem_cons_self
  | tup q => exact .tup List.mem_cons_self
  | same q m => exact .tup m
theorem AsSeq.drop {L L1 : List Z.En} {xs acc : List V} {v : V} {D : Addr} {H : Hp} (h : AsSeq (.ob D (.lst acc) :: L) xs v L1) (F : Z.Fx H L1) : ∃ L2, L.Sublist L2 ∧ Z.Fx H (.ob D (.lst acc) :: L2) ∧ Z.SeqIs L2 v (some xs) := by
  cases h with
  | lst q => exact ⟨_, .cons _ (.refl _), F.perm (.swap _ _ _), .lst List.mem_cons_self⟩
  | tup q => exact ⟨_, .cons _ (.refl _), F.perm (.swap _ _ _), .tup List.mem_cons_self⟩
  | same q m => exact ⟨L, .refl _, F, .tup (Z.mem_skip m nofun)⟩
def sp__law_as_sequence (K : PySem.W.Frag) : Sp := Z.Sp2 fun a b H Q E => ∃ (L : List Z.En) (l hc : Addr) (xs : List V), a = .ref l ∧ Z.Fx H L ∧ Z.En.hand l hc ∈ L ∧ Z.SeqIs L b (some xs) ∧ ∀ v L1 H', AsSeq L xs v L1 → Z.Fx H' L1 → Q v H'
theorem fn__law_as_sequence (T : Txt K mg c_BadCourse c_BadStock c_BadWall c_Clash c_Stock c_Wall) {f : Addr} {fd : FuncData} (F : Fun K "_law_as_sequence" "_law_as_sequence" s__law_as_sequence f fd) : FnOk P w K mg base CX0 3 f fd ["_law_hand_here", "_law_row"] (sp__law_as_sequence K) := by
  have O__law_draw := ok__law_draw (P := P) (w := w) (base := base) T
  refine F.ok sc__law_as_sequence (fun vs H Q E h => ?_) (fun cdv A outer s H vs Q E hr h => ?_)
  · obtain ⟨a, b, rfl, _⟩ := h; rfl
  · obtain ⟨a, b, rfl, h⟩ := h
    refine ⟨_, (pss_one (ps_ret (pe_ifExp (pt_cmpR (Z.zEq (Z.hu0 hr)) (Z.pe_callO O__law_draw (by rfl) (hr.mono (by decide)) pass0 (pa_cons (pv 0) (pa_cons pe_int pa_nil))) pe_int (nomark _)) (pe_callTy Z.zList (by rfl) T.b_list (by decide +kernel) (pa_cons (pv 1) pa_nil)) (pe_callTy Z.zTuple (by rfl) T.b_tuple (by decide +kernel) (pa_cons (pv 1) pa_nil))))), ?_⟩
    try dsimp only [cxOf, Cx.nox, Cx.wish]
    refine Z.at_start (σ' := [some a, some b]) rfl ?_
    obtain ⟨L, l, hc, xs, rfl, F, mh, hs, q⟩ := h
    walk_at "z"
    refine Z.wIfD (fun _ => ?_) (fun _ => ?_)
    · cases hs with
      | lst m =>
        walk_at "z"
        rename_i p H3 F3
        exact q _ _ _ (.lst _) F3
      | tup m =>
        walk_at "z"
        rename_i p H3 F3
        exact q _ _ _ (.lst _) F3
    · cases hs with
      | lst m =>
        walk_at "z"
        rename_i p H3 F3
        exact q _ _ _ (.tup _) F3
      | tup m =>
        walk_at "z"
        exact q _ _ _ (.same _ m) (by assumption)
theorem ok__law_as_sequence (T : Txt K mg c_BadCourse c_BadStock c_BadWall c_Clash c_Stock c_Wall) : Z.Ok CX0 P w K mg base "_law_as_sequence" 3 ["_law_hand_here", "_law_row"] [] (sp__law_as_sequence K) := by
  obtain ⟨f, fd, F, g⟩ := T.d__law_as_sequence
  exact Z.mkOk F g (F.binds (ps := ["_law_hand_here", "_law_row"]) fun _ _ _ _ _ _ us hl => match us, hl with | [_, _], _ => rfl) (fn__law_as_sequence T F)
theorem use__law_as_sequence {H : Hp} {Q : VK} {E : XK} {L : List Z.En} {l hc : Addr} {b : V} {xs : List V} (F : Z.Fx H L) (mh : Z.En.hand l hc ∈ L) (hs : Z.SeqIs L b (some xs)) (q : ∀ v L1 H', AsSeq L xs v L1 → Z.Fx H' L1 → Q v H') : sp__law_as_sequence K [.ref l, b] H Q E :=
  ⟨_, _, rfl, L, l, hc, xs, rfl, F, mh, hs, q⟩
theorem sc__law_is : FnScope ["_law_told_here", "_law_due"] ["_law_told_here", "_law_due"] (defScope s__law_is) := ⟨rfl, rfl, rfl, by decide +kernel, rfl, by decide +kernel, by decide +kernel⟩
def sp__law_is (K : PySem.W.Frag) : Sp := Z.Sp2 fun a b H Q E => ∃ i j : Int, a = .int i ∧ b = .int j ∧ Q (.bl (decide (i = j))) H
theorem fn__law_is (T : Txt K mg c_BadCourse c_BadStock c_BadWall c_Clash c_Stock c_Wall) {f : Addr} {fd : FuncData} (F : Fun K "_law_is" "_law_is" s__law_is f fd) : FnOk P w K mg base CX0 1 f fd ["_law_told_here", "_law_due"] (sp__law_is K) := by
  refine F.ok sc__law_is (fun vs H Q E h => ?_) (fun cdv A outer s H vs Q E hr h => ?_)
  · obtain ⟨a, b, rfl, _⟩ := h; rfl
  · obtain ⟨a, b, rfl, h⟩ := h
    refine ⟨_, (pss_one (ps_ret (pe_andT (pe_callB Z.zIsi (by rfl) T.b_isinstance (by decide +kernel) (pa_cons (pv 0) (pa_cons (pe_bltn (by rfl) T.b_int (by decide +kernel) (show RelV (.ty "int") _ from rfl)) pa_nil))) (pe_andT (pe_notT (pe_callB Z.zIsi (by rfl) T.b_isinstance (by decide +kernel) (pa_cons (pv 0) (pa_cons (pe_bltn (by rfl) T.b_bool (by decide +kernel) (show RelV (.ty "bool") _ from rfl)) pa_nil)))) (pe_one (pe_cmpR (Z.zEq (Z.hu0 hr)) (pv 0) (pv 1) (nomark _))))))), ?_⟩
    try dsimp only [cxOf, Cx.nox, Cx.wish]
    refine Z.at_start (σ' := [some a, some b]) rfl ?_
    obtain ⟨i, j,
          rfl, rfl, q⟩ := h
    walk_at "z"
    refine Z.wIsiInt (.int i) ?_
    walk_at "z"
    refine Z.wIsiBool (.int i) ?_
    walk_at "z"
    exact q
theorem ok__law_is (T : Txt K mg c_BadCourse c_BadStock c_BadWall c_Clash c_Stock c_Wall) : Z.Ok CX0 P w K mg base "_law_is" 1 ["_law_told_here", "_law_due"] [] (sp__law_is K) := by
  obtain ⟨f, fd, F, g⟩ := T.d__law_is
  exact Z.mkOk F g (F.binds (ps := ["_law_told_here", "_law_due"]) fun _ _ _ _ _ _ us hl => match us, hl with | [_, _], _ => rfl) (fn__law_is T F)
theorem use__law_is {H : Hp} {Q : VK} {E : XK} {i j : Int} (q : Q (.bl (decide (i = j))) H) : sp__law_is K [.int i, .int j] H Q E := ⟨_, _, rfl, i, j, rfl, rfl, q⟩
local macro_rules | `(tactic| walk_at "zc") => `(tactic| with_reducible refine use__law_is ?_)
theorem sc__law_tuples : FnScope ["_law_told_here", "_law_due", "_law_one", "_law_other", "_law_number", "_law_wanted"] ["_law_told_here", "_law_due"] (defScope s__law_tuples) := ⟨rfl, rfl, rfl, by decide +kernel, rfl, by decide +kernel, by decide +kernel⟩
def sp__law_tuples (K : PySem.W.Frag) : Sp := Z.Sp2 fun a b H Q E => ∃ (L : List Z.En) (p q : Addr) (vs : List V) (rows : List (List Int)), a = .ref p ∧ b = .ref q ∧ Z.Fx H L ∧ TupsAt L p rows ∧ Z.En.ob q (.lst vs) ∈ L ∧ Z.Al2 (TupOf L) vs rows ∧ rows.length ≤ 1000 ∧ (∀ r ∈ rows, r.length ≤ 1000) ∧ ∀ H', Z.Fx H' L → Q (.bl true) H'
theorem fn__law_tuples (T : Txt K mg c_BadCourse c_BadStock c_BadWall c_Clash c_Stock c_Wall) {f : Addr} {fd : FuncData} (F : Fun K "_law_tuples" "_law_tuples" s__law_tuples f fd) : FnOk P w K mg base CX0 2 f fd ["_law_told_here", "_law_due"] (sp__law_tuples K) := by
  have O__law_is := ok__law_is (P := P) (w := w) (base := base) T
  refine F.ok sc__law_tuples (fun vs H Q E h => ?_) (fun cdv A outer s H vs Q E hr h => ?_)
  · obtain ⟨a, b, rfl, _⟩ := h; rfl
  · obtain ⟨a, b, rfl, h⟩ := h
    refine ⟨_, (pss_cons (ps_if (PW.pt (pw_or (pt_not (Z.pt_truN (pe_callB Z.zIsi (by rfl) T.b_isinstance (by decide +kernel) (pa_cons (pv 0) (pa_cons (pe_bltn (by rfl) T.b_tuple (by decide +kernel) (show RelV (.ty "tuple") _ from rfl)) pa_nil))))) (pw_or1 (pt_cmpR (Z.zNe (Z.hu0 hr)) (pe_callB Z.zLen (by rfl) T.b_len (by decide +kernel) (pa_cons (pv 0) pa_nil)) (pe_callB Z.zLen (by rfl) T.b_len (by decide +kernel) (pa_cons (pv 1) pa_nil)) (nomark _)))))
        (pss_one (ps_ret pe_bl))
        pss_nil)
      (pss_cons (ps_for PassesOwn.never (by rfl) (Z.pi_zipG (by rfl) T.b_zip (pa_cons (pv 0) (pa_cons (pv 1) pa_nil))) (pg_tup (by rfl) (pgs_cons (pg_name (i := 2) sc__law_tuples.nd rfl (by first | exact Or.inl rfl | exact Or.inr rfl)) (pgs_cons (pg_name (i := 3) sc__law_tuples.nd rfl (by first | exact Or.inl rfl | exact Or.inr rfl)) pgs_nil)))
        (pss_cons (ps_if (PW.pt (pw_or (pt_not (Z.pt_truN (pe_callB Z.zIsi (by rfl) T.b_isinstance (by decide +kernel) (pa_cons (pv 2) (pa_cons (pe_bltn (by rfl) T.b_tuple (by decide +kernel) (show RelV (.ty "tuple") _ from rfl)) pa_nil))))) (pw_or1 (pt_cmpR (Z.zNe (Z.hu0 hr)) (pe_callB Z.zLen (by rfl) T.b_len (by decide +kernel) (pa_cons (pv 2) pa_nil)) (pe_callB Z.zLen (by rfl) T.b_len (by decide +kernel) (pa_cons (pv 3) pa_nil)) (nomark _)))))
          (pss_one (ps_ret pe_bl))
          pss_nil)
        (pss_one (ps_for PassesOwn.never (by rfl) (Z.pi_zipG (by rfl) T.b_zip (pa_cons (pv 2) (pa_cons (pv 3) pa_nil))) (pg_tup (by rfl) (pgs_cons (pg_name (i := 4) sc__law_tuples.nd rfl (by first | exact Or.inl rfl | exact Or.inr rfl)) (pgs_cons (pg_name (i := 5) sc__law_tuples.nd rfl (by first | exact Or.inl rfl | exact Or.inr rfl)) pgs_nil)))
          (pss_one (ps_if (pt_not (Z.pt_truN (Z.pe_callO O__law_is (by rfl) (hr.mono (by decide)) pass0 (pa_cons (pv 4) (pa_cons (pv 5) pa_nil)))))
            (pss_one (ps_ret pe_bl))
            pss_nil))))))
      (pss_one (ps_ret
            pe_bl)))), ?_⟩
    try dsimp only [cxOf, Cx.nox, Cx.wish]
    refine Z.at_start (σ' := [some a, some b, none, none, none, none]) rfl ?_
    obtain ⟨L, p, q, vs, rows, rfl, rfl, F, ⟨ws, mp, al1⟩, mq, al2, hl, hr, k⟩ := h
    have l1 := al1.len
    have l2 := al2.len
    walk_at "z"
    refine Z.wIsiTuple (.tup (F.tup mp)) ?_
    walk_at "z"
    refine Z.wIZG ?_
    walk_at "z"
    refine Z.wForZ (.tup mp) (.lst mq) F (fun i σ H' => ∃ v2 v3 v4 v5, σ = [some (.ref p), some (.ref q), v2, v3, v4, v5] ∧ Z.Fx H' L) ⟨_, _, _, _, rfl, F⟩ ?_ ?_ ?_
    · rintro i σ H' ⟨v2, v3, v4, v5, rfl, F'⟩
      exact ⟨L, F', fun _ _ h => h⟩
    · rintro i x y t σ H2 hx hy ⟨v2, v3, v4, v5, rfl, F2⟩ ht
      obtain ⟨cs, ec, tx⟩ := al1.getL hx
      have ty := al2.get i y cs hy ec
      have hcl := hr cs (List.mem_of_getElem? ec)
      obtain ⟨ax, rfl, max⟩ := tx
      obtain ⟨ay, rfl, may⟩ := ty
      have F3 := F2.new (o := .tup [.ref ax, .ref ay]) ht
      walk_at "z"
      refine Z.wIsiTuple (.tup (F3.tup (.tail _ max))) ?_
      walk_at "z"
      refine Z.wIfF (by simp) ?_
      walk_at "z"
      refine Z.wIZG ?_
      walk_at "z"
      refine Z.wForZ (.tup (.tail _ max)) (.tup (.tail _ may)) F3 (fun i σ H' => ∃ v4 v5, σ = [some (.ref p), some (.ref q), some (.ref ax), some (.ref ay), v4, v5] ∧ Z.Fx H' (.ob t (.tup [.ref ax, .ref ay]) :: L)) ⟨_, _, rfl, F3⟩ ?_ ?_ ?_
      · rintro i σ H' ⟨v4, v5, rfl, F'⟩
        exact ⟨_, F', fun _ _ h => h⟩
      · rintro j x y t2 σ H4 hx2 hy2 ⟨v4, v5, rfl, F4⟩ ht2
        obtain ⟨z, rfl, hz⟩ := Z.int_of_map' hx2
        rw [hx2] at hy2
        cases hy2
        have F5 := F4.new (o := .tup [.int z, .int z]) ht2
        walk_at "z"
        refine Z.wIfF (by simp) ?_
        walk_at "z"
        exact ⟨_, _, rfl, F5.sub (.cons _ (.refl _))⟩
      · rintro σ H4 ⟨v4, v5, rfl, F4⟩
        exact ⟨_, _, _, _, rfl, F4.sub (.cons _ (.refl _))⟩
    · rintro σ H2 ⟨v2, v3, v4, v5, rfl, F2⟩
      walk_at "z"
      exact k _ F2
theorem ok__law_tuples (T : Txt K mg c_BadCourse c_BadStock c_BadWall c_Clash c_Stock c_Wall) : Z.Ok CX0 P w K mg base "_law_tuples" 2 ["_law_told_here", "_law_due"] [] (sp__law_tuples K) := by
  obtain ⟨f, fd, F, g⟩ := T.d__law_tuples
  exact Z.mkOk F g (F.binds (ps := ["_law_told_here", "_law_due"]) fun _ _ _ _ _ _ us hl => match us, hl with | [_, _], _ => rfl) (fn__law_tuples T F)
theorem use__law_tuples {H : Hp} {Q : VK} {E : XK} {L : List Z.En} {p q : Addr} {vs : List V} {rows : List (List Int)} (F : Z.Fx H L) (tp : TupsAt L p rows) (mq : Z.En.ob q (.lst vs) ∈ L) (al : Z.Al2 (TupOf L) vs rows) (hl : rows.length ≤ 1000) (hr : ∀ r ∈ rows, r.length ≤ 1000) (k : ∀ H', Z.Fx H' L → Q (.bl true) H') : sp__law_tuples K [.ref p, .ref q] H Q E :=
  ⟨_, _, rfl, L, p, q, vs, rows, rfl, rfl, F, tp, mq, al, hl, hr, k⟩
theorem sc__law_ends : FnScope ["_law_bricks", "_law_length", "_law_ends_here", "_law_place", "_law_b"] ["_law_bricks", "_law_length"] (defScope s__law_ends) := ⟨rfl, rfl, rfl, by decide +kernel, rfl, by decide +kernel, by decide +kernel⟩
/-- a length that courses have -/
inductive Can (ns : List Int) : Int → Prop where
  | zero : Can ns 0
  | step {b n : Int} (h : b ∈ ns) (c : Can ns n) : Can ns (n + b)
theorem Can.sum {ns cs : List Int} (h : ∀ c ∈ cs, c ∈ ns) : Can ns cs.sum := by
  induction cs with
  | nil => exact .zero
  | cons c r ih =>
    rw [List.sum_cons, Int.add_comm]
    exact .step (h c List.mem_cons_self) (ih fun x hx => h x (List.mem_cons_of_mem _ hx))
theorem Can.inv {ns : List Int} {n : Int} (h : Can ns n) : n = 0 ∨ ∃ b ∈ ns, Can ns (n - b) := by
  cases h with
  | zero => exact .inl rfl
  | @step b m hb hc => exact .inr ⟨b, hb, by rw [Int.add_sub_cancel]; exact hc⟩
theorem Can.nn {ns : List Int} (h1 : ∀ b ∈ ns, 1 ≤ b) {n : Int} (h : Can ns n) : 0 ≤ n := by
  induction h with
  | zero => exact Int.le_refl _
  | step hb _ ih => have := h1 _ hb; omega
/-- from which places on a length can be ended -/
def EndsAt (ns : List Int) (n : Nat) (bs : List Bool) : Prop := bs.length = n + 1 ∧ ∀ (i : Nat) (b : Bool), bs[i]? = some b → (b = true ↔ Can ns ((n : Int) - i))
theorem atI_of {xs : List V} {i : Int} {v : V} (h : 0 ≤ i) (e : xs[i.toNat]? = some v) : atI xs i = some v := by
  obtain ⟨n, rfl⟩ := Int.eq_ofNat_of_zero_le h
  exact atI_nat e
theorem filter_take_yes {α : Type} {p : α → Bool} {l : List α} {i : Nat} {x : α} (h : l[i]? = some x) (n : p x = true) : (l.take (i + 1)).filter p = (l.take i).filter p ++ [x] := by
  rw [List.take_add_one,
        h, List.filter_append]
  simp [n]
theorem filter_take_no {α : Type} {p : α → Bool} {l : List α} {i : Nat} {x : α} (h : l[i]? = some x) (n : p x = false) : (l.take (i + 1)).filter p = (l.take i).filter p := by
  rw [List.take_add_one,
        h, List.filter_append]
  simp [n]
def sp__law_ends (K : PySem.W.Frag) : Sp := Z.Sp2 fun a b H Q E => ∃ (L : List Z.En) (p : Addr) (ns : List Int) (n : Nat), a = .ref p ∧ b = .int n ∧ Z.Fx H L ∧ Z.En.ob p (.tup (ns.map V.int)) ∈ L ∧ (∀ b ∈ ns, 1 ≤ b) ∧ ns.length ≤ 4 ∧ n ≤ 400 ∧ ∀ q bs H', EndsAt ns n bs → Z.Fx H' (.ob q (.lst (bs.map V.bl)) :: L) → Q (.ref q) H'
theorem fn__law_ends (T : Txt K mg c_BadCourse c_BadStock c_BadWall c_Clash c_Stock c_Wall) {f : Addr} {fd : FuncData} (F : Fun K "_law_ends" "_law_ends" s__law_ends f fd) : FnOk P w K mg base CX0 1 f fd ["_law_bricks", "_law_length"] (sp__law_ends K) := by
  refine F.ok sc__law_ends (fun vs H Q E h => ?_) (fun cdv A outer s H vs Q E hr h => ?_)
  · obtain ⟨a, b, rfl, _⟩ := h; rfl
  · obtain ⟨a, b, rfl, h⟩ := h
    refine ⟨_, (pss_cons (ps_set (i := 2) sc__law_ends.nd rfl (by first | exact Or.inl rfl | exact Or.inr rfl) (pe_op Z.zAdd (pe_op Z.zMul (pe_lst (pa_cons pe_bl pa_nil)) (pv 1)) (pe_lst (pa_cons pe_bl pa_nil))))
      (pss_cons (ps_for PassesOwn.never (by rfl) (pi_range3 (by rfl) T.b_range (pa_cons (pe_op op_sub (pv 1) pe_int) (pa_cons (pe_un un_neg pe_int) (pa_cons (pe_un un_neg pe_int) pa_nil)))) (pg_name (i := 3) sc__law_ends.nd rfl (by first | exact Or.inl rfl | exact Or.inr rfl))
        (pss_one (ps_asg (pe_cmpR (Z.zNe (Z.hu0 hr)) (by exact (pe_lc (own := [("_law_b", 4)]) (g := (gName 4)) (by rfl) sc__law_ends.nd (Z.pi_seq (pv 0)) (blkOk_by (own := [("_law_b", 4)]) (N := ["_law_bricks", "_law_length", "_law_ends_here", "_law_place", "_law_b"]) (sc := defScope s__law_ends) (by decide +kernel)) (fun _ _ _ _ _ => (by exact (pg_name (i := 4) sc__law_ends.nd rfl (by first | exact Or.inl rfl | exact Or.inr rfl)))) (fun _ _ _ _ _ => (by exact (pts_one (PW.pt (pw_and (pt_cmpR Z.zLe (pe_op (show OpR _ _ (Z.rOr Z.rAddI (Z.rOr Z.rAddS (Z.rOr rCat (rCatT K)))) from Z.zAdd) (pv 3) (pv 4)) (pv 1) (nomark _)) (pw_and1 (show PT _ _ (Z.rTru K _) from Z.pt_truN (pe_ix (show IxR _ (rIx K) from ix_seq) (pv 2) (pe_op (show OpR _ _ (Z.rOr Z.rAddI (Z.rOr Z.rAddS (Z.rOr rCat (rCatT K)))) from Z.zAdd) (pv 3) (pv 4)) (fun _ _ => rfl))))))))) (fun _ _ _ _ _ => (by exact (pv 4))))) (pe_lst pa_nil) (nomark _)) (pg_sub (pv 2) (pv 3) set_list))))
      (pss_one (ps_ret (pv 2))))), ?_⟩
    try dsimp only [cxOf, Cx.nox, Cx.wish]
    refine Z.at_start (σ' := [some a, some b, none, none, none]) rfl ?_
    obtain ⟨L, p, ns, n, rfl, rfl, F, mp, h1, h4, hn, k⟩ := h
    walk_at "z"
    rename_i q1 H1 F1 q2 H2 F2 q3 H3 F3
    rw [Z.flat_one] at F3
    refine Z.wCatL F3 (.tail _ List.mem_cons_self) List.mem_cons_self (by rw [List.length_replicate]; simp only [List.length_cons, List.length_nil]; omega) fun q H4 F4 => ?_
    have e0 : List.replicate (n : Int).toNat (V.bl false) ++ [V.bl true] = (List.replicate n false ++ [true]).map V.bl := by
      rw [List.map_append, List.map_replicate, Int.toNat_natCast]
      rfl
    rw [e0] at F4
    have F5 := F4.sub (L' := .ob q (.lst ((List.replicate n false ++ [true]).map V.bl)) :: L) (by walk_at "zsub")
    clear F4 F3 F2 F1
    walk_at "z"
    refine Z.wForW walk_rangeC (fun k σ H' => ∃ (v3 : Option V) (bs : List Bool), σ = [some (.ref p), some (.int n), some (.ref q), v3, none] ∧ Z.Fx H' (.ob q (.lst (bs.map V.bl)) :: L) ∧ bs.length = n + 1 ∧ ∀ (i : Nat) (b : Bool), n ≤ i + k → bs[i]? = some b → (b = true ↔ Can ns ((n : Int) - i))) ?_ (fun _ _ _ _ _ => trivial) ?_ ?_
    · refine ⟨_, _, rfl, F5, by rw [List.length_append, List.length_replicate]; rfl, fun i b hi e => ?_⟩
      have hlt := (List.getElem?_eq_some_iff.mp e).1
      rw [List.length_append, List.length_replicate] at hlt
      simp only [List.length_cons, List.length_nil] at hlt
      have hin : i = n := by omega
      subst hin
      rw [List.getElem?_append_right (by rw [List.length_replicate]; exact Nat.le_refl _), List.length_replicate, Nat.sub_self] at e
      cases e
      rw [Int.sub_self]
      exact ⟨fun _ => .zero, fun _ => rfl⟩
    · rintro k u σ H4 H5 hk ⟨v3, bs, rfl, F4, hbl, hbs⟩ ⟨rfl, rfl⟩
      have hk2 : k < n := by omega
      obtain ⟨P, eP, hP⟩ : ∃ P : Nat, (n : Int) - 1 + (k : Int) * -1 = P ∧ P + k + 1 = n := ⟨n - 1 - k, by omega, by omega⟩
      dsimp only
      rw [eP]
      walk_at "z"
      have hgood : ∀ b ∈ ns, ((P : Int) + b ≤ n ∧ bs.getD ((P : Int) + b).toNat false = true) ↔ Can ns ((n : Int) - P - b) := fun b hb => by
        have hb1 := h1 b hb
        constructor
        · rintro ⟨hle, ht⟩
          have hl : ((P : Int) + b).toNat < bs.length := by omega
          have e : bs[((P : Int) + b).toNat]? = some (bs.getD ((P : Int) + b).toNat false) := by
            rw [List.getD_eq_getElem?_getD, List.getElem?_eq_getElem hl]; rfl
          have := (hbs _ _ (by omega) e).mp ht
          rwa [show (n : Int) - ((((P : Int) + b).toNat : Nat) : Int) = n - P - b by omega] at this
        · intro hc
          have hnn := hc.nn h1
          have hl : ((P : Int) + b).toNat < bs.length := by omega
          have e : bs[((P : Int) + b).toNat]? = some (bs.getD ((P : Int) + b).toNat false) := by
            rw [List.getD_eq_getElem?_getD, List.getElem?_eq_getElem hl]; rfl
          refine ⟨by omega, (hbs _ _ (by omega) e).mpr ?_⟩
          rwa [show (n : Int) - ((((P : Int) + b).toNat : Nat) : Int) = n - P - b by omega]
      refine Z.wLcT (.tail _ mp) F4 (fun i acc L' => L' = .ob q (.lst (bs.map V.bl)) :: L ∧ acc = ((ns.take i).filter fun b => decide ((P : Int) + b ≤ n) && bs.getD ((P : Int) + b).toNat false).map V.int) ⟨rfl, rfl⟩ (fun i acc L' r => r.1 ▸ .tail _ mp) ?_ ?_
      · rintro i x D H6 acc L' hx ⟨rfl, rfl⟩ F6
        obtain ⟨b, rfl, hb⟩ := Z.int_of_map' hx
        have hb1 := h1 b (List.mem_of_getElem? hb)
        have hfl : ((ns.take i).filter fun b => decide ((P : Int) + b ≤ n) && bs.getD ((P : Int) + b).toNat false).length ≤ 4 := by
          have a := List.length_filter_le (fun b => decide ((P : Int) + b ≤ n) && bs.getD ((P : Int) + b).toNat false) (ns.take i)
          rw [List.length_take] at a
          omega
        walk_at "zw"
        walk_at "z"
        refine ⟨rfl, ?_⟩
        walk_at "z"
        refine Z.wIfD (fun hle => ?_) (fun hle => ?_)
        · walk_at "z"
          have hl : ((P : Int) + b).toNat < bs.length := by omega
          refine Z.wIxL (F6.lst (.tail _ List.mem_cons_self)) (v := .bl (bs.getD ((P : Int) + b).toNat false)) (atI_of (by omega) ?_) ?_
          · rw [List.getElem?_map, List.getD_eq_getElem?_getD, List.getElem?_eq_getElem hl]; rfl
          walk_at "z"
          refine Z.wIf (fun ht => ?_) (fun ht => ?_)
          · walk_at "z"
            refine Z.lcPut F6 (by rw [List.length_map]; have := Z.line_big; omega) ⟨rfl, ?_⟩
            rw [filter_take_yes hb (by rw [decide_eq_true hle, ht]; rfl), List.map_append]
            rfl
          · exact ⟨_, _, F6, rfl, by rw [filter_take_no hb (by rw [ht, Bool.and_false])]⟩
        · walk_at "z"
          exact ⟨_, _, F6, rfl, by rw [filter_take_no hb (by rw [decide_eq_false hle]; rfl)]⟩
      · rintro D acc L' H6 F6 ⟨rfl, rfl⟩
        rw [List.length_map, List.take_length] at F6
        walk_at "z"
        rename_i qe H7 F7
        refine Z.wNeLL (ms := []) (F7.lst (.tail _ List.mem_cons_self)) (F7.lst List.mem_cons_self) ?_
        have hv : (!decide ((ns.filter fun b => decide ((P : Int) + b ≤ n) && bs.getD ((P : Int) + b).toNat false) = [])) = true ↔ Can ns ((n : Int) - P) := by
          rw [Bool.not_eq_true', decide_eq_false_iff_not]
          constructor
          · intro hne
            obtain ⟨b, hb⟩ := List.exists_mem_of_ne_nil _ hne
            obtain ⟨hb1, hb2⟩ := List.mem_filter.mp hb
            rw [Bool.and_eq_true, decide_eq_true_eq] at hb2
            have := Can.step hb1 ((hgood b hb1).mp hb2)
            rwa [Int.sub_add_cancel] at this
          · intro hc
            rcases hc.inv with h0 | ⟨b, hb, hc⟩
            · omega
            · have h2 := (hgood b hb).mpr hc
              exact List.ne_nil_of_mem (List.mem_filter.mpr ⟨hb, by rw [Bool.and_eq_true, decide_eq_true_eq]; exact h2⟩)
        generalize (!decide ((ns.filter fun b => decide ((P : Int) + b ≤ n) && bs.getD ((P : Int) + b).toNat false) = [])) = bv at hv
        have F8 := F7.sub (L' := .ob q (.lst (bs.map V.bl)) :: L) (by walk_at "zsub")
        clear F7 F6
        walk_at "z"
        rename_i H8 F9
        rw [Int.toNat_natCast, ← List.map_set] at F9
        refine ⟨_, bs.set P bv, rfl, F9, by rw [List.length_set]; exact hbl, fun i b hi e => ?_⟩
        by_cases ei : P = i
        · subst ei
          rw [List.getElem?_set_self (by omega)] at e
          cases e
          exact hv
        · rw [List.getElem?_set_ne ei] at e
          exact hbs i b (by omega) e
    · rintro σ H4 ⟨v3, bs, rfl, F4, hbl, hbs⟩
      walk_at "z"
      exact k q bs _ ⟨hbl, fun i b e => hbs i b (by omega) e⟩ F4
theorem ok__law_ends (T : Txt K mg c_BadCourse c_BadStock c_BadWall c_Clash c_Stock c_Wall) : Z.Ok CX0 P w K mg base "_law_ends" 1 ["_law_bricks", "_law_length"] [] (sp__law_ends K) := by
  obtain ⟨f, fd, F, g⟩ := T.d__law_ends
  exact Z.mkOk F g (F.binds (ps := ["_law_bricks", "_law_length"]) fun _ _ _ _ _ _ us hl => match us, hl with | [_, _], _ => rfl) (fn__law_ends T F)
theorem use__law_ends {H : Hp} {Q : VK} {E : XK} {L : List Z.En} {p : Addr} {ns : List Int} {n : Nat} (F : Z.Fx H L) (mp : Z.En.ob p (.tup (ns.map V.int)) ∈ L) (h1 : ∀ b ∈ ns, 1 ≤ b) (h4 : ns.length ≤ 4) (hn : n ≤ 400) (k : ∀ q bs H', EndsAt ns n bs → Z.Fx H' (.ob q (.lst (bs.map V.bl)) :: L) → Q (.ref q) H') : sp__law_ends K [.ref p, .int n] H Q E :=
  ⟨_, _, rfl, L, p, ns, n, rfl, rfl, F, mp, h1, h4, hn, k⟩
theorem sc__law_walk : FnScope ["_law_hand_here", "_law_bricks", "_law_ends_here", "_law_place", "_law_row", "_law_good_here", "_law_b"] ["_law_hand_here", "_law_bricks", "_law_ends_here"] (defScope s__law_walk) := ⟨rfl, rfl, rfl, by decide +kernel, rfl, by decide +kernel, by decide +kernel⟩
def sp__law_walk (K : PySem.W.Frag) : Sp := Z.Sp3 fun a b c H Q E => ∃ (L : List Z.En) (l hc p q : Addr) (ns : List Int) (n : Nat) (bs : List Bool), a = .ref l ∧ b = .ref p ∧ c = .ref q ∧ Z.Fx H L ∧ Z.En.hand l hc ∈ L ∧ Z.En.ob p (.tup (ns.map V.int)) ∈ L ∧ Z.En.ob q (.lst (bs.map V.bl)) ∈ L ∧ (∀ b ∈ ns, 1 ≤ b) ∧ ns.length ≤ 4 ∧ 1 ≤ n ∧ n ≤ 400 ∧ EndsAt ns n bs ∧ Can ns n ∧
  ∀ t cs H', Cok ns cs → cs.sum = n → Z.Fx H' (.ob t (.tup (cs.map V.int)) :: L) → Q (.ref t) H'
theorem fn__law_walk (T : Txt K mg c_BadCourse c_BadStock c_BadWall c_Clash c_Stock c_Wall) {f : Addr} {fd : FuncData} (F : Fun K "_law_walk" "_law_walk" s__law_walk f fd) : FnOk P w K mg base CX0 3 f fd ["_law_hand_here", "_law_bricks", "_law_ends_here"] (sp__law_walk K) := by
  have O__law_draw := ok__law_draw (P := P) (w := w) (base := base) T
  refine F.ok sc__law_walk (fun vs H Q E h => ?_) (fun cdv A outer s H vs Q E hr h => ?_)
  · obtain ⟨a, b, c, rfl, _⟩ := h; rfl
  · obtain ⟨a, b, c, rfl, h⟩ := h
    refine ⟨_, (pss_cons (ps_set (i := 3) sc__law_walk.nd rfl (by first | exact Or.inl rfl | exact Or.inr rfl) pe_int)
      (pss_cons (ps_set (i := 4) sc__law_walk.nd rfl (by first | exact Or.inl rfl | exact Or.inr rfl) (pe_lst pa_nil))
      (pss_cons (ps_while PassesOwn.never (pt_cmpR Z.zLt (pv 3) (pe_op op_sub (pe_callB Z.zLen (by rfl) T.b_len (by decide +kernel) (pa_cons (pv 2) pa_nil)) pe_int) (nomark _))
        (pss_cons (by exact (ps_setLc (i := 5) (own := [("_law_b", 6)]) (g := (gName 6)) (by rfl) sc__law_walk.nd rfl rfl (sw_true rfl rfl rfl (by decide +kernel)) (Z.pi_seq (pv 1)) (blkOk_by (own := [("_law_b", 6)]) (N := ["_law_hand_here", "_law_bricks", "_law_ends_here", "_law_place", "_law_row", "_law_good_here", "_law_b"]) (sc := defScope s__law_walk) (by decide +kernel)) (fun _ _ _ _ _ => (by exact (pg_name (i := 6) sc__law_walk.nd rfl (by first | exact Or.inl rfl | exact Or.inr rfl)))) (fun _ _ _ _ _ => (by exact (pts_one (PW.pt (pw_and (pt_cmpR Z.zLt (pe_op (show OpR _ _ (Z.rOr Z.rAddI (Z.rOr Z.rAddS (Z.rOr rCat (rCatT K)))) from Z.zAdd) (pv 3) (pv 6)) (pe_callB (show CallR _ (Value.builtin "len") (Z.rLen K) from Z.zLen) (by rfl) T.b_len (by decide +kernel) (pa_cons (pv 2) pa_nil)) (nomark _)) (pw_and1 (show PT _ _ (Z.rTru K _) from Z.pt_truN (pe_ix (show IxR _ (rIx K) from ix_seq) (pv 2) (pe_op (show OpR _ _ (Z.rOr Z.rAddI (Z.rOr Z.rAddS (Z.rOr rCat (rCatT K)))) from Z.zAdd) (pv 3) (pv 6)) (fun _ _ => rfl))))))))) (fun _ _ _ _ _ => (by exact (pv 6)))))
        (pss_cons (ps_expr (pe_bm PySem.F.plainAttrs_list PySem.F.slot_list_append PySem.F.type_list_append mt_append (pv 4) (pa_cons (pe_ix ix_seq (pv 5) (Z.pe_callO O__law_draw (by rfl) (hr.mono (by decide)) pass0 (pa_cons (pv 0) (pa_cons (pe_callB Z.zLen (by rfl) T.b_len (by decide +kernel) (pa_cons (pv 5) pa_nil)) pa_nil))) (fun _ _ => rfl)) pa_nil)))
        (pss_one (ps_set (i := 3) sc__law_walk.nd rfl (by first | exact Or.inl rfl | exact Or.inr rfl) (pe_op Z.zAdd (pv 3) (pe_ix ix_seq (pv 4) (pe_un un_neg pe_int) (fun _ _ => rfl))))))))
      (pss_one (ps_ret (pe_callTy Z.zTuple (by rfl) T.b_tuple (by decide +kernel) (pa_cons (pv 4) pa_nil))))))), ?_⟩
    try dsimp only [cxOf, Cx.nox, Cx.wish]
    refine Z.at_start (σ' := [some a, some b, some c, none, none, none, none]) rfl ?_
    obtain ⟨L, l, hc, p, q, ns, n, bs, rfl, rfl, rfl, F, mh, mp, mq, h1, h4, n1, hn, he, hcan, k⟩ := h
    walk_at "z"
    rename_i rp H1 F1
    obtain ⟨hbl, hbs⟩ := id he
    refine Z.wWhile (fun m σ H' => ∃ (P : Nat) (cs : List Int) (v5 : Option V) (L' : List Z.En), m = n - P ∧ σ = [some (.ref l), some (.ref p), some (.ref q), some (.int P), some (.ref rp), v5, none] ∧ Z.Fx H' (.ob rp (.lst (cs.map V.int)) :: L') ∧ L.Sublist L' ∧ P ≤ n ∧ cs.sum = P ∧ (∀ c ∈ cs, c ∈ ns) ∧ cs.length ≤ P ∧ Can ns ((n : Int) - P)) n ?_ ?_
    · exact ⟨0, [], _, L, rfl, rfl, F1, .refl _, by omega, rfl, by simp, by simp, by rw [Int.natCast_zero, Int.sub_zero]; exact hcan⟩
    · rintro m σ H2 ⟨P, cs, v5, L', rfl, rfl, F2, sL, hP, hcs, hin, hlen, hc⟩
      have mq2 := sL.subset mq
      have mp2 := sL.subset mp
      have mh2 := sL.subset mh
      walk_at "z"
      refine Z.wIf (fun hb => ?_) (fun hb => ?_)
      · rw [decide_eq_true_eq, List.length_map] at hb
        have hPn : P < n := by omega
        refine Z.wBody ?_
        walk_at "z"
        have hgood : ∀ b ∈ ns, ((P : Int) + b < (n : Int) + 1 ∧ bs.getD ((P : Int) + b).toNat false = true) ↔ Can ns ((n : Int) - P - b) := fun b hb => by
          have hb1 := h1 b hb
          constructor
          · rintro ⟨hle, ht⟩
            have hl : ((P : Int) + b).toNat < bs.length := by omega
            have e : bs[((P : Int) + b).toNat]? = some (bs.getD ((P : Int) + b).toNat false) := by
              rw [List.getD_eq_getElem?_getD, List.getElem?_eq_getElem hl]; rfl
            have := (hbs _ _ e).mp ht
            rwa [show (n : Int) - ((((P : Int) + b).toNat : Nat) : Int) = n - P - b by omega] at this
          · intro hc
            have hnn := hc.nn h1
            have hl : ((P : Int) + b).toNat < bs.length := by omega
            have e : bs[((P : Int) + b).toNat]? = some (bs.getD ((P : Int) + b).toNat false) := by
              rw [List.getD_eq_getElem?_getD, List.getElem?_eq_getElem hl]; rfl
            refine ⟨by omega, (hbs _ _ e).mpr ?_⟩
            rwa [show (n : Int) - ((((P : Int) + b).toNat : Nat) : Int) = n - P - b by omega]
        refine Z.wLcT (.tail _ mp2) F2 (fun i acc L2 => L2 = .ob rp (.lst (cs.map V.int)) :: L' ∧ acc = ((ns.take i).filter fun b => decide ((P : Int) + b < (n : Int) + 1) && bs.getD ((P : Int) + b).toNat false).map V.int) ⟨rfl, rfl⟩ (fun i acc L' r => r.1 ▸ .tail _ mp2) ?_ ?_
        · rintro i x D H6 acc L2 hx ⟨rfl, rfl⟩ F6
          obtain ⟨b, rfl, hb⟩ := Z.int_of_map' hx
          have hb1 := h1 b (List.mem_of_getElem? hb)
          have hfl : ((ns.take i).filter fun b => decide ((P : Int) + b < (n : Int) + 1) && bs.getD ((P : Int) + b).toNat false).length ≤ 4 := by
            have a := List.length_filter_le (fun b => decide ((P : Int) + b < (n : Int) + 1) && bs.getD ((P : Int) + b).toNat false) (ns.take i)
            rw [List.length_take] at a
            omega
          have ebl : ((bs.map V.bl).length : Int) = (n : Int) + 1 := by rw [List.length_map]; omega
          walk_at "zw"
          walk_at "z"
          refine ⟨rfl, ?_⟩
          walk_at "z"
          rw [ebl]
          refine Z.wIfD (fun hle => ?_) (fun hle => ?_)
          · walk_at "z"
            have hl : ((P : Int) + b).toNat < bs.length := by omega
            refine Z.wIxL (F6.lst (.tail _ (.tail _ mq2))) (v := .bl (bs.getD ((P : Int) + b).toNat false)) (atI_of (by omega) ?_) ?_
            · rw [List.getElem?_map, List.getD_eq_getElem?_getD, List.getElem?_eq_getElem hl]; rfl
            walk_at "z"
            refine Z.wIf (fun ht => ?_) (fun ht => ?_)
            · walk_at "z"
              refine Z.lcPut F6 (by rw [List.length_map]; have := Z.line_big; omega) ⟨rfl, ?_⟩
              rw [filter_take_yes hb (by rw [decide_eq_true hle, ht]; rfl), List.map_append]
              rfl
            · exact ⟨_, _, F6, rfl, by rw [filter_take_no hb (by rw [ht, Bool.and_false])]⟩
          · walk_at "z"
            exact ⟨_, _, F6, rfl, by rw [filter_take_no hb (by rw [decide_eq_false hle]; rfl)]⟩
        · rintro D acc L2 H6 F6 ⟨rfl, rfl⟩
          rw [List.length_map, List.take_length] at F6
          have hne : 0 < (ns.filter fun b => decide ((P : Int) + b < (n : Int) + 1) && bs.getD ((P : Int) + b).toNat false).length := by
            rcases hc.inv with h0 | ⟨b, hb, hc⟩
            · omega
            · have h2 := (hgood b hb).mpr hc
              exact List.length_pos_of_mem (List.mem_filter.mpr ⟨hb, by rw [Bool.and_eq_true, decide_eq_true_eq]; exact h2⟩)
          have hfl : (ns.filter fun b => decide ((P : Int) + b < (n : Int) + 1) && bs.getD ((P : Int) + b).toNat false).length ≤ 4 := Nat.le_trans (List.length_filter_le _ _) h4
          have hfm : ∀ b ∈ (ns.filter fun b => decide ((P : Int) + b < (n : Int) + 1) && bs.getD ((P : Int) + b).toNat false), b ∈ ns ∧ Can ns ((n : Int) - P - b) := fun b hb => by
            obtain ⟨hb1, hb2⟩ := List.mem_filter.mp hb
            rw [Bool.and_eq_true, decide_eq_true_eq] at hb2
            exact ⟨hb1, (hgood b hb1).mp hb2⟩
          generalize (ns.filter fun b => decide ((P : Int) + b < (n : Int) + 1) && bs.getD ((P : Int) + b).toNat false) = gs at *
          walk_at "z"
          rename_i j H7 F7 j0 j1
          obtain ⟨g1, g2⟩ := hfm _ (List.mem_of_getElem? (Z.get_getD (ns := gs) (k := j.toNat) (by omega)))
          have g3 := h1 _ g1
          have g4 := g2.nn h1
          generalize gs.getD j.toNat 0 = b at *
          refine Z.wApp F7 (.tail _ List.mem_cons_self) (.tail .head) (by rw [List.length_map]; have := Z.line_big; omega) fun H8 F8 => ?_
          have em : cs.map V.int ++ [V.int b] = (cs ++ [b]).map V.int := by rw [List.map_append]; rfl
          rw [em] at F8
          have F9 := F8.perm (.swap _ _ _)
          walk_at "z"
          refine Z.wIxL (F9.lst List.mem_cons_self) (Z.at_last (by simp)) ?_
          have eb : (cs ++ [b]).getD ((cs ++ [b]).length - 1) 0 = b := by simp
          rw [eb]
          walk_at "z"
          refine ⟨n - (P + b.toNat), by omega, P + b.toNat, cs ++ [b], some (.ref D), .ob D (.lst (gs.map V.int)) :: L', rfl, ?_, F9, .cons _ sL, by omega, ?_, ?_, ?_, ?_⟩
          · rw [show ((P + b.toNat : Nat) : Int) = P + b by omega]
          · rw [List.sum_append, hcs, List.sum_singleton]; omega
          · intro c hc2
            rcases List.mem_append.mp hc2 with h | h
            · exact hin c h
            · cases List.mem_singleton.mp h
              exact g1
          · rw [List.length_append]; simp only [List.length_cons, List.length_nil]; omega
          · rw [show (n : Int) - ((P + b.toNat : Nat) : Int) = n - P - b by omega]; exact g2
      · rw [decide_eq_false_iff_not, List.length_map] at hb
        have hPn : P = n := by omega
        subst hPn
        walk_at "z"
        rename_i t H3 F3
        refine k t cs H3 ⟨hin, ?_, by omega, by omega⟩ hcs (F3.sub (.cons_cons _ (.cons _ sL)))
        cases cs with
        | nil => simp at hcs; omega
        | cons => simp
theorem ok__law_walk (T : Txt K mg c_BadCourse c_BadStock c_BadWall c_Clash c_Stock c_Wall) : Z.Ok CX0 P w K mg base "_law_walk" 3 ["_law_hand_here", "_law_bricks", "_law_ends_here"] [] (sp__law_walk K) := by
  obtain ⟨f, fd, F, g⟩ := T.d__law_walk
  exact Z.mkOk F g (F.binds (ps := ["_law_hand_here", "_law_bricks", "_law_ends_here"]) fun _ _ _ _ _ _ us hl => match us, hl with | [_, _, _], _ => rfl) (fn__law_walk T F)
theorem use__law_walk {H : Hp} {Q : VK} {E : XK} {L : List Z.En} {l hc p q : Addr} {ns : List Int} {n : Nat} {bs : List Bool} (F : Z.Fx H L) (mh : Z.En.hand l hc ∈ L) (mp : Z.En.ob p (.tup (ns.map V.int)) ∈ L) (mq : Z.En.ob q (.lst (bs.map V.bl)) ∈ L) (h1 : ∀ b ∈ ns, 1 ≤ b) (h4 : ns.length ≤ 4) (n1 : 1 ≤ n) (hn : n ≤ 400) (he : EndsAt ns n bs) (hcan : Can ns n)
  (k : ∀ t cs H', Cok ns cs → cs.sum = n → Z.Fx H' (.ob t (.tup (cs.map V.int)) :: L) → Q (.ref t) H') : sp__law_walk K [.ref l, .ref p, .ref q] H Q E :=
  ⟨_, _, _, rfl, L, l, hc, p, q, ns, n, bs, rfl, rfl, rfl, F, mh, mp, mq, h1, h4, n1, hn, he, hcan, k⟩
theorem sc_Wall___eq__ : FnScope ["self", "other"] ["self", "other"] (defScope s_Wall___eq__) := ⟨rfl, rfl, rfl, by decide +kernel, rfl, by decide +kernel, by decide +kernel⟩
/-- all that is in it is data -/
theorem rows_data {L : List Z.En} {ws : List V} {rows : List (List Int)} (h : Z.Al2 (TupOf L) ws rows) : Z.DtA L ws (rows.map fun cs => .tuple (Z.iD cs)) := by
  obtain ⟨hl, hg⟩ := h
  induction ws generalizing rows with
  | nil =>
    cases rows with
    | nil => exact .nil
    | cons r rs => simp at hl
  | cons w ws ih =>
    cases rows with
    | nil => simp at hl
    | cons r rs =>
      obtain ⟨a, e, m⟩ := hg 0 w r rfl rfl
      subst e
      refine .cons (Z.Dt.tupI m) (ih (by simpa using hl) fun i x y e e' => hg (i + 1) x y e e')
theorem rows_sh (rows : List (List Int)) : Z.ShA (rows.map fun cs => PyData.tuple (Z.iD cs)) 1 := Z.ShA.map fun _ _ => Z.Sh.tup (Z.ShA.ints _)
theorem rows_eqv' : ∀ (a b : List (List Int)), PyData.eqvAll (a.map fun cs => .tuple (Z.iD cs)) (b.map fun cs => .tuple (Z.iD cs)) = decide (a = b)
  | [], [] => rfl
  | [], _ :: _ => rfl
  | _ :: _, [] => rfl
  | x :: a, y :: b => by
    show (PyData.eqvAll (Z.iD x) (Z.iD y) && PyData.eqvAll (a.map fun cs => .tuple (Z.iD cs)) (b.map fun cs => .tuple (Z.iD cs))) = _
    rw [rows_eqv' a b, Z.eqvAll_ints]
    by_cases h : x = y
    · subst h; simp
    · simp [h]
theorem rows_eqv (a b : List (List Int)) : PyData.eqv (.tuple (a.map fun cs => .tuple (Z.iD cs))) (.tuple (b.map fun cs => .tuple (Z.iD cs))) = decide (a = b) := rows_eqv' a b
def sp_Wall___eq__ (K : PySem.W.Frag) (cS cW : Addr) : Sp := Z.Sp2 fun a b H Q E => ∃ (L : List Z.En) (y x : Addr) (rows : List (List Int)) (ns : List Int) (l r : Int), a = .ref y ∧ Z.Fx H L ∧ WallIn cW L y x rows ∧ StockIn cS L x ns l r ∧
  ((∃ y' x' rows' ns' l' r', b = .ref y' ∧ WallIn cW L y' x' rows' ∧ StockIn cS L x' ns' l' r' ∧ Q (.bl ((decide (ns = ns') && (decide (l = l') && decide (r = r'))) && decide (rows = rows'))) H) ∨
    ∃ z C dz fs, b = .ref z ∧ Z.En.ob z (.ins C dz fs) ∈ L ∧ Z.InsF K C ∧ PySem.W.kitOne K (.ref C) (.ref cW) = some false ∧ Q (.bl false) H)
theorem fn_Wall___eq__ (T : Txt K mg c_BadCourse c_BadStock c_BadWall c_Clash c_Stock c_Wall) {f : Addr} {fd : FuncData} (F : Fun K "__eq__" "Wall.__eq__" s_Wall___eq__ f fd) : FnOk P w K mg base CX0 3 f fd ["self", "other"] (sp_Wall___eq__ K c_Stock c_Wall) := by
  have O_Stock___eq__ := ok_Stock___eq__ (P := P) (w := w) (base := base) T
  refine F.ok sc_Wall___eq__ (fun vs H Q E h => ?_) (fun cdv A outer s H vs Q E hr h => ?_)
  · obtain ⟨a, b, rfl, _⟩ := h; rfl
  · obtain ⟨a, b, rfl, h⟩ := h
    refine ⟨_, (pss_one (ps_ret (pe_andT (pe_callB Z.zIsi (by rfl) T.b_isinstance (by decide +kernel) (pa_cons (pv 1) (pa_cons (pe_glob (v := V.ref c_Wall) (by rfl) T.g_Wall (show RelV (V.ref _) _ from rfl)) pa_nil))) (pe_andT (pe_cmpR (Z.op_eqOwnO O_Stock___eq__ (hr.mono (by decide))) (pe_fld (pv 0) rfl) (pe_fld (pv 1) rfl) (nomark _)) (pe_one (pe_cmpR (Z.zEq (Z.hu0 hr)) (pe_fld (pv 0) rfl) (pe_fld (pv 1) rfl) (nomark _))))))), ?_⟩
    try dsimp only [cxOf, Cx.nox, Cx.wish]
    refine Z.at_start (σ' := [some a, some b]) rfl ?_
    obtain ⟨L, y, x, rows, ns, l, r, rfl, F, ⟨dx, p, m, ws, mw, al⟩, si, h⟩ := h
    have hcl := T.i_Wall.cl
    rcases h with ⟨y', x', rows', ns', l', r', rfl, ⟨dx', p', m', ws', mw', al'⟩, si', q⟩ | ⟨z, C, dz, fs, rfl, mz, hC, hk, q⟩
    · walk_at "z"
      refine Z.wIsiOwn T.i_Wall (F.get m') ?_
      walk_at "z"
      refine Z.wFldAt F m hcl T.n_Wall_stock (wall_stock _ _ _) ?_
      walk_at "z"
      refine Z.wFldAt F m' hcl T.n_Wall_stock (wall_stock _ _ _) ?_
      obtain ⟨dxs, ps, ms, _⟩ := id si
      obtain ⟨dxs', ps', ms', _⟩ := id si'
      refine ⟨x, _, _, _, rfl, F.get ms, T.i_Stock.ty (F.get ms'), T.i_Stock.nf, _, _, rfl, L, x, ns, l, r, rfl, F, si, .inl ⟨x', ns', l', r', rfl, si', ?_⟩⟩
      refine ⟨_, rfl, ?_⟩
      dsimp only [id]
      walk_at "z"
      refine Z.wIf (fun hb => ?_) (fun hb => ?_)
      · rw [hb, Bool.true_and] at q
        walk_at "z"
        refine Z.wFldAt F m hcl T.n_Wall_courses (wall_courses _ _ _) ?_
        walk_at "z"
        refine Z.wFldAt F m' hcl T.n_Wall_courses (wall_courses _ _ _) ?_
        refine Z.wEqD F (.tup mw (rows_data al)) (.tup mw' (rows_data al')) (Z.Sh.tup (rows_sh _)).ok (Z.Sh.tup (rows_sh _)).ok ?_
        rw [rows_eqv]
        exact q
      · rw [hb, Bool.false_and] at q
        rw [hb]
        walk_at "z"
        exact q
    · walk_at "z"
      refine .inl ⟨_, _, _, _, _, rfl, .own _, hC.ty (F.get mz), hk, ?_⟩
      walk_at "z"
      exact q
theorem ok_Wall___eq__ (T : Txt K mg c_BadCourse c_BadStock c_BadWall c_Clash c_Stock c_Wall) : Z.EqO P w K mg base c_Wall 3 ["self", "other"] (sp_Wall___eq__ K c_Stock c_Wall) := by
  obtain ⟨f, fd, F, i⟩ := T.d_Wall___eq__
  exact ⟨f, fd, i, (F.binds (ps := ["self", "other"]) fun _ _ _ _ _ _ us hl => match us, hl with | [_, _], _ => rfl), fn_Wall___eq__ T F⟩
theorem sc_Wall___len__ : FnScope ["self"] ["self"] (defScope s_Wall___len__) := ⟨rfl, rfl, rfl, by decide +kernel, rfl, by decide +kernel, by decide +kernel⟩
def sp_Wall___len__ (cW : Addr) : Sp := Z.Sp1 fun a H Q E => ∃ (L : List Z.En) (y x : Addr) (rows : List (List Int)), a = .ref y ∧ Z.Fx H L ∧ WallIn cW L y x rows ∧ Q (.int rows.length) H
theorem fn_Wall___len__ (T : Txt K mg c_BadCourse c_BadStock c_BadWall c_Clash c_Stock c_Wall) {f : Addr} {fd : FuncData} (F : Fun K "__len__" "Wall.__len__" s_Wall___len__ f fd) : FnOk P w K mg base CX0 1 f fd ["self"] (sp_Wall___len__ c_Wall) := by
  refine F.ok sc_Wall___len__ (fun vs H Q E h => ?_) (fun cdv A outer s H vs Q E hr h => ?_)
  · obtain ⟨a, rfl, _⟩ := h; rfl
  · obtain ⟨a, rfl, h⟩ := h
    refine ⟨_, (pss_one (ps_ret (pe_callB Z.zLen (by rfl) T.b_len (by decide +kernel) (pa_cons (pe_fld (pv 0) rfl) pa_nil)))), ?_⟩
    try dsimp only [cxOf, Cx.nox, Cx.wish]
    refine Z.at_start (σ' := [some a]) rfl ?_
    obtain ⟨L, y, x, rows, rfl, F, ⟨dx, p, m, ws, mw, al⟩, q⟩ := h
    have hcl := T.i_Wall.cl
    walk_at "z"
    refine Z.wFldAt F m hcl T.n_Wall_courses (wall_courses _ _ _) ?_
    rw [← al.len] at q
    walk_at "z"
    exact q
theorem ok_Wall___len__ (T : Txt K mg c_BadCourse c_BadStock c_BadWall c_Clash c_Stock c_Wall) : Z.LenO P w K mg base c_Wall 1 ["self"] (sp_Wall___len__ c_Wall) := by
  obtain ⟨f, fd, F, i⟩ := T.d_Wall___len__
  exact ⟨f, fd, i, (F.binds (ps := ["self"]) fun _ _ _ _ _ _ us hl => match us, hl with | [_], _ => rfl), fn_Wall___len__ T F⟩
theorem sc_Clash___init__ : FnScope ["self", "lower", "upper", "joint", "other"] ["self", "lower", "upper", "joint", "other"] (defScope s_Clash___init__) := ⟨rfl, rfl, rfl, by decide +kernel, rfl, by decide +kernel, by decide +kernel⟩
def sp_Clash___init__ (K : PySem.W.Frag) (cC : Addr) : Sp := Z.Sp5 fun a b c d e H Q E => ∃ (L : List Z.En) (x dx : Addr), a = .ref x ∧ Z.Fx H (.ob x (.ins cC dx []) :: .ob dx (.own x) :: L) ∧
  (∀ fs H', Z.Fx H' (.ob x (.ins cC dx fs) :: .ob dx (.own x) :: L) → Q .non H')
theorem fn_Clash___init__ (T : Txt K mg c_BadCourse c_BadStock c_BadWall c_Clash c_Stock c_Wall) {f : Addr} {fd : FuncData} (F : Fun K "__init__" "Clash.__init__" s_Clash___init__ f fd) : FnOk P w K mg base CX0 1 f fd ["self", "lower", "upper", "joint", "other"] (sp_Clash___init__ K c_Clash) := by
  refine F.ok sc_Clash___init__ (fun vs H Q E h => ?_) (fun cdv A outer s H vs Q E hr h => ?_)
  · obtain ⟨a, b, c, d, e, rfl, _⟩ := h; rfl
  · obtain ⟨a, b, c, d, e, rfl, h⟩ := h
    refine ⟨_, (pss_cons (ps_fld (pv 0) (pv 1) rfl)
      (pss_cons (ps_fld (pv 0) (pv 2) rfl)
      (pss_cons (ps_fld (pv 0) (pv 3) rfl)
      (pss_one (ps_fld (pv 0) (pv 4) rfl))))), ?_⟩
    try dsimp only [cxOf, Cx.nox, Cx.wish]
    refine Z.at_start (σ' := [some a, some b, some c, some d, some e]) rfl ?_
    obtain ⟨L, x, dx, rfl, F, kQ⟩ := h
    have hcl := T.i_Clash.cl
    have l1 : ∀ (f : Str) (v : V) (l : List (Str × V)) (n : Nat), l.length ≤ n → (putF f v l).length ≤ n + 1 := fun f v l n h => Nat.le_trans (putF_len f v l) (by omega)
    walk_at "z"
    refine Z.wStoreF F List.mem_cons_self hcl T.n_Clash_lower (by decide) .head fun H2 F2 => ?_
    walk_at "z"
    refine Z.wStoreF F2 List.mem_cons_self hcl T.n_Clash_upper (Nat.lt_of_le_of_lt (l1 _ _ _ 0 (by decide)) (by decide)) .head fun H3 F3 => ?_
    walk_at "z"
    refine Z.wStoreF F3 List.mem_cons_self hcl T.n_Clash_joint (Nat.lt_of_le_of_lt (l1 _ _ _ 1 (l1 _ _ _ 0 (by decide))) (by decide)) .head fun H4 F4 => ?_
    walk_at "z"
    refine Z.wStoreF F4 List.mem_cons_self hcl T.n_Clash_other (Nat.lt_of_le_of_lt (l1 _ _ _ 2 (l1 _ _ _ 1 (l1 _ _ _ 0 (by decide)))) (by decide)) .head fun H5 F5 => ?_
    exact kQ _ _ F5
theorem ok_Clash___init___4 (T : Txt K mg c_BadCourse c_BadStock c_BadWall c_Clash c_Stock c_Wall) : Z.MkO CX0 P w K mg base c_Clash 1 ["self", "lower", "upper", "joint", "other"] [] (sp_Clash___init__ K c_Clash) := by
  obtain ⟨f, fd, F, i⟩ := T.d_Clash___init__
  exact ⟨f, fd, [], i, (F.binds (ps := ["self", "lower", "upper", "joint", "other"]) fun _ _ _ _ _ _ us hl => match us, hl with | [_, _, _, _, _], _ => rfl), .nil, fn_Clash___init__ T F⟩
theorem use_Clash {cC : Addr} {H : Hp} {QX : Addr → Hp → Prop} {E : XK} {L : List Z.En} {b c d e : V} (F : Z.Fx H L) (q : ∀ x dx fs H', Z.Fx H' (.ob x (.ins cC dx fs) :: .ob dx (.own x) :: L) → QX x H') :
    ∀ x dx, H x = none → H dx = none → dx ≠ x → sp_Clash___init__ K cC [.ref x, b, c, d, e] (upd (upd H dx (.own x)) x (.ins cC dx [])) (fun v H2 => v = .non ∧ QX x H2) E := fun x dx hx hdx ne =>
  ⟨_, _, _, _, _, rfl, L, x, dx, rfl, F.inst hx hdx ne, fun fs H' F' => ⟨rfl, q x dx fs H' F'⟩⟩
theorem sc__law_refused : FnScope ["_law_told_here", "_law_index", "_law_what"] ["_law_told_here", "_law_index", "_law_what"] (defScope s__law_refused) := ⟨rfl, rfl, rfl, by decide +kernel, rfl, by decide +kernel, by decide +kernel⟩
def sp__law_refused (K : PySem.W.Frag) : Sp := Z.Sp3 fun a b c H Q E => ∃ (L : List Z.En) (q : Addr) (i : Int) (w : Str), a = .ref q ∧ b = .int i ∧ c = .str w ∧ Z.Fx H L ∧ Z.En.ob q (.tup [.int i, .str w]) ∈ L ∧ Q (.bl true) H
theorem fn__law_refused (T : Txt K mg c_BadCourse c_BadStock c_BadWall c_Clash c_Stock c_Wall) {f : Addr} {fd : FuncData} (F : Fun K "_law_refused" "_law_refused" s__law_refused f fd) : FnOk P w K mg base CX0 2 f fd ["_law_told_here", "_law_index", "_law_what"] (sp__law_refused K) := by
  have O__law_is := ok__law_is (P := P) (w := w) (base := base) T
  refine F.ok sc__law_refused (fun vs H Q E h => ?_) (fun cdv A outer s H vs Q E hr h => ?_)
  · obtain ⟨a, b, c, rfl, _⟩ := h; rfl
  · obtain ⟨a, b, c, rfl, h⟩ := h
    refine ⟨_, (pss_one (ps_ret (pe_andT (pe_cmpR Z.zIsNot (pv 0) pe_non (nomark _)) (pe_andT (Z.pe_callO O__law_is (by rfl) (hr.mono (by decide)) pass0 (pa_cons (pe_ix ix_seq (pv 0) pe_int (fun _ _ => rfl)) (pa_cons (pv 1) pa_nil))) (pe_one (pe_cmpR (Z.zEq (Z.hu0 hr)) (pe_ix ix_seq (pv 0) pe_int (fun _ _ => rfl)) (pv 2) (nomark _))))))), ?_⟩
    try dsimp only [cxOf, Cx.nox, Cx.wish]
    refine Z.at_start (σ' := [some a, some b, some c]) rfl ?_
    obtain ⟨L, q, i, w, rfl, rfl, rfl, F, m, k⟩ := h
    walk_at "z"
    refine Z.wEqStr ?_
    simpa using k
theorem ok__law_refused (T : Txt K mg c_BadCourse c_BadStock c_BadWall c_Clash c_Stock c_Wall) : Z.Ok CX0 P w K mg base "_law_refused" 2 ["_law_told_here", "_law_index", "_law_what"] [] (sp__law_refused K) := by
  obtain ⟨f, fd, F, g⟩ := T.d__law_refused
  exact Z.mkOk F g (F.binds (ps := ["_law_told_here", "_law_index", "_law_what"]) fun _ _ _ _ _ _ us hl => match us, hl with | [_, _, _], _ => rfl) (fn__law_refused T F)
theorem use__law_refused {H : Hp} {Q : VK} {E : XK} {L : List Z.En} {q : Addr} {i : Int} {w : Str} (F : Z.Fx H L) (m : Z.En.ob q (.tup [.int i, .str w]) ∈ L) (k : Q (.bl true) H) : sp__law_refused K [.ref q, .int i, .str w] H Q E := ⟨_, _, _, rfl, L, q, i, w, rfl, rfl, rfl, F, m, k⟩
theorem sc__law_many : FnScope ["_law_hand_here", "_law_stock_here", "_law_row", "_law_wrong"] ["_law_hand_here", "_law_stock_here", "_law_row"] (defScope s__law_many) := ⟨rfl, rfl, rfl, by decide +kernel, rfl, by decide +kernel, by decide +kernel⟩
theorem flaw_none {ns : List Int} {rows : List (List Int)} (h : WRows ns rows) : ∀ j < rows.length, flawAt ns (rows.map intsO) j = none := fun j hj => by
  have e : (rows.map intsO).getD j none = some ((rows.getD j []).map V.int) := by
    rw [List.getD_eq_getElem?_getD, List.getElem?_map, List.getD_eq_getElem?_getD, List.getElem?_eq_getElem hj]; rfl
  have hm : rows.getD j [] ∈ rows := by
    rw [List.getD_eq_getElem?_getD, List.getElem?_eq_getElem hj]; exact List.getElem_mem hj
  obtain ⟨hok, hs⟩ := h.2.2 _ hm
  unfold flawAt
  rw [e, flawW_good hok]
  by_cases h0 : j = 0
  · rw [if_pos h0]
  · rw [if_neg h0]
    have e0 : (rows.map intsO).getD 0 none = some ((rows.getD 0 []).map V.int) := by
      rw [List.getD_eq_getElem?_getD, List.getElem?_map, List.getD_eq_getElem?_getD, List.getElem?_eq_getElem (by omega)]; rfl
    rw [e0]
    show (if (rows.getD j []).sum = (((rows.getD 0 []).map V.int).map intV).sum then none else some _) = none
    rw [intV_map, if_pos hs]
theorem tup_course {L : List Z.En} {v : V} {cs : List Int} (h : TupOf L v cs) : CourseAt L v (intsO cs) := ⟨h.seq, ints_things⟩
theorem rows_courses {L : List Z.En} {vs : List V} {rows : List (List Int)} (h : Z.Al2 (TupOf L) vs rows) : Z.Al2 (CourseAt L) vs (rows.map intsO) :=
  ⟨by rw [List.length_map]; exact h.len, fun i v o e e' => by
    rw [List.getElem?_map] at e'
    obtain ⟨cs, ec, t⟩ := h.getL e
    rw [ec] at e'
    cases e'
    exact tup_course t⟩
/-- nothing that can be a wall's courses -/
def NoWall (L : List Z.En) (v : V) : Prop := ∃ oc os, Z.SeqIs L v oc ∧ (∀ vs, oc = some vs → Z.Al2 (CourseAt L) vs os) ∧ Z.inLen 1 60 oc = false
theorem NoWall.mono {L L2 : List Z.En} {v : V} (h : NoWall L v) (s : L.Sublist L2) : NoWall L2 v :=
  let ⟨oc, os, a, b, c⟩ := h
  ⟨oc, os, a.mono fun _ h => s.subset h, fun vs e => (b vs e).mono fun _ _ c => c.mono fun _ h => s.subset h, c⟩
theorem told_ok {K : PySem.W.Frag} {H : Hp} {Q : VK} {E : XK} {L : List Z.En} {t : Addr} {b : V} {ns : List Int} {lap r : Int} {vs : List V} {rows : List (List Int)} (F : Z.Fx H L) (st : St3 L t ns lap r) (hg : goodB (some (ns.map V.int)) = true) (hlap : 1 ≤ lap ∧ lap ≤ 4) (hr : 1 ≤ r ∧ r ≤ 2) (hs : Z.SeqIs L b (some vs)) (al : Z.Al2 (TupOf L) vs rows) (hw : WRows ns rows)
    (k : ∀ H', Z.Fx H' L → Q .non H') : sp__law_told K [.ref t, b] H Q E := by
  have hl := al.len
  obtain ⟨w1, w2, _⟩ := id hw
  refine use__law_told F st hg hlap hr hs (os := rows.map intsO) (fun ws e => by cases e; exact rows_courses al) (fun h => ?_) (fun i w _ hi _ hf => ?_) fun _ _ _ _ => k
  · exact absurd h (by simp [Z.inLen]; omega)
  · rw [List.length_map] at hi
    rw [flaw_none hw i hi] at hf
    cases hf
def sp__law_many (K : PySem.W.Frag) : Sp := Z.Sp3 fun a b c H Q E => ∃ (L : List Z.En) (l hc t p : Addr) (ns : List Int) (lap r : Int) (cs : List Int), a = .ref l ∧ b = .ref t ∧ c = .ref p ∧ Z.Fx H L ∧ Z.En.hand l hc ∈ L ∧ St3 L t ns lap r ∧ goodB (some (ns.map V.int)) = true ∧ (1 ≤ lap ∧ lap ≤ 4) ∧ (1 ≤ r ∧ r ≤ 2) ∧ Z.En.ob p (.tup (cs.map V.int)) ∈ L ∧ Cok ns cs ∧ ∀ H', Z.Fx H' L → Q (.bl true) H'
theorem fn__law_many (T : Txt K mg c_BadCourse c_BadStock c_BadWall c_Clash c_Stock c_Wall) {f : Addr} {fd : FuncData} (F : Fun K "_law_many" "_law_many" s__law_many f fd) : FnOk P w K mg base CX0 10 f fd ["_law_hand_here", "_law_stock_here", "_law_row"] (sp__law_many K) := by
  have O__law_draw := ok__law_draw (P := P) (w := w) (base := base) T
  have O__law_refused := ok__law_refused (P := P) (w := w) (base := base) T
  have O__law_told := ok__law_told (P := P) (w := w) (base := base) T
  refine F.ok sc__law_many (fun vs H Q E h => ?_) (fun cdv A outer s H vs Q E hr h => ?_)
  · obtain ⟨a, b, c, rfl, _⟩ := h; rfl
  · obtain ⟨a, b, c, rfl, h⟩ := h
    refine ⟨_, (pss_cons (ps_for PassesOwn.never (by rfl) (Z.pi_seq (pe_lst (pa_cons pe_non (pa_cons pe_str (pa_cons (pe_lst pa_nil) (pa_cons (pe_tup pa_nil) (pa_cons (pe_disp (pps_cons pe_int (pv 2) pps_nil) (by rfl) (by rfl) (by decide) (by decide)) (pa_cons (pe_op Z.zAdd pe_int (Z.pe_callO O__law_draw (by rfl) (hr.mono (by decide)) pass0 (pa_cons (pv 0) (pa_cons (pe_op Z.zPow pe_int pe_int) pa_nil)))) (pa_cons (pe_op Z.zMul (pe_lst (pa_cons (pv 2) pa_nil)) (pe_op Z.zAdd pe_int (Z.pe_callO O__law_draw (by rfl) (hr.mono (by decide)) pass0 (pa_cons (pv 0) (pa_cons pe_int pa_nil))))) (pa_cons (pe_op Z.op_rep1 (pe_tup (pa_cons pe_non pa_nil)) pe_int) pa_nil)))))))))) (pg_name (i := 3) sc__law_many.nd rfl (by first | exact Or.inl rfl | exact Or.inr rfl))
        (pss_one (ps_if (pt_not (Z.pt_truN (Z.pe_callO O__law_refused (by rfl) (hr.mono (by decide)) pass0 (pa_cons (Z.pe_callO O__law_told (by rfl) (hr.mono (by decide)) pass0 (pa_cons (pv 1) (pa_cons (pv 3) pa_nil))) (pa_cons pe_int (pa_cons pe_str pa_nil))))))
          (pss_one (ps_ret pe_bl))
          pss_nil)))
      (pss_one (ps_ret (pe_andT (pe_cmpR Z.zIs (Z.pe_callO O__law_told (by rfl) (hr.mono (by decide)) pass0 (pa_cons (pv 1) (pa_cons (pe_op Z.zMul (pe_lst (pa_cons (pv 2) pa_nil)) pe_int) pa_nil))) pe_non (nomark _)) (pe_one (pe_cmpR Z.zIs (Z.pe_callO O__law_told (by rfl) (hr.mono (by decide)) pass0 (pa_cons (pv 1) (pa_cons (pe_tup (pa_cons (pv 2) pa_nil)) pa_nil))) pe_non (nomark _))))))), ?_⟩
    try dsimp only [cxOf, Cx.nox, Cx.wish]
    refine Z.at_start (σ' := [some a, some b, some c, none]) rfl ?_
    obtain ⟨L, l, hc, t, p, ns, lap, r, cs, rfl, rfl, rfl, F, mh, st, hg, hlap, hreach, mp, hok, k⟩ := h
    have lg25 : (((10 : Int) ^ Int.toNat 25).natAbs).log2 < 9000 := by decide +kernel
    have p25 : (0 : Int) < 10 ^ Int.toNat 25 := by decide
    walk_at "z"
    rename_i q1 H1 F1 q2 H2 F2
    refine fun q3 hq3 => ?_
    have F3 := F2.new (o := .dK []) hq3
    show tVar 2 _ _ _
    refine Z.wV2 ?_
    refine ⟨by rw [upd_same], [(.inl 0, .ref p)], rfl, by simp, ?_⟩
    have F4 := F3.put (o' := .dK (mergeK [] [(.inl 0, .ref p)])) .head
    generalize upd (upd H2 q3 (.dK [])) q3 (.dK (mergeK [] [(.inl 0, .ref p)])) = H4 at F4 ⊢
    walk_at "z"
    rename_i dr H5 F5 d0 d1 q4 H6 F6 u2 H7 F7 u20 u21 q5 H8 F8 q6 H9 F9
    rw [Z.flat_one] at F8 F9
    refine Z.wRep1 F9 List.mem_cons_self (by decide) (by decide) (by simp) (by simp) fun q7 H10 L10 m10 s10 F10 => ?_
    rw [Z.flat_one] at m10
    have m5 := s10.subset (.tail _ List.mem_cons_self)
    have m3 := s10.subset (.tail _ (.tail _ (.tail _ List.mem_cons_self)))
    have m2 := s10.subset (.tail _ (.tail _ (.tail _ (.tail _ List.mem_cons_self))))
    have m1 := s10.subset (.tail _ (.tail _ (.tail _ (.tail _ (.tail _ List.mem_cons_self)))))
    have sL : L.Sublist L10 := (List.Sublist.cons _ (.cons _ (.cons _ (.cons _ (.cons _ (.cons _ (.refl _))))))).trans s10
    have hall : ∀ y ∈ [V.non, V.str "wall", V.ref q1, V.ref q2, V.ref q3, V.int (1 + dr), V.ref q5, V.ref q7], NoWall L10 y := by
      intro y hy
      simp only [List.mem_cons, List.not_mem_nil, or_false] at hy
      rcases hy with rfl | rfl | rfl | rfl | rfl | rfl | rfl | rfl
      · exact ⟨none, [], .non, nofun, rfl⟩
      · exact ⟨none, [], .str _, nofun, rfl⟩
      · exact ⟨some [], [], .lst m1, fun vs e => by cases e; exact .nil, rfl⟩
      · exact ⟨some [], [], .tup m2, fun vs e => by cases e; exact .nil, rfl⟩
      · exact ⟨none, [], .dct m3, nofun, rfl⟩
      · exact ⟨none, [], .int _, nofun, rfl⟩
      · exact ⟨some _, List.replicate (61 + u2).toNat (intsO cs), .lst m5, fun vs e => by cases e; exact .rep (tup_course ⟨p, rfl, sL.subset mp⟩) _, by simp [Z.inLen]; omega⟩
      · exact ⟨some _, List.replicate (Int.toNat 61) none, .tup m10, fun vs e => by cases e; exact .rep ⟨.non, nofun⟩ _, by simp [Z.inLen]⟩
    clear F9 F8 F7 F6 F5 F4 F3 F2 F1 F
    walk_at "z"
    rename_i lq H11 F11
    generalize [V.non, V.str "wall", V.ref q1, V.ref q2, V.ref q3, V.int (1 + dr), V.ref q5, V.ref q7] = items at F11 hall
    have s11 : L10.Sublist (.ob lq (.lst items) :: L10) := .cons _ (.refl _)
    refine Z.wForLi F11 List.mem_cons_self (fun i σ H' => ∃ v3, σ = [some (.ref l), some (.ref t), some (.ref p), v3] ∧ Z.Fx H' (.ob lq (.lst items) :: L10)) ⟨_, rfl, F11⟩ ?_ ?_ ?_
    · rintro i σ H' ⟨v3, rfl, F'⟩
      exact ⟨_, F', List.mem_cons_self⟩
    · rintro i y σ H' hy ⟨v3, rfl, F'⟩
      obtain ⟨oc, os, hsq, hal, hin⟩ := (hall y (List.mem_of_getElem? hy)).mono s11
      walk_at "z"
      refine use__law_told F' (st.le (sL.trans s11)) hg hlap hreach hsq hal (fun _ q L1 H2 s2 mq F2 => ?_) (fun i w h => absurd (h.symm.trans hin) nofun) (fun _ h => absurd (h.symm.trans hin) nofun)
      walk_at "z"
      refine use__law_refused F2 mq ?_
      walk_at "z"
      exact ⟨_, rfl, F2.sub s2⟩
    · rintro σ H' ⟨v3, rfl, F'⟩
      have F12 := F'.sub (sL.trans s11)
      clear F' F11 F10
      walk_at "z"
      rename_i q8 H12 F13 q9 H13 F14
      rw [Z.flat_one] at F14
      have hwr : ∀ n : Nat, 1 ≤ n → n ≤ 60 → WRows ns (List.replicate n cs) := fun n h1 h2 => ⟨by rw [List.length_replicate]; exact h1, by rw [List.length_replicate]; exact h2, fun c hc => by
        have e := List.eq_of_mem_replicate hc
        subst e
        refine ⟨hok, ?_⟩
        rw [List.getD_eq_getElem?_getD, List.getElem?_replicate_of_lt h1]
        rfl⟩
      refine told_ok F14 (st.le (.cons _ (.cons _ (.refl _)))) hg hlap hreach (.lst List.mem_cons_self) (.rep ⟨p, rfl, .tail _ (.tail _ mp)⟩ _) (hwr _ (by decide) (by decide)) fun H14 F15 => ?_
      walk_at "z"
      rename_i q10 H15 F16
      refine told_ok (rows := [cs]) F16 (st.le (.cons _ (.cons _ (.cons _ (.refl _))))) hg hlap hreach (.tup List.mem_cons_self) (.one ⟨p, rfl, .tail _ (.tail _ (.tail _ mp))⟩) (hwr 1 (by decide) (by decide)) fun H17 F17 => ?_
      walk_at "z"
      rw [decide_eq_true rfl]
      exact k _ (F17.sub (.cons _ (.cons _ (.cons _ (.refl _)))))
theorem ok__law_many (T : Txt K mg c_BadCourse c_BadStock c_BadWall c_Clash c_Stock c_Wall) : Z.Ok CX0 P w K mg base "_law_many" 10 ["_law_hand_here", "_law_stock_here", "_law_row"] [] (sp__law_many K) := by
  obtain ⟨f, fd, F, g⟩ := T.d__law_many
  exact Z.mkOk F g (F.binds (ps := ["_law_hand_here", "_law_stock_here", "_law_row"]) fun _ _ _ _ _ _ us hl => match us, hl with | [_, _, _], _ => rfl) (fn__law_many T F)
theorem use__law_many {H : Hp} {Q : VK} {E : XK} {L : List Z.En} {l hc t p : Addr} {ns : List Int} {lap r : Int} {cs : List Int} (F : Z.Fx H L) (mh : Z.En.hand l hc ∈ L) (st : St3 L t ns lap r) (hg : goodB (some (ns.map V.int)) = true) (hlap : 1 ≤ lap ∧ lap ≤ 4) (hr : 1 ≤ r ∧ r ≤ 2) (mp : Z.En.ob p (.tup (cs.map V.int)) ∈ L) (hok : Cok ns cs) (k : ∀ H', Z.Fx H' L → Q (.bl true) H') : sp__law_many K [.ref l, .ref t, .ref p] H Q E :=
  ⟨_, _, _, rfl, L, l, hc, t, p, ns, lap, r, cs, rfl, rfl, rfl, F, mh, st, hg, hlap, hr, mp, hok, k⟩
theorem sc__law_joints : FnScope ["_law_course", "_law_places", "_law_place", "_law_brick"] ["_law_course"] (defScope s__law_joints) := ⟨rfl, rfl, rfl, by decide +kernel, rfl, by decide +kernel, by decide +kernel⟩
def sp__law_joints (K : PySem.W.Frag) : Sp := Z.Sp1 fun a H Q E => ∃ (L : List Z.En) (p : Addr) (cs : List Int), a = .ref p ∧ Z.Fx H L ∧ Z.En.ob p (.tup (cs.map V.int)) ∈ L ∧ cs.length ≤ 1000 ∧ ∀ q (js : List Int) H', js.length ≤ cs.length → Z.Fx H' (.ob q (.lst (js.map V.int)) :: L) → Q (.ref q) H'
theorem fn__law_joints (T : Txt K mg c_BadCourse c_BadStock c_BadWall c_Clash c_Stock c_Wall) {f : Addr} {fd : FuncData} (F : Fun K "_law_joints" "_law_joints" s__law_joints f fd) : FnOk P w K mg base CX0 1 f fd ["_law_course"] (sp__law_joints K) := by
  refine F.ok sc__law_joints (fun vs H Q E h => ?_) (fun cdv A outer s H vs Q E hr h => ?_)
  · obtain ⟨a, rfl, _⟩ := h; rfl
  · obtain ⟨a, rfl, h⟩ := h
    refine ⟨_, (pss_cons (ps_set (i := 1) sc__law_joints.nd rfl (by first | exact Or.inl rfl | exact Or.inr rfl) (pe_lst pa_nil))
      (pss_cons (ps_set (i := 2) sc__law_joints.nd rfl (by first | exact Or.inl rfl | exact Or.inr rfl) pe_int)
      (pss_cons (ps_for PassesOwn.never (by rfl) (Z.pi_seq (pe_slice Z.zSlA (pv 0) po_none (po_some (pe_un un_neg pe_int)))) (pg_name (i := 3) sc__law_joints.nd rfl (by first | exact Or.inl rfl | exact Or.inr rfl))
        (pss_cons (ps_set (i := 2) sc__law_joints.nd rfl (by first | exact Or.inl rfl | exact Or.inr rfl) (pe_op Z.zAdd (pv 2) (pv 3)))
        (pss_one (ps_expr (pe_bm PySem.F.plainAttrs_list PySem.F.slot_list_append PySem.F.type_list_append mt_append (pv 1) (pa_cons (pv 2) pa_nil))))))
      (pss_one (ps_ret (pv 1)))))), ?_⟩
    try dsimp only [cxOf, Cx.nox, Cx.wish]
    refine Z.at_start (σ' := [some a, none, none, none]) rfl ?_
    obtain ⟨L, p, cs, rfl, F, mp, hl, k⟩ := h
    walk_at "z"
    rename_i jp H1 F1
    refine Z.wSlAS (.tup mp) (.cons _ (.refl _)) F1 fun p2 H2 N q2 F2 => ?_
    obtain ⟨ds, e, hdl, _⟩ := Z.cut_ints cs none (some (-1))
    rw [e] at q2
    have F3 := F2.perm List.perm_middle
    clear F2
    have hp := q2.isR
    have sl : L.Sublist (N ++ L) := List.sublist_append_right _ _
    generalize N ++ L = L3 at *
    refine Z.wForS hp (F3.sub (.cons _ (.refl _))) (fun i σ H' => ∃ (v : Option V) (t : Int) (js : List Int), σ = [some (.ref p), some (.ref jp), some (.int t), v] ∧ js.length = i ∧ Z.Fx H' (.ob jp (.lst (js.map V.int)) :: L3)) ?_ ?_ ?_ ?_
    · exact ⟨_, _, [], rfl, rfl, F3⟩
    · rintro i σ H' ⟨v, t, js, rfl, _, F'⟩
      exact ⟨_, F', fun p o h => List.mem_cons_of_mem _ h⟩
    · rintro i x σ H' hx ⟨v, t, js, rfl, hj, F'⟩
      obtain ⟨c, rfl, hc⟩ := Z.int_of_map' hx
      have hil := (List.getElem?_eq_some_iff.mp hc).1
      walk_at "z"
      rename_i H5 F5
      refine ⟨_, _, js ++ [t + c], rfl, by rw [List.length_append, hj]; rfl, ?_⟩
      rw [List.map_append]
      exact F5
    · rintro σ H' ⟨v, t, js, rfl, hj, F'⟩
      rw [List.length_map] at hj
      walk_at "z"
      exact k _ js _ (by omega) (F'.sub (sl.cons_cons _))
theorem ok__law_joints (T : Txt K mg c_BadCourse c_BadStock c_BadWall c_Clash c_Stock c_Wall) : Z.Ok CX0 P w K mg base "_law_joints" 1 ["_law_course"] [] (sp__law_joints K) := by
  obtain ⟨f, fd, F, g⟩ := T.d__law_joints
  exact Z.mkOk F g (F.binds (ps := ["_law_course"]) fun _ _ _ _ _ _ us hl => match us, hl with | [_], _ => rfl) (fn__law_joints T F)
theorem use__law_joints {H : Hp} {Q : VK} {E : XK} {L : List Z.En} {p : Addr} {cs : List Int} (F : Z.Fx H L) (mp : Z.En.ob p (.tup (cs.map V.int)) ∈ L) (hl : cs.length ≤ 1000) (k : ∀ q (js : List Int) H', js.length ≤ cs.length → Z.Fx H' (.ob q (.lst (js.map V.int)) :: L) → Q (.ref q) H') : sp__law_joints K [.ref p] H Q E := ⟨_, rfl, L, p, cs, rfl, F, mp, hl, k⟩
theorem sc__law_apart : FnScope ["_law_lap", "_law_one", "_law_other", "_law_joint", "_law_near"] ["_law_lap", "_law_one", "_law_other"] (defScope s__law_apart) := ⟨rfl, rfl, rfl, by decide +kernel, rfl, by decide +kernel, by decide +kernel⟩
/-- a word, whichever: nothing hangs on it -/
def sp__law_apart (K : PySem.W.Frag) : Sp := Z.Sp3 fun a b c H Q E => ∃ (L : List Z.En) (p q : Addr) (cs ds : List Int) (lap : Int), a = .int lap ∧ b = .ref p ∧ c = .ref q ∧ Z.Fx H L ∧ Z.En.ob p (.tup (cs.map V.int)) ∈ L ∧ Z.En.ob q (.tup (ds.map V.int)) ∈ L ∧ cs.length ≤ 1000 ∧ ds.length ≤ 1000 ∧ ∀ t H', Z.Fx H' L → Q (.bl t) H'
theorem fn__law_apart (T : Txt K mg c_BadCourse c_BadStock c_BadWall c_Clash c_Stock c_Wall) {f : Addr} {fd : FuncData} (F : Fun K "_law_apart" "_law_apart" s__law_apart f fd) : FnOk P w K mg base CX0 2 f fd ["_law_lap", "_law_one", "_law_other"] (sp__law_apart K) := by
  have O__law_joints := ok__law_joints (P := P) (w := w) (base := base) T
  refine F.ok sc__law_apart (fun vs H Q E h => ?_) (fun cdv A outer s H vs Q E hr h => ?_)
  · obtain ⟨a, b, c, rfl, _⟩ := h; rfl
  · obtain ⟨a, b, c, rfl, h⟩ := h
    refine ⟨_, (pss_cons (ps_for PassesOwn.never (by rfl) (Z.pi_seq (Z.pe_callO O__law_joints (by rfl) (hr.mono (by decide)) pass0 (pa_cons (pv 1) pa_nil))) (pg_name (i := 3) sc__law_apart.nd rfl (by first | exact Or.inl rfl | exact Or.inr rfl))
        (pss_one (ps_for PassesOwn.never (by rfl) (Z.pi_seq (Z.pe_callO O__law_joints (by rfl) (hr.mono (by decide)) pass0 (pa_cons (pv 2) pa_nil))) (pg_name (i := 4) sc__law_apart.nd rfl (by first | exact Or.inl rfl | exact Or.inr rfl))
          (pss_one (ps_if (pt_cmpR Z.zLt (pe_callB Z.zAbs (by rfl) T.b_abs (by decide +kernel) (pa_cons (pe_op op_sub (pv 3) (pv 4)) pa_nil)) (pv 0) (nomark _))
            (pss_one (ps_ret pe_bl))
            pss_nil)))))
      (pss_one (ps_ret
            pe_bl))), ?_⟩
    try dsimp only [cxOf, Cx.nox, Cx.wish]
    refine Z.at_start (σ' := [some a, some b, some c, none, none]) rfl ?_
    obtain ⟨L, p, q, cs, ds, lap, rfl, rfl, rfl, F, mp, mq, l1, l2, k⟩ := h
    walk_at "z"
    refine use__law_joints F mp l1 fun jp js H1 hj F1 => ?_
    walk_at "z"
    refine Z.wForLi F1 List.mem_cons_self (fun i σ H' => ∃ v3 v4, σ = [some (.int lap), some (.ref p), some (.ref q), v3, v4] ∧ Z.Fx H' (.ob jp (.lst (js.map V.int)) :: L)) ⟨_, _, rfl, F1⟩ ?_ ?_ ?_
    · rintro i σ H' ⟨v3, v4, rfl, F'⟩
      exact ⟨_, F', List.mem_cons_self⟩
    · rintro i x σ H' hx ⟨v3, v4, rfl, F'⟩
      obtain ⟨z, rfl, hz⟩ := Z.int_of_map' hx
      walk_at "z"
      refine use__law_joints F' (.tail _ mq) l2 fun jq ks H2 hk F2 => ?_
      walk_at "z"
      refine Z.wForLi F2 List.mem_cons_self (fun i σ H' => ∃ v4, σ = [some (.int lap), some (.ref p), some (.ref q), some (.int z), v4] ∧ Z.Fx H' (.ob jq (.lst (ks.map V.int)) :: .ob jp (.lst (js.map V.int)) :: L)) ⟨_, rfl, F2⟩ ?_ ?_ ?_
      · rintro i σ H' ⟨v4, rfl, F'⟩
        exact ⟨_, F', List.mem_cons_self⟩
      · rintro i x σ H' hx ⟨v4, rfl, F3⟩
        obtain ⟨y, rfl, hy⟩ := Z.int_of_map' hx
        walk_at "z"
        refine Z.wIfD (fun _ => ?_) (fun _ => ?_)
        · walk_at "z"
          exact k _ _ (F3.sub (.cons _ (.cons _ (.refl _))))
        · walk_at "z"
          exact ⟨_, rfl, F3⟩
      · rintro σ H' ⟨v4, rfl, F3⟩
        exact ⟨_, _, rfl, F3.sub (.cons _ (.refl _))⟩
    · rintro σ H' ⟨v3, v4, rfl, F'⟩
      walk_at "z"
      exact k _ _ (F'.sub (.cons _ (.refl _)))
theorem ok__law_apart (T : Txt K mg c_BadCourse c_BadStock c_BadWall c_Clash c_Stock c_Wall) : Z.Ok CX0 P w K mg base "_law_apart" 2 ["_law_lap", "_law_one", "_law_other"] [] (sp__law_apart K) := by
  obtain ⟨f, fd, F, g⟩ := T.d__law_apart
  exact Z.mkOk F g (F.binds (ps := ["_law_lap", "_law_one", "_law_other"]) fun _ _ _ _ _ _ us hl => match us, hl with | [_, _, _], _ => rfl) (fn__law_apart T F)
theorem use__law_apart {H : Hp} {Q : VK} {E : XK} {L : List Z.En} {p q : Addr} {cs ds : List Int} {lap : Int} (F : Z.Fx H L) (mp : Z.En.ob p (.tup (cs.map V.int)) ∈ L) (mq : Z.En.ob q (.tup (ds.map V.int)) ∈ L) (l1 : cs.length ≤ 1000) (l2 : ds.length ≤ 1000) (k : ∀ t H', Z.Fx H' L → Q (.bl t) H') : sp__law_apart K [.int lap, .ref p, .ref q] H Q E :=
  ⟨_, _, _, rfl, L, p, q, cs, ds, lap, rfl, rfl, rfl, F, mp, mq, l1, l2, k⟩
theorem sc__law_fits : FnScope ["_law_stock_here", "_law_rows_here", "_law_course", "_law_row"] ["_law_stock_here", "_law_rows_here", "_law_course"] (defScope s__law_fits) := ⟨rfl, rfl, rfl, by decide +kernel, rfl, by decide +kernel, by decide +kernel⟩
def sp__law_fits (K : PySem.W.Frag) : Sp := Z.Sp3 fun a b c H Q E => ∃ (L : List Z.En) (t p q : Addr) (ns : List Int) (lap r : Int) (vs : List V) (rows : List (List Int)) (ds : List Int), a = .ref t ∧ b = .ref p ∧ c = .ref q ∧ Z.Fx H L ∧ St3 L t ns lap r ∧ Z.En.ob p (.lst vs) ∈ L ∧ Z.Al2 (TupOf L) vs rows ∧ (∀ cs ∈ rows, cs.length ≤ 1000) ∧ Z.En.ob q (.tup (ds.map V.int)) ∈ L ∧ ds.length ≤ 1000 ∧ ∀ w H', Z.Fx H' L → Q (.bl w) H'
theorem fn__law_fits (T : Txt K mg c_BadCourse c_BadStock c_BadWall c_Clash c_Stock c_Wall) {f : Addr} {fd : FuncData} (F : Fun K "_law_fits" "_law_fits" s__law_fits f fd) : FnOk P w K mg base CX0 3 f fd ["_law_stock_here", "_law_rows_here", "_law_course"] (sp__law_fits K) := by
  have O__law_apart := ok__law_apart (P := P) (w := w) (base := base) T
  refine F.ok sc__law_fits (fun vs H Q E h => ?_) (fun cdv A outer s H vs Q E hr h => ?_)
  · obtain ⟨a, b, c, rfl, _⟩ := h; rfl
  · obtain ⟨a, b, c, rfl, h⟩ := h
    refine ⟨_, (pss_cons (ps_for PassesOwn.never (by rfl) (Z.pi_seq (pe_slice Z.zSl (pv 1) (po_some (pe_un un_neg (pe_ix ix_seq (pv 0) pe_int (fun _ _ => rfl)))) po_none)) (pg_name (i := 3) sc__law_fits.nd rfl (by first | exact Or.inl rfl | exact Or.inr rfl))
        (pss_one (ps_if (pt_not (Z.pt_truN (Z.pe_callO O__law_apart (by rfl) (hr.mono (by decide)) pass0 (pa_cons (pe_ix ix_seq (pv 0) pe_int (fun _ _ => rfl)) (pa_cons (pv 3) (pa_cons (pv 2) pa_nil))))))
          (pss_one (ps_ret pe_bl))
          pss_nil)))
      (pss_one (ps_ret
            pe_bl))), ?_⟩
    try dsimp only [cxOf, Cx.nox, Cx.wish]
    refine Z.at_start (σ' := [some a, some b, some c, none]) rfl ?_
    obtain ⟨L, t, p, q, ns, lap, r, vs, rows, ds, rfl, rfl, rfl, F, ⟨pb, mt, mb⟩, mp, al, hr, mq, l2, k⟩ := h
    walk_at "z"
    rename_i sp H1 F1
    refine Z.wForLi F1 List.mem_cons_self (fun i σ H' => ∃ v3, σ = [some (.ref t), some (.ref p), some (.ref q), v3] ∧ Z.Fx H' (.ob sp (.lst (cutV vs (some (-r)) none)) :: L)) ⟨_, rfl, F1⟩ ?_ ?_ ?_
    · rintro i σ H' ⟨v3, rfl, F'⟩
      exact ⟨_, F', List.mem_cons_self⟩
    · rintro i x σ H' hx ⟨v3, rfl, F'⟩
      obtain ⟨j, hj⟩ := List.mem_iff_getElem?.mp (Z.cut_mem (List.mem_of_getElem? hx))
      obtain ⟨cs, ec, ⟨ax, rfl, max⟩⟩ := al.getL hj
      have hcl := hr cs (List.mem_of_getElem? ec)
      walk_at "z"
      refine use__law_apart F' (.tail _ max) (.tail _ mq) hcl l2 fun w H2 F2 => ?_
      walk_at "z"
      refine Z.wIf (fun _ => ?_) (fun _ => ?_)
      · walk_at "z"
        exact k _ _ (F2.sub (.cons _ (.refl _)))
      · walk_at "z"
        exact ⟨_, rfl, F2⟩
    · rintro σ H' ⟨v3, rfl, F'⟩
      walk_at "z"
      exact k _ _ (F'.sub (.cons _ (.refl _)))
theorem ok__law_fits (T : Txt K mg c_BadCourse c_BadStock c_BadWall c_Clash c_Stock c_Wall) : Z.Ok CX0 P w K mg base "_law_fits" 3 ["_law_stock_here", "_law_rows_here", "_law_course"] [] (sp__law_fits K) := by
  obtain ⟨f, fd, F, g⟩ := T.d__law_fits
  exact Z.mkOk F g (F.binds (ps := ["_law_stock_here", "_law_rows_here", "_law_course"]) fun _ _ _ _ _ _ us hl => match us, hl with | [_, _, _], _ => rfl) (fn__law_fits T F)
theorem use__law_fits {H : Hp} {Q : VK} {E : XK} {L : List Z.En} {t p q : Addr} {ns : List Int} {lap r : Int} {vs : List V} {rows : List (List Int)} {ds : List Int} (F : Z.Fx H L) (st : St3 L t ns lap r) (mp : Z.En.ob p (.lst vs) ∈ L) (al : Z.Al2 (TupOf L) vs rows) (hr : ∀ cs ∈ rows, cs.length ≤ 1000) (mq : Z.En.ob q (.tup (ds.map V.int)) ∈ L) (l2 : ds.length ≤ 1000) (k : ∀ w H', Z.Fx H' L → Q (.bl w) H') : sp__law_fits K [.ref t, .ref p, .ref q] H Q E :=
  ⟨_, _, _, rfl, L, t, p, q, ns, lap, r, vs, rows, ds, rfl, rfl, rfl, F, st, mp, al, hr, mq, l2, k⟩
theorem sc__law_laid_on : FnScope ["_law_hand_here", "_law_stock_here", "_law_height", "_law_first", "_law_ends_here", "_law_tries", "_law_rows_here", "_law_k", "_law_course", "_law_turn"] ["_law_hand_here", "_law_stock_here", "_law_height", "_law_first"] (defScope s__law_laid_on) := ⟨rfl, rfl, rfl, by decide +kernel, rfl, by decide +kernel, by decide +kernel⟩
theorem cok_len {ns cs : List Int} (h : Cok ns cs) : cs.length ≤ 1000 := by have := h.2.2.1; omega
theorem len_le_sum {cs : List Int} (h : ∀ c ∈ cs, 1 ≤ c) : (cs.length : Int) ≤ cs.sum := by
  induction cs with
  | nil => decide
  | cons c r ih =>
    have a := h c List.mem_cons_self
    have b := ih fun d hd => h d (List.mem_cons_of_mem _ hd)
    rw [List.sum_cons,
          List.length_cons]
    omega
def sp__law_laid_on (K : PySem.W.Frag) : Sp := Z.Sp4 fun a b c d H Q E => ∃ (L : List Z.En) (l hc t p : Addr) (ns : List Int) (lap r h : Int) (cs : List Int), a = .ref l ∧ b = .ref t ∧ c = .int h ∧ d = .ref p ∧ Z.Fx H L ∧ Z.En.hand l hc ∈ L ∧ St3 L t ns lap r ∧ Bricks 8 ns ∧ Z.En.ob p (.tup (cs.map V.int)) ∈ L ∧ Cok ns cs ∧ 1 ≤ h ∧ h ≤ 60 ∧
  ∀ q vs rows L1 H', L.Sublist L1 → Z.En.ob q (.lst vs) ∈ L1 → Z.Al2 (TupOf L1) vs rows → (rows.length : Int) = h → (∀ c ∈ rows, Cok ns c ∧ c.sum = cs.sum) → Z.Fx H' L1 → Q (.ref q) H'
theorem fn__law_laid_on (T : Txt K mg c_BadCourse c_BadStock c_BadWall c_Clash c_Stock c_Wall) {f : Addr} {fd : FuncData} (F : Fun K "_law_laid_on" "_law_laid_on" s__law_laid_on f fd) : FnOk P w K mg base CX0 4 f fd ["_law_hand_here", "_law_stock_here", "_law_height", "_law_first"] (sp__law_laid_on K) := by
  have O__law_draw := ok__law_draw (P := P) (w := w) (base := base) T
  have O__law_ends := ok__law_ends (P := P) (w := w) (base := base) T
  have O__law_fits := ok__law_fits (P := P) (w := w) (base := base) T
  have O__law_walk := ok__law_walk (P := P) (w := w) (base := base) T
  refine F.ok sc__law_laid_on (fun vs H Q E h => ?_) (fun cdv A outer s H vs Q E hr h => ?_)
  · obtain ⟨a, b, c, d, rfl, _⟩ := h; rfl
  · obtain ⟨a, b, c, d, rfl, h⟩ := h
    refine ⟨_, (pss_cons (ps_set (i := 4) sc__law_laid_on.nd rfl (by first | exact Or.inl rfl | exact Or.inr rfl) (Z.pe_callO O__law_ends (by rfl) (hr.mono (by decide)) pass0 (pa_cons (pe_ix ix_seq (pv 1) pe_int (fun _ _ => rfl)) (pa_cons (pe_callB (Z.cr_sumS rfl) (by rfl) T.b_sum (by decide +kernel) (pa_cons (pv 3) pa_nil)) pa_nil))))
      (pss_cons (ps_set (i := 5) sc__law_laid_on.nd rfl (by first | exact Or.inl rfl | exact Or.inr rfl) (pe_op Z.zAdd pe_int (pe_op Z.zMul pe_int (Z.pe_callO O__law_draw (by rfl) (hr.mono (by decide)) pass0 (pa_cons (pv 0) (pa_cons pe_int pa_nil))))))
      (pss_cons (ps_set (i := 6) sc__law_laid_on.nd rfl (by first | exact Or.inl rfl | exact Or.inr rfl) (pe_lst (pa_cons (pv 3) pa_nil)))
      (pss_cons (ps_for PassesOwn.never (by rfl) (pi_range2 (by rfl) T.b_range (pa_cons pe_int (pa_cons (pv 2) pa_nil))) (pg_name (i := 7) sc__law_laid_on.nd rfl (by first | exact Or.inl rfl | exact Or.inr rfl))
        (pss_cons (ps_set (i := 8) sc__law_laid_on.nd rfl (by first | exact Or.inl rfl | exact Or.inr rfl) (Z.pe_callO O__law_walk (by rfl) (hr.mono (by decide)) pass0 (pa_cons (pv 0) (pa_cons (pe_ix ix_seq (pv 1) pe_int (fun _ _ => rfl)) (pa_cons (pv 4) pa_nil)))))
        (pss_cons (ps_for PassesOwn.never (by rfl) (pi_range1 (by rfl) T.b_range (pa_cons (pe_op op_sub (pv 5) pe_int) pa_nil)) (pg_name (i := 9) sc__law_laid_on.nd rfl (by first | exact Or.inl rfl | exact Or.inr rfl))
          (pss_one (ps_if (pt_not (Z.pt_truN (Z.pe_callO O__law_fits (by rfl) (hr.mono (by decide)) pass0 (pa_cons (pv 1) (pa_cons (pv 6) (pa_cons (pv 8) pa_nil))))))
            (pss_one (ps_set (i := 8) sc__law_laid_on.nd rfl (by first | exact Or.inl rfl | exact Or.inr rfl) (Z.pe_callO O__law_walk (by rfl) (hr.mono (by decide)) pass0 (pa_cons (pv 0) (pa_cons (pe_ix ix_seq (pv 1) pe_int (fun _ _ => rfl)) (pa_cons (pv 4) pa_nil))))))
            pss_nil)))
        (pss_one (ps_expr (pe_bm PySem.F.plainAttrs_list PySem.F.slot_list_append PySem.F.type_list_append mt_append (pv 6) (pa_cons (pv 8) pa_nil)))))))
      (pss_one (ps_ret (pv 6))))))), ?_⟩
    try dsimp only [cxOf, Cx.nox, Cx.wish]
    refine Z.at_start (σ' := [some a, some b, some c, some d, none, none, none, none, none, none]) rfl ?_
    obtain ⟨L, l, hc, t, p, ns, lap, r, h, cs, rfl, rfl, rfl, rfl, F, mh, ⟨pb, mt, mb⟩, hB, mp, hok, h1, h60, k⟩ := h
    obtain ⟨_, b1, b4, b8⟩ := id hB
    have nb : ∀ b ∈ ns, 1 ≤ b := fun b hb => (b8 b hb).1
    obtain ⟨n, en⟩ : ∃ n : Nat, cs.sum = n := Int.eq_ofNat_of_zero_le ((Can.sum hok.1).nn nb)
    have hcan : Can ns n := by rw [← en]; exact Can.sum hok.1
    have n1 : 1 ≤ n := by
      have := len_le_sum fun c hc => nb c (hok.1 c hc)
      have := hok.2.1
      omega
    have n4 : n ≤ 400 := by have := hok.2.2.2; omega
    walk_at "z"
    rw [en]
    refine use__law_ends F mb nb b4 n4 fun q bs H1 he F1 => ?_
    walk_at "z"
    rename_i v5 H2 F2 v50 v51 rl H3 F3
    obtain ⟨L0, s0, F4, mq, mp0⟩ : ∃ L0, L.Sublist L0 ∧ Z.Fx H3 (.ob rl (.lst [.ref p]) :: L0) ∧ Z.En.ob q (.lst (bs.map V.bl)) ∈ L0 ∧ Z.En.ob p (.tup (cs.map V.int)) ∈ L0 := ⟨_, .cons _ (.refl _), F3, List.mem_cons_self, .tail _ mp⟩
    clear F3 F2 F1
    refine Z.wForW walk_range (fun i σ H' => ∃ v7 v8 v9 L' vs rows, σ = [some (.ref l), some (.ref t), some (.int h), some (.ref p), some (.ref q), some (.int (1 + 5 * v5)), some (.ref rl), v7, v8, v9] ∧ L0.Sublist L' ∧ Z.Fx H' (.ob rl (.lst vs) :: L') ∧ Z.Al2 (TupOf L') vs rows ∧ rows.length = i + 1 ∧ ∀ c ∈ rows, Cok ns c ∧ c.sum = n) ?_ (fun _ _ _ _ _ => trivial) ?_ ?_
    · refine ⟨_, _, _, L0, [.ref p], [cs], rfl, .refl _, F4, .one ⟨p, rfl, mp0⟩, rfl, fun c hc => ?_⟩
      cases List.mem_singleton.mp hc
      exact ⟨hok, en⟩
    · rintro i u σ H5 H6 hi ⟨v7, v8, v9, L', vs, rows, rfl, s5, F5, al, hrl, hrows⟩ ⟨rfl, rfl⟩
      have s6 := s0.trans s5
      have mt6 := s6.subset mt
      walk_at "y"
      refine use__law_walk F5 (.tail _ (s6.subset mh)) (.tail _ (s6.subset mb)) (.tail _ (s5.subset mq)) nb b4 n1 n4 he hcan fun t1 ds H7 dok dsum F6 => ?_
      have F7 := F6.perm (.swap _ _ _)
      clear F6 F5
      walk_at "y"
      refine Z.wMidS (fun σ' H' => ∃ v8 v9 L2 ds, σ' = [some (.ref l), some (.ref t), some (.int h), some (.ref p), some (.ref q), some (.int (1 + 5 * v5)), some (.ref rl), some (.int (1 + (i : Nat))), some (.ref v8), v9] ∧ L'.Sublist L2 ∧ Z.Fx H' (.ob rl (.lst vs) :: L2) ∧ Z.En.ob v8 (.tup (ds.map V.int)) ∈ L2 ∧ Cok ns ds ∧ ds.sum = n) (fun N hk => ?_) ?_
      · walk_at "z"
        refine Z.wForW walk_range (fun j σ H' => ∃ v8 v9 L2 ds, σ = [some (.ref l), some (.ref t), some (.int h), some (.ref p), some (.ref q), some (.int (1 + 5 * v5)), some (.ref rl), some (.int (1 + (i : Nat))), some (.ref v8), v9] ∧ L'.Sublist L2 ∧ Z.Fx H' (.ob rl (.lst vs) :: L2) ∧ Z.En.ob v8 (.tup (ds.map V.int)) ∈ L2 ∧ Cok ns ds ∧ ds.sum = n) ⟨_, _, _, ds, rfl, .cons _ (.refl _), F7, List.mem_cons_self, dok, dsum⟩ (fun _ _ _ _ _ => trivial) ?_ ?_
        · rintro j u σ H8 H9 hj ⟨v8, v9, L2, ds, rfl, s7, F8, m8, dok, dsum⟩ ⟨rfl, rfl⟩
          have s8 := s6.trans s7
          have mt8 := s8.subset mt
          walk_at "z"
          refine use__law_fits F8 ⟨pb, .tail _ (s8.subset mt), .tail _ (s8.subset mb)⟩ List.mem_cons_self (al.mono fun _ _ h => h.le (s7.trans (.cons _ (.refl _)))) (fun c hc => cok_len (hrows c hc).1) (.tail _ m8) (cok_len dok) fun w H10 F9 => ?_
          walk_at "z"
          refine Z.wIf (fun _ => ?_) (fun _ => ?_)
          · walk_at "z"
            refine use__law_walk F9 (.tail _ (s8.subset mh)) (.tail _ (s8.subset mb)) (.tail _ ((s5.trans s7).subset mq)) nb b4 n1 n4 he hcan fun t2 es H11 eok esum F10 => ?_
            walk_at "z"
            exact ⟨_, _, _, es, rfl, s7.cons _, F10.perm (.swap _ _ _), List.mem_cons_self, eok, esum⟩
          · walk_at "z"
            exact ⟨_, _, _, ds, rfl, s7, F9, m8, dok, dsum⟩
        · rintro σ H8 ⟨v8, v9, L2, ds, rfl, s7, F8, m8, dok, dsum⟩
          exact hk _ _ ⟨_, _, _, ds, rfl, s7, F8, m8, dok, dsum⟩
      clear F7
      rintro _ H8 ⟨v8, v9, L2, ds2, rfl, s7, F8, m8, dok2, dsum2⟩
      have hvl := al.len
      walk_at "z"
      rename_i H9 F9
      refine ⟨_, _, _, L2, vs ++ [.ref v8], rows ++ [ds2], rfl, s5.trans s7, F9, (al.mono fun _ _ h => h.le s7).snoc ⟨v8, rfl, m8⟩, by rw [List.length_append, hrl]; rfl, fun c hc => ?_⟩
      rcases List.mem_append.mp
            hc with h | h
      · exact hrows c h
      · cases List.mem_singleton.mp h
        exact ⟨dok2, dsum2⟩
    · rintro σ H5 ⟨v7, v8, v9, L', vs, rows, rfl, s5, F5, al, hrl, hrows⟩
      walk_at "z"
      refine k rl vs rows _ _ ((s0.trans s5).trans (.cons _ (.refl _))) List.mem_cons_self (al.mono fun _ _ h => h.le (.cons _ (.refl _))) (by omega) (fun c hc => ?_) F5
      rw [en]
      exact hrows c hc
theorem ok__law_laid_on (T : Txt K mg c_BadCourse c_BadStock c_BadWall c_Clash c_Stock c_Wall) : Z.Ok CX0 P w K mg base "_law_laid_on" 4 ["_law_hand_here", "_law_stock_here", "_law_height", "_law_first"] [] (sp__law_laid_on K) := by
  obtain ⟨f, fd, F, g⟩ := T.d__law_laid_on
  exact Z.mkOk F g (F.binds (ps := ["_law_hand_here", "_law_stock_here", "_law_height", "_law_first"]) fun _ _ _ _ _ _ us hl => match us, hl with | [_, _, _, _], _ => rfl) (fn__law_laid_on T F)
theorem use__law_laid_on {H : Hp} {Q : VK} {E : XK} {L : List Z.En} {l hc t p : Addr} {ns : List Int} {lap r h : Int} {cs : List Int} (F : Z.Fx H L) (mh : Z.En.hand l hc ∈ L) (st : St3 L t ns lap r) (hB : Bricks 8 ns) (mp : Z.En.ob p (.tup (cs.map V.int)) ∈ L) (hok : Cok ns cs) (h1 : 1 ≤ h) (h60 : h ≤ 60)
  (k : ∀ q vs rows L1 H', L.Sublist L1 → Z.En.ob q (.lst vs) ∈ L1 → Z.Al2 (TupOf L1) vs rows → (rows.length : Int) = h → (∀ c ∈ rows, Cok ns c ∧ c.sum = cs.sum) → Z.Fx H' L1 → Q (.ref q) H') : sp__law_laid_on K [.ref l, .ref t, .int h, .ref p] H Q E :=
  ⟨_, _, _, _, rfl, L, l, hc, t, p, ns, lap, r, h, cs, rfl, rfl, rfl, rfl, F, mh, st, hB, mp, hok, h1, h60, k⟩
theorem sc__law_good : FnScope ["_law_hand_here", "_law_stock_here", "_law_rows_here", "_law_handed", "_law_inner", "_law_shut", "_law_same", "_law_others", "_law_at", "_law_course", "_law_spare", "_law_bricks", "_law_lap", "_law_reach", "_law_courses", "_law_other", "_law_row", "_law_b"] ["_law_hand_here", "_law_stock_here", "_law_rows_here"] (defScope s__law_good) := ⟨rfl, rfl, rfl, by decide +kernel, rfl, by decide +kernel, by decide +kernel⟩
theorem StockIn.skip {cS : Addr} {L : List Z.En} {x a : Addr} {ns : List Int} {l r : Int} {xs : List V} (h : StockIn cS (.ob a (.lst xs) :: L) x ns l r) : StockIn cS L x ns l r := let ⟨dx, p, m1, m2⟩ := h; ⟨dx, p, Z.mem_skip m1 nofun, Z.mem_skip m2 nofun⟩
theorem WallIn.skip {cW : Addr} {L : List Z.En} {y x a : Addr} {rows : List (List Int)} {xs : List V} (h : WallIn cW (.ob a (.lst xs) :: L) y x rows) : WallIn cW L y x rows :=
  let ⟨dx, p, m, ws, mw, al⟩ := h
  ⟨dx, p, Z.mem_skip m nofun, ws, Z.mem_skip mw nofun, al.mono fun _ _ ⟨b, e, mb⟩ => ⟨b, e, Z.mem_skip mb nofun⟩⟩
theorem StockIn.mem {cS : Addr} {L L2 : List Z.En} {x : Addr} {ns : List Int} {l r : Int} (h : StockIn cS L x ns l r) (s : ∀ e ∈ L, e ∈ L2) : StockIn cS L2 x ns l r := let ⟨dx, p, m1, m2⟩ := h; ⟨dx, p, s _ m1, s _ m2⟩
theorem WallIn.mem {cW : Addr} {L L2 : List Z.En} {y x : Addr} {rows : List (List Int)} (h : WallIn cW L y x rows) (s : ∀ e ∈ L, e ∈ L2) : WallIn cW L2 y x rows := let ⟨dx, p, m, a⟩ := h; ⟨dx, p, s _ m, a.mono s⟩
/-- what is handed in for another wall -/
def OthAt (L : List Z.En) (ns : List Int) (lap r : Int) (rows : List (List Int)) (v : V) : Prop := ∃ (a pb q : Addr) (ns' : List Int) (lap' r' : Int) (vs' : List V) (rows' : List (List Int)), v = .ref a ∧ Z.En.ob a (.tup [.ref pb, .int lap', .int r', .ref q]) ∈ L ∧ Z.En.ob pb (.tup (ns'.map V.int)) ∈ L ∧
  goodB (some (ns'.map V.int)) = true ∧ (1 ≤ lap' ∧ lap' ≤ 4) ∧ (1 ≤ r' ∧ r' ≤ 2) ∧ Z.En.ob q (.lst vs') ∈ L ∧ Z.Al2 (TupOf L) vs' rows' ∧ WRows ns' rows' ∧ (((decide (ns = ns') && (decide (lap = lap') && decide (r = r'))) && decide (rows = rows')) = false)
theorem OthAt.le {L L2 : List Z.En} {ns : List Int} {lap r : Int} {rows : List (List Int)} {v : V} (h : OthAt L ns lap r rows v) (s : L.Sublist L2) : OthAt L2 ns lap r rows v := by
  obtain ⟨a, pb, q, ns', lap', r', vs', rows', e, m1, m2, g, h1, h2, m3, al, w, n⟩ := h
  exact ⟨a, pb, q, ns', lap', r', vs', rows', e, s.subset m1, s.subset m2, g, h1, h2, s.subset m3, al.mono fun _ _ t => t.le s, w, n⟩
theorem wrows {ns : List Int} {rows : List (List Int)} {s : Int} (h1 : 1 ≤ rows.length) (h2 : rows.length ≤ 60) (h : ∀ c ∈ rows, Cok ns c ∧ c.sum = s) : WRows ns rows := by
  refine ⟨h1, h2, fun c hc => ⟨(h c hc).1, ?_⟩⟩
  have e : rows.getD 0 [] ∈ rows := by
    rw [List.getD_eq_getElem?_getD, List.getElem?_eq_getElem (by omega)]
    exact List.getElem_mem (by omega)
  rw [(h c hc).2, (h _ e).2]
theorem seqs_courses {L : List Z.En} {vs : List V} {rows : List (List Int)} (h : Z.Al2 (fun v cs => Z.SeqIs L v (some (cs.map V.int))) vs rows) : Z.Al2 (CourseAt L) vs (rows.map intsO) :=
  ⟨by rw [List.length_map]; exact h.len, fun i v o e e' => by
    rw [List.getElem?_map] at e'
    obtain ⟨cs, ec, t⟩ := h.getL e
    rw [ec] at e'
    cases e'
    exact ⟨t, ints_things⟩⟩
/-- a wall is made of good rows -/
theorem wall_ok {cS cW cB : Addr} {H : Hp} {QX : Addr → Hp → Prop} {E : XK} {L : List Z.En} {x : Addr} {c : V} {ns : List Int} {l r : Int} {vs : List V} {rows : List (List Int)} (F : Z.Fx H L) (si : StockIn cS L x ns l r) (hs : Z.SeqIs L c (some vs)) (al : Z.Al2 (CourseAt L) vs (rows.map intsO)) (hw : WRows ns rows)
    (k : ∀ y L1 H', L.Sublist L1 → WallIn cW L1 y x rows → Z.Fx H' L1 → QX y H') :
    ∀ y dx, H y = none → H dx = none → dx ≠ y → sp_Wall___init__ K cS cW cB [.ref y, .ref x, c] (upd (upd H dx (.own y)) y (.ins cW dx [])) (fun v H2 => v = .non ∧ QX y H2) E := by
  have hl := al.len
  rw [List.length_map] at hl
  obtain ⟨w1, w2, _⟩ := id hw
  refine use_Wall F si hs (os := rows.map intsO) (fun ws e => by cases e; exact al) (fun h => ?_) (fun i w _ hi _ hf => ?_) fun rows' _ e _ y L1 H' s wi F' => ?_
  · exact absurd h (by simp [Z.inLen]; omega)
  · rw [List.length_map] at hi
    rw [flaw_none hw i hi] at hf
    cases hf
  · have inj : ∀ a b : List (List Int), a.map intsO = b.map intsO → a = b := fun a => by
      induction a with
      | nil => intro b h; cases b with | nil => rfl | cons => simp at h
      | cons x a ih =>
        intro b h
        cases b with
        | nil => simp at h
        | cons y b =>
          rw [List.map_cons,
                List.map_cons] at h
          injection h with h1 h2
          rw [ih b h2, ints_injG h1]
    have := inj _ _ e
    subst this
    exact k y L1 H' s wi F'
def sp__law_good (K : PySem.W.Frag) (cW cS : Addr) : Sp := Z.Sp3 fun a b c H Q E => ∃ (L : List Z.En) (l hc t p : Addr) (ns : List Int) (lap r s : Int) (vs : List V) (rows : List (List Int)), a = .ref l ∧ b = .ref t ∧ c = .ref p ∧ Z.Fx H L ∧ Z.En.hand l hc ∈ L ∧ St3 L t ns lap r ∧ Bricks 8 ns ∧ goodB (some (ns.map V.int)) = true ∧ (1 ≤ lap ∧ lap ≤ 4) ∧ (1 ≤ r ∧ r ≤ 2) ∧ Z.En.ob p (.lst vs) ∈ L ∧ Z.Al2 (TupOf L) vs rows ∧
  1 ≤ rows.length ∧ rows.length ≤ 60 ∧ (∀ c ∈ rows, Cok ns c ∧ c.sum = s) ∧ ∀ H', Z.Fx H' L → Q (.bl true) H'
theorem fn__law_good (T : Txt K mg c_BadCourse c_BadStock c_BadWall c_Clash c_Stock c_Wall) {f : Addr} {fd : FuncData} (F : Fun K "_law_good" "_law_good" s__law_good f fd) : FnOk P w K mg base CX0 9 f fd ["_law_hand_here", "_law_stock_here", "_law_rows_here"] (sp__law_good K c_Wall c_Stock) := by
  have O_Wall___len__ := ok_Wall___len__ (P := P) (w := w) (base := base) T
  have O__law_as_sequence := ok__law_as_sequence (P := P) (w := w) (base := base) T
  have O__law_draw := ok__law_draw (P := P) (w := w) (base := base) T
  have O__law_ends := ok__law_ends (P := P) (w := w) (base := base) T
  have O__law_is := ok__law_is (P := P) (w := w) (base := base) T
  have O__law_tuples := ok__law_tuples (P := P) (w := w) (base := base) T
  have O__law_walk := ok__law_walk (P := P) (w := w) (base := base) T
  have O_Clash_4 := ok_Clash___init___4 (P := P) (w := w) (base := base) T
  have O_Stock_3 := ok_Stock___init___3 (P := P) (w := w) (base := base) T
  have O_Stock_k1_reach_lap := ok_Stock___init___k1_reach_lap (P := P) (w := w) (base := base) T
  have O_Wall_2 := ok_Wall___init___2 (P := P) (w := w) (base := base) T
  have O_Wall___eq__ := ok_Wall___eq__ (P := P) (w := w) (base := base) T
  have O_Stock___eq__ := ok_Stock___eq__ (P := P) (w := w) (base := base) T
  refine F.ok sc__law_good (fun vs H Q E h => ?_) (fun cdv A outer s H vs Q E hr h => ?_)
  · obtain ⟨a, b, c, rfl, _⟩ := h; rfl
  · obtain ⟨a, b, c, rfl, h⟩ := h
    refine ⟨_, (pss_cons (by exact (ps_setLc (i := 3) (own := [("_law_row", 16)]) (g := (gName 16)) (by rfl) sc__law_good.nd rfl rfl (sw_true rfl rfl rfl (by decide +kernel)) (Z.pi_seq (pv 2)) (blkOk_by (own := [("_law_row", 16)]) (N := ["_law_hand_here", "_law_stock_here", "_law_rows_here", "_law_handed", "_law_inner", "_law_shut", "_law_same", "_law_others", "_law_at", "_law_course", "_law_spare", "_law_bricks", "_law_lap", "_law_reach", "_law_courses", "_law_other", "_law_row", "_law_b"]) (sc := defScope s__law_good) (by decide +kernel)) (fun _ _ _ _ _ => (by exact (pg_name (i := 16) sc__law_good.nd rfl (by first | exact Or.inl rfl | exact Or.inr rfl)))) (fun _ _ _ _ _ => (by exact pts_nil)) (fun _ _ _ _ _ => (by exact (Z.pe_callO O__law_as_sequence (by rfl) (hr.mono (by decide)) pass0 (pa_cons (pv 0) (pa_cons (pv 16) pa_nil)))))))
      (pss_cons (ps_asg (pe_callTy Z.zList (by rfl) T.b_list (by decide +kernel) (pa_cons (pe_ix ix_seq (pv 2) pe_int (fun _ _ => rfl)) pa_nil)) (pg_sub (pv 3) pe_int set_list))
      (pss_cons (ps_set (i := 4) sc__law_good.nd rfl (by first | exact Or.inl rfl | exact Or.inr rfl) (pe_ix ix_seq (pv 3) pe_int (fun _ _ => rfl)))
      (pss_cons (ps_set (i := 5) sc__law_good.nd rfl (by first | exact Or.inl rfl | exact Or.inr rfl) (Z.pe_makeO O_Wall_2 (hr.mono (by decide)) T.g_Wall (by rfl) passL (pa_cons (Z.pe_makeO O_Stock_3 (hr.mono (by decide)) T.g_Stock (by rfl) passL (pa_cons (pe_ix ix_seq (pv 1) pe_int (fun _ _ => rfl)) (pa_cons (pe_ix ix_seq (pv 1) pe_int (fun _ _ => rfl)) (pa_cons (pe_ix ix_seq (pv 1) pe_int (fun _ _ => rfl)) pa_nil)))) (pa_cons (pv 3) pa_nil))))
      (pss_cons (ps_expr (pe_bm PySem.F.plainAttrs_list PySem.F.slot_list_append PySem.F.type_list_append mt_append (pv 4) (pa_cons (pe_ix ix_seq (pe_ix ix_seq (pv 1) pe_int (fun _ _ => rfl)) pe_int (fun _ _ => rfl)) pa_nil)))
      (pss_cons (ps_expr (pe_bm PySem.F.plainAttrs_list PySem.F.slot_list_append PySem.F.type_list_append mt_append (pv 3) (pa_cons (pe_callTy Z.zList (by rfl) T.b_list (by decide +kernel) (pa_cons (pe_ix ix_seq (pv 2) pe_int (fun _ _ => rfl)) pa_nil)) pa_nil)))
      (pss_cons (ps_if (PW.pt (pw_or (pt_not (Z.pt_truN (Z.pe_callO O__law_tuples (by rfl) (hr.mono (by decide)) pass0 (pa_cons (pe_fld (pv 5) rfl) (pa_cons (pv 2) pa_nil))))) (pw_or (pt_not (Z.pt_truN (Z.pe_callO O__law_is (by rfl) (hr.mono (by decide)) pass0 (pa_cons (pe_callB (Z.cr_lenO O_Wall___len__ (hr.mono (by decide))) (by rfl) T.b_len (by decide +kernel) (pa_cons (pv 5) pa_nil)) (pa_cons (pe_callB Z.zLen (by rfl) T.b_len (by decide +kernel) (pa_cons (pv 2) pa_nil)) pa_nil))))) (pw_or1 (pt_not (Z.pt_truN (Z.pe_callO O__law_is (by rfl) (hr.mono (by decide)) pass0 (pa_cons (pe_fld (pv 5) rfl) (pa_cons (pe_callB (Z.cr_sumS rfl) (by rfl) T.b_sum (by decide +kernel) (pa_cons (pe_ix ix_seq (pv 2) pe_int (fun _ _ => rfl)) pa_nil)) pa_nil)))))))))
        (pss_one (ps_ret pe_bl))
        pss_nil)
      (pss_cons (ps_if (pt_not (pt_cmpR (Z.op_eqOwnO O_Stock___eq__ (hr.mono (by decide))) (pe_fld (pv 5) rfl) (Z.pe_makeO O_Stock_3 (hr.mono (by decide)) T.g_Stock (by rfl) passL (pa_cons (pe_callTy Z.zList (by rfl) T.b_list (by decide +kernel) (pa_cons (pe_ix ix_seq (pv 1) pe_int (fun _ _ => rfl)) pa_nil)) (pa_cons (pe_ix ix_seq (pv 1) pe_int (fun _ _ => rfl)) (pa_cons (pe_ix ix_seq (pv 1) pe_int (fun _ _ => rfl)) pa_nil)))) (nomark _)))
        (pss_one (ps_ret pe_bl))
        pss_nil)
      (pss_cons (ps_set (i := 6) sc__law_good.nd rfl (by first | exact Or.inl rfl | exact Or.inr rfl) (Z.pe_makeO O_Wall_2 (hr.mono (by decide)) T.g_Wall (by rfl) passL (pa_cons (Z.pe_makeO O_Stock_3 (hr.mono (by decide)) T.g_Stock (by rfl) passL (pa_cons (pe_callTy Z.zList (by rfl) T.b_list (by decide +kernel) (pa_cons (pe_ix ix_seq (pv 1) pe_int (fun _ _ => rfl)) pa_nil)) (pa_cons (pe_ix ix_seq (pv 1) pe_int (fun _ _ => rfl)) (pa_cons (pe_ix ix_seq (pv 1) pe_int (fun _ _ => rfl)) pa_nil)))) (pa_cons (pe_callTy Z.zTuple (by rfl) T.b_tuple (by decide +kernel) (pa_cons (pv 2) pa_nil)) pa_nil))))
      (pss_cons (ps_if (PW.pt (pw_or (pt_cmpR Z.zIsNot (pe_cmpR (Z.op_eqOwnO O_Wall___eq__ (hr.mono (by decide))) (pv 5) (pv 6) (nomark _)) pe_bl (nomark _)) (pw_or (pt_cmpR Z.zIsNot (pe_cmpR (Z.op_eqOwnO O_Wall___eq__ (hr.mono (by decide))) (pv 6) (pv 5) (nomark _)) pe_bl (nomark _)) (pw_or1 (pt_cmpR Z.zIsNot (pe_cmpR (Z.op_eqOwnO O_Wall___eq__ (hr.mono (by decide))) (pv 5) (Z.pe_makeO O_Clash_4 (hr.mono (by decide)) T.g_Clash (by rfl) pass0 (pa_cons pe_int (pa_cons pe_int (pa_cons pe_int (pa_cons pe_int pa_nil))))) (nomark _)) pe_bl (nomark _))))))
        (pss_one (ps_ret pe_bl))
        pss_nil)
      (pss_cons (ps_set (i := 7) sc__law_good.nd rfl (by first | exact Or.inl rfl | exact Or.inr rfl) (pe_lst (pa_cons (pe_tup (pa_cons (pe_ix ix_seq (pv 1) pe_int (fun _ _ => rfl)) (pa_cons (pe_op Z.zAdd pe_int (pe_op Z.zMod (pe_callTy Z.zInt (by rfl) T.b_int (by decide +kernel) (pa_cons (pe_ix ix_seq (pv 1) pe_int (fun _ _ => rfl)) pa_nil)) pe_int)) (pa_cons (pe_ix ix_seq (pv 1) pe_int (fun _ _ => rfl)) (pa_cons (pv 2) pa_nil))))) (pa_cons (pe_tup (pa_cons (pe_ix ix_seq (pv 1) pe_int (fun _ _ => rfl)) (pa_cons (pe_ix ix_seq (pv 1) pe_int (fun _ _ => rfl)) (pa_cons (pe_op op_sub pe_int (pe_ix ix_seq (pv 1) pe_int (fun _ _ => rfl))) (pa_cons (pv 2) pa_nil))))) pa_nil))))
      (pss_cons (ps_if (pt_cmpR Z.zLt (pe_callB Z.zLen (by rfl) T.b_len (by decide +kernel) (pa_cons (pv 2) pa_nil)) pe_int (nomark _))
        (pss_one (ps_expr (pe_bm PySem.F.plainAttrs_list PySem.F.slot_list_append PySem.F.type_list_append mt_append (pv 7) (pa_cons (pe_tup (pa_cons (pe_ix ix_seq (pv 1) pe_int (fun _ _ => rfl)) (pa_cons (pe_ix ix_seq (pv 1) pe_int (fun _ _ => rfl)) (pa_cons (pe_ix ix_seq (pv 1) pe_int (fun _ _ => rfl)) (pa_cons (pe_op Z.zAdd (pv 2) (pe_lst (pa_cons (pe_ix ix_seq (pv 2) (Z.pe_callO O__law_draw (by rfl) (hr.mono (by decide)) pass0 (pa_cons (pv 0) (pa_cons (pe_callB Z.zLen (by rfl) T.b_len (by decide +kernel) (pa_cons (pv 2) pa_nil)) pa_nil))) (fun _ _ => rfl)) pa_nil))) pa_nil))))) pa_nil))))
        pss_nil)
      (pss_cons (ps_set (i := 8) sc__law_good.nd rfl (by first | exact Or.inl rfl | exact Or.inr rfl) (Z.pe_callO O__law_draw (by rfl) (hr.mono (by decide)) pass0 (pa_cons (pv 0) (pa_cons (pe_callB Z.zLen (by rfl) T.b_len (by decide +kernel) (pa_cons (pv 2) pa_nil)) pa_nil))))
      (pss_cons (ps_set (i := 9) sc__law_good.nd rfl (by first | exact Or.inl rfl | exact Or.inr rfl) (Z.pe_callO O__law_walk (by rfl) (hr.mono (by decide)) pass0 (pa_cons (pv 0) (pa_cons (pe_ix ix_seq (pv 1) pe_int (fun _ _ => rfl)) (pa_cons (Z.pe_callO O__law_ends (by rfl) (hr.mono (by decide)) pass0 (pa_cons (pe_ix ix_seq (pv 1) pe_int (fun _ _ => rfl)) (pa_cons (pe_callB (Z.cr_sumS rfl) (by rfl) T.b_sum (by decide +kernel) (pa_cons (pe_ix ix_seq (pv 2) pe_int (fun _ _ => rfl)) pa_nil)) pa_nil))) pa_nil)))))
      (pss_cons (ps_if (pt_cmpR (Z.zNe (Z.hu0 hr)) (pv 9) (pe_ix ix_seq (pv 2) (pv 8) (fun _ _ => rfl)) (nomark _))
        (pss_one (ps_expr (pe_bm PySem.F.plainAttrs_list PySem.F.slot_list_append PySem.F.type_list_append mt_append (pv 7) (pa_cons (pe_tup (pa_cons (pe_ix ix_seq (pv 1) pe_int (fun _ _ => rfl)) (pa_cons (pe_ix ix_seq (pv 1) pe_int (fun _ _ => rfl)) (pa_cons (pe_ix ix_seq (pv 1) pe_int (fun _ _ => rfl)) (pa_cons (pe_op Z.zAdd (pe_op Z.zAdd (pe_slice Z.zSl (pv 2) po_none (po_some (pv 8))) (pe_lst (pa_cons (pv 9) pa_nil))) (pe_slice Z.zSl (pv 2) (po_some (pe_op Z.zAdd (pv 8) pe_int)) po_none)) pa_nil))))) pa_nil))))
        pss_nil)
      (pss_cons (by exact (ps_setLc (i := 10) (own := [("_law_b", 17)]) (g := (gName 17)) (by rfl) sc__law_good.nd rfl rfl (sw_true rfl rfl rfl (by decide +kernel)) (pi_range2 (by rfl) T.b_range (pa_cons pe_int (pa_cons pe_int pa_nil))) (blkOk_by (own := [("_law_b", 17)]) (N := ["_law_hand_here", "_law_stock_here", "_law_rows_here", "_law_handed", "_law_inner", "_law_shut", "_law_same", "_law_others", "_law_at", "_law_course", "_law_spare", "_law_bricks", "_law_lap", "_law_reach", "_law_courses", "_law_other", "_law_row", "_law_b"]) (sc := defScope s__law_good) (by decide +kernel)) (fun _ _ _ _ _ => (by exact (pg_name (i := 17) sc__law_good.nd rfl (by first | exact Or.inl rfl | exact Or.inr rfl)))) (fun _ _ _ _ _ => (by exact (pts_one (pt_cmpR (show OpR _ _ (rIn K true) from Z.zNotIn) (pv 17) (pe_ix (show IxR _ (rIx K) from ix_seq) (pv 1) pe_int (fun _ _ => rfl)) (by rfl))))) (fun _ _ _ _ _ => (by exact (pv 17)))))
      (pss_cons (ps_if (pt_cmpR Z.zLt (pe_callB Z.zLen (by rfl) T.b_len (by decide +kernel) (pa_cons (pe_ix ix_seq (pv 1) pe_int (fun _ _ => rfl)) pa_nil)) pe_int (nomark _))
        (pss_one (ps_expr (pe_bm PySem.F.plainAttrs_list PySem.F.slot_list_append PySem.F.type_list_append mt_append (pv 7) (pa_cons (pe_tup (pa_cons (pe_callTy Z.zTuple (by rfl) T.b_tuple (by decide +kernel) (pa_cons (pe_callB Z.cr_sortedTu (by rfl) T.b_sorted (by decide +kernel) (pa_cons (pe_op Z.zAdd (pe_ix ix_seq (pv 1) pe_int (fun _ _ => rfl)) (pe_tup (pa_cons (pe_ix ix_seq (pv 10) (Z.pe_callO O__law_draw (by rfl) (hr.mono (by decide)) pass0 (pa_cons (pv 0) (pa_cons (pe_callB Z.zLen (by rfl) T.b_len (by decide +kernel) (pa_cons (pv 10) pa_nil)) pa_nil))) (fun _ _ => rfl)) pa_nil))) pa_nil)) pa_nil)) (pa_cons (pe_ix ix_seq (pv 1) pe_int (fun _ _ => rfl)) (pa_cons (pe_ix ix_seq (pv 1) pe_int (fun _ _ => rfl)) (pa_cons (pv 2) pa_nil))))) pa_nil))))
        pss_nil)
      (pss_cons (ps_for PassesOwn.never (by rfl) (Z.pi_seq (pv 7)) (pg_tup (by rfl) (pgs_cons (pg_name (i := 11) sc__law_good.nd rfl (by first | exact Or.inl rfl | exact Or.inr rfl)) (pgs_cons (pg_name (i := 12) sc__law_good.nd rfl (by first | exact Or.inl rfl | exact Or.inr rfl)) (pgs_cons (pg_name (i := 13) sc__law_good.nd rfl (by first | exact Or.inl rfl | exact Or.inr rfl)) (pgs_cons (pg_name (i := 14) sc__law_good.nd rfl (by first | exact Or.inl rfl | exact Or.inr rfl)) pgs_nil)))))
        (pss_cons (ps_set (i := 15) sc__law_good.nd rfl (by first | exact Or.inl rfl | exact Or.inr rfl) (Z.pe_makeO O_Wall_2 (hr.mono (by decide)) T.g_Wall (by rfl) passL (pa_cons (Z.pe_makeO O_Stock_3 (hr.mono (by decide)) T.g_Stock (by rfl) passL (pa_cons (pv 11) (pa_cons (pv 12) (pa_cons (pv 13) pa_nil)))) (pa_cons (pv 14) pa_nil))))
        (pss_one (ps_if (PW.pt (pw_or (pt_cmpR Z.zIsNot (pe_cmpR (Z.op_eqOwnO O_Wall___eq__ (hr.mono (by decide))) (pv 5) (pv 15) (nomark _)) pe_bl (nomark _)) (pw_or1 (pt_cmpR Z.zIsNot (pe_cmpR (Z.op_eqOwnO O_Wall___eq__ (hr.mono (by decide))) (pv 15) (pv 5) (nomark _)) pe_bl (nomark _)))))
          (pss_one (ps_ret pe_bl))
          pss_nil))))
      (pss_one (ps_ret pe_bl)))))))))))))))))))), ?_⟩
    try dsimp only [cxOf, Cx.nox, Cx.wish]
    refine Z.at_start (σ' := [some a, some b, some c, none, none, none, none, none, none, none, none, none, none, none, none, none, none, none]) rfl ?_
    obtain ⟨L, l, hc, t, p, ns, lap, r, s, vs, rows, rfl, rfl, rfl, F, mh, st, hB, hg, hlap, hreach, mp, al, hl1, hl2, hrows, k⟩ := h
    have hvl := al.len
    have hwr := wrows hl1 hl2 hrows
    obtain ⟨pb, mt, mb⟩ := id st
    obtain ⟨_, b1, b4, b8⟩ := id hB
    obtain ⟨v0, ev0⟩ : ∃ v0, vs[0]? = some v0 := ⟨_, List.getElem?_eq_getElem (by omega)⟩
    obtain ⟨cs0, ec0, ⟨r0, rfl, m0⟩⟩ := al.getL ev0
    have e0 : atI vs (0 : Int) = some (.ref r0) := atI_nat (j := 0) ev0
    have hclW := T.i_Wall.cl
    walk_at "z"
    refine Z.wLcL mp F (fun i acc L' => L.Sublist L' ∧ Z.Al2 (fun v cs => Z.SeqIs L' v (some (cs.map V.int))) acc (rows.take i)) ⟨.refl _, .nil⟩ (fun i acc L' r => r.1.subset mp) ?_ ?_
    · rintro i x D H2 acc L' hx ⟨s2, ala⟩ F2
      have hil := (List.getElem?_eq_some_iff.mp hx).1
      obtain ⟨cs, ec, tv⟩ := al.getL hx
      have hal := ala.len
      rw [List.length_take] at hal
      have et : rows.take (i + 1) = rows.take i ++ [cs] := by rw [List.take_add_one, ec]; rfl
      have mh2 := s2.subset mh
      walk_at "zw"
      walk_at "z"
      refine ⟨rfl, ?_⟩
      walk_at "z"
      refine use__law_as_sequence F2 (.tail _ mh2) ((tv.le s2).seq.mono fun _ h => .tail _ h) fun v L1 H3 as3 F3 => ?_
      obtain ⟨L2, s4, F4, sq⟩ := as3.drop F3
      refine Z.lcPut F4 (by have := Z.line_big; omega) ⟨s2.trans s4, ?_⟩
      rw [et]
      exact (ala.mono fun _ _ h => h.mono fun _ m => s4.subset m).snoc sq
    rintro D acc L' H2 F2 ⟨s2, ala⟩
    rw [show vs.length = rows.length from hvl, List.take_length] at ala
    have hal := ala.len
    have mp2 := s2.subset mp
    have m02 := s2.subset m0
    have mt2 := s2.subset mt
    have mb2 := s2.subset mb
    walk_at "z"
    rename_i I H3 F3
    refine Z.wSetL (i := 0) (n := 0) F3 (.tail _ List.mem_cons_self) (Z.ixN_of (k := 0) (by decide) (by omega)) (.tail .head) fun H4 F4 => ?_
    have eset : rows.set 0 cs0 = rows := by
      cases rows with
      | nil => simp at hl1
      | cons c rs => cases ec0; rfl
    have ala4 : Z.Al2 (fun v cs => Z.SeqIs (.ob I (.lst (cs0.map V.int)) :: .ob D (.lst (acc.set 0 (.ref I))) :: L') v (some (cs.map V.int))) (acc.set 0 (.ref I)) rows := by
      have h := (ala.mono fun v cs (h : Z.SeqIs L' v (some (cs.map V.int))) => h.mono (L' := .ob I (.lst (cs0.map V.int)) :: .ob D (.lst (acc.set 0 (.ref I))) :: L') fun _ m => .tail _ (.tail _ m)).set (x := .ref I) (y := cs0) (.lst List.mem_cons_self) 0
      rwa [eset] at h
    have alc := seqs_courses ala4
    have hal2 : (acc.set 0 (V.ref I)).length = rows.length := by rw [List.length_set]; exact hal
    have eI : atI (acc.set 0 (V.ref I)) (0 : Int) = some (.ref I) := atI_nat (j := 0) (List.getElem?_set_self (by omega))
    generalize acc.set 0 (V.ref I) = acc2 at *
    have sL' : L'.Sublist (.ob I (.lst (cs0.map V.int)) :: .ob D (.lst acc2) :: L') := .cons _ (.cons _ (.refl _))
    walk_at "z"
    refine use_StockG F4 (.tup (.tail _ (.tail _ mb2))) hg hlap hreach fun x L3 H5 s3 si F5 => ?_
    walk_at "z"
    refine wall_ok F5 si (.lst (s3.subset (.tail _ List.mem_cons_self))) (alc.mono fun _ _ c => c.mono fun _ m => s3.subset m) hwr fun y L4 H6 s4 wi F6 => ?_
    obtain ⟨L5, pm5, s5⟩ := Z.sub_front (s3.trans s4)
    obtain ⟨L6, pm6, s6⟩ := Z.sub_front s5
    have pm := pm5.trans (pm6.cons _)
    have F7 := F6.perm pm
    have wi7 : WallIn c_Wall L6 y x rows := (wi.mem fun _ h => pm.mem_iff.mp h).skip.skip
    have si7 : StockIn c_Stock L6 x ns lap r := ((si.le s4).mem fun _ h => pm.mem_iff.mp h).skip.skip
    have sL6 := s2.trans s6
    clear F6 F5 F4 F3 F2 F pm pm5 pm6 s5 s4 s3 wi si mp2 m02 mt2 mb2 ala ala4 sL'
    have mp6 := sL6.subset mp
    have m06 := sL6.subset m0
    have mt6 := sL6.subset mt
    have mb6 := sL6.subset mb
    have mh6 := sL6.subset mh
    have al6 := al.mono fun _ _ t => t.le sL6
    have hc0 := (hrows cs0 (List.mem_of_getElem? ec0)).1
    obtain ⟨_, c01, c04, c0s⟩ := id hc0
    have g0 : rows.getD 0 [] = cs0 := by rw [List.getD_eq_getElem?_getD, ec0]; rfl
    obtain ⟨dy, py, my, tpy⟩ := id wi7
    rw [g0] at my
    have own : ∀ {H0 : Hp} {L0 : List Z.En} {w1 w2 x1 x2 : Addr} {ra rb : List (List Int)} {na nb : List Int} {la lb qa qb : Int} {Q0 : VK}, Z.Fx H0 L0 → WallIn c_Wall L0 w1 x1 ra → StockIn c_Stock L0 x1 na la qa → WallIn c_Wall L0 w2 x2 rb → StockIn c_Stock L0 x2 nb lb qb →
        Q0 (.bl ((decide (na = nb) && (decide (la = lb) && decide (qa = qb))) && decide (ra = rb))) H0 → Z.rOwn K c_Wall (sp_Wall___eq__ K c_Stock c_Wall) id (.ref w1) (.ref w2) H0 Q0 := by
      intro H0 L0 w1 w2 x1 x2 ra rb na nb la lb qa qb Q0 F0 i1 j1 i2 j2 q0
      obtain ⟨d1, p1, m1, _⟩ := id i1
      obtain ⟨d2, p2, m2, _⟩ := id i2
      exact ⟨w1, _, _, _, rfl, F0.get m1, T.i_Wall.ty (F0.get m2), T.i_Wall.nf, _, _, rfl, L0, w1, x1, ra, na, la, qa, rfl, F0, i1, j1, .inl ⟨w2, x2, rb, nb, lb, qb, rfl, i2, j2, ⟨_, rfl, q0⟩⟩⟩
    walk_at "y"
    rename_i H7 F8 J H8 F9
    refine Z.wApp F9 (.tail _ (.tail _ List.mem_cons_self)) (.tail (.tail .head)) (by have := Z.line_big; omega) fun H9 F10 => ?_
    have F11 := F10.sub (L' := L6) (.cons _ (.cons _ (.cons _ (.refl _))))
    clear F10 F9 F8 F7
    walk_at "y"
    refine Z.wMidS (fun σ' H' => σ' = [some (.ref l), some (.ref t), some (.ref p), some (.ref D), some (.ref I), some (.ref y), none, none, none, none, none, none, none, none, none, none, none, none] ∧ Z.Fx H' L6) (fun N hk => ?_) ?_
    · walk_at "z"
      refine Z.wFldAt F11 my hclW T.n_Wall_courses (wall_courses _ _ _) ?_
      walk_at "z"
      refine use__law_tuples F11 tpy mp6 al6 (by omega) (fun c hc => cok_len (hrows c hc).1) fun H10 F12 => ?_
      walk_at "z"
      refine Z.wLenOwn (F12.get my) ⟨_, rfl, L6, y, x, rows, rfl, F12, wi7, _, rfl, by omega, by omega, ?_⟩
      walk_at "zr"
      refine Z.wFldAt F12 my hclW T.n_Wall_length (wall_length _ _ _) ?_
      walk_at "zr"
      exact hk _ _ ⟨rfl, F12⟩
    clear F11
    rintro _ H10 ⟨rfl, F12⟩
    walk_at "y"
    refine Z.wMidS (fun σ' H' => σ' = [some (.ref l), some (.ref t), some (.ref p), some (.ref D), some (.ref I), some (.ref y), none, none, none, none, none, none, none, none, none, none, none, none] ∧ Z.Fx H' L6) (fun N hk => ?_) ?_
    · walk_at "z"
      refine Z.wFldAt F12 my hclW T.n_Wall_stock (wall_stock _ _ _) ?_
      walk_at "z"
      refine use_StockG (by assumption) (.lst List.mem_cons_self) hg hlap hreach fun x2 L7 H11 s7 si2 F13 => ?_
      have s67 : L6.Sublist L7 := (List.Sublist.cons _ (.refl _)).trans s7
      obtain ⟨dxs, ps, ms, _⟩ := id (si7.le s67)
      obtain ⟨dxs', ps', ms', _⟩ := id si2
      refine ⟨x, _, _, _, rfl, F13.get ms, T.i_Stock.ty (F13.get ms'), T.i_Stock.nf, _, _, rfl, L7, x, ns, lap, r, rfl, F13, si7.le s67, .inl ⟨x2, ns, lap, r, rfl, si2, ?_⟩⟩
      refine ⟨_, rfl, ?_⟩
      try dsimp only [id]
      walk_at "zr"
      exact hk _ _ ⟨rfl, F13.sub s67⟩
    clear F12
    rintro _ H10 ⟨rfl, F12⟩
    walk_at "y"
    refine use_StockG (by assumption) (.lst List.mem_cons_self) hg hlap hreach fun x2 L7 H11 s7 si2 F13 => ?_
    have s67 : L6.Sublist L7 := (List.Sublist.cons _ (.refl _)).trans s7
    have mp7 := s67.subset mp6
    walk_at "y"
    rename_i tq H12 F14
    refine wall_ok F14 (si2.le (.cons _ (.refl _))) (.tup List.mem_cons_self) (rows_courses (al.mono fun _ _ t => t.le ((sL6.trans s67).cons _))) hwr fun y2 L8 H13 s8 wi2 F15 => ?_
    have s78 : L7.Sublist L8 := (List.Sublist.cons _ (.refl _)).trans s8
    have s68 := s67.trans s78
    have si2' := si2.le s78
    have wi8 := wi7.le s68
    have si8 := si7.le s68
    have my8 := s68.subset my
    clear F14 F13 F12
    walk_at "y"
    refine Z.wMidS (fun σ' H' => σ' = [some (.ref l), some (.ref t), some (.ref p), some (.ref D), some (.ref I), some (.ref y), some (.ref y2), none, none, none, none, none, none, none, none, none, none, none] ∧ Z.Fx H' L6) (fun N hk => ?_) ?_
    · walk_at "z"
      refine own F15 wi8 si8 wi2 si2' ?_
      try dsimp only [id]
      walk_at "zr"
      refine own F15 wi2 si2' wi8 si8 ?_
      try dsimp only [id]
      walk_at "zr"
      refine use_Clash F15 fun c dc fs H14 F16 => ?_
      have s8c : L8.Sublist (.ob c (.ins c_Clash dc fs) :: .ob dc (.own c) :: L8) := .cons _ (.cons _ (.refl _))
      refine ⟨y, _, _, _, rfl, F16.get (s8c.subset my8), T.i_Clash.ty (F16.get List.mem_cons_self), T.nf_Wall_Clash, _, _, rfl, _, y, x, rows, ns, lap, r, rfl, F16, wi8.le s8c, si8.le s8c, .inr ⟨c, c_Clash, dc, fs, rfl, List.mem_cons_self, T.i_Clash, T.ko_Clash_Wall, ⟨_, rfl, ?_⟩⟩⟩
      try dsimp only [id]
      walk_at "zr"
      exact hk _ _ ⟨rfl, F16.sub (s68.trans s8c)⟩
    clear F15 s8 wi2 si2' si2 wi8 si8 my8 s68 s78 s67 s7 mp7
    rintro _ H14 ⟨rfl, F16⟩
    walk_at "y"
    rename_i o1 H15 F17 o2 H16 F18 ol H17 F19
    have s9 : L6.Sublist (.ob o2 (.tup [V.ref pb, V.int lap, V.int (3 - r), V.ref p]) :: .ob o1 (.tup [V.ref pb, V.int (1 + lap % 4), V.int r, V.ref p]) :: L6) := .cons _ (.cons _ (.refl _))
    have ot : ∀ z ∈ [V.ref o1, V.ref o2], OthAt (.ob o2 (.tup [V.ref pb, V.int lap, V.int (3 - r), V.ref p]) :: .ob o1 (.tup [V.ref pb, V.int (1 + lap % 4), V.int r, V.ref p]) :: L6) ns lap r rows z := by
      intro z hz
      simp only [List.mem_cons, List.not_mem_nil, or_false] at hz
      rcases hz with rfl | rfl
      · refine ⟨o1, pb, p, ns, 1 + lap % 4, r, vs, rows, rfl, .tail _ List.mem_cons_self, s9.subset mb6, hg, by omega, hreach, s9.subset mp6, al6.mono fun _ _ t => t.le s9, hwr, ?_⟩
        have : ¬ lap = 1 + lap % 4 := by omega
        simp [this]
      · refine ⟨o2, pb, p, ns, lap, 3 - r, vs, rows, rfl, List.mem_cons_self, s9.subset mb6, hg, hlap, by omega, s9.subset mp6, al6.mono fun _ _ t => t.le s9, hwr, ?_⟩
        have : ¬ r = 3 - r := by omega
        simp [this]
    obtain ⟨L9, s69, F20, ot9⟩ : ∃ L9, L6.Sublist L9 ∧ Z.Fx H17 (.ob ol (.lst [V.ref o1, V.ref o2]) :: L9) ∧ ∀ z ∈ [V.ref o1, V.ref o2], OthAt L9 ns lap r rows z := ⟨_, s9, F19, ot⟩
    clear F19 F18 F17 F16 ot s9
    have mp9 := s69.subset mp6
    have mt9 := s69.subset mt6
    have mh9 := s69.subset mh6
    refine Z.wMidS (fun σ' H' => ∃ L10 zs, σ' = [some (.ref l), some (.ref t), some (.ref p), some (.ref D), some (.ref I), some (.ref y), some (.ref y2), some (.ref ol), none, none, none, none, none, none, none, none, none, none] ∧ L6.Sublist L10 ∧ Z.Fx H' (.ob ol (.lst zs) :: L10) ∧ zs.length ≤ 3 ∧ ∀ z ∈ zs, OthAt L10 ns lap r rows z) (fun N hk => ?_) ?_
    · walk_at "z"
      refine Z.wIfD (fun h60 => ?_) (fun h60 => ?_)
      · walk_at "z"
        rename_i j H18 F21 j0 j1
        obtain ⟨vj, evj⟩ : ∃ vj, vs[j.toNat]? = some vj := ⟨_, List.getElem?_eq_getElem (by omega)⟩
        obtain ⟨cj, ecj, tj⟩ := al6.getL evj
        have eaj := atI_of j0 evj
        have hcj := hrows cj (List.mem_of_getElem? ecj)
        walk_at "z"
        rename_i q1 H19 F22 q2 H20 F23 o3 H21 F24
        refine Z.wApp F24 (.tail _ (.tail _ (.tail _ List.mem_cons_self))) (.tail (.tail (.tail .head))) (by have := Z.line_big; simp only [List.length_cons, List.length_nil]; omega) fun H22 F25 => ?_
        have s10 : L9.Sublist (.ob o3 (.tup [V.ref pb, V.int lap, V.int r, V.ref q2]) :: .ob q2 (.lst (vs ++ [vj])) :: .ob q1 (.lst [vj]) :: L9) := .cons _ (.cons _ (.cons _ (.refl _)))
        have F26 := F25.perm (L' := .ob ol (.lst ([V.ref o1, V.ref o2] ++ [V.ref o3])) :: .ob o3 (.tup [V.ref pb, V.int lap, V.int r, V.ref q2]) :: .ob q2 (.lst (vs ++ [vj])) :: .ob q1 (.lst [vj]) :: L9) (List.perm_middle (l₁ := [_, _, _]))
        refine hk _ _ ⟨_, _, rfl, s69.trans s10, F26, by simp, fun z hz => ?_⟩
        rcases List.mem_append.mp hz with h | h
        · exact (ot9 z h).le s10
        · cases List.mem_singleton.mp h
          refine ⟨o3, pb, q2, ns, lap, r, vs ++ [vj], rows ++ [cj], rfl, List.mem_cons_self, s10.subset (s69.subset mb6), hg, hlap, hreach, .tail _ List.mem_cons_self, (al6.mono fun _ _ t => t.le (s69.trans s10)).snoc (tj.le (s69.trans s10)), wrows (s := s) (by rw [List.length_append]; omega) (by rw [List.length_append]; simp only [List.length_cons, List.length_nil]; omega) (fun c hc => ?_), ?_⟩
          · rcases List.mem_append.mp hc with h | h
            · exact hrows c h
            · cases List.mem_singleton.mp h
              exact hcj
          · have : ¬ rows = rows ++ [cj] := fun e => by have := congrArg List.length e; rw [List.length_append] at this; simp at this
            simp [this]
      · walk_at "z"
        exact hk _ _ ⟨L9, _, rfl, s69, F20, by simp, ot9⟩
    clear F20 ot9 mp9 mt9 mh9 s69 L9
    rintro _ H18 ⟨L9, zs, rfl, s69, F20, hzl, ot9⟩
    have mp9 := s69.subset mp6
    have mt9 := s69.subset mt6
    have mh9 := s69.subset mh6
    have mb9 := s69.subset mb6
    have m09 := s69.subset m06
    walk_at "y"
    rename_i at0 H19 F21 a0 a1
    have hcs0 : cs0.sum = s := (hrows cs0 (List.mem_of_getElem? ec0)).2
    have nb : ∀ b ∈ ns, 1 ≤ b := fun b hb => (b8 b hb).1
    obtain ⟨n, en⟩ : ∃ n : Nat, cs0.sum = n := Int.eq_ofNat_of_zero_le ((Can.sum hc0.1).nn nb)
    have hcan : Can ns n := by rw [← en]; exact Can.sum hc0.1
    have n1 : 1 ≤ n := by
      have := len_le_sum fun c hc => nb c (hc0.1 c hc)
      omega
    have n4 : n ≤ 400 := by omega
    rw [en]
    refine use__law_ends F21 (.tail _ mb9) nb b4 n4 fun q bs H20 he F22 => ?_
    walk_at "y"
    refine use__law_walk F22 (.tail _ (.tail _ mh9)) (.tail _ (.tail _ mb9)) List.mem_cons_self nb b4 n1 n4 he hcan fun tc cw H21 wok wsum F23 => ?_
    obtain ⟨L10, s910, F24, mc⟩ : ∃ L10, L9.Sublist L10 ∧ Z.Fx H21 (.ob ol (.lst zs) :: L10) ∧ Z.En.ob tc (.tup (cw.map V.int)) ∈ L10 := ⟨.ob tc (.tup (cw.map V.int)) :: .ob q (.lst (bs.map V.bl)) :: L9, .cons _ (.cons _ (.refl _)), F23.perm (List.perm_middle (l₁ := [_, _])), List.mem_cons_self⟩
    have ot10 : ∀ z ∈ zs, OthAt L10 ns lap r rows z := fun z hz => (ot9 z hz).le s910
    clear F23 F22 F21 F20 ot9
    have mp10 := s910.subset mp9
    have mt10 := s910.subset mt9
    have mh10 := s910.subset mh9
    have mb10 := s910.subset mb9
    have s610 := s69.trans s910
    have al10 := al6.mono fun _ _ t => t.le s610
    obtain ⟨va, eva⟩ : ∃ va, vs[at0.toNat]? = some va := ⟨_, List.getElem?_eq_getElem (by omega)⟩
    obtain ⟨ca, eca, ⟨ra, rfl, ma⟩⟩ := al10.getL eva
    have eaa := atI_of a0 eva
    walk_at "y"
    refine Z.wMidS (fun σ' H' => ∃ L11 zs, σ' = [some (.ref l), some (.ref t), some (.ref p), some (.ref D), some (.ref I), some (.ref y), some (.ref y2), some (.ref ol), some (.int at0), some (.ref tc), none, none, none, none, none, none, none, none] ∧ L10.Sublist L11 ∧ Z.Fx H' (.ob ol (.lst zs) :: L11) ∧ zs.length ≤ 4 ∧ ∀ z ∈ zs, OthAt L11 ns lap r rows z) (fun N hk => ?_) ?_
    · walk_at "z"
      refine Z.wNeTT (F24.tup (.tail _ mc)) (F24.tup (.tail _ ma)) ?_
      walk_at "z"
      refine Z.wIfND (fun hne => ?_) (fun heq => ?_)
      · walk_at "z"
        rename_i q1 H22 F25 q2 H23 F26
        rw [Z.cut_take a0] at F25 F26
        refine Z.wCatL F26 (.tail _ List.mem_cons_self) List.mem_cons_self (by rw [List.length_take]; simp only [List.length_cons, List.length_nil]; omega) fun q3 H24 F27 => ?_
        walk_at "z"
        rename_i q4 H25 F28
        rw [Z.cut_drop (by omega)] at F28
        refine Z.wCatL F28 (.tail _ List.mem_cons_self) List.mem_cons_self (by rw [List.length_append, List.length_take, List.length_drop]; simp only [List.length_cons, List.length_nil]; omega) fun q5 H26 F29 => ?_
        walk_at "z"
        rename_i o4 H27 F30
        refine Z.wApp F30 (.tail _ (.tail _ (.tail _ (.tail _ (.tail _ (.tail _ List.mem_cons_self)))))) (.tail (.tail (.tail (.tail (.tail (.tail .head)))))) (by have := Z.line_big; omega) fun H28 F31 => ?_
        have F32 := F31.perm (List.perm_middle (l₁ := [_, _, _, _, _, _]))
        have s12 : L10.Sublist (.ob o4 (.tup [V.ref pb, V.int lap, V.int r, V.ref q5]) :: .ob q5 (.lst (vs.take at0.toNat ++ [.ref tc] ++ vs.drop (at0 + 1).toNat)) :: .ob q4 (.lst (vs.drop (at0 + 1).toNat)) :: .ob q3 (.lst (vs.take at0.toNat ++ [.ref tc])) :: .ob q2 (.lst [.ref tc]) :: .ob q1 (.lst (vs.take at0.toNat)) :: L10) := .cons _ (.cons _ (.cons _ (.cons _ (.cons _ (.cons _ (.refl _))))))
        refine hk _ _ ⟨_, zs ++ [.ref o4], rfl, s12, F32, by rw [List.length_append]; simp only [List.length_cons, List.length_nil]; omega, fun z hz => ?_⟩
        rcases List.mem_append.mp hz with h | h
        · exact (ot10 z h).le s12
        · cases List.mem_singleton.mp h
          have al12 := al10.mono fun _ _ t => t.le s12
          have hat : at0.toNat < rows.length := by omega
          have e1 : (at0 + 1).toNat = at0.toNat + 1 := by omega
          refine ⟨o4, pb, q5, ns, lap, r, vs.take at0.toNat ++ [.ref tc] ++ vs.drop (at0 + 1).toNat, rows.take at0.toNat ++ [cw] ++ rows.drop (at0 + 1).toNat, rfl, List.mem_cons_self, s12.subset mb10, hg, hlap, hreach, .tail _ List.mem_cons_self, ((al12.take _).snoc ⟨tc, rfl, s12.subset mc⟩).app (al12.drop _), wrows (s := s) ?_ ?_ (fun c hc => ?_), ?_⟩
          · rw [List.length_append, List.length_append]; simp only [List.length_cons, List.length_nil]; omega
          · rw [List.length_append, List.length_append, List.length_take, List.length_drop]; simp only [List.length_cons, List.length_nil]; omega
          · simp only [List.mem_append, List.mem_singleton] at hc
            rcases hc with (h | h) | h
            · exact hrows c (List.mem_of_mem_take h)
            · subst h
              exact ⟨wok, by omega⟩
            · exact hrows c (List.mem_of_mem_drop h)
          · have : ¬ rows = rows.take at0.toNat ++ [cw] ++ rows.drop (at0 + 1).toNat := fun e => by
              have h2 := congrArg (fun l => l[at0.toNat]?) e
              try dsimp only at h2
              rw [eca, List.append_assoc, List.getElem?_append_right (by rw [List.length_take]; omega), List.length_take, show at0.toNat - min at0.toNat rows.length = 0 by omega] at h2
              exact hne (Option.some.inj h2).symm
            rw [decide_eq_false this, Bool.and_false]
      · walk_at "z"
        exact hk _ _ ⟨L10, _, rfl, .refl _, F24, by omega, ot10⟩
    clear F24 ot10 hzl zs
    rintro _ H22 ⟨L11, zs, rfl, s1011, F24, hzl, ot11⟩
    have mp11 := s1011.subset mp10
    have mt11 := s1011.subset mt10
    have mh11 := s1011.subset mh10
    have mb11 := s1011.subset mb10
    have s611 := s610.trans s1011
    have al11 := al6.mono fun _ _ t => t.le s611
    walk_at "z"
    refine Z.wLcW walk_range F24 (fun i acc L' => L' = .ob ol (.lst zs) :: L11 ∧ acc = (((List.range i).map (fun j : Nat => (1 : Int) + (j : Int))).filter (fun b => !decide (b ∈ ns))).map V.int) ⟨rfl, rfl⟩ (fun _ _ _ _ _ _ _ => trivial) ?_ ?_
    · rintro i u Ds H23 H24 acc L' hi ⟨rfl, rfl⟩ F25 ⟨rfl, rfl⟩
      have hlen : (((List.range i).map (fun j : Nat => (1 : Int) + (j : Int))).filter (fun b => !decide (b ∈ ns))).length ≤ 8 := by
        have := List.length_filter_le (fun b => !decide (b ∈ ns)) ((List.range i).map (fun j : Nat => (1 : Int) + (j : Int)))
        rw [List.length_map, List.length_range] at this
        omega
      have er : (List.range (i + 1)).map (fun j : Nat => (1 : Int) + (j : Int)) = (List.range i).map (fun j : Nat => (1 : Int) + (j : Int)) ++ [1 + (i : Int)] := by rw [List.range_succ, List.map_append]; rfl
      walk_at "zw"
      walk_at "z"
      refine ⟨rfl, ?_⟩
      walk_at "z"
      refine Z.wNotInTu (F25.tup (.tail _ (.tail _ mb11))) ?_
      walk_at "z"
      refine Z.wIf (fun hb => ?_) (fun hb => ?_)
      · walk_at "z"
        refine Z.lcPut F25 (by rw [List.length_map]; have := Z.line_big; omega) ⟨rfl, ?_⟩
        rw [er, List.filter_append, List.map_append, List.filter_cons_of_pos (by exact hb)]
        rfl
      · refine ⟨_, _, F25, rfl, ?_⟩
        rw [er, List.filter_append, List.map_append, List.filter_cons_of_neg (by rw [hb]; decide)]
        simp
    rintro Ds acc L' H23 F25 ⟨rfl, rfl⟩
    obtain ⟨sps, esp⟩ : ∃ sps, sps = (((List.range ((9 : Int) - 1).toNat).map (fun j : Nat => (1 : Int) + (j : Int))).filter (fun b => !decide (b ∈ ns))) := ⟨_, rfl⟩
    rw [← esp] at F25
    have hsp : ∀ b ∈ sps, 1 ≤ b ∧ b ≤ 8 ∧ b ∉ ns := fun b hb => by
      rw [esp] at hb
      obtain ⟨h1, h2⟩ := List.mem_filter.mp hb
      obtain ⟨j, hj, rfl⟩ := List.mem_map.mp h1
      have := List.mem_range.mp hj
      simp only [Bool.not_eq_true', decide_eq_false_iff_not] at h2
      exact ⟨by omega, by omega, h2⟩
    have hspl : sps.length ≤ 8 := by
      rw [esp]
      exact Nat.le_trans (List.length_filter_le _ _) (by simp)
    walk_at "y"
    refine Z.wMidS (fun σ' H' => ∃ L12 zs, σ' = [some (.ref l), some (.ref t), some (.ref p), some (.ref D), some (.ref I), some (.ref y), some (.ref y2), some (.ref ol), some (.int at0), some (.ref tc), some (.ref Ds), none, none, none, none, none, none, none] ∧ L11.Sublist L12 ∧ Z.Fx H' (.ob ol (.lst zs) :: L12) ∧ ∀ z ∈ zs, OthAt L12 ns lap r rows z) (fun N hk => ?_) ?_
    · walk_at "z"
      refine Z.wIfD (fun h4 => ?_) (fun h4 => ?_)
      · have hne : 0 < sps.length := by
          have : ¬ ∀ b ∈ ([1, 2, 3, 4, 5, 6, 7, 8] : List Int), b ∈ ns := fun h => by
            have := Z.nodup_le (l := ([1, 2, 3, 4, 5, 6, 7, 8] : List Int)) (by decide) h
            simp only [List.length_cons, List.length_nil] at this
            omega
          simp only [Classical.not_forall] at this
          obtain ⟨b, hb, hn⟩ := this
          refine List.length_pos_of_mem (a := b) ?_
          rw [esp]
          refine List.mem_filter.mpr ⟨?_, by simpa using hn⟩
          have e8 : ((List.range ((9 : Int) - 1).toNat).map (fun j : Nat => (1 : Int) + (j : Int))) = [1, 2, 3, 4, 5, 6, 7, 8] := by decide
          rw [e8]
          exact hb
        walk_at "z"
        rename_i j H24 F26 j0 j1 q1 H25 F27
        have hb := hsp _ (List.mem_of_getElem? (Z.get_getD (ns := sps) (k := j.toNat) (by omega)))
        generalize sps.getD j.toNat 0 = b at *
        obtain ⟨hb1, hb2, hb3⟩ := hb
        refine Z.wCatTu (ms := [b]) (F27.tup (.tail _ (.tail _ (.tail _ mb11)))) (F27.tup List.mem_cons_self) (by intro e; rw [e] at b1; simp at b1) (by simp) (by simp only [List.length_cons, List.length_nil]; omega) F27 fun q2 H26 F28 => ?_
        walk_at "z"
        refine Z.wSortedTu (F28.tup List.mem_cons_self) (by rw [List.length_append]; simp only [List.length_cons, List.length_nil]; omega) F28 fun ms q3 H27 pms srt F29 => ?_
        walk_at "z"
        rename_i q4 H28 F30 o5 H29 F31
        refine Z.wApp F31 (.tail _ (.tail _ (.tail _ (.tail _ (.tail _ (.tail _ List.mem_cons_self)))))) (.tail (.tail (.tail (.tail (.tail (.tail .head)))))) (by have := Z.line_big; omega) fun H30 F32 => ?_
        have F33 := F32.perm (List.perm_middle (l₁ := [_, _, _, _, _, _]))
        have s13 : L11.Sublist (.ob o5 (.tup [V.ref q4, V.int lap, V.int r, V.ref p]) :: .ob q4 (.tup (ms.map V.int)) :: .ob q3 (.lst (ms.map V.int)) :: .ob q2 (.tup ((ns ++ [b]).map V.int)) :: .ob q1 (.tup [V.int b]) :: .ob Ds (.lst (sps.map V.int)) :: L11) := .cons _ (.cons _ (.cons _ (.cons _ (.cons _ (.cons _ (.refl _))))))
        refine hk _ _ ⟨_, zs ++ [.ref o5], rfl, s13, F33, fun z hz => ?_⟩
        rcases List.mem_append.mp hz with h | h
        · exact (ot11 z h).le s13
        · cases List.mem_singleton.mp h
          have pml := pms.length_eq
          rw [List.length_append] at pml
          simp only [List.length_cons, List.length_nil] at pml
          have hin : ∀ z ∈ ns, z ∈ ms := fun z hz => pms.mem_iff.mpr (List.mem_append_left _ hz)
          have nd : (ns ++ [b]).Nodup := by
            rw [List.nodup_append]
            refine ⟨hB.1.imp fun h => by omega, by simp, fun a ha c hc e => ?_⟩
            cases List.mem_singleton.mp hc
            exact hb3 (e ▸ ha)
          refine ⟨o5, q4, p, ms, lap, r, vs, rows, rfl, List.mem_cons_self, .tail _ List.mem_cons_self, good_of (by omega) (by omega) (fun z hz => ?_) (Z.pw_lt srt (pms.nodup_iff.mpr nd)), hlap, hreach, s13.subset mp11, al11.mono fun _ _ t => t.le s13, ⟨hwr.1, hwr.2.1, fun c hc => ?_⟩, ?_⟩
          · rcases List.mem_append.mp (pms.mem_iff.mp hz) with h | h
            · exact b8 z h
            · cases List.mem_singleton.mp h
              exact ⟨hb1, hb2⟩
          · obtain ⟨hk1, hk2⟩ := hwr.2.2 c hc
            exact ⟨⟨fun z hz => hin z (hk1.1 z hz), hk1.2⟩, hk2⟩
          · have : ¬ ns = ms := fun e => by rw [e] at pml; omega
            rw [decide_eq_false this]
            rfl
      · walk_at "z"
        exact hk _ _ ⟨.ob Ds (.lst (sps.map V.int)) :: L11, zs, rfl, .cons _ (.refl _), F25.perm (.swap _ _ _), fun z hz => (ot11 z hz).le (.cons _ (.refl _))⟩
    clear F25 F24 ot11 hzl zs
    rintro _ H24 ⟨L12, zs, rfl, s1112, F26, ot12⟩
    have s612 := s611.trans s1112
    have sL12 := sL6.trans s612
    walk_at "z"
    refine Z.wForLi F26 List.mem_cons_self (fun i σ H' => ∃ v11 v12 v13 v14 v15, σ = [some (.ref l), some (.ref t), some (.ref p), some (.ref D), some (.ref I), some (.ref y), some (.ref y2), some (.ref ol), some (.int at0), some (.ref tc), some (.ref Ds), v11, v12, v13, v14, v15, none, none] ∧ Z.Fx H' (.ob ol (.lst zs) :: L12)) ⟨_, _, _, _, _, rfl, F26⟩ ?_ ?_ ?_
    · rintro i σ H' ⟨v11, v12, v13, v14, v15, rfl, F'⟩
      exact ⟨_, F', List.mem_cons_self⟩
    · rintro i z σ H25 hz ⟨v11, v12, v13, v14, v15, rfl, F27⟩
      obtain ⟨oa, pb', q', ns', lap', r', vs', rows', rfl, m1, m2, g', h1', h2', m3, al', w', hne⟩ := ot12 z (List.mem_of_getElem? hz)
      have g1' : 0 < 1 := by decide
      walk_at "z"
      refine use_StockG F27 (.tup (.tail _ m2)) g' h1' h2' fun x3 L13 H26 s14 si3 F28 => ?_
      have s1213 : L12.Sublist L13 := (List.Sublist.cons _ (.refl _)).trans s14
      walk_at "z"
      refine wall_ok F28 si3 (.lst (s1213.subset m3)) (rows_courses (al'.mono fun _ _ t => t.le s1213)) w' fun y3 L14 H27 s15 wi3 F29 => ?_
      have s614 := s612.trans (s1213.trans s15)
      have si3' := si3.le s15
      have wi14 := wi7.le s614
      have si14 := si7.le s614
      walk_at "z"
      refine own F29 wi14 si14 wi3 si3' ?_
      rw [hne]
      try dsimp only [id]
      walk_at "zr"
      refine own F29 wi3 si3' wi14 si14 ?_
      have hne2 : ((decide (ns' = ns) && (decide (lap' = lap) && decide (r' = r))) && decide (rows' = rows)) = false := by
        rw [← hne]
        congr 1
        · congr 1
          · exact decide_eq_decide.mpr ⟨Eq.symm, Eq.symm⟩
          · congr 1
            · exact decide_eq_decide.mpr ⟨Eq.symm, Eq.symm⟩
            · exact decide_eq_decide.mpr ⟨Eq.symm, Eq.symm⟩
        · exact decide_eq_decide.mpr ⟨Eq.symm, Eq.symm⟩
      rw [hne2]
      try dsimp only [id]
      walk_at "zr"
      exact ⟨_, _, _, _, _, rfl, F29.sub (s14.trans s15)⟩
    · rintro σ H25 ⟨v11, v12, v13, v14, v15, rfl, F27⟩
      walk_at "z"
      exact k _ (F27.sub (sL12.trans (.cons _ (.refl _))))
theorem ok__law_good (T : Txt K mg c_BadCourse c_BadStock c_BadWall c_Clash c_Stock c_Wall) : Z.Ok CX0 P w K mg base "_law_good" 9 ["_law_hand_here", "_law_stock_here", "_law_rows_here"] [] (sp__law_good K c_Wall c_Stock) := by
  obtain ⟨f, fd, F, g⟩ := T.d__law_good
  exact Z.mkOk F g (F.binds (ps := ["_law_hand_here", "_law_stock_here", "_law_rows_here"]) fun _ _ _ _ _ _ us hl => match us, hl with | [_, _, _], _ => rfl) (fn__law_good T F)
theorem use__law_good {cW cS : Addr} {H : Hp} {Q : VK} {E : XK} {L : List Z.En} {l hc t p : Addr} {ns : List Int} {lap r s : Int} {vs : List V} {rows : List (List Int)} (F : Z.Fx H L) (mh : Z.En.hand l hc ∈ L) (st : St3 L t ns lap r) (hB : Bricks 8 ns) (hg : goodB (some (ns.map V.int)) = true) (hlap : 1 ≤ lap ∧ lap ≤ 4) (hr : 1 ≤ r ∧ r ≤ 2) (mp : Z.En.ob p (.lst vs) ∈ L) (al : Z.Al2 (TupOf L) vs rows)
  (hl1 : 1 ≤ rows.length) (hl2 : rows.length ≤ 60) (hrows : ∀ c ∈ rows, Cok ns c ∧ c.sum = s) (k : ∀ H', Z.Fx H' L → Q (.bl true) H') : sp__law_good K cW cS [.ref l, .ref t, .ref p] H Q E :=
  ⟨_, _, _, rfl, L, l, hc, t, p, ns, lap, r, s, vs, rows, rfl, rfl, rfl, F, mh, st, hB, hg, hlap, hr, mp, al, hl1, hl2, hrows, k⟩
theorem sc__law_rows : FnScope ["_law_hand_here", "_law_stock_here", "_law_height", "_law_count", "_law_first", "_law_k"] ["_law_hand_here", "_law_stock_here", "_law_height", "_law_count"] (defScope s__law_rows) := ⟨rfl, rfl, rfl, by decide +kernel, rfl, by decide +kernel, by decide +kernel⟩
def sp__law_rows (K : PySem.W.Frag) : Sp := Z.Sp4 fun a b c d H Q E => ∃ (L : List Z.En) (l hc t : Addr) (ns : List Int) (lap r h m : Int), a = .ref l ∧ b = .ref t ∧ c = .int h ∧ d = .int m ∧ Z.Fx H L ∧ Z.En.hand l hc ∈ L ∧ St3 L t ns lap r ∧ Bricks 8 ns ∧ 1 ≤ h ∧ h ≤ 60 ∧ 1 ≤ m ∧ m ≤ 50 ∧
  ∀ q vs rows s L1 H', L.Sublist L1 → Z.En.ob q (.lst vs) ∈ L1 → Z.Al2 (TupOf L1) vs rows → (rows.length : Int) = h → (∀ c ∈ rows, Cok ns c ∧ c.sum = s) → Z.Fx H' L1 → Q (.ref q) H'
theorem fn__law_rows (T : Txt K mg c_BadCourse c_BadStock c_BadWall c_Clash c_Stock c_Wall) {f : Addr} {fd : FuncData} (F : Fun K "_law_rows" "_law_rows" s__law_rows f fd) : FnOk P w K mg base CX0 5 f fd ["_law_hand_here", "_law_stock_here", "_law_height", "_law_count"] (sp__law_rows K) := by
  have O__law_draw := ok__law_draw (P := P) (w := w) (base := base) T
  have O__law_laid_on := ok__law_laid_on (P := P) (w := w) (base := base) T
  refine F.ok sc__law_rows (fun vs H Q E h => ?_) (fun cdv A outer s H vs Q E hr h => ?_)
  · obtain ⟨a, b, c, d, rfl, _⟩ := h; rfl
  · obtain ⟨a, b, c, d, rfl, h⟩ := h
    refine ⟨_, (pss_cons (ps_set (i := 4) sc__law_rows.nd rfl (by first | exact Or.inl rfl | exact Or.inr rfl) (pe_callTy Z.zTuple (by rfl) T.b_tuple (by decide +kernel) (pa_cons (by exact (pe_lc (own := [("_law_k", 5)]) (g := (gName 5)) (by rfl) sc__law_rows.nd (pi_range1 (by rfl) T.b_range (pa_cons (pv 3) pa_nil)) (blkOk_by (own := [("_law_k", 5)]) (N := ["_law_hand_here", "_law_stock_here", "_law_height", "_law_count", "_law_first", "_law_k"]) (sc := defScope s__law_rows) (by decide +kernel)) (fun _ _ _ _ _ => (by exact (pg_name (i := 5) sc__law_rows.nd rfl (by first | exact Or.inl rfl | exact Or.inr rfl)))) (fun _ _ _ _ _ => (by exact pts_nil)) (fun _ _ _ _ _ => (by exact (pe_ix (show IxR _ (rIx K) from ix_seq) (pe_ix (show IxR _ (rIx K) from ix_seq) (pv 1) pe_int (fun _ _ => rfl)) (Z.pe_callO O__law_draw (by rfl) (hr.mono (by decide)) pass0 (pa_cons (pv 0) (pa_cons (pe_callB (show CallR _ (Value.builtin "len") (Z.rLen K) from Z.zLen) (by rfl) T.b_len (by decide +kernel) (pa_cons (pe_ix (show IxR _ (rIx K) from ix_seq) (pv 1) pe_int (fun _ _ => rfl)) pa_nil)) pa_nil))) (fun _ _ => rfl)))))) pa_nil)))
      (pss_one (ps_ret (Z.pe_callO O__law_laid_on (by rfl) (hr.mono (by decide)) pass0 (pa_cons (pv 0) (pa_cons (pv 1) (pa_cons (pv 2) (pa_cons (pv 4) pa_nil)))))))), ?_⟩
    try dsimp only [cxOf, Cx.nox, Cx.wish]
    refine Z.at_start (σ' := [some a, some b, some c, some d, none, none]) rfl ?_
    obtain ⟨L, l, hc, t, ns, lap, r, h, m, rfl, rfl, rfl, rfl, F, mh, ⟨pb, mt, mb⟩, hB, h1, h60, m1, m50, k⟩ := h
    obtain ⟨_, b1, b4, b8⟩ := id hB
    walk_at "z"
    refine Z.wLcW walk_range F (fun i acc L' => L' = L ∧ ∃ cs : List Int, acc = cs.map V.int ∧ cs.length = i ∧ ∀ c ∈ cs, c ∈ ns) ⟨rfl, [], rfl, rfl, by simp⟩ (fun _ _ _ _ _ _ _ => trivial) ?_ ?_
    · rintro i x D H5 H6 acc L' hi ⟨rfl, cs, rfl, hn, hc⟩ F6 ⟨rfl, _⟩
      walk_at "zw"
      walk_at "z"
      refine ⟨rfl, ?_⟩
      walk_at "z"
      rename_i y Hy Fy y0 y1
      have hy : y.toNat < ns.length := by omega
      refine Z.lcPut Fy (by rw [List.length_map]; have := Z.line_big; omega) ⟨rfl, cs ++ [ns.getD y.toNat 0], by rw [List.map_append]; rfl, by rw [List.length_append, hn]; rfl, fun c h => ?_⟩
      rcases List.mem_append.mp
            h with h | h
      · exact hc c h
      · cases List.mem_singleton.mp h
        exact List.mem_of_getElem? (Z.get_getD hy)
    rintro D acc L' H5 F5 ⟨rfl, cs, rfl, hn, hc⟩
    walk_at "z"
    rename_i p H6 F6
    have hsum : cs.sum ≤ 8 * cs.length := by
      clear hn F6 F5
      induction cs with
      | nil => decide
      | cons c r ih =>
        have a := (b8 c (hc c List.mem_cons_self)).2
        have b := ih fun d hd => hc d (List.mem_cons_of_mem _ hd)
        rw [List.sum_cons,
              List.length_cons]
        omega
    have F7 := F6.sub (L' := .ob p (.tup (cs.map V.int)) :: L') (by walk_at "zsub")
    refine use__law_laid_on F7 (.tail _ mh) ⟨pb, .tail _ mt, .tail _ mb⟩ hB List.mem_cons_self ⟨hc, by omega, by omega, by omega⟩ h1 h60 fun q vs rows L1 H' s mq al hl hr F' => ?_
    walk_at "z"
    exact k q vs rows cs.sum L1 _ ((List.Sublist.cons _ (.refl _)).trans s) mq al hl hr F'
theorem ok__law_rows (T : Txt K mg c_BadCourse c_BadStock c_BadWall c_Clash c_Stock c_Wall) : Z.Ok CX0 P w K mg base "_law_rows" 5 ["_law_hand_here", "_law_stock_here", "_law_height", "_law_count"] [] (sp__law_rows K) := by
  obtain ⟨f, fd, F, g⟩ := T.d__law_rows
  exact Z.mkOk F g (F.binds (ps := ["_law_hand_here", "_law_stock_here", "_law_height", "_law_count"]) fun _ _ _ _ _ _ us hl => match us, hl with | [_, _, _, _], _ => rfl) (fn__law_rows T F)
theorem use__law_rows {H : Hp} {Q : VK} {E : XK} {L : List Z.En} {l hc t : Addr} {ns : List Int} {lap r h m : Int} (F : Z.Fx H L) (mh : Z.En.hand l hc ∈ L) (st : St3 L t ns lap r) (hB : Bricks 8 ns) (h1 : 1 ≤ h) (h60 : h ≤ 60) (m1 : 1 ≤ m) (m50 : m ≤ 50)
  (k : ∀ q vs rows s L1 H', L.Sublist L1 → Z.En.ob q (.lst vs) ∈ L1 → Z.Al2 (TupOf L1) vs rows → (rows.length : Int) = h → (∀ c ∈ rows, Cok ns c ∧ c.sum = s) → Z.Fx H' L1 → Q (.ref q) H') : sp__law_rows K [.ref l, .ref t, .int h, .int m] H Q E :=
  ⟨_, _, _, _, rfl, L, l, hc, t, ns, lap, r, h, m, rfl, rfl, rfl, rfl, F, mh, st, hB, h1, h60, m1, m50, k⟩
theorem sc__law_bad_course : FnScope ["_law_hand_here", "_law_stock_here", "_law_row", "_law_way", "_law_at", "_law_brick"] ["_law_hand_here", "_law_stock_here", "_law_row"] (defScope s__law_bad_course) := ⟨rfl, rfl, rfl, by decide +kernel, rfl, by decide +kernel, by decide +kernel⟩
/-- no course: its word is that of a bad one -/
theorem sum_rep (b : Int) : ∀ n : Nat, (List.replicate n b).sum = n * b
  | 0 => by simp
  | n + 1 => by rw [List.replicate_succ, List.sum_cons, sum_rep b n, Int.natCast_add, Int.add_mul]; omega
theorem bad_of {ns : List Int} {o : Option (List V)} (h : ∀ cs : List Int, o = some (cs.map V.int) → ¬ Cok ns cs) : ∃ w, courseW ns o = some w := by
  cases e : courseW ns o with
  | some w => exact ⟨w, rfl⟩
  | none =>
    obtain ⟨cs, ec, hok⟩ := courseW_data e
    exact absurd hok (h cs ec)
/-- with an entry that is no brick -/
theorem bad_mid {ns : List Int} {a b : List V} {y : V} (hy : ∀ z, y = .int z → z ∉ ns) : ∃ w, courseW ns (some (a ++ [y] ++ b)) = some w :=
  bad_of fun cs e hok => by
    have e' : a ++ [y] ++ b = cs.map V.int := Option.some.inj e
    have hm : y ∈ cs.map V.int := by rw [← e']; simp
    obtain ⟨z, hz, rfl⟩ := List.mem_map.mp hm
    exact hy z rfl (hok.1 z hz)
theorem mid_things {L : List Z.En} {cs : List Int} {lo hi : Option Int} {a b : Option Int} {y : V} {k : Z.Kd} (ty : Z.Thing L y k) (k1 : k ≠ .lst) (k2 : k ≠ .dct) : ∀ x ∈ cutV (cs.map V.int) lo hi ++ [y] ++ cutV (cs.map V.int) a b, ∃ k, Z.Thing L x k ∧ k ≠ .lst ∧ k ≠ .dct := fun x hx => by
  have ci : ∀ (lo hi : Option Int), x ∈ cutV (cs.map V.int) lo hi → ∃ k, Z.Thing L x k ∧ k ≠ .lst ∧ k ≠ .dct := fun lo hi h => by
    obtain ⟨z, _, rfl⟩ := List.mem_map.mp (Z.cut_mem h)
    exact ⟨_, .int z, nofun, nofun⟩
  simp only [List.mem_append, List.mem_singleton] at hx
  rcases hx with (h | h) | h
  · exact ci _ _ h
  · exact ⟨k, h ▸ ty, k1, k2⟩
  · exact ci _ _ h
/-- a course of new things -/
structure CourseNew (L L1 : List Z.En) (v : V) (o : Option (List V)) : Prop where
  sq : Z.SeqIs L1 v o
  fr : ∀ b xs, v = .ref b → Z.En.ob b (.lst xs) ∈ L1 → b ∉ L.flatMap Z.En.fp
  th : ∀ xs, o = some xs → ∀ x ∈ xs, ∃ k, Z.Thing L1 x k ∧ k ≠ .lst ∧ k ≠ .dct
  nd : ∀ b kvs, v = .ref b → Z.En.ob b (.dK kvs) ∉ L1
theorem CourseNew.at {L L1 : List Z.En} {v : V} {o : Option (List V)} (h : CourseNew L L1 v o) : CourseAt L1 v o := ⟨h.sq, fun xs e x hx => let ⟨k, t, _⟩ := h.th xs e x hx; ⟨k, t⟩⟩
theorem CourseNew.drop {L L1 L2 : List Z.En} {v : V} {o : Option (List V)} {cp : Addr} {ws : List V} (h : CourseNew L L1 v o) (pm : L1.Perm (.ob cp (.lst ws) :: L2)) (hc : cp ∈ L.flatMap Z.En.fp) : CourseAt L2 v o := by
  have mv : ∀ (a : Addr) (ob : HO), Z.En.ob a ob ∈ L1 → (∀ ys, ob ≠ .lst ys) → Z.En.ob a ob ∈ L2 := fun a ob m n => Z.mem_skip (pm.mem_iff.mp m) n
  refine ⟨?_, fun xs e x hx => ?_⟩
  · obtain ⟨sq, fr, _, nd⟩ := h
    cases sq with
    | non => exact .non
    | bl b => exact .bl b
    | int i => exact .int i
    | str z => exact .str z
    | @lst a xs m =>
      refine .lst ?_
      rcases List.mem_cons.mp (pm.mem_iff.mp m) with h | h
      · injection h with h1 _
        subst h1
        exact absurd hc (fr _ _ rfl m)
      · exact h
    | tup m => exact .tup (mv _ _ m nofun)
    | dct m => exact absurd m (nd _ _ rfl)
  · obtain ⟨k, t, n1, n2⟩ := h.th xs e x hx
    cases t with
    | non => exact ⟨_, .non⟩
    | bl b => exact ⟨_, .bl b⟩
    | int i => exact ⟨_, .int i⟩
    | str z => exact ⟨_, .str z⟩
    | lst m => exact absurd rfl n1
    | tup m => exact ⟨_, .tup (mv _ _ m nofun)⟩
    | dct m => exact absurd rfl n2
theorem new_head {L L0 : List Z.En} {a : Addr} {ob : HO} {H : Hp} (F : Z.Fx H (.ob a ob :: L0)) (s : L.Sublist L0) : a ∉ L.flatMap Z.En.fp := fun h => by
  have nd := F.2
  rw [List.flatMap_cons] at nd
  obtain ⟨e, he, ha⟩ := List.mem_flatMap.mp h
  exact (List.nodup_cons.mp nd).1 (List.mem_flatMap.mpr ⟨e, s.subset he, ha⟩)
theorem not_two {L : List Z.En} {a : Addr} {o o' : HO} {H : Hp} (F : Z.Fx H L) (m : Z.En.ob a o ∈ L) (m' : Z.En.ob a o' ∈ L) : o = o' := Option.some.inj ((F.get m).symm.trans (F.get m'))
theorem CourseNew.tup {L L1 : List Z.En} {a : Addr} {xs : List V} {H : Hp} (F : Z.Fx H L1) (m : Z.En.ob a (.tup xs) ∈ L1) (th : ∀ x ∈ xs, ∃ k, Z.Thing L1 x k ∧ k ≠ .lst ∧ k ≠ .dct) : CourseNew L L1 (.ref a) (some xs) :=
  ⟨.tup m, fun b ys e mb => by cases e; exact absurd (not_two F m mb) nofun, fun ys e => by cases e; exact th, fun b kvs e mb => by cases e; exact absurd (not_two F m mb) nofun⟩
theorem CourseNew.lst {L L0 : List Z.En} {a : Addr} {xs : List V} {H : Hp} (F : Z.Fx H (.ob a (.lst xs) :: L0)) (s : L.Sublist L0) (th : ∀ x ∈ xs, ∃ k, Z.Thing (.ob a (.lst xs) :: L0) x k ∧ k ≠ .lst ∧ k ≠ .dct) : CourseNew L (.ob a (.lst xs) :: L0) (.ref a) (some xs) :=
  ⟨.lst List.mem_cons_self, fun b ys e mb => by cases e; exact new_head F s, fun ys e => by cases e; exact th, fun b kvs e mb => by cases e; exact absurd (not_two F List.mem_cons_self mb) nofun⟩
def sp__law_bad_course (K : PySem.W.Frag) : Sp := Z.Sp3 fun a b c H Q E => ∃ (L : List Z.En) (l hc t p : Addr) (ns : List Int) (lap r : Int) (cs : List Int), a = .ref l ∧ b = .ref t ∧ c = .ref p ∧ Z.Fx H L ∧ Z.En.hand l hc ∈ L ∧ St3 L t ns lap r ∧ Bricks 8 ns ∧ Z.En.ob p (.tup (cs.map V.int)) ∈ L ∧ Cok ns cs ∧
  ∀ v o w L1 H', L.Sublist L1 → CourseNew L L1 v o → courseW ns o = some w → Z.Fx H' L1 → Q v H'
theorem fn__law_bad_course (T : Txt K mg c_BadCourse c_BadStock c_BadWall c_Clash c_Stock c_Wall) {f : Addr} {fd : FuncData} (F : Fun K "_law_bad_course" "_law_bad_course" s__law_bad_course f fd) : FnOk P w K mg base CX0 3 f fd ["_law_hand_here", "_law_stock_here", "_law_row"] (sp__law_bad_course K) := by
  have O__law_draw := ok__law_draw (P := P) (w := w) (base := base) T
  refine F.ok sc__law_bad_course (fun vs H Q E h => ?_) (fun cdv A outer s H vs Q E hr h => ?_)
  · obtain ⟨a, b, c, rfl, _⟩ := h; rfl
  · obtain ⟨a, b, c, rfl, h⟩ := h
    refine ⟨_, (pss_cons (ps_set (i := 3) sc__law_bad_course.nd rfl (by first | exact Or.inl rfl | exact Or.inr rfl) (Z.pe_callO O__law_draw (by rfl) (hr.mono (by decide)) pass0 (pa_cons (pv 0) (pa_cons pe_int pa_nil))))
      (pss_cons (ps_set (i := 4) sc__law_bad_course.nd rfl (by first | exact Or.inl rfl | exact Or.inr rfl) (Z.pe_callO O__law_draw (by rfl) (hr.mono (by decide)) pass0 (pa_cons (pv 0) (pa_cons (pe_callB Z.zLen (by rfl) T.b_len (by decide +kernel) (pa_cons (pv 2) pa_nil)) pa_nil))))
      (pss_cons (ps_if (pt_cmpR (Z.zEq (Z.hu0 hr)) (pv 3) pe_int (nomark _))
        (pss_one (ps_ret (pe_op Z.zAdd (pe_op Z.zAdd (pe_callTy Z.zList (by rfl) T.b_list (by decide +kernel) (pa_cons (pe_slice Z.zSlA (pv 2) po_none (po_some (pv 4))) pa_nil)) (pe_lst (pa_cons (pe_op Z.zAdd (pe_op Z.zAdd (pe_callB (Z.cr_maxT rfl (Z.units1 hr)) (by rfl) T.b_max (by decide +kernel) (pa_cons (pe_ix ix_seq (pv 1) pe_int (fun _ _ => rfl)) pa_nil)) pe_int) (Z.pe_callO O__law_draw (by rfl) (hr.mono (by decide)) pass0 (pa_cons (pv 0) (pa_cons (pe_op Z.zPow pe_int pe_int) pa_nil)))) pa_nil))) (pe_callTy Z.zList (by rfl) T.b_list (by decide +kernel) (pa_cons (pe_slice Z.zSlA (pv 2) (po_some (pe_op Z.zAdd (pv 4) pe_int)) po_none) pa_nil)))))
        pss_nil)
      (pss_cons (ps_if (pt_cmpR (Z.zEq (Z.hu0 hr)) (pv 3) pe_int (nomark _))
        (pss_one (ps_ret (pe_op Z.opCatA (pe_op Z.opCatA (pe_slice Z.zSlA (pv 2) po_none (po_some (pv 4))) (pe_tup (pa_cons pe_bl pa_nil))) (pe_slice Z.zSlA (pv 2) (po_some (pe_op Z.zAdd (pv 4) pe_int)) po_none))))
        pss_nil)
      (pss_cons (ps_if (pt_cmpR (Z.zEq (Z.hu0 hr)) (pv 3) pe_int (nomark _))
        (pss_one (ps_ret (pe_op Z.opCatA (pe_op Z.opCatA (pe_slice Z.zSlA (pv 2) po_none (po_some (pv 4))) (pe_tup (pa_cons (pe_un un_neg (Z.pe_callO O__law_draw (by rfl) (hr.mono (by decide)) pass0 (pa_cons (pv 0) (pa_cons (pe_op Z.zPow pe_int pe_int) pa_nil)))) pa_nil))) (pe_slice Z.zSlA (pv 2) (po_some (pe_op Z.zAdd (pv 4) pe_int)) po_none))))
        pss_nil)
      (pss_cons (ps_if (pt_cmpR (Z.zEq (Z.hu0 hr)) (pv 3) pe_int (nomark _))
        (pss_cons (ps_set (i := 5) sc__law_bad_course.nd rfl (by first | exact Or.inl rfl | exact Or.inr rfl) (pe_ix ix_seq (pe_ix ix_seq (pv 1) pe_int (fun _ _ => rfl)) (Z.pe_callO O__law_draw (by rfl) (hr.mono (by decide)) pass0 (pa_cons (pv 0) (pa_cons (pe_callB Z.zLen (by rfl) T.b_len (by decide +kernel) (pa_cons (pe_ix ix_seq (pv 1) pe_int (fun _ _ => rfl)) pa_nil)) pa_nil))) (fun _ _ => rfl)))
        (pss_one (ps_ret (pe_op Z.zMul (pe_lst (pa_cons (pv 5) pa_nil)) (pe_op Z.zAdd (pe_op Z.zDiv pe_int (pv 5)) pe_int)))))
        pss_nil)
      (pss_cons (ps_if (pt_cmpR (Z.zEq (Z.hu0 hr)) (pv 3) pe_int (nomark _))
        (pss_one (ps_ret (pe_op Z.opCatA (pe_op Z.opCatA (pe_slice Z.zSlA (pv 2) po_none (po_some (pv 4))) (pe_tup (pa_cons (pe_tup (pa_cons (pe_ix ix_seq (pv 2) (pv 4) (fun _ _ => rfl)) pa_nil)) pa_nil))) (pe_slice Z.zSlA (pv 2) (po_some (pe_op Z.zAdd (pv 4) pe_int)) po_none))))
        pss_nil)
      (pss_one (ps_ret (pe_ix ix_seq (pe_lst (pa_cons pe_non (pa_cons (pe_lst pa_nil) (pa_cons (pe_tup pa_nil) (pa_cons pe_str (pa_cons (pe_ix ix_seq (pv 2) pe_int (fun _ _ => rfl)) pa_nil)))))) (pe_op op_sub (pv 3) pe_int) (fun _ _ => rfl))))))))))), ?_⟩
    try dsimp only [cxOf, Cx.nox, Cx.wish]
    refine Z.at_start (σ' := [some a, some b, some c, none, none, none]) rfl ?_
    obtain ⟨L, l, hc, t, p, ns, lap, r, cs, rfl, rfl, rfl, F, mh, ⟨pb, mt, mb⟩, hB, mp, hok, k⟩ := h
    obtain ⟨_, b1, b4, b8⟩ := id hB
    have hcl := hok.2.1
    have hcl4 := hok.2.2.1
    have lg25 : (((10 : Int) ^ Int.toNat 25).natAbs).log2 < 9000 := by decide +kernel
    have p25 : (0 : Int) < 10 ^ Int.toNat 25 := by decide
    have lg9 : (((10 : Int) ^ Int.toNat 9).natAbs).log2 < 9000 := by decide +kernel
    have p9 : (0 : Int) < 10 ^ Int.toNat 9 := by decide
    have nb : ∀ z : Int, z ≤ 0 → z ∉ ns := fun z hz h => by have := b8 z h; omega
    have c1 : ∀ lo hi : Option Int, (cutV (cs.map V.int) lo hi).length ≤ 400 := fun lo hi => by have := cutV_length (cs.map V.int) lo hi; rw [List.length_map] at this; omega
    walk_at "z"
    rename_i way H1 F1 w0 w1 at0 H2 F2 a0 a1
    clear F1 F
    have midT : ∀ (L4 : List Z.En) (q : Addr) (y : V) (kd : Z.Kd) (lo hi : Option Int) (H' : Hp), L.Sublist L4 → Z.En.ob q (.tup (cutV (cs.map V.int) none lo ++ [y] ++ cutV (cs.map V.int) hi none)) ∈ L4 → (∀ z, y = .int z → z ∉ ns) → Z.Thing L4 y kd → kd ≠ .lst → kd ≠ .dct → Z.Fx H' L4 → Q (.ref q) H' := fun L4 q y kd lo hi H' sb m hy ty k1 k2 F' => by
      obtain ⟨w, ew⟩ := bad_mid (a := cutV (cs.map V.int) none lo) (b := cutV (cs.map V.int) hi none) hy
      exact k (.ref q) _ w L4 H' sb (.tup F' m (mid_things ty k1 k2)) ew F'
    refine Z.wIfD (fun _ => ?_) (fun _ => ?_)
    · walk_at "z"
      refine Z.wSlTu mp F2 fun s1 H3 L3 sb3 ms1 F3 => ?_
      have mt3 := sb3.subset mt
      have mb3 := sb3.subset mb
      have mh3 := sb3.subset mh
      have mp3 := sb3.subset mp
      walk_at "z"
      rename_i l1 H4 F4
      refine Z.wMaxT (F4.tup (.tail _ mb3)) (by omega) fun m hm hmax => ?_
      walk_at "z"
      rename_i dr H5 F5 d0 d1 l2 H6 F6
      refine Z.wCatL F6 (.tail _ List.mem_cons_self) List.mem_cons_self (by have := c1 none (some at0); simp only [List.length_cons, List.length_nil]; omega) fun l3 H7 F7 => ?_
      walk_at "z"
      refine Z.wSlTu (.tail _ (.tail _ (.tail _ mp3))) F7 fun s2 H8 L8 sb8 ms2 F8 => ?_
      walk_at "z"
      rename_i l4 H9 F9
      have m7 := sb8.subset (List.mem_cons_self)
      refine Z.wCatL F9 (.tail _ m7) List.mem_cons_self (by have := c1 none (some at0); have := c1 (some (at0 + 1)) none; rw [List.length_append]; simp only [List.length_cons, List.length_nil]; omega) fun l5 H10 F10 => ?_
      have hb := (b8 m hm).1
      obtain ⟨w, ew⟩ := bad_mid (a := cutV (cs.map V.int) none (some at0)) (b := cutV (cs.map V.int) (some (at0 + 1)) none) (y := .int (m + 1 + dr)) (fun z ez hz => by
        injection ez with ez
        have := hmax z hz
        omega)
      exact k (.ref l5) _ w _ _ (((sb3.trans (.cons _ (.cons _ (.cons _ (.refl _))))).trans sb8).trans (.cons _ (.cons _ (.refl _)))) (.lst F10 (((sb3.trans (.cons _ (.cons _ (.cons _ (.refl _))))).trans sb8).trans (.cons _ (.refl _))) (mid_things (.int _) nofun nofun)) ew F10
    walk_at "z"
    refine Z.wIfD (fun _ => ?_) (fun _ => ?_)
    · walk_at "z"
      refine Z.wSlTu mp F2 fun s1 H3 L3 sb3 ms1 F3 => ?_
      have mp3 := sb3.subset mp
      walk_at "z"
      rename_i t1 H4 F4
      refine Z.wCatA (.tail _ ms1) List.mem_cons_self (by have := c1 none (some at0); simp only [List.length_cons, List.length_nil]; omega) F4 fun t2 H5 L5 sb5 m5 F5 => ?_
      walk_at "z"
      refine Z.wSlTu (sb5.subset (.tail _ mp3)) F5 fun s2 H6 L6 sb6 m6 F6 => ?_
      refine Z.wCatA (sb6.subset m5) m6 (by have := c1 none (some at0); have := c1 (some (at0 + 1)) none; rw [List.length_append]; simp only [List.length_cons, List.length_nil]; omega) F6 fun t3 H7 L7 sb7 m7 F7 => ?_
      exact midT _ t3 (.bl true) .bl (some at0) (some (at0 + 1)) _ ((((sb3.trans (.cons _ (.refl _))).trans sb5).trans sb6).trans sb7) m7 (fun z ez => by cases ez) (.bl _) nofun nofun F7
    walk_at "z"
    refine Z.wIfD (fun _ => ?_) (fun _ => ?_)
    · walk_at "z"
      refine Z.wSlTu mp F2 fun s1 H3 L3 sb3 ms1 F3 => ?_
      have mp3 := sb3.subset mp
      have mh3 := sb3.subset mh
      walk_at "z"
      rename_i dr H31 F31 d0 d1 t1 H4 F4
      refine Z.wCatA (.tail _ ms1) List.mem_cons_self (by have := c1 none (some at0); simp only [List.length_cons, List.length_nil]; omega) F4 fun t2 H5 L5 sb5 m5 F5 => ?_
      walk_at "z"
      refine Z.wSlTu (sb5.subset (.tail _ mp3)) F5 fun s2 H6 L6 sb6 m6 F6 => ?_
      refine Z.wCatA (sb6.subset m5) m6 (by have := c1 none (some at0); have := c1 (some (at0 + 1)) none; rw [List.length_append]; simp only [List.length_cons, List.length_nil]; omega) F6 fun t3 H7 L7 sb7 m7 F7 => ?_
      exact midT _ t3 (.int (-dr)) .int (some at0) (some (at0 + 1)) _ ((((sb3.trans (.cons _ (.refl _))).trans sb5).trans sb6).trans sb7) m7 (fun z ez => by injection ez with ez; subst ez; exact nb _ (by omega)) (.int _) nofun nofun F7
    walk_at "z"
    refine Z.wIfD (fun _ => ?_) (fun _ => ?_)
    · walk_at "z"
      rename_i j H3 F3 j0 j1 q1 H4 F4
      have hm := List.mem_of_getElem? (Z.get_getD (ns := ns) (k := j.toNat) (by omega))
      have hb := b8 _ hm
      generalize ns.getD j.toNat 0 = br at *
      refine Z.wI ⟨by omega, Z.log_small (by omega) (by omega)⟩ ?_
      have d1 := Int.emod_add_mul_ediv 400 br
      have d2 := Int.emod_lt_of_pos 400 (show 0 < br by omega)
      have d3 : 0 ≤ 400 / br := Int.ediv_nonneg (by omega) (by omega)
      have d4 : 400 / br ≤ 400 := Int.ediv_le_self _ (by omega)
      generalize 400 / br = dv at *
      walk_at "z"
      rename_i q2 H5 F5
      rw [Z.flat_one] at F5
      have esum : (List.replicate (dv + 1).toNat br).sum = (dv + 1) * br := by
        rw [sum_rep, Int.toNat_of_nonneg (by omega)]
      have hbig : 400 < (dv + 1) * br := by rw [Int.add_mul, Int.mul_comm dv br]; omega
      obtain ⟨w, ew⟩ := bad_of (ns := ns) (o := some (List.replicate (dv + 1).toNat (V.int br))) fun ds e hok2 => by
        have e' : List.replicate (dv + 1).toNat (V.int br) = ds.map V.int := Option.some.inj e
        rw [← List.map_replicate] at e'
        have e2 := congrArg (List.map intV) e'
        rw [intV_map, intV_map] at e2
        have := hok2.2.2.2
        rw [← e2, esum] at this
        omega
      refine k (.ref q2) _ w _ H5 (.cons _ (.cons _ (.refl _))) (.lst F5 (.cons _ (.refl _)) fun x hx => ?_) ew F5
      rw [List.eq_of_mem_replicate hx]
      exact ⟨_, .int br, nofun, nofun⟩
    walk_at "z"
    refine Z.wIfD (fun _ => ?_) (fun _ => ?_)
    · walk_at "z"
      refine Z.wSlTu mp F2 fun s1 H3 L3 sb3 ms1 F3 => ?_
      have mp3 := sb3.subset mp
      walk_at "z"
      rename_i t0 H31 F31 t1 H4 F4
      refine Z.wCatA (.tail _ (.tail _ ms1)) List.mem_cons_self (by have := c1 none (some at0); simp only [List.length_cons, List.length_nil]; omega) F4 fun t2 H5 L5 sb5 m5 F5 => ?_
      walk_at "z"
      refine Z.wSlTu (sb5.subset (.tail _ (.tail _ mp3))) F5 fun s2 H6 L6 sb6 m6 F6 => ?_
      refine Z.wCatA (sb6.subset m5) m6 (by have := c1 none (some at0); have := c1 (some (at0 + 1)) none; rw [List.length_append]; simp only [List.length_cons, List.length_nil]; omega) F6 fun t3 H7 L7 sb7 m7 F7 => ?_
      exact midT _ t3 (.ref t0) .tup (some at0) (some (at0 + 1)) _ ((((sb3.trans (.cons _ (.cons _ (.refl _)))).trans sb5).trans sb6).trans sb7) m7 (fun z ez => by cases ez) (.tup (sb7.subset (sb6.subset (sb5.subset (.tail _ List.mem_cons_self))))) nofun nofun F7
    walk_at "z"
    rename_i q1 H3 F3 q2 H4 F4 q3 H5 F5
    have s5 : L.Sublist (.ob q3 (.lst [V.non, V.ref q1, V.ref q2, V.str "course", V.int (cs.getD (Int.toNat 0) 0)]) :: .ob q2 (.tup []) :: .ob q1 (.lst []) :: L) := .cons _ (.cons _ (.cons _ (.refl _)))
    have eno : ∃ w, courseW ns none = some w := ⟨_, rfl⟩
    have ene : ∃ w, courseW ns (some []) = some w := bad_of fun ds e hok2 => by
      have e' : [] = ds.map V.int := Option.some.inj e
      have := hok2.2.1
      cases ds with
      | nil => simp at this
      | cons => simp at e'
    obtain ⟨u1, ew1⟩ := eno
    obtain ⟨u2, ew2⟩ := ene
    have sc : ∀ v, (∀ b, v ≠ .ref b) → Z.SeqIs (.ob q3 (.lst [V.non, V.ref q1, V.ref q2, V.str "course", V.int (cs.getD (Int.toNat 0) 0)]) :: .ob q2 (.tup []) :: .ob q1 (.lst []) :: L) v none → CourseNew L (.ob q3 (.lst [V.non, V.ref q1, V.ref q2, V.str "course", V.int (cs.getD (Int.toNat 0) 0)]) :: .ob q2 (.tup []) :: .ob q1 (.lst []) :: L) v none := fun v n sq => ⟨sq, fun b xs e _ => absurd e (n b), nofun, fun b kvs e => absurd e (n b)⟩
    have F6 := F5.perm (L' := .ob q1 (.lst []) :: .ob q3 (.lst [V.non, V.ref q1, V.ref q2, V.str "course", V.int (cs.getD (Int.toNat 0) 0)]) :: .ob q2 (.tup []) :: L) (((List.Perm.swap _ _ _).cons _).trans (.swap _ _ _))
    rcases (by omega : way = 5 ∨ way = 6 ∨ way = 7 ∨ way = 8 ∨ way = 9) with rfl | rfl | rfl | rfl | rfl
    · exact Z.wIxL (F5.lst List.mem_cons_self) (v := .non) rfl (k _ none u1 _ _ s5 (sc _ nofun .non) ew1 F5)
    · exact Z.wIxL (F5.lst List.mem_cons_self) (v := .ref q1) rfl (k _ (some []) u2 _ _ (.cons _ (.cons _ (.cons _ (.refl _)))) (.lst F6 (.cons _ (.cons _ (.refl _))) nofun) ew2 F6)
    · exact Z.wIxL (F5.lst List.mem_cons_self) (v := .ref q2) rfl (k _ (some []) u2 _ _ s5 (.tup F5 (.tail _ List.mem_cons_self) nofun) ew2 F5)
    · exact Z.wIxL (F5.lst List.mem_cons_self) (v := .str "course") rfl (k _ none u1 _ _ s5 (sc _ nofun (.str _)) ew1 F5)
    · exact Z.wIxL (F5.lst List.mem_cons_self) (v := .int (cs.getD (Int.toNat 0) 0)) rfl (k _ none u1 _ _ s5 (sc _ nofun (.int _)) ew1 F5)
theorem ok__law_bad_course (T : Txt K mg c_BadCourse c_BadStock c_BadWall c_Clash c_Stock c_Wall) : Z.Ok CX0 P w K mg base "_law_bad_course" 3 ["_law_hand_here", "_law_stock_here", "_law_row"] [] (sp__law_bad_course K) := by
  obtain ⟨f, fd, F, g⟩ := T.d__law_bad_course
  exact Z.mkOk F g (F.binds (ps := ["_law_hand_here", "_law_stock_here", "_law_row"]) fun _ _ _ _ _ _ us hl => match us, hl with | [_, _, _], _ => rfl) (fn__law_bad_course T F)
theorem use__law_bad_course {H : Hp} {Q : VK} {E : XK} {L : List Z.En} {l hc t p : Addr} {ns : List Int} {lap r : Int} {cs : List Int} (F : Z.Fx H L) (mh : Z.En.hand l hc ∈ L) (st : St3 L t ns lap r) (hB : Bricks 8 ns) (mp : Z.En.ob p (.tup (cs.map V.int)) ∈ L) (hok : Cok ns cs)
  (k : ∀ v o w L1 H', L.Sublist L1 → CourseNew L L1 v o → courseW ns o = some w → Z.Fx H' L1 → Q v H') : sp__law_bad_course K [.ref l, .ref t, .ref p] H Q E :=
  ⟨_, _, _, rfl, L, l, hc, t, p, ns, lap, r, cs, rfl, rfl, rfl, F, mh, st, hB, mp, hok, k⟩
theorem sc__law_other_length : FnScope ["_law_hand_here", "_law_stock_here", "_law_row"] ["_law_hand_here", "_law_stock_here", "_law_row"] (defScope s__law_other_length) := ⟨rfl, rfl, rfl, by decide +kernel, rfl, by decide +kernel, by decide +kernel⟩
def sp__law_other_length (K : PySem.W.Frag) : Sp := Z.Sp3 fun a b c H Q E => ∃ (L : List Z.En) (l hc t p : Addr) (ns : List Int) (lap r : Int) (cs : List Int), a = .ref l ∧ b = .ref t ∧ c = .ref p ∧ Z.Fx H L ∧ Z.En.hand l hc ∈ L ∧ St3 L t ns lap r ∧ Bricks 8 ns ∧ Z.En.ob p (.tup (cs.map V.int)) ∈ L ∧ Cok ns cs ∧
  ∀ v ds L1 H', L.Sublist L1 → TupOf L1 v ds → Cok ns ds → ds.sum ≠ cs.sum → Z.Fx H' L1 → Q v H'
theorem fn__law_other_length (T : Txt K mg c_BadCourse c_BadStock c_BadWall c_Clash c_Stock c_Wall) {f : Addr} {fd : FuncData} (F : Fun K "_law_other_length" "_law_other_length" s__law_other_length f fd) : FnOk P w K mg base CX0 3 f fd ["_law_hand_here", "_law_stock_here", "_law_row"] (sp__law_other_length K) := by
  have O__law_draw := ok__law_draw (P := P) (w := w) (base := base) T
  refine F.ok sc__law_other_length (fun vs H Q E h => ?_) (fun cdv A outer s H vs Q E hr h => ?_)
  · obtain ⟨a, b, c, rfl, _⟩ := h; rfl
  · obtain ⟨a, b, c, rfl, h⟩ := h
    refine ⟨_, (pss_cons (ps_if (PW.pt (pw_or (pt_cmpR (Z.zEq (Z.hu0 hr)) (pe_callB Z.zLen (by rfl) T.b_len (by decide +kernel) (pa_cons (pv 2) pa_nil)) pe_int (nomark _)) (pw_or1 (PW.pt (pw_and (pt_cmpR Z.zLt (pe_callB (Z.cr_sumS rfl) (by rfl) T.b_sum (by decide +kernel) (pa_cons (pv 2) pa_nil)) pe_int (nomark _)) (pw_and1 (pt_cmpR (Z.zEq (Z.hu0 hr)) (Z.pe_callO O__law_draw (by rfl) (hr.mono (by decide)) pass0 (pa_cons (pv 0) (pa_cons pe_int pa_nil))) pe_int (nomark _))))))))
        (pss_one (ps_ret (pe_op Z.opCatA (pv 2) (pe_tup (pa_cons (pe_ix ix_seq (pe_ix ix_seq (pv 1) pe_int (fun _ _ => rfl)) (Z.pe_callO O__law_draw (by rfl) (hr.mono (by decide)) pass0 (pa_cons (pv 0) (pa_cons (pe_callB Z.zLen (by rfl) T.b_len (by decide +kernel) (pa_cons (pe_ix ix_seq (pv 1) pe_int (fun _ _ => rfl)) pa_nil)) pa_nil))) (fun _ _ => rfl)) pa_nil)))))
        pss_nil)
      (pss_one (ps_ret (pe_slice Z.zSlA (pv 2) po_none (po_some (pe_un un_neg pe_int)))))), ?_⟩
    try dsimp only [cxOf, Cx.nox, Cx.wish]
    refine Z.at_start (σ' := [some a, some b, some c]) rfl ?_
    obtain ⟨L, l, hc, t, p, ns, lap, r, cs, rfl, rfl, rfl, F, mh, ⟨pb, mt, mb⟩, hB, mp, hok, k⟩ := h
    obtain ⟨_, b1, b4, b8⟩ := id hB
    have hcl := hok.2.1
    have hcl4 := hok.2.2.1
    have hcon : ∀ (b : Int), b ∈ ns → (cs.length = 1 ∨ cs.sum < 300) → Cok ns (cs ++ [b]) ∧ (cs ++ [b]).sum ≠ cs.sum := fun b hb h => by
      have hb2 := b8 b hb
      have hl := len_le_sum fun c hc => (b8 c (hok.1 c hc)).1
      have hs : cs.sum < 300 := by
        rcases h with h | h
        · cases cs with
          | nil => simp at h
          | cons c r =>
            cases r with
            | nil =>
              have := (b8 c (hok.1 c List.mem_cons_self)).2
              simp
              omega
            | cons => simp at h
        · exact h
      refine ⟨⟨fun c hc => ?_, by simp, ?_, ?_⟩, ?_⟩
      · rcases List.mem_append.mp hc with h | h
        · exact hok.1 c h
        · cases List.mem_singleton.mp h
          exact hb
      · rw [List.length_append]; simp only [List.length_cons, List.length_nil]; omega
      · rw [List.sum_append, List.sum_singleton]; omega
      · rw [List.sum_append, List.sum_singleton]; omega
    have hmore : ∀ (H0 : Hp), Z.Fx H0 L → (cs.length = 1 ∨ cs.sum < 300) → tRet
            (tOp (rCatA K) (tVar 2)
              (tTup
                (tCons
                  (tOp (rIx K) (tOp (rIx K) (tVar 1) (tC (V.int 0)))
                    (tCall sp__law_draw [] E0
                      (tCons (tVar 0) (tCons (tCB (Z.rLen K) (tCons (tOp (rIx K) (tVar 1) (tC (V.int 0))) tNil)) tNil))))
                  tNil)))
            {
              nx :=
                tRet (tSl (Z.rOrS (rSlL K) (rSlA K)) (tVar 2) tNoPart (tPart (tUn (rU fun i => V.int (-i)) (tC (V.int 1)))))
                  { nx := fun x H' => Q V.non H', rt := Q },
              rt := Q }
            [some (V.ref l), some (V.ref t), some (V.ref p)] H0 := fun H0 F0 h => by
      walk_at "z"
      rename_i j H1 F1 j0 j1 tt H2 F2
      have hj := hcon _ (List.mem_of_getElem? (Z.get_getD (ns := ns) (k := j.toNat) (by omega))) h
      generalize ns.getD j.toNat 0 = b at *
      have m1 : Z.En.ob tt (.tup [V.int b]) ∈ (Z.En.ob tt (.tup [V.int b]) :: L) := List.mem_cons_self
      refine Z.wCatA (.tail _ mp) m1 (by rw [List.length_map]; simp only [List.length_cons, List.length_nil]; omega) F2 fun q H3 L1 sb mq F3 => ?_
      exact k (.ref q) (cs ++ [b]) L1 H3 ((List.Sublist.cons _ (.refl _)).trans sb) ⟨q, rfl, by rw [List.map_append]; exact mq⟩ hj.1 hj.2 F3
    walk_at "z"
    refine Z.wIfD (fun h => ?_) (fun h => ?_)
    · exact hmore _ F (.inl (by omega))
    have hless : ∀ (H0 : Hp), Z.Fx H0 L → ¬ (cs.length = 1) → tRet (tSl (Z.rOrS (rSlL K) (rSlA K)) (tVar 2) tNoPart (tPart (tUn (rU fun i => V.int (-i)) (tC (V.int 1)))))
                  { nx := fun x H' => Q V.non H', rt := Q } [some (V.ref l), some (V.ref t), some (V.ref p)] H0 := fun H0 F0 h => by
      walk_at "z"
      refine Z.wSlTu mp F0 fun q H1 L1 sb mq F1 => ?_
      rw [Z.cut_but, ← List.map_dropLast] at mq
      have hne : cs ≠ [] := by intro e; subst e; simp at hcl
      have hsplit := List.dropLast_concat_getLast hne
      have hlast := (b8 _ (hok.1 _ (List.getLast_mem hne))).1
      have hsum : cs.dropLast.sum + cs.getLast hne = cs.sum := by
        conv => rhs; rw [← hsplit]
        rw [List.sum_append, List.sum_singleton]
      have hdl : cs.dropLast.length = cs.length - 1 := List.length_dropLast
      refine k (.ref q) cs.dropLast L1 H1 sb ⟨q, rfl, mq⟩ ⟨fun c hc => hok.1 c (List.dropLast_subset _ hc), by omega, by omega, by have := hok.2.2.2; omega⟩ (by omega) F1
    walk_at "z"
    refine Z.wIfD (fun h3 => ?_) (fun h3 => ?_)
    · walk_at "z"
      rename_i j H1 F1 j0 j1
      refine Z.wIfD (fun _ => ?_) (fun _ => ?_)
      · exact hmore _ F1 (.inr h3)
      · walk_at "zt"
        exact hless _ F1 fun e => h (by omega)
    · exact hless _ F fun e => h (by omega)
theorem ok__law_other_length (T : Txt K mg c_BadCourse c_BadStock c_BadWall c_Clash c_Stock c_Wall) : Z.Ok CX0 P w K mg base "_law_other_length" 3 ["_law_hand_here", "_law_stock_here", "_law_row"] [] (sp__law_other_length K) := by
  obtain ⟨f, fd, F, g⟩ := T.d__law_other_length
  exact Z.mkOk F g (F.binds (ps := ["_law_hand_here", "_law_stock_here", "_law_row"]) fun _ _ _ _ _ _ us hl => match us, hl with | [_, _, _], _ => rfl) (fn__law_other_length T F)
theorem use__law_other_length {H : Hp} {Q : VK} {E : XK} {L : List Z.En} {l hc t p : Addr} {ns : List Int} {lap r : Int} {cs : List Int} (F : Z.Fx H L) (mh : Z.En.hand l hc ∈ L) (st : St3 L t ns lap r) (hB : Bricks 8 ns) (mp : Z.En.ob p (.tup (cs.map V.int)) ∈ L) (hok : Cok ns cs)
  (k : ∀ v ds L1 H', L.Sublist L1 → TupOf L1 v ds → Cok ns ds → ds.sum ≠ cs.sum → Z.Fx H' L1 → Q v H') : sp__law_other_length K [.ref l, .ref t, .ref p] H Q E :=
  ⟨_, _, _, rfl, L, l, hc, t, p, ns, lap, r, cs, rfl, rfl, rfl, F, mh, st, hB, mp, hok, k⟩
theorem sc__law_spoilt : FnScope ["_law_hand_here", "_law_stock_here", "_law_rows_here", "_law_courses", "_law_turn", "_law_at", "_law_due", "_law_k", "_law_course", "_law_handed", "_law_told_here"] ["_law_hand_here", "_law_stock_here", "_law_rows_here"] (defScope s__law_spoilt) := ⟨rfl, rfl, rfl, by decide +kernel, rfl, by decide +kernel, by decide +kernel⟩
/-- an item of the spoilt list: a course, or what is none in a list of its own -/
inductive Itm (L : List Z.En) (ns : List Int) (v : V) : Option (List V) × Bool → Prop where
  | good {cs : List Int} (t : TupOf L v cs) (h : Cok ns cs) : Itm L ns v (intsO cs, false)
  | bad {b : Addr} {u : V} {o : Option (List V)} {w : Int × Str} (e : v = .ref b) (m : Z.En.ob b (.lst [u]) ∈ L) (c : CourseAt L u o) (h : courseW ns o = some w) : Itm L ns v (o, true)
theorem Itm.le {L L2 : List Z.En} {ns : List Int} {v : V} {x : Option (List V) × Bool} (h : Itm L ns v x) (s : L.Sublist L2) : Itm L2 ns v x := by
  cases h with
  | good t h => exact .good (t.le s) h
  | bad e m c h => exact .bad e (s.subset m) (c.mono fun _ h => s.subset h) h
/-- what is due so far -/
def DueIs (ns : List Int) (os : List (Option (List V))) (L : List Z.En) (v : V) (i : Nat) : Prop :=
  (v = .non ∧ ∀ j < i, flawAt ns os j = none) ∨ ∃ q k w, v = .ref q ∧ Z.En.ob q (.tup [.int ((k : Nat) : Int), .str w]) ∈ L ∧ k < i ∧ flawAt ns os k = some w ∧ ∀ j < k, flawAt ns os j = none
theorem DueIs.le {ns : List Int} {os : List (Option (List V))} {L L2 : List Z.En} {v : V} {i : Nat} (h : DueIs ns os L v i) (s : L.Sublist L2) : DueIs ns os L2 v i := by
  rcases h with h | ⟨q, k, w, e, m, r⟩
  · exact .inl h
  · exact .inr ⟨q, k, w, e, s.subset m, r⟩
def sp__law_spoilt (K : PySem.W.Frag) : Sp := Z.Sp3 fun a b c H Q E => ∃ (L : List Z.En) (l hc t p : Addr) (ns : List Int) (lap r s : Int) (vs : List V) (rows : List (List Int)), a = .ref l ∧ b = .ref t ∧ c = .ref p ∧ Z.Fx H L ∧ Z.En.hand l hc ∈ L ∧ St3 L t ns lap r ∧ Bricks 8 ns ∧ goodB (some (ns.map V.int)) = true ∧ (1 ≤ lap ∧ lap ≤ 4) ∧ (1 ≤ r ∧ r ≤ 2) ∧ Z.En.ob p (.lst vs) ∈ L ∧ Z.Al2 (TupOf L) vs rows ∧
  1 ≤ rows.length ∧ rows.length ≤ 60 ∧ (∀ c ∈ rows, Cok ns c ∧ c.sum = s) ∧ ∀ H', Z.Fx H' L → Q (.bl true) H'
theorem fn__law_spoilt (T : Txt K mg c_BadCourse c_BadStock c_BadWall c_Clash c_Stock c_Wall) {f : Addr} {fd : FuncData} (F : Fun K "_law_spoilt" "_law_spoilt" s__law_spoilt f fd) : FnOk P w K mg base CX0 10 f fd ["_law_hand_here", "_law_stock_here", "_law_rows_here"] (sp__law_spoilt K) := by
  have O__law_as_sequence := ok__law_as_sequence (P := P) (w := w) (base := base) T
  have O__law_bad_course := ok__law_bad_course (P := P) (w := w) (base := base) T
  have O__law_draw := ok__law_draw (P := P) (w := w) (base := base) T
  have O__law_other_length := ok__law_other_length (P := P) (w := w) (base := base) T
  have O__law_refused := ok__law_refused (P := P) (w := w) (base := base) T
  have O__law_told := ok__law_told (P := P) (w := w) (base := base) T
  refine F.ok sc__law_spoilt (fun vs H Q E h => ?_) (fun cdv A outer s H vs Q E hr h => ?_)
  · obtain ⟨a, b, c, rfl, _⟩ := h; rfl
  · obtain ⟨a, b, c, rfl, h⟩ := h
    refine ⟨_, (pss_cons (ps_set (i := 3) sc__law_spoilt.nd rfl (by first | exact Or.inl rfl | exact Or.inr rfl) (pe_callTy Z.zList (by rfl) T.b_list (by decide +kernel) (pa_cons (pv 2) pa_nil)))
      (pss_cons (ps_for PassesOwn.never (by rfl) (pi_range1 (by rfl) T.b_range (pa_cons (pe_op Z.zAdd pe_int (Z.pe_callO O__law_draw (by rfl) (hr.mono (by decide)) pass0 (pa_cons (pv 0) (pa_cons pe_int pa_nil)))) pa_nil)) (pg_name (i := 4) sc__law_spoilt.nd rfl (by first | exact Or.inl rfl | exact Or.inr rfl))
        (pss_cons (ps_set (i := 5) sc__law_spoilt.nd rfl (by first | exact Or.inl rfl | exact Or.inr rfl) (Z.pe_callO O__law_draw (by rfl) (hr.mono (by decide)) pass0 (pa_cons (pv 0) (pa_cons (pe_callB Z.zLen (by rfl) T.b_len (by decide +kernel) (pa_cons (pv 2) pa_nil)) pa_nil))))
        (pss_one (ps_if (pt_cmpR (Z.zEq (Z.hu0 hr)) (Z.pe_callO O__law_draw (by rfl) (hr.mono (by decide)) pass0 (pa_cons (pv 0) (pa_cons pe_int pa_nil))) pe_int (nomark _))
          (pss_one (ps_asg (pe_lst (pa_cons (Z.pe_callO O__law_bad_course (by rfl) (hr.mono (by decide)) pass0 (pa_cons (pv 0) (pa_cons (pv 1) (pa_cons (pe_ix ix_seq (pv 2) (pv 5) (fun _ _ => rfl)) pa_nil)))) pa_nil)) (pg_sub (pv 3) (pv 5) set_list)))
          (pss_one (ps_asg (Z.pe_callO O__law_other_length (by rfl) (hr.mono (by decide)) pass0 (pa_cons (pv 0) (pa_cons (pv 1) (pa_cons (pe_ix ix_seq (pv 2) (pv 5) (fun _ _ => rfl)) pa_nil)))) (pg_sub (pv 3) (pv 5) set_list)))))))
      (pss_cons (ps_set (i := 6) sc__law_spoilt.nd rfl (by first | exact Or.inl rfl | exact Or.inr rfl) pe_non)
      (pss_cons (ps_for PassesOwn.never (by rfl) (Z.pi_enumS (by rfl) T.b_enumerate (pa_cons (pv 3) pa_nil)) (pg_tup (by rfl) (pgs_cons (pg_name (i := 7) sc__law_spoilt.nd rfl (by first | exact Or.inl rfl | exact Or.inr rfl)) (pgs_cons (pg_name (i := 8) sc__law_spoilt.nd rfl (by first | exact Or.inl rfl | exact Or.inr rfl)) pgs_nil)))
        (pss_one (ps_if (PW.pt (pw_and (pt_cmpR Z.zIs (pv 6) pe_non (nomark _)) (pw_and1 (Z.pt_truN (pe_callB Z.zIsi (by rfl) T.b_isinstance (by decide +kernel) (pa_cons (pv 8) (pa_cons (pe_bltn (by rfl) T.b_list (by decide +kernel) (show RelV (.ty "list") _ from rfl)) pa_nil)))))))
          (pss_one (ps_set (i := 6) sc__law_spoilt.nd rfl (by first | exact Or.inl rfl | exact Or.inr rfl) (pe_tup (pa_cons (pv 7) (pa_cons pe_str pa_nil)))))
          (pss_one (ps_if (PW.pt (pw_and (pt_cmpR Z.zIs (pv 6) pe_non (nomark _)) (pw_and (pt_cmpR Z.zGt (pv 7) pe_int (nomark _)) (pw_and1 (pt_cmpR (Z.zNe (Z.hu0 hr)) (pe_callB (Z.cr_sumS rfl) (by rfl) T.b_sum (by decide +kernel) (pa_cons (pv 8) pa_nil)) (pe_callB (Z.cr_sumS rfl) (by rfl) T.b_sum (by decide +kernel) (pa_cons (pe_ix ix_seq (pv 3) pe_int (fun _ _ => rfl)) pa_nil)) (nomark _))))))
            (pss_one (ps_set (i := 6) sc__law_spoilt.nd rfl (by first | exact Or.inl rfl | exact Or.inr rfl) (pe_tup (pa_cons (pv 7) (pa_cons pe_str pa_nil)))))
            pss_nil)))))
      (pss_cons (by exact (ps_setLc (i := 9) (own := [("_law_course", 8)]) (g := (gName 8)) (by rfl) sc__law_spoilt.nd rfl rfl (sw_true rfl rfl rfl (by decide +kernel)) (Z.pi_seq (pv 3)) (blkOk_by (own := [("_law_course", 8)]) (N := ["_law_hand_here", "_law_stock_here", "_law_rows_here", "_law_courses", "_law_turn", "_law_at", "_law_due", "_law_k", "_law_course", "_law_handed", "_law_told_here"]) (sc := defScope s__law_spoilt) (by decide +kernel)) (fun _ _ _ _ _ => (by exact (pg_name (i := 8) sc__law_spoilt.nd rfl (by first | exact Or.inl rfl | exact Or.inr rfl)))) (fun _ _ _ _ _ => (by exact pts_nil)) (fun _ _ _ _ _ => (by exact (pe_ifExp (show PT _ _ (Z.rTru K _) from Z.pt_truN (pe_callB (show CallR _ (Value.builtin "isinstance") (Z.rOrC (rIsi K) (rIsiT K)) from Z.zIsi) (by rfl) T.b_isinstance (by decide +kernel) (pa_cons (pv 8) (pa_cons (pe_bltn (by rfl) T.b_list (by decide +kernel) (show RelV (.ty "list") _ from rfl)) pa_nil)))) (pe_ix (show IxR _ (rIx K) from ix_seq) (pv 8) pe_int (fun _ _ => rfl)) (pv 8))))))
      (pss_cons (ps_set (i := 10) sc__law_spoilt.nd rfl (by first | exact Or.inl rfl | exact Or.inr rfl) (Z.pe_callO O__law_told (by rfl) (hr.mono (by decide)) pass0 (pa_cons (pv 1) (pa_cons (Z.pe_callO O__law_as_sequence (by rfl) (hr.mono (by decide)) pass0 (pa_cons (pv 0) (pa_cons (pv 9) pa_nil))) pa_nil))))
      (pss_cons (ps_if (pt_cmpR Z.zIs (pv 6) pe_non (nomark _))
        (pss_one (ps_ret (pe_cmpR Z.zIs (pv 10) pe_non (nomark _))))
        pss_nil)
      (pss_one (ps_ret (Z.pe_callO O__law_refused (by rfl) (hr.mono (by decide)) pass0 (pa_cons (pv 10) (pa_cons (pe_ix ix_seq (pv 6) pe_int (fun _ _ => rfl)) (pa_cons (pe_ix ix_seq (pv 6) pe_int (fun _ _ => rfl)) pa_nil))))))))))))), ?_⟩
    try dsimp only [cxOf, Cx.nox, Cx.wish]
    refine Z.at_start (σ' := [some a, some b, some c, none, none, none, none, none, none, none, none]) rfl ?_
    obtain ⟨L, l, hc, t, p, ns, lap, r, s, vs, rows, rfl, rfl, rfl, F, mh, st, hB, hg, hlap, hreach, mp, al, hl1, hl2, hrows, k⟩ := h
    have hvl := al.len
    walk_at "y"
    rename_i cp H1 F1
    refine Z.wMidS (fun σ' H' => ∃ v4 v5 L' ws xs, σ' = [some (.ref l), some (.ref t), some (.ref p), some (.ref cp), v4, v5, none, none, none, none, none] ∧ L.Sublist L' ∧ Z.Fx H' (.ob cp (.lst ws) :: L') ∧ Z.Al2 (Itm L' ns) ws xs ∧ xs.length = rows.length) (fun N hk => ?_) ?_
    · walk_at "z"
      rename_i u1 H2 F2 u10 u11
      refine Z.wForW walk_range (fun i σ H' => ∃ v4 v5 L' ws xs, σ = [some (.ref l), some (.ref t), some (.ref p), some (.ref cp), v4, v5, none, none, none, none, none] ∧ L.Sublist L' ∧ Z.Fx H' (.ob cp (.lst ws) :: L') ∧ Z.Al2 (Itm L' ns) ws xs ∧ xs.length = rows.length) ?_ (fun _ _ _ _ _ => trivial) ?_ ?_
      · refine ⟨_, _, L, vs, rows.map fun cs => (intsO cs, false), rfl, .refl _, F2, ⟨by rw [List.length_map]; exact hvl, fun i v x e e' => ?_⟩, by rw [List.length_map]⟩
        rw [List.getElem?_map] at e'
        obtain ⟨cs, ec, tv⟩ := al.getL e
        rw [ec] at e'
        cases e'
        exact .good tv (hrows cs (List.mem_of_getElem? ec)).1
      · rintro i u σ H3 H4 hi ⟨v4, v5, L', ws, xs, rfl, s3, F3, alx, hxl⟩ ⟨rfl, rfl⟩
        have mp3 := s3.subset mp
        have mh3 := s3.subset mh
        have st3 := st.le s3
        have hwl := alx.len
        walk_at "z"
        rename_i at0 H5 F5 a0 a1 u2 H6 F6 u20 u21
        obtain ⟨va, eva⟩ : ∃ va, vs[at0.toNat]? = some va := ⟨_, List.getElem?_eq_getElem (by omega)⟩
        obtain ⟨cs, ec, ⟨ra, rfl, ma⟩⟩ := al.getL eva
        have eat := atI_of a0 eva
        have hcs := (hrows cs (List.mem_of_getElem? ec)).1
        have ma3 := s3.subset ma
        refine Z.wIfD (fun _ => ?_) (fun _ => ?_)
        · walk_at "z"
          refine use__law_bad_course F6 (.tail _ mh3) (st3.le (.cons _ (.refl _))) hB (.tail _ ma3) hcs fun v o w L1 H7 s7 cn ew F7 => ?_
          obtain ⟨L2, pm, s8⟩ := Z.sub_front s7
          have c2 := cn.drop pm (by rw [List.flatMap_cons]; exact List.mem_append_left _ List.mem_cons_self)
          have F8 := F7.perm pm
          clear F7 F6 F5
          walk_at "z"
          rename_i nb H8 F9
          have F10 := F9.perm (.swap _ _ _)
          refine Z.wSetL (i := at0) (n := at0.toNat) F10 List.mem_cons_self (Z.ixN_of a0 (by omega)) .head fun H9 F11 => ?_
          exact ⟨_, _, .ob nb (.lst [v]) :: L2, ws.set at0.toNat (.ref nb), xs.set at0.toNat (o, true), rfl, (s3.trans s8).cons _, F11, (alx.mono fun _ _ h => h.le (s8.cons _)).set (.bad rfl List.mem_cons_self (c2.mono fun _ h => .tail _ h) ew) _, by rw [List.length_set]; exact hxl⟩
        · walk_at "z"
          refine use__law_other_length F6 (.tail _ mh3) (st3.le (.cons _ (.refl _))) hB (.tail _ ma3) hcs fun v ds L1 H7 s7 tv dok dsum F7 => ?_
          obtain ⟨L2, pm, s8⟩ := Z.sub_front s7
          have F8 := F7.perm pm
          have tv2 : TupOf L2 v ds := let ⟨a, e, m⟩ := tv; ⟨a, e, Z.mem_skip (pm.mem_iff.mp m) nofun⟩
          clear F7 F6 F5
          walk_at "z"
          rename_i H9 F11
          exact ⟨_, _, L2, ws.set at0.toNat v, xs.set at0.toNat (intsO ds, false), rfl, s3.trans s8, F11, (alx.mono fun _ _ h => h.le s8).set (.good tv2 dok) _, by rw [List.length_set]; exact hxl⟩
      · rintro σ H3 ⟨v4, v5, L', ws, xs, rfl, s3, F3, alx, hxl⟩
        exact hk _ _ ⟨_, _, L', ws, xs, rfl, s3, F3, alx, hxl⟩
    clear F1
    rintro _ H2 ⟨v4, v5, L2, ws, xs, rfl, s2, F2, alx, hxl⟩
    have hwl := alx.len
    obtain ⟨os, eos⟩ : ∃ os, os = xs.map (·.1) := ⟨_, rfl⟩
    have hol : os.length = rows.length := by rw [eos, List.length_map]; exact hxl
    have oat : ∀ (i : Nat) x, xs[i]? = some x → os.getD i none = x.1 := fun i x e => by rw [eos, List.getD_eq_getElem?_getD, List.getElem?_map, e]; rfl
    have osm : ∀ (i : Nat) x, xs[i]? = some x → os[i]? = some x.1 := fun i x e => by rw [eos, List.getElem?_map, e]; rfl
    obtain ⟨w0, ew0⟩ : ∃ w0, ws[0]? = some w0 := ⟨_, List.getElem?_eq_getElem (by omega)⟩
    obtain ⟨x0, ex0, it0⟩ := alx.getL ew0
    walk_at "y"
    refine Z.wMidS (fun σ' H' => ∃ v6 v7 v8 L3, σ' = [some (.ref l), some (.ref t), some (.ref p), some (.ref cp), v4, v5, some v6, v7, v8, none, none] ∧ L2.Sublist L3 ∧ Z.Fx H' (.ob cp (.lst ws) :: L3) ∧ DueIs ns os L3 v6 os.length) (fun N hk => ?_) ?_
    · walk_at "z"
      refine Z.wForE (.lst List.mem_cons_self) F2 (fun i σ H' => ∃ v6 v7 v8 L3, σ = [some (.ref l), some (.ref t), some (.ref p), some (.ref cp), v4, v5, some v6, v7, v8, none, none] ∧ L2.Sublist L3 ∧ Z.Fx H' (.ob cp (.lst ws) :: L3) ∧ DueIs ns os L3 v6 i) ?_ ?_ ?_ ?_
      · exact ⟨_, _, _, L2, rfl, .refl _, F2, .inl ⟨rfl, fun j hj => absurd hj (Nat.not_lt_zero _)⟩⟩
      · rintro i σ H' ⟨v6, v7, v8, L3, rfl, s3, F', _⟩
        exact ⟨_, F', fun p o h => (s3.cons_cons _).subset h⟩
      · rintro i x T1 σ H3 hx ⟨v6, v7, v8, L3, rfl, s3, F3, hdue⟩ hT
        have F4 := (F3.new (o := .tup [.int (i : Nat), x]) hT).perm (.swap _ _ _)
        have hil := (List.getElem?_eq_some_iff.mp hx).1
        generalize upd H3 T1 (.tup [.int (i : Nat), x]) = H4 at F4 ⊢
        obtain ⟨xi, exi, iti⟩ := alx.getL hx
        have oi := oat i xi exi
        walk_at "z"
        rcases hdue with ⟨rfl, hnone⟩ | ⟨q, kk, w, rfl, mq, hk1, hk2, hk3⟩
        · walk_at "z"
          have step : flawAt ns os i = none → ∀ j < i + 1, flawAt ns os j = none := fun h j hj => by
            by_cases e : j = i
            · subst e; exact h
            · exact hnone j (by omega)
          cases iti with
          | @bad b u o w e m c h =>
            subst e
            refine Z.wIsiList (.lst (F4.lst (.tail _ (.tail _ (s3.subset m))))) ?_
            walk_at "z"
            rename_i q H5 F5
            refine ⟨_, _, _, .ob q (.tup [.int (i : Nat), .str "course"]) :: L3, rfl, s3.cons _, (F5.sub (.cons_cons _ (.cons_cons _ (.cons _ (.refl _))))).perm (.swap _ _ _), .inr ⟨q, i, "course", rfl, List.mem_cons_self, by omega, ?_, hnone⟩⟩
            unfold flawAt
            rw [oi]
            exact flawW_bad h _
          | @good cs tv hok =>
            obtain ⟨ra, rfl, ma⟩ := tv
            have ma4 := s3.subset ma
            refine Z.wIsiList (.tup (F4.tup (.tail _ (.tail _ ma4)))) ?_
            have fi : flawAt ns os i = flawW ns (some (cs.map V.int)) (if i = 0 then none else some (sumO (os.getD 0 none))) := by
              unfold flawAt
              rw [oi]
              rfl
            rw [flawW_good hok] at fi
            walk_at "z"
            refine Z.wIfD (fun hpos => ?_) (fun hpos => ?_)
            · have hi0 : i ≠ 0 := by omega
              rw [if_neg hi0] at fi
              have f0 := hnone 0 (by omega)
              have ox0 := oat 0 x0 ex0
              cases it0 with
              | @bad b u o w e m c h =>
                exfalso
                unfold flawAt at f0
                rw [ox0, flawW_bad h] at f0
                cases f0
              | @good cs0 tv0 hok0 =>
                obtain ⟨r0, rfl, m0⟩ := tv0
                have m04 := s3.subset m0
                have e0 : atI ws (0 : Int) = some (.ref r0) := atI_nat (j := 0) ew0
                have es : sumO (os.getD 0 none) = cs0.sum := by rw [ox0]; show ((cs0.map V.int).map intV).sum = _; rw [intV_map]
                rw [es] at fi
                dsimp only at fi
                walk_at "z"
                refine Z.wIfND (fun hne => ?_) (fun heq => ?_)
                · rw [if_neg hne] at fi
                  walk_at "z"
                  rename_i q H5 F5
                  exact ⟨_, _, _, .ob q (.tup [.int (i : Nat), .str "length"]) :: L3, rfl, s3.cons _, (F5.sub (.cons_cons _ (.cons_cons _ (.cons _ (.refl _))))).perm (.swap _ _ _), .inr ⟨q, i, "length", rfl, List.mem_cons_self, by omega, fi, hnone⟩⟩
                · rw [if_pos heq] at fi
                  walk_at "z"
                  exact ⟨_, _, _, L3, rfl, s3, F4.sub (.cons_cons _ (.cons _ (.refl _))), .inl ⟨rfl, step fi⟩⟩
            · have hi0 : i
                  = 0 := by omega
              rw [if_pos hi0] at fi
              walk_at "z"
              exact ⟨_, _, _, L3, rfl, s3, F4.sub (.cons_cons _ (.cons _ (.refl _))), .inl ⟨rfl, step fi⟩⟩
        · walk_at "z"
          exact ⟨_, _, _, L3, rfl, s3, F4.sub (.cons_cons _ (.cons _ (.refl _))), .inr ⟨q, kk, w, rfl, mq, by omega, hk2, hk3⟩⟩
      · rintro σ H3 ⟨v6, v7, v8, L3, rfl, s3, F3, hdue⟩
        rw [show ws.length = os.length by omega] at hdue
        exact hk _ _ ⟨v6, v7, v8, L3, rfl, s3, F3, hdue⟩
    clear F2
    rintro _ H3 ⟨v6, v7, v8, L3, rfl, s3, F3, hdue⟩
    walk_at "z"
    refine Z.wLcL List.mem_cons_self F3 (fun i acc L4 => L4 = .ob cp (.lst ws) :: L3 ∧ Z.Al2 (CourseAt L3) acc (os.take i)) ⟨rfl, .nil⟩ (fun i acc L4 r => r.1 ▸ List.mem_cons_self) ?_ ?_
    · rintro i x D H4 acc L4 hx ⟨rfl, ala⟩ F4
      have hil := (List.getElem?_eq_some_iff.mp hx).1
      obtain ⟨xi, exi, iti⟩ := alx.getL hx
      have et : os.take (i + 1) = os.take i ++ [xi.1] := by rw [List.take_add_one, osm i xi exi]; rfl
      have hal := ala.len
      rw [List.length_take] at hal
      walk_at "zw"
      walk_at "z"
      refine ⟨rfl, ?_⟩
      walk_at "z"
      cases iti with
      | @bad b u o w e m c h =>
        subst e
        have m4 := s3.subset m
        refine Z.wIsiList (.lst (F4.lst (.tail _ (.tail _ m4)))) ?_
        walk_at "z"
        refine Z.lcPut F4 (by have := Z.line_big; omega) ⟨rfl, ?_⟩
        rw [et]
        exact ala.snoc (c.mono fun _ h => s3.subset h)
      | @good cs tv hok =>
        obtain ⟨ra, rfl, ma⟩ := tv
        have ma4 := s3.subset ma
        refine Z.wIsiList (.tup (F4.tup (.tail _ (.tail _ ma4)))) ?_
        walk_at "z"
        refine Z.lcPut F4 (by have := Z.line_big; omega) ⟨rfl, ?_⟩
        rw [et]
        exact ala.snoc (tup_course ⟨ra, rfl, ma4⟩)
    rintro D acc L4 H4 F4 ⟨rfl, ala⟩
    rw [show ws.length = os.length by omega, List.take_length] at ala
    have s4 : L.Sublist (.ob D (.lst acc) :: .ob cp (.lst ws) :: L3) := ((s2.trans s3).cons _).cons _
    have ala4 := ala.mono fun v o (c : CourseAt L3 v o) => c.mono (L2 := .ob D (.lst acc) :: .ob cp (.lst ws) :: L3) fun _ h => .tail _ (.tail _ h)
    have hdue4 := hdue.le (L2 := .ob D (.lst acc) :: .ob cp (.lst ws) :: L3) (.cons _ (.cons _ (.refl _)))
    have mD : Z.En.ob D (.lst acc) ∈ (Z.En.ob D (.lst acc) :: .ob cp (.lst ws) :: L3) := List.mem_cons_self
    have hacc := ala.len
    generalize (Z.En.ob D (.lst acc) :: Z.En.ob cp (.lst ws) :: L3) = L5 at F4 s4 ala4 hdue4 mD
    have mh5 := s4.subset mh
    clear F3
    have inl : ∀ xs : List V, acc = xs → Z.inLen 1 60 (some xs) = true := fun ys e => by subst e; simp [Z.inLen]; omega
    walk_at "z"
    refine use__law_as_sequence F4 mh5 (.lst mD) fun v L6 H5 as6 F5 => ?_
    have s6 := as6.sub
    have sq := as6.seq
    walk_at "z"
    refine use__law_told F5 (st.le (s4.trans s6)) hg hlap hreach sq (fun ys e => by cases e; exact ala4.mono fun _ _ c => c.mono fun _ h => s6.subset h) (fun h => ?_) (fun i w _ hi hall hf q L7 H6 s7 mq F6 => ?_) (fun rws _ eor hw H6 F6 => ?_)
    · exact absurd ((inl acc rfl).symm.trans h) nofun
    · rcases hdue4 with ⟨_, hnone⟩ | ⟨q', kk, w', e6, mq', hk1, hk2, hk3⟩
      · exact absurd (hnone i hi) (by rw [hf]; nofun)
      · subst e6
        have mq7 := (s6.trans s7).subset mq'
        have hik : i = kk := by
          rcases Nat.lt_trichotomy i kk with h | h | h
          · exact absurd (hk3 i h) (by rw [hf]; nofun)
          · exact h
          · exact absurd (hall kk h) (by rw [hk2]; nofun)
        subst hik
        have hww : w = w' := Option.some.inj (hf.symm.trans hk2)
        subst hww
        walk_at "z"
        refine use__law_refused F6 mq ?_
        exact k _ (F6.sub ((s4.trans s6).trans s7))
    · rcases hdue4 with ⟨e6, hnone⟩ | ⟨q', kk, w', e6, mq', hk1, hk2, hk3⟩
      · subst e6
        walk_at "z"
        rw [decide_eq_true rfl]
        exact k _ (F6.sub (s4.trans s6))
      · exfalso
        subst eor
        rw [flaw_none hw kk (by rw [List.length_map] at hk1; exact hk1)] at hk2
        cases hk2
theorem ok__law_spoilt (T : Txt K mg c_BadCourse c_BadStock c_BadWall c_Clash c_Stock c_Wall) : Z.Ok CX0 P w K mg base "_law_spoilt" 10 ["_law_hand_here", "_law_stock_here", "_law_rows_here"] [] (sp__law_spoilt K) := by
  obtain ⟨f, fd, F, g⟩ := T.d__law_spoilt
  exact Z.mkOk F g (F.binds (ps := ["_law_hand_here", "_law_stock_here", "_law_rows_here"]) fun _ _ _ _ _ _ us hl => match us, hl with | [_, _, _], _ => rfl) (fn__law_spoilt T F)
theorem use__law_spoilt {H : Hp} {Q : VK} {E : XK} {L : List Z.En} {l hc t p : Addr} {ns : List Int} {lap r s : Int} {vs : List V} {rows : List (List Int)} (F : Z.Fx H L) (mh : Z.En.hand l hc ∈ L) (st : St3 L t ns lap r) (hB : Bricks 8 ns) (hg : goodB (some (ns.map V.int)) = true) (hlap : 1 ≤ lap ∧ lap ≤ 4) (hr : 1 ≤ r ∧ r ≤ 2) (mp : Z.En.ob p (.lst vs) ∈ L) (al : Z.Al2 (TupOf L) vs rows)
  (hl1 : 1 ≤ rows.length) (hl2 : rows.length ≤ 60) (hrows : ∀ c ∈ rows, Cok ns c ∧ c.sum = s) (k : ∀ H', Z.Fx H' L → Q (.bl true) H') : sp__law_spoilt K [.ref l, .ref t, .ref p] H Q E :=
  ⟨_, _, _, rfl, L, l, hc, t, p, ns, lap, r, s, vs, rows, rfl, rfl, rfl, F, mh, st, hB, hg, hlap, hr, mp, al, hl1, hl2, hrows, k⟩
theorem sc__law_some_rows : FnScope ["_law_hand_here", "_law_stock_here", "_law_way", "_law_brick"] ["_law_hand_here", "_law_stock_here"] (defScope s__law_some_rows) := ⟨rfl, rfl, rfl, by decide +kernel, rfl, by decide +kernel, by decide +kernel⟩
def sp__law_some_rows (K : PySem.W.Frag) : Sp := Z.Sp2 fun a b H Q E => ∃ (L : List Z.En) (l hc t : Addr) (ns : List Int) (lap r : Int), a = .ref l ∧ b = .ref t ∧ Z.Fx H L ∧ Z.En.hand l hc ∈ L ∧ St3 L t ns lap r ∧ Bricks 8 ns ∧
  ∀ q vs rows s L1 H', L.Sublist L1 → Z.En.ob q (.lst vs) ∈ L1 → Z.Al2 (TupOf L1) vs rows → 1 ≤ rows.length → rows.length ≤ 60 → (∀ c ∈ rows, Cok ns c ∧ c.sum = s) → Z.Fx H' L1 → Q (.ref q) H'
theorem fn__law_some_rows (T : Txt K mg c_BadCourse c_BadStock c_BadWall c_Clash c_Stock c_Wall) {f : Addr} {fd : FuncData} (F : Fun K "_law_some_rows" "_law_some_rows" s__law_some_rows f fd) : FnOk P w K mg base CX0 6 f fd ["_law_hand_here", "_law_stock_here"] (sp__law_some_rows K) := by
  have O__law_draw := ok__law_draw (P := P) (w := w) (base := base) T
  have O__law_rows := ok__law_rows (P := P) (w := w) (base := base) T
  refine F.ok sc__law_some_rows (fun vs H Q E h => ?_) (fun cdv A outer s H vs Q E hr h => ?_)
  · obtain ⟨a, b, rfl, _⟩ := h; rfl
  · obtain ⟨a, b, rfl, h⟩ := h
    refine ⟨_, (pss_cons (ps_set (i := 2) sc__law_some_rows.nd rfl (by first | exact Or.inl rfl | exact Or.inr rfl) (Z.pe_callO O__law_draw (by rfl) (hr.mono (by decide)) pass0 (pa_cons (pv 0) (pa_cons pe_int pa_nil))))
      (pss_cons (ps_if (pt_cmpR (Z.zEq (Z.hu0 hr)) (pv 2) pe_int (nomark _))
        (pss_one (ps_ret (Z.pe_callO O__law_rows (by rfl) (hr.mono (by decide)) pass0 (pa_cons (pv 0) (pa_cons (pv 1) (pa_cons (pe_op Z.zAdd pe_int (Z.pe_callO O__law_draw (by rfl) (hr.mono (by decide)) pass0 (pa_cons (pv 0) (pa_cons pe_int pa_nil)))) (pa_cons (pe_op Z.zAdd pe_int (Z.pe_callO O__law_draw (by rfl) (hr.mono (by decide)) pass0 (pa_cons (pv 0) (pa_cons pe_int pa_nil)))) pa_nil)))))))
        pss_nil)
      (pss_cons (ps_if (pt_cmpR (Z.zEq (Z.hu0 hr)) (pv 2) pe_int (nomark _))
        (pss_cons (ps_set (i := 3) sc__law_some_rows.nd rfl (by first | exact Or.inl rfl | exact Or.inr rfl) (pe_ix ix_seq (pe_ix ix_seq (pv 1) pe_int (fun _ _ => rfl)) (Z.pe_callO O__law_draw (by rfl) (hr.mono (by decide)) pass0 (pa_cons (pv 0) (pa_cons (pe_callB Z.zLen (by rfl) T.b_len (by decide +kernel) (pa_cons (pe_ix ix_seq (pv 1) pe_int (fun _ _ => rfl)) pa_nil)) pa_nil))) (fun _ _ => rfl)))
        (pss_one (ps_ret (pe_op Z.zMul (pe_lst (pa_cons (pe_op Z.op_rep1 (pe_tup (pa_cons (pv 3) pa_nil)) (pe_op op_sub (pe_op Z.zDiv pe_int (pv 3)) (Z.pe_callO O__law_draw (by rfl) (hr.mono (by decide)) pass0 (pa_cons (pv 0) (pa_cons pe_int pa_nil))))) pa_nil)) (pe_op Z.zAdd pe_int (Z.pe_callO O__law_draw (by rfl) (hr.mono (by decide)) pass0 (pa_cons (pv 0) (pa_cons pe_int pa_nil))))))))
        pss_nil)
      (pss_one (ps_ret (Z.pe_callO O__law_rows (by rfl) (hr.mono (by decide)) pass0 (pa_cons (pv 0) (pa_cons (pv 1) (pa_cons (pe_op Z.zAdd pe_int (Z.pe_callO O__law_draw (by rfl) (hr.mono (by decide)) pass0 (pa_cons (pv 0) (pa_cons pe_int pa_nil)))) (pa_cons (pe_op Z.zAdd pe_int (Z.pe_callO O__law_draw (by rfl) (hr.mono (by decide)) pass0 (pa_cons (pv 0) (pa_cons pe_int pa_nil)))) pa_nil)))))))))), ?_⟩
    try dsimp only [cxOf, Cx.nox, Cx.wish]
    refine Z.at_start (σ' := [some a, some b, none, none]) rfl ?_
    obtain ⟨L, l, hc, t, ns, lap, r, rfl, rfl, F, mh, st, hB, k⟩ := h
    obtain ⟨pb, mt, mb⟩ := id st
    obtain ⟨_, b1, b4, b8⟩ := id hB
    walk_at "z"
    rename_i way H1 F1 w0 w1
    refine Z.wIfD (fun _ => ?_) (fun _ => ?_)
    · walk_at "z"
      rename_i u1 H2 F2 u10 u11 u2 H3 F3 u20 u21
      refine use__law_rows F3 mh st hB (by omega) (by omega) (by omega) (by omega) fun q vs rows s L1 H' sb mq al hl hr F' => ?_
      walk_at "z"
      exact k q vs rows s L1 _ sb mq al (by omega) (by omega) hr F'
    walk_at "z"
    refine Z.wIfD (fun _ => ?_) (fun _ => ?_)
    · walk_at "z"
      rename_i j H2 F2 j0 j1 q1 H3 F3
      have hm := List.mem_of_getElem? (Z.get_getD (ns := ns) (k := j.toNat) (by omega))
      have hb := b8 _ hm
      generalize ns.getD j.toNat 0 = br at *
      refine Z.wI ⟨by omega, Z.log_small (by omega) (by omega)⟩ ?_
      have d1 := Int.emod_add_mul_ediv 400 br
      have d2 := Int.emod_nonneg 400 (show br ≠ 0 by omega)
      have d4 : 400 / br ≤ 400 := Int.ediv_le_self _ (by omega)
      have d5 : 50 ≤ 400 / br := (Int.le_ediv_iff_mul_le (by omega)).mpr (by omega)
      generalize 400 / br = dv at *
      walk_at "z"
      rename_i u H4 F4 u0 u1
      refine Z.wRep1 F4 List.mem_cons_self (by omega) (by omega) (by simp) (by simp) fun t1 H5 L1 m1 s1 F5 => ?_
      rw [Z.flat_one] at m1
      walk_at "z"
      have mh5 := s1.subset (.tail _ mh)
      walk_at "z"
      rename_i q2 H6 F6 u2 H7 F7 u20 u21 q3 H8 F8
      rw [Z.flat_one] at F8
      have e1 : ∀ c ∈ List.replicate (1 + u2).toNat (List.replicate (dv - u).toNat br), c = List.replicate (dv - u).toNat br := fun c hc => List.eq_of_mem_replicate hc
      have es : (List.replicate (dv - u).toNat br).sum = (dv - u) * br := by rw [Z.sum_rep, Int.toNat_of_nonneg (by omega)]
      have ele : (dv - u) * br ≤ 400 := by
        have : (dv - u) * br ≤ dv * br := Int.mul_le_mul_of_nonneg_right (by omega) (by omega)
        rw [Int.mul_comm] at d1
        omega
      have hok : Cok ns (List.replicate (dv - u).toNat br) := ⟨fun c hc => by rw [List.eq_of_mem_replicate hc]; exact hm, by rw [List.length_replicate]; omega, by rw [List.length_replicate]; omega, by omega⟩
      refine k q3 _ (List.replicate (1 + u2).toNat (List.replicate (dv - u).toNat br)) ((dv - u) * br) _ H8 ((((List.Sublist.cons _ (.refl _)).trans s1).cons _).cons _) List.mem_cons_self (.rep ⟨t1, rfl, ?_⟩ _) (by rw [List.length_replicate]; omega) (by rw [List.length_replicate]; omega) (fun c hc => by rw [e1 c hc]; exact ⟨hok, es⟩) F8
      rw [List.map_replicate]
      exact .tail _ (.tail _ m1)
    · walk_at "z"
      rename_i u1 H2 F2 u10 u11 u2 H3 F3 u20 u21
      refine use__law_rows F3 mh st hB (by omega) (by omega) (by omega) (by omega) fun q vs rows s L1 H' sb mq al hl hr F' => ?_
      walk_at "z"
      exact k q vs rows s L1 _ sb mq al (by omega) (by omega) hr F'
theorem ok__law_some_rows (T : Txt K mg c_BadCourse c_BadStock c_BadWall c_Clash c_Stock c_Wall) : Z.Ok CX0 P w K mg base "_law_some_rows" 6 ["_law_hand_here", "_law_stock_here"] [] (sp__law_some_rows K) := by
  obtain ⟨f, fd, F, g⟩ := T.d__law_some_rows
  exact Z.mkOk F g (F.binds (ps := ["_law_hand_here", "_law_stock_here"]) fun _ _ _ _ _ _ us hl => match us, hl with | [_, _], _ => rfl) (fn__law_some_rows T F)
theorem use__law_some_rows {H : Hp} {Q : VK} {E : XK} {L : List Z.En} {l hc t : Addr} {ns : List Int} {lap r : Int} (F : Z.Fx H L) (mh : Z.En.hand l hc ∈ L) (st : St3 L t ns lap r) (hB : Bricks 8 ns)
  (k : ∀ q vs rows s L1 H', L.Sublist L1 → Z.En.ob q (.lst vs) ∈ L1 → Z.Al2 (TupOf L1) vs rows → 1 ≤ rows.length → rows.length ≤ 60 → (∀ c ∈ rows, Cok ns c ∧ c.sum = s) → Z.Fx H' L1 → Q (.ref q) H') : sp__law_some_rows K [.ref l, .ref t] H Q E :=
  ⟨_, _, rfl, L, l, hc, t, ns, lap, r, rfl, rfl, F, mh, st, hB, k⟩
theorem sc__law_hand : FnScope ["_law_script", "_law_total", "_law_k", "_law_cell"] ["_law_script"] (defScope s__law_hand) := ⟨rfl, rfl, rfl, by decide +kernel, rfl, by decide +kernel, by decide +kernel⟩
def sp__law_hand (K : PySem.W.Frag) : Sp := Z.Sp1 fun a H Q E => ∃ (l : Addr) (ns : List Int), a = .ref l ∧ SqL K H l (ns.map V.int) ∧ ns.length ≤ 63 ∧ ∀ p c H', Z.Fx H' [.hand p c] → Q (.ref p) H'
theorem fn__law_hand (T : Txt K mg c_BadCourse c_BadStock c_BadWall c_Clash c_Stock c_Wall) {f : Addr} {fd : FuncData} (F : Fun K "_law_hand" "_law_hand" s__law_hand f fd) : FnOk P w K mg base CX0 1 f fd ["_law_script"] (sp__law_hand K) := by
  refine F.ok sc__law_hand (fun vs H Q E h => ?_) (fun cdv A outer s H vs Q E hr h => ?_)
  · obtain ⟨a, rfl, _⟩ := h; rfl
  · obtain ⟨a, rfl, h⟩ := h
    refine ⟨_, (pss_cons (ps_set (i := 1) sc__law_hand.nd rfl (by first | exact Or.inl rfl | exact Or.inr rfl) pe_int)
      (pss_cons (ps_for PassesOwn.never (by rfl) (Z.pi_enumS (by rfl) T.b_enumerate (pa_cons (pv 0) pa_nil)) (pg_tup (by rfl) (pgs_cons (pg_name (i := 2) sc__law_hand.nd rfl (by first | exact Or.inl rfl | exact Or.inr rfl)) (pgs_cons (pg_name (i := 3) sc__law_hand.nd rfl (by first | exact Or.inl rfl | exact Or.inr rfl)) pgs_nil)))
        (pss_one (ps_set (i := 1) sc__law_hand.nd rfl (by first | exact Or.inl rfl | exact Or.inr rfl) (pe_op Z.zMod (pe_callTy Z.zInt (by rfl) T.b_int (by decide +kernel) (pa_cons (pe_op Z.zAdd (pe_op Z.zMul (pv 1) pe_int) (pe_op Z.zMul (pe_callTy Z.zInt (by rfl) T.b_int (by decide +kernel) (pa_cons (pv 3) pa_nil)) (pe_op Z.zAdd (pv 2) pe_int))) pa_nil)) pe_int))))
      (pss_one (ps_ret (pe_lst (pa_cons (by exact (pe_lc (own := [("_law_cell", 3)]) (g := (gName 3)) (by rfl) sc__law_hand.nd (Z.pi_seq (pv 0)) (blkOk_by (own := [("_law_cell", 3)]) (N := ["_law_script", "_law_total", "_law_k", "_law_cell"]) (sc := defScope s__law_hand) (by decide +kernel)) (fun _ _ _ _ _ => (by exact (pg_name (i := 3) sc__law_hand.nd rfl (by first | exact Or.inl rfl | exact Or.inr rfl)))) (fun _ _ _ _ _ => (by exact pts_nil)) (fun _ _ _ _ _ => (by exact (pe_callB Z.zAbs (by rfl) T.b_abs (by decide +kernel) (pa_cons (pe_callTy Z.zInt (by rfl) T.b_int (by decide +kernel) (pa_cons (pv 3) pa_nil)) pa_nil)))))) (pa_cons pe_int (pa_cons pe_int (pa_cons (pv 1) pa_nil))))))))), ?_⟩
    try dsimp only [cxOf, Cx.nox, Cx.wish]
    refine Z.at_start (σ' := [some a, none, none, none]) rfl ?_
    obtain ⟨l, ns, rfl, hS, hl, k⟩ := h
    obtain ⟨L0, F, keep⟩ := Z.seq_keep hS [] Z.Fx.nil (by simp)
    walk_at "z"
    refine ⟨l, rfl, .inl ⟨_, hS, ?_⟩⟩
    refine Z.wForW (walk_enum (xs := ns.map V.int)) (fun i σ H2 => ∃ (t : Int) (v w : Option V) (L1 : List Z.En), σ = [some (.ref l), some (.int t), v, w] ∧ Z.Fx H2 (L1 ++ (L0 ++ []))) ?_ ?_ ?_ ?_
    · exact ⟨_, _, _, [], rfl, F⟩
    · rintro i σ H2 _ ⟨t, v, w, L1, rfl, F2⟩
      exact keep _ _ F2
    · rintro i x σ H2 H3 hi ⟨t, v, w, L1, rfl, F2⟩ ⟨T, u, y, rfl, hT, rfl, e1, e2⟩
      cases e1
      obtain ⟨z, rfl⟩ := Z.int_of_map e2
      rw [List.length_map] at hi
      have F3 := F2.new (o := .tup [.int (i : Nat), .int z]) hT
      walk_at "z"
      exact ⟨_, _, _, .ob T (.tup [.int (i : Nat), .int z]) :: L1, rfl, F3⟩
    · rintro σ H2 ⟨t, v, w, L1, rfl, F2⟩
      walk_at "z"
      refine Z.wGoSL (keep _ _ F2) ?_
      refine Z.wLcW (walk_list (xs := ns.map V.int)) F2 (fun i acc L' => ∃ cs : List Int, acc = cs.map V.int ∧ cs.length = i ∧ L' = L1 ++ (L0 ++ [])) ⟨[], rfl, rfl, rfl⟩ ?_ ?_ ?_
      · rintro i acc L' D H5 ⟨cs, rfl, _, rfl⟩ F5
        exact keep _ (_ :: _) F5
      · rintro i x D H5 H6 acc L' hi ⟨cs, rfl, hc, rfl⟩ F5 ⟨rfl, hx⟩
        obtain ⟨z, rfl⟩ := Z.int_of_map hx
        rw [List.length_map] at hi
        walk_at "zw"
        walk_at "z"
        refine ⟨rfl, ?_⟩
        walk_at "z"
        refine Z.lcPut F5 (by rw [List.length_map]; have := Z.line_big; omega) ⟨cs ++ [if z < 0 then -z else z], by rw [List.map_append]; rfl, by rw [List.length_append, hc]; rfl, rfl⟩
      · rintro D acc L' H5 F5 ⟨cs, rfl, hc, rfl⟩
        walk_at "z"
        rename_i p H6 F6
        refine k _ D _ ?_
        have F7 := F6.sub (L' := [Z.En.ob p (.lst [.ref D, .int 0, .int 0, .int t]), Z.En.ob D (.lst (cs.map V.int))]) (.cons_cons _ (.cons_cons _ (List.nil_sublist _)))
        refine ⟨fun e he => ?_, F7.2⟩
        cases List.mem_singleton.mp he
        exact ⟨cs, 0, 0, t, by omega, F7.get List.mem_cons_self, F7.get (List.mem_cons_of_mem _ List.mem_cons_self)⟩
theorem ok__law_hand (T : Txt K mg c_BadCourse c_BadStock c_BadWall c_Clash c_Stock c_Wall) : Z.Ok CX0 P w K mg base "_law_hand" 1 ["_law_script"] [] (sp__law_hand K) := by
  obtain ⟨f, fd, F, g⟩ := T.d__law_hand
  exact Z.mkOk F g (F.binds (ps := ["_law_script"]) fun _ _ _ _ _ _ us hl => match us, hl with | [_], _ => rfl) (fn__law_hand T F)
theorem sc_law : FnScope ["_law_script", "_law_hand_here", "_law_turn", "_law_stock_here", "_law_rows_here", "_law_again"] ["_law_script"] (defScope s_law) := ⟨rfl, rfl, rfl, by decide +kernel, rfl, by decide +kernel, by decide +kernel⟩
def sp_law (K : PySem.W.Frag) : Sp := Z.Sp1 fun a H Q E => ∃ (l : Addr) (ns : List Int), a = .ref l ∧ SqL K H l (ns.map V.int) ∧ ns.length ≤ 63 ∧ ∀ H', Q (.bl true) H'
theorem good_bricksB {top : Int} {ms : List Int} (h : Bricks top ms) (h8 : top ≤ 8) : goodB (some (ms.map V.int)) = true := by
  obtain ⟨p, a, b, c⟩ := h
  exact good_of a b (fun n hn => by have := c n hn; omega) p
theorem fn_law (T : Txt K mg c_BadCourse c_BadStock c_BadWall c_Clash c_Stock c_Wall) {f : Addr} {fd : FuncData} (F : Fun K "law" "law" s_law f fd) : FnOk P w K mg base CX0 11 f fd ["_law_script"] (sp_law K) := by
  have O__law_draw := ok__law_draw (P := P) (w := w) (base := base) T
  have O__law_good := ok__law_good (P := P) (w := w) (base := base) T
  have O__law_hand := ok__law_hand (P := P) (w := w) (base := base) T
  have O__law_many := ok__law_many (P := P) (w := w) (base := base) T
  have O__law_some_rows := ok__law_some_rows (P := P) (w := w) (base := base) T
  have O__law_spoilt := ok__law_spoilt (P := P) (w := w) (base := base) T
  have O__law_stock := ok__law_stock (P := P) (w := w) (base := base) T
  have O__law_told := ok__law_told (P := P) (w := w) (base := base) T
  refine F.ok sc_law (fun vs H Q E h => ?_) (fun cdv A outer s H vs Q E hr h => ?_)
  · obtain ⟨a, rfl, _⟩ := h; rfl
  · obtain ⟨a, rfl, h⟩ := h
    refine ⟨_, (pss_cons (ps_set (i := 1) sc_law.nd rfl (by first | exact Or.inl rfl | exact Or.inr rfl) (Z.pe_callO O__law_hand (by rfl) (hr.mono (by decide)) pass0 (pa_cons (pv 0) pa_nil)))
      (pss_cons (ps_for PassesOwn.never (by rfl) (pi_range1 (by rfl) T.b_range (pa_cons pe_int pa_nil)) (pg_name (i := 2) sc_law.nd rfl (by first | exact Or.inl rfl | exact Or.inr rfl))
        (pss_cons (ps_set (i := 3) sc_law.nd rfl (by first | exact Or.inl rfl | exact Or.inr rfl) (Z.pe_callO O__law_stock (by rfl) (hr.mono (by decide)) pass0 (pa_cons (pv 1) (pa_cons (pe_op Z.zAdd pe_int (Z.pe_callO O__law_draw (by rfl) (hr.mono (by decide)) pass0 (pa_cons (pv 1) (pa_cons pe_int pa_nil)))) pa_nil))))
        (pss_cons (ps_set (i := 4) sc_law.nd rfl (by first | exact Or.inl rfl | exact Or.inr rfl) (Z.pe_callO O__law_some_rows (by rfl) (hr.mono (by decide)) pass0 (pa_cons (pv 1) (pa_cons (pv 3) pa_nil))))
        (pss_cons (ps_if (PW.pt (pw_or (pt_not (Z.pt_truN (Z.pe_callO O__law_good (by rfl) (hr.mono (by decide)) pass0 (pa_cons (pv 1) (pa_cons (pv 3) (pa_cons (pv 4) pa_nil)))))) (pw_or1 (pt_not (Z.pt_truN (Z.pe_callO O__law_many (by rfl) (hr.mono (by decide)) pass0 (pa_cons (pv 1) (pa_cons (pv 3) (pa_cons (pe_ix ix_seq (pv 4) pe_int (fun _ _ => rfl)) pa_nil)))))))))
          (pss_one (ps_ret pe_bl))
          pss_nil)
        (pss_cons (ps_for PassesOwn.never (by rfl) (pi_range1 (by rfl) T.b_range (pa_cons pe_int pa_nil)) (pg_name (i := 5) sc_law.nd rfl (by first | exact Or.inl rfl | exact Or.inr rfl))
          (pss_one (ps_if (pt_not (Z.pt_truN (Z.pe_callO O__law_spoilt (by rfl) (hr.mono (by decide)) pass0 (pa_cons (pv 1) (pa_cons (pv 3) (pa_cons (pv 4) pa_nil))))))
            (pss_one (ps_ret pe_bl))
            pss_nil)))
        (pss_one (ps_if (pt_cmpR Z.zIsNot (Z.pe_callO O__law_told (by rfl) (hr.mono (by decide)) pass0 (pa_cons (pv 3) (pa_cons (pv 4) pa_nil))) pe_non (nomark _))
          (pss_one (ps_ret pe_bl))
          pss_nil)))))))
      (pss_one (ps_ret
            pe_bl)))), ?_⟩
    try dsimp only [cxOf, Cx.nox, Cx.wish]
    refine Z.at_start (σ' := [some a, none, none, none, none, none]) rfl ?_
    obtain ⟨l, ns0, rfl, hS, hl, q⟩ := h
    walk_at "z"
    refine ⟨_, rfl, l, ns0, rfl, hS, hl, fun hp cp H1 F1 => ?_⟩
    walk_at "z"
    refine Z.wForW walk_range (fun i σ H' => ∃ v2 v3 v4 v5 L', σ = [some (.ref l), some (.ref hp), v2, v3, v4, v5] ∧ Z.En.hand hp cp ∈ L' ∧ Z.Fx H' L') ⟨_, _, _, _, _, rfl, List.mem_cons_self, F1⟩ (fun _ _ _ _ _ => trivial) ?_ ?_
    · rintro i u σ H2 H3 hi ⟨v2, v3, v4, v5, L', rfl, mh, F2⟩ ⟨rfl, rfl⟩
      walk_at "z"
      rename_i v H4 F4 w0 w1
      refine use__law_stock F4 mh (by omega) (by omega) fun t ns lap r L1 H5 hB hlap hr s1 st F5 => ?_
      have mh1 := s1.subset mh
      have hB8 : Bricks 8 ns := ⟨hB.1, hB.2.1, hB.2.2.1, fun n hn => by have := hB.2.2.2 n hn; omega⟩
      have hg := good_bricksB hB8 (by decide)
      walk_at "z"
      refine use__law_some_rows F5 mh1 st hB8 fun p vs rows s L2 H6 s2 mp al hl1 hl2 hrows F6 => ?_
      have mh2 := s2.subset mh1
      have st2 := st.le s2
      have hvl := al.len
      obtain ⟨v0, ev0⟩ : ∃ v0, vs[0]? = some v0 := ⟨_, List.getElem?_eq_getElem (by omega)⟩
      obtain ⟨cs0, ec0, ⟨r0, rfl, m0⟩⟩ := al.getL ev0
      have e0 : atI vs (0 : Int) = some (.ref r0) := atI_nat (j := 0) ev0
      clear F5 F4 F2
      walk_at "y"
      refine Z.wMidS (fun σ' H' => σ' = [some (.ref l), some (.ref hp), some (.int (0 + (i : Nat))), some (.ref t), some (.ref p), v5] ∧ Z.Fx H' L2) (fun N hk => ?_) ?_
      · walk_at "z"
        refine use__law_good F6 mh2 st2 hB8 hg hlap hr mp al hl1 hl2 hrows fun H7 F7 => ?_
        walk_at "z"
        refine use__law_many F7 mh2 st2 hg hlap hr m0 (hrows cs0 (List.mem_of_getElem? ec0)).1 fun H8 F8 => ?_
        walk_at "z"
        exact hk _ _ ⟨rfl, F8⟩
      clear F6
      rintro _ H7 ⟨rfl, F7⟩
      walk_at "y"
      refine Z.wMidS (fun σ' H' => ∃ v5, σ' = [some (.ref l), some (.ref hp), some (.int (0 + (i : Nat))), some (.ref t), some (.ref p), v5] ∧ Z.Fx H' L2) (fun N hk => ?_) ?_
      · walk_at "z"
        refine Z.wForW walk_range (fun i2 σ H' => ∃ v5, σ = [some (.ref l), some (.ref hp), some (.int (0 + (i : Nat))), some (.ref t), some (.ref p), v5] ∧ Z.Fx H' L2) ⟨_, rfl, F7⟩ (fun _ _ _ _ _ => trivial) ?_ ?_
        · rintro i2 u σ H8 H9 hi ⟨v5, rfl, F8⟩ ⟨rfl, rfl⟩
          walk_at "z"
          refine use__law_spoilt F8 mh2 st2 hB8 hg hlap hr mp al hl1 hl2 hrows fun H10 F10 => ?_
          walk_at "z"
          exact ⟨_, rfl, F10⟩
        · rintro σ H8 ⟨v5, rfl, F8⟩
          exact hk _ _ ⟨_, rfl, F8⟩
      rintro _ H8 ⟨v5, rfl, F8⟩
      walk_at "z"
      refine told_ok F8 st2 hg hlap hr (.lst mp) al (wrows hl1 hl2 hrows) fun H9 F9 => ?_
      walk_at "z"
      exact ⟨_, _, _, _, L2, rfl, mh2, F9⟩
    · rintro σ H2 ⟨v2, v3, v4, v5, L', rfl, mh, F2⟩
      walk_at "z"
      exact q _
theorem ok_law (T : Txt K mg c_BadCourse c_BadStock c_BadWall c_Clash c_Stock c_Wall) : Z.Ok CX0 P w K mg base "law" 11 ["_law_script"] [] (sp_law K) := by
  obtain ⟨f, fd, F, g⟩ := T.d_law
  exact Z.mkOk F g (F.binds (ps := ["_law_script"]) fun _ _ _ _ _ _ us hl => match us, hl with | [_], _ => rfl) (fn_law T F)
end
section
open PyProof.Rows
theorem all_facts {l : PySem.W.OpenLaw} {w : World} {K : PySem.W.Frag} {h : Heap} {mg : Str → Option Value} {fa : Addr} (X : K.In h) (G : h.Ns mainGlobals mg)
    (hfa : mg "law" = some (.ref fa))
    {c_BadCourse N_BadCourse c_BadStock N_BadStock c_BadWall N_BadWall c_Clash c_Stock c_Wall f0 f1 f2 f3 f4 f5 f6 f7 f8 f9 f10 f11 f12 f13 f14 f15 f16 f17 f18 f19 f20 f21 f22 f23 f24 f25 f26 f27 f28 f29 f30 f31 f32 f33 f34 f35 f36 f37 f38 f39 : Addr} {od0 an0 od1 an1 od2 an2 od3 an3 od4 an4 od5 an5 od6 an6 od7 an7 od8 an8 od9 an9 od10 an10 od11 an11 od12 an12 od13 an13 od14 an14 od15 an15 od16 an16 od17 an17 od18 an18 od19 an19 od20 an20 od21 an21 od22 an22 od23 an23 od24 an24 od25 an25 od26 an26 od27 an27 od28 an28 od29 an29 od30 an30 od31 an31 od32 an32 od33 an33 od34 an34 od35 an35 od36 an36 od37 an37 od38 an38 od39 an39 : Option Addr} {sl0 sl1 sl2 sl3 sl4 sl5 sl6 sl7 sl8 sl9 sl10 sl11 sl12 sl13 sl14 sl15 sl16 sl17 sl18 sl19 sl20 sl21 sl22 sl23 sl24 sl25 sl26 sl27 sl28 sl29 sl30 sl31 sl32 sl33 sl34 sl35 sl36 sl37 sl38 sl39 : Array (Option Value)}
    {oc0 kV0 dc0 pm0 cd0 ct0 oc1 kV1 dc1 pm1 cd1 ct1 oc2 kV2 dc2 pm2 cd2 ct2 dV2 oc3 kV3 dc3 pm3 cd3 ct3 oc4 kV4 dc4 pm4 cd4 ct4 dV4 oc5 kV5 dc5 pm5 cd5 ct5 oc6 kV6 dc6 pm6 cd6 ct6 oc7 kV7 dc7 pm7 cd7 ct7 oc8 kV8 dc8 pm8 cd8 ct8 oc9 kV9 dc9 pm9 cd9 ct9 dV9 oc10 kV10 dc10 pm10 cd10 ct10 oc11 kV11 dc11 pm11 cd11 ct11 dV11 oc12 kV12 dc12 pm12 cd12 ct12 oc13 kV13 dc13 pm13 cd13 ct13 oc14 kV14 dc14 pm14 cd14 ct14 oc15 kV15 dc15 pm15 cd15 ct15 oc16 kV16 dc16 pm16 cd16 ct16 oc17 kV17 dc17 pm17 cd17 ct17 oc18 kV18 dc18 pm18 cd18 ct18 oc19 kV19 dc19 pm19 cd19 ct19 oc20 kV20 dc20 pm20 cd20 ct20 oc21 kV21 dc21 pm21 cd21 ct21 oc22 kV22 dc22 pm22 cd22 ct22 oc23 kV23 dc23 pm23 cd23 ct23 oc24 kV24 dc24 pm24 cd24 ct24 oc25 kV25 dc25 pm25 cd25 ct25 oc26 kV26 dc26 pm26 cd26 ct26 oc27 kV27 dc27 pm27 cd27 ct27 oc28 kV28 dc28 pm28 cd28 ct28 oc29 kV29 dc29 pm29 cd29 ct29 oc30 kV30 dc30 pm30 cd30 ct30 oc31 kV31 dc31 pm31 cd31 ct31 oc32 kV32 dc32 pm32 cd32 ct32 oc33 kV33 dc33 pm33 cd33 ct33 oc34 kV34 dc34 pm34 cd34 ct34 oc35 kV35 dc35 pm35 cd35 ct35 oc36 kV36 dc36 pm36 cd36 ct36 oc37 kV37 dc37 pm37 cd37 ct37 oc38 kV38 dc38 pm38 cd38 ct38 oc39 kV39 dc39 pm39 cd39 ct39 : Value}
    {nm_BadCourse : Str} {qq_BadCourse : Str} {bs_BadCourse : List Value} {bm_BadCourse : List Value} {sn_BadCourse : List Str} {sub_BadCourse : List Value} {ab_BadCourse : Bool} {col_BadCourse : Option Bool} {dd_BadCourse : Option Addr} {m0_BadCourse : Option Value} {m1_BadCourse : Option Value} {m2_BadCourse : Option Value} {m3_BadCourse : Option Value} {m5_BadCourse : Option Value} {nm_BadStock : Str} {qq_BadStock : Str} {bs_BadStock : List Value} {bm_BadStock : List Value} {sn_BadStock : List Str} {sub_BadStock : List Value} {ab_BadStock : Bool} {col_BadStock : Option Bool} {dd_BadStock : Option Addr} {m0_BadStock : Option Value} {m1_BadStock : Option Value} {m2_BadStock : Option Value} {m3_BadStock : Option Value} {m5_BadStock : Option Value} {nm_BadWall : Str} {qq_BadWall : Str} {bs_BadWall : List Value} {bm_BadWall : List Value} {sn_BadWall : List Str} {sub_BadWall : List Value} {ab_BadWall : Bool} {col_BadWall : Option Bool} {dd_BadWall : Option Addr} {m0_BadWall : Option Value} {m1_BadWall : Option Value} {m2_BadWall : Option Value} {m3_BadWall : Option Value} {m5_BadWall : Option Value}
    (g_BadCourse : PySem.W.nsIn K mainGlobals "BadCourse" = some (some (.ref c_BadCourse)))
    (xL_BadCourse : K.lookup c_BadCourse = some (excClassObj nm_BadCourse qq_BadCourse c_BadCourse N_BadCourse bs_BadCourse bm_BadCourse true sn_BadCourse sub_BadCourse ab_BadCourse col_BadCourse dd_BadCourse m0_BadCourse m1_BadCourse m2_BadCourse m3_BadCourse m5_BadCourse "ValueError.__new__"))
    (rv_BadCourse : PySem.HandSPX.refsVE bm_BadCourse = true)
    (sa_BadCourse : PySem.W.findIn K (.ref c_BadCourse) "__setattr__" = some (some (.builtin "object.__setattr__")))
    (ex_BadCourse : PySem.W.subIn K (.ref c_BadCourse) (.type "BaseException") = some true)
    (ty_BadCourse : PySem.W.typeIn K (.ref c_BadCourse) = some (.type "type"))
    (kc_BadCourse : PySem.W.keepIn K (.ref c_BadCourse) = true)
    (ga_BadCourse : PySem.W.findIn K (.ref c_BadCourse) "__getattribute__" = some (some (.builtin "BaseException.__getattribute__")))
    (gg_BadCourse : PySem.W.findIn K (.ref c_BadCourse) "__getattr__" = some none)
    (hd_BadCourse : PySem.W.hasDictIn K c_BadCourse = true)
    (ic_BadCourse : PySem.W.isClsIn K c_BadCourse = true)
    (ss_BadCourse : PySem.W.subIn K (.ref c_BadCourse) (.ref c_BadCourse) = some true)
    (n_BadCourse_index : PySem.W.findIn K (.ref c_BadCourse) "index" = some none)
    (n_BadCourse_what : PySem.W.findIn K (.ref c_BadCourse) "what" = some none)
    (g_BadStock : PySem.W.nsIn K mainGlobals "BadStock" = some (some (.ref c_BadStock)))
    (xL_BadStock : K.lookup c_BadStock = some (excClassObj nm_BadStock qq_BadStock c_BadStock N_BadStock bs_BadStock bm_BadStock true sn_BadStock sub_BadStock ab_BadStock col_BadStock dd_BadStock m0_BadStock m1_BadStock m2_BadStock m3_BadStock m5_BadStock "ValueError.__new__"))
    (rv_BadStock : PySem.HandSPX.refsVE bm_BadStock = true)
    (sa_BadStock : PySem.W.findIn K (.ref c_BadStock) "__setattr__" = some (some (.builtin "object.__setattr__")))
    (ex_BadStock : PySem.W.subIn K (.ref c_BadStock) (.type "BaseException") = some true)
    (ty_BadStock : PySem.W.typeIn K (.ref c_BadStock) = some (.type "type"))
    (kc_BadStock : PySem.W.keepIn K (.ref c_BadStock) = true)
    (ga_BadStock : PySem.W.findIn K (.ref c_BadStock) "__getattribute__" = some (some (.builtin "BaseException.__getattribute__")))
    (gg_BadStock : PySem.W.findIn K (.ref c_BadStock) "__getattr__" = some none)
    (hd_BadStock : PySem.W.hasDictIn K c_BadStock = true)
    (ic_BadStock : PySem.W.isClsIn K c_BadStock = true)
    (ss_BadStock : PySem.W.subIn K (.ref c_BadStock) (.ref c_BadStock) = some true)
    (n_BadStock_what : PySem.W.findIn K (.ref c_BadStock) "what" = some none)
    (g_BadWall : PySem.W.nsIn K mainGlobals "BadWall" = some (some (.ref c_BadWall)))
    (xL_BadWall : K.lookup c_BadWall = some (excClassObj nm_BadWall qq_BadWall c_BadWall N_BadWall bs_BadWall bm_BadWall true sn_BadWall sub_BadWall ab_BadWall col_BadWall dd_BadWall m0_BadWall m1_BadWall m2_BadWall m3_BadWall m5_BadWall "ValueError.__new__"))
    (rv_BadWall : PySem.HandSPX.refsVE bm_BadWall = true)
    (sa_BadWall : PySem.W.findIn K (.ref c_BadWall) "__setattr__" = some (some (.builtin "object.__setattr__")))
    (ex_BadWall : PySem.W.subIn K (.ref c_BadWall) (.type "BaseException") = some true)
    (ty_BadWall : PySem.W.typeIn K (.ref c_BadWall) = some (.type "type"))
    (kc_BadWall : PySem.W.keepIn K (.ref c_BadWall) = true)
    (ga_BadWall : PySem.W.findIn K (.ref c_BadWall) "__getattribute__" = some (some (.builtin "BaseException.__getattribute__")))
    (gg_BadWall : PySem.W.findIn K (.ref c_BadWall) "__getattr__" = some none)
    (hd_BadWall : PySem.W.hasDictIn K c_BadWall = true)
    (ic_BadWall : PySem.W.isClsIn K c_BadWall = true)
    (ss_BadWall : PySem.W.subIn K (.ref c_BadWall) (.ref c_BadWall) = some true)
    (n_BadWall_index : PySem.W.findIn K (.ref c_BadWall) "index" = some none)
    (n_BadWall_what : PySem.W.findIn K (.ref c_BadWall) "what" = some none)
    (g_Clash : PySem.W.nsIn K mainGlobals "Clash" = some (some (.ref c_Clash)))
    (pg_Clash : PySem.W.plainGet K c_Clash Str.empty = true)
    (hd_Clash : PySem.W.hasDictIn K c_Clash = true)
    (po_Clash : PySem.W.plainOver K c_Clash = true)
    (sa_Clash : PySem.W.findIn K (.ref c_Clash) "__setattr__" = some (some (.builtin "object.__setattr__")))
    (ha_Clash : PySem.W.findIn K (.ref c_Clash) "__class__" = some (some (.builtin "object.__class__")))
    (hn_Clash : PySem.W.specialIn K (.builtin "object.__class__") "__get__" = some (some (.builtin "getset_descriptor.__get__")))
    (tk_Clash : PySem.W.takesIn K (.builtin "object.__class__") = some true)
    (hm_Clash : PySem.W.mroIn K c_Clash (.type "object") = some true)
    (me_Clash : PySem.W.kitOne K (.ref c_Clash) (.ref c_Clash) = some true)
    (nt_Clash : PySem.W.kitOne K (.type "tuple") (.ref c_Clash) = some false)
    (nl_Clash : PySem.W.kitOne K (.type "list") (.ref c_Clash) = some false)
    (ns_Clash : PySem.W.kitOne K (.type "str") (.ref c_Clash) = some false)
    (nf_Clash : PySem.W.notFirst K c_Clash (.type "tuple") = true)
    (n_Clash_lower : PySem.W.findIn K (.ref c_Clash) "lower" = some none)
    (n_Clash_upper : PySem.W.findIn K (.ref c_Clash) "upper" = some none)
    (n_Clash_joint : PySem.W.findIn K (.ref c_Clash) "joint" = some none)
    (n_Clash_other : PySem.W.findIn K (.ref c_Clash) "other" = some none)
    (g_Stock : PySem.W.nsIn K mainGlobals "Stock" = some (some (.ref c_Stock)))
    (pg_Stock : PySem.W.plainGet K c_Stock Str.empty = true)
    (hd_Stock : PySem.W.hasDictIn K c_Stock = true)
    (po_Stock : PySem.W.plainOver K c_Stock = true)
    (sa_Stock : PySem.W.findIn K (.ref c_Stock) "__setattr__" = some (some (.builtin "object.__setattr__")))
    (ha_Stock : PySem.W.findIn K (.ref c_Stock) "__class__" = some (some (.builtin "object.__class__")))
    (hn_Stock : PySem.W.specialIn K (.builtin "object.__class__") "__get__" = some (some (.builtin "getset_descriptor.__get__")))
    (tk_Stock : PySem.W.takesIn K (.builtin "object.__class__") = some true)
    (hm_Stock : PySem.W.mroIn K c_Stock (.type "object") = some true)
    (me_Stock : PySem.W.kitOne K (.ref c_Stock) (.ref c_Stock) = some true)
    (nt_Stock : PySem.W.kitOne K (.type "tuple") (.ref c_Stock) = some false)
    (nl_Stock : PySem.W.kitOne K (.type "list") (.ref c_Stock) = some false)
    (ns_Stock : PySem.W.kitOne K (.type "str") (.ref c_Stock) = some false)
    (nf_Stock : PySem.W.notFirst K c_Stock (.type "tuple") = true)
    (n_Stock_bricks : PySem.W.findIn K (.ref c_Stock) "bricks" = some none)
    (n_Stock_lap : PySem.W.findIn K (.ref c_Stock) "lap" = some none)
    (n_Stock_reach : PySem.W.findIn K (.ref c_Stock) "reach" = some none)
    (g_Wall : PySem.W.nsIn K mainGlobals "Wall" = some (some (.ref c_Wall)))
    (pg_Wall : PySem.W.plainGet K c_Wall Str.empty = true)
    (hd_Wall : PySem.W.hasDictIn K c_Wall = true)
    (po_Wall : PySem.W.plainOver K c_Wall = true)
    (sa_Wall : PySem.W.findIn K (.ref c_Wall) "__setattr__" = some (some (.builtin "object.__setattr__")))
    (ha_Wall : PySem.W.findIn K (.ref c_Wall) "__class__" = some (some (.builtin "object.__class__")))
    (hn_Wall : PySem.W.specialIn K (.builtin "object.__class__") "__get__" = some (some (.builtin "getset_descriptor.__get__")))
    (tk_Wall : PySem.W.takesIn K (.builtin "object.__class__") = some true)
    (hm_Wall : PySem.W.mroIn K c_Wall (.type "object") = some true)
    (me_Wall : PySem.W.kitOne K (.ref c_Wall) (.ref c_Wall) = some true)
    (nt_Wall : PySem.W.kitOne K (.type "tuple") (.ref c_Wall) = some false)
    (nl_Wall : PySem.W.kitOne K (.type "list") (.ref c_Wall) = some false)
    (ns_Wall : PySem.W.kitOne K (.type "str") (.ref c_Wall) = some false)
    (nf_Wall : PySem.W.notFirst K c_Wall (.type "tuple") = true)
    (n_Wall_stock : PySem.W.findIn K (.ref c_Wall) "stock" = some none)
    (n_Wall_courses : PySem.W.findIn K (.ref c_Wall) "courses" = some none)
    (n_Wall_length : PySem.W.findIn K (.ref c_Wall) "length" = some none)
    (z_abs : PySem.W.nsIn K mainGlobals "abs" = some none)
    (z_all : PySem.W.nsIn K mainGlobals "all" = some none)
    (z_bool : PySem.W.nsIn K mainGlobals "bool" = some none)
    (z_enumerate : PySem.W.nsIn K mainGlobals "enumerate" = some none)
    (z_int : PySem.W.nsIn K mainGlobals "int" = some none)
    (z_isinstance : PySem.W.nsIn K mainGlobals "isinstance" = some none)
    (z_len : PySem.W.nsIn K mainGlobals "len" = some none)
    (z_list : PySem.W.nsIn K mainGlobals "list" = some none)
    (z_max : PySem.W.nsIn K mainGlobals "max" = some none)
    (z_range : PySem.W.nsIn K mainGlobals "range" = some none)
    (z_sorted : PySem.W.nsIn K mainGlobals "sorted" = some none)
    (z_sum : PySem.W.nsIn K mainGlobals "sum" = some none)
    (z_tuple : PySem.W.nsIn K mainGlobals "tuple" = some none)
    (z_zip : PySem.W.nsIn K mainGlobals "zip" = some none)
    (a0 : PySem.W.findIn K (.ref c_BadStock) "__init__" = some (some (.ref f0)))
    (l0 : K.lookup f0 = some ⟨oc0, od0, .func (PySem.W.fnOf "__init__" "BadStock.__init__" (defArgs s_BadStock___init__) (defBody s_BadStock___init__) (defScope s_BadStock___init__) .none kV0 dc0 pm0 an0 cd0 ct0), sl0⟩)
    (c0 : PySem.W.codeIn K cd0 "BadStock.__init__" = true)
    (k0 : PySem.W.keepIn K (.ref f0) = true)
    (t0 : PySem.W.typeIn K (.ref f0) = some (.type "function"))
    (a1 : PySem.W.nsIn K mainGlobals "is_sequence" = some (some (.ref f1)))
    (l1 : K.lookup f1 = some ⟨oc1, od1, .func (PySem.W.fnOf "is_sequence" "is_sequence" (defArgs s_is_sequence) (defBody s_is_sequence) (defScope s_is_sequence) .none kV1 dc1 pm1 an1 cd1 ct1), sl1⟩)
    (c1 : PySem.W.codeIn K cd1 "is_sequence" = true)
    (k1 : PySem.W.keepIn K (.ref f1) = true)
    (a2 : PySem.W.nsIn K mainGlobals "is_whole" = some (some (.ref f2)))
    (l2 : K.lookup f2 = some ⟨oc2, od2, .func (PySem.W.fnOf "is_whole" "is_whole" (defArgs s_is_whole) (defBody s_is_whole) (defScope s_is_whole) dV2 kV2 dc2 pm2 an2 cd2 ct2), sl2⟩)
    (c2 : PySem.W.codeIn K cd2 "is_whole" = true)
    (k2 : PySem.W.keepIn K (.ref f2) = true)
    (v2 : He.dflB K dV2 [.non, .non] = true)
    (a3 : PySem.W.nsIn K mainGlobals "_are_bricks" = some (some (.ref f3)))
    (l3 : K.lookup f3 = some ⟨oc3, od3, .func (PySem.W.fnOf "_are_bricks" "_are_bricks" (defArgs s__are_bricks) (defBody s__are_bricks) (defScope s__are_bricks) .none kV3 dc3 pm3 an3 cd3 ct3), sl3⟩)
    (c3 : PySem.W.codeIn K cd3 "_are_bricks" = true)
    (k3 : PySem.W.keepIn K (.ref f3) = true)
    (a4 : PySem.W.findIn K (.ref c_Stock) "__init__" = some (some (.ref f4)))
    (l4 : K.lookup f4 = some ⟨oc4, od4, .func (PySem.W.fnOf "__init__" "Stock.__init__" (defArgs s_Stock___init__) (defBody s_Stock___init__) (defScope s_Stock___init__) dV4 kV4 dc4 pm4 an4 cd4 ct4), sl4⟩)
    (c4 : PySem.W.codeIn K cd4 "Stock.__init__" = true)
    (k4 : PySem.W.keepIn K (.ref f4) = true)
    (v4 : He.dflB K dV4 [.int 1, .int 1] = true)
    (i4 : PySem.W.isFn K (.ref f4) = true)
    (mk_Stock : PySem.W.makesIn K c_Stock = true)
    (kc_Stock : PySem.W.keepIn K (.ref c_Stock) = true)
    (a5 : PySem.W.findIn K (.ref c_Stock) "__eq__" = some (some (.ref f5)))
    (l5 : K.lookup f5 = some ⟨oc5, od5, .func (PySem.W.fnOf "__eq__" "Stock.__eq__" (defArgs s_Stock___eq__) (defBody s_Stock___eq__) (defScope s_Stock___eq__) .none kV5 dc5 pm5 an5 cd5 ct5), sl5⟩)
    (c5 : PySem.W.codeIn K cd5 "Stock.__eq__" = true)
    (k5 : PySem.W.keepIn K (.ref f5) = true)
    (i5 : PySem.W.isFn K (.ref f5) = true)
    (ne_Stock : PySem.W.findIn K (.ref c_Stock) "__ne__" = some (some (.builtin "object.__ne__")))
    (a6 : PySem.W.nsIn K mainGlobals "length_of" = some (some (.ref f6)))
    (l6 : K.lookup f6 = some ⟨oc6, od6, .func (PySem.W.fnOf "length_of" "length_of" (defArgs s_length_of) (defBody s_length_of) (defScope s_length_of) .none kV6 dc6 pm6 an6 cd6 ct6), sl6⟩)
    (c6 : PySem.W.codeIn K cd6 "length_of" = true)
    (k6 : PySem.W.keepIn K (.ref f6) = true)
    (a7 : PySem.W.findIn K (.ref c_BadCourse) "__init__" = some (some (.ref f7)))
    (l7 : K.lookup f7 = some ⟨oc7, od7, .func (PySem.W.fnOf "__init__" "BadCourse.__init__" (defArgs s_BadCourse___init__) (defBody s_BadCourse___init__) (defScope s_BadCourse___init__) .none kV7 dc7 pm7 an7 cd7 ct7), sl7⟩)
    (c7 : PySem.W.codeIn K cd7 "BadCourse.__init__" = true)
    (k7 : PySem.W.keepIn K (.ref f7) = true)
    (t7 : PySem.W.typeIn K (.ref f7) = some (.type "function"))
    (a8 : PySem.W.nsIn K mainGlobals "check_course" = some (some (.ref f8)))
    (l8 : K.lookup f8 = some ⟨oc8, od8, .func (PySem.W.fnOf "check_course" "check_course" (defArgs s_check_course) (defBody s_check_course) (defScope s_check_course) .none kV8 dc8 pm8 an8 cd8 ct8), sl8⟩)
    (c8 : PySem.W.codeIn K cd8 "check_course" = true)
    (k8 : PySem.W.keepIn K (.ref f8) = true)
    (a9 : PySem.W.nsIn K mainGlobals "course_flaw" = some (some (.ref f9)))
    (l9 : K.lookup f9 = some ⟨oc9, od9, .func (PySem.W.fnOf "course_flaw" "course_flaw" (defArgs s_course_flaw) (defBody s_course_flaw) (defScope s_course_flaw) dV9 kV9 dc9 pm9 an9 cd9 ct9), sl9⟩)
    (c9 : PySem.W.codeIn K cd9 "course_flaw" = true)
    (k9 : PySem.W.keepIn K (.ref f9) = true)
    (v9 : He.dflB K dV9 [.non] = true)
    (a10 : PySem.W.findIn K (.ref c_BadWall) "__init__" = some (some (.ref f10)))
    (l10 : K.lookup f10 = some ⟨oc10, od10, .func (PySem.W.fnOf "__init__" "BadWall.__init__" (defArgs s_BadWall___init__) (defBody s_BadWall___init__) (defScope s_BadWall___init__) .none kV10 dc10 pm10 an10 cd10 ct10), sl10⟩)
    (c10 : PySem.W.codeIn K cd10 "BadWall.__init__" = true)
    (k10 : PySem.W.keepIn K (.ref f10) = true)
    (t10 : PySem.W.typeIn K (.ref f10) = some (.type "function"))
    (a11 : PySem.W.nsIn K mainGlobals "course_for" = some (some (.ref f11)))
    (l11 : K.lookup f11 = some ⟨oc11, od11, .func (PySem.W.fnOf "course_for" "course_for" (defArgs s_course_for) (defBody s_course_for) (defScope s_course_for) dV11 kV11 dc11 pm11 an11 cd11 ct11), sl11⟩)
    (c11 : PySem.W.codeIn K cd11 "course_for" = true)
    (k11 : PySem.W.keepIn K (.ref f11) = true)
    (v11 : He.dflB K dV11 [.non] = true)
    (a12 : PySem.W.nsIn K mainGlobals "_checked_courses" = some (some (.ref f12)))
    (l12 : K.lookup f12 = some ⟨oc12, od12, .func (PySem.W.fnOf "_checked_courses" "_checked_courses" (defArgs s__checked_courses) (defBody s__checked_courses) (defScope s__checked_courses) .none kV12 dc12 pm12 an12 cd12 ct12), sl12⟩)
    (c12 : PySem.W.codeIn K cd12 "_checked_courses" = true)
    (k12 : PySem.W.keepIn K (.ref f12) = true)
    (a13 : PySem.W.findIn K (.ref c_Wall) "__init__" = some (some (.ref f13)))
    (l13 : K.lookup f13 = some ⟨oc13, od13, .func (PySem.W.fnOf "__init__" "Wall.__init__" (defArgs s_Wall___init__) (defBody s_Wall___init__) (defScope s_Wall___init__) .none kV13 dc13 pm13 an13 cd13 ct13), sl13⟩)
    (c13 : PySem.W.codeIn K cd13 "Wall.__init__" = true)
    (k13 : PySem.W.keepIn K (.ref f13) = true)
    (i13 : PySem.W.isFn K (.ref f13) = true)
    (mk_Wall : PySem.W.makesIn K c_Wall = true)
    (kc_Wall : PySem.W.keepIn K (.ref c_Wall) = true)
    (a14 : PySem.W.nsIn K mainGlobals "_law_mix" = some (some (.ref f14)))
    (l14 : K.lookup f14 = some ⟨oc14, od14, .func (PySem.W.fnOf "_law_mix" "_law_mix" (defArgs s__law_mix) (defBody s__law_mix) (defScope s__law_mix) .none kV14 dc14 pm14 an14 cd14 ct14), sl14⟩)
    (c14 : PySem.W.codeIn K cd14 "_law_mix" = true)
    (k14 : PySem.W.keepIn K (.ref f14) = true)
    (a15 : PySem.W.nsIn K mainGlobals "_law_draw" = some (some (.ref f15)))
    (l15 : K.lookup f15 = some ⟨oc15, od15, .func (PySem.W.fnOf "_law_draw" "_law_draw" (defArgs s__law_draw) (defBody s__law_draw) (defScope s__law_draw) .none kV15 dc15 pm15 an15 cd15 ct15), sl15⟩)
    (c15 : PySem.W.codeIn K cd15 "_law_draw" = true)
    (k15 : PySem.W.keepIn K (.ref f15) = true)
    (a16 : PySem.W.nsIn K mainGlobals "_law_stock" = some (some (.ref f16)))
    (l16 : K.lookup f16 = some ⟨oc16, od16, .func (PySem.W.fnOf "_law_stock" "_law_stock" (defArgs s__law_stock) (defBody s__law_stock) (defScope s__law_stock) .none kV16 dc16 pm16 an16 cd16 ct16), sl16⟩)
    (c16 : PySem.W.codeIn K cd16 "_law_stock" = true)
    (k16 : PySem.W.keepIn K (.ref f16) = true)
    (a17 : PySem.W.nsIn K mainGlobals "_law_told" = some (some (.ref f17)))
    (l17 : K.lookup f17 = some ⟨oc17, od17, .func (PySem.W.fnOf "_law_told" "_law_told" (defArgs s__law_told) (defBody s__law_told) (defScope s__law_told) .none kV17 dc17 pm17 an17 cd17 ct17), sl17⟩)
    (c17 : PySem.W.codeIn K cd17 "_law_told" = true)
    (k17 : PySem.W.keepIn K (.ref f17) = true)
    (a18 : PySem.W.nsIn K mainGlobals "_law_as_sequence" = some (some (.ref f18)))
    (l18 : K.lookup f18 = some ⟨oc18, od18, .func (PySem.W.fnOf "_law_as_sequence" "_law_as_sequence" (defArgs s__law_as_sequence) (defBody s__law_as_sequence) (defScope s__law_as_sequence) .none kV18 dc18 pm18 an18 cd18 ct18), sl18⟩)
    (c18 : PySem.W.codeIn K cd18 "_law_as_sequence" = true)
    (k18 : PySem.W.keepIn K (.ref f18) = true)
    (a19 : PySem.W.nsIn K mainGlobals "_law_is" = some (some (.ref f19)))
    (l19 : K.lookup f19 = some ⟨oc19, od19, .func (PySem.W.fnOf "_law_is" "_law_is" (defArgs s__law_is) (defBody s__law_is) (defScope s__law_is) .none kV19 dc19 pm19 an19 cd19 ct19), sl19⟩)
    (c19 : PySem.W.codeIn K cd19 "_law_is" = true)
    (k19 : PySem.W.keepIn K (.ref f19) = true)
    (a20 : PySem.W.nsIn K mainGlobals "_law_tuples" = some (some (.ref f20)))
    (l20 : K.lookup f20 = some ⟨oc20, od20, .func (PySem.W.fnOf "_law_tuples" "_law_tuples" (defArgs s__law_tuples) (defBody s__law_tuples) (defScope s__law_tuples) .none kV20 dc20 pm20 an20 cd20 ct20), sl20⟩)
    (c20 : PySem.W.codeIn K cd20 "_law_tuples" = true)
    (k20 : PySem.W.keepIn K (.ref f20) = true)
    (a21 : PySem.W.nsIn K mainGlobals "_law_ends" = some (some (.ref f21)))
    (l21 : K.lookup f21 = some ⟨oc21, od21, .func (PySem.W.fnOf "_law_ends" "_law_ends" (defArgs s__law_ends) (defBody s__law_ends) (defScope s__law_ends) .none kV21 dc21 pm21 an21 cd21 ct21), sl21⟩)
    (c21 : PySem.W.codeIn K cd21 "_law_ends" = true)
    (k21 : PySem.W.keepIn K (.ref f21) = true)
    (a22 : PySem.W.nsIn K mainGlobals "_law_walk" = some (some (.ref f22)))
    (l22 : K.lookup f22 = some ⟨oc22, od22, .func (PySem.W.fnOf "_law_walk" "_law_walk" (defArgs s__law_walk) (defBody s__law_walk) (defScope s__law_walk) .none kV22 dc22 pm22 an22 cd22 ct22), sl22⟩)
    (c22 : PySem.W.codeIn K cd22 "_law_walk" = true)
    (k22 : PySem.W.keepIn K (.ref f22) = true)
    (a23 : PySem.W.findIn K (.ref c_Wall) "__eq__" = some (some (.ref f23)))
    (l23 : K.lookup f23 = some ⟨oc23, od23, .func (PySem.W.fnOf "__eq__" "Wall.__eq__" (defArgs s_Wall___eq__) (defBody s_Wall___eq__) (defScope s_Wall___eq__) .none kV23 dc23 pm23 an23 cd23 ct23), sl23⟩)
    (c23 : PySem.W.codeIn K cd23 "Wall.__eq__" = true)
    (k23 : PySem.W.keepIn K (.ref f23) = true)
    (i23 : PySem.W.isFn K (.ref f23) = true)
    (ne_Wall : PySem.W.findIn K (.ref c_Wall) "__ne__" = some (some (.builtin "object.__ne__")))
    (a24 : PySem.W.findIn K (.ref c_Wall) "__len__" = some (some (.ref f24)))
    (l24 : K.lookup f24 = some ⟨oc24, od24, .func (PySem.W.fnOf "__len__" "Wall.__len__" (defArgs s_Wall___len__) (defBody s_Wall___len__) (defScope s_Wall___len__) .none kV24 dc24 pm24 an24 cd24 ct24), sl24⟩)
    (c24 : PySem.W.codeIn K cd24 "Wall.__len__" = true)
    (k24 : PySem.W.keepIn K (.ref f24) = true)
    (t24 : PySem.W.typeIn K (.ref f24) = some (.type "function"))
    (a25 : PySem.W.findIn K (.ref c_Clash) "__init__" = some (some (.ref f25)))
    (l25 : K.lookup f25 = some ⟨oc25, od25, .func (PySem.W.fnOf "__init__" "Clash.__init__" (defArgs s_Clash___init__) (defBody s_Clash___init__) (defScope s_Clash___init__) .none kV25 dc25 pm25 an25 cd25 ct25), sl25⟩)
    (c25 : PySem.W.codeIn K cd25 "Clash.__init__" = true)
    (k25 : PySem.W.keepIn K (.ref f25) = true)
    (i25 : PySem.W.isFn K (.ref f25) = true)
    (mk_Clash : PySem.W.makesIn K c_Clash = true)
    (kc_Clash : PySem.W.keepIn K (.ref c_Clash) = true)
    (a26 : PySem.W.nsIn K mainGlobals "_law_refused" = some (some (.ref f26)))
    (l26 : K.lookup f26 = some ⟨oc26, od26, .func (PySem.W.fnOf "_law_refused" "_law_refused" (defArgs s__law_refused) (defBody s__law_refused) (defScope s__law_refused) .none kV26 dc26 pm26 an26 cd26 ct26), sl26⟩)
    (c26 : PySem.W.codeIn K cd26 "_law_refused" = true)
    (k26 : PySem.W.keepIn K (.ref f26) = true)
    (a27 : PySem.W.nsIn K mainGlobals "_law_many" = some (some (.ref f27)))
    (l27 : K.lookup f27 = some ⟨oc27, od27, .func (PySem.W.fnOf "_law_many" "_law_many" (defArgs s__law_many) (defBody s__law_many) (defScope s__law_many) .none kV27 dc27 pm27 an27 cd27 ct27), sl27⟩)
    (c27 : PySem.W.codeIn K cd27 "_law_many" = true)
    (k27 : PySem.W.keepIn K (.ref f27) = true)
    (a28 : PySem.W.nsIn K mainGlobals "_law_joints" = some (some (.ref f28)))
    (l28 : K.lookup f28 = some ⟨oc28, od28, .func (PySem.W.fnOf "_law_joints" "_law_joints" (defArgs s__law_joints) (defBody s__law_joints) (defScope s__law_joints) .none kV28 dc28 pm28 an28 cd28 ct28), sl28⟩)
    (c28 : PySem.W.codeIn K cd28 "_law_joints" = true)
    (k28 : PySem.W.keepIn K (.ref f28) = true)
    (a29 : PySem.W.nsIn K mainGlobals "_law_apart" = some (some (.ref f29)))
    (l29 : K.lookup f29 = some ⟨oc29, od29, .func (PySem.W.fnOf "_law_apart" "_law_apart" (defArgs s__law_apart) (defBody s__law_apart) (defScope s__law_apart) .none kV29 dc29 pm29 an29 cd29 ct29), sl29⟩)
    (c29 : PySem.W.codeIn K cd29 "_law_apart" = true)
    (k29 : PySem.W.keepIn K (.ref f29) = true)
    (a30 : PySem.W.nsIn K mainGlobals "_law_fits" = some (some (.ref f30)))
    (l30 : K.lookup f30 = some ⟨oc30, od30, .func (PySem.W.fnOf "_law_fits" "_law_fits" (defArgs s__law_fits) (defBody s__law_fits) (defScope s__law_fits) .none kV30 dc30 pm30 an30 cd30 ct30), sl30⟩)
    (c30 : PySem.W.codeIn K cd30 "_law_fits" = true)
    (k30 : PySem.W.keepIn K (.ref f30) = true)
    (a31 : PySem.W.nsIn K mainGlobals "_law_laid_on" = some (some (.ref f31)))
    (l31 : K.lookup f31 = some ⟨oc31, od31, .func (PySem.W.fnOf "_law_laid_on" "_law_laid_on" (defArgs s__law_laid_on) (defBody s__law_laid_on) (defScope s__law_laid_on) .none kV31 dc31 pm31 an31 cd31 ct31), sl31⟩)
    (c31 : PySem.W.codeIn K cd31 "_law_laid_on" = true)
    (k31 : PySem.W.keepIn K (.ref f31) = true)
    (a32 : PySem.W.nsIn K mainGlobals "_law_good" = some (some (.ref f32)))
    (l32 : K.lookup f32 = some ⟨oc32, od32, .func (PySem.W.fnOf "_law_good" "_law_good" (defArgs s__law_good) (defBody s__law_good) (defScope s__law_good) .none kV32 dc32 pm32 an32 cd32 ct32), sl32⟩)
    (c32 : PySem.W.codeIn K cd32 "_law_good" = true)
    (k32 : PySem.W.keepIn K (.ref f32) = true)
    (a33 : PySem.W.nsIn K mainGlobals "_law_rows" = some (some (.ref f33)))
    (l33 : K.lookup f33 = some ⟨oc33, od33, .func (PySem.W.fnOf "_law_rows" "_law_rows" (defArgs s__law_rows) (defBody s__law_rows) (defScope s__law_rows) .none kV33 dc33 pm33 an33 cd33 ct33), sl33⟩)
    (c33 : PySem.W.codeIn K cd33 "_law_rows" = true)
    (k33 : PySem.W.keepIn K (.ref f33) = true)
    (a34 : PySem.W.nsIn K mainGlobals "_law_bad_course" = some (some (.ref f34)))
    (l34 : K.lookup f34 = some ⟨oc34, od34, .func (PySem.W.fnOf "_law_bad_course" "_law_bad_course" (defArgs s__law_bad_course) (defBody s__law_bad_course) (defScope s__law_bad_course) .none kV34 dc34 pm34 an34 cd34 ct34), sl34⟩)
    (c34 : PySem.W.codeIn K cd34 "_law_bad_course" = true)
    (k34 : PySem.W.keepIn K (.ref f34) = true)
    (a35 : PySem.W.nsIn K mainGlobals "_law_other_length" = some (some (.ref f35)))
    (l35 : K.lookup f35 = some ⟨oc35, od35, .func (PySem.W.fnOf "_law_other_length" "_law_other_length" (defArgs s__law_other_length) (defBody s__law_other_length) (defScope s__law_other_length) .none kV35 dc35 pm35 an35 cd35 ct35), sl35⟩)
    (c35 : PySem.W.codeIn K cd35 "_law_other_length" = true)
    (k35 : PySem.W.keepIn K (.ref f35) = true)
    (a36 : PySem.W.nsIn K mainGlobals "_law_spoilt" = some (some (.ref f36)))
    (l36 : K.lookup f36 = some ⟨oc36, od36, .func (PySem.W.fnOf "_law_spoilt" "_law_spoilt" (defArgs s__law_spoilt) (defBody s__law_spoilt) (defScope s__law_spoilt) .none kV36 dc36 pm36 an36 cd36 ct36), sl36⟩)
    (c36 : PySem.W.codeIn K cd36 "_law_spoilt" = true)
    (k36 : PySem.W.keepIn K (.ref f36) = true)
    (a37 : PySem.W.nsIn K mainGlobals "_law_some_rows" = some (some (.ref f37)))
    (l37 : K.lookup f37 = some ⟨oc37, od37, .func (PySem.W.fnOf "_law_some_rows" "_law_some_rows" (defArgs s__law_some_rows) (defBody s__law_some_rows) (defScope s__law_some_rows) .none kV37 dc37 pm37 an37 cd37 ct37), sl37⟩)
    (c37 : PySem.W.codeIn K cd37 "_law_some_rows" = true)
    (k37 : PySem.W.keepIn K (.ref f37) = true)
    (a38 : PySem.W.nsIn K mainGlobals "_law_hand" = some (some (.ref f38)))
    (l38 : K.lookup f38 = some ⟨oc38, od38, .func (PySem.W.fnOf "_law_hand" "_law_hand" (defArgs s__law_hand) (defBody s__law_hand) (defScope s__law_hand) .none kV38 dc38 pm38 an38 cd38 ct38), sl38⟩)
    (c38 : PySem.W.codeIn K cd38 "_law_hand" = true)
    (k38 : PySem.W.keepIn K (.ref f38) = true)
    (a39 : PySem.W.nsIn K mainGlobals "law" = some (some (.ref f39)))
    (l39 : K.lookup f39 = some ⟨oc39, od39, .func (PySem.W.fnOf "law" "law" (defArgs s_law) (defBody s_law) (defScope s_law) .none kV39 dc39 pm39 an39 cd39 ct39), sl39⟩)
    (c39 : PySem.W.codeIn K cd39 "law" = true)
    (k39 : PySem.W.keepIn K (.ref f39) = true)
    (q_BadCourse_BadStock : PySem.W.subIn K (.ref c_BadCourse) (.ref c_BadStock) = some false)
    (q_BadCourse_BadWall : PySem.W.subIn K (.ref c_BadCourse) (.ref c_BadWall) = some false)
    (q_BadStock_BadCourse : PySem.W.subIn K (.ref c_BadStock) (.ref c_BadCourse) = some false)
    (q_BadStock_BadWall : PySem.W.subIn K (.ref c_BadStock) (.ref c_BadWall) = some false)
    (q_BadWall_BadCourse : PySem.W.subIn K (.ref c_BadWall) (.ref c_BadCourse) = some false)
    (q_BadWall_BadStock : PySem.W.subIn K (.ref c_BadWall) (.ref c_BadStock) = some false)
    (nf_Wall_Clash : PySem.W.notFirst K c_Wall (.ref c_Clash) = true)
    (ko_Clash_Wall : PySem.W.kitOne K (.ref c_Clash) (.ref c_Wall) = some false)
    : ∃ fd : FuncData, (∀ (s : Shared) (u : Value), BindsTo s fd ⟨[u], []⟩ [("_law_script", u)]) ∧ ∀ base : Heap, K.In base → base.Ns mainGlobals mg → FnOk l.prog w K mg base CX0 11 fa fd ["_law_script"] (sp_law K) := by
  have e := hfa.symm.trans (PySem.W.mg_of X G a39)
  cases e
  have T : Txt K mg c_BadCourse c_BadStock c_BadWall c_Clash c_Stock c_Wall :=
    { g_BadCourse := PySem.W.mg_of X G g_BadCourse,
      x_BadCourse := ⟨⟨⟨_, _, _, _, _, _, _, _, _, _, _, _, _, _, _, xL_BadCourse, rv_BadCourse⟩, sa_BadCourse, ex_BadCourse, ty_BadCourse, kc_BadCourse⟩, ⟨ga_BadCourse, gg_BadCourse, ex_BadCourse, hd_BadCourse⟩, Z.exm_of ex_BadCourse ic_BadCourse ty_BadCourse ss_BadCourse⟩,
      q_BadCourse_BadStock := Z.exm_of ex_BadStock ic_BadStock ty_BadStock q_BadCourse_BadStock,
      q_BadCourse_BadWall := Z.exm_of ex_BadWall ic_BadWall ty_BadWall q_BadCourse_BadWall,
      n_BadCourse_index := n_BadCourse_index,
      n_BadCourse_what := n_BadCourse_what,
      g_BadStock := PySem.W.mg_of X G g_BadStock,
      x_BadStock := ⟨⟨⟨_, _, _, _, _, _, _, _, _, _, _, _, _, _, _, xL_BadStock, rv_BadStock⟩, sa_BadStock, ex_BadStock, ty_BadStock, kc_BadStock⟩, ⟨ga_BadStock, gg_BadStock, ex_BadStock, hd_BadStock⟩, Z.exm_of ex_BadStock ic_BadStock ty_BadStock ss_BadStock⟩,
      q_BadStock_BadCourse := Z.exm_of ex_BadCourse ic_BadCourse ty_BadCourse q_BadStock_BadCourse,
      q_BadStock_BadWall := Z.exm_of ex_BadWall ic_BadWall ty_BadWall q_BadStock_BadWall,
      n_BadStock_what := n_BadStock_what,
      g_BadWall := PySem.W.mg_of X G g_BadWall,
      x_BadWall := ⟨⟨⟨_, _, _, _, _, _, _, _, _, _, _, _, _, _, _, xL_BadWall, rv_BadWall⟩, sa_BadWall, ex_BadWall, ty_BadWall, kc_BadWall⟩, ⟨ga_BadWall, gg_BadWall, ex_BadWall, hd_BadWall⟩, Z.exm_of ex_BadWall ic_BadWall ty_BadWall ss_BadWall⟩,
      q_BadWall_BadCourse := Z.exm_of ex_BadCourse ic_BadCourse ty_BadCourse q_BadWall_BadCourse,
      q_BadWall_BadStock := Z.exm_of ex_BadStock ic_BadStock ty_BadStock q_BadWall_BadStock,
      n_BadWall_index := n_BadWall_index,
      n_BadWall_what := n_BadWall_what,
      g_Clash := PySem.W.mg_of X G g_Clash,
      i_Clash := ⟨⟨pg_Clash, hd_Clash, po_Clash, sa_Clash⟩, ha_Clash, hn_Clash, tk_Clash, hm_Clash, me_Clash, nt_Clash, nl_Clash, ns_Clash, nf_Clash⟩,
      n_Clash_lower := n_Clash_lower,
      n_Clash_upper := n_Clash_upper,
      n_Clash_joint := n_Clash_joint,
      n_Clash_other := n_Clash_other,
      g_Stock := PySem.W.mg_of X G g_Stock,
      i_Stock := ⟨⟨pg_Stock, hd_Stock, po_Stock, sa_Stock⟩, ha_Stock, hn_Stock, tk_Stock, hm_Stock, me_Stock, nt_Stock, nl_Stock, ns_Stock, nf_Stock⟩,
      n_Stock_bricks := n_Stock_bricks,
      n_Stock_lap := n_Stock_lap,
      n_Stock_reach := n_Stock_reach,
      g_Wall := PySem.W.mg_of X G g_Wall,
      i_Wall := ⟨⟨pg_Wall, hd_Wall, po_Wall, sa_Wall⟩, ha_Wall, hn_Wall, tk_Wall, hm_Wall, me_Wall, nt_Wall, nl_Wall, ns_Wall, nf_Wall⟩,
      n_Wall_stock := n_Wall_stock,
      n_Wall_courses := n_Wall_courses,
      n_Wall_length := n_Wall_length,
      b_abs := PySem.W.mg_none_of X G z_abs,
      b_all := PySem.W.mg_none_of X G z_all,
      b_bool := PySem.W.mg_none_of X G z_bool,
      b_enumerate := PySem.W.mg_none_of X G z_enumerate,
      b_int := PySem.W.mg_none_of X G z_int,
      b_isinstance := PySem.W.mg_none_of X G z_isinstance,
      b_len := PySem.W.mg_none_of X G z_len,
      b_list := PySem.W.mg_none_of X G z_list,
      b_max := PySem.W.mg_none_of X G z_max,
      b_range := PySem.W.mg_none_of X G z_range,
      b_sorted := PySem.W.mg_none_of X G z_sorted,
      b_sum := PySem.W.mg_none_of X G z_sum,
      b_tuple := PySem.W.mg_none_of X G z_tuple,
      b_zip := PySem.W.mg_none_of X G z_zip,
      d_BadStock___init__ := ⟨f0, _, fun_mk (st := s_BadStock___init__) l0 c0 k0, ⟨a0, t0⟩⟩,
      d_is_sequence := ⟨f1, _, fun_mk (st := s_is_sequence) l1 c1 k1, PySem.W.mg_of X G a1⟩,
      d_is_whole := ⟨f2, _, ⟨⟨_, _, _, _, _, _, _, _, _, _, rfl, l2, c2, He.dflB_ok v2, .inl rfl⟩, k2⟩, PySem.W.mg_of X G a2⟩,
      d__are_bricks := ⟨f3, _, fun_mk (st := s__are_bricks) l3 c3 k3, PySem.W.mg_of X G a3⟩,
      d_Stock___init__ := ⟨f4, _, ⟨⟨_, _, _, _, _, _, _, _, _, _, rfl, l4, c4, He.dflB_ok v4, .inl rfl⟩, k4⟩, ⟨mk_Stock, a4, i4, kc_Stock⟩⟩,
      d_Stock___eq__ := ⟨f5, _, fun_mk (st := s_Stock___eq__) l5 c5 k5, ⟨a5, ne_Stock, i5, hm_Stock⟩⟩,
      d_length_of := ⟨f6, _, fun_mk (st := s_length_of) l6 c6 k6, PySem.W.mg_of X G a6⟩,
      d_BadCourse___init__ := ⟨f7, _, fun_mk (st := s_BadCourse___init__) l7 c7 k7, ⟨a7, t7⟩⟩,
      d_check_course := ⟨f8, _, fun_mk (st := s_check_course) l8 c8 k8, PySem.W.mg_of X G a8⟩,
      d_course_flaw := ⟨f9, _, ⟨⟨_, _, _, _, _, _, _, _, _, _, rfl, l9, c9, He.dflB_ok v9, .inl rfl⟩, k9⟩, PySem.W.mg_of X G a9⟩,
      d_BadWall___init__ := ⟨f10, _, fun_mk (st := s_BadWall___init__) l10 c10 k10, ⟨a10, t10⟩⟩,
      d_course_for := ⟨f11, _, ⟨⟨_, _, _, _, _, _, _, _, _, _, rfl, l11, c11, He.dflB_ok v11, .inl rfl⟩, k11⟩, PySem.W.mg_of X G a11⟩,
      d__checked_courses := ⟨f12, _, fun_mk (st := s__checked_courses) l12 c12 k12, PySem.W.mg_of X G a12⟩,
      d_Wall___init__ := ⟨f13, _, fun_mk (st := s_Wall___init__) l13 c13 k13, ⟨mk_Wall, a13, i13, kc_Wall⟩⟩,
      d__law_mix := ⟨f14, _, fun_mk (st := s__law_mix) l14 c14 k14, PySem.W.mg_of X G a14⟩,
      d__law_draw := ⟨f15, _, fun_mk (st := s__law_draw) l15 c15 k15, PySem.W.mg_of X G a15⟩,
      d__law_stock := ⟨f16, _, fun_mk (st := s__law_stock) l16 c16 k16, PySem.W.mg_of X G a16⟩,
      d__law_told := ⟨f17, _, fun_mk (st := s__law_told) l17 c17 k17, PySem.W.mg_of X G a17⟩,
      d__law_as_sequence := ⟨f18, _, fun_mk (st := s__law_as_sequence) l18 c18 k18, PySem.W.mg_of X G a18⟩,
      d__law_is := ⟨f19, _, fun_mk (st := s__law_is) l19 c19 k19, PySem.W.mg_of X G a19⟩,
      d__law_tuples := ⟨f20, _, fun_mk (st := s__law_tuples) l20 c20 k20, PySem.W.mg_of X G a20⟩,
      d__law_ends := ⟨f21, _, fun_mk (st := s__law_ends) l21 c21 k21, PySem.W.mg_of X G a21⟩,
      d__law_walk := ⟨f22, _, fun_mk (st := s__law_walk) l22 c22 k22, PySem.W.mg_of X G a22⟩,
      d_Wall___eq__ := ⟨f23, _, fun_mk (st := s_Wall___eq__) l23 c23 k23, ⟨a23, ne_Wall, i23, hm_Wall⟩⟩,
      d_Wall___len__ := ⟨f24, _, fun_mk (st := s_Wall___len__) l24 c24 k24, ⟨a24, t24⟩⟩,
      d_Clash___init__ := ⟨f25, _, fun_mk (st := s_Clash___init__) l25 c25 k25, ⟨mk_Clash, a25, i25, kc_Clash⟩⟩,
      d__law_refused := ⟨f26, _, fun_mk (st := s__law_refused) l26 c26 k26, PySem.W.mg_of X G a26⟩,
      d__law_many := ⟨f27, _, fun_mk (st := s__law_many) l27 c27 k27, PySem.W.mg_of X G a27⟩,
      d__law_joints := ⟨f28, _, fun_mk (st := s__law_joints) l28 c28 k28, PySem.W.mg_of X G a28⟩,
      d__law_apart := ⟨f29, _, fun_mk (st := s__law_apart) l29 c29 k29, PySem.W.mg_of X G a29⟩,
      d__law_fits := ⟨f30, _, fun_mk (st := s__law_fits) l30 c30 k30, PySem.W.mg_of X G a30⟩,
      d__law_laid_on := ⟨f31, _, fun_mk (st := s__law_laid_on) l31 c31 k31, PySem.W.mg_of X G a31⟩,
      d__law_good := ⟨f32, _, fun_mk (st := s__law_good) l32 c32 k32, PySem.W.mg_of X G a32⟩,
      d__law_rows := ⟨f33, _, fun_mk (st := s__law_rows) l33 c33 k33, PySem.W.mg_of X G a33⟩,
      d__law_bad_course := ⟨f34, _, fun_mk (st := s__law_bad_course) l34 c34 k34, PySem.W.mg_of X G a34⟩,
      d__law_other_length := ⟨f35, _, fun_mk (st := s__law_other_length) l35 c35 k35, PySem.W.mg_of X G a35⟩,
      d__law_spoilt := ⟨f36, _, fun_mk (st := s__law_spoilt) l36 c36 k36, PySem.W.mg_of X G a36⟩,
      d__law_some_rows := ⟨f37, _, fun_mk (st := s__law_some_rows) l37 c37 k37, PySem.W.mg_of X G a37⟩,
      d__law_hand := ⟨f38, _, fun_mk (st := s__law_hand) l38 c38 k38, PySem.W.mg_of X G a38⟩,
      d_law := ⟨fa, _, fun_mk (st := s_law) l39 c39 k39, PySem.W.mg_of X G a39⟩,
      nf_Wall_Clash := nf_Wall_Clash,
      ko_Clash_Wall := ko_Clash_Wall }
  exact ⟨PySem.W.fnOf "law" "law" (defArgs s_law) (defBody s_law) (defScope s_law) .none kV39 dc39 pm39 an39 cd39 ct39, fun s u => .of_eq rfl, fun base _ _ => fn_law T (fun_mk (st := s_law) l39 c39 k39)⟩
theorem walk {l : PySem.W.OpenLaw} {q : Program} {loose : List Str} {XP : (Str → Option Value) → Heap → Prop} {YP : World → Heap → Prop}
    {d : DefRec} {K : Params → PySem.W.Frag} (hn : l.most = some 63) (hdf : d.params.defaults = [])
    (hY : ∀ (w : World) (h : Heap),
          YP w h → (K w.params).In h)
    (F : ∀ (w : World) (mg : Str → Option Value) (fa : Addr) (h : Heap),
      (K w.params).In h → h.Ns mainGlobals mg → mg d.name = some (.ref fa) →
      ∃ fd : FuncData, (∀ (s : Shared) (u : Value), BindsTo s fd ⟨[u], []⟩ [("_law_script", u)]) ∧
        ∀ base : Heap, (K w.params).In base → base.Ns mainGlobals mg → FnOk l.prog w (K w.params) mg base CX0 11 fa fd ["_law_script"] (sp_law (K w.params))) :
    PySem.W.WalkO q loose XP YP l.row.toRowW
          d [] (fun f vs => PySem.call f vs) :=
  L2.walk_of (n := 63) (k := 11) (x := "_law_script") (CX := fun _ => CX0) (sp := fun w => sp_law (K w.params)) hn (by decide) hdf ⟨rfl, by decide, by decide⟩
    hY F (fun _ _ a ns hl _ hS => ⟨_, rfl, a, ns, rfl, hS, hl, fun _ => rfl⟩) fun _ _ _ _ _ z => z
end
end M
open PySem PySem.W
      PyProof.Rows
set_option
      maxRecDepth 100000 in
set_option maxHeartbeats 0 in
theorem PySem.Challenge.cw_jointsapart_k09_courses_made_and_refused_holds : PySem.Challenge.rw_jointsapart_k09_courses_made_and_refused.Holds := by
  w_on; o_law; k_head;
        (case hw => w_witness2)
  k_fill
  refine M.walk (l := PySem.Challenge.rw_jointsapart_k09_courses_made_and_refused) rfl rfl (fun w h Y => PySem.W.kIn_of Y) ?F
  case F =>
    intro w mg fa h KX G hmg
    refine' M.all_facts (l := PySem.Challenge.rw_jointsapart_k09_courses_made_and_refused) KX G hmg ?h_g_BadCourse ?h_xL_BadCourse ?h_rv_BadCourse ?h_sa_BadCourse ?h_ex_BadCourse ?h_ty_BadCourse ?h_kc_BadCourse ?h_ga_BadCourse ?h_gg_BadCourse ?h_hd_BadCourse ?h_ic_BadCourse ?h_ss_BadCourse ?h_n_BadCourse_index ?h_n_BadCourse_what ?h_g_BadStock ?h_xL_BadStock ?h_rv_BadStock ?h_sa_BadStock ?h_ex_BadStock ?h_ty_BadStock ?h_kc_BadStock ?h_ga_BadStock ?h_gg_BadStock ?h_hd_BadStock ?h_ic_BadStock ?h_ss_BadStock ?h_n_BadStock_what ?h_g_BadWall ?h_xL_BadWall ?h_rv_BadWall ?h_sa_BadWall ?h_ex_BadWall ?h_ty_BadWall ?h_kc_BadWall ?h_ga_BadWall ?h_gg_BadWall ?h_hd_BadWall ?h_ic_BadWall ?h_ss_BadWall ?h_n_BadWall_index ?h_n_BadWall_what ?h_g_Clash ?h_pg_Clash ?h_hd_Clash ?h_po_Clash ?h_sa_Clash ?h_ha_Clash ?h_hn_Clash ?h_tk_Clash ?h_hm_Clash ?h_me_Clash ?h_nt_Clash ?h_nl_Clash ?h_ns_Clash ?h_nf_Clash ?h_n_Clash_lower ?h_n_Clash_upper ?h_n_Clash_joint ?h_n_Clash_other ?h_g_Stock ?h_pg_Stock ?h_hd_Stock ?h_po_Stock ?h_sa_Stock ?h_ha_Stock ?h_hn_Stock ?h_tk_Stock ?h_hm_Stock ?h_me_Stock ?h_nt_Stock ?h_nl_Stock ?h_ns_Stock ?h_nf_Stock ?h_n_Stock_bricks ?h_n_Stock_lap ?h_n_Stock_reach ?h_g_Wall ?h_pg_Wall ?h_hd_Wall ?h_po_Wall ?h_sa_Wall ?h_ha_Wall ?h_hn_Wall ?h_tk_Wall ?h_hm_Wall ?h_me_Wall ?h_nt_Wall ?h_nl_Wall ?h_ns_Wall ?h_nf_Wall ?h_n_Wall_stock ?h_n_Wall_courses ?h_n_Wall_length ?h_z_abs ?h_z_all ?h_z_bool ?h_z_enumerate ?h_z_int ?h_z_isinstance ?h_z_len ?h_z_list ?h_z_max ?h_z_range ?h_z_sorted ?h_z_sum ?h_z_tuple ?h_z_zip ?h_a0 ?h_l0 ?h_c0 ?h_k0 ?h_t0 ?h_a1 ?h_l1 ?h_c1 ?h_k1 ?h_a2 ?h_l2 ?h_c2 ?h_k2 ?h_v2 ?h_a3 ?h_l3 ?h_c3 ?h_k3 ?h_a4 ?h_l4 ?h_c4 ?h_k4 ?h_v4 ?h_i4 ?h_mk_Stock ?h_kc_Stock ?h_a5 ?h_l5 ?h_c5 ?h_k5 ?h_i5 ?h_ne_Stock ?h_a6 ?h_l6 ?h_c6 ?h_k6 ?h_a7 ?h_l7 ?h_c7 ?h_k7 ?h_t7 ?h_a8 ?h_l8 ?h_c8 ?h_k8 ?h_a9 ?h_l9 ?h_c9 ?h_k9 ?h_v9 ?h_a10 ?h_l10 ?h_c10 ?h_k10 ?h_t10 ?h_a11 ?h_l11 ?h_c11 ?h_k11 ?h_v11 ?h_a12 ?h_l12 ?h_c12 ?h_k12 ?h_a13 ?h_l13 ?h_c13 ?h_k13 ?h_i13 ?h_mk_Wall ?h_kc_Wall ?h_a14 ?h_l14 ?h_c14 ?h_k14 ?h_a15 ?h_l15 ?h_c15 ?h_k15 ?h_a16 ?h_l16 ?h_c16 ?h_k16 ?h_a17 ?h_l17 ?h_c17 ?h_k17 ?h_a18 ?h_l18 ?h_c18 ?h_k18 ?h_a19 ?h_l19 ?h_c19 ?h_k19 ?h_a20 ?h_l20 ?h_c20 ?h_k20 ?h_a21 ?h_l21 ?h_c21 ?h_k21 ?h_a22 ?h_l22 ?h_c22 ?h_k22 ?h_a23 ?h_l23 ?h_c23 ?h_k23 ?h_i23 ?h_ne_Wall ?h_a24 ?h_l24 ?h_c24 ?h_k24 ?h_t24 ?h_a25 ?h_l25 ?h_c25 ?h_k25 ?h_i25 ?h_mk_Clash ?h_kc_Clash ?h_a26 ?h_l26 ?h_c26 ?h_k26 ?h_a27 ?h_l27 ?h_c27 ?h_k27 ?h_a28 ?h_l28 ?h_c28 ?h_k28 ?h_a29 ?h_l29 ?h_c29 ?h_k29 ?h_a30 ?h_l30 ?h_c30 ?h_k30 ?h_a31 ?h_l31 ?h_c31 ?h_k31 ?h_a32 ?h_l32 ?h_c32 ?h_k32 ?h_a33 ?h_l33 ?h_c33 ?h_k33 ?h_a34 ?h_l34 ?h_c34 ?h_k34 ?h_a35 ?h_l35 ?h_c35 ?h_k35 ?h_a36 ?h_l36 ?h_c36 ?h_k36 ?h_a37 ?h_l37 ?h_c37 ?h_k37 ?h_a38 ?h_l38 ?h_c38 ?h_k38 ?h_a39 ?h_l39 ?h_c39 ?h_k39 ?h_q_BadCourse_BadStock ?h_q_BadCourse_BadWall ?h_q_BadStock_BadCourse ?h_q_BadStock_BadWall ?h_q_BadWall_BadCourse ?h_q_BadWall_BadStock ?h_nf_Wall_Clash ?h_ko_Clash_Wall
    case h_g_BadCourse => first | k_is | rfl | decide +kernel
    case h_xL_BadCourse => first | k_is | rfl | decide +kernel
    case h_rv_BadCourse => first | k_is | rfl | decide +kernel
    case h_sa_BadCourse => first | k_is | rfl | decide +kernel
    case h_ex_BadCourse => first | k_is | rfl | decide +kernel
    case h_ty_BadCourse => first | k_is | rfl | decide +kernel
    case h_kc_BadCourse => first | k_is | rfl | decide +kernel
    case h_ga_BadCourse => first | k_is | rfl | decide +kernel
    case h_gg_BadCourse => first | k_is | rfl | decide +kernel
    case h_hd_BadCourse => first | k_is | rfl | decide +kernel
    case h_ic_BadCourse => first | k_is | rfl | decide +kernel
    case h_ss_BadCourse => first | k_is | rfl | decide +kernel
    case h_n_BadCourse_index => first | k_is | rfl | decide +kernel
    case h_n_BadCourse_what => first | k_is | rfl | decide +kernel
    case h_g_BadStock => first | k_is | rfl | decide +kernel
    case h_xL_BadStock => first | k_is | rfl | decide +kernel
    case h_rv_BadStock => first | k_is | rfl | decide +kernel
    case h_sa_BadStock => first | k_is | rfl | decide +kernel
    case h_ex_BadStock => first | k_is | rfl | decide +kernel
    case h_ty_BadStock => first | k_is | rfl | decide +kernel
    case h_kc_BadStock => first | k_is | rfl | decide +kernel
    case h_ga_BadStock => first | k_is | rfl | decide +kernel
    case h_gg_BadStock => first | k_is | rfl | decide +kernel
    case h_hd_BadStock => first | k_is | rfl | decide +kernel
    case h_ic_BadStock => first | k_is | rfl | decide +kernel
    case h_ss_BadStock => first | k_is | rfl | decide +kernel
    case h_n_BadStock_what => first | k_is | rfl | decide +kernel
    case h_g_BadWall => first | k_is | rfl | decide +kernel
    case h_xL_BadWall => first | k_is | rfl | decide +kernel
    case h_rv_BadWall => first | k_is | rfl | decide +kernel
    case h_sa_BadWall => first | k_is | rfl | decide +kernel
    case h_ex_BadWall => first | k_is | rfl | decide +kernel
    case h_ty_BadWall => first | k_is | rfl | decide +kernel
    case h_kc_BadWall => first | k_is | rfl | decide +kernel
    case h_ga_BadWall => first | k_is | rfl | decide +kernel
    case h_gg_BadWall => first | k_is | rfl | decide +kernel
    case h_hd_BadWall => first | k_is | rfl | decide +kernel
    case h_ic_BadWall => first | k_is | rfl | decide +kernel
    case h_ss_BadWall => first | k_is | rfl | decide +kernel
    case h_n_BadWall_index => first | k_is | rfl | decide +kernel
    case h_n_BadWall_what => first | k_is | rfl | decide +kernel
    case h_g_Clash => first | k_is | rfl | decide +kernel
    case h_pg_Clash => first | k_is | rfl | decide +kernel
    case h_hd_Clash => first | k_is | rfl | decide +kernel
    case h_po_Clash => first | k_is | rfl | decide +kernel
    case h_sa_Clash => first | k_is | rfl | decide +kernel
    case h_ha_Clash => first | k_is | rfl | decide +kernel
    case h_hn_Clash => first | k_is | rfl | decide +kernel
    case h_tk_Clash => first | k_is | rfl | decide +kernel
    case h_hm_Clash => first | k_is | rfl | decide +kernel
    case h_me_Clash => first | k_is | rfl | decide +kernel
    case h_nt_Clash => first | k_is | rfl | decide +kernel
    case h_nl_Clash => first | k_is | rfl | decide +kernel
    case h_ns_Clash => first | k_is | rfl | decide +kernel
    case h_nf_Clash => first | k_is | rfl | decide +kernel
    case h_n_Clash_lower => first | k_is | rfl | decide +kernel
    case h_n_Clash_upper => first | k_is | rfl | decide +kernel
    case h_n_Clash_joint => first | k_is | rfl | decide +kernel
    case h_n_Clash_other => first | k_is | rfl | decide +kernel
    case h_g_Stock => first | k_is | rfl | decide +kernel
    case h_pg_Stock => first | k_is | rfl | decide +kernel
    case h_hd_Stock => first | k_is | rfl | decide +kernel
    case h_po_Stock => first | k_is | rfl | decide +kernel
    case h_sa_Stock => first | k_is | rfl | decide +kernel
    case h_ha_Stock => first | k_is | rfl | decide +kernel
    case h_hn_Stock => first | k_is | rfl | decide +kernel
    case h_tk_Stock => first | k_is | rfl | decide +kernel
    case h_hm_Stock => first | k_is | rfl | decide +kernel
    case h_me_Stock => first | k_is | rfl | decide +kernel
    case h_nt_Stock => first | k_is | rfl | decide +kernel
    case h_nl_Stock => first | k_is | rfl | decide +kernel
    case h_ns_Stock => first | k_is | rfl | decide +kernel
    case h_nf_Stock => first | k_is | rfl | decide +kernel
    case h_n_Stock_bricks => first | k_is | rfl | decide +kernel
    case h_n_Stock_lap => first | k_is | rfl | decide +kernel
    case h_n_Stock_reach => first | k_is | rfl | decide +kernel
    case h_g_Wall => first | k_is | rfl | decide +kernel
    case h_pg_Wall => first | k_is | rfl | decide +kernel
    case h_hd_Wall => first | k_is | rfl | decide +kernel
    case h_po_Wall => first | k_is | rfl | decide +kernel
    case h_sa_Wall => first | k_is | rfl | decide +kernel
    case h_ha_Wall => first | k_is | rfl | decide +kernel
    case h_hn_Wall => first | k_is | rfl | decide +kernel
    case h_tk_Wall => first | k_is | rfl | decide +kernel
    case h_hm_Wall => first | k_is | rfl | decide +kernel
    case h_me_Wall => first | k_is | rfl | decide +kernel
    case h_nt_Wall => first | k_is | rfl | decide +kernel
    case h_nl_Wall => first | k_is | rfl | decide +kernel
    case h_ns_Wall => first | k_is | rfl | decide +kernel
    case h_nf_Wall => first | k_is | rfl | decide +kernel
    case h_n_Wall_stock => first | k_is | rfl | decide +kernel
    case h_n_Wall_courses => first | k_is | rfl | decide +kernel
    case h_n_Wall_length => first | k_is | rfl | decide +kernel
    case h_z_abs => first | k_is | rfl | decide +kernel
    case h_z_all => first | k_is | rfl | decide +kernel
    case h_z_bool => first | k_is | rfl | decide +kernel
    case h_z_enumerate => first | k_is | rfl | decide +kernel
    case h_z_int => first | k_is | rfl | decide +kernel
    case h_z_isinstance => first | k_is | rfl | decide +kernel
    case h_z_len => first | k_is | rfl | decide +kernel
    case h_z_list => first | k_is | rfl | decide +kernel
    case h_z_max => first | k_is | rfl | decide +kernel
    case h_z_range => first | k_is | rfl | decide +kernel
    case h_z_sorted => first | k_is | rfl | decide +kernel
    case h_z_sum => first | k_is | rfl | decide +kernel
    case h_z_tuple => first | k_is | rfl | decide +kernel
    case h_z_zip => first | k_is | rfl | decide +kernel
    case h_a0 => first | k_is | rfl | decide +kernel
    case h_l0 => first | k_is | rfl | decide +kernel
    case h_c0 => first | k_is | rfl | decide +kernel
    case h_k0 => first | k_is | rfl | decide +kernel
    case h_t0 => first | k_is | rfl | decide +kernel
    case h_a1 => first | k_is | rfl | decide +kernel
    case h_l1 => first | k_is | rfl | decide +kernel
    case h_c1 => first | k_is | rfl | decide +kernel
    case h_k1 => first | k_is | rfl | decide +kernel
    case h_a2 => first | k_is | rfl | decide +kernel
    case h_l2 => first | k_is | rfl | decide +kernel
    case h_c2 => first | k_is | rfl | decide +kernel
    case h_k2 => first | k_is | rfl | decide +kernel
    case h_v2 => first | k_is | rfl | decide +kernel
    case h_a3 => first | k_is | rfl | decide +kernel
    case h_l3 => first | k_is | rfl | decide +kernel
    case h_c3 => first | k_is | rfl | decide +kernel
    case h_k3 => first | k_is | rfl | decide +kernel
    case h_a4 => first | k_is | rfl | decide +kernel
    case h_l4 => first | k_is | rfl | decide +kernel
    case h_c4 => first | k_is | rfl | decide +kernel
    case h_k4 => first | k_is | rfl | decide +kernel
    case h_v4 => first | k_is | rfl | decide +kernel
    case h_i4 => first | k_is | rfl | decide +kernel
    case h_mk_Stock => first | k_is | rfl | decide +kernel
    case h_kc_Stock => first | k_is | rfl | decide +kernel
    case h_a5 => first | k_is | rfl | decide +kernel
    case h_l5 => first | k_is | rfl | decide +kernel
    case h_c5 => first | k_is | rfl | decide +kernel
    case h_k5 => first | k_is | rfl | decide +kernel
    case h_i5 => first | k_is | rfl | decide +kernel
    case h_ne_Stock => first | k_is | rfl | decide +kernel
    case h_a6 => first | k_is | rfl | decide +kernel
    case h_l6 => first | k_is | rfl | decide +kernel
    case h_c6 => first | k_is | rfl | decide +kernel
    case h_k6 => first | k_is | rfl | decide +kernel
    case h_a7 => first | k_is | rfl | decide +kernel
    case h_l7 => first | k_is | rfl | decide +kernel
    case h_c7 => first | k_is | rfl | decide +kernel
    case h_k7 => first | k_is | rfl | decide +kernel
    case h_t7 => first | k_is | rfl | decide +kernel
    case h_a8 => first | k_is | rfl | decide +kernel
    case h_l8 => first | k_is | rfl | decide +kernel
    case h_c8 => first | k_is | rfl | decide +kernel
    case h_k8 => first | k_is | rfl | decide +kernel
    case h_a9 => first | k_is | rfl | decide +kernel
    case h_l9 => first | k_is | rfl | decide +kernel
    case h_c9 => first | k_is | rfl | decide +kernel
    case h_k9 => first | k_is | rfl | decide +kernel
    case h_v9 => first | k_is | rfl | decide +kernel
    case h_a10 => first | k_is | rfl | decide +kernel
    case h_l10 => first | k_is | rfl | decide +kernel
    case h_c10 => first | k_is | rfl | decide +kernel
    case h_k10 => first | k_is | rfl | decide +kernel
    case h_t10 => first | k_is | rfl | decide +kernel
    case h_a11 => first | k_is | rfl | decide +kernel
    case h_l11 => first | k_is | rfl | decide +kernel
    case h_c11 => first | k_is | rfl | decide +kernel
    case h_k11 => first | k_is | rfl | decide +kernel
    case h_v11 => first | k_is | rfl | decide +kernel
    case h_a12 => first | k_is | rfl | decide +kernel
    case h_l12 => first | k_is | rfl | decide +kernel
    case h_c12 => first | k_is | rfl | decide +kernel
    case h_k12 => first | k_is | rfl | decide +kernel
    case h_a13 => first | k_is | rfl | decide +kernel
    case h_l13 => first | k_is | rfl | decide +kernel
    case h_c13 => first | k_is | rfl | decide +kernel
    case h_k13 => first | k_is | rfl | decide +kernel
    case h_i13 => first | k_is | rfl | decide +kernel
    case h_mk_Wall => first | k_is | rfl | decide +kernel
    case h_kc_Wall => first | k_is | rfl | decide +kernel
    case h_a14 => first | k_is | rfl | decide +kernel
    case h_l14 => first | k_is | rfl | decide +kernel
    case h_c14 => first | k_is | rfl | decide +kernel
    case h_k14 => first | k_is | rfl | decide +kernel
    case h_a15 => first | k_is | rfl | decide +kernel
    case h_l15 => first | k_is | rfl | decide +kernel
    case h_c15 => first | k_is | rfl | decide +kernel
    case h_k15 => first | k_is | rfl | decide +kernel
    case h_a16 => first | k_is | rfl | decide +kernel
    case h_l16 => first | k_is | rfl | decide +kernel
    case h_c16 => first | k_is | rfl | decide +kernel
    case h_k16 => first | k_is | rfl | decide +kernel
    case h_a17 => first | k_is | rfl | decide +kernel
    case h_l17 => first | k_is | rfl | decide +kernel
    case h_c17 => first | k_is | rfl | decide +kernel
    case h_k17 => first | k_is | rfl | decide +kernel
    case h_a18 => first | k_is | rfl | decide +kernel
    case h_l18 => first | k_is | rfl | decide +kernel
    case h_c18 => first | k_is | rfl | decide +kernel
    case h_k18 => first | k_is | rfl | decide +kernel
    case h_a19 => first | k_is | rfl | decide +kernel
    case h_l19 => first | k_is | rfl | decide +kernel
    case h_c19 => first | k_is | rfl | decide +kernel
    case h_k19 => first | k_is | rfl | decide +kernel
    case h_a20 => first | k_is | rfl | decide +kernel
    case h_l20 => first | k_is | rfl | decide +kernel
    case h_c20 => first | k_is | rfl | decide +kernel
    case h_k20 => first | k_is | rfl | decide +kernel
    case h_a21 => first | k_is | rfl | decide +kernel
    case h_l21 => first | k_is | rfl | decide +kernel
    case h_c21 => first | k_is | rfl | decide +kernel
    case h_k21 => first | k_is | rfl | decide +kernel
    case h_a22 => first | k_is | rfl | decide +kernel
    case h_l22 => first | k_is | rfl | decide +kernel
    case h_c22 => first | k_is | rfl | decide +kernel
    case h_k22 => first | k_is | rfl | decide +kernel
    case h_a23 => first | k_is | rfl | decide +kernel
    case h_l23 => first | k_is | rfl | decide +kernel
    case h_c23 => first | k_is | rfl | decide +kernel
    case h_k23 => first | k_is | rfl | decide +kernel
    case h_i23 => first | k_is | rfl | decide +kernel
    case h_ne_Wall => first | k_is | rfl | decide +kernel
    case h_a24 => first | k_is | rfl | decide +kernel
    case h_l24 => first | k_is | rfl | decide +kernel
    case h_c24 => first | k_is | rfl | decide +kernel
    case h_k24 => first | k_is | rfl | decide +kernel
    case h_t24 => first | k_is | rfl | decide +kernel
    case h_a25 => first | k_is | rfl | decide +kernel
    case h_l25 => first | k_is | rfl | decide +kernel
    case h_c25 => first | k_is | rfl | decide +kernel
    case h_k25 => first | k_is | rfl | decide +kernel
    case h_i25 => first | k_is | rfl | decide +kernel
    case h_mk_Clash => first | k_is | rfl | decide +kernel
    case h_kc_Clash => first | k_is | rfl | decide +kernel
    case h_a26 => first | k_is | rfl | decide +kernel
    case h_l26 => first | k_is | rfl | decide +kernel
    case h_c26 => first | k_is | rfl | decide +kernel
    case h_k26 => first | k_is | rfl | decide +kernel
    case h_a27 => first | k_is | rfl | decide +kernel
    case h_l27 => first | k_is | rfl | decide +kernel
    case h_c27 => first | k_is | rfl | decide +kernel
    case h_k27 => first | k_is | rfl | decide +kernel
    case h_a28 => first | k_is | rfl | decide +kernel
    case h_l28 => first | k_is | rfl | decide +kernel
    case h_c28 => first | k_is | rfl | decide +kernel
    case h_k28 => first | k_is | rfl | decide +kernel
    case h_a29 => first | k_is | rfl | decide +kernel
    case h_l29 => first | k_is | rfl | decide +kernel
    case h_c29 => first | k_is | rfl | decide +kernel
    case h_k29 => first | k_is | rfl | decide +kernel
    case h_a30 => first | k_is | rfl | decide +kernel
    case h_l30 => first | k_is | rfl | decide +kernel
    case h_c30 => first | k_is | rfl | decide +kernel
    case h_k30 => first | k_is | rfl | decide +kernel
    case h_a31 => first | k_is | rfl | decide +kernel
    case h_l31 => first | k_is | rfl | decide +kernel
    case h_c31 => first | k_is | rfl | decide +kernel
    case h_k31 => first | k_is | rfl | decide +kernel
    case h_a32 => first | k_is | rfl | decide +kernel
    case h_l32 => first | k_is | rfl | decide +kernel
    case h_c32 => first | k_is | rfl | decide +kernel
    case h_k32 => first | k_is | rfl | decide +kernel
    case h_a33 => first | k_is | rfl | decide +kernel
    case h_l33 => first | k_is | rfl | decide +kernel
    case h_c33 => first | k_is | rfl | decide +kernel
    case h_k33 => first | k_is | rfl | decide +kernel
    case h_a34 => first | k_is | rfl | decide +kernel
    case h_l34 => first | k_is | rfl | decide +kernel
    case h_c34 => first | k_is | rfl | decide +kernel
    case h_k34 => first | k_is | rfl | decide +kernel
    case h_a35 => first | k_is | rfl | decide +kernel
    case h_l35 => first | k_is | rfl | decide +kernel
    case h_c35 => first | k_is | rfl | decide +kernel
    case h_k35 => first | k_is | rfl | decide +kernel
    case h_a36 => first | k_is | rfl | decide +kernel
    case h_l36 => first | k_is | rfl | decide +kernel
    case h_c36 => first | k_is | rfl | decide +kernel
    case h_k36 => first | k_is | rfl | decide +kernel
    case h_a37 => first | k_is | rfl | decide +kernel
    case h_l37 => first | k_is | rfl | decide +kernel
    case h_c37 => first | k_is | rfl | decide +kernel
    case h_k37 => first | k_is | rfl | decide +kernel
    case h_a38 => first | k_is | rfl | decide +kernel
    case h_l38 => first | k_is | rfl | decide +kernel
    case h_c38 => first | k_is | rfl | decide +kernel
    case h_k38 => first | k_is | rfl | decide +kernel
    case h_a39 => first | k_is | rfl | decide +kernel
    case h_l39 => first | k_is | rfl | decide +kernel
    case h_c39 => first | k_is | rfl | decide +kernel
    case h_k39 => first | k_is | rfl | decide +kernel
    case h_q_BadCourse_BadStock => first | k_is | rfl | decide +kernel
    case h_q_BadCourse_BadWall => first | k_is | rfl | decide +kernel
    case h_q_BadStock_BadCourse => first | k_is | rfl | decide +kernel
    case h_q_BadStock_BadWall => first | k_is | rfl | decide +kernel
    case h_q_BadWall_BadCourse => first | k_is | rfl | decide +kernel
    case h_q_BadWall_BadStock => first | k_is | rfl | decide +kernel
    case h_nf_Wall_Clash => first | k_is | rfl | decide +kernel
    case h_ko_Clash_Wall => first | k_is | rfl | decide +kernel