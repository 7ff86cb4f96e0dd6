import PyProof.Rows.All
import Wide.All
import OpenK.AllK
import Wide.FinOn
import HandS.ForExc
import HandS.Comp
import HandS.Iter
import HandS.Wide
import HandS.IsInst
import HandS.TupLe
import HandS.Flow
import HandS.Defaults
import HandS.MakeKw
import HandS.ExcInit
import HandS.ExcField
import HandS.TryMany
import HandS.Zip
import HandS.OwnEq
import HandS.Property
import HandS.TupMul
import HandS.Conv
import HandS.Style
import HandS.Star
import HandS.Rev
import HandS.Small
import HandS.Walk
import KE.GoesEnum
import KE.GoesMore
import KE.KTupSum
import HandS.TupAny
import HandS.RevTup
import HandS.Gcd
import KE.KMathGC
import PyProof.LongRange
import HandS.HeadHook2
import HandS.Ends
import PySem.Challenge.RW_jointsapart_k60_whole_stronger_for_every
set_option Elab.async false
set_option linter.all false
set_option maxRecDepth 100000
/-! ### Z: a ledger of what stands in the heap, and rules for readings over it -/
namespace Z
open PySem L2
/-- an entry of the ledger: an object with all that it holds; the draws' list l with its cells c -/
inductive En where
  | ob (a : Addr) (o : HO)
  | hand (l c : Addr)
def En.fp : En → List Addr
  | .ob a _ => [a]
  | .hand l c => [l, c]
def HandAt (H : Hp) (l c : Addr) : Prop := ∃ (ns : List Int) (i j t : Int), 0 ≤ i ∧ H l = some (.lst [.ref c, .int i, .int j, .int t]) ∧ H c = some (.lst (ns.map V.int))
def En.sat (H : Hp) : En → Prop
  | .ob a o => H a = some o
  | .hand l c => HandAt H l c
def Fx (H : Hp) (L : List En) : Prop := (∀ e ∈ L, e.sat H) ∧ (L.flatMap En.fp).Nodup
theorem En.there {H : Hp} {e : En} (h : e.sat H) {a : Addr} (ha : a ∈ e.fp) : ∃ o, H a = some o := by
  cases e with
  | ob b o =>
    have e : a = b := List.mem_singleton.mp ha
    subst e
    exact ⟨o, h⟩
  | hand l c =>
    obtain ⟨ns, i, j, t, h0, h1, h2⟩ := (show HandAt H l c from h)
    rcases List.mem_cons.mp (show a ∈ [l, c] from ha) with e | e
    · subst e
      exact ⟨_, h1⟩
    · have e := List.mem_singleton.mp e
      subst e
      exact ⟨_, h2⟩
theorem En.keep {H H' : Hp} {e : En} (h : e.sat H) (k : ∀ a ∈ e.fp, ∀ o, H a = some o → H' a = some o) : e.sat H' := by
  cases e with
  | ob b o => exact k b List.mem_cons_self o h
  | hand l c =>
    obtain ⟨ns, i, j, t, h0, h1, h2⟩ := (show HandAt H l c from h)
    exact ⟨ns, i, j, t, h0, k l List.mem_cons_self _ h1, k c (List.mem_cons_of_mem _ List.mem_cons_self) _ h2⟩
section
variable {H H' : Hp} {L L' : List En} {a p : Addr} {o o' : HO}
theorem Fx.get (F : Fx H L) (h : En.ob a o ∈ L) : H a = some o := F.1 _ h
theorem Fx.gh {l c : Addr} (F : Fx H L) (h : En.hand l c ∈ L) : HandAt H l c := F.1 _ h
theorem Fx.nil : Fx H [] := ⟨fun e h => (nomatch h), List.nodup_nil⟩
theorem Fx.notin (F : Fx H L) (h : H p = none) : p ∉ L.flatMap En.fp := fun hp => by
  obtain ⟨e, he, ha⟩ := List.mem_flatMap.mp hp
  obtain ⟨o, q⟩ := En.there (F.1 e he) ha
  rw [h] at q
  cases q
theorem Fx.new (F : Fx H L) (h : H p = none) : Fx (upd H p o) (.ob p o :: L) := by
  have ni := F.notin h
  refine ⟨fun e he => ?_, ?_⟩
  · rcases List.mem_cons.mp he with e1 | he
    · subst e1
      exact upd_same
    · refine En.keep (F.1 e he) fun a ha o q => ?_
      rw [upd_ne (ne_of_none q h)]
      exact q
  · show (p :: L.flatMap En.fp).Nodup
    exact List.nodup_cons.mpr ⟨ni, F.2⟩
theorem Fx.same (F : Fx H L) (k : Same H H') : Fx H' L := ⟨fun e he => En.keep (F.1 e he) fun a _ o q => k a o q, F.2⟩
theorem Fx.add (F : Fx H L) (h : H p = some o) (n : p ∉ L.flatMap En.fp) : Fx H (.ob p o :: L) := by
  refine ⟨fun e he => ?_, ?_⟩
  · rcases List.mem_cons.mp he with e1 | he
    · subst e1
      exact h
    · exact F.1 e he
  · show (p :: L.flatMap En.fp).Nodup
    exact List.nodup_cons.mpr ⟨n, F.2⟩
theorem Fx.sub (F : Fx H L) (h : L'.Sublist L) : Fx H L' := by
  refine ⟨fun e he => F.1 e (h.subset he), ?_⟩
  have : (L'.flatMap En.fp).Sublist (L.flatMap En.fp) := by
    induction h with
    | slnil => exact List.Sublist.refl _
    | cons a _ ih =>
      rw [List.flatMap_cons]
      exact List.Sublist.trans (ih ⟨fun e he => F.1 e (List.mem_cons_of_mem _ he), (List.nodup_append.mp (by have := F.2; rwa [List.flatMap_cons] at this)).2.1⟩) (List.sublist_append_right _ _)
    | cons_cons a _ ih =>
      rw [List.flatMap_cons, List.flatMap_cons]
      exact (List.Sublist.refl _).append (ih ⟨fun e he => F.1 e (List.mem_cons_of_mem _ he), (List.nodup_append.mp (by have := F.2; rwa [List.flatMap_cons] at this)).2.1⟩)
  exact List.Sublist.nodup this F.2
/-- p's object is exchanged -/
inductive Put (p : Addr) (o' : HO) : List En → List En → Prop where
  | head {o : HO} {L : List En} : Put p o' (.ob p o :: L) (.ob p o' :: L)
  | tail {e : En} {L L' : List En} (h : Put p o' L L') : Put p o' (e :: L) (e :: L')
theorem Put.fps (h : Put p o' L L') : L'.flatMap En.fp = L.flatMap En.fp := by
  induction h with
  | head => rfl
  | tail _ ih => rw [List.flatMap_cons, List.flatMap_cons, ih]
theorem Put.mem (h : Put p o' L L') : p ∈ L.flatMap En.fp := by
  induction h with
  | head => exact List.mem_cons_self
  | tail _ ih =>
    rw [List.flatMap_cons]
    exact List.mem_append_right _ ih
theorem Put.sat (h : Put p o' L L') (nd : (L.flatMap En.fp).Nodup) (s : ∀ e ∈ L, e.sat H) : ∀ e ∈ L', e.sat (upd H p o') := by
  induction h with
  | @head o L =>
    intro e he
    rcases List.mem_cons.mp he with e1 | he
    · subst e1
      exact upd_same
    · refine En.keep (s e (List.mem_cons_of_mem _ he)) fun a ha u q => ?_
      have n := (List.nodup_cons.mp (show (p :: L.flatMap En.fp).Nodup from nd)).1
      rw [upd_ne (fun z => n (by rw [← z]; exact List.mem_flatMap.mpr ⟨e, he, ha⟩))]
      exact q
  | @tail x L L' h ih =>
    rw [List.flatMap_cons] at nd
    obtain ⟨n1, n2, n3⟩ := List.nodup_append.mp nd
    intro e he
    rcases List.mem_cons.mp he with e1 | he
    · subst e1
      refine En.keep (s e List.mem_cons_self) fun a ha u q => ?_
      rw [upd_ne (n3 a ha p h.mem)]
      exact q
    · exact ih n2 (fun e he => s e (List.mem_cons_of_mem _ he)) e he
theorem Fx.put (F : Fx H L) (h : Put p o' L L') : Fx (upd H p o') L' := ⟨h.sat F.2 F.1, by rw [h.fps]; exact F.2⟩
/-- all but the list l stands; the draws go on at l -/
theorem Fx.drawn {l c : Addr} (F : Fx H L) (h : En.hand l c ∈ L) (k : ∀ b o, H b = some o → b ≠ l → H' b = some o) (d : HandAt H' l c) : Fx H' L := by
  refine ⟨fun e he => ?_, F.2⟩
  by_cases hl : l ∈ e.fp
  · have key : e = En.hand l c := by
      have nd := F.2
      have h' := h
      have he' := he
      clear d k F
      induction L with
      | nil => cases he
      | cons x L ih =>
        rw [List.flatMap_cons] at nd
        obtain ⟨n1, n2, n3⟩ := List.nodup_append.mp nd
        rcases List.mem_cons.mp h with e1 | h1
        · rcases List.mem_cons.mp he with e2 | h2
          · rw [e1, e2]
          · exact absurd rfl (n3 l (e1 ▸ List.mem_cons_self) l (List.mem_flatMap.mpr ⟨e, h2, hl⟩))
        · rcases List.mem_cons.mp he with e2 | h2
          · exact absurd rfl (n3 l (e2 ▸ hl) l (List.mem_flatMap.mpr ⟨_, h1, List.mem_cons_self⟩))
          · exact ih h1 h2 n2 h1 h2
    rw [key]
    exact d
  · exact En.keep (F.1 e he) fun a ha o q => k a o q fun z => hl (z ▸ ha)
end
end Z

set_option Elab.async false
set_option linter.all false
set_option maxRecDepth 100000
namespace Z
open PySem L2
/-! ### rules -/
theorem hu0 {X : Cx} {k : Nat} (hr : Room k X.A) : X.A.units + 64 < cLine := hr.units
section
variable {CX : CXT} {P : Program} {w : World} {K : PySem.W.Frag} {mg : Str → Option Value} {base : Heap}
/-- the def x keeps its promise; dvs: the defaults that fill up the call -/
def Ok (CX : CXT) (P : Program) (w : World) (K : PySem.W.Frag) (mg : Str → Option Value) (base : Heap) (x : Str) (k : Nat) (ps : List Str) (dvs : List V) (sp : Sp) : Prop :=
  ∃ (f : Addr) (fd : FuncData) (ds : List Value), mg x = some (.ref f) ∧ PySem.W.keepIn K (.ref f) = true ∧ Binds K fd ps ds ∧ Vals dvs ds ∧ FnOk P w K mg base CX k f fd ps sp
theorem mkOk {x : Str} {k : Nat} {ps : List Str} {sp : Sp} {st : Stmt} {f : Addr} {fd : FuncData} (F : Fun K x x st f fd) (g : mg x = some (.ref f)) (b : Binds K fd ps []) (G : FnOk P w K mg base CX k f fd ps sp) : Ok CX P w K mg base x k ps [] sp :=
  ⟨f, fd, [], g, F.kp, b, .nil, G⟩
end
section
variable {X : Cx} {CX : CXT} {k : Nat} {ps : List Str} {sp : Sp} {E : XK} {x : Str} {p pos apos : Pos} {e : Expr} {es : List Expr} {t : TA} {dvs : List V}
theorem pe_callO (O : Ok CX X.prog X.w X.K X.mg X.base x k ps dvs sp) (hg : Gl X x) (hr : Room k X.A) (hx : Passes CX X E) (ha : PA X (e :: es) t)
    (hdb : (x == ("__debug__" : Str)) = false := by decide) (he : starEach (e :: es) X.env = (false, eval e
          X.env) :: starEach es X.env := by rfl) (hpl : (backTo pos (starEach es X.env)).any (·.1) = false := by rfl) :
    PE X (.Call (.Name x p) (e :: es)
          [] pos) (tCall sp dvs E t) := by
  obtain ⟨f, fd, ds, g, kp, b, v, F⟩ := O
  exact pe_call F hr hg g kp b v hx ha hdb he hpl
theorem pt_tru {a : Expr} {ta : TE} (ha : PE X a ta) (he : ∀ whole, isTrue a X.env whole = (do let v ← whole; standAt a.pos; holding [v] (truthy v)) := by intro _; rfl) :
    PT X a (fun σ H Q => ta σ H fun x H' => ∃ k, TruV X.K x H' k ∧ Q k H') := pt_truth ha he
end
/-! named readings -/
def rTru (K : PySem.W.Frag) (ta : TE) : TT := fun σ H Q => ta σ H fun x H' => ∃ k, TruV K x H' k ∧ Q k H'
theorem pt_truN {X : Cx} {a : Expr} {ta : TE} (ha : PE X a ta) (he : ∀ whole, isTrue a X.env whole = (do let v ← whole; standAt a.pos; holding [v] (truthy v)) := by intro _; rfl) : PT X a (rTru X.K ta) := pt_truth ha he
def rAddS : R2 := fun x y H Q => ∃ i j, x = .str i ∧ y = .str j ∧ i.length + j.length ≤ sizeLine ∧ Q (.str (i ++ j)) H
def rOr (r r' : R2) : R2 := fun x y H Q => r x y H Q ∨ r' x y H Q
theorem opOr {X : Cx} {f : Value → Value → Sem Value} {r r' : R2} (h : OpR X f r) (h' : OpR X f r') : OpR X f (rOr r r') := h.or h'
abbrev rAddI : R2 := rI0 fun i j => .int (i + j)
abbrev rSubI : R2 := rI0 fun i j => .int (i - j)
theorem zAdd {X : Cx} : OpR X (binaryOp .Add) (rOr rAddI (rOr rAddS (rOr rCat (rCatT X.K)))) := opOr op_add (opOr op_add_str (opOr op_cat op_catT))
abbrev rMulI : R2 := rI CMulW fun i j => .int (i * j)
abbrev rMulC : R2 := rI CMul fun i j => .int (i * j)
theorem zMul {X : Cx} : OpR X (binaryOp .Mult) (rOr rMulC (rOr rMulI (rOr rRep (rRepT X.K)))) := opOr op_mul (opOr op_mulW (opOr op_rep op_repT))
abbrev rDivI : R2 := rI CDivW fun i j => .int (i / j)
theorem zDiv {X : Cx} : OpR X (binaryOp .FloorDiv) rDivI := op_fdivW
abbrev rModI : R2 := rI (fun _ j => 0 < j) fun i j => .int (i % j)
theorem zMod {X : Cx} : OpR X (binaryOp .Mod) rModI := op_mod
abbrev rPowI : R2 := rI CPow fun i j => .int (i ^ j.toNat)
theorem zPow {X : Cx} : OpR X (binaryOp .Pow) rPowI := op_pow
abbrev rLtI : R2 := rI0 fun i j => .bl (decide (i < j))
abbrev rLeI : R2 := rI0 fun i j => .bl (decide (i ≤ j))
abbrev rGtI : R2 := rI0 fun i j => .bl (decide (j < i))
abbrev rGeI : R2 := rI0 fun i j => .bl (decide (j ≤ i))
theorem zLt {X : Cx} : OpR X (compareOp .Lt) rLtI := op_lt
theorem zLe {X : Cx} : OpR X (compareOp .LtE) rLeI := op_le
theorem zGt {X : Cx} : OpR X (compareOp .Gt) rGtI := op_gt
theorem zGe {X : Cx} : OpR X (compareOp .GtE) rGeI := op_ge
theorem zEq {X : Cx} (hu : X.A.units + 64 < cLine) : OpR X (compareOp .Eq) (rOr rEq (rEqD X.K)) := opOr op_eq (op_eqD hu)
theorem zNe {X : Cx} (hu : X.A.units + 64 < cLine) : OpR X (compareOp .NotEq) (rOr rNe (rNeD X.K)) := opOr op_ne (op_neD hu)
def rIsN : R2 := fun x y H Q => y =
      .non ∧ Q (.bl (decide (x = .non))) H
def rNotN : R2 := fun x y H Q => y =
      .non ∧ Q (.bl (!decide (x = .non))) H
theorem zIs {X : Cx} : OpR X (compareOp .Is) (rOr rIsN rIsB) := opOr op_isN op_isBl
theorem zIsNot {X : Cx} : OpR X (compareOp .IsNot) (rOr rNotN rNotB) := opOr op_notN op_notBl
theorem zIn {X : Cx} : OpR X (compareOp .In) (rIn X.K false) := op_in_seq
theorem zNotIn {X : Cx} : OpR X (compareOp .NotIn) (rIn X.K true) := op_notIn_seq
def rLen (K : PySem.W.Frag) : List V → Hp → VK → Prop :=
      fun xs H Q => ∃ x n, xs = [x] ∧ LenV K x H n ∧ Q (.int n) H
theorem zLen {X : Cx} : CallR X (.builtin "len") (rLen X.K) := call_len
def rOrC (r r' : List V → Hp → VK → Prop) : List V → Hp → VK → Prop := fun xs H Q => r xs H Q ∨ r' xs H Q
theorem zIsi {X : Cx} : CallR X (.builtin "isinstance") (rOrC (rIsi X.K) (rIsiT X.K)) := CallR.or call_isi call_isiT
def rInt : List V → Hp → VK → Prop := fun xs H Q => (∃ i, xs = [.int i] ∧ Q (.int i) H) ∨ ∃ k, xs = [.bl k] ∧ Q (.int (if k then 1 else 0)) H
theorem zInt {X : Cx} : CallR X (.type "int") rInt := call_int1
def rList (K : PySem.W.Frag) : List V → Hp → VK → Prop := fun xs H Q => ∃ p ys, xs = [.ref p] ∧ (SqL K H p ys ∨ SqT K H p ys) ∧ ∀ l, H l = none → Q (.ref l) (upd H l (.lst ys))
theorem zList {X : Cx} : CallR X (.type "list") (rList X.K) := call_list_of
def rTuple (K : PySem.W.Frag) : List V → Hp → VK → Prop := fun xs H Q => ∃ p ys, xs = [.ref p] ∧ ((SqL K H p ys ∧ ∀ l, H l = none → Q (.ref l) (upd H l (.tup ys))) ∨ (SqT K H p ys ∧ Q (.ref p) H))
theorem zTuple {X : Cx} : CallR X (.type "tuple") (rTuple X.K) := call_tuple_of
def rAbs : List V → Hp → VK → Prop := fun xs H Q => ∃ i, xs = [.int i] ∧ Q (.int (if i < 0 then -i else i)) H
theorem zAbs {X : Cx} : CallR X (.builtin "abs") rAbs := call_abs
def rOrS (r r' : V → Option Int → Option Int → Hp → VK → Prop) : V → Option Int → Option Int → Hp → VK → Prop := fun x lo hi H Q => r x lo hi H Q ∨ r' x lo hi H Q
theorem zSl {X : Cx} : SlR X (rOrS (rSlL X.K) (rSlT X.K)) := SlR.or sl_list sl_tup

def NewT (xs : List V) (H : Hp) (Q : VK) : Prop := xs.length ≤ sizeLine ∧ ∀ p, H p = none → Q (.ref p) (upd H p (.tup xs))
def NewL (xs : List V) (H : Hp) (Q : VK) : Prop := xs.length ≤ sizeLine ∧ ∀ p, H p = none → Q (.ref p) (upd H p (.lst xs))
/-! ### how a reading is answered -/
section
variable {K : PySem.W.Frag} {H : Hp} {Q : VK} {L : List En} {σ : St} {v w : V} {i j : Int} {t u : TS} {nx bk ct : St → Hp → Prop} {rt : VK} {te ta tb tc : TE} {tt tt' : TT} {ts : TA} {g : TG} {r r' : R2} {QB : Bool → Hp → Prop} {QA : List V → Hp → Prop}
theorem at_start {σ' : St} {N : List Str} {vs : List V} {D : Ends} (e : start N vs = σ') (h : t D σ' H) : t D (start N vs) H := by rw [e]; exact h
theorem wSeq (h : t ⟨u ⟨nx, rt, bk, ct⟩, rt, bk, ct⟩ σ H) : tSeq t u ⟨nx, rt, bk, ct⟩ σ H := h
theorem wNext (h : nx σ H) : tNext ⟨nx, rt, bk, ct⟩ σ H := h
theorem wBreak (h : bk σ H) : tBreak ⟨nx, rt, bk, ct⟩ σ H := h
theorem wCont (h : ct σ H) : tCont ⟨nx, rt, bk, ct⟩ σ H := h
theorem wDrop (h : te σ H fun _ H1 => nx σ H1) : tDrop te ⟨nx, rt, bk, ct⟩ σ H := h
theorem wRet (h : te σ H rt) : tRet te ⟨nx, rt, bk, ct⟩ σ H := h
theorem wRetN (h : rt .non H) : tRetN ⟨nx, rt, bk, ct⟩ σ H := h
theorem wIfS (h : tt σ H fun b H1 => if b = true then t ⟨nx, rt, bk, ct⟩ σ H1 else u ⟨nx, rt, bk, ct⟩ σ H1) : tIfS tt t u ⟨nx, rt, bk, ct⟩ σ H := h
theorem wAsg (h : te σ H fun x H1 => g x σ H1 nx) : tAsg te g ⟨nx, rt, bk, ct⟩ σ H := h
theorem wFor {wi : TI} {tb : TS} (h : wi σ H fun J H1 => ∃ W : Nat → Nat → St → Hp → Prop, (∃ m, W 0 m σ H1) ∧ ∀ i m σ H, W i m σ H →
  (J.stop i H ∧ nx σ H) ∨ (J.go i H ∧ ∃ N : St → Hp → Prop, (∀ σ' H', N σ' H' → ∃ m', m' < m ∧ W (i + 1) m' σ' H') ∧ ∀ x H', J.yld i H x H' → g x σ H' fun σ2 H2 => tb ⟨N, rt, nx, N⟩ σ2 H2)) : tFor wi g tb ⟨nx, rt, bk, ct⟩ σ H := h
variable {a0 a1 a2 a3 a4 a5 a6 a7 a8 a9 b0 b1 b2 b3 b4 b5 b6 b7 : Option V} {ρ : St} {N : St → Hp → Prop}
theorem wG0 (h : N (some v :: ρ) H) : gName 0 v (a0 :: ρ) H N := h
theorem wG1 (h : N (a0 :: some v :: ρ) H) : gName 1 v (a0 :: a1 :: ρ) H N := h
theorem wG2 (h : N (a0 :: a1 :: some v :: ρ) H) : gName 2 v (a0 :: a1 :: a2 :: ρ) H N := h
theorem wG3 (h : N (a0 :: a1 :: a2 :: some v :: ρ) H) : gName 3 v (a0 :: a1 :: a2 :: a3 :: ρ) H N := h
theorem wG4 (h : N (a0 :: a1 :: a2 :: a3 :: some v :: ρ) H) : gName 4 v (a0 :: a1 :: a2 :: a3 :: a4 :: ρ) H N := h
theorem wG5 (h : N (a0 :: a1 :: a2 :: a3 :: a4 :: some v :: ρ) H) : gName 5 v (a0 :: a1 :: a2 :: a3 :: a4 :: a5 :: ρ) H N := h
theorem wG6 (h : N (a0 :: a1 :: a2 :: a3 :: a4 :: a5 :: some v :: ρ) H) : gName 6 v (a0 :: a1 :: a2 :: a3 :: a4 :: a5 :: a6 :: ρ) H N := h
theorem wG7 (h : N (a0 :: a1 :: a2 :: a3 :: a4 :: a5 :: a6 :: some v :: ρ) H) : gName 7 v (a0 :: a1 :: a2 :: a3 :: a4 :: a5 :: a6 :: a7 :: ρ) H N := h
theorem wG8 (h : N (a0 :: a1 :: a2 :: a3 :: a4 :: a5 :: a6 :: a7 :: some v :: ρ) H) : gName 8 v (a0 :: a1 :: a2 :: a3 :: a4 :: a5 :: a6 :: a7 :: a8 :: ρ) H N := h
theorem wG9 (h : N (a0 :: a1 :: a2 :: a3 :: a4 :: a5 :: a6 :: a7 :: a8 :: some v :: ρ) H) : gName 9 v (a0 :: a1 :: a2 :: a3 :: a4 :: a5 :: a6 :: a7 :: a8 :: a9 :: ρ) H N := h
theorem wG10 (h : N (a0 :: a1 :: a2 :: a3 :: a4 :: a5 :: a6 :: a7 :: a8 :: a9 :: some v :: ρ) H) : gName 10 v (a0 :: a1 :: a2 :: a3 :: a4 :: a5 :: a6 :: a7 :: a8 :: a9 :: b0 :: ρ) H N := h
theorem wG11 (h : N (a0 :: a1 :: a2 :: a3 :: a4 :: a5 :: a6 :: a7 :: a8 :: a9 :: b0 :: some v :: ρ) H) : gName 11 v (a0 :: a1 :: a2 :: a3 :: a4 :: a5 :: a6 :: a7 :: a8 :: a9 :: b0 :: b1 :: ρ) H N := h
theorem wG12 (h : N (a0 :: a1 :: a2 :: a3 :: a4 :: a5 :: a6 :: a7 :: a8 :: a9 :: b0 :: b1 :: some v :: ρ) H) : gName 12 v (a0 :: a1 :: a2 :: a3 :: a4 :: a5 :: a6 :: a7 :: a8 :: a9 :: b0 :: b1 :: b2 :: ρ) H N := h
theorem wG13 (h : N (a0 :: a1 :: a2 :: a3 :: a4 :: a5 :: a6 :: a7 :: a8 :: a9 :: b0 :: b1 :: b2 :: some v :: ρ) H) : gName 13 v (a0 :: a1 :: a2 :: a3 :: a4 :: a5 :: a6 :: a7 :: a8 :: a9 :: b0 :: b1 :: b2 :: b3 :: ρ) H N := h
theorem wG14 (h : N (a0 :: a1 :: a2 :: a3 :: a4 :: a5 :: a6 :: a7 :: a8 :: a9 :: b0 :: b1 :: b2 :: b3 :: some v :: ρ) H) : gName 14 v (a0 :: a1 :: a2 :: a3 :: a4 :: a5 :: a6 :: a7 :: a8 :: a9 :: b0 :: b1 :: b2 :: b3 :: b4 :: ρ) H N := h
theorem wV {n : Nat} (e : σ[n]? = some (some v)) (h : Q v H) : tVar n σ H Q := ⟨v, e, h⟩
theorem wV0 (h : Q v H) : tVar 0 (some v :: ρ) H Q := ⟨v, rfl, h⟩
theorem wV1 (h : Q v H) : tVar 1 (a0 :: some v :: ρ) H Q := ⟨v, rfl, h⟩
theorem wV2 (h : Q v H) : tVar 2 (a0 :: a1 :: some v :: ρ) H Q := ⟨v, rfl, h⟩
theorem wV3 (h : Q v H) : tVar 3 (a0 :: a1 :: a2 :: some v :: ρ) H Q := ⟨v, rfl, h⟩
theorem wV4 (h : Q v H) : tVar 4 (a0 :: a1 :: a2 :: a3 :: some v :: ρ) H Q := ⟨v, rfl, h⟩
theorem wV5 (h : Q v H) : tVar 5 (a0 :: a1 :: a2 :: a3 :: a4 :: some v :: ρ) H Q := ⟨v, rfl, h⟩
theorem wV6 (h : Q v H) : tVar 6 (a0 :: a1 :: a2 :: a3 :: a4 :: a5 :: some v :: ρ) H Q := ⟨v, rfl, h⟩
theorem wV7 (h : Q v H) : tVar 7 (a0 :: a1 :: a2 :: a3 :: a4 :: a5 :: a6 :: some v :: ρ) H Q := ⟨v, rfl, h⟩
theorem wV8 (h : Q v H) : tVar 8 (a0 :: a1 :: a2 :: a3 :: a4 :: a5 :: a6 :: a7 :: some v :: ρ) H Q := ⟨v, rfl, h⟩
theorem wV9 (h : Q v H) : tVar 9 (a0 :: a1 :: a2 :: a3 :: a4 :: a5 :: a6 :: a7 :: a8 :: some v :: ρ) H Q := ⟨v, rfl, h⟩
theorem wV10 (h : Q v H) : tVar 10 (a0 :: a1 :: a2 :: a3 :: a4 :: a5 :: a6 :: a7 :: a8 :: a9 :: some v :: ρ) H Q := ⟨v, rfl, h⟩
theorem wV11 (h : Q v H) : tVar 11 (a0 :: a1 :: a2 :: a3 :: a4 :: a5 :: a6 :: a7 :: a8 :: a9 :: b0 :: some v :: ρ) H Q := ⟨v, rfl, h⟩
theorem wV12 (h : Q v H) : tVar 12 (a0 :: a1 :: a2 :: a3 :: a4 :: a5 :: a6 :: a7 :: a8 :: a9 :: b0 :: b1 :: some v :: ρ) H Q := ⟨v, rfl, h⟩
theorem wV13 (h : Q v H) : tVar 13 (a0 :: a1 :: a2 :: a3 :: a4 :: a5 :: a6 :: a7 :: a8 :: a9 :: b0 :: b1 :: b2 :: some v :: ρ) H Q := ⟨v, rfl, h⟩
theorem wV14 (h : Q v H) : tVar 14 (a0 :: a1 :: a2 :: a3 :: a4 :: a5 :: a6 :: a7 :: a8 :: a9 :: b0 :: b1 :: b2 :: b3 :: some v :: ρ) H Q := ⟨v, rfl, h⟩
theorem wC (h : Q v H) : tC v σ H Q := h
theorem wOp (h : ta σ H fun x H1 => tb σ H1 fun y H2 => r x y H2 Q) : tOp r ta tb σ H Q := h
theorem wUn {rr : V → Hp → VK → Prop} (h : ta σ H fun x H1 => rr x H1 Q) : tUn rr ta σ H Q := h
theorem wNeg (h : Q (.int (-i)) H) : rU (fun i => .int (-i)) (.int i) H Q := ⟨i, rfl, h⟩
theorem wI0 {f : Int → Int → V} (h : Q (f i j) H) : rI0 f (.int i) (.int j) H Q := ⟨i, j, rfl, rfl, h⟩
theorem wI {C : Int → Int → Prop} {f : Int → Int → V} (c : C i j) (h : Q (f i j) H) : rI C f (.int i) (.int j) H Q := ⟨i, j, rfl, rfl, c, h⟩
theorem wOr1 (h : r v w H Q) : rOr r r' v w H Q := .inl h
theorem wOr2 (h : r' v w H Q) : rOr r r' v w H Q := .inr h
theorem wNil (h : QA [] H) : tNil σ H QA := h
theorem wCons (h : ta σ H fun x H1 => ts σ H1 fun xs H2 => QA (x :: xs) H2) : tCons ta ts σ H QA := h
theorem wCB {rr : List V → Hp → VK → Prop} (h : ts σ H fun vs H1 => rr vs H1 Q) : tCB rr ts σ H Q := h
theorem wTest (h : te σ H fun x H' => ∃ k, x = .bl k ∧ QB k H') : tTest te σ H QB := h
theorem wBl {b : Bool} {QP : Bool → Prop} (h : QP b) : ∃ k, V.bl b = .bl k ∧ QP k := ⟨b, rfl, h⟩
theorem wTruN (h : te σ H fun x H' => ∃ k, TruV K x H' k ∧ QB k H') : rTru K te σ H QB := h
theorem wTbl {b : Bool} {QP : Bool → Prop} (h : QP b) : ∃ k, TruV K (.bl b) H k ∧ QP k := ⟨b, rfl, h⟩
theorem wTint {QP : Bool → Prop} (h : QP (i != 0)) : ∃ k, TruV K (.int i) H k ∧ QP k := ⟨_, rfl, h⟩
theorem wTnon {QP : Bool → Prop} (h : QP false) : ∃ k, TruV K .non H k ∧ QP k := ⟨_, rfl, h⟩
theorem wTlst {a : Addr} {xs : List V} (s : SqL K H a xs) {QP : Bool → Prop} (h : QP (!xs.isEmpty)) : ∃ k, TruV K (.ref a) H k ∧ QP k := ⟨_, .inl ⟨xs, s, rfl⟩, h⟩
theorem wTtup {a : Addr} {xs : List V} (s : SqT K H a xs) {QP : Bool → Prop} (h : QP (!xs.isEmpty)) : ∃ k, TruV K (.ref a) H k ∧ QP k := ⟨_, .inr (.inl ⟨xs, s, rfl⟩), h⟩
theorem wNot (h : tt σ H fun c H1 => QB (!c) H1) : tNot tt σ H QB := h
theorem wAnd (h : tt σ H fun c H1 => if c = true then tt' σ H1 QB else QB false H1) : tAnd tt tt' σ H QB := h
theorem wOrb (h : tt σ H fun c H1 => if c = true then QB true H1 else tt' σ H1 QB) : tOr tt tt' σ H QB := h
theorem wAndT (h : ta σ H fun x H1 => ∃ k, TruV K x H1 k ∧ if k = true then tb σ H1 Q else Q x H1) : tAndT K ta tb σ H Q := h
theorem wOrT (h : ta σ H fun x H1 => ∃ k, TruV K x H1 k ∧ if k = true then Q x H1 else tb σ H1 Q) : tOrT K ta tb σ H Q := h
theorem wNotT (h : ta σ H fun x H1 => ∃ k, TruV K x H1 k ∧ Q (.bl (!k)) H1) : tNotT K ta σ H Q := h
theorem wTIf (h : tt σ H fun c H1 => if c = true then ta σ H1 Q else tb σ H1 Q) : tIf tt ta tb σ H Q := h
theorem wChain (h : ta σ H fun x H1 => tb σ H1 fun y H2 => r x y H2 fun z H3 => ∃ k, z = .bl k ∧ (if k = true then tc σ H3 fun w' H4 => r' y w' H4 Q else Q (.bl false) H3)) : tChain r r' ta tb tc σ H Q := h
theorem wIfT {b : Bool} {A B : Prop} (e : b = true) (h : A) : if b = true then A else B := by rw [if_pos e]; exact h
theorem wIfF {b : Bool} {A B : Prop} (e : b = false) (h : B) : if b = true then A else B := by rw [if_neg (by rw [e]; exact Bool.false_ne_true)]; exact h
theorem wIf {b : Bool} {A B : Prop} (h : b = true → A) (h' : b = false → B) : if b = true then A else B := by
  cases b with
  | true => exact wIfT rfl (h rfl)
  | false => exact wIfF rfl (h' rfl)
theorem wIfD {p : Prop} [Decidable p] {A B : Prop} (h : p → A) (h' : ¬ p → B) : if decide p = true then A else B := wIf (fun e => h (of_decide_eq_true e)) fun e => h' (of_decide_eq_false e)
theorem wIfND {p : Prop} [Decidable p] {A B : Prop} (h : ¬ p → A) (h' : p → B) : if (!decide p) = true then A else B := wIf (fun e => h (by simpa using e)) fun e => h' (by simpa using e)
theorem wEqII (h : Q (.bl (decide (i = j))) H) : rEq (.int i) (.int j) H Q := ⟨rfl, by
  have e : decide (V.int i = V.int j) = decide (i = j) := by
    by_cases q : i = j
    · rw [q, decide_eq_true rfl, decide_eq_true rfl]
    · rw [decide_eq_false q, decide_eq_false (fun z => q (by injection z))]
  rw [e]; exact h⟩
theorem wNeII (h : Q (.bl (!decide (i = j))) H) : rNe (.int i) (.int j) H Q := ⟨rfl, by
  have e : decide (V.int i = V.int j) = decide (i = j) := by
    by_cases q : i = j
    · rw [q, decide_eq_true rfl, decide_eq_true rfl]
    · rw [decide_eq_false q, decide_eq_false (fun z => q (by injection z))]
  rw [e]; exact h⟩
theorem wEqS {x y : V} (s : scal x y = true) (h : Q (.bl (decide (x = y))) H) : rEq x y H Q := ⟨s, h⟩
theorem wNeS {x y : V} (s : scal x y = true) (h : Q (.bl (!decide (x = y))) H) : rNe x y H Q := ⟨s, h⟩
theorem wIsN {x : V} (h : Q (.bl (decide (x = .non))) H) : rIsN x .non H Q := ⟨rfl, h⟩
theorem wNotN {x : V} (h : Q (.bl (!decide (x = .non))) H) : rNotN x .non H Q := ⟨rfl, h⟩
theorem wIsB {b c : Bool} (h : Q (.bl (decide (b = c))) H) : rIsB (.bl b) (.bl c) H Q := ⟨b, c, rfl, rfl, h⟩
theorem wNotB {b c : Bool} (h : Q (.bl (!decide (b = c))) H) : rNotB (.bl b) (.bl c) H Q := ⟨b, c, rfl, rfl, h⟩
theorem wIntI (h : Q (.int i) H) : rInt [.int i] H Q := .inl ⟨i, rfl, h⟩
theorem wAbs (h : Q (.int (if i < 0 then -i else i)) H) : rAbs [.int i] H Q := ⟨i, rfl, h⟩
variable {a b : Addr} {xs ys : List V} {o : HO}
theorem wLenL (s : SqL K H a xs) (h : Q (.int xs.length) H) : rLen K [.ref a] H Q := ⟨_, _, rfl, .inl ⟨_, s, rfl⟩, h⟩
theorem wLenT (s : SqT K H a xs) (h : Q (.int xs.length) H) : rLen K [.ref a] H Q := ⟨_, _, rfl, .inr ⟨_, s, rfl⟩, h⟩
theorem wLenS {z : Str} (s : z.length ≤ sizeLine) (h : Q (.int z.length) H) : rLen K [.str z] H Q := ⟨_, _, rfl, ⟨s, rfl⟩, h⟩
theorem wIxL (s : SqL K H a xs) (e : atI xs i = some v) (h : Q v H) : rIx K (.ref a) (.int i) H Q := .inl ⟨a, xs, i, v, rfl, rfl, s, e, h⟩
theorem wIxT (s : SqT K H a xs) (e : atI xs i = some v) (h : Q v H) : rIx K (.ref a) (.int i) H Q := .inr (.inl ⟨a, xs, i, v, rfl, rfl, s, e, h⟩)
theorem wIxS {z : Str} {c : Nat} (n : z.length ≤ sizeLine) (e : atI z.cps.toList i = some c) (h : Q (.str ⟨#[c]⟩) H) : rIx K (.str z) (.int i) H Q := .inr (.inr ⟨z, i, c, rfl, rfl, n, e, h⟩)
theorem SqT.of {K : PySem.W.Frag} {H : Hp} {a : Addr} {xs : List V} (h : H a = some (.tup xs)) : SqT K H a xs := .inl (.inl h)
/-- from the ledger -/
theorem Fx.lst (F : Fx H L) (m : En.ob a (.lst xs) ∈ L) : SqL K H a xs := SqL.of (F.get m)
theorem Fx.tup (F : Fx H L) (m : En.ob a (.tup xs) ∈ L) : SqT K H a xs := SqT.of (F.get m)
theorem Fx.frz {ob : Obj} (F : Fx H L) (m : En.ob a (.frz ob (.lst xs)) ∈ L) : SqL K H a xs := .inl (.inr ⟨ob, F.get m⟩)
/-- new objects -/
theorem wNewF (F : Fx H L) (k : ∀ p H', Fx H' (.ob p o :: L) → Q (.ref p) H') : ∀ p, H p = none → Q (.ref p) (upd H p o) := fun p n => k p _ (F.new n)
theorem wTup (n : xs.length ≤ 1000) (F : Fx H L) (k : ∀ p H', Fx H' (.ob p (.tup xs) :: L) → Q (.ref p) H') : NewT xs H Q := ⟨Nat.le_of_lt (small1000 n), wNewF F k⟩
theorem wLst (n : xs.length ≤ 1000) (F : Fx H L) (k : ∀ p H', Fx H' (.ob p (.lst xs) :: L) → Q (.ref p) H') : NewL xs H Q := ⟨Nat.le_of_lt (small1000 n), wNewF F k⟩
theorem wTTup (h : ts σ H fun xs H1 => NewT xs H1 Q) : tTup ts σ H Q := h
theorem wTLst (h : ts σ H fun xs H1 => NewL xs H1 Q) : tLst ts σ H Q := h
theorem wListL (s : SqL K H a xs) (F : Fx H L) (k : ∀ p H', Fx H' (.ob p (.lst xs) :: L) → Q (.ref p) H') : rList K [.ref a] H Q := ⟨a, xs, rfl, .inl s, wNewF F k⟩
theorem wListT (s : SqT K H a xs) (F : Fx H L) (k : ∀ p H', Fx H' (.ob p (.lst xs) :: L) → Q (.ref p) H') : rList K [.ref a] H Q := ⟨a, xs, rfl, .inr s, wNewF F k⟩
theorem wTupleL (s : SqL K H a xs) (F : Fx H L) (k : ∀ p H', Fx H' (.ob p (.tup xs) :: L) → Q (.ref p) H') : rTuple K [.ref a] H Q := ⟨a, xs, rfl, .inl ⟨s, wNewF F k⟩⟩
theorem wTupleT (s : SqT K H a xs) (h : Q (.ref a) H) : rTuple K [.ref a] H Q := ⟨a, xs, rfl, .inr ⟨s, h⟩⟩
/-- xs.append(v) -/
theorem wBM {T : String} {rr : V → List V → Hp → VK → Prop} (h : ta σ H fun x H1 => tyV K T x H1 ∧ ts σ H1 fun xs H2 => rr x xs H2 Q) : tBM K T rr ta ts σ H Q := h
theorem wBM0 {T : String} {rr : V → List V → Hp → VK → Prop} (h : ta σ H fun x H1 => tyV K T x H1 ∧ rr x [] H1 Q) : tBM0 K T rr ta σ H Q := h
theorem wTyL (s : SqL K H a xs) {B : Prop} (h : B) : tyV K "list" (.ref a) H ∧ B := ⟨.inl ⟨rfl, _, s⟩, h⟩
theorem wApp {L' : List En} (F : Fx H L) (m : En.ob a (.lst xs) ∈ L) (pt : Put a (.lst (xs ++ [v])) L L') (n : xs.length < sizeLine) (k : ∀ H', Fx H' L' → Q .non H') : rAppend (.ref a) [v] H Q :=
  ⟨a, xs, v, rfl, rfl, F.get m, n, k _ (F.put pt)⟩
theorem wPopAt {L' : List En} {n : Nat} (F : Fx H L) (m : En.ob a (.lst xs) ∈ L) (pt : Put a (.lst (xs.eraseIdx n)) L L') (h1 : -(2 ^ 63) ≤ i) (h2 : i < 2 ^ 63) (hi : seqIndex? i xs.length = some n) (hv : xs[n]? = some v) (k : ∀ H', Fx H' L' → Q v H') : rPopAt (.ref a) [.int i] H Q :=
  ⟨a, xs, i, n, v, rfl, rfl, F.get m, h1, h2, hi, hv, k _ (F.put pt)⟩
/-- a[i] = v -/
theorem wGSub {to ti : TE} {ts : TSet} (h : to σ H fun o H1 => ti σ H1 fun i H2 => ts o i v H2 fun H3 => N σ H3) : gSub to ti ts v σ H N := h
theorem wSetL {L' : List En} {QH : Hp → Prop} {n : Nat} (F : Fx H L) (m : En.ob a (.lst xs) ∈ L) (e : ixN xs.length i = some n) (pt : Put a (.lst (xs.set n v)) L L') (k : ∀ H', Fx H' L' → QH H') : rSetL (.ref a) (.int i) v H QH :=
  ⟨a, xs, i, n, rfl, rfl, F.get m, e, k _ (F.put pt)⟩
/-- calls -/
theorem wCall0 {sp : Sp} {E : XK} (h : ts σ H fun vs H1 => sp vs H1 Q E) : tCall sp [] E ts σ H Q := by unfold tCall; simpa only [List.append_nil] using h
theorem wCallD {sp : Sp} {E : XK} {d : V} {ds : List V} (h : ts σ H fun vs H1 => sp (vs ++ (d :: ds)) H1 Q E) : tCall sp (d :: ds) E ts σ H Q := h
/-- promises by the number of their arguments -/
def Sp1 (f : V → Hp → VK → XK → Prop) : Sp := fun vs H Q E => ∃ a, vs = [a] ∧ f a H Q E
def Sp2 (f : V → V → Hp → VK → XK → Prop) : Sp := fun vs H Q E => ∃ a b, vs = [a, b] ∧ f a b H Q E
def Sp3 (f : V → V → V → Hp → VK → XK → Prop) : Sp := fun vs H Q E => ∃ a b c, vs = [a, b, c] ∧ f a b c H Q E
def Sp4 (f : V → V → V → V → Hp → VK → XK → Prop) : Sp := fun vs H Q E => ∃ a b c d, vs = [a, b, c, d] ∧ f a b c d H Q E
theorem wSp1 {f : V → Hp → VK → XK → Prop} {E : XK} {x : V} (h : f x H Q E) : Sp1 f [x] H Q E := ⟨x, rfl, h⟩
theorem wSp2 {f : V → V → Hp → VK → XK → Prop} {E : XK} {x y : V} (h : f x y H Q E) : Sp2 f [x, y] H Q E := ⟨x, y, rfl, h⟩
theorem wSp3 {f : V → V → V → Hp → VK → XK → Prop} {E : XK} {x y z : V} (h : f x y z H Q E) : Sp3 f [x, y, z] H Q E := ⟨x, y, z, rfl, h⟩
theorem wSp4 {f : V → V → V → V → Hp → VK → XK → Prop} {E : XK} {x y z z' : V} (h : f x y z z' H Q E) : Sp4 f [x, y, z, z'] H Q E := ⟨x, y, z, z', rfl, h⟩
/-- loops -/
theorem wListI {R : It → Hp → Prop} {tl : TE} (h : tl σ H fun x H1 => ∃ a, x = .ref a ∧ (∃ xs, SqL K H1 a xs) ∧ R (Itl K a) H1) : iList K tl σ H R := h
theorem wForL {tb : TS} (s : SqL K H a xs) (Pv : Nat → St → Hp → Prop) (h0 : Pv 0 σ H) (hl : ∀ i σ H, i ≤ xs.length → Pv i σ H → SqL K H a xs)
    (hs : ∀ i x σ H, xs[i]? = some x → Pv i σ H → g x σ H fun σ2 H2 => tb ⟨Pv (i + 1), rt, nx, Pv (i + 1)⟩ σ2 H2) (hd : ∀ σ H, Pv xs.length σ H → nx σ H) :
    ∃ a', V.ref a = .ref a' ∧ (∃ xs, SqL K H a' xs) ∧ ∃ W : Nat → Nat → St → Hp → Prop, (∃ m, W 0 m σ H) ∧ ∀ i m σ H, W i m σ H →
  ((Itl K a').stop i H ∧ nx σ H) ∨ ((Itl K a').go i H ∧ ∃ N : St → Hp → Prop, (∀ σ' H', N σ' H' → ∃ m', m' < m ∧ W (i + 1) m' σ' H') ∧ ∀ x H', (Itl K a').yld i H x H' → g x σ H' fun σ2 H2 => tb ⟨N, rt, nx, N⟩ σ2 H2) :=
  ⟨a, rfl, ⟨xs, s⟩, for_list (D := ⟨nx, rt, fun _ _ => False, fun _ _ => False⟩) Pv h0 hl hs hd⟩
end
end Z

set_option Elab.async false
set_option linter.all false
set_option maxRecDepth 100000
namespace Z
open PySem L2
/-! ### kinds of things -/
inductive Kd where
  | non | bl | int | str | lst | tup
def Kd.ty : Kd → Value
  | .non => .type "NoneType"
  | .bl => .type "bool"
  | .int => .type "int"
  | .str => .type "str"
  | .lst => .type "list"
  | .tup => .type "tuple"
/-- isinstance's answers -/
def Kd.isInt : Kd → Bool | .int => true | .bl => true | _ => false
def Kd.isBool : Kd → Bool | .bl => true | _ => false
def Kd.isStr : Kd → Bool | .str => true | _ => false
def Kd.isList : Kd → Bool | .lst => true | _ => false
def Kd.isTuple : Kd → Bool | .tup => true | _ => false
inductive HasK (K : PySem.W.Frag) (H : Hp) : V → Kd → Prop where
  | non : HasK K H .non .non
  | bl (b : Bool) : HasK K H (.bl b) .bl
  | int (i : Int) : HasK K H (.int i) .int
  | str (z : Str) : HasK K H (.str z) .str
  | lst {a : Addr} {xs : List V} (s : SqL K H a xs) : HasK K H (.ref a) .lst
  | tup {a : Addr} {xs : List V} (s : SqT K H a xs) : HasK K H (.ref a) .tup
section
variable {K : PySem.W.Frag} {H H' : Hp} {x : V} {k : Kd} {Q : VK} {L : List En} {a p : Addr}
theorem HasK.tyx (h : HasK K H x k) : TyX K H x k.ty := by
  cases h with
  | non => exact .base .non
  | bl b => exact .base (.bl b)
  | int i => exact .base (.int i)
  | str z => exact .base (.str z)
  | lst s =>
    rcases s with (h | ⟨o, h⟩) | ⟨o, its, n, h1, h2, _⟩
    · exact .base (.lst h)
    · exact .base (.frz h)
    · exact .kList h1 h2
  | tup s =>
    rcases s with (h | ⟨o, h⟩) | h
    · exact .base (.tup h)
    · exact .fTuple h
    · obtain ⟨o, its, n, h1, h2, _⟩ := h
      exact .kTuple h1 h2
theorem HasK.mono (h : HasK K H x k) (e : Same H H') : HasK K H' x k := by
  cases h with
  | non => exact .non
  | bl b => exact .bl b
  | int i => exact .int i
  | str z => exact .str z
  | lst s => exact .lst (e.seq s)
  | @tup b ys s =>
    have s' : SqT K H' b ys := by
      rcases s with (h | ⟨o, h⟩) | h
      · exact .inl (.inl (e _ _ h))
      · exact .inl (.inr
            ⟨o, e _ _ h⟩)
      · exact .inr h
    exact .tup s'
theorem kit_int : PySem.W.kitOne K k.ty (.type "int") = some k.isInt := by cases k <;> exact kit_ty (by decide +kernel)
theorem kit_bool : PySem.W.kitOne K k.ty (.type "bool") = some k.isBool := by cases k <;> exact kit_ty (by decide +kernel)
theorem kit_str : PySem.W.kitOne K k.ty (.type "str") = some k.isStr := by cases k <;> exact kit_ty (by decide +kernel)
theorem kit_list : PySem.W.kitOne K k.ty (.type "list") = some k.isList := by cases k <;> exact kit_ty (by decide +kernel)
theorem kit_tuple : PySem.W.kitOne K k.ty (.type "tuple") = some k.isTuple := by cases k <;> exact kit_ty (by decide +kernel)
theorem wIsiInt (h : HasK K H x k) (q : Q (.bl k.isInt) H) : rOrC (rIsi K) (rIsiT K) [x, .ty "int"] H Q := .inl ⟨x, _, _, _, _, rfl, .ty _, h.tyx, kit_int, q⟩
theorem wIsiBool (h : HasK K H x k) (q : Q (.bl k.isBool) H) : rOrC (rIsi K) (rIsiT K) [x, .ty "bool"] H Q := .inl ⟨x, _, _, _, _, rfl, .ty _, h.tyx, kit_bool, q⟩
theorem wIsiStr (h : HasK K H x k) (q : Q (.bl k.isStr) H) : rOrC (rIsi K) (rIsiT K) [x, .ty "str"] H Q := .inl ⟨x, _, _, _, _, rfl, .ty _, h.tyx, kit_str, q⟩
theorem wIsiList (h : HasK K H x k) (q : Q (.bl k.isList) H) : rOrC (rIsi K) (rIsiT K) [x, .ty "list"] H Q := .inl ⟨x, _, _, _, _, rfl, .ty _, h.tyx, kit_list, q⟩
theorem wIsiTuple (h : HasK K H x k) (q : Q (.bl k.isTuple) H) : rOrC (rIsi K) (rIsiT K) [x, .ty "tuple"] H Q := .inl ⟨x, _, _, _, _, rfl, .ty _, h.tyx, kit_tuple, q⟩
theorem wIsiLT (h : HasK K H x k) (F : Fx H L) (m : En.ob p (.tup [.ty "list", .ty "tuple"]) ∈ L) (q : Q (.bl (k.isList || k.isTuple)) H) : rOrC (rIsi K) (rIsiT K) [x, .ref p] H Q :=
  .inr ⟨x, p, _, _, _, _, rfl, F.get m, .cons (.ty _) (.cons (.ty _) .nil), h.tyx, kitAny_cons kit_list (fun e => by rw [e]; exact kitAny_cons kit_tuple (fun e => by rw [e]; exact kitAny_nil) (fun e => by rw [e]; rfl)) (fun e => by rw [e]; rfl), q⟩
/-- a whole number within bounds, by is_whole's own words -/
def inB (x : V) (lo hi : V) : Bool := match x with
  | .int i => (match lo with | .int l => decide (l ≤ i) | _ => true) && (match hi with | .int h => decide (i ≤ h) | _ => true)
  | _ => false
end
/-! ### a fact of the heap as an entry: a sequence of the script's kind -/
theorem seq_keep {K : PySem.W.Frag} {H : Hp} {a : Addr} {xs : List V} (s : SqL K H a xs) (L : List En) (F : Fx H L) (n : a ∉ L.flatMap En.fp) : ∃ L0 : List En, Fx H (L0 ++ L) ∧ ∀ H' L', Fx H' (L' ++ (L0 ++ L)) → SqL K H' a xs := by
  rcases s with (h | ⟨o, h⟩) | h
  · exact ⟨[.ob a (.lst xs)], F.add h n, fun H' L' F' => .inl (.inl (F'.get (List.mem_append_right _ (List.mem_append_left _ List.mem_cons_self))))⟩
  · exact ⟨[.ob a (.frz o (.lst xs))], F.add h n, fun H' L' F' => .inl (.inr ⟨o, F'.get (List.mem_append_right _ (List.mem_append_left _ List.mem_cons_self))⟩)⟩
  · exact ⟨[], F, fun H' L' F' => .inr h⟩
end Z
namespace Z
open PySem L2
theorem Fx.perm {H : Hp} {L L' : List En} (F : Fx H L) (p : L.Perm L') : Fx H L' := by
  refine ⟨fun e he => F.1 e (p.mem_iff.mpr he), ?_⟩
  have q : (L.flatMap En.fp).Perm (L'.flatMap En.fp) := by
    induction p with
    | nil => exact List.Perm.refl _
    | cons x _ ih =>
      rw [List.flatMap_cons, List.flatMap_cons]
      exact (ih ⟨fun e he => F.1 e (List.mem_cons_of_mem _ he), (List.nodup_append.mp (by have := F.2; rwa [List.flatMap_cons] at this)).2.1⟩).append_left _
    | swap x y l =>
      rw [List.flatMap_cons, List.flatMap_cons, List.flatMap_cons, List.flatMap_cons, ← List.append_assoc, ← List.append_assoc]
      exact List.perm_append_comm.append_right _
    | trans p1 p2 ih1 ih2 =>
      have q1 := ih1 F
      exact q1.trans (ih2 ⟨fun e he => F.1 e (p1.mem_iff.mpr he), q1.nodup_iff.mp F.2⟩)
  exact q.nodup_iff.mp F.2
/-- the draws' list, opened and shut again -/
theorem Fx.open {H : Hp} {L : List En} {l c : Addr} (F : Fx H L) (hm : En.hand l c ∈ L) : ∃ (ns : List Int) (i j t : Int) (L1 : List En), 0 ≤ i ∧ Fx H (.ob l (.lst [.ref c, .int i, .int j, .int t]) :: .ob c (.lst (ns.map V.int)) :: L1) ∧
    ∀ H' (ns' : List Int) (i' j' t' : Int), 0 ≤ i' → Fx H' (.ob l (.lst [.ref c, .int i', .int j', .int t']) :: .ob c (.lst (ns'.map V.int)) :: L1) → Fx H' L := by
  obtain ⟨ns, i, j, t, h0, h1, h2⟩ := F.gh hm
  obtain ⟨A, B, rfl⟩ := List.append_of_mem hm
  have G := F.perm List.perm_middle
  refine ⟨ns, i, j, t, A ++ B, h0, ⟨fun e he => ?_, G.2⟩, fun H' ns' i' j' t' h0' G' => ?_⟩
  · rcases List.mem_cons.mp he with e1 | he
    · subst e1; exact h1
    · rcases List.mem_cons.mp he with e1 | he
      · subst e1; exact h2
      · exact G.1 e (List.mem_cons_of_mem _ he)
  · have G2 : Fx H' (.hand l c :: (A ++ B)) := by
      refine ⟨fun e he => ?_, G'.2⟩
      rcases List.mem_cons.mp he with e1 | he
      · subst e1
        exact ⟨ns', i', j', t', h0', G'.get List.mem_cons_self, G'.get (List.mem_cons_of_mem _ List.mem_cons_self)⟩
      · exact G'.1 e (List.mem_cons_of_mem _ (List.mem_cons_of_mem _ he))
    exact G2.perm List.perm_middle.symm
theorem at_ints {ns : List Int} {i : Nat} (h : i < ns.length) : atI (ns.map V.int) (i : Int) = some (V.int (ns.getD i 0)) := by
  have e : (ns.map V.int)[i]? = some (V.int (ns.getD i 0)) := by
    rw [List.getElem?_map, List.getElem?_eq_getElem h,
          List.getD_eq_getElem?_getD, List.getElem?_eq_getElem h]
    rfl
  exact at_of rfl e

theorem ixN_of {n : Nat} {k : Int} (h0 : 0 ≤ k) (h1 : k < n) : ixN n k = some k.toNat := by
  unfold ixN
  rw [if_pos h0, if_pos h1]
theorem at_intsI {ns : List Int} {k : Int} (h0 : 0 ≤ k) (h1 : k < ns.length) : atI (ns.map V.int) k = some (V.int (ns.getD k.toNat 0)) := by
  have e : k = ((k.toNat : Nat) : Int) := (Int.toNat_of_nonneg h0).symm
  have h2 : k.toNat < ns.length := by omega
  have q := at_ints (ns := ns) h2
  rw [← e] at q
  exact q
section
variable {K : PySem.W.Frag} {H : Hp} {Q : VK} {L : List En} {a : Addr} {ns : List Int} {k : Int} {xs : List V}
theorem wIxLi (s : SqL K H a (ns.map V.int)) (h0 : 0 ≤ k) (h1 : k < ns.length) (h : Q (.int (ns.getD k.toNat 0)) H) : rIx K (.ref a) (.int k) H Q := wIxL s (at_intsI h0 h1) h
theorem wIxTi (s : SqT K H a (ns.map V.int)) (h0 : 0 ≤ k) (h1 : k < ns.length) (h : Q (.int (ns.getD k.toNat 0)) H) : rIx K (.ref a) (.int k) H Q := wIxT s (at_intsI h0 h1) h
theorem wLenLi (s : SqL K H a (ns.map V.int)) (h : Q (.int ns.length) H) : rLen K [.ref a] H Q := by
  have := wLenL (Q := Q) s
  rw [List.length_map] at this
  exact this h
theorem wLenTi (s : SqT K H a (ns.map V.int)) (h : Q (.int ns.length) H) : rLen K [.ref a] H Q := by
  have := wLenT (Q := Q) s
  rw [List.length_map] at this
  exact this h
end

theorem log_small {m : Int} (h0 : 0 ≤ m) (h1 : m < 1000000000000) : m.natAbs.log2 < 9000 := by
  have h2 : m.natAbs < 2 ^ 40 := by omega
  exact Nat.lt_of_lt_of_le (PySem.Flt.log2_lt_of (by decide) h2) (by decide)

theorem int_of_map {ns : List Int} {i : Nat} {x : V} (h : (ns.map V.int)[i]? = some x) : ∃ z, x = V.int z := by
  rw [List.getElem?_map] at h
  cases e : ns[i]? with
  | none => rw [e]
        at h; cases h
  | some z => rw [e] at h; exact ⟨z, (Option.some.inj h).symm⟩
theorem int_of_map' {ns : List Int} {i : Nat} {x : V} (h : (ns.map V.int)[i]? = some x) : ∃ z, x = V.int z ∧ ns[i]? = some z := by
  rw [List.getElem?_map] at h
  cases e : ns[i]? with
  | none => rw [e]
        at h; cases h
  | some z => rw [e] at h; exact ⟨z, (Option.some.inj h).symm, rfl⟩
theorem line_big : 1000000 ≤ sizeLine := by rw [sizeLine_eq]; decide
end Z

set_option Elab.async false
set_option linter.all false
set_option maxRecDepth 100000
set_option maxHeartbeats 2000500
namespace Z
open PySem L2 PySem.W
/-! ### == and != of an instance by its class's own __eq__ -/
section
variable {prog : Program} {w : World} {A : Around} {E : Value → Shared → Prop} {s : Shared} {K : Frag} {x C L f : Addr} {h₀ : Heap} {m : Str → Option Value} {ox : Obj} {od : Option Obj} {b tb : Value}
theorem ifBound_ne {args : List Value} {Q : Option Value → Shared → Prop} (X : K.In s.heap) (I : InstAt s.heap x ox C od) (hs : findIn K (.ref C) "__ne__" = some (some (.builtin "object.__ne__")))
    (h : wpAny (model prog w) A (call (.builtin "object.__ne__") (.ref x :: args)) (fun v => Q (some v)) E s) : wpAny (model prog w) A (callSpecialIfBound? (.ref x) "__ne__" args) Q E s := by
  simp only [callSpecialIfBound?,
        bindSpecialIfBound?]
  refine wpAny_holding (wpAny_bind (wpAny_bind (wpAny_bind
        (I.type.here ((looks_findIn X hs).here ?_)))))
  refine wpAny_bind
        (wpAny_askSetting (wpAny_ite ?_))
  have fin : wpAny (model prog w) A (call (.builtin "object.__ne__") ([.ref x] ++ args) >>= fun v => pure (some v)) Q E s := wpAny_bind (wpAny_mono h (fun v s' h' => wpAny_pure h') fun _ _ h' => h')
  have S := F.cmp_object.ne
  split
  · simp only [S.bind]
    exact wpAny_bind (wpAny_pure (wpAny_pure (by exact fin)))
  · simp only [S.bind]
    exact wpAny_tryCatch (wpAny_bind (wpAny_pure (wpAny_pure (by exact fin))))

theorem cmp_one {op : CmpOp} {Q : Value → Shared → Prop} (hu : A.units < cLine) (X : K.In s.heap) (I : InstAt s.heap x ox C od) (hb : Looks (model prog w) s.heap (typeOf b) tb) (hn : notFirst K C tb = true)
    (one : wpAny (model prog w) A (tryCompare (.ref x) (cmpInfo op).2.1 b) (fun r s' => ∃ v, r = some v ∧ Q v s') E s) : wpAny (model prog w) A (richCompare op (.ref x) b) Q E s := by
  unfold richCompare
  simp only [oneThing_ref]
  refine wpAny_holding (wpAny_bind
        (wpAny_cRoomFor hu ?_))
  refine wpAny_bind (I.type.here
        (wpAny_bind (hb.here ?_)))
  split
  · rename_i q
    have e : subIn K tb (.ref
          C) = some false := by
      rcases Bool.or_eq_true_iff.mp
            hn with e | e
      · rw [beq_iff_eq.mp
            e] at q; simp at q
      · exact beq_iff_eq.mp e
    refine wpAny_bind
          ((looks_subIn X e).here ?_)
    simp only [Bool.false_eq_true,
          if_false]
    refine wpAny_bind (wpAny_mono one
          (fun r s' z => ?_) fun _ _ e => e)
    obtain ⟨v, rfl, hq⟩ := z
    exact wpAny_pure hq
  · refine wpAny_bind
        (wpAny_pure ?_)
    simp only [Bool.false_eq_true,
          if_false]
    refine wpAny_bind (wpAny_mono one
          (fun r s' z => ?_) fun _ _ e => e)
    obtain ⟨v, rfl, hq⟩ := z
    exact wpAny_pure hq
theorem ne_entry {Q : Fin → Shared → Prop} (hu : A.units < cLine) (X : K.In s.heap) (I : InstAt s.heap x ox C od) (hs : findIn K (.ref C) "__eq__" = some (some (.ref f))) (hf : isFn K (.ref f) = true)
    (h : wpAny (model prog w) A (call (.ref f) [.ref x, b]) (fun v s' => ∃ r : Bool, v = .bool r ∧ Q (.done (.ret (.bool (!r)))) s') E s) : wpAny (model prog w) A (Builtin.«object.__ne__» ⟨[.ref x, b], []⟩) Q E s := by
  have key : wpAny (model prog w) A (callSpecialIfBound? (.ref x) "__eq__" [b]) (fun o s' => ∃ r : Bool, o = some (.bool r) ∧ Q (.done (.ret (.bool (!r)))) s') E s := by
    refine ifBound_K X I hs hf (wpAny_mono h (fun v s' hv => ?_) fun _ _ e => e)
    obtain ⟨r, rfl, q⟩ := hv
    exact ⟨r, rfl, q⟩
  unfold
        Builtin.«object.__ne__»
  show wpAny (model prog w) A (cRoomFor "comparison" [.ref x, b] >>= _) Q E s
  refine wpAny_bind
        (wpAny_cRoomFor hu ?_)
  refine wpAny_bind (wpAny_mono key (fun o s' z => ?_) fun _ _ e => e)
  obtain ⟨r, rfl, q⟩ := z
  show wpAny (model prog w) A (truthy (.bool r) >>= _) Q E s'
  exact wpAny_bind (wpAny_truthy_bool (wpAny_pure q))
theorem cmp_Kne {Q : Value → Shared → Prop} (hu : A.units + 1 < cLine) (X : K.In s.heap) (I : InstAt s.heap x ox C od) (hb : Looks (model prog w) s.heap (typeOf b) tb) (hn : notFirst K C tb = true)
    (hne : findIn K (.ref C) "__ne__" = some (some (.builtin "object.__ne__"))) (hs : findIn K (.ref C) "__eq__" = some (some (.ref f))) (hf : isFn K (.ref f) = true) (hm : mroIn K C (.type "object") = some true)
    (h : wpAny (model prog w) A.in1 (call (.ref f) [.ref x, b]) (fun v s' => ∃ r : Bool, v = .bool r ∧ Q (.bool (!r)) s') E s) : wpAny (model prog w) A (richCompare .NotEq (.ref x) b) Q E s := by
  refine cmp_one (Nat.lt_of_succ_lt hu) X I hb hn ?_
  show wpAny (model prog w) A (tryCompare (.ref x) "__ne__" b) _ E s
  unfold tryCompare
  have sub : Looks (model prog w) s.heap (isInstance (.ref x) (.type "object")) true := I.type.andThen (looks_mroIn X hm)
  refine wpAny_bind (ifBound_ne X I hne (wpAny_call (codeAny_call_builtin F.cmp_object.ne.plain F.cmpEntry_ne (@check_slot (model prog w) _ _ s "object.__ne__" "object" "__ne__" (.ref x) [b] [] _ F.cmpKind_ne F.cmpSplit_ne sub (F.cmpArgs_ne _ _) ?_))))
  refine ne_entry (A := A.in1) hu X I hs hf (wpAny_mono h (fun v s' z => ?_) fun _ _ e => e)
  obtain ⟨r, rfl, q⟩ := z
  exact ⟨r, rfl, wpAny_pure ⟨_, rfl, q⟩⟩
end

structure OwnEqF (K : PySem.W.Frag) (C f : Addr) : Prop where
  eq : PySem.W.findIn K (.ref C) "__eq__" = some (some (.ref f))
  ne : PySem.W.findIn K (.ref C) "__ne__" = some (some (.builtin "object.__ne__"))
  fn : PySem.W.isFn
        K (.ref f) = true
  ob : PySem.W.mroIn K C (.type "object") = some true
def rOwn (K : PySem.W.Frag) (C : Addr) (sp : Sp) (g : Bool → Bool) : R2 := fun x y H Q => ∃ a dx fs tb, x = .ref a ∧ H a = some (.ins C dx fs) ∧ TyX K H y tb ∧ PySem.W.notFirst K C tb = true ∧ sp [x, y] H (fun v H' => ∃ b, v = .bl b ∧ Q (.bl (g b)) H') E0
section
variable {X : Cx} {k : Nat} {C f : Addr} {fd : FuncData} {ps : List Str} {sp : Sp}
theorem own_call {A : Around} {pins : List (Addr × Obj)} {σ : St} {H : Hp} {s : Shared} {Q : VK} {x y : V} {u v : Value} (F : FnOk X.prog X.w X.K X.mg X.base CX0 k f fd ps sp) (hb : Binds X.K fd ps []) (hr : Room k A) (hf : A.frames = X.A.frames)
    (I : L2.Inv X pins σ H s) (rx : RelV x u) (ry : RelV y v) (h : sp [x, y] H Q E0) : wpAny (model X.prog X.w) A (call (.ref f) [u, v]) (EP X pins σ Q) X.xe s := by
  have e0 : Env0 X.prog X.w X.K
        X.mg X.base A X.stack s H := by
    have e := I.env0
    exact ⟨by rw [hf]; exact e.frames, e.mod, e.bs, e.bsz, e.funs, e.frf, e.hok, e.bare⟩
  have hl := F.len _ _ _ _ h
  have r2 : Vals [x, y] [u, v] := .cons rx (.cons ry .nil)
  refine wpAny_call (codeAny_mono (F.run A X.stack s H ⟨[u, v], []⟩ [u, v] [x, y] _ E0 hr e0 (by
    have := hb s [u, v] I.kIn (by simpa using hl)
    simpa using this) r2 h) fun r s' hq => ?_)
  cases r with
  | error e => exact
        False.elim hq
  | ok fl =>
    cases fl with
    | ret w => exact I.after hq
    | next => exact False.elim hq
    | brk => exact False.elim hq
    | cont => exact False.elim hq
theorem op_eqOwn (F : FnOk X.prog X.w X.K X.mg X.base CX0 k f fd ps sp) (q : OwnEqF X.K C f) (hb : Binds X.K fd ps []) (hr : Room k X.A) : OpR X (compareOp .Eq) (rOwn X.K C sp id) := by
  intro pins s σ H x
        y v u Q I rx ry h
  obtain ⟨a, dx, fs, tb, rfl, ha, ty, nf, hsp⟩ := h
  cases rx
  obtain ⟨mA, J, _⟩
        := ins_get I.hok ha
  obtain ⟨od, J, _⟩ := J.look
  obtain ⟨P, Z, p, _⟩ := kit_of I ry ty
  show wpAny (model X.prog X.w) X.A (richCompare .Eq (.ref a) u) (EP X pins σ Q) X.xe s
  refine cmp_one hr.units0 I.kIn J (Z.ty _ _ I.kIn p) nf ?_
  show wpAny (model X.prog X.w) X.A (tryCompare (.ref a) "__eq__" u) _ X.xe s
  unfold tryCompare
  refine wpAny_bind (PySem.W.ifBound_K I.kIn J q.eq q.fn (wpAny_mono (own_call F hb hr rfl I (show RelV (V.ref a) (Value.ref a) from rfl) ry hsp) (fun v s' z => ?_) fun _ _ e => e))
  obtain ⟨v', H', I', rv, b, eb, hq⟩ := z
  subst eb
  cases rv
  exact wpAny_pure ⟨_, rfl, .bl b, H', I', rfl, hq⟩
theorem op_neOwn (F : FnOk X.prog X.w X.K X.mg X.base CX0 k f fd ps sp) (q : OwnEqF X.K C f) (hb : Binds X.K fd ps []) (hr : Room (k + 1) X.A) : OpR X (compareOp .NotEq) (rOwn X.K C sp not) := by
  intro pins s σ H x
        y v u Q I rx ry h
  obtain ⟨a, dx, fs, tb, rfl, ha, ty, nf, hsp⟩ := h
  cases rx
  obtain ⟨mA, J, _⟩
        := ins_get I.hok ha
  obtain ⟨od, J, _⟩ := J.look
  obtain ⟨P, Z, p, _⟩ := kit_of I ry ty
  show wpAny (model X.prog X.w) X.A (richCompare .NotEq (.ref a) u) (EP X pins σ Q) X.xe s
  refine cmp_Kne (by have := hr.units; omega) I.kIn J (Z.ty _ _ I.kIn p) nf q.ne q.eq q.fn q.ob (wpAny_mono (own_call F hb hr.in1 rfl I (show RelV (V.ref a) (Value.ref a) from rfl) ry hsp) (fun v s' z => ?_) fun _ _ e => e)
  obtain ⟨v', H', I', rv, b, eb, hq⟩ := z
  subst eb
  cases rv
  exact ⟨b, rfl, .bl (!b), H', I', rfl, hq⟩
end
end Z

set_option Elab.async false
set_option linter.all false
set_option maxRecDepth 100000
set_option maxHeartbeats 2000500
namespace Z
open PySem L2
/-! ### errors -/
/-- what the written part says of an error class: it is raised, caught by its own name -/
structure ErrF (K : PySem.W.Frag) (C : Addr) : Prop where
  oex : OexC K C
  xf : XfC K C
  me : PySem.W.exmOne K (.ref C) (.ref C) = some true
/-- its __init__ at fI -/
structure ErrI (K : PySem.W.Frag) (C fI : Addr) : Prop where
  iC : PySem.W.findIn K (.ref C) "__init__" = some (some (.ref fI))
  tI : PySem.W.typeIn K (.ref fI) = some (.type "function")
section
variable {X : Cx} {CX : CXT} {C fI : Addr} {k : Nat} {fd : FuncData} {ps : List Str} {sp : Sp} {ta : TA} {x : Str} {e : Expr} {es : List Expr} {p pos : Pos}
theorem pmk_err (T : ErrF X.K C) (iC : ErrI X.K C fI) (F1 : FnOk X.prog X.w X.K X.mg X.base CX0 k fI fd ps sp) (hb : Binds X.K fd ps []) (hr : Room (k + 1) X.A) (hm : X.mg x = some (.ref C)) (hg : Gl X x) (ha : PA X (e :: es) ta)
    (hdb : (x == ("__debug__" : Str)) = false := by decide) (he : starEach (e :: es) X.env = (false, eval e
          X.env) :: starEach es X.env := by rfl) (hpl : (backTo pos (starEach es X.env)).any (·.1) = false := by rfl) :
    PMk X (.Call (.Name x p) (e :: es) [] pos) (tMkO C sp [] ta) :=
  pmk_oex (dvs := []) (ds := []) T.oex iC.iC iC.tI F1 hr hb .nil (fun _ _ _ _ _ _ _ h => h.elim) hg hm ha hdb he hpl
end
/-- an __init__ that keeps one thing under one name -/
def spErr1 (K : PySem.W.Frag) (f : Str) : Sp := Sp2 fun a b H Q E => ∃ (q C : Addr), a = .ref q ∧ OexC K C ∧ PySem.W.findIn K (.ref C) f = some none ∧ H q = some (exo q C none) ∧
  ∀ d, H d = none → d ≠ q → Q .non (upd (upd H d (exd d [(f, b)])) q (exo q C (some d)))
def spErr2 (K : PySem.W.Frag) (f g : Str) : Sp := Sp3 fun a b c H Q E => ∃ (q C : Addr), a = .ref q ∧ OexC K C ∧ PySem.W.findIn K (.ref C) f = some none ∧ PySem.W.findIn K (.ref C) g = some none ∧ H q = some (exo q C none) ∧
  ∀ d, H d = none → d ≠ q → Q .non (upd (upd (upd H d (exd d [(f, b)])) q (exo q C (some d))) d (exd d [(g, c), (f, b)]))
theorem exd_ne {q C d : Addr} {o : Option Addr} {fs : List (Str × V)} : exo q C o ≠ exo q C o → False := fun h => h rfl
section
variable {K : PySem.W.Frag} {H H' : Hp} {L : List En} {C : Addr} {E : XK} {EK : XK} {ts : TA} {f g : Str} {v w : V}
/-- the heap behind an error's making -/
theorem Fx.made {a d : Addr} {o : HO} {H2 : Hp} (F : Fx H L) (ha : H a = none) (hd : H d = none) (k : ∀ b, b ≠ a → b ≠ d → H2 b = H b) : Fx (upd (del H2 a) d o) (.ob d o :: L) := by
  have F1 : Fx (upd (del H2 a) d o) L := F.same fun b u q => by
    have nb := ne_of_none q hd
    have na := ne_of_none q ha
    rw [upd_ne nb, del_ne na, k b na nb]
    exact q
  refine F1.add upd_same fun h => ?_
  obtain ⟨e, he, hm⟩ := List.mem_flatMap.mp h
  obtain ⟨o, q⟩ := En.there (F.1 e he) hm
  rw [hd] at q
  cases q
theorem wMk1 (T : OexC K C) (n : PySem.W.findIn K (.ref C) f = some none) (F : Fx H L) (k : ∀ d H', Fx H' (.ob d (.xd [(f, v)]) :: L) → EK (.ref C) (some d) H') :
    [v].length ≤ 1000 ∧ ∀ a, H a = none → spErr1 K f (.ref a :: ([v] ++ [])) (upd H a (exo a C none))
  (fun v H2 => v = .non ∧ ∃ (d : Addr) (fs : List (Str × V)), H2 a = some (exo a C (some d)) ∧ H2 d = some (exd d fs) ∧ H d = none ∧ EK (.ref C) (some d) (upd (del H2 a) d (.xd fs))) (fun _ _ _ => False) := by
  refine ⟨Nat.le_of_ble_eq_true rfl, fun a ha => ⟨_, _, rfl, a, C, rfl, T, n, upd_same, fun d hd hn => ⟨rfl, d, _, upd_same, ?_, ?_, k d _ (F.made ha ?_ fun b h1 h2 => ?_)⟩⟩⟩
  · rw [upd_ne hn, upd_same]
  · rw [upd_ne hn] at hd; exact hd
  · rw [upd_ne hn] at hd; exact hd
  · rw [upd_ne h1, upd_ne h2, upd_ne h1]
theorem wMk2 (T : OexC K C) (n : PySem.W.findIn K (.ref C) f = some none) (n' : PySem.W.findIn K (.ref C) g = some none) (F : Fx H L) (k : ∀ d H', Fx H' (.ob d (.xd [(g, w), (f, v)]) :: L) → EK (.ref C) (some d) H') :
    [v, w].length ≤ 1000 ∧ ∀ a, H a = none → spErr2 K f g (.ref a :: ([v, w] ++ [])) (upd H a (exo a C none))
  (fun v H2 => v = .non ∧ ∃ (d : Addr) (fs : List (Str × V)), H2 a = some (exo a C (some d)) ∧ H2 d = some (exd d fs) ∧ H d = none ∧ EK (.ref C) (some d) (upd (del H2 a) d (.xd fs))) (fun _ _ _ => False) := by
  refine ⟨Nat.le_of_ble_eq_true rfl, fun a ha => ⟨_, _, _, rfl, a, C, rfl, T, n, n', upd_same, fun d hd hn => ⟨rfl, d, _, ?_, upd_same, ?_, k d _ (F.made ha ?_ fun b h1 h2 => ?_)⟩⟩⟩
  · rw [upd_ne (Ne.symm hn), upd_same]
  · rw [upd_ne hn] at hd; exact hd
  · rw [upd_ne hn] at hd; exact hd
  · rw [upd_ne h2, upd_ne h1, upd_ne h2, upd_ne h1]
end
theorem owns {X : Cx} {K : Value → Shared → Prop} {E₁ : Value → Shared → Prop} (hx : X.xe = fun e s' => wpAny (model X.prog X.w) X.A (leaving X.env e) (fun _ s'' => K e s'') E₁ s') : PassesOwn (model X.prog X.w) X.A X.env X.xe := passes_of hx
/-! ### an instance is made in a try -/
section
variable {X : Cx} {CX : CXT} {k : Nat} {f C : Addr} {fd : FuncData} {ps : List Str} {ds : List Value} {dvs : List V} {sp : Sp} {E : St → XK} {x : Str} {p pos : Pos} {e : Expr} {es : List Expr} {t : TA}
def tMakeS (C : Addr) (sp : Sp) (dvs : List V) (E : St → XK) (t : TA) : TE := fun σ H Q => t σ H fun vs H1 => ∀ x dx, H1 x = none → H1 dx = none → dx ≠ x →
  sp (.ref x :: (vs ++ dvs)) (upd (upd H1 dx (.own x)) x (.ins C dx [])) (fun v H2 => v = .non ∧ Q (.ref x) H2) (E σ)
theorem run_makeS {pins : List (Addr × Obj)} {σ : St} {H : Hp} {s : Shared} {Q : VK} {us : List Value} {vs : List V} (M : Mk X.K C f) (F : FnOk X.prog X.w X.K X.mg X.base CX k f fd ps sp) (hr : Room (k + 1) X.A) (hb : Binds X.K fd ps ds) (hd : Vals dvs ds)
    (hx : PassesAt CX X σ (E σ)) (I : L2.Inv X pins σ H s) (r : Vals vs us)
    (h : ∀ x dx, H x = none → H dx = none → dx ≠ x → sp (.ref x :: (vs ++ dvs)) (upd (upd H dx (.own x)) x (.ins C dx [])) (fun v H2 => v = .non ∧ Q (.ref x) H2) (E σ)) :
    wpAny (model X.prog X.w) X.A (call (.ref
          C) us) (EP X pins σ Q) X.xe s := by
  have hq := h (s.heap.objs.size + 1) s.heap.objs.size (I.hok.fresh (Nat.le_succ
        _)) (I.hok.fresh (Nat.le_refl _)) (Nat.ne_of_lt (Nat.lt_succ_self _))
  have I2 := Inv.made
        (C := C) I
  have r2 : Vals (V.ref (s.heap.objs.size + 1) :: (vs ++ dvs)) (Value.ref
        (s.heap.objs.size + 1) :: (us ++ ds)) := .cons rfl (r.append hd)
  have hl : (Value.ref (s.heap.objs.size +
        1) :: us ++ ds).length = ps.length := by
    have e := r2.length
    rw [F.len _ _ _ _ hq] at e
    exact e.symm
  refine wpAny_call (make_map (f := f) I.kIn M.makes M.init (beq_iff_eq.mp M.fn) (codeAny_mono (F.run _ X.stack _ _ ⟨Value.ref (s.heap.objs.size + 1) :: us, []⟩ (Value.ref (s.heap.objs.size + 1) :: (us ++ ds)) _ _ (E σ) (hr.make C us [])
    (I2.env0.make C us []) (hb _ (Value.ref (s.heap.objs.size
          + 1) :: us) I2.kIn hl) r2 hq) fun r s' hq' => ?_))
  cases r with
  | error e => exact hx pins _ _ e s' I2 hq'
  | ok fl =>
    cases fl with
    | ret u =>
      obtain ⟨v, H', I3, rv,
            ev, q3⟩ := I2.after hq'
      subst ev
      exact ⟨rv, ⟨V.ref (s.heap.objs.size
            + 1), H', I3, rfl, q3⟩⟩
    | next => exact
          False.elim hq'
    | brk => exact False.elim hq'
    | cont => exact
          False.elim hq'
theorem pe_makeS (M : Mk X.K C f) (F : FnOk X.prog X.w X.K X.mg X.base CX k f fd ps sp) (hr : Room (k + 1) X.A) (hg : Gl X x) (hm : X.mg x = some (.ref C)) (hb : Binds X.K fd ps ds) (hd : Vals dvs ds) (hx : ∀ σ, PassesAt CX X σ (E σ))
    (ha : PA X (e :: es) t) (hdb : (x == ("__debug__" : Str)) = false := by decide) (he : starEach (e :: es) X.env = (false,
          eval e X.env) :: starEach es X.env := by rfl) (hpl : (backTo pos (starEach es X.env)).any (·.1) = false := by rfl) :
    PE X (.Call (.Name x p) (e :: es) [] pos) (tMakeS C sp dvs E t) := by
  refine ⟨fun pins
        s σ H Q I h => ?_⟩
  refine wpAny_Call_Name_kw
        (ld_glob I hg hm ?_ hdb)
  refine PySem.W.callWith_K (h₀ := X.base) I.ok.mod.kin M.kp (thn (ha.run
        pos pins s σ H _ I h) fun us s1 ⟨vs, H1, I1, r, q⟩ => ⟨I1.kIn, ?_⟩) he hpl
  exact run_makeS M F hr hb hd (hx σ) I1 r q
end
/-- the new instance and its dict, as entries -/
theorem Fx.inst {H : Hp} {L : List En} {C x dx : Addr} (F : Fx H L) (hx : H x = none) (hd : H dx = none) (ne : dx ≠ x) : Fx (upd (upd H dx (.own x)) x (.ins C dx [])) (.ob x (.ins C dx []) :: .ob dx (.own x) :: L) := by
  have F1 := F.new (o := .own x) hd
  exact F1.new (by rw [upd_ne (Ne.symm ne)]; exact hx)
theorem wMake {sp : Sp} {C : Addr} {dvs : List V} {E : XK} {t : TA} {σ : St} {H : Hp} {Q : VK} (h : t σ H fun vs H1 => ∀ x dx, H1 x = none → H1 dx = none → dx ≠ x →
  sp (.ref x :: (vs ++ dvs)) (upd (upd H1 dx (.own x)) x (.ins C dx [])) (fun v H2 => v = .non ∧ Q (.ref x) H2) E) : tMake C sp dvs E t σ H Q := h
theorem wMakeS {sp : Sp} {C : Addr} {dvs : List V} {E : St → XK} {t : TA} {σ : St} {H : Hp} {Q : VK} (h : t σ H fun vs H1 => ∀ x dx, H1 x = none → H1 dx = none → dx ≠ x →
  sp (.ref x :: (vs ++ dvs)) (upd (upd H1 dx (.own x)) x (.ins C dx [])) (fun v H2 => v = .non ∧ Q (.ref x) H2) (E σ)) : tMakeS C sp dvs E t σ H Q := h
/-- o.f and self.f = v of an instance -/
theorem wFld {K : PySem.W.Frag} {ta : TE} {f : Str} {σ : St} {H : Hp} {Q : VK} (h : ta σ H fun x H1 => ∃ a C dx fs v, x = .ref a ∧ H1 a = some (.ins C dx fs) ∧ Cls K C ∧ NoAttr K C f ∧ fs.lookup f = some v ∧ Q v H1) : tFld K ta f σ H Q := h
theorem wFldAt {K : PySem.W.Frag} {f : Str} {H : Hp} {L : List En} {a C dx : Addr} {fs : List (Str × V)} {v : V} {QP : V → Prop} (F : Fx H L) (m : En.ob a (.ins C dx fs) ∈ L) (c : Cls K C) (n : NoAttr K C f) (e : fs.lookup f = some v) (h : QP v) :
    ∃ a' C dx fs v, V.ref a = .ref a' ∧ H a' = some (.ins C dx fs) ∧ Cls K C ∧ NoAttr K C f ∧ fs.lookup f = some v ∧ QP v := ⟨a, C, dx, fs, v, rfl, F.get m, c, n, e, h⟩

def StoreF (K : PySem.W.Frag) (f : Str) (x y : V) (H : Hp) (N : Hp → Prop) : Prop := ∃ a C dx fs, x = .ref a ∧ H a = some (.ins C dx fs) ∧ Cls K C ∧ NoAttr K C f ∧ fs.length < 1000 ∧ N (upd H a (.ins C dx (putF f y fs)))
theorem wSFld {K : PySem.W.Frag} {ta tv : TE} {f : Str} {σ : St} {H : Hp} {nx bk ct : St → Hp → Prop} {rt : VK} (h : tv σ H fun y H1 => ta σ H1 fun x H2 => StoreF K f x y H2 (fun H3 => nx σ H3)) : sFld K ta tv f ⟨nx, rt, bk, ct⟩ σ H := h
theorem wStoreF {K : PySem.W.Frag} {f : Str} {y : V} {H : Hp} {N : Hp → Prop} {L L' : List En} {a C dx : Addr} {fs : List (Str × V)} (F : Fx H L) (m : En.ob a (.ins C dx fs) ∈ L) (c : Cls K C) (n : NoAttr K C f) (l : fs.length < 1000) (pt : Put a (.ins C dx (putF f y fs)) L L') (k : ∀ H', Fx H' L' → N H') : StoreF K f (.ref a) y H N :=
  ⟨a, C, dx, fs, rfl, F.get m, c, n, l, k _ (F.put pt)⟩
/-- self.f = v in an error's __init__ -/
theorem init1_run {K : PySem.W.Frag} {f : Str} {a b : V} {H : Hp} {Q : VK} {rt : VK} {bk ct : St → Hp → Prop} (h : ∃ (q C : Addr), a = .ref q ∧ OexC K C ∧ PySem.W.findIn K (.ref C) f = some none ∧ H q = some (exo q C none) ∧
  ∀ d, H d = none → d ≠ q → Q .non (upd (upd H d (exd d [(f, b)])) q (exo q C (some d)))) : tOst K f (tVar 0) (tVar 1) ⟨fun _ H' => Q .non H', rt, bk, ct⟩ [some a, some b] H := by
  obtain ⟨q, C, rfl, T, n, hq, k⟩ := h
  exact ⟨_, rfl, _, rfl, q, C, rfl, T, n, .inl ⟨hq, fun dx hd ne => k dx hd ne⟩⟩
theorem init2_run {K : PySem.W.Frag} {f g : Str} {a b c : V} {H : Hp} {Q : VK} {rt : VK} {bk ct : St → Hp → Prop} (h : ∃ (q C : Addr), a = .ref q ∧ OexC K C ∧ PySem.W.findIn K (.ref C) f = some none ∧ PySem.W.findIn K (.ref C) g = some none ∧ H q = some (exo q C none) ∧
  ∀ d, H d = none → d ≠ q → Q .non (upd (upd (upd H d (exd d [(f, b)])) q (exo q C (some d))) d (exd d [(g, c), (f, b)]))) : tSeq (tOst K f (tVar 0) (tVar 1)) (tOst K g (tVar 0) (tVar 2)) ⟨fun _ H' => Q .non H', rt, bk, ct⟩ [some a, some b, some c] H := by
  obtain ⟨q, C, rfl, T, n, n', hq, k⟩ := h
  exact ⟨_, rfl, _, rfl, q, C, rfl, T, n, .inl ⟨hq, fun dx hd ne => ⟨_, rfl, _, rfl, q, C, rfl, T, n', .inr ⟨dx, _, upd_same, by rw [upd_ne ne, upd_same], Nat.le_of_ble_eq_true rfl, k dx hd ne⟩⟩⟩⟩
end Z

set_option Elab.async false
set_option linter.all false
set_option maxRecDepth 100000
set_option maxHeartbeats 2000500
namespace Z
open PySem L2
section
variable (CX : CXT) (P : Program) (w : World) (K : PySem.W.Frag) (mg : Str → Option Value) (base : Heap)
def ErrO (C : Addr) (k : Nat) (ps : List Str) (sp : Sp) : Prop := ∃ (f : Addr) (fd : FuncData), ErrI K C f ∧ Binds K fd ps [] ∧ FnOk P w K mg base CX0 k f fd ps sp
def MkO (C : Addr) (k : Nat) (ps : List Str) (dvs : List V) (sp : Sp) : Prop := ∃ (f : Addr) (fd : FuncData) (ds : List Value), Mk K C f ∧ Binds K fd ps ds ∧ Vals dvs ds ∧ FnOk P w K mg base CX k f fd ps sp
def MkKO (C : Addr) (k : Nat) (ps ks : List Str) (n : Nat) (gV : List V → List V → List V) (sp : Sp) : Prop := ∃ (f : Addr) (fd : FuncData) (g : List Value → List Value → List Value), Mk K C f ∧ KBn K fd ps (n + 1) ks g gV ∧ FnOk P w K mg base CX k f fd ps sp
def EqO (C : Addr) (k : Nat) (ps : List Str) (sp : Sp) : Prop := ∃ (f : Addr) (fd : FuncData), OwnEqF K C f ∧ Binds K fd ps [] ∧ FnOk P w K mg base CX0 k f fd ps sp
def PropO (C : Addr) (x : Str) (k : Nat) (ps : List Str) (sp : Sp) : Prop := ∃ (p f : Addr) (fd : FuncData), PropOf K C x p f ∧ Binds K fd ps [] ∧ FnOk P w K mg base CX k f fd ps sp
def MethO (C : Addr) (x : Str) (k : Nat) (ps : List Str) (dvs : List V) (sp : Sp) : Prop := ∃ (f : Addr) (fd : FuncData) (ds : List Value), Meth K C x f ∧ Binds K fd ps ds ∧ Vals dvs ds ∧ FnOk P w K mg base CX k f fd ps sp
end
section
variable {X : Cx} {CX : CXT} {C : Addr} {k : Nat} {ps ks : List Str} {sp : Sp} {ta t tk : TA} {x : Str} {e o : Expr} {es : List Expr} {p pos apos : Pos} {E : XK} {ES : St → XK} {dvs : List V} {te : TE} {n : Nat} {gV : List V → List V → List V} {kws : List Keyword}
theorem pmk_errO (T : ErrF X.K C) (O : ErrO X.prog X.w X.K X.mg X.base C k ps sp) (hr : Room (k + 1) X.A) (hm : X.mg x = some (.ref C)) (hg : Gl X x) (ha : PA X (e :: es) ta)
    (hdb : (x == ("__debug__" : Str)) = false := by decide) (he : starEach (e :: es) X.env = (false, eval e
          X.env) :: starEach es X.env := by rfl) (hpl : (backTo pos (starEach es X.env)).any (·.1) = false := by rfl) :
    PMk X (.Call (.Name x p) (e :: es) [] pos) (tMkO C sp [] ta) := by
  obtain ⟨f, fd, i, b, F⟩ := O
  exact pmk_err T i F b hr hm hg ha hdb he hpl
theorem pe_makeO (O : MkO CX X.prog X.w X.K X.mg X.base C k ps dvs sp) (hr : Room (k + 1) X.A) (hm : X.mg x = some (.ref C)) (hg : Gl X x) (hx : Passes CX X E) (ha : PA X (e :: es) t)
    (hdb : (x == ("__debug__" : Str)) = false := by decide) (he : starEach (e :: es) X.env = (false, eval e
          X.env) :: starEach es X.env := by rfl) (hpl : (backTo pos (starEach es X.env)).any (·.1) = false := by rfl) :
    PE X (.Call (.Name x p) (e :: es)
          [] pos) (tMake C sp dvs E t) := by
  obtain ⟨f, fd, ds, M, b, v, F⟩ := O
  exact pe_make M F hr hg hm b v hx ha hdb he hpl
theorem pe_makeSO (O : MkO CX X.prog X.w X.K X.mg X.base C k ps dvs sp) (hr : Room (k + 1) X.A) (hm : X.mg x = some (.ref C)) (hg : Gl X x) (hx : ∀ σ, PassesAt CX X σ (ES σ)) (ha : PA X (e :: es) t)
    (hdb : (x == ("__debug__" : Str)) = false := by decide) (he : starEach (e :: es) X.env = (false, eval e
          X.env) :: starEach es X.env := by rfl) (hpl : (backTo pos (starEach es X.env)).any (·.1) = false := by rfl) :
    PE X (.Call (.Name x p) (e :: es) [] pos) (tMakeS C sp dvs ES t) := by
  obtain ⟨f, fd, ds, M, b, v, F⟩ := O
  exact pe_makeS M F hr hg hm b v hx ha hdb he hpl
theorem pe_makeKO (O : MkKO CX X.prog X.w X.K X.mg X.base C k ps ks n gV sp) (hr : Room (k + 1) X.A) (hm : X.mg x = some (.ref C)) (hg : Gl X x) (hx : Passes CX X E) (ha : PA X (e :: es) t) (hkw : PK X kws tk)
    (hall : (backToKw pos (keywordEach kws X.env)).all (·.1.isSome) = true := by rfl) (hks : (backToKw pos (keywordEach kws X.env)).filterMap (·.1) = ks := by rfl)
    (hdb : (x == ("__debug__" : Str)) = false := by decide) (he : starEach
          (e :: es) X.env = (false, eval e X.env) :: starEach es X.env := by rfl)
    (hpl : ((backTo pos (starEach (e :: es) X.env)).any (·.1) || (backToKw
          pos (keywordEach kws X.env)).any (·.1.isNone)) = false := by rfl) :
    PE X (.Call (.Name x p) (e :: es) kws pos)
          (tMakeN C n ks.length sp gV E t tk) := by
  obtain ⟨f, fd, g, M, b, F⟩ := O
  exact pe_makeN M F hr hg hm b hx ha hkw hall hks hdb he hpl
theorem pe_propO (O : PropO CX X.prog X.w X.K X.mg X.base C x k ps sp) (c : Cls X.K C) (hr : Room (k + 1) X.A) (hx : Passes CX X.nox E) (he : PE X e te) (hab : attributeBase e x X.env (eval e X.env) = eval e X.env := by rfl) :
    PE X (.Attribute e x pos) (tProp C sp [] E te) := by
  obtain ⟨p, f, fd, q, b, F⟩ := O
  exact pe_prop he c q F hr b .nil hx hab
theorem op_eqOwnO (O : EqO X.prog X.w X.K X.mg X.base C k ps sp) (hr : Room k X.A) : OpR X (compareOp .Eq) (rOwn X.K C sp id) := by
  obtain ⟨f, fd, q, b, F⟩ := O
  exact op_eqOwn F q b hr
theorem op_neOwnO (O : EqO X.prog X.w X.K X.mg X.base C k ps sp) (hr : Room (k + 1) X.A) : OpR X (compareOp .NotEq) (rOwn X.K C sp not) := by
  obtain ⟨f, fd, q, b, F⟩ := O
  exact op_neOwn F q b hr
end
/-- what the written part says of an own class whose instances are asked for their kind -/
structure InsF (K : PySem.W.Frag) (C : Addr) : Prop where
  cl : Cls K C
  ha : PySem.W.findIn K (.ref C) "__class__"
        = some (some (.builtin "object.__class__"))
  hn : PySem.W.specialIn K (.builtin "object.__class__")
        "__get__" = some (some (.builtin "getset_descriptor.__get__"))
  htk : PySem.W.takesIn K (.builtin
        "object.__class__") = some true
  hm : PySem.W.mroIn K C
        (.type "object") = some true
  me : PySem.W.kitOne K (.ref
        C) (.ref C) = some true
  tup : PySem.W.kitOne K (.type "tuple") (.ref C) = some false
  lst : PySem.W.kitOne K (.type "list") (.ref C) = some false
  str : PySem.W.kitOne K (.type "str") (.ref C) = some false
  nft : PySem.W.notFirst K C (.type "tuple") = true
section
variable {K : PySem.W.Frag} {C a dx : Addr} {H : Hp} {L : List En} {fs : List (Str × V)} {Q : VK} {xs : List V}
theorem InsF.ty (c : InsF K C) (h : H a = some (.ins C dx fs)) : TyX K H (.ref a) (.ref C) := .base (.ins h c.cl c.ha c.hn c.htk c.hm)
theorem InsF.nf (c : InsF K C) : PySem.W.notFirst K C (.ref C) = true := by
  show ((Value.ref C == .ref C) || _) = true
  rw [beq_self_eq_true]
  rfl
theorem wIsiOwn (c : InsF K C) (h : H a = some (.ins C dx fs)) (q : Q (.bl true) H) : rOrC (rIsi K) (rIsiT K) [.ref a, .ref C] H Q := .inl ⟨_, _, _, _, _, rfl, .own _, c.ty h, c.me, q⟩
theorem wIsiTupOwn (c : InsF K C) (s : SqT K H a xs) (q : Q (.bl false) H) : rOrC (rIsi K) (rIsiT K) [.ref a, .ref C] H Q := .inl ⟨_, _, _, _, _, rfl, .own _, (HasK.tup s).tyx, c.tup, q⟩
end
end Z
namespace Z
open PySem L2
section
variable {X : Cx} {CX : CXT} {k : Nat} {ps : List Str} {sp : Sp} {E : St → XK} {x : Str} {p pos : Pos} {e : Expr} {es : List Expr} {t : TA}
theorem pe_callSO (O : Ok CX X.prog X.w X.K X.mg X.base x k ps [] sp) (hg : Gl X x) (hr : Room k X.A) (hx : ∀ σ, PassesAt CX X σ (E σ)) (ha : PA X (e :: es) t)
    (hdb : (x == ("__debug__" : Str)) = false := by decide) (he : starEach (e :: es) X.env = (false, eval e
          X.env) :: starEach es X.env := by rfl) (hpl : (backTo pos (starEach es X.env)).any (·.1) = false := by rfl) :
    PE X (.Call (.Name x p) (e ::
          es) [] pos) (tCallS sp E t) := by
  obtain ⟨f, fd, ds, g, kp, b, v, F⟩ := O
  cases v
  exact pe_callS F hr hg g kp b hx ha hdb he hpl
end
theorem wCallS {sp : Sp} {E : St → XK} {t : TA} {σ : St} {H : Hp} {Q : VK} (h : t σ H fun vs H1 => sp vs H1 Q (E σ)) : tCallS sp E t σ H Q := h
end Z

set_option Elab.async false
set_option linter.all false
set_option maxRecDepth 100000
set_option maxHeartbeats 2000500
namespace Z
open PySem L2 RZ
/-! ### things by the ledger alone -/
inductive Thing (L : List En) : V → Kd → Prop where
  | non : Thing L .non .non
  | bl (b : Bool) : Thing L (.bl b) .bl
  | int (i : Int) : Thing L (.int i) .int
  | str (z : Str) : Thing L (.str z) .str
  | lst {a : Addr} {xs : List V} (m : En.ob a (.lst xs) ∈ L) : Thing L (.ref a) .lst
  | tup {a : Addr} {xs : List V} (m : En.ob a (.tup xs) ∈ L) : Thing L (.ref a) .tup
theorem Thing.has {K : PySem.W.Frag} {H : Hp} {L : List En} {x : V} {k : Kd} (F : Fx H L) (t : Thing L x k) : HasK K H x k := by
  cases t with
  | non => exact .non
  | bl b => exact .bl b
  | int i => exact .int i
  | str z => exact .str z
  | lst m => exact .lst (F.lst m)
  | tup m => exact .tup (F.tup m)
theorem Thing.mono {L L' : List En} {x : V} {k : Kd} (t : Thing L x k) (h : ∀ e ∈ L, e ∈ L') : Thing L' x k := by
  cases t with
  | non => exact .non
  | bl b => exact .bl b
  | int i => exact .int i
  | str z => exact .str z
  | lst m => exact .lst (h _ m)
  | tup m => exact .tup (h _ m)
theorem Thing.cons {L : List En} {x : V} {k : Kd} {e : En} (t : Thing L x k) : Thing (e :: L) x k := t.mono fun _ h => List.mem_cons_of_mem _ h
/-- its items, where it is a sequence -/
inductive SeqIs (L : List En) : V → Option (List V) → Prop where
  | non : SeqIs L .non none
  | bl (b : Bool) : SeqIs L (.bl b) none
  | int (i : Int) : SeqIs L (.int i) none
  | str (z : Str) : SeqIs L (.str z) none
  | lst {a : Addr} {xs : List V} (m : En.ob a (.lst xs) ∈ L) : SeqIs L (.ref a) (some xs)
  | tup {a : Addr} {xs : List V} (m : En.ob a (.tup xs) ∈ L) : SeqIs L (.ref a) (some xs)
def inLen (lo hi : Int) : Option (List V) → Bool
  | some xs => decide (lo ≤ (xs.length : Int)) && decide ((xs.length : Int) ≤ hi)
  | none => false
/-! ### comprehensions -/
section
variable {D : Addr} {R : Nat → List V → List En → Prop}
def LcP (D : Addr) (R : Nat → List V → List En → Prop) (i : Nat) (H : Hp) : Prop := ∃ acc L, Fx H (.ob D (.lst acc) :: L) ∧ R i acc L
def LcPut (D : Addr) (R : Nat → List V → List En → Prop) (i : Nat) (y : V) (H : Hp) : Prop := ∃ acc, H D = some (.lst acc) ∧ acc.length < sizeLine ∧ LcP D R (i + 1) (upd H D (.lst (acc ++ [y])))
theorem lcPut {i : Nat} {y : V} {H : Hp} {acc : List V} {L : List En} (F : Fx H (.ob D (.lst acc) :: L)) (n : acc.length < sizeLine) (r : R (i + 1) (acc ++ [y]) L) : LcPut D R i y H :=
  ⟨acc, F.get List.mem_cons_self, n, acc ++ [y], L, F.put .head, r⟩
variable {J : It} {n : Nat} {G : Hp → Prop} {Y : Nat → Hp → V → Hp → Prop} {g : TG} {tt : TT} {te : TE} {vs : List Nat} {σ : St} {H : Hp} {Q : VK} {L : List En}
theorem wLcW {QD : Addr → Hp → Prop} (w : Walk J n G Y) (F : Fx H L) (R : Nat → List V → List En → Prop) (h0 : R 0 [] L) (hG : ∀ i acc L' D H', R i acc L' → Fx H' (.ob D (.lst acc) :: L') → G H')
    (hs : ∀ i x D H' H'' acc L', i < n → R i acc L' → Fx H' (.ob D (.lst acc) :: L') → Y i H' x H'' → g x (wipe σ vs) H'' fun σ2 H2 => wipe σ2 vs = wipe σ vs ∧ tt σ2 H2 fun b H3 =>
      if b = true then te σ2 H3 fun y H4 => LcPut D R i y H4 else LcP D R (i + 1) H3)
    (hd : ∀ D acc L' H', Fx H' (.ob D (.lst acc) :: L') → R n acc L' → QD D H') :
    ∀ D, H D = none → ∃ W : Nat → Nat → Hp → Prop, (∃ m, W 0 m (upd H D (.lst []))) ∧ ∀ i m H, W i m H →
  (J.stop i H ∧ QD D H) ∨ (J.go i H ∧ ∃ Nx : Hp → Prop, (∀ H', Nx H' → ∃ m', m' < m ∧ W (i + 1) m' H') ∧ ∀ x H', J.yld i H x H' → g x (wipe σ vs) H' fun σ2 H2 => wipe σ2 vs = wipe σ vs ∧ tt σ2 H2 fun b H3 =>
    if b = true then te σ2 H3 fun y H4 => ∃ acc, H4 D = some (.lst acc) ∧ acc.length < sizeLine ∧ Nx (upd H4 D (.lst (acc ++ [y]))) else Nx H3) := fun D hD =>
  lc_it w (Qd := fun H' => QD D H') (LcP D R) ⟨[], L, F.new hD, h0⟩ (fun i H' _ ⟨acc, L', F', r⟩ => hG i acc L' D H' r F')
    (fun i x H' H'' hi ⟨acc, L', F', r⟩ y => hs i x D H' H'' acc L' hi r F' y) (fun H' ⟨acc, L', F', r⟩ => hd D acc L' H' F' r)
end
theorem wLc {wi : TI} {g : TG} {tt : TT} {te : TE} {vs : List Nat} {σ : St} {H : Hp} {Q : VK} (h : wi σ H fun J H1 => ∀ D, H1 D = none → ∃ W : Nat → Nat → Hp → Prop, (∃ m, W 0 m (upd H1 D (.lst []))) ∧ ∀ i m H, W i m H →
  (J.stop i H ∧ Q (.ref D) H) ∨ (J.go i H ∧ ∃ Nx : Hp → Prop, (∀ H', Nx H' → ∃ m', m' < m ∧ W (i + 1) m' H')
        ∧ ∀ x H', J.yld i H x H' → g x (wipe σ vs) H' fun σ2 H2 => wipe σ2 vs = wipe σ vs ∧ tt σ2 H2 fun b H3 =>
    if b = true then te σ2 H3 fun y H4 => ∃ acc, H4 D = some (.lst acc) ∧ acc.length < sizeLine ∧ Nx (upd H4 D (.lst (acc ++ [y]))) else Nx H3)) : tLc wi g tt te vs σ H Q := h
/-! what a loop or a comprehension walks -/
section
variable {K : PySem.W.Frag} {H : Hp} {L : List En} {a b : Addr} {xs ys : List V} {RI : It → Hp → Prop} {σ : St} {te : TE} {ta : TA}
def GoL (K : PySem.W.Frag) (x : V) (H : Hp) (R : It → Hp → Prop) : Prop := ∃ a, x = .ref a ∧ (∃ xs, SqL K H a xs) ∧ R (Itl K a) H
def GoT (K : PySem.W.Frag) (x : V) (H : Hp) (R : It → Hp → Prop) : Prop := ∃ a, x = .ref a ∧ (∃ xs, SqT K H a xs) ∧ R (Itt K a) H
theorem wIL (h : te σ H fun x H1 => GoL K x H1 RI) : iList K te σ H RI := h
theorem wIT (h : te σ H fun x H1 => GoT K x H1 RI) : iTup K te σ H RI := h
theorem wGoL (s : SqL K H a xs) (h : RI (Itl K a) H) : GoL K (.ref a) H RI := ⟨a, rfl, ⟨xs, s⟩, h⟩
theorem wGoT (s : SqT K H a xs) (h : RI (Itt K a) H) : GoT K (.ref a) H RI := ⟨a, rfl, ⟨xs, s⟩, h⟩
def GoR1 (vs : List V) (H : Hp) (R : It → Hp → Prop) : Prop := ∃ j : Int, vs = [.int j] ∧ -(2 ^ 62) ≤ j ∧ j < 2 ^ 62 ∧ R (Itr 0 j.toNat) H
def GoR2 (vs : List V) (H : Hp) (R : It → Hp → Prop) : Prop := ∃ i j : Int, vs = [.int i, .int j] ∧ (-(2 ^ 62) ≤ i ∧ i < 2 ^ 62 ∧ -(2 ^ 62) ≤ j ∧ j < 2 ^ 62) ∧ R (Itr i (j - i).toNat) H
theorem wIR1 (h : ta σ H fun vs H1 => GoR1 vs H1 RI) : iRng1 ta σ H RI := h
theorem wIR2 (h : ta σ H fun vs H1 => GoR2 vs H1 RI) : iRng2 ta σ H RI := h
theorem wGoR1 {j : Int} (h1 : -(2 ^ 62) ≤ j) (h2 : j < 2 ^ 62) (h : RI (Itr 0 j.toNat) H) : GoR1 [.int j] H RI := ⟨j, rfl, h1, h2, h⟩
theorem wGoR2 {i j : Int} (h1 : -(2 ^ 62) ≤ i) (h2 : i < 2 ^ 62) (h3 : -(2 ^ 62) ≤ j) (h4 : j < 2 ^ 62) (h : RI (Itr i (j - i).toNat) H) : GoR2 [.int i, .int j] H RI := ⟨i, j, rfl, ⟨h1, h2, h3, h4⟩, h⟩
def GoZ (K : PySem.W.Frag) (vs : List V) (H : Hp) (R : It → Hp → Prop) : Prop := ∃ a b xs ys, vs = [.ref a, .ref b] ∧ ((SqL K H a xs ∧ SqL K H b ys ∧ R (Itz K a b) H) ∨ (SqT K H a xs ∧ SqT K H b ys ∧ R (ItzT K a b) H))
theorem wIZ (h : ta σ H fun vs H1 => GoZ K vs H1 RI) : iZipA K ta σ H RI := h
theorem wGoZL (s : SqL K H a xs) (s' : SqL K H b ys) (h : RI (Itz K a b) H) : GoZ K [.ref a, .ref b] H RI := ⟨a, b, xs, ys, rfl, .inl ⟨s, s', h⟩⟩
theorem wGoZT (s : SqT K H a xs) (s' : SqT K H b ys) (h : RI (ItzT K a b) H) : GoZ K [.ref a, .ref b] H RI := ⟨a, b, xs, ys, rfl, .inr ⟨s, s', h⟩⟩
theorem walk_zipT {n : Nat} (hn : n = min xs.length ys.length) : Walk (ItzT K a b) n (fun H => SqT K H a xs ∧ SqT K H b ys) (YPair (fun i => xs[i]?) (fun i => ys[i]?)) := by
  subst hn
  refine ⟨fun i _ hi q => ?_, fun _ q => ⟨xs, ys,
        q.1, q.2, by omega⟩, fun i H v H' _ q y => ?_⟩
  · have h1 : i <
        xs.length := by omega
    have h2 : i <
          ys.length := by omega
    exact ⟨xs, ys, xs[i], ys[i], q.1,
          q.2, by simp [h1], by simp [h2]⟩
  · obtain ⟨T, x, z, h1,
        h2, h3, h4, h5⟩ := y
    exact ⟨T, x, z, h1, h2,
          h3, h4 xs q.1, h5 ys q.2⟩
theorem wYes {QB : Bool → Hp → Prop} (h : QB true H) : tYes σ H QB := h
end
/-- a for over a walk -/
theorem wForW {J : It} {n : Nat} {G : Hp → Prop} {Y : Nat → Hp → V → Hp → Prop} (w : Walk J n G Y) {g : TG} {tb : TS} {nx : St → Hp → Prop} {rt : VK} {σ : St} {H : Hp} (Pv : Nat → St → Hp → Prop) (h0 : Pv 0 σ H) (hG : ∀ i σ H, i ≤ n → Pv i σ H → G H)
    (hs : ∀ i x σ H H', i < n → Pv i σ H → Y i H x H' → g x σ H' fun σ2 H2 => tb ⟨Pv (i + 1), rt, nx, Pv (i + 1)⟩ σ2 H2) (hd : ∀ σ H, Pv n σ H → nx σ H) :
    ∃ W : Nat → Nat → St → Hp → Prop, (∃
          m, W 0 m σ H) ∧ ∀ i m σ H, W i m σ H →
      (J.stop i H ∧ nx σ H) ∨ (J.go i H ∧ ∃ N : St → Hp → Prop, (∀ σ' H', N σ' H' → ∃ m', m' < m ∧ W (i + 1) m' σ' H') ∧ ∀ x H', J.yld i H x H' → g x σ H' fun σ2 H2 => tb ⟨N, rt, nx, N⟩ σ2 H2) :=
  for_it (D := ⟨nx, rt, fun _ _ => False, fun _ _ => False⟩) w Pv h0 hG hs hd
/-- a tuple's items to names -/
theorem wGTup {K : PySem.W.Frag} {n : Nat} {t : TGs} {a : Addr} {xs : List V} {σ : St} {H : Hp} {N : St → Hp → Prop} (s : SqT K H a xs) (e : xs.length = n) (h : t xs σ H N) : gTup K n t (.ref a) σ H N := ⟨a, xs, rfl, s, e, h⟩
theorem wGCons {t : TG} {u : TGs} {v : V} {r : List V} {σ : St} {H : Hp} {N : St → Hp → Prop} (h : t v σ H fun σ' H' => u r σ' H' N) : gCons t u (v :: r) σ H N := ⟨v, r, rfl, h⟩
theorem wGNil {σ : St} {H : Hp} {N : St → Hp → Prop} (h : N σ H) : gNil [] σ H N := ⟨rfl, h⟩
/-! slices -/
section
variable {K : PySem.W.Frag} {H : Hp} {L : List En} {a : Addr} {xs : List V} {Q : VK} {σ : St} {r : V → Option Int → Option Int → Hp → VK → Prop} {te : TE} {tl th : TO} {lo hi : Option Int} {i : Int}
theorem wSl (h : te σ H fun x H1 => tl σ H1 fun l H2 => th σ H2 fun u H3 => r x l u H3 Q) : tSl r te tl th σ H Q := h
theorem wNoPart {QO : Option Int → Hp → Prop} (h : QO none H) : tNoPart σ H QO := h
def PartV (x : V) (H : Hp) (QO : Option Int → Hp → Prop) : Prop := ∃ i, x = .int i ∧ QO (some i) H
theorem wPart {QO : Option Int → Hp → Prop} {t : TE} (h : t σ H fun x H1 => PartV x H1 QO) : tPart t σ H QO := h
theorem wPartV {QO : Option Int → Hp → Prop} (h : QO (some i) H) : PartV (.int i) H QO := ⟨i, rfl, h⟩
theorem wSlL (s : SqL K H a xs) (F : Fx H L) (k : ∀ p H', Fx H' (.ob p (.lst (cutV xs lo hi)) :: L) → Q (.ref p) H') : rOrS (rSlL K) (rSlT K) (.ref a) lo hi H Q := .inl ⟨a, xs, rfl, s, wNewF F k⟩
theorem wSlT (s : SqT K H a xs) (n : ¬ (HT.sIx xs.length 0 lo = 0 ∧ HT.sIx xs.length xs.length hi = xs.length)) (F : Fx H L) (k : ∀ p H', Fx H' (.ob p (.tup (cutV xs lo hi)) :: L) → Q (.ref p) H') : rOrS (rSlL K) (rSlT K) (.ref a) lo hi H Q := .inr ⟨a, xs, rfl, s, n, wNewF F k⟩
theorem cut_tail : cutV xs (some 1) none = xs.tail := by
  unfold cutV HT.sIx
  cases xs with
  | nil => rfl
  | cons x r =>
    simp only [List.length_cons]
    have e : (min (1 : Int).toNat (r.length + 1)) = 1 := by
      have : (1 : Int).toNat = 1 := rfl
      omega
    simp
end

/-! a list or a tuple, walked -/
section
variable {X : Cx} {tg : Expr}
def GoS (K : PySem.W.Frag) (x : V) (H : Hp) (R : It → Hp → Prop) : Prop := GoL K x H R ∨ GoT K x H R
def iSeq (K : PySem.W.Frag) (tl : TE) : TI := fun σ H R => tl σ H fun x H1 => GoS K x H1 R
theorem pi_seq {l : Expr} {tl : TE} (hl : PE X l tl) : PI X tg l (iSeq X.K tl) := by
  refine ⟨fun pins
        s σ H R I h => ?_⟩
  refine thn (hl.run pins s σ H _ I h)
        fun v s1 ⟨x, H1, I1, r1, q1⟩ => ?_
  rcases q1 with q1 | q1
  · obtain ⟨a, e, ⟨xs, hq⟩, q⟩ := q1
    subst e
    cases r1
    obtain ⟨its, rv, p,
          hz⟩ := I1.list hq
    refine wpAny_pyIter_list
          p.isList ?_
    refine ⟨s1.heap.objs.size, [s1.heap.objs.size], _, _, H1, rfl, I1.kept (t' := s1.toks) fun b o e =>
          Heap.get?_push_of_some _ e, turn_list a _, ⟨_, Heap.get?_push_size _ rfl, rfl, rfl⟩, fun b hb => ?_, q⟩
    have e : b = s1.heap.objs.size
          := by simpa using hb
    subst e
    exact I1.fpOk (Nat.le_refl _)
          (I1.hok.fresh (Nat.le_refl _))
  · obtain ⟨a, e, ⟨xs, hq⟩, q⟩ := q1
    subst e
    cases r1
    obtain ⟨its, rv, p,
          hz⟩ := I1.tuple hq
    refine wpAny_pyIter_tuple (show
          s1.heap.IsTuple a its.toArray from p) ?_
    refine ⟨s1.heap.objs.size, [s1.heap.objs.size], _, _, H1, rfl, I1.kept (t' := s1.toks) fun b o e =>
          Heap.get?_push_of_some _ e, turn_tuple a _, ⟨_, Heap.get?_push_size _ rfl, rfl, rfl⟩, fun b hb => ?_, q⟩
    have e : b = s1.heap.objs.size
          := by simpa using hb
    subst e
    exact I1.fpOk (Nat.le_refl _)
          (I1.hok.fresh (Nat.le_refl _))
end
section
variable {K : PySem.W.Frag} {H : Hp} {L : List En} {a : Addr} {xs : List V} {RI : It → Hp → Prop} {σ : St} {te : TE}
theorem wIS (h : te σ H fun x H1 => GoS K x H1 RI) : iSeq K te σ H RI := h
theorem wGoSL (s : SqL K H a xs) (h : RI (Itl K a) H) : GoS K (.ref a) H RI := .inl (wGoL s h)
theorem wGoST (s : SqT K H a xs) (h : RI (Itt K a) H) : GoS K (.ref a) H RI := .inr (wGoT s h)
end
end Z
namespace Z
open PySem L2 RZ
theorem SeqIs.mono {L L' : List En} {a : V} {o : Option (List V)} (s : SeqIs L a o) (h : ∀ e ∈ L, e ∈ L') : SeqIs L' a o := by
  cases s with
  | non => exact .non
  | bl b => exact .bl b
  | int i => exact .int i
  | str z => exact .str z
  | lst m => exact .lst (h _ m)
  | tup m => exact .tup (h _ m)
end Z

set_option Elab.async false
set_option linter.all false
set_option maxRecDepth 100000
set_option maxHeartbeats 2000500
namespace Z
open PySem L2 RZ
theorem wAll {K : PySem.W.Frag} {H : Hp} {a : Addr} {bs : List Bool} {Q : VK} (s : SqL K H a (bs.map V.bl)) (h : Q (.bl (bs.all id)) H) : rAll K [.ref a] H Q := ⟨a, bs, rfl, s, h⟩
theorem wSum {K : PySem.W.Frag} {H : Hp} {a : Addr} {ns : List Int} {Q : VK} (s : SqL K H a (ns.map V.int)) (h : Q (.int ns.sum) H) : rSum K [.ref a] H Q := ⟨a, ns, rfl, s, h⟩
theorem wSorted {K : PySem.W.Frag} {H : Hp} {L : List En} {a : Addr} {ns : List Int} {Q : VK} (s : SqL K H a (ns.map V.int)) (n : ns.length < 64) (F : Fx H L) (k : ∀ (ms : List Int) p H', ms.Perm ns → ms.Pairwise (· ≤ ·) → Fx H' (.ob p (.lst (ms.map V.int)) :: L) → Q (.ref p) H') : rSorted K [.ref a] H Q :=
  ⟨a, ns, rfl, s, n, fun ms p q r hp => k ms p _ q r (F.new hp)⟩
/-- neighbours ascend -/
def asc : List Int → Bool
  | a :: b :: r => decide (a < b) && asc (b :: r)
  | _ => true
theorem asc_pw : ∀ {l : List Int}, asc l = true ↔ l.Pairwise (· < ·)
  | [] => by simp [asc]
  | [a] => by simp [asc]
  | a :: b :: r => by
    have ih := asc_pw (l := b :: r)
    have e : asc (a :: b :: r) = (decide (a < b) && asc (b :: r)) := by rw [asc]
    rw [e, Bool.and_eq_true, ih, decide_eq_true_iff]
    constructor
    · intro hp
      obtain ⟨h, p⟩ := hp
      refine List.pairwise_cons.mpr ⟨fun x hx => ?_, p⟩
      rcases List.mem_cons.mp hx with e1 | hx
      · rw [e1]; exact h
      · exact Int.lt_trans h ((List.pairwise_cons.mp p).1 x hx)
    · intro hp
      obtain ⟨h, p⟩ := List.pairwise_cons.mp hp
      exact ⟨h b List.mem_cons_self, p⟩
theorem asc_zip : ∀ {l : List Int}, ((l.zip l.tail).all fun p => decide (p.1 < p.2)) = asc l
  | [] => rfl
  | [a] => rfl
  | a :: b :: r => by
    have ih := asc_zip (l := b :: r)
    have e : asc (a :: b :: r) = (decide (a < b) && asc (b :: r)) := by rw [asc]
    rw [e, ← ih]
    rfl
theorem ints_of {xs : List V} {lo hi : V} (h : xs.all (fun x => inB x lo hi) = true) : ∃ ns : List Int, xs = ns.map V.int := by
  induction xs with
  | nil => exact ⟨[], rfl⟩
  | cons x r ih =>
    rw [List.all_cons,
          Bool.and_eq_true] at h
    obtain ⟨ns, e⟩ := ih h.2
    cases x with
    | int i => exact ⟨i :: ns, by rw [e]; rfl⟩
    | _ => exact absurd h.1 (by simp [inB])
theorem take_succ_map {α β : Type} {f : α → β} {l : List α} {i : Nat} {x : α} (h : l[i]? = some x) : (l.take (i + 1)).map f = (l.take i).map f ++ [f x] := by
  rw [List.take_add_one, h, List.map_append]
  rfl

section
variable {K : PySem.W.Frag} {H : Hp} {L : List En} {a b : V} {xs ys : List V} {Q : VK} {g : TG} {tt : TT} {te : TE} {vs : List Nat} {σ : St}
theorem wLcS {QD : Addr → Hp → Prop} (hq : SeqIs L a (some xs)) (F : Fx H L) (R : Nat → List V → List En → Prop) (h0 : R 0 [] L) (keep : ∀ i acc L', R i acc L' → ∀ e ∈ L, e ∈ L')
    (hs : ∀ i x D H' acc L', xs[i]? = some x → R i acc L' → Fx H' (.ob D (.lst acc) :: L') → g x (wipe σ vs) H' fun σ2 H2 => wipe σ2 vs = wipe σ vs ∧ tt σ2 H2 fun b H3 =>
      if b = true then te σ2 H3 fun y H4 => LcPut D R i y H4 else LcP D R (i + 1) H3)
    (hd : ∀ D acc L' H', Fx H' (.ob D (.lst acc) :: L') → R xs.length acc L' → QD D H') :
    GoS K a H fun J H1 => ∀ D, H1 D = none → ∃ W : Nat → Nat → Hp → Prop, (∃ m, W 0 m (upd H1 D (.lst []))) ∧ ∀ i m H, W i m H →
  (J.stop i H ∧ QD D H) ∨ (J.go i H ∧ ∃ Nx : Hp → Prop, (∀ H', Nx H' → ∃ m', m' < m ∧ W (i + 1) m' H') ∧ ∀ x H', J.yld i H x H' → g x (wipe σ vs) H' fun σ2 H2 => wipe σ2 vs = wipe σ vs ∧ tt σ2 H2 fun b H3 =>
    if b = true then te σ2 H3 fun y H4 => ∃ acc, H4 D = some (.lst acc) ∧
          acc.length < sizeLine ∧ Nx (upd H4 D (.lst (acc ++ [y]))) else Nx H3) := by
  cases hq with
  | lst m =>
    refine wGoSL (F.lst m) (wLcW (walk_list (K := K) (xs := xs)) F R h0 (fun i acc L' D H' r F' => F'.lst (List.mem_cons_of_mem _ (keep _ _ _ r _ m))) ?_ hd)
    rintro i x D H' H'' acc L' _ r F' ⟨rfl, e⟩
    exact hs i x D H'' acc L' e r F'
  | tup m =>
    refine wGoST (F.tup m) (wLcW (walk_tup (K := K) (xs := xs)) F R h0 (fun i acc L' D H' r F' => F'.tup (List.mem_cons_of_mem _ (keep _ _ _ r _ m))) ?_ hd)
    rintro i x D H' H'' acc L' _ r F' ⟨rfl, e⟩
    exact hs i x D H'' acc L' e r F'
/-- zip of two lists, or of two tuples -/
inductive Seq2 (L : List En) : V → V → List V → List V → Prop where
  | lst {a b : Addr} {xs ys : List V} (m : En.ob a (.lst xs) ∈ L) (m' : En.ob b (.lst ys) ∈ L) : Seq2 L (.ref a) (.ref b) xs ys
  | tup {a b : Addr} {xs ys : List V} (m : En.ob a (.tup xs) ∈ L) (m' : En.ob b (.tup ys) ∈ L) : Seq2 L (.ref a) (.ref b) xs ys
theorem wLcZ {QD : Addr → Hp → Prop} (hq : Seq2 L a b xs ys) (F : Fx H L) (R : Nat → List V → List En → Prop) (h0 : R 0 [] L) (keep : ∀ i acc L', R i acc L' → ∀ e ∈ L, e ∈ L')
    (hs : ∀ i x y T D H' acc L', xs[i]? = some x → ys[i]? = some y → R i acc L' → Fx H' (.ob T (.tup [x, y]) :: .ob D (.lst acc) :: L') → g (.ref T) (wipe σ vs) H' fun σ2 H2 => wipe σ2 vs = wipe σ vs ∧ tt σ2 H2 fun b H3 =>
      if b = true then te σ2 H3 fun y H4 => LcPut D R i y H4 else LcP D R (i + 1) H3)
    (hd : ∀ D acc L' H', Fx H' (.ob D (.lst acc) :: L') → R (min xs.length ys.length) acc L' → QD D H') :
    GoZ K [a, b] H fun J H1 => ∀ D, H1 D = none → ∃ W : Nat → Nat → Hp → Prop, (∃ m, W 0 m (upd H1 D (.lst []))) ∧ ∀ i m H, W i m H →
  (J.stop i H ∧ QD D H) ∨ (J.go i H ∧ ∃ Nx : Hp → Prop, (∀ H', Nx H' → ∃ m', m' < m ∧ W (i + 1) m' H') ∧ ∀ x H', J.yld i H x H' → g x (wipe σ vs) H' fun σ2 H2 => wipe σ2 vs = wipe σ vs ∧ tt σ2 H2 fun b H3 =>
    if b = true then te σ2 H3 fun y H4 => ∃ acc, H4 D = some (.lst acc) ∧
          acc.length < sizeLine ∧ Nx (upd H4 D (.lst (acc ++ [y]))) else Nx H3) := by
  cases hq with
  | lst m m' =>
    refine wGoZL (F.lst m) (F.lst m') (wLcW (walk_zip (K := K) (xs := xs) (ys := ys) rfl) F R h0 (fun i acc L' D H' r F' => ⟨F'.lst (List.mem_cons_of_mem _ (keep _ _ _ r _ m)), F'.lst (List.mem_cons_of_mem _ (keep _ _ _ r _ m'))⟩) ?_ hd)
    rintro i v D H' H'' acc L' _ r F' ⟨T, x, y, rfl, hT, rfl, e1, e2⟩
    exact hs i x y T D _ acc L' e1 e2 r (F'.new hT)
  | tup m m' =>
    refine wGoZT (F.tup m) (F.tup m') (wLcW (walk_zipT (K := K) (xs := xs) (ys := ys) rfl) F R h0 (fun i acc L' D H' r F' => ⟨F'.tup (List.mem_cons_of_mem _ (keep _ _ _ r _ m)), F'.tup (List.mem_cons_of_mem _ (keep _ _ _ r _ m'))⟩) ?_ hd)
    rintro i v D H' H'' acc L' _ r F' ⟨T, x, y, rfl, hT, rfl, e1, e2⟩
    exact hs i x y T D _ acc L' e1 e2 r (F'.new hT)
/-- a for over a list or a tuple -/
theorem wForS {tb : TS} {nx : St → Hp → Prop} {rt : VK} (hq : SeqIs L a (some xs)) (F : Fx H L) (Pv : Nat → St → Hp → Prop) (h0 : Pv 0 σ H) (keep : ∀ i σ H', Pv i σ H' → ∃ L', Fx H' L' ∧ ∀ p o, En.ob p o ∈ L → En.ob p o ∈ L')
    (hs : ∀ i x σ H', xs[i]? = some x → Pv i σ H' → g x σ H' fun σ2 H2 => tb ⟨Pv (i + 1), rt, nx, Pv (i + 1)⟩ σ2 H2) (hd : ∀ σ H', Pv xs.length σ H' → nx σ H') :
    GoS K a H fun J H1 => ∃ W : Nat → Nat → St → Hp → Prop, (∃ m, W 0 m σ H1) ∧ ∀ i m σ H, W i m σ H →
      (J.stop i H ∧ nx σ H) ∨ (J.go i H ∧ ∃ N : St → Hp → Prop, (∀ σ' H', N σ' H' → ∃ m', m' < m ∧ W (i + 1) m' σ' H') ∧ ∀ x H', J.yld i H x H' → g x σ H' fun σ2 H2 => tb ⟨N, rt, nx, N⟩ σ2 H2) := by
  cases hq with
  | lst m =>
    refine wGoSL (F.lst m) (wForW (walk_list (K := K) (xs := xs)) Pv h0 (fun i σ H' _ p => ?_) ?_ hd)
    · obtain ⟨L', F', k⟩ := keep i σ H' p
      exact F'.lst (k _ _ m)
    · rintro i x σ H' H'' _ p ⟨rfl, e⟩
      exact hs i x σ H'' e p
  | tup m =>
    refine wGoST (F.tup m) (wForW (walk_tup (K := K) (xs := xs)) Pv h0 (fun i σ H' _ p => ?_) ?_ hd)
    · obtain ⟨L', F', k⟩ := keep i σ H' p
      exact F'.tup (k _ _ m)
    · rintro i x σ H' H'' _ p ⟨rfl, e⟩
      exact hs i x σ H'' e p
/-- the tail of a list or of a tuple that is not empty -/
theorem wSlS (hq : SeqIs L a (some xs)) (n : xs ≠ []) (F : Fx H L) (k : ∀ p H' e, Fx H' (e :: L) → Seq2 (e :: L) a (.ref p) xs xs.tail → Q (.ref p) H') : rOrS (rSlL K) (rSlT K) a (some 1) none H Q := by
  cases hq with
  | lst m => exact wSlL (F.lst m) F fun p H' F' => k p H' _ F' (.lst (List.mem_cons_of_mem _ m) (by rw [cut_tail]; exact List.mem_cons_self))
  | tup m =>
    refine wSlT (F.tup m) (fun h => ?_) F fun p H' F' => k p H' _ F' (.tup (List.mem_cons_of_mem _ m) (by rw [cut_tail]; exact List.mem_cons_self))
    have e := h.1
    cases xs with
    | nil => exact n rfl
    | cons x r => simp [HT.sIx] at e
end

/-! list(range(a, b)) -/
def rgI (a b : Int) : List Int := (List.range (b - a).toNat).map fun i => a + (i : Nat)
theorem rgV_ints (a b : Int) : rgV a b = (rgI a b).map V.int := by
  unfold rgV rgI
  rw [List.map_map]
  rfl
theorem rgI_len (a b : Int) : (rgI a b).length = (b - a).toNat := by unfold rgI; rw [List.length_map, List.length_range]
theorem rgI_mem {a b n : Int} (h : n ∈ rgI a b) : a ≤ n ∧ n < b := by
  unfold rgI at h
  obtain ⟨i, hi, rfl⟩
        := List.mem_map.mp h
  have := List.mem_range.mp hi
  omega
theorem rgI_nodup (a b : Int) : (rgI a b).Nodup := by
  unfold rgI
  refine List.Pairwise.map _ (fun x y h => ?_) List.nodup_range
  intro e
  exact h (by omega)
section
variable {H : Hp} {L : List En} {Q : VK} {σ : St} {ta tb : TE} {i j : Int}
def RgV (x y : V) (H : Hp) (Q : VK) : Prop := ∃ i j, x = .int i ∧ y = .int j ∧ RgOk i j ∧ ∀ q, H q = none → Q (.ref q) (upd H q (.lst (rgV i j)))
theorem wListRg2 (h : ta σ H fun x H1 => tb σ H1 fun y H2 => RgV x y H2 Q) : tLstRg (tRg2 ta tb) σ H Q := h
theorem wListRg1 (h : ta σ H fun x H1 => RgV (.int 0) x H1 Q) (mono : ∀ (P P' : V → Hp → Prop) , (∀ x H, P x H → P' x H) → ta σ H P → ta σ H P') : tLstRg (tRg1 ta) σ H Q := by
  refine mono _ _ (fun x H1 z => ?_) h
  obtain ⟨i, j, e1, e2, r, q⟩ := z
  cases e1
  exact ⟨j, e2, r, q⟩
theorem wRgV (ok : RgOk i j) (F : Fx H L) (k : ∀ p H', Fx H' (.ob p (.lst ((rgI i j).map V.int)) :: L) → Q (.ref p) H') : RgV (.int i) (.int j) H Q := ⟨i, j, rfl, rfl, ok, by rw [rgV_ints]; exact wNewF F k⟩
end
theorem pw_lt {l : List Int} (h : l.Pairwise (· ≤ ·)) (n : l.Nodup) : l.Pairwise (· < ·) := by
  have q : l.Pairwise (fun a b => a ≤ b ∧ a ≠ b) := h.and n
  exact q.imp fun ⟨a, b⟩ => by omega
theorem erase_perm {α : Type} : ∀ {l : List α} {k : Nat} {x : α}, l[k]? = some x → (x :: l.eraseIdx k).Perm l
  | [], k, x, h => by simp at h
  | a :: r, 0, x, h => by
    have e : a = x :=
          Option.some.inj h
    subst e
    exact List.Perm.refl _
  | a :: r, k + 1, x, h => by
    have ih := erase_perm (l := r) (k := k) (x := x) h
    exact (List.Perm.swap a x _).trans (ih.cons a)
theorem seqIx {v : Int} {n : Nat} (h0 : 0 ≤ v) (h1 : v < n) : seqIndex? v n = some v.toNat := by
  unfold seqIndex?
  simp [h0, h1]
  try omega
theorem map_get {ns : List Int} {k : Nat} (h : k < ns.length) : (ns.map V.int)[k]? = some (V.int (ns.getD k 0)) := by
  rw [List.getElem?_map, List.getElem?_eq_getElem h,
        List.getD_eq_getElem?_getD, List.getElem?_eq_getElem h]
  rfl
theorem get_getD {ns : List Int} {k : Nat} (h : k < ns.length) : ns[k]? = some (ns.getD k 0) := by
  rw [List.getElem?_eq_getElem h,
        List.getD_eq_getElem?_getD, List.getElem?_eq_getElem h]
  rfl
theorem map_erase : ∀ {ns : List Int} {k : Nat}, (ns.map V.int).eraseIdx k = (ns.eraseIdx k).map V.int
  | [], _ => rfl
  | _ :: _, 0 => rfl
  | a :: r, k + 1 => by
    have ih := map_erase (ns := r) (k := k)
    show V.int a :: (r.map V.int).eraseIdx k = V.int a :: (r.eraseIdx k).map V.int
    rw [ih]
end Z

set_option Elab.async false
set_option linter.all false
set_option maxRecDepth 100000
set_option maxHeartbeats 2000500
namespace Z
open PySem L2 RZ
/-! ### data of whole numbers, compared -/
def iD (ns : List Int) : List PyData := ns.map PyData.int
theorem dpAll_ints {K : PySem.W.Frag} {H : Hp} : ∀ ns : List Int, DpAll K H (ns.map V.int) (iD ns)
  | [] => .nil
  | n :: r => .cons (.int n) (dpAll_ints r)
theorem eqvAll_ints : ∀ ns ms : List Int, PyData.eqvAll (iD ns) (iD ms) = decide (ns = ms)
  | [], [] => rfl
  | [], _ :: _ => rfl
  | _ :: _, [] => rfl
  | n :: r, m :: q => by
    show (PyData.eqv (.int n) (.int m) && PyData.eqvAll (iD r) (iD q)) = decide (n :: r = m :: q)
    rw [eqvAll_ints r q]
    show ((n == m) && decide (r = q)) = decide (n :: r = m :: q)
    by_cases h : n = m
    · subst h
      by_cases h' : r = q
      · subst h'; simp
      · simp [h']
    · simp [h]
theorem canLay_ints : ∀ ns : List Int, PyData.canLayAll0 (iD ns) = true
  | [] => rfl
  | n :: r => by
    show (PyData.canLay0 (.int n) && PyData.canLayAll0 (iD r)) = true
    rw [canLay_ints r]
    rfl
theorem depth_ints : ∀ ns : List Int, PyData.depthAll (iD ns) = 0
  | [] => rfl
  | n :: r => by
    show max (PyData.depth (.int n)) (PyData.depthAll (iD r)) = 0
    rw [depth_ints r]
    rfl
theorem shaped_tup (ns : List Int) : SeqAt.shaped (.tuple (iD ns)) = true := by
  unfold SeqAt.shaped
  rw [Bool.and_eq_true]
  refine ⟨canLay_ints ns, decide_eq_true ?_⟩
  show PyData.depthAll (iD ns) + 1 ≤ 64
  rw [depth_ints]
  decide
theorem shaped_lst (ns : List Int) : SeqAt.shaped (.list (iD ns)) = true := shaped_tup ns
section
variable {K : PySem.W.Frag} {H : Hp} {Q : VK} {a b : Addr} {ns ms : List Int} {x y : V} {r : R2}
theorem wEqTT (s : SqT K H a (ns.map V.int)) (t : SqT K H b (ms.map V.int)) (h : Q (.bl (decide (ns = ms))) H) : rOr rEq (rEqD K) (.ref a) (.ref b) H Q :=
  .inr ⟨_, _, .tup s (dpAll_ints ns), .tup t (dpAll_ints ms), shaped_tup ns, shaped_tup ms, by
    have e : PyData.eqv (.tuple (iD ns)) (.tuple (iD ms)) = decide (ns = ms) := eqvAll_ints ns ms
    rw [e]; exact h⟩
theorem wEqLL (s : SqL K H a (ns.map V.int)) (t : SqL K H b (ms.map V.int)) (h : Q (.bl (decide (ns = ms))) H) : rOr rEq (rEqD K) (.ref a) (.ref b) H Q :=
  .inr ⟨_, _, .lst s (dpAll_ints ns), .lst t (dpAll_ints ms), shaped_lst ns, shaped_lst ms, by
    have e : PyData.eqv (.list (iD ns)) (.list (iD ms)) = decide (ns = ms) := eqvAll_ints ns ms
    rw [e]; exact h⟩
theorem wNeTT (s : SqT K H a (ns.map V.int)) (t : SqT K H b (ms.map V.int)) (h : Q (.bl (!decide (ns = ms))) H) : rOr rNe (rNeD K) (.ref a) (.ref b) H Q :=
  .inr ⟨_, _, .tup s (dpAll_ints ns), .tup t (dpAll_ints ms), shaped_tup ns, shaped_tup ms, by
    have e : PyData.eqv (.tuple (iD ns)) (.tuple (iD ms)) = decide (ns = ms) := eqvAll_ints ns ms
    rw [e]; exact h⟩
theorem wNeLL (s : SqL K H a (ns.map V.int)) (t : SqL K H b (ms.map V.int)) (h : Q (.bl (!decide (ns = ms))) H) : rOr rNe (rNeD K) (.ref a) (.ref b) H Q :=
  .inr ⟨_, _, .lst s (dpAll_ints ns), .lst t (dpAll_ints ms), shaped_lst ns, shaped_lst ms, by
    have e : PyData.eqv (.list (iD ns)) (.list (iD ms)) = decide (ns = ms) := eqvAll_ints ns ms
    rw [e]; exact h⟩
/-- two texts, one of them known -/
theorem wNeStr {z z' : Str} (h : Q (.bl (!decide (z = z'))) H) : rOr rNe (rNeD K) (.str z) (.str z') H Q := .inl ⟨rfl, by
  have e : decide (V.str z = V.str z') = decide (z = z') := by
    by_cases q : z = z'
    · rw [q, decide_eq_true rfl, decide_eq_true rfl]
    · rw [decide_eq_false q, decide_eq_false (fun z => q (by injection z))]
  rw [e]; exact h⟩
theorem wEqStr {z z' : Str} (h : Q (.bl (decide (z = z'))) H) : rOr rEq (rEqD K) (.str z) (.str z') H Q := .inl ⟨rfl, by
  have e : decide (V.str z = V.str z') = decide (z = z') := by
    by_cases q : z = z'
    · rw [q, decide_eq_true rfl, decide_eq_true rfl]
    · rw [decide_eq_false q, decide_eq_false (fun z => q (by injection z))]
  rw [e]; exact h⟩
theorem wProp {C : Addr} {sp : Sp} {E : XK} {te : TE} {σ : St} (h : te σ H fun x H1 => ∃ a dx fs, x = .ref a ∧ H1 a = some (.ins C dx fs) ∧ sp [.ref a] H1 Q E) : tProp C sp [] E te σ H Q := h
theorem wSqTof {L : List En} (F : Fx H L) {xs : List V} (m : En.ob a (.tup xs) ∈ L) : SqT K H a xs := F.tup m
end
end Z
namespace Z
open PySem L2 RZ
theorem at_last {ns : List Int} (h : 0 < ns.length) : atI (ns.map V.int) (-1) = some (V.int (ns.getD (ns.length - 1) 0)) := by
  unfold atI ixN
  rw [if_neg (by decide), if_pos (by rw [List.length_map]; omega)]
  have e : ((-1 : Int) + (ns.map V.int).length).toNat = ns.length - 1 := by rw [List.length_map]; omega
  rw [e]
  exact map_get (by omega)
end Z
namespace Z
open PySem L2 RZ
theorem wXf {a : Addr} {cls : Value} {d : Option Addr} {C : Addr} {f : Str} {te : TE} {σ : St} {H : Hp} {Q : VK} (h : te σ H fun x H1 => x = .ref a ∧ cls = .ref C ∧ ∃ (dd : Addr) (fs : List (Str × V)) (v : V), d = some dd ∧ H1 dd = some (.xd fs) ∧ fs.lookup f = some v ∧ Q v H1) : tXf a cls d C f te σ H Q := h
theorem wAs_yes {K : PySem.W.Frag} {c : Value} {i : Nat} {ts : Addr → Value → Option Addr → TS} {Wout : WX} {nx bk ct : St → Hp → Prop} {rt : VK} {d : Option Addr} {σ : St} {H : Hp} (e : PySem.W.exmOne K c c = some true)
    (h : ∀ a, H a = none → ts a c d ⟨fun σ' H' => nx (σ'.set i none) H', rt, fun σ' H' => bk (σ'.set i none) H', fun σ' H' => ct (σ'.set i none) H'⟩ (σ.set i (some (.ref a))) H) : WE (wAs K c i ts Wout ⟨nx, rt, bk, ct⟩) σ c d H :=
  ⟨true, e, fun _ a ha => h a ha, fun q => Bool.noConfusion q⟩
end Z

set_option Elab.async false
set_option linter.all false
set_option maxRecDepth 100000
set_option maxHeartbeats 2000500
namespace Z
open PySem L2 RZ PySem.Spec PyProof.Rows
/-! ### a try whose clauses have a name or none, mixed -/
/-- a clause: the class, the slot of its name if it has one, the suite -/
structure Cl where
  c : Value
  i : Option Nat
  ts : Addr → Value → Option Addr → TS
/-- behind a suite the name is gone -/
def gone (D : Ends) : Option Nat → Ends
  | none => D
  | some i => ⟨fun σ H => D.nx (σ.set i none) H, D.rt, fun σ H => D.bk (σ.set i none) H, fun σ H => D.ct (σ.set i none) H⟩
def held (a : Addr) (σ : L2.St) : Option Nat → L2.St
  | none => σ
  | some i => σ.set i (some (.ref a))
def wMix (K : PySem.W.Frag) (Wout : WX) (D : Ends) : List Cl → WX
  | [] => Wout
  | k :: r => fun cls d σ H => ∃ b, PySem.W.exmOne K cls k.c = some b ∧
    (b = true → ∀ a, H a = none → k.ts a cls d (gone D k.i) (held a σ k.i) H) ∧
    (b = false → wMix K Wout D r cls d σ H)
inductive ClsOk (X : Cx) : List ExceptHandler → List Cl → Prop
  | nil : ClsOk X [] []
  | bare {x : Str} {c : Value} {ts : Addr → Value → Option Addr → TS} {b₀ : Stmt} {su : List Stmt} {np ps : Pos} {hs : List ExceptHandler} {l : List Cl}
      (hc : Names X x c) (hsu : ∀ (a : Addr) (oe : Obj) (cls : Value) (d : Option Addr) (pn : List (Addr × Obj)), Zc cls d oe →
        (∃ vs, oe.data = .fields vs) → PSs (X.suite a ((a, oe) :: pn)) (b₀ :: su) (ts a cls d)) (r : ClsOk X hs l) :
      ClsOk X (.ExceptHandler (some (.Name x np)) none (b₀ :: su) ps :: hs) (⟨c, none, ts⟩ :: l)
  | named {x n : Str} {i : Nat} {c : Value} {ts : Addr → Value → Option Addr → TS} {b₀ : Stmt} {su : List Stmt} {np ps : Pos} {hs : List ExceptHandler} {l : List Cl}
      (hN : X.N.Nodup) (hi : X.N[i]? = some n) (hln : X.env.kindOf n = some .local)
      (hc : Names X x c) (hsu : ∀ (a : Addr) (oe : Obj) (cls : Value) (d : Option Addr) (pn : List (Addr × Obj)), Zc cls d oe →
        (∃ vs, oe.data = .fields vs) → PSs (X.suite a ((a, oe) :: pn)) (b₀ :: su) (ts a cls d)) (r : ClsOk X hs l) :
      ClsOk X (.ExceptHandler (some (.Name x np)) (some n) (b₀ :: su) ps :: hs) (⟨c, some i, ts⟩ :: l)
section
variable {X : Cx} {body : List Stmt} {h₀ : ExceptHandler} {hds : List ExceptHandler} {l : List Cl} {pos : Pos} {tb : WX → TS} {Wout : WX}
theorem ps_try_mix (hs : X.stack = X.env :: X.outer) (hf : X.env.frame = some X.env.locals) (tk : Takes X Wout)
    (hb : ∀ (W : WX) (pn : List (Addr × Obj)) (xe : Value → Shared → Prop), Takes (X.tr pn xe) W →
      PassesOwn (model X.prog X.w) X.A X.env xe → PSs (X.tr pn xe) body (tb W))
    (hh : ClsOk X (h₀ :: hds) l) : PS X (.Try body (h₀ :: hds) [] [] pos) (fun D σ H => tb (wMix X.K Wout D l) D σ H) := by
  refine ⟨fun pins
        s σ H D I h => ?_⟩
  have ok := I.ok
  have frs0 : X.A.frames = some (X.env :: X.outer) := by rw [ok.frames, hs]
  have run := (hb (wMix X.K Wout D l) (X.pn ++ pins)
    (fun e s₁ => wpAny (model X.prog X.w) X.A (noteFrame e X.env) (fun _ s₂ => wpAny (model X.prog X.w) X.A (setFlight e none)
      (fun _ s₃ => wpAny (model X.prog X.w) X.A (handleBy e X.env (h₀ :: hds)) (SP X pins D) X.xe s₃) X.xe s₂) X.xe s₁)
    (fun u s' xx => ?caught) PassesOwn.looking).run [] s σ H D (I.toTry _) h
  · refine wpAny_Try_except (wpAny_mono run (fun f s1 done => ?_) fun e s1 z => z)
    cases f with
    | next =>
      obtain ⟨σ1, H1, J1, q1⟩ := done
      exact wpAny_execs_nil ⟨σ1, H1, J1.ofTry ok, q1⟩
    | brk => exact done.imp fun σ1 ⟨H1, J1, q1⟩ => ⟨H1, J1.ofTry ok, q1⟩
    | cont => exact done.imp fun σ1 ⟨H1, J1, q1⟩ => ⟨H1, J1.ofTry ok, q1⟩
    | ret u =>
      obtain ⟨v, σ1, H1, J1, r1, q1⟩ := done
      exact ⟨v, σ1, H1, J1.ofTry ok, r1, q1⟩
  obtain ⟨a, B, sI, pins', σ', H', cls, d, rfl, J', nb, up, sky, na, os, ag, wish⟩ := xx
  have J : Inv X pins σ'
        H' sI := J'.ofTry ok
  have sky1 : Sky B (X.env :: X.outer) a (Zc cls d) X.env.locals s'.heap := by rw [← hs]; exact sky
  show wpAny (model X.prog X.w) X.A
        (noteFrame (.ref a) X.env) _ _ _
  refine Sky.land Zc.steady frs0 hf sky1 fun h3 fl3 up3 => ?_
  have up13 := up.trans up3
  have J3 : Inv X pins σ' H' { s' with heap := h3 } := J.landed nb fl3.1 up13 os ag
  obtain ⟨oe3, vs3, he3,
        hz3, hd3⟩ := fl3.there
  have away : a ∉ frs (X.env :: X.outer) := fun hm => by
    obtain ⟨_, o', e', q⟩ := fl3.2.2.1.mem hm
    rw [he3] at e'
    cases e'
    exact q _ hd3
  have nL : a ≠ X.env.locals := fun z => away (List.mem_filterMap.mpr ⟨X.env, List.mem_cons_self, by rw [hf, z]⟩)
  have nF : a ∉ X.fs
        := fun hm => by
    obtain ⟨e, he, q⟩ :=
          List.mem_filterMap.mp hm
    exact away (List.mem_filterMap.mpr ⟨e, List.mem_cons_of_mem _ he, q⟩)
  have S3 := J3.suite
        he3 hd3 na nL nF
  have asks : ∀ {x : Str} {c : Value} {np : Pos} {Q E : Value → Shared → Prop}, Names X x c → Q c { s' with heap := h3 } →
      wpAny (model X.prog X.w) (X.A.mark (some (.ref a))) (eval (.Name x np) X.env) Q E { s' with heap := h3 } := fun {x c np Q E} hc q => by
    obtain ⟨hg, hdbg, hm
          | ⟨hm, hv, hnn⟩⟩ := hc
    · exact ld_glob (X := X.suite a ((a,
          oe3) :: (X.pn ++ pins))) S3 hg hm q hdbg
    · exact ld_blt (X := X.suite a ((a, oe3)
          :: (X.pn ++ pins))) S3 hg hm hv q hnn hdbg
  have LT : PySem.W.Looks (model X.prog X.w) h3 (typeOf (.ref a)) cls :=
    fun A Q E s k q => wpAny_typeOf_ref (k _ _ he3) (by rw [hz3.1]; exact q)
  have each : ∀ {hs' : List ExceptHandler} {l' : List Cl}, ClsOk X hs' l' → wMix X.K Wout D l' cls d σ' H' →
      wpAny (model X.prog X.w) X.A (handleBy (.ref a) X.env hs') (SP X pins D) X.xe { s' with heap := h3 } := by
    intro hs' l' hk
    induction hk with
    | nil =>
      intro w
      refine wpAny_handleBy_nil ?_
      obtain ⟨k1, k2, k3, oe, vs, T, oT,
            ts', he, hz, hd, h1, hr⟩ := id fl3
      unfold PySem.passOn
      refine wpAny_bind
            (wpAny_field he hd h1 ?_)
      rw [if_neg (show ¬ ((Value.ref T ==
            Value.none) = true) from by simp)]
      have out : wpAny (model X.prog X.w) X.A (setFlight (.ref a) X.env.frame)
          (fun _ s4 => wpAny (model X.prog X.w) X.A (throw (.ref a) : Sem Flow) (SP X pins D) X.xe s4) X.xe { s' with heap := h3 } := by
        rw [hf]
        refine HandSPX.setFlight_upZ fl3 fun
              h4 hh4 up4 => wpAny_throw (tk _ _ ?_)
        exact ⟨a, B, sI, pins, σ', H', cls, d, rfl, J, nb, up13.trans up4, .inr (.inr (by rw [hs]; exact hh4)), na, os, ag, w⟩
      first
        | exact wpAny_bind (wpAny_pure (wpAny_bind out))
        | exact wpAny_bind out
    | @bare x c ts b₀ su np ps hs2 l2 hc hsu r ih =>
      intro w
      obtain ⟨b, hb1, yes, no⟩ := w
      refine wpAny_handleBy_cons
            (codeAny_handlers_test ?_) (by intro q; cases q)
      have LM := PySem.W.exm_one (M := model X.prog X.w) J3.kIn LT hb1
      refine asks hc (LM.here ?_)
      cases b with
      | false =>
        show wpAny _ X.A (handleBy (.ref a) X.env hs2) _ _ _
        exact ih (no rfl)
      | true =>
        refine codeAny_handlers_suite (HandSPX.lands_againZ fl3 fun h4 fl4 up4 => ?_)
        have J4 : Inv X pins σ' H' { s' with heap := h4 } := J.landed nb fl4.1 (up13.trans up4) os ag
        obtain ⟨oe4, vs4, he4,
              hz4, hd4⟩ := fl4.there
        have S4 := J4.suite
              he4 hd4 na nL nF
        refine wpAny_mono ((hsu a oe4 cls d (X.pn ++ pins) hz4 ⟨_, hd4⟩).run [] _ _ H' _ S4 (yes rfl a na)) (fun f s6 done => ?_) (fun _ _ z => False.elim z)
        cases f with
        | ret u =>
          obtain ⟨v6, σ6, H6, S6, r6, q6⟩ := done
          exact ⟨_, _, _,
                S6.unsuite ok, r6, q6⟩
        | next => exact done.imp fun σ6 ⟨H6, S6, q6⟩ => ⟨H6, S6.unsuite ok, q6⟩
        | brk => exact done.imp fun σ6 ⟨H6, S6, q6⟩ => ⟨H6, S6.unsuite ok, q6⟩
        | cont => exact done.imp fun σ6 ⟨H6, S6, q6⟩ => ⟨H6, S6.unsuite ok, q6⟩
    | @named x n i c ts b₀ su np ps hs2 l2 hN hi hln hc hsu r ih =>
      intro w
      obtain ⟨b, hb1, yes, no⟩ := w
      refine wpAny_handleBy_cons
            (codeAny_handlers_test ?_) (by intro q; cases q)
      have LM := PySem.W.exm_one (M := model X.prog X.w) J3.kIn LT hb1
      refine asks hc (LM.here ?_)
      cases b with
      | false =>
        show wpAny _ X.A (handleBy (.ref a) X.env hs2) _ _ _
        exact ih (no rfl)
      | true =>
        refine codeAny_handlers_suite_as (HandSPX.lands_againZ fl3 fun h4 fl4 up4 => ?_)
        have J4 : Inv X pins σ' H' { s' with heap := h4 } := J.landed nb fl4.1 (up13.trans up4) os ag
        obtain ⟨oe4, vs4, he4,
              hz4, hd4⟩ := fl4.there
        have S4 := J4.suite
              he4 hd4 na nL nF
        refine store_ok (X := X.suite a ((a, oe4) :: (X.pn ++ pins))) (v := .ref a) S4 hN hi (.inl hln) rfl (fun s5 S5 => ?_) (.inr hln)
        refine wpAny_mono ((hsu a oe4 cls d (X.pn ++ pins) hz4 ⟨_, hd4⟩).run [] s5 _ H' _ S5 (yes rfl a na)) (fun f s6 done => ?_) (fun _ _ z => False.elim z)
        have free : ∀ {σ6 : L2.St} {H6 : Hp} {Q : Shared → Prop}, Inv (X.suite a ((a, oe4) :: (X.pn ++ pins))) [] σ6 H6 s6 →
            (∀ s7, Inv X pins (σ6.set i none) H6 s7 → Q s7) →
            wpAny (model X.prog X.w) X.A (do bindName X.env n .none; unbindBehindTheSuite X.env n ps) (fun _ s7 => Q s7) X.xe s6 :=
          fun {σ6 H6 Q} S6 hq => gone_ok (S6.unsuite ok) hN hi hln hq
        cases f with
        | ret u =>
          obtain ⟨v6, σ6, H6, S6, r6, q6⟩ := done
          exact free S6 fun s7 J7 => ⟨_, _, _, J7, r6, q6⟩
        | next =>
          obtain ⟨σ6, H6, S6, q6⟩ := done
          exact free S6 fun s7 J7 => ⟨_, _, J7, q6⟩
        | brk =>
          obtain ⟨σ6, H6, S6, q6⟩ := done
          exact free S6 fun s7 J7 => ⟨_, _, J7, q6⟩
        | cont =>
          obtain ⟨σ6, H6, S6, q6⟩ := done
          exact free S6 fun s7 J7 => ⟨_, _, J7, q6⟩
  exact each hh wish
end
end Z
namespace Z
open PySem L2 RZ PySem.Spec PyProof.Rows
section
variable {X : Cx} {C : Addr} {bmB :
      List Value} {B newId initId : String}
/-- X() of an own error without an __init__ -/
theorem pmk_own0 {x : Str} {p pos : Pos} (F : ExcBaseFacts B newId initId bmB) (q : PySem.W.excIn X.K C bmB newId = true)
    (gC : X.mg x = some (.ref C)) (kC : PySem.W.keepIn X.K (.ref C) = true) (r : Raises X (.ref C)) (hg : Gl X x)
    (hdb : (x == ("__debug__" : Str)) = false := by decide) : PMk X (.Call (.Name x p) [] [] pos) (fun _ H Q => Q (.ref C) none H) := by
  intro pins s σ H Q I h
  refine wpAny_Call_Name_kw
        (ld_glob I hg gC ?_ hdb)
  refine PySem.W.callWith_K0 I.kIn kC ?_
  show wpAny _ _ (call (.ref C) []) _ _ _
  obtain ⟨bm, N, nm, qn, bs, hdct, sn, sub, ab, col, dd, k0, k1, k2, k3, k5, mN, hC, hN, hni, T⟩ := exc_obj I.kIn q
  refine wpAny_call_exc_subT F T hC hN hni (fun h' e hm => ?_) (Nat.zero_le _)
  exact mk_of I hm r h (I.hok.gone hm.new)
end
end Z
/-! ### a method is called in a try; an own error without arguments is raised -/
namespace Z
open PySem L2 RZ
section
variable {X : Cx} {CX : CXT} {k : Nat} {C : Addr} {ps : List Str} {sp : Sp} {E : L2.St → XK} {m x : Str} {p pos apos : Pos} {e o : Expr} {es : List Expr} {ta : TE} {t : TA}
def tMethS (C : Addr) (m : Str) (sp : Sp) (E : L2.St → XK) (ta : TE) (t : TA) : TE := fun σ H Q => ta σ H fun x H1 =>
  ∃ a dx fs, x = .ref a ∧ H1 a = some (.ins C dx fs) ∧ fs.lookup m = none ∧ t σ H1 fun vs H2 => sp (x :: vs) H2 Q (E σ)
theorem pe_methSO {pl : Sem Bool} (O : MethO CX X.prog X.w X.K X.mg X.base C m k ps [] sp) (c : Cls X.K C) (hr : Room k X.A)
    (hx : ∀ σ, PassesAt CX X σ (E σ)) (he : PE X o ta) (ha : PA X (e :: es) t)
    (hst : starEach (e :: es) X.env = (false, eval e X.env) :: starEach es X.env := by rfl)
    (hpl : (backTo pos (starEach es X.env)).any (·.1) = false := by rfl)
    (ht : eval (.Call (.Attribute o m
          apos) (e :: es) [] pos) X.env = (do
      let ov ← eval o X.env
      standAt apos.atName
      let (f, first) ← holding
            [ov] (getMethod ov m pl)
      callWith pos f first (backTo pos (starEach (e :: es)
            X.env)) (backToKw pos (keywordEach [] X.env))) := by rfl) :
    PE X (.Call (.Attribute o m apos) (e ::
          es) [] pos) (tMethS C m sp E ta t) := by
  obtain ⟨f, fd, ds, hm, hb, v, F⟩ := O
  cases v
  refine ⟨fun pins
        s σ H Q I h => ?_⟩
  refine PySem.W.methodCall_KW (pl := pl) (thn (he.run pins s σ H _
        I h) fun u s1 ⟨x, H1, I1, rx, a, dx, fs, ex, ea, l, q⟩ => ?_) ht
  subst ex
  cases rx
  refine getmeth_ok
        I1 ea c hm l ?_
  refine PySem.W.callWith_K (first := [.ref a]) (h₀ := X.base) I.ok.mod.kin hm.kp (thn
        (ha.run pos pins s1 σ H1 _ I1 q) fun us s2 ⟨vs, H2, I2, r, q2⟩ => ⟨I2.kIn, ?_⟩) hst hpl
  exact run_fnS (us := .ref a :: us) (vs := .ref
        a :: vs) F hr hb (hx σ) I2 (.cons rfl r) q2
theorem wMethS {σ : L2.St} {H : Hp} {Q : VK} (h : ta σ H fun x H1 => ∃ a dx fs, x = .ref a ∧ H1 a = some (.ins C dx fs) ∧ fs.lookup m = none ∧ t σ H1 fun vs H2 => sp (x :: vs) H2 Q (E σ)) : tMethS C m sp E ta t σ H Q := h
theorem wMeth {dvs : List V} {E : XK} {σ : L2.St} {H : Hp} {Q : VK} (h : ta σ H fun x H1 => ∃ a dx fs, x = .ref a ∧ H1 a = some (.ins C dx fs) ∧ fs.lookup m = none ∧ t σ H1 fun vs H2 => sp (x :: (vs ++ dvs)) H2 Q E) : tMeth C m sp dvs E ta t σ H Q := h
/-- an own error class that is made without arguments -/
structure ErrF0 (K : PySem.W.Frag) (C : Addr) : Prop where
  ex0 : PySem.W.excIn K C [.type "ValueError", .type "Exception", .type "BaseException", .type "object"] "ValueError.__new__" = true
  kp : PySem.W.keepIn
        K (.ref C) = true
  exC : PySem.W.subIn K (.ref C)
        (.type "BaseException") = some true
  tyC : PySem.W.typeIn K (.ref
        C) = some (.type "type")
theorem pmk_err00 (T : ErrF0 X.K C) (hm : X.mg x = some (.ref C)) (hg : Gl X x) (hdb : (x == ("__debug__" : Str)) = false := by decide) :
    PMk X (.Call (.Name x p) [] [] pos) (fun _ H Q => Q (.ref C) none H) :=
  pmk_own0 PySem.F.excBase_ValueError T.ex0 hm T.kp (raises_own T.exC T.tyC) hg hdb
end
end Z
namespace Z
open PySem L2
theorem exm_of {K : PySem.W.Frag} {cls : Value} {C : Addr} {b : Bool} (hb : PySem.W.subIn K (.ref C) (.type "BaseException") = some true)
    (ic : PySem.W.isClsIn K C = true) (ty : PySem.W.typeIn K (.ref C) = some (.type "type")) (q : PySem.W.subIn K cls (.ref C) = some b) :
    PySem.W.exmOne K cls (.ref C) = some b := by
  have i' : (PySem.W.clsIn K C).isSome = true := ic
  have e2 : ((PySem.W.clsIn K C).isSome && PySem.W.typeIn K (.ref C) == some (.type "type")) = true := by
    rw [i', ty]
    rfl
  have e3 : PySem.W.kitCls K cls (.ref C) = some b := by
    unfold PySem.W.kitCls
    exact (if_pos e2).trans q
  unfold PySem.W.exmOne
  rw [hb]
  exact e3
end Z
namespace Z
open PySem L2
/-- what a callee lets out is let out -/
theorem passE {X : Cx} {E : XK} (tk : Takes X (fun cls d _ H => E cls d H)) : Passes (L2.CX X.prog X.w) X E := fun pins σ H s e s' I c => passAt (W := fun cls d _ H => E cls d H) tk σ pins H s e s' I c
end Z
namespace Z
open PySem L2
theorem wStarL {K : PySem.W.Frag} {te : TE} {t : TA} {σ : L2.St} {H : Hp} {Q : List V → Hp → Prop} (h : te σ H fun x H1 => ∃ p xs, x = V.ref p ∧ (SqT K H1 p xs ∨ SqL K H1 p xs) ∧ t σ H1 fun ys H2 => Q (xs ++ ys) H2) : StX.tStar K te t σ H Q := h
theorem starL {K : PySem.W.Frag} {a : Addr} {xs : List V} {H : Hp} {R : List V → Prop} (s : SqL K H a xs) (h : R xs) : ∃ p xs, V.ref a = V.ref p ∧ (SqT K H p xs ∨ SqL K H p xs) ∧ R xs := ⟨a, xs, rfl, .inr s, h⟩
end Z
namespace Z
open PySem L2
section
variable {K : PySem.W.Frag} {Wout : WX} {D : Ends} {k : Cl} {r : List Cl} {cls : Value} {d : Option Addr} {σ : L2.St} {H : Hp}
theorem wMix_yes (e : PySem.W.exmOne K cls k.c = some true) (h : ∀ a, H a = none → k.ts a cls d (gone D k.i) (held a σ k.i) H) : WE (wMix K Wout D (k :: r)) σ cls d H :=
  ⟨true, e, fun _ => h, fun q => Bool.noConfusion q⟩
theorem wMix_no (e : PySem.W.exmOne K cls k.c = some false) (h : WE (wMix K Wout D r) σ cls d H) : WE (wMix K Wout D (k :: r)) σ cls d H :=
  ⟨false, e, fun q => Bool.noConfusion q, fun _ => h⟩
end
end Z

set_option Elab.async false
set_option linter.all false
set_option maxRecDepth 100000
set_option maxHeartbeats 2000500
namespace Z
open PySem PySem.Spec
      PyProof.Rows
/-- a new list, then all of vs in it -/
abbrev poured (h : Heap) (vs : List Value) : Heap := (h.push (seqObj "list" #[] 0)).update h.objs.size (Obj.mapSeq (· ++ vs.toArray))
section
variable {prog : Program} {w : World} {A :
      Around} {E : Value → Shared → Prop} {s : Shared}
theorem collect_tuple {l : Addr} {vs : List Value} {Q : List Value → Shared → Prop} (hl : s.heap.IsTuple l vs.toArray)
    (h : Q vs { s with heap := poured s.heap vs })
    (hsz : vs.length ≤ sizeLine := by size_fits) : wpAny (model prog w) A (collect (.ref l)) Q E s := by
  obtain ⟨o, ho, hc,
        n, hd⟩ := id hl
  unfold collect
  refine wpAny_bind (wpAny_runValue
        (codeAny_builtin entry_proto_collect' ?_))
  show wpAny _ _ (do again (.builtin "list.__iadd__"
        ⟨[← newList [], .ref l], []⟩)) _ _ s
  refine wpAny_bind (wpAny_newList (wpAny_pure ⟨Code.quiet_builtin
        _ (by decide +kernel), codeAny_builtin entry_list_iadd' ?_⟩))
  show wpAny _ _ (Builtin.List.listExtendWith (.ref s.heap.objs.size) (.ref l) (.ref s.heap.objs.size)) _ _
    { s with heap := s.heap.push (seqObj "list" #[] 0) }
  unfold
        Builtin.List.listExtendWith
  have there : (s.heap.push (seqObj "list" #[] 0)).get? l = some o := Heap.get?_push_of_some _ ho
  refine wpAny_bind (wpAny_typeOf (T := "tuple") ⟨o, there, hc⟩ ?_)
  have tt : (Value.type "tuple" == Value.type "tuple") = true := by rfl
  rw [if_pos (by rw [tt, Bool.or_true])]
  refine wpAny_bind (listItems_at there hd (wpAny_bind (listItems_at (xs := #[]) (n := 0) (Heap.get?_push_size _ rfl) rfl ?_)))
  rw [if_neg (by simp)]
  refine wpAny_bind (listUpdate_at (xs := #[]) (n := 0) (Heap.get?_push_size _ rfl) rfl ?_ (Nat.zero_le _)
    (by show (#[] ++ vs.toArray).size ≤ sizeLine + 1; simp only [Array.size_append, List.size_toArray, List.length_nil]; omega))
  refine wpAny_pure ?_
  show wpAny (model
        prog w) A (do
      let o ← load s.heap.objs.size
      match o.data with
      | .seq xs _ => pure xs.toList
      | _ => unsupported "internal:collect") Q E { s with heap := poured s.heap vs }
  refine wpAny_bind (wpAny_load (get?_update_seq
        (Heap.get?_push_size _ rfl) _) ?_)
  show wpAny _ _ (pure ((#[] : Array
        Value) ++ vs.toArray).toList) Q E _
  have e : ((#[] : Array Value) ++ vs.toArray).toList = vs := by simp
  rw [e]
  exact wpAny_pure h
theorem sorted_intsT {l : Addr} {vs : List Value} {ns : List Int} {Q : Value → Shared → Prop} (ht : s.heap.IsTuple l vs.toArray) (hI : IntsAre vs ns) (h64 : vs.length < 64)
    (h : ∀ (out : Array Value) (ns' : List Int), IntsAre out.toList ns' → ns'.Perm ns → ns'.Pairwise (· ≤ ·) →
      Q (.ref (s.heap.objs.size + 1)) { s with heap := sortedAll s.heap vs out }) :
    wpAny (model prog w) A (call (.builtin
          "sorted") [.ref l]) Q E s := by
  refine Calls.call_function_entry kind_sorted
        plain_sorted entry_sorted (args_sorted1 _) ?_
  unfold Builtin.«sorted»
  refine wpAny_bind (m := checkCount "sorted" 1 1 _) (wpAny_pure (wpAny_bind (collect_tuple ht (wpAny_bind (wpAny_newList ?_)))))
  have sz : (poured s.heap vs).objs.size = s.heap.objs.size + 1 := by
    rw [Heap.size_update,
          size_push']
  have at1 : ((poured s.heap vs).push (seqObj "list" vs.toArray 0)).get? (s.heap.objs.size + 1) =
      some (seqObj "list" vs.toArray 0) := by
    rw [← sz]
    exact Heap.get?_push_size
          _ rfl
  show wpAny _ _ _ _ _ { s with heap := (poured s.heap vs).push (seqObj "list" vs.toArray 0) }
  rw [sz]
  exact wpAny_bind (wpAny_holding (wpAny_call_entry slot_list_sort ⟨_, at1, rfl⟩ entry_list_sort
    (list_sort_tree at1 hI h64 fun out ns' a1 a2 a3 => ⟨_, rfl, wpAny_pure ⟨_, rfl, h out ns' a1 a2 a3⟩⟩) (args_list_sort _)))
end
open L2
/-- sorted of a tuple of ints -/
def rSortedTu (K : PySem.W.Frag) : List V → Hp → VK → Prop := fun vs H Q => ∃ (a : Addr) (ns : List Int), vs = [V.ref a] ∧ SqT K H a (ns.map V.int) ∧ ns.length < 64 ∧
  ∀ (ns' : List Int) (p : Addr), ns'.Perm ns → ns'.Pairwise (· ≤
        ·) → H p = none → Q (.ref p) (upd H p (.lst (ns'.map V.int)))
theorem cr_sortedTu {X : Cx} : CallR X (.builtin "sorted") (rSortedTu X.K) := by
  intro pins s σ
        H vs us Q I r h
  obtain ⟨a, ns, rfl,
        hs, h64, q⟩ := h
  obtain ⟨its, rv, hl, _⟩ := I.tuple hs
  rw [Vals.ref1 r]
  have hi := rv.ints
  refine sorted_intsT (show s.heap.IsTuple a its.toArray from hl) hi (by rw [hi.length]; exact h64) fun out ns' h1 h2 h3 => ?_
  obtain ⟨ep, he'⟩ :=
        PyProof.Rows.sortedAll_at s.heap its out
  have len : (ns'.map V.int).length ≤ sizeLine := by rw [List.length_map, h2.length_eq]; exact small64 h64
  exact ⟨.ref _, upd H (s.heap.objs.size + 1) (.lst (ns'.map V.int)),
    I.laid (t' := s.toks) (fun _ _ => PyProof.Rows.sortedAll_old) (Nat.le_succ _) ⟨len, out.toList, ep, vals_of_ints h1, he'⟩, rfl, q ns' _ h2 h3 (I.hok.fresh (Nat.le_succ _))⟩
theorem wSortedTu {K : PySem.W.Frag} {H : Hp} {L : List En} {a : Addr} {ns : List Int} {Q : VK} (s : SqT K H a (ns.map V.int)) (n : ns.length < 64) (F : Fx H L)
    (k : ∀ (ms : List Int) p H', ms.Perm ns → ms.Pairwise (· ≤ ·) → Fx H' (.ob p (.lst (ms.map V.int)) :: L) → Q (.ref p) H') : rSortedTu K [.ref a] H Q :=
  ⟨a, ns, rfl, s, n, fun ms p q r hp => k ms p _ q r (F.new hp)⟩
end Z
namespace Z
open PySem L2
section
variable {K : PySem.W.Frag} {H : Hp} {L : List En} {a b : Addr} {ns ms : List Int} {z : Int} {Q : VK}
theorem inV_ints (z : Int) : ∀ ns : List Int, inV (.int z) (ns.map V.int) = decide (z ∈ ns)
  | [] => rfl
  | a :: r => by
    have ih := inV_ints z r
    show (eqV (.int a) (.int z) || inV (.int z) (r.map V.int)) = decide (z ∈ a :: r)
    have e : eqV (.int a) (.int z) = decide (a = z) := by
      show (a == z) = decide (a = z)
      by_cases q : a = z <;> simp [q]
    rw [ih, e]
    by_cases h : a = z
    · subst h; simp
    · have h' : ¬ z = a := fun q => h q.symm
      simp [h, h']
theorem flat_ints (ns : List Int) : (ns.map V.int).all flatV = true := by
  rw [List.all_eq_true]
  intro x hx
  obtain ⟨z, _, rfl⟩ := List.mem_map.mp hx
  rfl
theorem wInTu (s : SqT K H a (ns.map V.int)) (h : Q (.bl (decide (z ∈ ns))) H) : rIn K false (.int z) (.ref a) H Q :=
  ⟨a, _, rfl, .inr s, rfl, flat_ints ns, by rw [← inV_ints] at h; exact h⟩
theorem wCatTu (s : SqT K H a (ns.map V.int)) (t : SqT K H b (ms.map V.int)) (n : ns ≠ []) (n' : ms ≠ []) (l : ns.length + ms.length ≤ 1000000) (F : Fx H L)
    (k : ∀ p H', Fx H' (.ob p (.tup ((ns ++ ms).map V.int)) :: L) → Q (.ref p) H') : rOr rAddI (rOr rAddS (rOr rCat (rCatT K))) (.ref a) (.ref b) H Q :=
  .inr (.inr (.inr ⟨a, b, _, _, rfl, rfl, s, t, by simpa using n, by rw [List.length_map, List.length_map]; exact Nat.le_trans l line_big, fun e => absurd e (by simpa using n'), fun _ p hp => by
    rw [← List.map_append]
    exact k p _ (F.new hp)⟩))
end
end Z
namespace Z
open PySem L2
section
variable {K : PySem.W.Frag} {H : Hp} {L : List En} {q q' p p' : Addr} {ns : List Int} {l r : Int} {Q : VK}
/-- a list of a row of ints and two ints -/
def nestD (ns : List Int) (l r : Int) : List PyData := [.tuple (iD ns), .int l, .int r]
theorem nest_dp (F : Fx H L) (n : En.ob p (.tup (ns.map V.int)) ∈ L) : DpAll K H [.ref p, .int l, .int r] (nestD ns l r) :=
  .cons (.tup (F.tup n) (dpAll_ints ns)) (.cons (.int l) (.cons (.int r) .nil))
theorem nest_shaped (ns : List Int) (l r : Int) : SeqAt.shaped (.list (nestD ns l r)) = true := by
  unfold SeqAt.shaped
  rw [Bool.and_eq_true]
  refine ⟨?_, decide_eq_true ?_⟩
  · show (PyData.canLayAll0 (iD ns) && (PyData.canLayAll0 [PyData.int l, PyData.int r])) = true
    rw [canLay_ints]
    rfl
  · show max (PyData.depthAll (iD ns) + 1) (PyData.depthAll [PyData.int l, PyData.int r]) + 1 ≤ 64
    rw [depth_ints]
    show max (0 + 1) (max 0 (max 0 0)) + 1 ≤ 64
    decide
theorem nest_eqv (ns : List Int) (l r : Int) : PyData.eqv (.list (nestD ns l r)) (.list (nestD ns l r)) = true := by
  show (PyData.eqvAll (iD ns) (iD ns) && ((l == l) && ((r == r) && true))) = true
  rw [eqvAll_ints, decide_eq_true rfl, beq_self_eq_true, beq_self_eq_true]
  rfl
theorem wNeNest (F : Fx H L) (m : En.ob q (.lst [.ref p, .int l, .int r]) ∈ L) (n : En.ob p (.tup (ns.map V.int)) ∈ L)
    (m' : En.ob q' (.lst [.ref p', .int l, .int r]) ∈ L) (n' : En.ob p' (.tup (ns.map V.int)) ∈ L) (h : Q (.bl false) H) :
    rOr rNe (rNeD K) (.ref q) (.ref q') H Q :=
  .inr ⟨_, _, .lst (F.lst m) (nest_dp F n), .lst (F.lst m') (nest_dp F n'), nest_shaped ns l r, nest_shaped ns l r, by
    rw [nest_eqv ns l r]
    exact h⟩
end
end Z
namespace Z
open PySem L2
section
variable {X : Cx} {CX : CXT} {k : Nat} {C : Addr} {ps : List Str} {sp : Sp} {E : XK} {m : Str} {pos apos : Pos} {e o : Expr} {es : List Expr} {ta : TE} {t : TA}
theorem pe_methO {pl : Sem Bool} (O : MethO CX X.prog X.w X.K X.mg X.base C m k ps [] sp) (c : Cls X.K C) (hr : Room k X.A)
    (hx : Passes CX X E) (he : PE X o ta) (ha : PA X (e :: es) t)
    (hst : starEach (e :: es) X.env = (false, eval e X.env) :: starEach es X.env := by rfl)
    (hpl : (backTo pos (starEach es X.env)).any (·.1) = false := by rfl)
    (ht : eval (.Call (.Attribute o m
          apos) (e :: es) [] pos) X.env = (do
      let ov ← eval o X.env
      standAt apos.atName
      let (f, first) ← holding
            [ov] (getMethod ov m pl)
      callWith pos f first (backTo pos (starEach (e :: es)
            X.env)) (backToKw pos (keywordEach [] X.env))) := by rfl) :
    PE X (.Call (.Attribute o m apos) (e :: es) [] pos) (tMeth C m sp [] E ta t) := by
  obtain ⟨f, fd, ds, hm, hb, v, F⟩ := O
  cases v
  exact pe_meth he c hm F hr hb .nil hx ha hst hpl ht
end
end Z

set_option Elab.async false
set_option linter.all false
set_option maxRecDepth 100000
set_option maxHeartbeats 2000500
namespace Z
open PySem L2 RZ
/-! ### a middle: what holds where two ways meet -/
section
variable {σ : L2.St} {H : Hp} {Q : VK} {ts tu : TS} {te tf : TE} {nx bk ct : L2.St → Hp → Prop} {rt : VK} {b : Bool}
theorem wMidS (C : L2.St → Hp → Prop) (h : ∀ N : L2.St → Hp → Prop, (∀ σ' H', C σ' H' → N σ' H') → ts ⟨N, rt, bk, ct⟩ σ H) (k : ∀ σ' H', C σ' H' → nx σ' H') : ts ⟨nx, rt, bk, ct⟩ σ H := h nx k
theorem wMidI (C : L2.St → Hp → Prop) (h : ∀ N : L2.St → Hp → Prop, (∀ σ' H', C σ' H' → N σ' H') → if b = true then ts ⟨N, rt, bk, ct⟩ σ H else tu ⟨N, rt, bk, ct⟩ σ H) (k : ∀ σ' H', C σ' H' → nx σ' H') :
    if b = true then ts ⟨nx, rt, bk, ct⟩ σ H else tu ⟨nx, rt, bk, ct⟩ σ H := h nx k
theorem wMidE (C : V → Hp → Prop) (h : ∀ R : VK, (∀ v H', C v H' → R v H') → te σ H R) (k : ∀ v H', C v H' → Q v H') : te σ H Q := h Q k
theorem wMidV (C : V → Hp → Prop) (h : ∀ R : VK, (∀ v H', C v H' → R v H') → if b = true then te σ H R else tf σ H R) (k : ∀ v H', C v H' → Q v H') :
    if b = true then te σ H Q else tf σ H Q := h Q k
end
end Z
/-! ### data by the ledger -/
namespace Z
open PySem L2 RZ
mutual
inductive Dt (L : List En) : V → PyData → Prop
  | non : Dt L .non .none
  | bl (b : Bool) : Dt L (.bl b) (.bool b)
  | int (i : Int) : Dt L (.int i) (.int i)
  | str (x : Str) : Dt L (.str x) (.str x)
  | lst {a : Addr} {xs : List V} {ds : List PyData} (m : En.ob a (.lst xs) ∈ L) (h : DtA L xs ds) : Dt L (.ref a) (.list ds)
  | tup {a : Addr} {xs : List V} {ds : List PyData} (m : En.ob a (.tup xs) ∈ L) (h : DtA L xs ds) : Dt L (.ref a) (.tuple ds)
inductive DtA (L : List En) : List V → List PyData → Prop
  | nil : DtA L [] []
  | cons {v : V} {vs : List V} {d : PyData} {ds : List PyData} (h : Dt L v d) (r : DtA L vs ds) : DtA L (v :: vs) (d :: ds)
end
section
variable {L L' : List En} {K : PySem.W.Frag} {H : Hp}
mutual
theorem Dt.mono' (s : ∀ e ∈ L, e ∈ L') : ∀ (d : PyData) (v : V), Dt L v d → Dt L' v d
  | .none, _, h => by cases h; exact .non
  | .bool b, _, h => by cases h; exact .bl b
  | .int i, _, h => by cases h; exact .int i
  | .str x, _, h => by cases h; exact .str x
  | .list ds, _, h => by
    cases h with
    | lst m a => exact .lst (s _ m) (DtA.mono' s ds _ a)
  | .tuple ds, _, h => by
    cases h with
    | tup m a => exact .tup (s _ m) (DtA.mono' s ds _ a)
  | .dict _, _, h => by cases h
theorem DtA.mono' (s : ∀ e ∈ L, e ∈ L') : ∀ (ds : List PyData) (vs : List V), DtA L vs ds → DtA L' vs ds
  | [], _, h => by cases h; exact .nil
  | d :: ds, _, h => by
    cases h with
    | cons a r => exact .cons (Dt.mono' s d _ a) (DtA.mono' s ds _ r)
end
mutual
theorem Dt.dp' (F : Fx H L) : ∀ (d : PyData) (v : V), Dt L v d → Dp K H v d
  | .none, _, h => by cases h; exact .non
  | .bool b, _, h => by cases h; exact .bl b
  | .int i, _, h => by cases h; exact .int i
  | .str x, _, h => by cases h; exact .str x
  | .list ds, _, h => by
    cases h with
    | lst m a => exact .lst (F.lst m) (DtA.dp' F ds _ a)
  | .tuple ds, _, h => by
    cases h with
    | tup m a => exact .tup (F.tup m) (DtA.dp' F ds _ a)
  | .dict _, _, h => by cases h
theorem DtA.dp' (F : Fx H L) : ∀ (ds : List PyData) (vs : List V), DtA L vs ds → DpAll K H vs ds
  | [], _, h => by cases h; exact .nil
  | d :: ds, _, h => by
    cases h with
    | cons a r => exact .cons (Dt.dp' F d _ a) (DtA.dp' F ds _ r)
end
variable {v : V} {d : PyData} {vs : List V} {ds : List PyData}
theorem Dt.mono (h : Dt L v d) (s : ∀ e ∈ L, e ∈ L') : Dt L' v d := Dt.mono' s d v h
theorem DtA.mono (h : DtA L vs ds) (s : ∀ e ∈ L, e ∈ L') : DtA L' vs ds := DtA.mono' s ds vs h
theorem Dt.sub (h : Dt L v d) (s : L.Sublist L') : Dt L' v d := h.mono fun _ m => s.subset m
theorem DtA.sub (h : DtA L vs ds) (s : L.Sublist L') : DtA L' vs ds := h.mono fun _ m => s.subset m
theorem Dt.dp (h : Dt L v d) (F : Fx H L) : Dp K H v d := Dt.dp' F d v h
theorem DtA.len : ∀ {vs : List V} {ds : List PyData}, DtA L vs ds → vs.length = ds.length
  | _, [], h => by cases h; rfl
  | _, _ :: _, h => by
    cases h with
    | cons a r => rw [List.length_cons, List.length_cons, r.len]
theorem DtA.get : ∀ {vs : List V} {ds : List PyData} {i : Nat} {d : PyData}, DtA L vs ds → ds[i]? = some d → ∃ v, vs[i]? = some v ∧ Dt L v d
  | _, [], i, d, h, e => by simp at e
  | _, x :: ds, 0, d, h, e => by
    cases h with
    | cons a r =>
      cases e
      exact ⟨_, rfl, a⟩
  | _, x :: ds, i + 1, d, h, e => by
    cases h with
    | cons a r => exact r.get e
theorem DtA.getV : ∀ {ds : List PyData} {vs : List V} {i : Nat} {v : V}, DtA L vs ds → vs[i]? = some v → ∃ d, ds[i]? = some d ∧ Dt L v d
  | [], _, i, d, h, e => by cases h; simp at e
  | x :: ds, _, 0, d, h, e => by
    cases h with
    | cons a r =>
      cases e
      exact ⟨_, rfl, a⟩
  | x :: ds, _, i + 1, d, h, e => by
    cases h with
    | cons a r => exact r.getV e
theorem DtA.app : ∀ {ds ds' : List PyData} {vs vs' : List V}, DtA L vs ds → DtA L vs' ds' → DtA L (vs ++ vs') (ds ++ ds')
  | [], _, _, _, h, h' => by cases h; exact h'
  | _ :: _, _, _, _, h, h' => by
    cases h with
    | cons a r => exact .cons a (r.app h')
theorem DtA.ints : ∀ ns : List Int, DtA L (ns.map V.int) (iD ns)
  | [] => .nil
  | n :: r => .cons (.int n) (DtA.ints r)
theorem DtA.ints_eq : ∀ {ns : List Int} {vs : List V}, DtA L vs (iD ns) → vs = ns.map V.int
  | [], _, h => by cases h; rfl
  | n :: r, _, h => by
    cases h with
    | cons a r =>
      cases a
      rw [r.ints_eq]
      rfl
theorem Dt.tupI {a : Addr} {ns : List Int} (m : En.ob a (.tup (ns.map V.int)) ∈ L) : Dt L (.ref a) (.tuple (iD ns)) := .tup m (DtA.ints ns)
theorem Dt.lstI {a : Addr} {ns : List Int} (m : En.ob a (.lst (ns.map V.int)) ∈ L) : Dt L (.ref a) (.list (iD ns)) := .lst m (DtA.ints ns)
theorem Dt.tupI_mem {v : V} {ns : List Int} (h : Dt L v (.tuple (iD ns))) : ∃ a, v = .ref a ∧ En.ob a (.tup (ns.map V.int)) ∈ L := by
  cases h with
  | tup m r =>
    have e := r.ints_eq
    subst e
    exact ⟨_, rfl, m⟩
theorem Dt.lstI_mem {v : V} {ns : List Int} (h : Dt L v (.list (iD ns))) : ∃ a, v = .ref a ∧ En.ob a (.lst (ns.map V.int)) ∈ L := by
  cases h with
  | lst m r =>
    have e := r.ints_eq
    subst e
    exact ⟨_, rfl, m⟩
/-! shapes -/
def ShA (ds : List PyData) (n : Nat) : Prop := PyData.canLayAll0 ds = true ∧ PyData.depthAll ds ≤ n
def Sh (d : PyData) (n : Nat) : Prop := PyData.canLay0 d = true ∧ PyData.depth d ≤ n
theorem Sh.ok {n : Nat} (h : Sh d n) (hn : n ≤ 64 := by decide) : SeqAt.shaped d = true := by
  unfold SeqAt.shaped
  rw [Bool.and_eq_true]
  exact ⟨h.1, decide_eq_true (Nat.le_trans h.2 hn)⟩
theorem Sh.int (i : Int) : Sh (.int i) 0 := ⟨rfl, Nat.le_refl _⟩
theorem Sh.tup {n : Nat} (h : ShA ds n) : Sh (.tuple ds) (n + 1) := ⟨h.1, Nat.succ_le_succ h.2⟩
theorem Sh.lst {n : Nat} (h : ShA ds n) : Sh (.list ds) (n + 1) := ⟨h.1, Nat.succ_le_succ h.2⟩
theorem ShA.ints (ns : List Int) : ShA (iD ns) 0 := ⟨canLay_ints ns, Nat.le_of_eq (depth_ints ns)⟩
theorem ShA.nil : ShA [] 0 := ⟨rfl, Nat.le_refl _⟩
theorem ShA.cons {n m : Nat} (h : Sh d n) (r : ShA ds m) : ShA (d :: ds) (max n m) := by
  refine ⟨?_, ?_⟩
  · show (PyData.canLay0 d && PyData.canLayAll0 ds) = true
    rw [h.1, r.1]
    rfl
  · show max (PyData.depth d) (PyData.depthAll ds) ≤ _
    have := h.2
    have := r.2
    omega
theorem ShA.map {α : Type} {f : α → PyData} {n : Nat} : ∀ {xs : List α}, (∀ x ∈ xs, Sh (f x) n) → ShA (xs.map f) n
  | [], _ => ⟨rfl, Nat.zero_le _⟩
  | x :: r, h => by
    have a := h x List.mem_cons_self
    have b := ShA.map (f := f) (n := n) (xs := r) fun y hy => h y (List.mem_cons_of_mem _ hy)
    have c := ShA.cons a b
    rw [Nat.max_self] at c
    exact c
end
/-! what == and != say -/
section
variable {L : List En} {K : PySem.W.Frag} {H : Hp} {x y : V} {d e : PyData} {Q : VK}
theorem wEqD (F : Fx H L) (a : Dt L x d) (b : Dt L y e) (sd : SeqAt.shaped d = true) (se : SeqAt.shaped e = true) (h : Q (.bl (PyData.eqv d e)) H) : rOr rEq (rEqD K) x y H Q :=
  .inr ⟨d, e, a.dp F, b.dp F, sd, se, h⟩
theorem wNeD (F : Fx H L) (a : Dt L x d) (b : Dt L y e) (sd : SeqAt.shaped d = true) (se : SeqAt.shaped e = true) (h : Q (.bl (!PyData.eqv d e)) H) : rOr rNe (rNeD K) x y H Q :=
  .inr ⟨d, e, a.dp F, b.dp F, sd, se, h⟩
theorem wNeSame (F : Fx H L) (a : Dt L x d) (b : Dt L y d) (sd : SeqAt.shaped d = true) (h : Q (.bl false) H) : rOr rNe (rNeD K) x y H Q :=
  wNeD F a b sd sd (by rw [SeqAt.eqv_refl _ (SeqAt.canLay_of_shaped sd)]; exact h)
theorem wEqSame (F : Fx H L) (a : Dt L x d) (b : Dt L y d) (sd : SeqAt.shaped d = true) (h : Q (.bl true) H) : rOr rEq (rEqD K) x y H Q :=
  wEqD F a b sd sd (by rw [SeqAt.eqv_refl _ (SeqAt.canLay_of_shaped sd)]; exact h)
end
end Z

set_option Elab.async false
set_option linter.all false
set_option maxRecDepth 100000
set_option maxHeartbeats 2000500
namespace Z
open PySem PySem.Spec PyProof.Rows Builtin Builtin.Str
open Sem (wp)
/-! ### enumerate over a tuple -/
theorem meets_enum1 {v : Value} {o : Obj} {H : Heap → Prop} (B : Begins v o H) :
    Meets (Builtin.«enumerate.__new__» ⟨[.type "enumerate", v], []⟩) (fun _ R s => H s.heap ∧
      R (.ok (.ret (.ref (s.heap.push o).objs.size))) { s with heap := (s.heap.push o).push { cls := .type "enumerate", data := .fields #[.none, .bool false, .ref s.heap.objs.size, rawInt 0, .none, .none] } }) :=
  .of_wp fun prog
        w A R s h => by
    obtain ⟨hp, g, d, tk, os⟩
          := s; obtain ⟨h1, h⟩ := h
    have hsub := sub_enumerate
    have q1 : ∀ {A' : Around} {E : Value → Shared → Prop} {Q : Value → Shared → Prop}, Q (.ref
          hp.objs.size) ⟨hp.push o, g, d, tk, os⟩ → wpAny (model prog w) A' (pyIter v) Q E ⟨hp, g, d, tk, os⟩ :=
      fun q => B.iter prog w _ _
            ⟨hp, g, d, tk, os⟩ _ h1 q
    wp_walk using q1
    refine wpAny_stack_any
          fun st => wpAny_pure ?_
    split
    · rename_i c _ _ _ _ _
      cases (c == Value.type
            "enumerate")
      · wp_walk using q1
        exact ⟨_, rfl, h⟩
      · wp_walk using q1
        exact ⟨_, rfl, h⟩
    · wp_walk using q1
      exact ⟨_, rfl, h⟩
section
variable {prog : Program} {w : World} {A :
      Around} {E : Value → Shared → Prop} {s : Shared}
theorem enum_begins1 {v : Value} {o : Obj} {H : Heap → Prop} {Q : Value → Shared → Prop} (B : Begins v o H) (h1 : H s.heap)
    (h : ∀ h', IsEnum h' (s.heap.objs.size + 1) s.heap.objs.size 0 .none → h'.get? s.heap.objs.size = some o →
      (∀ b o, s.heap.get? b = some o → h'.get? b = some o) →
            Q (.ref (s.heap.objs.size +
                  1)) { s with heap := h' }) :
    wpAny (model prog w) A (call (.type "enumerate") [v]) Q E s := by
  refine callType_new F.called_enumerate (by decide) (F.typeCall_enumerate_1 _)
        (F.newCall_enumerate_1 _) (fun obj => F.args_object_init_2 obj _) F.entry_enumerate_new
    (meets_enum1 B) ⟨h1, ?_⟩
  have hz : (s.heap.push o).objs.size =
        s.heap.objs.size + 1 := Heap.size_push ..
  show _ ∧ _
  rw [hz]
  have he : IsEnum ((s.heap.push o).push { cls := .type "enumerate", data := .fields #[.none, .bool false, .ref s.heap.objs.size, rawInt 0, .none, .none] }) (s.heap.objs.size + 1) s.heap.objs.size 0 .none := by
    have := Heap.get?_push_size (s.heap.push o) (o := { cls := .type "enumerate", data := .fields #[.none, .bool false, .ref s.heap.objs.size, rawInt 0, .none, .none] }) rfl
    rw [hz] at this; exact this
  exact ⟨⟨_, he, rfl⟩, h _ he (Heap.get?_push_of_some _ (Heap.get?_push_size _ B.free)) fun b o x => Heap.get?_push_of_some _ (Heap.get?_push_of_some _ x)⟩
end
end Z
namespace Z
open PySem PySem.Spec
      PyProof.Rows L2
def IteT (K : PySem.W.Frag) (a : Addr) : It :=
  ⟨fun i H => ∃ (xs : List V) (x : V), SqT K H a xs ∧ xs[i]? = some x, fun i H v H' => ∃ T x, v = .ref T ∧ H T = none ∧ H' = upd H T (.tup [.int (i : Nat), x]) ∧ ∀ xs, SqT K H a xs → xs[i]? = some x,
    fun i H => ∃ xs : List V, SqT K H a xs ∧ xs.length ≤ i⟩
theorem turn_enumT {P : Program} {w : World} {K : PySem.W.Frag} {elts : List Expr} {kk : Nat} {tpos : Pos} (a e it : Addr) :
    Turn P w K (.Tuple elts kk tpos) (IteT K a) [e, it] e (fun i h => (∃ old, IsEnum h e it ((i : Nat) : Int) old) ∧ h.IsTupleIter it a i ∧ e ≠ it) where
  mem := by simp
  obj := fun i h st b hb => by
    obtain ⟨⟨old, he⟩, ⟨o,
          ho, hc, hd⟩, _⟩ := st
    have e' : b = e ∨ b = it
          := by simpa using hb
    rcases e' with z | z
    · rw [z]; exact ⟨_, he,
          fun v q => nomatch q⟩
    · rw [z]; exact ⟨o, ho, fun v
          q => by rw [hd] at q; cases q⟩
  keep := fun i h h' st k => let ⟨⟨old, he⟩, hi, hne⟩ := st; ⟨⟨old,
        k e (by simp) _ he⟩, hi.at fun o q => k it (by simp) o q, hne⟩
  item := by
    intro X hP hw hK hc i
          pins s σ H E I hf st hg
    subst hP hw hK
    obtain ⟨⟨old, he⟩,
          hit, hne⟩ := st
    obtain ⟨xs, x, hq,
          hx⟩ := hg
    obtain ⟨its, rv, p,
          hz⟩ := I.tuple hq
    obtain ⟨u, hu, ru⟩
          := rv.get hx
    have hel : e < s.heap.objs.size
          := Heap.lt_size he
    have hil : it < s.heap.objs.size := by
          obtain ⟨_, q, _⟩ := hit; exact Heap.lt_size q
    have ht : s.heap.IsTuple a its.toArray := p
    have hai : a ≠ it
          := fun z => by
      obtain ⟨o1, e1, c1, _⟩ := hit
      obtain ⟨o2, e2, c2, _⟩ := id ht
      rw [z, e1] at e2
      cases e2
      rw [c1] at c2
      exact absurd c2 (by simp)
    have hae : e ∉ [it, a] := fun z => by
      rcases List.mem_cons.mp
            z with z | z
      · exact hne z
      · have z :=
            List.mem_singleton.mp z
        obtain ⟨o2, e2, c2, _⟩ := id ht
        have he' : s.heap.get? e = some _ := he
        rw [z, e2] at he'
        cases he'
        exact absurd c2 (by simp)
    have il : i < its.toArray.size := by
      have := (List.getElem?_eq_some_iff.mp hu).1
      simpa using this
    refine wpAny_pyNext_enum_itemD (Draws.tuple (by exact (I.ok.hd hc)) it a hai its.toArray) he ⟨hit, ht⟩ il hne hae fun x' h' tk hP ho hs' hT hsz hk => ?_
    have hxu : x' = u := by
      have e1 : its.toArray[i]? = some x' := hP
      have e2 : its.toArray[i]? = some u := by simpa using hu
      rw [e2] at e1
      exact (Option.some.inj e1).symm
    subst hxu
    refine ⟨_, rfl, wpAny_letOwnedTupleGo_enum (s := { s with heap := h', toks := tk + 1 }) ho fun h'' he' sb => ?_⟩
    have hT2 : h''.get? s.heap.objs.size = some { cls := .type "tuple", data := .seq #[.int i tk, x'] } := (sb.2 _ (Nat.ne_of_gt hel)).trans hT
    have new : ObjOk X.prog X.w (upd H s.heap.objs.size (.tup [.int (i
          : Nat), x])) h'' s.heap.objs.size (.tup [.int (i : Nat), x]) :=
      ⟨by show 2 ≤ sizeLine; decide, [.int i tk, x'], .cons ⟨_, rfl⟩ (.cons ru .nil), ⟨_, hT2, rfl, _, rfl⟩⟩
    have I1 : Inv X pins σ (upd H s.heap.objs.size (.tup [.int (i : Nat), x])) { s with heap := h'', toks := tk + 1 } :=
      I.turnedNew (ch := [e, it]) (fun b ob hb q => (sb.2 b (fun z => hb (by simp [z]))).trans
            (hk b ob (fun z => hb (by simp [z])) (fun z => hb (by simp [z])) q)) hf (Nat.le_refl _) new
    refine ⟨.ref s.heap.objs.size, _, I1, rfl, ⟨_, x, rfl, I.hok.fresh (Nat.le_refl _), rfl, fun ys hy => ?_⟩, ⟨⟨x', ?_⟩, hs'.1.at fun o q => (sb.2 it (Ne.symm hne)).trans q, hne⟩, fun b hb => ?_⟩
    · rw [I.tuple_inj hy hq]; exact hx
    · have e1 : ((i + 1 : Nat) :
          Int) = (i : Int) + 1 := by omega
      rw [e1]; exact he'
    · have hb' : b <
          s.heap.objs.size := by
        have e' : b = e ∨ b = it
              := by simpa using hb
        rcases e' with z | z
        · rw [z]; exact hel
        · rw [z]; exact hil
      rw [upd_ne
            (Nat.ne_of_lt hb')]
      exact (hf b hb).1
  done := by
    intro X hP hw hK hc i pins
          s σ H E I hf st hg
    subst hP hw hK
    obtain ⟨⟨old, he⟩,
          hit, hne⟩ := st
    obtain ⟨xs, hq, hx⟩
          := hg
    obtain ⟨its, rv, p,
          hz⟩ := I.tuple hq
    obtain ⟨f0, f1, f2, f3,
          f4, f5⟩ := hf it (by simp)
    have hl := rv.length
    have ht : s.heap.IsTuple a its.toArray := p
    have hT : s.TypeIs (.ref e)
          "enumerate" := ⟨_, he, rfl⟩
    unfold pyNext
    refine wpAny_bind (wpAny_attempt (wpAny_callSpecial?_slot
          (name := Str.ofString "__next__") hT F.slot_enumerate_next
      (wpAny_call_entry F.slot_enumerate_next hT
            F.entry_enumerate_next ?_ (F.args_enumerate_next_1 _))))
    show wpAny _ _ (field
          (.ref e) 2 >>= _) _ _ _
    refine wpAny_bind (wpAny_field
          he rfl (x := .ref it) rfl ?_)
    refine wpAny_bind (wpAny_nextOf_tuple_end (by exact (I.ok.hd hc)) hit ht (by simp; omega) fun h' x eb hx' => ?_)
    obtain ⟨o, ho, hc'⟩ := hx'
    refine wpAny_bind (wpAny_isInstance (T := "StopIteration") (b := true) ⟨o, ho, hc'⟩ isSubtype_stop ?_)
    exact wpAny_pure ⟨rfl, I.turned (t' := s.toks) (fun b o hb q => eb b o hb q) f0 f1 f3 f4 f5⟩
  self := fun A i s Q E st h => let ⟨⟨_,
        he⟩, _⟩ := st; wpAny_pyIter_enum he h
section
variable {X : Cx}
/-- a list or a tuple, counted along -/
def iEnumS (K : PySem.W.Frag) (ta : TA) : TI := fun σ H R => ta σ H fun vs H1 => ∃ a, vs = [.ref a] ∧ ((∃ xs, SqL K H1 a xs ∧ R (Ite K a) H1) ∨ ∃ xs, SqT K H1 a xs ∧ R (IteT K a) H1)
theorem pi_enumS {e : Expr} {ta : TA} {p pos tpos : Pos} {elts : List Expr} {kk : Nat} (hg : Gl X "enumerate") (hm : X.mg "enumerate" = none) (ha : PA X [e] ta) (hs : starEach [e] X.env = [(false, eval e X.env)] := by rfl) :
    PI X (.Tuple elts kk tpos) (.Call (.Name "enumerate" p) [e] [] pos) (iEnumS X.K ta) := by
  refine ⟨fun pins
        s σ H R I h => ?_⟩
  refine Call_ (ld_blt I hg hm boot_enumerate (PyProof.Rows.callWith_type1 (thn (ha.run
        pos pins s σ H _ I h) fun us s1 ⟨vs, H1, I1, r1, q1⟩ => ?_) hs rfl))
  obtain ⟨a, ex, q⟩ := q1
  subst ex
  cases r1 with
  | cons r rr =>
    cases rr
    cases r
    rcases q with ⟨xs, hq, q⟩ | ⟨xs, hq, q⟩
    · obtain ⟨its, rv,
          p', hz⟩ := I1.list hq
      refine call_enumerate_list p'.isList
            fun h' he hit hsz hk => wpAny_pyIter_enum he ?_
      have I2 : Inv X pins σ H1 { s1 with
            heap := h' } := I1.kept (t' := s1.toks) hk
      refine ⟨s1.heap.objs.size + 1, [s1.heap.objs.size + 1, s1.heap.objs.size], _, _, H1, rfl, I2, turn_enum a
            (s1.heap.objs.size + 1) s1.heap.objs.size, ⟨⟨.none, he⟩, hit, Nat.succ_ne_self _⟩, fun b hb => ?_, q⟩
      have e' : b = s1.heap.objs.size + 1 ∨
            b = s1.heap.objs.size := by simpa using hb
      have hle :
            s1.heap.objs.size ≤ b := by
        rcases e' with z | z
        · rw [z]; exact
              Nat.le_add_right _ _
        · rw [z]; exact Nat.le_refl _
      exact I1.fpOk hle
            (I1.hok.fresh hle)
    · obtain ⟨its, rv,
          p', hz⟩ := I1.tuple hq
      refine enum_begins1 (begins_tuple a its.toArray) p' fun h' he hit hk => wpAny_pyIter_enum he ?_
      have I2 : Inv X pins σ H1 { s1 with
            heap := h' } := I1.kept (t' := s1.toks) hk
      refine ⟨s1.heap.objs.size + 1, [s1.heap.objs.size + 1, s1.heap.objs.size], _, _, H1, rfl, I2, turn_enumT a
            (s1.heap.objs.size + 1) s1.heap.objs.size, ⟨⟨.none, he⟩, ⟨_, hit, rfl, rfl⟩, Nat.succ_ne_self _⟩, fun b hb => ?_, q⟩
      have e' : b = s1.heap.objs.size + 1 ∨
            b = s1.heap.objs.size := by simpa using hb
      have hle :
            s1.heap.objs.size ≤ b := by
        rcases e' with z | z
        · rw [z]; exact
              Nat.le_add_right _ _
        · rw [z]; exact Nat.le_refl _
      exact I1.fpOk hle
            (I1.hok.fresh hle)
end
theorem walk_enumT {K : PySem.W.Frag} {a : Addr} {xs : List V} : Walk (IteT K a) xs.length (fun H => SqT K H a xs) (YPair (fun i => some (.int (i : Nat))) (fun i => xs[i]?)) := by
  refine ⟨fun i _ hi q => ⟨xs, xs[i], q, by simp [hi]⟩, fun _ q
        => ⟨xs, q, Nat.le_refl _⟩, fun i H v H' _ q y => ?_⟩
  obtain ⟨T, x, h1,
        h2, h3, h4⟩ := y
  exact ⟨T, .int (i : Nat), x, h1,
        h2, h3, rfl, h4 xs q⟩
section
variable {K : PySem.W.Frag} {H : Hp} {L : List En} {a : V} {xs : List V} {RI : It → Hp → Prop} {σ : L2.St} {ta : TA} {g : TG} {tb : TS} {nx : L2.St → Hp → Prop} {rt : VK}
def GoE (K : PySem.W.Frag) (vs : List V) (H : Hp) (R : It → Hp → Prop) : Prop := ∃ a, vs = [.ref a] ∧ ((∃ xs, SqL K H a xs ∧ R (Ite K a) H) ∨ ∃ xs, SqT K H a xs ∧ R (IteT K a) H)
theorem wIE (h : ta σ H fun vs H1 => GoE K vs H1 RI) : iEnumS K ta σ H RI := h
/-- a for over enumerate(list or tuple) -/
theorem wForE (hq : SeqIs L a (some xs)) (F : Fx H L) (Pv : Nat → L2.St → Hp → Prop) (h0 : Pv 0 σ H) (keep : ∀ i σ H', Pv i σ H' → ∃ L', Fx H' L' ∧ ∀ p o, En.ob p o ∈ L → En.ob p o ∈ L')
    (hs : ∀ i x T σ H', xs[i]? = some x → Pv i σ H' → H' T = none → g (.ref T) σ (upd H' T (.tup [.int (i : Nat), x])) fun σ2 H2 => tb ⟨Pv (i + 1), rt, nx, Pv (i + 1)⟩ σ2 H2) (hd : ∀ σ H', Pv xs.length σ H' → nx σ H') :
    GoE K [a] H fun J H1 => ∃ W : Nat → Nat → L2.St → Hp → Prop, (∃ m, W 0 m σ H1) ∧ ∀ i m σ H, W i m σ H →
      (J.stop i H ∧ nx σ H) ∨ (J.go i H ∧ ∃ N : L2.St → Hp → Prop, (∀ σ' H', N σ' H' → ∃ m', m' < m ∧ W (i + 1) m' σ' H') ∧ ∀ x H', J.yld i H x H' → g x σ H' fun σ2 H2 => tb ⟨N, rt, nx, N⟩ σ2 H2) := by
  cases hq with
  | @lst p xs m =>
    refine ⟨p, rfl, .inl ⟨xs, F.lst m, wForW (walk_enum (K := K) (xs := xs)) Pv h0 (fun i σ H' _ q => ?_) ?_ hd⟩⟩
    · obtain ⟨L', F', k⟩ := keep i σ H' q
      exact F'.lst (k _ _ m)
    · rintro i x σ H' H'' _ q ⟨T, u, v, rfl, hT, rfl, e1, e2⟩
      cases e1
      exact hs i v T σ H' e2 q hT
  | @tup p xs m =>
    refine ⟨p, rfl, .inr ⟨xs, F.tup m, wForW (walk_enumT (K := K) (xs := xs)) Pv h0 (fun i σ H' _ q => ?_) ?_ hd⟩⟩
    · obtain ⟨L', F', k⟩ := keep i σ H' q
      exact F'.tup (k _ _ m)
    · rintro i x σ H' H'' _ q ⟨T, u, v, rfl, hT, rfl, e1, e2⟩
      cases e1
      exact hs i v T σ H' e2 q hT
end
/-! ### sum of a tuple -/
def rSumT (K : PySem.W.Frag) : List V → Hp → VK → Prop := fun vs H Q => ∃ (a : Addr) (ns : List Int), vs = [V.ref a] ∧ SqT K H a (ns.map V.int) ∧ Q (.int ns.sum) H
theorem cr_sumT {X : Cx} (hc : X.calm = true) : CallR X (.builtin "sum") (rSumT X.K) := by
  intro pins s σ
        H vs us Q I r h
  obtain ⟨a, ns,
        rfl, hs, q⟩ := h
  obtain ⟨its, rv, hl, _⟩ := I.tuple hs
  rw [Vals.ref1 r]
  have hi := rv.ints
  obtain ⟨xs, hx⟩ :=
        hi.allInts.items
  have hn : numsOf its.toArray.toList = ns := by rw [show its.toArray.toList = its from rfl, hi.numsOf]
  have ht : s.heap.IsTuple a its.toArray := hl
  rw [hx] at ht hn
  rw [nums_intItems] at hn
  refine PySem.W.ktm_sumG (I.ok.hd hc) ht fun h' tk t' hk => ?_
  refine ⟨.int ns.sum, H, I.kept hk, ?_, q⟩
  rw [preSum_eq, List.take_of_length_le
        (by simp), hn]
  exact ⟨_, rfl⟩
theorem cr_sumS {X : Cx} (hc : X.calm = true) : CallR X (.builtin "sum") (rOrC (rSum X.K) (rSumT X.K)) := CallR.or (cr_sum hc) (cr_sumT hc)
section
variable {K : PySem.W.Frag} {H : Hp} {L : List En} {a : Addr} {b : V} {ns : List Int} {Q : VK}
theorem wSumL (s : SqL K H a (ns.map V.int)) (h : Q (.int ns.sum) H) : rOrC (rSum K) (rSumT K) [.ref a] H Q := .inl ⟨a, ns, rfl, s, h⟩
theorem wSumT (s : SqT K H a (ns.map V.int)) (h : Q (.int ns.sum) H) : rOrC (rSum K) (rSumT K) [.ref a] H Q := .inr ⟨a, ns, rfl, s, h⟩
theorem wSumS (s : SeqIs L b (some (ns.map V.int))) (F : Fx H L) (h : Q (.int ns.sum) H) : rOrC (rSum K) (rSumT K) [b] H Q := by
  generalize e : ns.map V.int = xs at s
  cases s with
  | lst m => exact wSumL (F.lst (e ▸ m)) h
  | tup m => exact wSumT (F.tup (e ▸ m)) h
end
/-! ### while -/
section
variable {σ : L2.St} {H : Hp} {tc : TT} {tb : TS} {nx bk ct : L2.St → Hp → Prop} {rt : VK}
def WBody (tb : TS) (Pv : Nat → L2.St → Hp → Prop) (m : Nat) (nx : L2.St → Hp → Prop) (rt : VK) (σ : L2.St) (H : Hp) : Prop :=
  ∃ N : L2.St → Hp → Prop, (∀ σ' H', N σ' H' → ∃ m', m' < m ∧ Pv m' σ' H') ∧ tb ⟨N, rt, nx, N⟩ σ H
theorem wWhile (Pv : Nat → L2.St → Hp → Prop) (m : Nat) (h0 : Pv m σ H) (hs : ∀ m σ H, Pv m σ H → tc σ H fun b H1 => if b = true then WBody tb Pv m nx rt σ H1 else nx σ H1) :
    tWhile tc tb ⟨nx, rt, bk, ct⟩ σ H := ⟨Pv, ⟨m, h0⟩, hs⟩
theorem wBody {Pv : Nat → L2.St → Hp → Prop} {m : Nat} (h : tb ⟨fun σ' H' => ∃ m', m' < m ∧ Pv m' σ' H', rt, nx, fun σ' H' => ∃ m', m' < m ∧ Pv m' σ' H'⟩ σ H) : WBody tb Pv m nx rt σ H := ⟨_, fun _ _ h => h, h⟩
end
/-! ### range with a step, lists made of lists, order of tuples, min and max -/
section
variable {K : PySem.W.Frag} {H : Hp} {L : List En} {a b : Addr} {xs ys : List V} {RI : It → Hp → Prop} {σ : L2.St} {ta : TA} {Q : VK} {i j : Int} {ns ms : List Int}
def GoR3 (vs : List V) (H : Hp) (R : It → Hp → Prop) : Prop := ∃ (i j c : Int) (n : Nat), vs = [.int i, .int j, .int c] ∧ RgC i j c n ∧ R (Itc i c n) H
theorem wIR3 (h : ta σ H fun vs H1 => GoR3 vs H1 RI) : iRng3 ta σ H RI := h
theorem wGoDown (ha : -(2 ^ 62) ≤ i) (ha' : i < 2 ^ 62) (hb : -(2 ^ 62) ≤ j) (hb' : j < 2 ^ 62) (h : RI (Itc i (-1) (i - j).toNat) H) : GoR3 [.int i, .int j, .int (-1)] H RI := ⟨i, j, -1, _, rfl, RgC.neg ha ha' hb hb', h⟩
theorem wRepL {n : Int} (F : Fx H L) (m : En.ob a (.lst xs) ∈ L) (n1 : -(2 ^ 63) ≤ n) (n2 : n < 2 ^ 63) (n3 : xs.length * n.toNat ≤ 1000000)
    (k : ∀ p H', Fx H' (.ob p (.lst (List.replicate n.toNat xs).flatten) :: L) → Q (.ref p) H') : rOr rMulC (rOr rMulI (rOr rRep (rRepT K))) (.ref a) (.int n) H Q :=
  .inr (.inr (.inl ⟨a, n, xs, rfl, rfl, F.get m, n1, n2, Nat.le_trans n3 line_big, wNewF F k⟩))
theorem wCatL (F : Fx H L) (m : En.ob a (.lst xs) ∈ L) (m' : En.ob b (.lst ys) ∈ L) (l : xs.length + ys.length ≤ 1000000)
    (k : ∀ p H', Fx H' (.ob p (.lst (xs ++ ys)) :: L) → Q (.ref p) H') : rOr rAddI (rOr rAddS (rOr rCat (rCatT K))) (.ref a) (.ref b) H Q :=
  .inr (.inr (.inl ⟨a, b, xs, ys, rfl, rfl, F.get m, F.get m', Nat.le_trans l line_big, wNewF F k⟩))
theorem wLtT (s : SqT K H a (ns.map V.int)) (t : SqT K H b (ms.map V.int)) (h : Q (.bl (HT.lexLt ns ms)) H) : rOr rLtI (rLtT K) (.ref a) (.ref b) H Q := .inr ⟨a, b, ns, ms, rfl, rfl, s, t, h⟩
theorem flat_one (n : Nat) (x : V) : (List.replicate n [x]).flatten = List.replicate n x := by
  induction n with
  | zero => rfl
  | succ n ih => rw [List.replicate_succ, List.flatten_cons, ih]; rfl
end
theorem zLtS {X : Cx} (hu : X.A.units < cLine) : OpR X (compareOp .Lt) (rOr rLtI (rLtT X.K)) := opOr op_lt (op_ltT hu)
def rMin2 : List V → Hp → VK → Prop := fun xs H Q => ∃ i j, xs = [V.int i, V.int j] ∧ Q (.int (if j < i then j else i)) H
def rMax2 : List V → Hp → VK → Prop := fun xs H Q => ∃ i j, xs = [V.int i, V.int j] ∧ Q (.int (if j > i then j else i)) H
theorem zMin2 {X : Cx} (hc : X.calm = true) : CallR X (.builtin "min") rMin2 := call_min2 hc
theorem zMax2 {X : Cx} (hc : X.calm = true) : CallR X (.builtin "max") rMax2 := call_max2 hc
theorem wMin2 {H : Hp} {Q : VK} {i j : Int} (h : Q (.int (if j < i then j else i)) H) : rMin2 [.int i, .int j] H Q := ⟨i, j, rfl, h⟩
theorem wMax2 {H : Hp} {Q : VK} {i j : Int} (h : Q (.int (if j > i then j else i)) H) : rMax2 [.int i, .int j] H Q := ⟨i, j, rfl, h⟩
/-! ### comprehensions and loops over a tuple or a list of the ledger -/
section
variable {K : PySem.W.Frag} {H : Hp} {L : List En} {a : Addr} {xs : List V} {g : TG} {tt : TT} {te : TE} {vs : List Nat} {σ : L2.St} {QD : Addr → Hp → Prop}
theorem wLcT (m : En.ob a (.tup xs) ∈ L) (F : Fx H L) (R : Nat → List V → List En → Prop) (h0 : R 0 [] L) (keep : ∀ i acc L', R i acc L' → En.ob a (.tup xs) ∈ L')
    (hs : ∀ i x D H' acc L', xs[i]? = some x → R i acc L' → Fx H' (.ob D (.lst acc) :: L') → g x (wipe σ vs) H' fun σ2 H2 => wipe σ2 vs = wipe σ vs ∧ tt σ2 H2 fun b H3 =>
      if b = true then te σ2 H3 fun y H4 => LcPut D R i y H4 else LcP D R (i + 1) H3)
    (hd : ∀ D acc L' H', Fx H' (.ob D (.lst acc) :: L') → R xs.length acc L' → QD D H') :
    ∀ D, H D = none → ∃ W : Nat → Nat → Hp → Prop, (∃ m, W 0 m (upd H D (.lst []))) ∧ ∀ i m H, W i m H →
  ((Itt K a).stop i H ∧ QD D H) ∨ ((Itt K a).go i H ∧ ∃ Nx : Hp → Prop, (∀ H', Nx H' → ∃ m', m' < m ∧ W (i + 1) m' H') ∧ ∀ x H', (Itt K a).yld i H x H' → g x (wipe σ vs) H' fun σ2 H2 => wipe σ2 vs = wipe σ vs ∧ tt σ2 H2 fun b H3 =>
    if b = true then te σ2 H3 fun y H4 => ∃ acc, H4 D = some (.lst acc) ∧
          acc.length < sizeLine ∧ Nx (upd H4 D (.lst (acc ++ [y]))) else Nx H3) :=
  wLcW (walk_tup (K := K) (xs := xs)) F R h0 (fun i acc L' D H' r F' => F'.tup (List.mem_cons_of_mem _ (keep _ _ _ r))) (fun i x D H' H'' acc L' _ r F' y => by
    obtain ⟨rfl, e⟩ := y
    exact hs i x D H'' acc L' e r F') hd
theorem wLcL (m : En.ob a (.lst xs) ∈ L) (F : Fx H L) (R : Nat → List V → List En → Prop) (h0 : R 0 [] L) (keep : ∀ i acc L', R i acc L' → En.ob a (.lst xs) ∈ L')
    (hs : ∀ i x D H' acc L', xs[i]? = some x → R i acc L' → Fx H' (.ob D (.lst acc) :: L') → g x (wipe σ vs) H' fun σ2 H2 => wipe σ2 vs = wipe σ vs ∧ tt σ2 H2 fun b H3 =>
      if b = true then te σ2 H3 fun y H4 => LcPut D R i y H4 else LcP D R (i + 1) H3)
    (hd : ∀ D acc L' H', Fx H' (.ob D (.lst acc) :: L') → R xs.length acc L' → QD D H') :
    ∀ D, H D = none → ∃ W : Nat → Nat → Hp → Prop, (∃ m, W 0 m (upd H D (.lst []))) ∧ ∀ i m H, W i m H →
  ((Itl K a).stop i H ∧ QD D H) ∨ ((Itl K a).go i H ∧ ∃ Nx : Hp → Prop, (∀ H', Nx H' → ∃ m', m' < m ∧ W (i + 1) m' H') ∧ ∀ x H', (Itl K a).yld i H x H' → g x (wipe σ vs) H' fun σ2 H2 => wipe σ2 vs = wipe σ vs ∧ tt σ2 H2 fun b H3 =>
    if b = true then te σ2 H3 fun y H4 => ∃ acc, H4 D = some (.lst acc) ∧
          acc.length < sizeLine ∧ Nx (upd H4 D (.lst (acc ++ [y]))) else Nx H3) :=
  wLcW (walk_list (K := K) (xs := xs)) F R h0 (fun i acc L' D H' r F' => F'.lst (List.mem_cons_of_mem _ (keep _ _ _ r))) (fun i x D H' H'' acc L' _ r F' y => by
    obtain ⟨rfl, e⟩ := y
    exact hs i x D H'' acc L' e r F') hd
variable {tb : TS} {nx : L2.St → Hp → Prop} {rt : VK}
theorem wForT (F : Fx H L) (m : En.ob a (.tup xs) ∈ L) (Pv : Nat → L2.St → Hp → Prop) (h0 : Pv 0 σ H) (keep : ∀ i σ H', Pv i σ H' → ∃ L', Fx H' L' ∧ En.ob a (.tup xs) ∈ L')
    (hs : ∀ i x σ H', xs[i]? = some x → Pv i σ H' → g x σ H' fun σ2 H2 => tb ⟨Pv (i + 1), rt, nx, Pv (i + 1)⟩ σ2 H2) (hd : ∀ σ H', Pv xs.length σ H' → nx σ H') :
    ∃ W : Nat → Nat → L2.St → Hp → Prop, (∃
          m, W 0 m σ H) ∧ ∀ i m σ H, W i m σ H →
      ((Itt K a).stop i H ∧ nx σ H) ∨ ((Itt K a).go i H ∧ ∃ N : L2.St → Hp → Prop, (∀ σ' H', N σ' H' → ∃ m', m' < m ∧ W (i + 1) m' σ' H') ∧ ∀ x H', (Itt K a).yld i H x H' → g x σ H' fun σ2 H2 => tb ⟨N, rt, nx, N⟩ σ2 H2) :=
  wForW (walk_tup (K := K) (xs := xs)) Pv h0 (fun i σ H' _ q => let ⟨_, F', k⟩ := keep i σ H' q; F'.tup k) (fun i x σ H' H'' _ q y => by
    obtain ⟨rfl, e⟩ := y
    exact hs i x σ H'' e q) hd
theorem wForLi (F : Fx H L) (m : En.ob a (.lst xs) ∈ L) (Pv : Nat → L2.St → Hp → Prop) (h0 : Pv 0 σ H) (keep : ∀ i σ H', Pv i σ H' → ∃ L', Fx H' L' ∧ En.ob a (.lst xs) ∈ L')
    (hs : ∀ i x σ H', xs[i]? = some x → Pv i σ H' → g x σ H' fun σ2 H2 => tb ⟨Pv (i + 1), rt, nx, Pv (i + 1)⟩ σ2 H2) (hd : ∀ σ H', Pv xs.length σ H' → nx σ H') :
    ∃ W : Nat → Nat → L2.St → Hp → Prop, (∃
          m, W 0 m σ H) ∧ ∀ i m σ H, W i m σ H →
      ((Itl K a).stop i H ∧ nx σ H) ∨ ((Itl K a).go i H ∧ ∃ N : L2.St → Hp → Prop, (∀ σ' H', N σ' H' → ∃ m', m' < m ∧ W (i + 1) m' σ' H') ∧ ∀ x H', (Itl K a).yld i H x H' → g x σ H' fun σ2 H2 => tb ⟨N, rt, nx, N⟩ σ2 H2) :=
  wForW (walk_list (K := K) (xs := xs)) Pv h0 (fun i σ H' _ q => let ⟨_, F', k⟩ := keep i σ H' q; F'.lst k) (fun i x σ H' H'' _ q y => by
    obtain ⟨rfl, e⟩ := y
    exact hs i x σ H'' e q) hd
end
section
variable {σ : L2.St} {H : Hp} {te : TE} {ti : TIp} {nx bk ct : L2.St → Hp → Prop} {rt : VK} {i : Nat} {x : V} {f : Int → Int → Int} {a b : Int} {Q : VK}
theorem wAug (e : σ[i]? = some (some x)) (h : te σ H fun y H1 => ti x y H1 fun z H2 => nx (σ.set i (some z)) H2) : tAug i te ti ⟨nx, rt, bk, ct⟩ σ H := ⟨x, e, h⟩
theorem wIpI (h : Q (.int (f a b)) H) : ipI f (.int a) (.int b) H Q := ⟨a, b, rfl, rfl, h⟩
end
section
variable {K : PySem.W.Frag} {H : Hp} {a : Addr} {ns : List Int} {z : Int} {Q : VK}
theorem wNotInTu (s : SqT K H a (ns.map V.int)) (h : Q (.bl (!decide (z ∈ ns))) H) : rIn K true (.int z) (.ref a) H Q :=
  ⟨a, _, rfl, .inr s, rfl, flat_ints ns, by rw [← inV_ints] at h; exact h⟩
end
section
variable {sp : Sp} {v : V} {vs ds : List V} {H : Hp} {Q : VK} {E : XK}
theorem wSpC (h : sp (v :: (vs ++ ds)) H Q E) : sp ((v :: vs) ++ ds) H Q E := h
theorem wSpN (h : sp ds H Q E) : sp ([] ++ ds) H Q E := h
theorem wSpC1 {u : V} (h : sp (u :: v :: (vs ++ ds)) H Q E) : sp (u :: ((v :: vs) ++ ds)) H Q E := h
theorem wSpN1 {u : V} (h : sp (u :: ds) H Q E) : sp (u :: ([] ++ ds)) H Q E := h
theorem wSpC2 {u u' : V} (h : sp (u :: u' :: v :: (vs ++ ds)) H Q E) : sp (u :: u' :: ((v :: vs) ++ ds)) H Q E := h
theorem wSpN2 {u u' : V} (h : sp (u :: u' :: ds) H Q E) : sp (u :: u' :: ([] ++ ds)) H Q E := h
end
theorem wMkO {C : Addr} {sp : Sp} {dvs : List V} {ta : TA} {σ : L2.St} {H : Hp} {EK : XK} (h : ta σ H fun vs H1 => vs.length ≤ 1000 ∧ ∀ a, H1 a = none → sp (.ref a :: (vs ++ dvs)) (upd H1 a (exo a C none))
  (fun v H2 => v = .non ∧ ∃ (d : Addr) (fs : List (Str × V)), H2 a = some (exo a C (some d)) ∧ H2 d = some (exd d fs) ∧ H1 d = none ∧ EK (.ref C) (some d) (upd (del H2 a) d (.xd fs))) (fun _ _ _ => False)) : tMkO C sp dvs ta σ H EK := h
section
variable {x0 x1 x2 x3 x4 x5 x6 x7 x8 x9 x10 x11 x12 x13 x14 x15 x16 x17 x18 x19 x20 x21 x22 x23 x24 x25 x26 : Option V} {v : V} {ρ : L2.St} {H : Hp} {Q : VK} {N : L2.St → Hp → Prop}
theorem wV15 (h : Q v H) : tVar 15 (x0 :: x1 :: x2 :: x3 :: x4 :: x5 :: x6 :: x7 :: x8 :: x9 :: x10 :: x11 :: x12 :: x13 :: x14 :: some v :: ρ) H Q := ⟨v, rfl, h⟩
theorem wG15 (h : N (x0 :: x1 :: x2 :: x3 :: x4 :: x5 :: x6 :: x7 :: x8 :: x9 :: x10 :: x11 :: x12 :: x13 :: x14 :: some v :: ρ) H) : gName 15 v (x0 :: x1 :: x2 :: x3 :: x4 :: x5 :: x6 :: x7 :: x8 :: x9 :: x10 :: x11 :: x12 :: x13 :: x14 :: x15 :: ρ) H N := h
theorem wV16 (h : Q v H) : tVar 16 (x0 :: x1 :: x2 :: x3 :: x4 :: x5 :: x6 :: x7 :: x8 :: x9 :: x10 :: x11 :: x12 :: x13 :: x14 :: x15 :: some v :: ρ) H Q := ⟨v, rfl, h⟩
theorem wG16 (h : N (x0 :: x1 :: x2 :: x3 :: x4 :: x5 :: x6 :: x7 :: x8 :: x9 :: x10 :: x11 :: x12 :: x13 :: x14 :: x15 :: some v :: ρ) H) : gName 16 v (x0 :: x1 :: x2 :: x3 :: x4 :: x5 :: x6 :: x7 :: x8 :: x9 :: x10 :: x11 :: x12 :: x13 :: x14 :: x15 :: x16 :: ρ) H N := h
theorem wV17 (h : Q v H) : tVar 17 (x0 :: x1 :: x2 :: x3 :: x4 :: x5 :: x6 :: x7 :: x8 :: x9 :: x10 :: x11 :: x12 :: x13 :: x14 :: x15 :: x16 :: some v :: ρ) H Q := ⟨v, rfl, h⟩
theorem wG17 (h : N (x0 :: x1 :: x2 :: x3 :: x4 :: x5 :: x6 :: x7 :: x8 :: x9 :: x10 :: x11 :: x12 :: x13 :: x14 :: x15 :: x16 :: some v :: ρ) H) : gName 17 v (x0 :: x1 :: x2 :: x3 :: x4 :: x5 :: x6 :: x7 :: x8 :: x9 :: x10 :: x11 :: x12 :: x13 :: x14 :: x15 :: x16 :: x17 :: ρ) H N := h
theorem wV18 (h : Q v H) : tVar 18 (x0 :: x1 :: x2 :: x3 :: x4 :: x5 :: x6 :: x7 :: x8 :: x9 :: x10 :: x11 :: x12 :: x13 :: x14 :: x15 :: x16 :: x17 :: some v :: ρ) H Q := ⟨v, rfl, h⟩
theorem wG18 (h : N (x0 :: x1 :: x2 :: x3 :: x4 :: x5 :: x6 :: x7 :: x8 :: x9 :: x10 :: x11 :: x12 :: x13 :: x14 :: x15 :: x16 :: x17 :: some v :: ρ) H) : gName 18 v (x0 :: x1 :: x2 :: x3 :: x4 :: x5 :: x6 :: x7 :: x8 :: x9 :: x10 :: x11 :: x12 :: x13 :: x14 :: x15 :: x16 :: x17 :: x18 :: ρ) H N := h
theorem wV19 (h : Q v H) : tVar 19 (x0 :: x1 :: x2 :: x3 :: x4 :: x5 :: x6 :: x7 :: x8 :: x9 :: x10 :: x11 :: x12 :: x13 :: x14 :: x15 :: x16 :: x17 :: x18 :: some v :: ρ) H Q := ⟨v, rfl, h⟩
theorem wG19 (h : N (x0 :: x1 :: x2 :: x3 :: x4 :: x5 :: x6 :: x7 :: x8 :: x9 :: x10 :: x11 :: x12 :: x13 :: x14 :: x15 :: x16 :: x17 :: x18 :: some v :: ρ) H) : gName 19 v (x0 :: x1 :: x2 :: x3 :: x4 :: x5 :: x6 :: x7 :: x8 :: x9 :: x10 :: x11 :: x12 :: x13 :: x14 :: x15 :: x16 :: x17 :: x18 :: x19 :: ρ) H N := h
theorem wV20 (h : Q v H) : tVar 20 (x0 :: x1 :: x2 :: x3 :: x4 :: x5 :: x6 :: x7 :: x8 :: x9 :: x10 :: x11 :: x12 :: x13 :: x14 :: x15 :: x16 :: x17 :: x18 :: x19 :: some v :: ρ) H Q := ⟨v, rfl, h⟩
theorem wG20 (h : N (x0 :: x1 :: x2 :: x3 :: x4 :: x5 :: x6 :: x7 :: x8 :: x9 :: x10 :: x11 :: x12 :: x13 :: x14 :: x15 :: x16 :: x17 :: x18 :: x19 :: some v :: ρ) H) : gName 20 v (x0 :: x1 :: x2 :: x3 :: x4 :: x5 :: x6 :: x7 :: x8 :: x9 :: x10 :: x11 :: x12 :: x13 :: x14 :: x15 :: x16 :: x17 :: x18 :: x19 :: x20 :: ρ) H N := h
theorem wV21 (h : Q v H) : tVar 21 (x0 :: x1 :: x2 :: x3 :: x4 :: x5 :: x6 :: x7 :: x8 :: x9 :: x10 :: x11 :: x12 :: x13 :: x14 :: x15 :: x16 :: x17 :: x18 :: x19 :: x20 :: some v :: ρ) H Q := ⟨v, rfl, h⟩
theorem wG21 (h : N (x0 :: x1 :: x2 :: x3 :: x4 :: x5 :: x6 :: x7 :: x8 :: x9 :: x10 :: x11 :: x12 :: x13 :: x14 :: x15 :: x16 :: x17 :: x18 :: x19 :: x20 :: some v :: ρ) H) : gName 21 v (x0 :: x1 :: x2 :: x3 :: x4 :: x5 :: x6 :: x7 :: x8 :: x9 :: x10 :: x11 :: x12 :: x13 :: x14 :: x15 :: x16 :: x17 :: x18 :: x19 :: x20 :: x21 :: ρ) H N := h
theorem wV22 (h : Q v H) : tVar 22 (x0 :: x1 :: x2 :: x3 :: x4 :: x5 :: x6 :: x7 :: x8 :: x9 :: x10 :: x11 :: x12 :: x13 :: x14 :: x15 :: x16 :: x17 :: x18 :: x19 :: x20 :: x21 :: some v :: ρ) H Q := ⟨v, rfl, h⟩
theorem wG22 (h : N (x0 :: x1 :: x2 :: x3 :: x4 :: x5 :: x6 :: x7 :: x8 :: x9 :: x10 :: x11 :: x12 :: x13 :: x14 :: x15 :: x16 :: x17 :: x18 :: x19 :: x20 :: x21 :: some v :: ρ) H) : gName 22 v (x0 :: x1 :: x2 :: x3 :: x4 :: x5 :: x6 :: x7 :: x8 :: x9 :: x10 :: x11 :: x12 :: x13 :: x14 :: x15 :: x16 :: x17 :: x18 :: x19 :: x20 :: x21 :: x22 :: ρ) H N := h
theorem wV23 (h : Q v H) : tVar 23 (x0 :: x1 :: x2 :: x3 :: x4 :: x5 :: x6 :: x7 :: x8 :: x9 :: x10 :: x11 :: x12 :: x13 :: x14 :: x15 :: x16 :: x17 :: x18 :: x19 :: x20 :: x21 :: x22 :: some v :: ρ) H Q := ⟨v, rfl, h⟩
theorem wG23 (h : N (x0 :: x1 :: x2 :: x3 :: x4 :: x5 :: x6 :: x7 :: x8 :: x9 :: x10 :: x11 :: x12 :: x13 :: x14 :: x15 :: x16 :: x17 :: x18 :: x19 :: x20 :: x21 :: x22 :: some v :: ρ) H) : gName 23 v (x0 :: x1 :: x2 :: x3 :: x4 :: x5 :: x6 :: x7 :: x8 :: x9 :: x10 :: x11 :: x12 :: x13 :: x14 :: x15 :: x16 :: x17 :: x18 :: x19 :: x20 :: x21 :: x22 :: x23 :: ρ) H N := h
theorem wV24 (h : Q v H) : tVar 24 (x0 :: x1 :: x2 :: x3 :: x4 :: x5 :: x6 :: x7 :: x8 :: x9 :: x10 :: x11 :: x12 :: x13 :: x14 :: x15 :: x16 :: x17 :: x18 :: x19 :: x20 :: x21 :: x22 :: x23 :: some v :: ρ) H Q := ⟨v, rfl, h⟩
theorem wG24 (h : N (x0 :: x1 :: x2 :: x3 :: x4 :: x5 :: x6 :: x7 :: x8 :: x9 :: x10 :: x11 :: x12 :: x13 :: x14 :: x15 :: x16 :: x17 :: x18 :: x19 :: x20 :: x21 :: x22 :: x23 :: some v :: ρ) H) : gName 24 v (x0 :: x1 :: x2 :: x3 :: x4 :: x5 :: x6 :: x7 :: x8 :: x9 :: x10 :: x11 :: x12 :: x13 :: x14 :: x15 :: x16 :: x17 :: x18 :: x19 :: x20 :: x21 :: x22 :: x23 :: x24 :: ρ) H N := h
theorem wV25 (h : Q v H) : tVar 25 (x0 :: x1 :: x2 :: x3 :: x4 :: x5 :: x6 :: x7 :: x8 :: x9 :: x10 :: x11 :: x12 :: x13 :: x14 :: x15 :: x16 :: x17 :: x18 :: x19 :: x20 :: x21 :: x22 :: x23 :: x24 :: some v :: ρ) H Q := ⟨v, rfl, h⟩
theorem wG25 (h : N (x0 :: x1 :: x2 :: x3 :: x4 :: x5 :: x6 :: x7 :: x8 :: x9 :: x10 :: x11 :: x12 :: x13 :: x14 :: x15 :: x16 :: x17 :: x18 :: x19 :: x20 :: x21 :: x22 :: x23 :: x24 :: some v :: ρ) H) : gName 25 v (x0 :: x1 :: x2 :: x3 :: x4 :: x5 :: x6 :: x7 :: x8 :: x9 :: x10 :: x11 :: x12 :: x13 :: x14 :: x15 :: x16 :: x17 :: x18 :: x19 :: x20 :: x21 :: x22 :: x23 :: x24 :: x25 :: ρ) H N := h
theorem wV26 (h : Q v H) : tVar 26 (x0 :: x1 :: x2 :: x3 :: x4 :: x5 :: x6 :: x7 :: x8 :: x9 :: x10 :: x11 :: x12 :: x13 :: x14 :: x15 :: x16 :: x17 :: x18 :: x19 :: x20 :: x21 :: x22 :: x23 :: x24 :: x25 :: some v :: ρ) H Q := ⟨v, rfl, h⟩
theorem wG26 (h : N (x0 :: x1 :: x2 :: x3 :: x4 :: x5 :: x6 :: x7 :: x8 :: x9 :: x10 :: x11 :: x12 :: x13 :: x14 :: x15 :: x16 :: x17 :: x18 :: x19 :: x20 :: x21 :: x22 :: x23 :: x24 :: x25 :: some v :: ρ) H) : gName 26 v (x0 :: x1 :: x2 :: x3 :: x4 :: x5 :: x6 :: x7 :: x8 :: x9 :: x10 :: x11 :: x12 :: x13 :: x14 :: x15 :: x16 :: x17 :: x18 :: x19 :: x20 :: x21 :: x22 :: x23 :: x24 :: x25 :: x26 :: ρ) H N := h
end
theorem perm4 {A : Type} {a b c d r : A} {L : List A} : (a :: b :: c :: d :: r :: L).Perm (r :: a :: b :: c :: d :: L) := List.perm_middle (l₁ := [a, b, c, d])
end Z

set_option Elab.async false
set_option linter.all false
set_option maxRecDepth 100000
set_option maxHeartbeats 2000500
/-! ### t[::-1] of a tuple -/
namespace Z
open PySem PySem.Spec PyProof.Rows L2 HT
section
variable {prog : Program} {w : World} {A :
      Around} {E : Value → Shared → Prop} {s : Shared}
theorem adjust_rev (n : Nat) : Builtin.Slice.sliceAdjust none none (-1) (n : Int) = ((n : Int) - 1, -1) := by
  unfold
        Builtin.Slice.sliceAdjust
  simp
theorem places_rev (n : Nat) : Builtin.Slice.slicePlaces ((n : Int) - 1) (-1) (-1) = n := by
  unfold
        Builtin.Slice.slicePlaces
  have h1 : ¬ ((-1 : Int) > 0) := by omega
  simp only [h1, if_false, Int.neg_neg, Int.ediv_one]
  split <;> omega
theorem sliceApplied_rev {sl : Addr} {vs : Value} {n : Nat} {Q : Int × Int × Nat → Shared → Prop} (hs : s.heap.IsSliceOf sl .none .none vs) (ps : IsPart vs (some (-1)))
    (h : Q ((n : Int) - 1, -1, n) s) : wpAny (model prog w) A (Builtin.Slice.sliceApplied (.ref sl) (pure (n : Int))) Q E s := by
  obtain ⟨os, hos,
        hcs, hds⟩ := id hs
  unfold Builtin.Slice.sliceApplied
        Builtin.Slice.sliceFields
  refine wpAny_bind (wpAny_bind (wpAny_field hos hds (x := .none) rfl (wpAny_bind (wpAny_field hos hds (x := .none) rfl (wpAny_bind (wpAny_field hos hds (x := vs) rfl (wpAny_pure ?_)))))))
  refine wpAny_bind (slicePart_ ps ?_)
  show wpAny _ _ (if ((-1 : Int) == 0) = true then _ else _) _ _ s
  rw [if_neg (by decide)]
  refine wpAny_bind (slicePart_none (wpAny_bind (slicePart_none (wpAny_bind (wpAny_pure ?_)))))
  show wpAny _ _ (match Builtin.Slice.sliceAdjust none none (-1) (n : Int) with | (lo, hi) => pure (lo, (-1 : Int), Builtin.Slice.slicePlaces lo hi (-1))) _ _ s
  rw [adjust_rev]
  show wpAny _ _ (pure ((n : Int) - 1, (-1 : Int), Builtin.Slice.slicePlaces ((n : Int) - 1) (-1) (-1))) _ _ s
  rw [places_rev]
  exact wpAny_pure h
theorem fmap_map {α β : Type} {f : α → Option β} {g : α → β} : ∀ {l : List α}, (∀ x ∈ l, f x = some (g x)) → l.filterMap f = l.map g
  | [], _ => rfl
  | x :: r, h => by
    rw [List.filterMap_cons, h x List.mem_cons_self, List.map_cons]
    show _ :: _ = _ :: _
    rw [fmap_map fun y hy => h y (List.mem_cons_of_mem _ hy)]
theorem pick_rev (xs : Array Value) : ((List.range xs.size).filterMap fun (m : Nat) => xs[((xs.size : Int) - 1 + (m : Int) * -1).toNat]?).toArray = xs.toList.reverse.toArray := by
  congr 1
  apply List.ext_getElem?
  intro j
  have e : (List.range xs.size).filterMap (fun (m : Nat) => xs[((xs.size : Int) - 1 + (m : Int) * -1).toNat]?) = (List.range xs.size).map (fun m => xs.toList.reverse.getD m .none) := by
    refine fmap_map fun m hm => ?_
    have hm := List.mem_range.mp hm
    have e1 : ((xs.size : Int) - 1 + (m : Int) * -1).toNat = xs.size - 1 - m := by omega
    rw [e1]
    show xs[xs.size - 1 - m]? = some (xs.toList.reverse.getD m .none)
    rw [← Array.getElem?_toList, List.getD_eq_getElem?_getD, List.getElem?_reverse (by simpa using hm)]
    have hl : xs.toList.length - 1 - m < xs.toList.length := by rw [Array.length_toList]; omega
    rw [Array.length_toList, List.getElem?_eq_getElem (by rw [Array.length_toList]; omega)]
    rfl
  rw [e, List.getElem?_map]
  by_cases hj : j < xs.size
  · rw [List.getElem?_range hj]
    have hl : j < xs.toList.reverse.length := by rw [List.length_reverse, Array.length_toList]; exact hj
    rw [List.getElem?_eq_getElem hl]
    show some (xs.toList.reverse.getD j .none) = _
    rw [List.getD_eq_getElem?_getD, List.getElem?_eq_getElem hl]
    rfl
  · rw [List.getElem?_eq_none (by rw [List.length_range]; omega), List.getElem?_eq_none (by rw [List.length_reverse, Array.length_toList]; omega)]
    rfl
theorem getItem_tuple_rev {t sl : Addr} {items : Array Value} {vs : Value} {Q : Value → Shared → Prop} (ht : IsTup s.heap t items) (hs : s.heap.IsSliceOf sl .none .none vs) (ps : IsPart vs (some (-1)))
    (h : Q (.ref s.heap.objs.size) { s with heap := s.heap.push { cls := .type "tuple", data := .seq items.toList.reverse.toArray } })
    (hsz : items.size ≤ sizeLine) : wpAny (model prog
          w) A (getItem (.ref t) (.ref sl)) Q E s := by
  have htake : sizeOk (.seq items.toList.reverse.toArray) := by
    show items.toList.reverse.toArray.size ≤ sizeLine
    rw [List.size_toArray, List.length_reverse, Array.length_toList]
    exact hsz
  obtain ⟨os, hos,
        hcs, hds⟩ := id hs
  have hTs : s.TypeIs (.ref sl)
        "slice" := ⟨os, hos, hcs⟩
  unfold getItem
  try (with_reducible refine wpAny_holding ?_)
  first | (refine wpAny_bind (wpAny_pure ?_)) | skip
  refine wpAny_bind (wpAny_sequenceKey
        ht.typeIs (by decide) ?_)
  refine wpAny_bind (wpAny_callSpecial?_slot (name := Str.ofString
        "__getitem__") ht.typeIs PyProof.Rows.slot_tuple_getitem
    (wpAny_call_entry PyProof.Rows.slot_tuple_getitem
          ht.typeIs entry_tuple_getitem ?_ (args_tuple_getitem _ _)))
  show wpAny _ _ (Builtin.Tuple.tupleItemsOf
        (.ref t) >>= _) _ _ s
  refine wpAny_bind
        (tupleItemsOf_ ht ?_)
  refine wpAny_bind
        (wpAny_typeOf hTs ?_)
  rw [if_pos (by decide)]
  refine wpAny_bind (sliceApplied_rev hs ps ?_)
  show wpAny _ _ (if (((items.size : Int) - 1) == 0 && (-1 : Int) == 1 && items.size == items.size) = true then _ else _) _ _ s
  rw [if_neg (by simp), pick_rev]
  first
    | exact wpAny_bind (m := Builtin.Tuple.tupleExact _)
          (wpAny_newObj_type (wpAny_pure ⟨_, rfl, wpAny_pure h⟩) htake)
    | exact wpAny_bind (m := Builtin.Tuple.tupleExact _) (wpAny_newObj_type
          (wpAny_bind (wpAny_pure (wpAny_pure ⟨_, rfl, wpAny_pure h⟩))) htake)
    | exact wpAny_bind (wpAny_bind (m := Builtin.Tuple.tupleExact _)
          (wpAny_newObj_type (wpAny_pure (wpAny_pure ⟨_, rfl, wpAny_pure h⟩)) htake))
    | exact wpAny_bind (wpAny_bind (m := Builtin.Tuple.tupleExact _)
          (wpAny_newObj_type (wpAny_pure ⟨_, rfl, wpAny_pure h⟩) htake))
end
section
variable {X : Cx}
/-- x[::-1] of a list or of a tuple -/
def tRevS (K : PySem.W.Frag) (te : TE) : TE := fun σ H Q => te σ H fun x H1 => ∃ a xs, x = .ref a ∧ ((SqL K H1 a xs ∧ ∀ p, H1 p = none → Q (.ref p) (upd H1 p (.lst xs.reverse))) ∨ (SqT K H1 a xs ∧ ∀ p, H1 p = none → Q (.ref p) (upd H1 p (.tup xs.reverse))))
theorem pe_revS {e : Expr} {te : TE} {k : Nat} {p1 p2 p3 pos : Pos} (he : PE X e te) : PE X (.Subscript e (.Slice none none (some (.UnaryOp .USub (.Constant (.int 1) k p1) p2)) p3) pos) (tRevS X.K te) := by
  refine ⟨fun pins
        s σ H Q I h => ?_⟩
  refine Subscript_ (thn (he.run pins s σ H
        _ I h) fun v s1 ⟨x, H1, I1, r1, q1⟩ => ?_)
  obtain ⟨a, xs, ex, q⟩ := q1
  subst ex
  cases r1
  have hst : PO X (some (.UnaryOp .USub (.Constant (.int 1) k p1) p2)) (tPart
        (tUn (rU fun i => .int (-i)) (tC (.int 1)))) := po_some (pe_un un_neg pe_int)
  refine wpAny_Slice (thn (po_none.run pins s1 σ H1 (fun o H2 => o = none
        ∧ H2 = H1) I1 ⟨rfl, rfl⟩) fun vl s2 ⟨l, H2, I2, pl, el, e2⟩ => ?_)
  subst el e2
  refine thn (po_none.run pins s2 σ H2 (fun o H3 => o = none ∧ H3
        = H2) I2 ⟨rfl, rfl⟩) fun vu s3 ⟨u, H3, I3, pu, eu, e3⟩ => ?_
  subst eu e3
  refine thn (hst.run pins s3 σ H3 (fun o H4 => o = some (-1) ∧ H4 = H3)
        I3 ⟨1, rfl, -1, rfl, rfl, rfl⟩) fun vs s4 ⟨o, H4, I4, ps, eo, e4⟩ => ?_
  subst eo e4
  have I5 : Inv X pins σ H4 {
        s4 with heap := s4.heap.push { cls := .type "slice", data := .fields #[vl, vu, vs] } } := I4.kept (t' := s4.toks) fun b ob q => Heap.get?_push_of_some _ q
  rcases q with ⟨hx, q⟩ | ⟨hx, q⟩
  · obtain ⟨its, r, ht, hz⟩ := I5.list hx
    have hlen := r.length
    show wpAny (model X.prog X.w) X.A (subscriptTail e (.Slice none none (some (.UnaryOp .USub (.Constant (.int 1) k p1) p2)) p3) (.ref a)
          (.ref s4.heap.objs.size)) (EP X pins σ Q) X.xe { s4 with heap := s4.heap.push { cls := .type "slice", data := .fields #[vl, vu, vs] } }
    refine tail_any (ops := [.ref a, .ref s4.heap.objs.size]) ht.isList.typeIs
          (PySem.slot_list_getitem.lookup) ?_ (by with_unfolding_all rfl)
    refine wpAny_getItem_list_slice ht.isList (Heap.IsSliceOf.new _ vl
          vu vs) pl pu ps (by decide) ?_ (by rw [List.size_toArray]; omega)
    rw [PySem.W.krv_pick]
    refine ⟨.ref _, _, I5.laid (t' := s4.toks) (o := .lst xs.reverse) (fun b ob q =>
          Heap.get?_push_of_some _ q) (Nat.le_refl _) ?_, rfl, q _ (I5.hok.fresh (Nat.le_refl _))⟩
    exact ⟨by rw [List.length_reverse]; exact hz,
          _, 0, r.reverse, Heap.get?_push_size _ rfl⟩
  · obtain ⟨its, r, ht, hz⟩ := I5.tuple hx
    have hlen := r.length
    cases pl
    cases pu
    show wpAny (model X.prog X.w) X.A (subscriptTail e (.Slice none none (some (.UnaryOp .USub (.Constant (.int 1) k p1) p2)) p3) (.ref a) (.ref s4.heap.objs.size)) (EP X pins σ Q) X.xe { s4 with heap := s4.heap.push { cls := .type "slice", data := .fields #[.none, .none, vs] } }
    refine tail_any (ops := [.ref a, .ref s4.heap.objs.size]) ht.typeIs (PyProof.Rows.slot_tuple_getitem.lookup) ?_ (by with_unfolding_all rfl)
    refine getItem_tuple_rev ht (Heap.IsSliceOf.new _ .none .none vs) ps ?_ (by rw [List.size_toArray]; omega)
    refine ⟨.ref _, _, I5.laid (t' := s4.toks) (o := .tup xs.reverse) (fun b ob q => Heap.get?_push_of_some _ q) (Nat.le_refl _) ?_, rfl, q _ (I5.hok.fresh (Nat.le_refl _))⟩
    exact ⟨by rw [List.length_reverse]; exact hz, _, r.reverse, IsTup.new _ _⟩
end
end Z
/-! ### tuple(reversed(t)) of a tuple -/
namespace Z
open PySem PySem.Spec PyProof.Rows RT
theorem nolen_rt : typeLookup (.type "reversed") "__len__" = pure none := by rw [typeLookup_type, builtinLookup_eq_fast]; kernel_rfl
theorem hint_rt : typeLookup (.type "reversed") "__length_hint__" = pure (some (.builtin "reversed.__length_hint__")) := by rw [typeLookup_type, builtinLookup_eq_fast]; kernel_rfl
theorem slot_rt_hint : Slot "reversed" (Str.ofString "__length_hint__") "reversed.__length_hint__" := by
  refine Slot.of (owner := "reversed") (n := "__length_hint__") hint_rt ?_ ?_ ?_ (Or.inr ?_) ?_ ?_
  all_goals first | (rw [isSubtype_type]; kernel_rfl) | kernel_rfl | decide +kernel
theorem entry_rt_hint : entryFor table "reversed.__length_hint__" = some Builtin.«reversed.__length_hint__» := entryFor_of_tree (by kernel_rfl)
theorem args_rt_hint (a : Value) : argsOk "reversed.__length_hint__" { pos := [a] } := by
  show (match Manifest.signature? "reversed.__length_hint__" with | some sig => Bind.checkArgs "reversed.__length_hint__" sig { pos := [a] } | none => pure ()) = pure ()
  rw [signature?_of (n := "__length_hint__".toList.reverse) (o := "reversed".toList.reverse) (by kernel_rfl) RT.owner_rt]
  kernel_rfl
section
variable {prog : Program} {w : World} {A :
      Around} {E : Value → Shared → Prop} {s : Shared}
theorem call_hint_rt {it l : Addr} {items : Array Value} {Q : Value → Shared → Prop} (hit : IsRt s.heap it l ((items.size : Int) - 1)) (hl : IsTup s.heap l items) (hn : items.size ≤ sizeLine)
    (hQ : ∀ tk tk', Q (.int (items.size : Int) tk) { s with toks := tk' }) :
    wpAny (model prog w) A (call (.builtin "reversed.__length_hint__") [.ref it]) Q E s := by
  refine wpAny_call_entry slot_rt_hint hit.typeIs entry_rt_hint ?_ (args_rt_hint _)
  obtain ⟨o, ho,
        hc, hd⟩ := id hit
  unfold Builtin.«reversed.__length_hint__»
  have hz : ((items.size : Nat) : Int) < 2 ^ 63 := by
    have : sizeLine < 2 ^ 63 := by decide +kernel
    omega
  wp_walk using wpAny_field ho hd (i := 0) (x := .ref l) rfl, wpAny_field ho hd (i := 1) (x := rawInt ((items.size : Int) - 1)) rfl, len_tuple hl hz
  rw [hd]
  wp_walk
  rw [show ((items.size : Int) - 1) + 1 = items.size from by omega]
  exact ⟨_, rfl, hQ _ _⟩
end
theorem Walks.tupRev {prog : Program} {w : World} {A : Around} (hh : A.handled = none) (I l : Addr) (hne : l ≠ I) (items : Array Value) (hz : items.size ≤ sizeLine) :
    Walks prog w A I [I, l] [I] items.size (fun i v => items[items.size - 1 - i]? = some v) (fun i h => i ≤ items.size ∧ IsRt h I l ((items.size : Int) - 1 - (i : Int)) ∧ IsTup h l items) where
  sub := fun b hb => by
    simp at hb; simp [hb]
  frame := fun _ _ _ x hk => ⟨x.1, x.2.1.at fun o e => hk I (by simp) o e, by
    obtain ⟨o, ho, r⟩ := x.2.2
    exact ⟨o, hk l (by simp) o ho, r⟩⟩
  item := fun i s
        Q E hi x hQ => by
    have e : (items.size : Int) - 1 - (i : Int) =
          ((items.size - 1 - i : Nat) : Int) := by omega
    have hit := x.2.1
    rw [e] at hit
    have hx : items[items.size - 1 - i]? = some (items[items.size - 1 - i]'(by
          omega)) := Array.getElem?_eq_getElem (by omega)
    refine next_rt_item hit x.2.2 hx hz fun h' hit' hs' => ?_
    have e2 : ((items.size - 1 - i : Nat) : Int) - 1 = (items.size : Int) - 1 -
          ((i + 1 : Nat) : Int) := by omega
    rw [e2] at hit'
    refine hQ _ h' (s.toks + 1) hx ⟨hi, hit', ?_⟩ fun b o hb eo => hs'.extBut b o (fun h => hb (by simp [h])) eo
    obtain ⟨o, ho, r⟩ := x.2.2
    exact ⟨o, (hs'.2 l hne).trans ho, r⟩
  done := fun s Q E x hQ => by
    have e : (items.size : Int) - 1 -
          (items.size : Int) = -1 := by omega
    have hit := x.2.1
    rw [e] at hit
    exact next_rt_end hh hit fun h' he' => hQ h' s.toks fun b o hb eo => he' b o (fun h => hb (by simp [h])) eo
  self := fun _ _ _ _ x hQ => iter_rt x.2.1 hQ
section
variable {prog : Program} {w : World} {A :
      Around} {E : Value → Shared → Prop} {s : Shared}
theorem fits_size {n : Nat} (hn : n ≤ sizeLine) : Builtin.List.listFitsIndex (n : Int) = true := by
  have : sizeLine < 2 ^ 63 := by decide +kernel
  unfold
        Builtin.List.listFitsIndex
  rw [Bool.and_eq_true,
        decide_eq_true_eq, decide_eq_true_eq]
  omega
theorem notlong_size {n : Nat} (hn : n ≤ sizeLine) : Builtin.List.listTooLong (n : Int).toNat = false := by
  unfold
        Builtin.List.listTooLong
  rw [decide_eq_false_iff_not]
  omega
theorem hint_wp {it l : Addr} {items : Array Value} {Q : Bool → Shared → Prop} (hit : IsRt s.heap it l ((items.size : Int) - 1)) (hl : IsTup s.heap l items) (hn : items.size ≤ sizeLine)
    (hQ : ∀ b tk', Q b { s with toks := tk' }) :
    wpAny (model prog w) A (Builtin.List.listLengthHint (.ref it)) Q E s := by
  have hT : s.TypeIs (.ref it) "reversed" := hit.typeIs
  unfold
        Builtin.List.listLengthHint
  refine wpAny_bind (wpAny_specialOf hT nolen_rt ?_)
  show wpAny _ A (specialOf (Value.ref it) (Str.ofString "__length_hint__") >>= _) _ _ _
  refine wpAny_bind (wpAny_specialOf hT hint_rt ?_)
  generalize hid : ("reversed.__length_hint__" : String) = id0
  wp_delta
  rw [show splitId id0 = some ("reversed", "__length_hint__") from by subst hid; decide +kernel]
  subst hid
  refine wpAny_bind (wpAny_isInstance (b := true)
        hT (by rw [isSubtype_type]; kernel_rfl) ?_)
  rw [if_neg (by decide)]
  rw [if_neg (by
        decide +kernel)]
  refine wpAny_bind
        (wpAny_rule ?_)
  rw [slot_rt_hint.bind]
  refine wpAny_bind
        (wpAny_pure ?_)
  refine wpAny_bind (wpAny_attempt (call_hint_rt hit hl hn fun tk tk' => ?_))
  have hfit := fits_size hn
  have hlong := notlong_size hn
  have hneg : ¬ (items.size : Int) < 0 := by omega
  generalize (items.size : Int) = nn at hfit hlong hneg ⊢
  dsimp only
  rw [asInt?.eq_1]
  refine wpAny_bind
        (wpAny_pure ?_)
  dsimp only
  rw [hfit, hlong]
  rw [if_neg (by decide), if_neg hneg, if_neg (by decide)]
  exact wpAny_pure (hQ _ _)
theorem collect_revT {it l : Addr} {items : Array Value} {Q : List Value → Shared → Prop} (hh : A.handled = none) (hit : IsRt s.heap it l ((items.size : Int) - 1)) (hl : IsTup s.heap l items) (hne : l ≠ it) (hn : items.size ≤ sizeLine)
    (hQ : ∀ (h' : Heap) (tk : Nat) (acc : Array Value), (∀ b o, b ≠ it → s.heap.get? b = some o → h'.get? b = some o) →
          ItemsOf (fun i v => items[items.size - 1 - i]? = some v) acc items.size → Q acc.toList { s with heap := h', toks := tk }) :
    wpAny (model prog w) A (collect
          (.ref it)) Q E s := by
  have W := (Walks.tupRev (prog := prog) (w := w) (A := A.in1) hh it l hne items hn).toS
  obtain ⟨oi, hoi, _⟩ := id hit
  obtain ⟨ol, hol, hrl⟩ := id hl
  have hSi : s.heap.objs.size ≠ it :=
        Nat.ne_of_gt (Heap.lt_size hoi)
  have hSl : s.heap.objs.size ≠ l :=
        Nat.ne_of_gt (Heap.lt_size hol)
  have hSf : s.heap.objs.size ∉ [it, l] := by
    simp only [List.mem_cons, List.not_mem_nil, or_false, not_or]; exact ⟨hSi, hSl⟩
  unfold collect
  refine wpAny_bind (wpAny_runValue (codeAny_builtin
        F.entry_proto_collect ?_))
  rw [Around.under_plainId
        F.plain_proto_collect _]
  show wpAny _ A.in1 (newList [] >>= fun l' =>
    again (.builtin "list.__iadd__" ⟨[l', .ref it], []⟩)) _ _ s
  refine wpAny_bind
        (wpAny_newObj_type ?_)
  refine wpAny_pure ⟨plainId_quiet F.plain_list_iadd _,
        codeAny_builtin F.entry_list_iadd ?_⟩
  rw [Around.under_plainId
        F.plain_list_iadd _]
  have hS₁ : (s.heap.push { cls := .type "list", data := .seq ([] : List Value).toArray }).get? s.heap.objs.size =
      some { cls := .type "list", data := .seq ([] : List Value).toArray } := Heap.get?_push_size _ rfl
  have hit1 : IsRt (s.heap.push { cls := .type "list", data := .seq ([] : List Value).toArray }) it l ((items.size : Int) - 1) := hit.at fun o e => Heap.get?_push_of_some _ e
  have hl1 : IsTup (s.heap.push { cls := .type "list", data := .seq ([] : List Value).toArray }) l items := ⟨ol, Heap.get?_push_of_some _ hol, hrl⟩
  have hT : ({ s with heap := s.heap.push { cls := .type "list", data := .seq ([] : List Value).toArray } } : Shared).TypeIs (.ref it) "reversed" := IsRt.typeIs (s := { s with heap := s.heap.push { cls := .type "list", data := .seq ([] : List Value).toArray } }) hit1
  have h1 : Builtin.List.listSameRef (.ref s.heap.objs.size) (.ref it) = false := by
    simp [Builtin.List.listSameRef, hSi]
  show wpAny _ A.in1 (Builtin.List.listExtendWith (.ref s.heap.objs.size)
        (.ref it) (.ref s.heap.objs.size)) _ _ _
  unfold
        Builtin.List.listExtendWith
  refine wpAny_bind
        (wpAny_typeOf hT ?_)
  rw [if_neg (show ¬ _ = true by rw [h1]; decide)]
  refine wpAny_bind (iter_rt (s := { s with heap := s.heap.push { cls := .type "list", data := .seq ([] : List Value).toArray } }) hit1 ?_)
  refine wpAny_bind
        (wpAny_holding ?_)
  have e0 : ((items.size : Nat) : Int) - 1 - ((0 : Nat) : Int) =
        (items.size : Int) - 1 := by omega
  have key : ∀ (R : Result → Shared → Prop) (h2 : Heap) (c tk2 : Nat), h2.get? s.heap.objs.size = some { cls := .type "list", data := .seq #[] c } →
      (∀ b o, b ≠ s.heap.objs.size → s.heap.get? b = some o → h2.get? b = some o) →
      (∀ (h' : Heap) (tk3 c' : Nat) (acc : Array Value), h'.get? s.heap.objs.size = some { cls := .type "list", data := .seq acc c' } →
        (∀ b o, b ≠ it → s.heap.get? b = some o → h'.get? b = some o) → ItemsOf (fun i v => items[items.size - 1 - i]? = some v) acc items.size → R (Except.ok (Flow.ret (.ref s.heap.objs.size))) { s with heap := h', toks := tk3 }) →
      codeAny (model prog w) A (.builtin "list.extend.loop" { pos := [.ref s.heap.objs.size, .ref it, .ref s.heap.objs.size] }) R { s with heap := h2, toks := tk2 } := by
    intro R h2 c tk2 g2 f2 hR
    have g3 : ({ s with heap := h2, toks := tk2 } : Shared).heap.get? s.heap.objs.size = some { cls := .type "list", data := .seq #[] c } := g2
    refine codeAny_extend_loopS W hn _ hSf _ items.size 0 _ _ _ rfl (Nat.zero_le _) ⟨Nat.zero_le _, ?_, ?_⟩ g3 (ItemsOf.nil _) fun s' acc' c' hm hS' hacc => ?_
    · rw [e0]
      obtain ⟨o9, h9, r9⟩ := hit
      exact ⟨o9, f2 _ _ (Ne.symm hSi) h9, r9⟩
    · exact ⟨ol, f2 _ _ (Ne.symm hSl) hol, hrl⟩
    have em := Moved.eq_with hm
    have frame : ∀ b o, b ≠ it → s.heap.get? b = some o → s'.heap.get? b = some o := fun b o hb e => hm.heap b o (fun hmem => by
      rcases List.mem_cons.mp
            hmem with e' | hmem
      · exact absurd (Heap.lt_size e)
            (by rw [e']; exact Nat.lt_irrefl _)
      · exact hb (List.mem_singleton.mp hmem)) (f2 b o (fun e' => absurd (Heap.lt_size e) (by rw [e']; exact Nat.lt_irrefl _)) e)
    rw [em]
    exact hR s'.heap s'.toks c' acc' hS' frame hacc
  refine hint_wp hit1 hl1 hn fun b tk' => ?_
  have fin : ∀ (h2 : Heap) (c : Nat), h2.get? s.heap.objs.size = some { cls := .type "list", data := .seq #[] c } →
      (∀ b o, b ≠ s.heap.objs.size → s.heap.get? b = some o → h2.get? b = some o) →
      codeAny (model prog w) A (.builtin "list.extend.loop" { pos := [.ref s.heap.objs.size, .ref it, .ref s.heap.objs.size] })
        (fun r s' => match r with
          | Except.ok (Flow.ret v) => wpAny (model prog w) A (match v with
            | .ref a => load a >>= fun o => match o.data with
              | .seq xs _ => pure xs.toList
              | _ => unsupported
                    "internal:collect"
            | _ => unsupported "internal:collect") Q E s'
          | Except.ok _ => False
          | Except.error e => E e s') { s with heap := h2, toks := tk' } := by
    intro h2 c g2 f2
    refine key _ h2 c tk' g2 f2 fun h' tk3 c' acc g3 f3 hacc => ?_
    show wpAny (model prog w) A (load s.heap.objs.size >>= _) _ _ _
    refine wpAny_bind (wpAny_load g3 ?_)
    exact wpAny_pure (hQ h' tk3 acc f3 hacc)
  have f1 : ∀ b o, b ≠ s.heap.objs.size → s.heap.get? b = some o → (s.heap.push { cls := .type "list", data := .seq ([] : List Value).toArray }).get? b = some o := fun b o _ e => Heap.get?_push_of_some _ e
  rw [show (Bool.or b _) = b from ?hb]
  case hb => exact Bool.or_false b
  cases b
  · rw [if_neg (by decide)]
    exact wpAny_pure ⟨plainId_quiet F.plain_extend_loop _, fin _ _ hS₁ f1⟩
  · rw [if_pos rfl]
    refine wpAny_bind
          (wpAny_rule ?_)
    unfold Builtin.List.listTouch
    refine wpAny_bind (wpAny_bind (wpAny_updateSeq hS₁ rfl ?_))
    have g2 := Heap.get?_update_self (f := Obj.mapSeq fun x => x.push Value.none) hS₁ rfl
    refine wpAny_updateSeq g2 rfl ?_
    have g3 := Heap.get?_update_self (f := Obj.mapSeq fun x => x.pop) g2 rfl
    exact wpAny_pure ⟨plainId_quiet F.plain_extend_loop _, fin _ _ g3 fun b o hb e => Heap.get?_update_of_ne _ (Ne.symm hb) (Heap.get?_update_of_ne _ (Ne.symm hb) (f1 b o hb e))⟩
theorem code_tuple_new_revT {it l : Addr} {items : Array Value} {Q₁ : Value → Shared → Prop} (hh : A.handled = none) (hit : IsRt s.heap it l ((items.size : Int) - 1)) (hl : IsTup s.heap l items) (hne : l ≠ it) (hn : items.size ≤ sizeLine)
    (h : ∀ (h' : Heap) (tk : Nat) (acc : Array Value), (∀ b o, b ≠ it → s.heap.get? b = some o →
          h'.get? b = some o) → ItemsOf (fun i v => items[items.size - 1 - i]? = some v) acc items.size →
      Q₁ (.ref h'.objs.size) {
            s with heap := h'.push { cls := .type "tuple", data := .seq acc }, toks := tk }) :
    codeAny (model prog w) A (.call (.builtin "tuple.__new__")
          ⟨[.type "tuple", .ref it], []⟩) (wants Q₁ E) s := by
  refine codeAny_of_tree ?_
  show wpAny _ A.in1 (checkBuiltinCall "tuple.__new__" ⟨[.type "tuple", .ref it], []⟩ >>= fun _ =>
    again (.builtin "tuple.__new__" ⟨[.type "tuple", .ref it], []⟩)) _ _ s
  refine wpAny_bind (wpAny_of_eq (F.newCall_tuple_1 _) (wpAny_pure ⟨plainId_quiet
        F.plain_tuple_new _, codeAny_builtin F.entry_tuple_new ?_⟩))
  rw [Around.under_plainId
        F.plain_tuple_new _]
  have hsub := sub_tuple_self
  have hinit :=
        init_tuple_lookup
  have hmh := madeHere_tuple
  have hTI : s.TypeIs (.ref it) "reversed" := hit.typeIs
  have hh1 : A.in1.handled
        = none := hh
  wp_walk using wpAny_typeOf hTI, collect_revT (A := A.in1) hh1 hit hl hne hn
  intro h' tk acc hk hacc
  show wpAny _ _ (Builtin.Tuple.tupleExact acc.toList.toArray
        >>= fun v => ret v) _ _ _
  unfold
        Builtin.Tuple.tupleExact
  have hza : acc.toList.toArray.size ≤ sizeLine := by
    simp only [Array.toArray_toList]; rw [hacc.1]; exact hn
  refine wpAny_bind (wpAny_newObj_type ?_ hza)
  refine wpAny_pure ?_
  have e : acc.toList.toArray
        = acc := by simp
  rw [e]
  exact h h' tk acc
        hk hacc
theorem call_tuple_revT {it l : Addr} {items : Array Value} {Q : Value → Shared → Prop} (hh : A.handled = none) (hit : IsRt s.heap it l ((items.size : Int) - 1)) (hl : IsTup s.heap l items) (hne : l ≠ it) (hn : items.size ≤ sizeLine)
    (hQ : ∀ (h' : Heap) (tk : Nat) (acc : Array Value), (∀ b o, b ≠ it → s.heap.get? b = some o →
          h'.get? b = some o) → ItemsOf (fun i v => items[items.size - 1 - i]? = some v) acc items.size →
      Q (.ref h'.objs.size) {
            s with heap := h'.push { cls := .type "tuple", data := .seq acc }, toks := tk }) :
    wpAny (model prog w) A (call (.type
          "tuple") [.ref it]) Q E s := by
  refine callType_codes (Q₁ := fun obj s₁ => s₁.TypeIs obj "tuple" ∧ Q obj s₁)
        F.called_tuple (F.typeCall_tuple_1 _) F.entry_object_init
    (code_tuple_new_revT (A := A.in1) hh hit hl hne hn fun h' tk acc hk hacc => ⟨⟨_, Heap.get?_push_size _ rfl, rfl⟩, hQ h' tk acc hk hacc⟩) fun obj s₁ h₁ => ?_
  exact ⟨h₁.1, F.args_object_init_2 obj _, object_init_meets F.called_tuple.init.lookup F.called_tuple.made
        (by decide) prog w A.in1 _ s₁ ⟨h₁.1, rfl, h₁.2⟩⟩
end
end Z

set_option Elab.async false
set_option linter.all false
set_option maxRecDepth 100000
set_option maxHeartbeats 2000500
/-! ### t * 1 of a tuple: the same tuple -/
namespace Z
open PySem PySem.Spec PyProof.Rows L2 HT
theorem tuple_mul1 (l : Addr) (items : Array Value) (n : Nat) (dd : Option Addr) (sl : Array (Option Value)) (x : Int) (u : Tok)
    (c0 : (decide (x < -2 ^ 63) || decide (x ≥ 2 ^ 63)) = false) (c1 : (items.isEmpty || x == 1) = true) :
    Meets (Builtin.«tuple.__mul__» { pos := [Value.ref l, Value.int x u] }) fun _ R s =>
      s.heap.get? l = some { cls := Value.type "tuple", dict := dd, data := Data.seq items n, slots := sl } ∧ R (Except.ok (Flow.ret (Value.ref l))) s :=
  Meets.of_wp fun prog w A R s h => by
    obtain ⟨hp, g,
          d, tk, os⟩ := s
    obtain ⟨hl, h⟩ := h
    have f1 := AutoSeq1.idx_int
    have hT : (⟨hp, g, d, tk, os⟩ : Shared).TypeIs (.ref l) "tuple" := ⟨_, hl, rfl⟩
    wp_walk
    rw [if_neg (by rw [c0]; decide)]
    refine wpAny_bind (tupleItemsOf_ (items := items) ⟨_, hl, rfl, _, rfl⟩ ?_)
    rw [if_pos c1]
    unfold Builtin.Tuple.tupleIsExact
    wp_walk using wpAny_typeOf hT
    exact ⟨_, rfl, h⟩
/-- t * k of a tuple that is not empty, k at least 1 -/
def rRep1 (K : PySem.W.Frag) : R2 := fun x y H Q => ∃ l k xs, x = .ref l ∧ y = .int k ∧ SqT K H l xs ∧ xs ≠ [] ∧ 1 ≤ k ∧ k ≤ 1000 ∧ xs.length ≤ 1000 ∧
  (k = 1 → Q (.ref l) H) ∧ (k ≠ 1 → ∀ p, H p = none → Q (.ref p) (upd H p (.tup (List.replicate k.toNat xs).flatten)))
theorem op_rep1 {X : Cx} : OpR X (binaryOp Operator.Mult) (rRep1 X.K) := by
  intro pins s σ H x
        y v u Q I rx ry h
  obtain ⟨l, k, xs, ex, ey, hT, hne, h1, h2, hz, q1, q2⟩ := h
  by_cases hk : k = 1
  · subst ex ey
    cases rx
    obtain ⟨t, e⟩ := ry
    subst e hk
    obtain ⟨its, r, ht, hs⟩ := I.tuple hT
    obtain ⟨⟨cls, dd, data, sl⟩,
          ho, hc, n, hd⟩ := id ht
    dsimp only at hc hd
    subst hc hd
    refine wpAny_binaryOp_repeat_ref (by decide) ⟨_, ho, rfl⟩ (fun s' => typeIs_int s' 1 t) noFill_tuple_mul F.fills_int_mul F.slot_int_rmul repeat_tuple F.slot_int_index.lookup ?_
    refine call_meets F.slot_int_rmul (typeIs_int s 1 t) F.entry_int_rmul (F.args_int_rmul_2 (Value.int 1 t) (Value.ref l)) (int_rmul_tuple 1 t l its.toArray n dd sl) ⟨ho, rfl, ⟨_, ho, rfl⟩, ?_⟩
    refine call_meets F.slot_tuple_mul ⟨_, ho, rfl⟩ F.entry_tuple_mul (F.args_tuple_mul_2 (Value.ref l) (Value.int 1 t)) (tuple_mul1 l its.toArray n dd sl 1 t (by decide) (by simp)) ⟨ho, ?_⟩
    exact ⟨.ref l, H, I, rfl, q1 rfl⟩
  · exact op_repT pins s σ H x y v u Q I rx ry ⟨l, k, xs, ex, ey, hT, hne, by omega, h2, hz, q2 hk⟩
end Z
/-! ### tuple(reversed(t)) of a tuple as an expression -/
namespace Z
open PySem PySem.Spec PyProof.Rows L2 RT
def tTupRevT (K : PySem.W.Frag) (te : TE) : TE := fun σ H Q => te σ H fun v H1 => ∃ a xs, v = .ref a ∧ SqT K H1 a xs ∧ ∀ q, H1 q = none → Q (.ref q) (upd H1 q (.tup xs.reverse))
theorem pe_tupRevT {X : Cx} {e : Expr} {te : TE} {p p2 pos pos2 : Pos} (hc : X.calm = true) (hg : Gl X "tuple") (hm : X.mg "tuple" = none) (hg2 : Gl X "reversed") (hm2 : X.mg "reversed" = none) (he : PE X e te)
    (hs : starEach [e] X.env = (false, eval
          e X.env) :: starEach [] X.env := by rfl)
    (hs2 : starEach [.Call (.Name "reversed" p2) [e] [] pos2] X.env = (false, eval
          (.Call (.Name "reversed" p2) [e] [] pos2) X.env) :: starEach [] X.env := by rfl) :
    PE X (.Call (.Name "tuple" p) [.Call (.Name "reversed" p2) [e] [] pos2] [] pos) (tTupRevT X.K te) := by
  refine ⟨fun pins
        s σ H Q I h => ?_⟩
  refine Call_ (ld_blt I hg hm boot_tuple (PyProof.Rows.callWith_type1 (he := hs2) ?_))
  refine args_cons (he := hs2) (Call_ (ld_blt I hg2 hm2 boot_reversed (PyProof.Rows.callWith_type1 (he := hs) (args_cons (he := hs) ?_))))
  refine (thn (he.run pins s σ H _ I h) fun u s1 x => ?_)
  obtain ⟨v, H1, I1, r1, a, xs, ev, hq, q⟩ := x
  subst ev
  cases r1
  obtain ⟨its, r, ht, hz⟩ := I1.tuple hq
  have hlen := r.length
  have hne : a ≠ s1.heap.objs.size := by
    obtain ⟨o, ho, _⟩ := ht
    exact Nat.ne_of_lt
          (Heap.lt_size ho)
  have hsz : its.toArray.size ≤ sizeLine := by rw [List.size_toArray]; omega
  have hlt : ((its.toArray.size : Nat) : Int) < 2 ^ 63 := by
    have : sizeLine < 2 ^ 63 := by decide +kernel
    omega
  refine args_nil (call_reversed_tup ht (fun _ _ _ h9 => len_tuple ht hlt h9) (args_nil ?_))
  have I2 : L2.Inv X pins σ H1 { s1 with heap := s1.heap.push (rtObj a ((its.toArray.size : Int) - 1)), toks := s1.toks + 1 + 1 } := I1.kept fun b ob q9 => Heap.get?_push_of_some _ q9
  have hit : IsRt (s1.heap.push (rtObj a ((its.toArray.size : Int) - 1))) s1.heap.objs.size a ((its.toArray.size : Int) - 1) := ⟨_, Heap.get?_push_size _ rfl, rfl, rfl⟩
  obtain ⟨f0, f1, f2, f3, f4, f5⟩ := I1.fpOk (Nat.le_refl s1.heap.objs.size) (I1.hok.fresh (Nat.le_refl s1.heap.objs.size))
  have ht2 : IsTup (s1.heap.push (rtObj a ((its.toArray.size : Int) - 1))) a its.toArray := by
    obtain ⟨o, ho, r9⟩ := ht
    exact ⟨o, Heap.get?_push_of_some _ ho, r9⟩
  refine call_tuple_revT (s := { s1 with heap := s1.heap.push (rtObj a ((its.toArray.size : Int) - 1)), toks := s1.toks + 1 + 1 }) (items := its.toArray) (I1.ok.hd hc) hit ht2 hne hsz fun h' tk acc hk hacc => ?_
  have I3 := Inv.turned (t' := tk) I2 (fun b o hb e => hk b o hb e) f0 f1 f3 f4 f5
  refine ⟨.ref h'.objs.size, upd H1 h'.objs.size (.tup xs.reverse), I3.laid (t' := tk) (fun c o e => Heap.get?_push_of_some _ e) (Nat.le_refl _) ?_, rfl, q _ (I3.hok.fresh (Nat.le_refl _))⟩
  refine ⟨by rw [List.length_reverse]; exact hz, acc.toList, vals_rev r hacc, ?_⟩
  rw [Array.toArray_toList]
  exact IsTup.new h' acc
end Z
/-! ### readings of these over a ledger -/
namespace Z
open PySem PySem.Spec PyProof.Rows L2 HT
theorem zSlA {X : Cx} : SlR X (rOrS (rSlL X.K) (rSlA X.K)) := SlR.or sl_list sl_tupA
theorem cut_whole {xs : List V} {lo hi : Option Int} (h : HT.sIx xs.length 0 lo = 0 ∧ HT.sIx xs.length xs.length hi = xs.length) : cutV xs lo hi = xs := by
  unfold cutV
  rw [h.1, h.2]
  simp
def RevR (K : PySem.W.Frag) (x : V) (H1 : Hp) (Q : VK) : Prop := ∃ a xs, x = .ref a ∧ ((SqL K H1 a xs ∧ ∀ p, H1 p = none → Q (.ref p) (upd H1 p (.lst xs.reverse))) ∨ (SqT K H1 a xs ∧ ∀ p, H1 p = none → Q (.ref p) (upd H1 p (.tup xs.reverse))))
def TupRevR (K : PySem.W.Frag) (x : V) (H1 : Hp) (Q : VK) : Prop := ∃ a xs, x = .ref a ∧ SqT K H1 a xs ∧ ∀ q, H1 q = none → Q (.ref q) (upd H1 q (.tup xs.reverse))
def RevI (K : PySem.W.Frag) (vs : List V) (H1 : Hp) (R : It → Hp → Prop) : Prop := ∃ a xs, vs = [V.ref a] ∧ SqL K H1 a xs ∧ R (Itv K a xs.length) H1
section
variable {K : PySem.W.Frag} {σ : L2.St} {H : Hp} {te : TE} {ta : TA} {Q : VK} {L : List En} {a : Addr} {xs : List V} {RI : It → Hp → Prop} {k : Int} {b : V} {lo hi : Option Int}
theorem wRevS (h : te σ H fun x H1 => RevR K x H1 Q) : tRevS K te σ H Q := h
theorem wRevL (s : SqL K H a xs) (F : Fx H L) (k : ∀ p H', Fx H' (.ob p (.lst xs.reverse) :: L) → Q (.ref p) H') : RevR K (.ref a) H Q := ⟨a, xs, rfl, .inl ⟨s, wNewF F k⟩⟩
theorem wRevT (s : SqT K H a xs) (F : Fx H L) (k : ∀ p H', Fx H' (.ob p (.tup xs.reverse) :: L) → Q (.ref p) H') : RevR K (.ref a) H Q := ⟨a, xs, rfl, .inr ⟨s, wNewF F k⟩⟩
theorem wTupRev (h : te σ H fun x H1 => TupRevR K x H1 Q) : tTupRevT K te σ H Q := h
theorem wTupRevT (s : SqT K H a xs) (F : Fx H L) (k : ∀ p H', Fx H' (.ob p (.tup xs.reverse) :: L) → Q (.ref p) H') : TupRevR K (.ref a) H Q := ⟨a, xs, rfl, s, wNewF F k⟩
theorem wIRev (h : ta σ H fun vs H1 => RevI K vs H1 RI) : iRev K ta σ H RI := h
theorem wRevI (s : SqL K H a xs) (h : RI (Itv K a xs.length) H) : RevI K [.ref a] H RI := ⟨a, xs, rfl, s, h⟩
theorem wRep1 (F : Fx H L) (m : En.ob a (.tup xs) ∈ L) (n1 : 1 ≤ k) (n2 : k ≤ 1000) (n3 : xs.length ≤ 1000) (n4 : xs ≠ [])
    (q : ∀ p H' L1, En.ob p (.tup (List.replicate k.toNat xs).flatten) ∈ L1 → L.Sublist L1 → Fx H' L1 → Q (.ref p) H') : rRep1 K (.ref a) (.int k) H Q := by
  refine ⟨a, k, xs, rfl, rfl, F.tup m, n4, n1, n2, n3, fun e => ?_, fun _ => ?_⟩
  · subst e
    refine q a H L ?_ (.refl _) F
    rw [show (List.replicate (Int.toNat 1) xs).flatten = xs from by
      show (List.replicate 1 xs).flatten = xs
      simp]
    exact m
  · exact wNewF F fun p H' F' => q p H' _ List.mem_cons_self (List.sublist_cons_self _ _) F'
theorem wSlAS {L' : List En} (hq : SeqIs L b (some xs)) (sb : L.Sublist L') (F : Fx H L')
    (q : ∀ p H' N, Seq2 (N ++ L) b (.ref p) xs (cutV xs lo hi) → Fx H' (N ++ L') → Q (.ref p) H') : rOrS (rSlL K) (rSlA K) b lo hi H Q := by
  cases hq with
  | lst m => exact .inl ⟨_, xs, rfl, F.lst (sb.subset m), wNewF F fun p H' F' => q p H' [_] (.lst (.tail _ m) List.mem_cons_self) F'⟩
  | tup m =>
    refine .inr ⟨_, xs, rfl, F.tup (sb.subset m), fun e => ?_, fun _ => ?_⟩
    · refine q _ H [] (.tup m ?_) F
      rw [cut_whole e]
      exact m
    · exact wNewF F fun p H' F' => q p H' [_] (.tup (.tail _ m) List.mem_cons_self) F'
theorem wLenSq (hq : SeqIs L b (some xs)) (F : Fx H L) (h : Q (.int xs.length) H) : rLen K [b] H Q := by
  cases hq with
  | lst m => exact wLenL (F.lst m) h
  | tup m => exact wLenT (F.tup m) h
theorem wIxSq {i : Int} {v : V} (hq : SeqIs L b (some xs)) (F : Fx H L) (e : atI xs i = some v) (h : Q v H) : rIx K b (.int i) H Q := by
  cases hq with
  | lst m => exact wIxL (F.lst m) e h
  | tup m => exact wIxT (F.tup m) e h
theorem wMany_yes {c cls : Value} {ts : Addr → Value → Option Addr → TS} {r : List (Value × (Addr → Value → Option Addr → TS))} {Wout : WX} {D : Ends} {d : Option Addr} (e : PySem.W.exmOne K cls c = some true) (h : ∀ a, H a = none → ts a cls d D σ H) : WE (wMany K Wout D ((c, ts) :: r)) σ cls d H :=
  ⟨true, e, fun _ a ha => h a ha, fun q => Bool.noConfusion q⟩
theorem wMany_no {c cls : Value} {ts : Addr → Value → Option Addr → TS} {r : List (Value × (Addr → Value → Option Addr → TS))} {Wout : WX} {D : Ends} {d : Option Addr} (e : PySem.W.exmOne K cls c = some false) (h : WE (wMany K Wout D r) σ cls d H) : WE (wMany K Wout D ((c, ts) :: r)) σ cls d H :=
  ⟨false, e, fun q => Bool.noConfusion q, fun _ => h⟩
theorem starSq {R : List V → Prop} (hq : SeqIs L b (some xs)) (F : Fx H L) (h : R xs) : ∃ p xs, b = V.ref p ∧ (SqT K H p xs ∨ SqL K H p xs) ∧ R xs := by
  cases hq with
  | lst m => exact ⟨_, xs, rfl, .inr (F.lst m), h⟩
  | tup m => exact ⟨_, xs, rfl, .inl (F.tup m), h⟩
theorem wOnly_yes {c : Value} {ts : Addr → Value → Option Addr → TS} {Wout : WX} {D : Ends} {d : Option Addr} (e : PySem.W.exmOne K c c = some true) (h : ∀ a, H a = none → ts a c d D σ H) : WE (wOnly K c ts Wout D) σ c d H :=
  ⟨true, e, fun _ a ha => h a ha, fun q => Bool.noConfusion q⟩
theorem Seq2.isR {L : List En} {a c : V} {xs ys : List V} (h : Seq2 L a c xs ys) : SeqIs L c (some ys) := by
  cases h with
  | lst _ m => exact .lst m
  | tup _ m => exact .tup m
theorem wLcZL {a b : Addr} {xs ys : List V} {g : TG} {tt : TT} {te : TE} {vs : List Nat} {σ : L2.St} {QD : Addr → Hp → Prop} (m : En.ob a (.lst xs) ∈ L) (m' : En.ob b (.lst ys) ∈ L) (F : Fx H L) (R : Nat → List V → List En → Prop) (h0 : R 0 [] L) (keep : ∀ i acc L', R i acc L' → ∀ e ∈ L, e ∈ L')
    (hs : ∀ i x y T D H' acc L', xs[i]? = some x → ys[i]? = some y → R i acc L' → Fx H' (.ob T (.tup [x, y]) :: .ob D (.lst acc) :: L') → g (.ref T) (wipe σ vs) H' fun σ2 H2 => wipe σ2 vs = wipe σ vs ∧ tt σ2 H2 fun b H3 =>
      if b = true then te σ2 H3 fun y H4 => LcPut D R i y H4 else LcP D R (i + 1) H3)
    (hd : ∀ D acc L' H', Fx H' (.ob D (.lst acc) :: L') → R (min xs.length ys.length) acc L' → QD D H') :
    ∀ D, H D = none → ∃ W : Nat → Nat → Hp → Prop, (∃ m, W 0 m (upd H D (.lst []))) ∧ ∀ i m H, W i m H →
  ((Itz K a b).stop i H ∧ QD D H) ∨ ((Itz K a b).go i H ∧ ∃ Nx : Hp → Prop, (∀ H', Nx H' → ∃ m', m' < m ∧ W (i + 1) m' H') ∧ ∀ x H', (Itz K a b).yld i H x H' → g x (wipe σ vs) H' fun σ2 H2 => wipe σ2 vs = wipe σ vs ∧ tt σ2 H2 fun b H3 =>
    if b = true then te σ2 H3 fun y H4 => ∃ acc, H4 D = some (.lst acc) ∧
          acc.length < sizeLine ∧ Nx (upd H4 D (.lst (acc ++ [y]))) else Nx H3) := by
  refine wLcW (walk_zip (K := K) (xs := xs) (ys := ys) rfl) F R h0 (fun i acc L' D H' r F' => ⟨F'.lst (List.mem_cons_of_mem _ (keep _ _ _ r _ m)), F'.lst (List.mem_cons_of_mem _ (keep _ _ _ r _ m'))⟩) ?_ hd
  rintro i v D H' H'' acc L' _ r F' ⟨T, x, y, rfl, hT, rfl, e1, e2⟩
  exact hs i x y T D _ acc L' e1 e2 r (F'.new hT)
theorem wLcRev {a : Addr} {xs : List V} {g : TG} {tt : TT} {te : TE} {vs : List Nat} {σ : L2.St} {QD : Addr → Hp → Prop} (m : En.ob a (.lst xs) ∈ L) (F : Fx H L) (R : Nat → List V → List En → Prop) (h0 : R 0 [] L) (keep : ∀ i acc L', R i acc L' → ∀ e ∈ L, e ∈ L')
    (hs : ∀ i x D H' acc L', xs.reverse[i]? = some x → R i acc L' → Fx H' (.ob D (.lst acc) :: L') → g x (wipe σ vs) H' fun σ2 H2 => wipe σ2 vs = wipe σ vs ∧ tt σ2 H2 fun b H3 =>
      if b = true then te σ2 H3 fun y H4 => LcPut D R i y H4 else LcP D R (i + 1) H3)
    (hd : ∀ D acc L' H', Fx H' (.ob D (.lst acc) :: L') → R xs.length acc L' → QD D H') :
    ∀ D, H D = none → ∃ W : Nat → Nat → Hp → Prop, (∃ m, W 0 m (upd H D (.lst []))) ∧ ∀ i m H, W i m H →
  ((Itv K a xs.length).stop i H ∧ QD D H) ∨ ((Itv K a xs.length).go i H ∧ ∃ Nx : Hp → Prop, (∀ H', Nx H' → ∃ m', m' < m ∧ W (i + 1) m' H') ∧ ∀ x H', (Itv K a xs.length).yld i H x H' → g x (wipe σ vs) H' fun σ2 H2 => wipe σ2 vs = wipe σ vs ∧ tt σ2 H2 fun b H3 =>
    if b = true then te σ2 H3 fun y H4 => ∃ acc, H4 D = some (.lst acc) ∧
          acc.length < sizeLine ∧ Nx (upd H4 D (.lst (acc ++ [y]))) else Nx H3) := by
  refine wLcW (walk_rev (K := K) (a := a) (xs := xs)) F R h0 (fun i acc L' D H' r F' => F'.lst (List.mem_cons_of_mem _ (keep _ _ _ r _ m))) ?_ hd
  rintro i v D H' H'' acc L' hi r F' ⟨rfl, e⟩
  exact hs i v D _ acc L' (by rw [List.getElem?_reverse hi]; exact e) r F'
end
end Z

set_option Elab.async false
set_option linter.all false
set_option maxRecDepth 100000
/-! ### range of any bounds; math.lcm; min and max of a list -/
namespace Z
open PySem PySem.Spec
      PyProof.Rows L2
theorem turn_long {P : Program} {w : World} {K : PySem.W.Frag} {tg : Expr} (it : Addr) (lo : Int) (n : Nat) : Turn P w K tg (Itr lo n) [it] it (fun i h => IsLongIter h it (lo + (i : Nat) * 1) ((n : Int) - (i : Nat)) 1) where
  mem := by simp
  obj := fun i h st b hb => by
    have e : b = it :=
          by simpa using hb
    subst e
    exact ⟨_, st, fun v z => by
      have z' : Data.fields
            _ = Data.cell v := z
      cases z'⟩
  keep := fun i h h' st k
        => k it (by simp) _ st
  item := by
    intro X hP hw hK hc i
          pins s σ H E I hf st hg
    subst hP hw hK
    obtain ⟨f0, f1, f2, f3,
          f4, f5⟩ := hf it (by simp)
    have W := Walks.longrange (prog := X.prog) (w := X.w) (I.ok.hd hc) it lo 1 n
    refine W.item i s _ _ hg st
          fun v h' tk hv st' kk => ?_
    obtain ⟨t, rfl⟩ := hv
    have I1 : Inv X pins σ H {
          s with heap := h', toks := tk } := I.turned (fun b o hb e => kk b o (by simpa using hb) e) f0 f1 f3 f4 f5
    refine ⟨_, rfl, go_of (s := { s with heap := h', toks := tk }) (n := "longrange_iterator") st' rfl rfl (by decide) ⟨.int (lo + i), H, I1, ⟨t, ?_⟩, ⟨rfl, rfl⟩, st', fun b hb => (hf b hb).1⟩⟩
    rw [Int.mul_one]
  done := by
    intro X hP hw hK hc i
          pins s σ H E I hf st hg
    subst hP hw hK
    obtain ⟨f0, f1, f2, f3,
          f4, f5⟩ := hf it (by simp)
    exact wpAny_pyNext_long_end (I.ok.hd hc) st (by have : n ≤ i := hg; omega) fun h' eb => ⟨rfl, I.turned (t' := s.toks) (fun b o hb e => eb b o hb e) f0 f1 f3 f4 f5⟩
  self := fun _ _ _ _ _ st h => wpAny_pyIter_longiter st h
section
variable {X : Cx} {tg : Expr}
theorem range_itG {pins : List (Addr × Obj)} {σ : L2.St} {H : Hp} {s : Shared} {R : It → Hp → Prop} {E : Value → Shared → Prop} {lo hi : Int} {t u v : Tok} {tk : Nat} (I : Inv X pins σ H s)
    (q : R (Itr lo (hi - lo).toNat) H) : wpAny (model X.prog X.w) X.A (pyIter (.ref s.heap.objs.size)) (PIE X pins σ tg R) E {
          s with heap := s.heap.push { cls := .type "range", data := .fields #[.int lo t, .int hi u, .int 1 v] }, toks := tk } := by
  cases hs : Builtin.Range.small lo hi 1 with
  | true =>
    refine wpAny_pyIter_range (IsRange.new ..) hs ?_
    have I1 : Inv X pins σ H {
          s with heap := s.heap.push { cls := .type "range", data := .fields #[.int lo t, .int hi u, .int 1 v] }, toks := tk } := I.kept fun b o e => Heap.get?_push_of_some _ e
    refine pi_one (tk := tk) I1 _ (turn_range _ lo (hi - lo).toNat) ?_ q
    have e1 : lo + ((0 : Nat) : Int) * 1 = lo := by simp
    have e2 : (((hi - lo).toNat : Nat) : Int) - ((0 : Nat) : Int) =
          Builtin.Range.rangeSize lo hi 1 := by rw [rangeSize_one]; split <;> omega
    show IsRangeIter _ _ (lo + ((0 : Nat) : Int) * 1)
          ((((hi - lo).toNat : Nat) : Int) - ((0 : Nat) : Int)) 1
    rw [e1, e2]
    exact Heap.get?_push_size
          _ rfl
  | false =>
    refine wpAny_pyIter_longrange (IsRange.new ..) hs ?_
    have I1 : Inv X pins σ H {
          s with heap := s.heap.push { cls := .type "range", data := .fields #[.int lo t, .int hi u, .int 1 v] }, toks := tk } := I.kept fun b o e => Heap.get?_push_of_some _ e
    refine pi_one (tk := tk) I1 _ (turn_long _ lo (hi - lo).toNat) ?_ q
    have e1 : lo + ((0 : Nat) : Int) * 1 = lo := by simp
    have e2 : (((hi - lo).toNat : Nat) : Int) - ((0 : Nat) : Int) =
          Builtin.Range.rangeSize lo hi 1 := by rw [rangeSize_one]; split <;> omega
    show IsLongIter _ _ (lo + ((0 : Nat) : Int) * 1) ((((hi - lo).toNat : Nat) : Int) - ((0 : Nat) : Int)) 1
    rw [e1, e2]
    exact Heap.get?_push_size
          _ rfl
def iRngG (ta : TA) : TI := fun σ H R => ta σ H fun vs H1 => ∃ i j : Int, vs = [.int i, .int j] ∧ R (Itr i (j - i).toNat) H1
/-- for .. in range(a, b), numbers of any size -/
theorem pi_rangeG {a b : Expr} {ta : TA} {p pos : Pos} (hg : Gl X "range") (hm : X.mg "range" = none) (ha : PA X [a, b] ta) (hs : starEach [a, b] X.env = [(false, eval a X.env), (false, eval b X.env)] := by rfl) (hs2 : starEach [b] X.env = [(false, eval b X.env)] := by rfl) :
    PI X tg (.Call (.Name "range" p) [a, b] [] pos) (iRngG ta) := by
  refine ⟨fun pins
        s σ H R I h => ?_⟩
  refine Call_ (ld_blt I hg hm boot_range (PyProof.Rows.callWith_type1 (thn (ha.run pos pins
        s σ H _ I h) fun us s1 ⟨vs, H1, I1, r1, q1⟩ => ?_) (by rw [hs, hs2]) (by rw [hs2]; rfl)))
  obtain ⟨i, j, e, q⟩ := q1
  subst e
  cases r1 with
  | cons r rr =>
    cases rr with
    | cons r' rr =>
      cases rr
      obtain ⟨t, rfl⟩ := r
      obtain ⟨t', rfl⟩ := r'
      exact call_range_2 (range_itG I1 q)
def rLcm : List V → Hp → VK → Prop := fun vs H Q => ∃ a b : Int, vs = [.int a, .int b] ∧ a.natAbs < 2 ^ 64 ∧ b.natAbs < 2 ^ 64 ∧ Q (.int ((Nat.lcm a.natAbs b.natAbs : Nat) : Int)) H
theorem cr_lcm : CallR X (.builtin "math.lcm") rLcm := by
  intro pins s σ
        H vs us Q I r h
  obtain ⟨a, b, rfl, ha, hb, q⟩ := h
  obtain ⟨t, u, rfl⟩
        := Vals.int2 r
  exact PySem.W.mc_lcm ha hb fun _ => ⟨.int _, H, I.tok _, ⟨_, rfl⟩, q⟩
end
section
variable {K : PySem.W.Frag} {H : Hp} {Q : VK} {σ : L2.St} {ta : TA} {RI : It → Hp → Prop}
def GoRG (vs : List V) (H : Hp) (R : It → Hp → Prop) : Prop := ∃ i j : Int, vs = [.int i, .int j] ∧ R (Itr i (j - i).toNat) H
theorem wIRG (h : ta σ H fun vs H1 => GoRG vs H1 RI) : iRngG ta σ H RI := h
theorem wGoRG {i j : Int} (h : RI (Itr i (j - i).toNat) H) : GoRG [.int i, .int j] H RI := ⟨i, j, rfl, h⟩
theorem wLcm {a b : Int} (ha : a.natAbs < 2 ^ 64) (hb : b.natAbs < 2 ^ 64) (h : Q (.int ((Nat.lcm a.natAbs b.natAbs : Nat) : Int)) H) : rLcm [.int a, .int b] H Q := ⟨a, b, rfl, ha, hb, h⟩
theorem wMinL {a : Addr} {ns : List Int} (s : SqL K H a (ns.map V.int)) (n : 0 < ns.length) (h : ∀ m, m ∈ ns → (∀ y, y ∈ ns → m ≤ y) → Q (.int m) H) : rMin K [.ref a] H Q := ⟨a, ns, rfl, s, n, h⟩
theorem wMaxL {a : Addr} {ns : List Int} (s : SqL K H a (ns.map V.int)) (n : 0 < ns.length) (h : ∀ m, m ∈ ns → (∀ y, y ∈ ns → y ≤ m) → Q (.int m) H) : rMax K [.ref a] H Q := ⟨a, ns, rfl, s, n, h⟩
end
end Z

set_option Elab.async false
set_option linter.all false
set_option maxRecDepth 100000
set_option
      maxHeartbeats 4000000
namespace M
open PySem L2 RZ
local macro_rules | `(tactic| walk_at "zm") => `(tactic| with_reducible first | exact List.mem_cons_self | assumption | (refine List.mem_cons_of_mem _ ?_; walk_at "zm"))
local macro_rules | `(tactic| walk_at "zp") => `(tactic| with_reducible first | exact Z.Put.head | (refine Z.Put.tail ?_; walk_at "zp"))
local macro_rules | `(tactic| walk_at "zo") => `(tactic| first | omega | (simp only [List.length_map, List.length_cons, List.length_nil, List.length_append, List.length_range] at *; omega))
local macro_rules | `(tactic| walk_at "zF") => `(tactic| with_reducible assumption)
local macro_rules | `(tactic| walk_at "zsq") => `(tactic| first | exact Z.Fx.lst (by walk_at "zF") (by walk_at "zm") | exact Z.Fx.tup (by walk_at "zF") (by walk_at "zm") | with_reducible assumption | exact Z.Fx.frz (by walk_at "zF") (by walk_at "zm"))
local macro_rules | `(tactic| walk_at "zsL") => `(tactic| first | exact Z.Fx.lst (by walk_at "zF") (by walk_at "zm") | with_reducible assumption | exact Z.Fx.frz (by walk_at "zF") (by walk_at "zm"))
local macro_rules | `(tactic| walk_at "zsT") => `(tactic| first | exact Z.SqT.of (Z.Fx.get (by walk_at "zF") (by walk_at "zm")) | with_reducible assumption)
local macro_rules | `(tactic| walk_at "zcm") => `(tactic| first | exact Or.inr ⟨by decide, by decide⟩ | exact Or.inl ⟨by decide, by decide⟩ | exact Or.inl ⟨by omega, by omega⟩ | exact Or.inr ⟨by omega, by omega⟩)
local macro_rules | `(tactic| walk_at "zcd") => `(tactic| first | exact ⟨by decide, by decide +kernel⟩ | assumption | exact ⟨by omega, by assumption⟩)
local macro_rules | `(tactic| walk_at "zb1") => `(tactic| first | rfl | assumption | exact decide_eq_true (by omega) | exact decide_eq_true (by assumption) | (simp only [Bool.not_eq_true', decide_eq_false_iff_not, bne_iff_ne, ne_eq]; omega))
local macro_rules | `(tactic| walk_at "zb0") => `(tactic| first | rfl | assumption | exact decide_eq_false (by omega) | exact decide_eq_false (by assumption) | (simp only [Bool.not_eq_false', decide_eq_true_iff, bne_eq_false_iff_eq]; omega))
local macro_rules | `(tactic| walk_at "zv") => `(tactic| with_reducible first | refine Z.wV0 ?_ | refine Z.wV1 ?_ | refine Z.wV2 ?_ | refine Z.wV3 ?_ | refine Z.wV4 ?_ | refine Z.wV5 ?_ | refine Z.wV6 ?_ | refine Z.wV7 ?_ | refine Z.wV8 ?_ | refine Z.wV9 ?_ | refine Z.wV10 ?_ | refine Z.wV11 ?_ | refine Z.wV12 ?_ | refine Z.wV13 ?_ | refine Z.wV14 ?_)
local macro_rules | `(tactic| walk_at "zg") => `(tactic| with_reducible first | refine Z.wG0 ?_ | refine Z.wG1 ?_ | refine Z.wG2 ?_ | refine Z.wG3 ?_ | refine Z.wG4 ?_ | refine Z.wG5 ?_ | refine Z.wG6 ?_ | refine Z.wG7 ?_ | refine Z.wG8 ?_ | refine Z.wG9 ?_ | refine Z.wG10 ?_ | refine Z.wG11 ?_ | refine Z.wG12 ?_ | refine Z.wG13 ?_ | refine Z.wG14 ?_)
-- syntax nodes
local macro_rules | `(tactic| walk_at "zt") => `(tactic| with_reducible first | refine Z.wSeq ?_ | refine Z.wAsg ?_ | refine Z.wOp ?_ | refine Z.wC ?_ | refine Z.wCons ?_ | refine Z.wNil ?_ | refine Z.wCB ?_ | refine Z.wTest ?_ | refine Z.wRet ?_ | refine Z.wNext ?_ | refine Z.wDrop ?_ | refine Z.wTruN ?_ | refine Z.wNot ?_ | refine Z.wAnd ?_ | refine Z.wOrb ?_ | refine Z.wCall0 ?_ | refine Z.wAndT ?_ | refine Z.wOrT ?_ | refine Z.wNotT ?_ | refine Z.wUn ?_ | refine Z.wTIf ?_ | refine Z.wChain ?_ | refine Z.wBM ?_ | refine Z.wBM0 ?_ | refine Z.wGSub ?_ | refine Z.wTTup ?_ | refine Z.wTLst ?_ | refine Z.wRetN ?_ | refine Z.wBreak ?_ | refine Z.wCont ?_ | refine Z.wListI ?_)
-- values
local macro_rules | `(tactic| walk_at "zx") => `(tactic| first
  | with_reducible refine Z.wBl ?_ | with_reducible refine Z.wTbl ?_ | with_reducible refine Z.wTint ?_ | with_reducible refine Z.wTnon ?_ | with_reducible refine Z.wIntI ?_ | with_reducible refine Z.wNeg ?_
  | with_reducible refine Z.wI0 ?_ | with_reducible refine Z.wOr1 (Z.wI0 ?_)
  | with_reducible refine Z.wOr1 (Z.wEqII ?_) | with_reducible refine Z.wOr1 (Z.wNeII ?_)
  | with_reducible refine Z.wOr1 (Z.wIsN ?_) | with_reducible refine Z.wOr1 (Z.wNotN ?_) | with_reducible refine Z.wOr2 (Z.wIsB ?_) | with_reducible refine Z.wOr2 (Z.wNotB ?_)
  | ((with_reducible refine' Z.wI ?zc ?_); (case zc => first | omega | decide | (walk_at "zcd") | exact ⟨by decide, by decide, by decide +kernel⟩))
  | ((with_reducible refine' Z.wOr1 (Z.wI (C := L2.CMul) ?zc ?_)); (case zc => walk_at "zcm"))
  | ((with_reducible refine' Z.wSetL ?zf ?zm ?ze ?zp ?_); (case zf => walk_at "zF"); (case zm => walk_at "zm"); (case ze => first | rfl | exact Z.ixN_of (by walk_at "zo") (by walk_at "zo")); (case zp => walk_at "zp"); with_reducible intro _ _)
  | ((with_reducible refine' Z.wIxL ?zs ?ze ?_); (case zs => walk_at "zsL"); (case ze => first | rfl | assumption))
  | ((with_reducible refine' Z.wIxT ?zs ?ze ?_); (case zs => walk_at "zsT"); (case ze => first | rfl | assumption))
  | ((with_reducible refine' Z.wIxLi ?zs ?z0 ?z1 ?_); (case zs => walk_at "zsL"); (case z0 => walk_at "zo"); (case z1 => walk_at "zo"))
  | ((with_reducible refine' Z.wIxTi ?zs ?z0 ?z1 ?_); (case zs => walk_at "zsT"); (case z0 => walk_at "zo"); (case z1 => walk_at "zo"))
  | ((with_reducible refine' Z.wLenLi ?zs ?_); (case zs => walk_at "zsL"))
  | ((with_reducible refine' Z.wLenTi ?zs ?_); (case zs => walk_at "zsT"))
  | ((with_reducible refine' Z.wLenL ?zs ?_); (case zs => walk_at "zsL"))
  | ((with_reducible refine' Z.wLenT ?zs ?_); (case zs => walk_at "zsT"))
  | ((with_reducible refine' Z.wTyL ?zs ?_); (case zs => walk_at "zsL"))
  | ((with_reducible refine' Z.wApp ?zf ?zm ?zp ?zn ?_); (case zf => walk_at "zF"); (case zm => walk_at "zm"); (case zp => walk_at "zp"); (case zn => first | (have := Z.line_big; walk_at "zo") | assumption); with_reducible intro _ _)
  | ((with_reducible refine' Z.wTup ?zn ?zf ?_); (case zn => first | exact Nat.le_of_ble_eq_true rfl | walk_at "zo"); (case zf => walk_at "zF"); with_reducible intro _ _ _)
  | ((with_reducible refine' Z.wLst ?zn ?zf ?_); (case zn => first | exact Nat.le_of_ble_eq_true rfl | walk_at "zo"); (case zf => walk_at "zF"); with_reducible intro _ _ _)
  | ((with_reducible refine' Z.wListL ?zs ?zf ?_); (case zs => walk_at "zsL"); (case zf => walk_at "zF"); with_reducible intro _ _ _)
  | ((with_reducible refine' Z.wListT ?zs ?zf ?_); (case zs => walk_at "zsT"); (case zf => walk_at "zF"); with_reducible intro _ _ _)
  | ((with_reducible refine' Z.wTupleL ?zs ?zf ?_); (case zs => walk_at "zsL"); (case zf => walk_at "zF"); with_reducible intro _ _ _)
  | ((with_reducible refine' Z.wTupleT ?zs ?_); (case zs => walk_at "zsT"))
  | ((with_reducible refine' Z.wTlst ?zs ?_); (case zs => walk_at "zsL"))
  | ((with_reducible refine' Z.wTtup ?zs ?_); (case zs => walk_at "zsT"))
  | with_reducible refine Z.wAbs ?_)
-- branches that the facts decide
local macro_rules | `(tactic| walk_at "zi") => `(tactic| first | ((with_reducible refine' Z.wIfT ?zb ?_); (case zb => walk_at "zb1")) | ((with_reducible refine' Z.wIfF ?zb ?_); (case zb => walk_at "zb0")))
local macro_rules | `(tactic| walk_at "z") => `(tactic| repeat walk_at "z1")
local macro_rules | `(tactic| walk_at "zc") => `(tactic| fail)
local macro_rules | `(tactic| walk_at "zif") => `(tactic| with_reducible first | refine Z.wIfS ?_ | refine Z.wFor ?_)
local macro_rules | `(tactic| walk_at "z1") => `(tactic| first | walk_at "zt" | walk_at "zv" | walk_at "zg" | walk_at "zc" | walk_at "zif" | walk_at "zx" | walk_at "zi")
local macro_rules | `(tactic| walk_at "y1") => `(tactic| first | walk_at "zt" | walk_at "zv" | walk_at "zg" | walk_at "zc" | walk_at "zx" | walk_at "zi")
local macro_rules | `(tactic| walk_at "y") => `(tactic| repeat walk_at "y1")
local macro_rules | `(tactic| walk_at "zfs") => `(tactic| (refine Z.Fx.sub (by walk_at "zF") ?_; walk_at "zsub"))
local macro_rules | `(tactic| walk_at "zs") => `(tactic| first | refine Z.wIfD (fun _ => ?_) (fun _ => ?_) | refine Z.wIfND (fun _ => ?_) (fun _ => ?_) | refine Z.wIf (fun _ => ?_) (fun _ => ?_))
local macro_rules | `(tactic| walk_at "zz") => `(tactic| ((repeat walk_at "z1"); try (walk_at "zs" <;> walk_at "zz")))
local macro_rules | `(tactic| walk_at "zlog") => `(tactic| first | decide +kernel | assumption | exact Z.log_small (by walk_at "zo") (by walk_at "zo"))
local macro_rules | `(tactic| walk_at "zk") => `(tactic| first | with_reducible assumption | exact Z.HasK.int _ | exact Z.HasK.bl _ | exact Z.HasK.str _ | exact Z.HasK.non | exact Z.HasK.lst (by walk_at "zsL") | exact Z.HasK.tup (by walk_at "zsT"))
local macro_rules | `(tactic| walk_at "zsub") => `(tactic| ((try dsimp only [List.cons_append, List.nil_append, List.append_eq]); (with_reducible first | exact List.Sublist.refl _ | (refine List.Sublist.cons_cons _ ?_; walk_at "zsub") | (refine List.Sublist.cons _ ?_; walk_at "zsub"))))
local macro_rules | `(tactic| walk_at "zt") => `(tactic| with_reducible first | refine Z.wIS ?_ | refine Z.wIL ?_ | refine Z.wIT ?_ | refine Z.wIR1 ?_ | refine Z.wIR2 ?_ | refine Z.wIZ ?_ | refine Z.wLc ?_ | refine Z.wSl ?_ | refine Z.wNoPart ?_ | refine Z.wPart ?_ | refine Z.wPartV ?_ | refine Z.wGCons ?_ | refine Z.wGNil ?_ | refine Z.wYes ?_ | refine Z.wMake ?_ | refine Z.wMakeS ?_ | refine Z.wFld ?_ | refine Z.wSFld ?_ | refine Z.wCallS ?_)
local macro_rules | `(tactic| walk_at "zx") => `(tactic| first
  | ((with_reducible refine' Z.wGTup ?zs ?ze ?_); (case zs => walk_at "zsT"); (case ze => first | rfl | assumption))
  | ((with_reducible refine' Z.wGoSL ?zs ?_); (case zs => walk_at "zsL"))
  | ((with_reducible refine' Z.wGoST ?zs ?_); (case zs => walk_at "zsT"))
  | ((with_reducible refine' Z.wGoL ?zs ?_); (case zs => walk_at "zsL"))
  | ((with_reducible refine' Z.wGoT ?zs ?_); (case zs => walk_at "zsT"))
  | ((with_reducible refine' Z.wGoZL ?zs ?zt ?_); (case zs => walk_at "zsL"); (case zt => walk_at "zsL"))
  | ((with_reducible refine' Z.wGoZT ?zs ?zt ?_); (case zs => walk_at "zsT"); (case zt => walk_at "zsT"))
  | ((with_reducible refine' Z.wGoR1 ?za ?zb ?_); (case za => walk_at "zo"); (case zb => walk_at "zo"))
  | ((with_reducible refine' Z.wGoR2 ?za ?zb ?zc ?zd ?_); (case za => walk_at "zo"); (case zb => walk_at "zo"); (case zc => walk_at "zo"); (case zd => walk_at "zo"))
  | ((with_reducible refine' Z.wSlL ?zs ?zf ?_); (case zs => walk_at "zsL"); (case zf => walk_at "zF"); with_reducible intro _ _ _))
local macro_rules | `(tactic| walk_at "zis") => `(tactic| first | with_reducible assumption | exact Z.SeqIs.int _ | exact Z.SeqIs.bl _ | exact Z.SeqIs.str _ | exact Z.SeqIs.non | exact Z.SeqIs.lst (by walk_at "zm") | exact Z.SeqIs.tup (by walk_at "zm"))
local macro_rules | `(tactic| walk_at "zw") => `(tactic| (simp only [List.map_cons, List.map_nil, wipe, List.set_cons_zero, List.set_cons_succ]))
local macro_rules | `(tactic| walk_at "zt") => `(tactic| with_reducible first | refine Z.wListRg2 ?_)
local macro_rules | `(tactic| walk_at "zx") => `(tactic| first
  | ((with_reducible refine' Z.wRgV ?zo ?zf ?_); (case zo => exact L2.RgOk.of_le (by walk_at "zo") (by walk_at "zo") (by walk_at "zo") (by walk_at "zo")); (case zf => walk_at "zF"); with_reducible intro _ _ _))

local macro_rules | `(tactic| walk_at "zt") => `(tactic| with_reducible first | refine Z.wIE ?_ | refine Z.wIR3 ?_ | refine Z.wMin2 ?_ | refine Z.wMax2 ?_ | refine Z.wBody ?_ | refine Z.wAug rfl ?_)
local macro_rules | `(tactic| walk_at "zx") => `(tactic| first
  | ((with_reducible refine' Z.wGoDown ?za ?zb ?zc ?zd ?_); (case za => walk_at "zo"); (case zb => walk_at "zo"); (case zc => walk_at "zo"); (case zd => walk_at "zo"))
  | ((with_reducible refine' Z.wSumL ?zs ?_); (case zs => walk_at "zsL"))
  | ((with_reducible refine' Z.wSumT ?zs ?_); (case zs => walk_at "zsT"))
  | ((with_reducible refine' Z.wRepL ?zf ?zm ?z1 ?z2 ?z3 ?_); (case zf => walk_at "zF"); (case zm => walk_at "zm"); (case z1 => walk_at "zo"); (case z2 => walk_at "zo"); (case z3 => walk_at "zo"); with_reducible intro _ _ _)
  | ((with_reducible refine' Z.wCatL ?zf ?zm ?z1 ?z2 ?_); (case zf => walk_at "zF"); (case zm => walk_at "zm"); (case z1 => walk_at "zm"); (case z2 => walk_at "zo"); with_reducible intro _ _ _))
local macro_rules | `(tactic| walk_at "zx") => `(tactic| ((with_reducible refine Z.wIpI ?_); try simp only [List.set_cons_zero, List.set_cons_succ]))
local macro_rules | `(tactic| walk_at "zt") => `(tactic| with_reducible first | refine Z.wMkO ?_ | refine Z.wCallD ?_ | refine Z.wSpC ?_ | refine Z.wSpN ?_ | refine Z.wSpC1 ?_ | refine Z.wSpN1 ?_ | refine Z.wSpC2 ?_ | refine Z.wSpN2 ?_)
local macro_rules | `(tactic| walk_at "zv") => `(tactic| with_reducible first | refine Z.wV15 ?_ | refine Z.wV16 ?_ | refine Z.wV17 ?_ | refine Z.wV18 ?_ | refine Z.wV19 ?_ | refine Z.wV20 ?_ | refine Z.wV21 ?_ | refine Z.wV22 ?_ | refine Z.wV23 ?_ | refine Z.wV24 ?_ | refine Z.wV25 ?_ | refine Z.wV26 ?_)
local macro_rules | `(tactic| walk_at "zg") => `(tactic| with_reducible first | refine Z.wG15 ?_ | refine Z.wG16 ?_ | refine Z.wG17 ?_ | refine Z.wG18 ?_ | refine Z.wG19 ?_ | refine Z.wG20 ?_ | refine Z.wG21 ?_ | refine Z.wG22 ?_ | refine Z.wG23 ?_ | refine Z.wG24 ?_ | refine Z.wG25 ?_ | refine Z.wG26 ?_)
local macro_rules | `(tactic| walk_at "zt") => `(tactic| with_reducible first | refine Z.wRevS ?_ | refine Z.wTupRev ?_ | refine Z.wIRev ?_)
local macro_rules | `(tactic| walk_at "zx") => `(tactic| first
  | ((with_reducible refine' Z.wRevL ?zs ?zf ?_); (case zs => walk_at "zsL"); (case zf => walk_at "zF"); with_reducible intro _ _ _)
  | ((with_reducible refine' Z.wRevT ?zs ?zf ?_); (case zs => walk_at "zsT"); (case zf => walk_at "zF"); with_reducible intro _ _ _)
  | ((with_reducible refine' Z.wTupRevT ?zs ?zf ?_); (case zs => walk_at "zsT"); (case zf => walk_at "zF"); with_reducible intro _ _ _)
  | ((with_reducible refine' Z.wRevI ?zs ?_); (case zs => walk_at "zsL")))
local macro_rules | `(tactic| walk_at "zt") => `(tactic| with_reducible first | refine Z.wIRG ?_ | refine Z.wGoRG ?_)
def top (i : Nat) : Stmt := PySem.Challenge.pw_jointsapart_k60_whole_stronger_for_every.main.body.getD i (.Pass ⟨0, 0, 0, 0⟩)

abbrev s_BadCrackCalendar___init__ : Stmt := inClass (top 4) 0
abbrev s_is_sequence : Stmt := top 7
abbrev s_is_whole : Stmt := top 6
abbrev s_CrackCalendar___init__ : Stmt := inClass (top 9) 0
abbrev s__law_at : Stmt := top 22
abbrev s__price_at : Stmt := top 12
abbrev s__lead_at : Stmt := top 14
abbrev s_stays_stronger : Stmt := top 13
abbrev s__law_least_common : Stmt := top 23
abbrev s__law_whole : Stmt := top 20
abbrev s__law_stronger : Stmt := top 24
abbrev s__law_mix : Stmt := top 16
abbrev s__law_draw : Stmt := top 18
abbrev s__law_pick : Stmt := top 19
abbrev s__law_calendar_drawn : Stmt := top 21
abbrev s__check_height : Stmt := top 10
abbrev s_crack_at : Stmt := top 11
abbrev s__law_hand : Stmt := top 17
abbrev s_law : Stmt := top 25
structure Txt (K : PySem.W.Frag) (mg : Str → Option Value) (c_BadCrackCalendar : Addr) (c_BadHeight : Addr) (c_CrackCalendar : Addr) : Prop where
  b_abs : mg "abs" = none
  b_all : mg "all" = none
  b_bool : mg "bool" = none
  b_enumerate : mg "enumerate" = none
  b_int : mg "int" = none
  b_isinstance : mg "isinstance" = none
  b_len : mg "len" = none
  b_list : mg "list" = none
  b_max : mg "max" = none
  b_min : mg "min" = none
  b_range : mg "range" = none
  b_tuple : mg "tuple" = none
  m_lcm : mg "lcm" = some (.builtin "math.lcm")
  g_BadCrackCalendar : mg "BadCrackCalendar" = some (.ref c_BadCrackCalendar)
  g_BadHeight : mg "BadHeight" = some (.ref c_BadHeight)
  g_CrackCalendar : mg "CrackCalendar" = some (.ref c_CrackCalendar)
  x_BadCrackCalendar : Z.ErrF K c_BadCrackCalendar
  q_BadCrackCalendar_BadHeight : PySem.W.exmOne K (.ref c_BadCrackCalendar) (.ref c_BadHeight) = some false
  n_BadCrackCalendar_what : PySem.W.findIn K (.ref c_BadCrackCalendar) "what" = some none
  x_BadHeight : Z.ErrF K c_BadHeight
  y_BadHeight : Z.ErrF0 K c_BadHeight
  q_BadHeight_BadCrackCalendar : PySem.W.exmOne K (.ref c_BadHeight) (.ref c_BadCrackCalendar) = some false
  i_CrackCalendar : Z.InsF K c_CrackCalendar
  n_CrackCalendar_firsts : NoAttr K c_CrackCalendar "firsts"
  n_CrackCalendar_period : NoAttr K c_CrackCalendar "period"
  n_CrackCalendar_growth : NoAttr K c_CrackCalendar "growth"
  d_BadCrackCalendar___init__ : ∃ f fd, Fun K "__init__" "BadCrackCalendar.__init__" s_BadCrackCalendar___init__ f fd ∧ Z.ErrI K c_BadCrackCalendar f
  d_is_sequence : ∃ f fd, Fun K "is_sequence" "is_sequence" s_is_sequence f fd ∧ mg "is_sequence" = some (.ref f)
  d_is_whole : ∃ f fd, FunD K "is_whole" "is_whole" (defArgs s_is_whole) (defBody s_is_whole) (defScope s_is_whole) [.non, .non] [] f fd ∧ mg "is_whole" = some (.ref f)
  d_CrackCalendar___init__ : ∃ f fd, Fun K "__init__" "CrackCalendar.__init__" s_CrackCalendar___init__ f fd ∧ Mk K c_CrackCalendar f
  d__law_at : ∃ f fd, Fun K "_law_at" "_law_at" s__law_at f fd ∧ mg "_law_at" = some (.ref f)
  d__price_at : ∃ f fd, Fun K "_price_at" "_price_at" s__price_at f fd ∧ mg "_price_at" = some (.ref f)
  d__lead_at : ∃ f fd, Fun K "_lead_at" "_lead_at" s__lead_at f fd ∧ mg "_lead_at" = some (.ref f)
  d_stays_stronger : ∃ f fd, Fun K "stays_stronger" "stays_stronger" s_stays_stronger f fd ∧ mg "stays_stronger" = some (.ref f)
  d__law_least_common : ∃ f fd, Fun K "_law_least_common" "_law_least_common" s__law_least_common f fd ∧ mg "_law_least_common" = some (.ref f)
  d__law_whole : ∃ f fd, Fun K "_law_whole" "_law_whole" s__law_whole f fd ∧ mg "_law_whole" = some (.ref f)
  d__law_stronger : ∃ f fd, Fun K "_law_stronger" "_law_stronger" s__law_stronger f fd ∧ mg "_law_stronger" = some (.ref f)
  d__law_mix : ∃ f fd, Fun K "_law_mix" "_law_mix" s__law_mix f fd ∧ mg "_law_mix" = some (.ref f)
  d__law_draw : ∃ f fd, Fun K "_law_draw" "_law_draw" s__law_draw f fd ∧ mg "_law_draw" = some (.ref f)
  d__law_pick : ∃ f fd, Fun K "_law_pick" "_law_pick" s__law_pick f fd ∧ mg "_law_pick" = some (.ref f)
  d__law_calendar_drawn : ∃ f fd, Fun K "_law_calendar_drawn" "_law_calendar_drawn" s__law_calendar_drawn f fd ∧ mg "_law_calendar_drawn" = some (.ref f)
  d__check_height : ∃ f fd, Fun K "_check_height" "_check_height" s__check_height f fd ∧ mg "_check_height" = some (.ref f)
  d_crack_at : ∃ f fd, Fun K "crack_at" "crack_at" s_crack_at f fd ∧ mg "crack_at" = some (.ref f)
  d__law_hand : ∃ f fd, Fun K "_law_hand" "_law_hand" s__law_hand f fd ∧ mg "_law_hand" = some (.ref f)
  d_law : ∃ f fd, Fun K "law" "law" s_law f fd ∧ mg "law" = some (.ref f)
section
variable {P : Program} {w : World} {K : PySem.W.Frag} {mg : Str → Option Value} {base : Heap} {c_BadCrackCalendar c_BadHeight c_CrackCalendar : Addr}
theorem sc_BadCrackCalendar___init__ : FnScope ["self", "what"] ["self", "what"] (defScope s_BadCrackCalendar___init__) := ⟨rfl, rfl, rfl, by decide +kernel, rfl, by decide +kernel, by decide +kernel⟩

theorem fn_BadCrackCalendar___init__ (T : Txt K mg c_BadCrackCalendar c_BadHeight c_CrackCalendar) {f : Addr} {fd : FuncData} (F : Fun K "__init__" "BadCrackCalendar.__init__" s_BadCrackCalendar___init__ f fd) : FnOk P w K mg base CX0 1 f fd ["self", "what"] (Z.spErr1 K "what") := by
  refine F.ok sc_BadCrackCalendar___init__ (fun vs H Q E h => ?_) (fun cdv A outer s H vs Q E hr h => ?_)
  · obtain ⟨a, b, rfl, _⟩ := h; rfl
  · obtain ⟨a, b, rfl, h⟩ := h
    refine ⟨_, (pss_one (ps_ost (pv 0) (pv 1))), ?_⟩
    try dsimp only [cxOf, Cx.nox, Cx.wish]
    refine Z.at_start (σ' := [some a, some b]) rfl ?_
    exact Z.init1_run h
theorem ok_BadCrackCalendar___init__ (T : Txt K mg c_BadCrackCalendar c_BadHeight c_CrackCalendar) : Z.ErrO P w K mg base c_BadCrackCalendar 1 ["self", "what"] (Z.spErr1 K "what") := by
  obtain ⟨f, fd, F, i⟩ := T.d_BadCrackCalendar___init__
  exact ⟨f, fd, i, (F.binds (ps := ["self", "what"]) fun _ _ _ _ _ _ us hl => match us, hl with | [_, _], _ => rfl), fn_BadCrackCalendar___init__ T F⟩
theorem sc_is_sequence : FnScope ["thing", "low", "high"] ["thing", "low", "high"] (defScope s_is_sequence) := ⟨rfl, rfl, rfl, by decide +kernel, rfl, by decide +kernel, by decide +kernel⟩
/-- the length within bounds, of a list or a tuple -/
def sp_is_sequence (K : PySem.W.Frag) : Sp := Z.Sp3 fun a b c H Q E => ∃ (L : List Z.En) (o : Option (List V)) (lo hi : Int), Z.Fx H L ∧ Z.SeqIs L a o ∧ b = .int lo ∧ c = .int hi ∧ ∀ H', Z.Fx H' L → Q (.bl (Z.inLen lo hi o)) H'
theorem fn_is_sequence (T : Txt K mg c_BadCrackCalendar c_BadHeight c_CrackCalendar) {f : Addr} {fd : FuncData} (F : Fun K "is_sequence" "is_sequence" s_is_sequence f fd) : FnOk P w K mg base CX0 1 f fd ["thing", "low", "high"] (sp_is_sequence K) := by
  refine F.ok sc_is_sequence (fun vs H Q E h => ?_) (fun cdv A outer s H vs Q E hr h => ?_)
  · obtain ⟨a, b, c, rfl, _⟩ := h; rfl
  · obtain ⟨a, b, c, rfl, h⟩ := h
    refine ⟨_, (pss_one (ps_ret (pe_andT (pe_callB Z.zIsi (by rfl) T.b_isinstance (by decide +kernel) (pa_cons (pv 0) (pa_cons (pe_tup (pa_cons (pe_bltn (by rfl) T.b_list (by decide +kernel) (show RelV (.ty "list") _ from rfl)) (pa_cons (pe_bltn (by rfl) T.b_tuple (by decide +kernel) (show RelV (.ty "tuple") _ from rfl)) pa_nil))) pa_nil))) (pe_one (pe_chain Z.zLe Z.zLe (pv 1) (pe_callB Z.zLen (by rfl) T.b_len (by decide +kernel) (pa_cons (pv 0) pa_nil)) (pv 2)))))), ?_⟩
    try dsimp only [cxOf, Cx.nox, Cx.wish]
    refine Z.at_start (σ' := [some a, some b, some c]) rfl ?_
    obtain ⟨L, o, lo, hi, F, hs, rfl, rfl, k⟩ := h
    walk_at "z"
    rename_i p H1 F1
    have F2 := F1.sub (L' := L) (by walk_at "zsub")
    cases hs with
    | lst m =>
      refine Z.wIsiLT (Z.HasK.lst (F2.lst m)) F1 (by walk_at "zm") ?_
      walk_at "zz"
      all_goals (have e := k _ F2; simpa [Z.inLen, *] using e)
    | tup m =>
      refine Z.wIsiLT (Z.HasK.tup (F2.tup m)) F1 (by walk_at "zm") ?_
      walk_at "zz"
      all_goals (have e := k _ F2; simpa [Z.inLen, *] using e)
    | non => exact Z.wIsiLT .non F1 (by walk_at "zm") (by walk_at "z"; exact k _ F2)
    | bl b => exact Z.wIsiLT (.bl b) F1 (by walk_at "zm") (by walk_at "z"; exact k _ F2)
    | int i => exact Z.wIsiLT (.int i) F1 (by walk_at "zm") (by walk_at "z"; exact k _ F2)
    | str z => exact Z.wIsiLT (.str z) F1 (by walk_at "zm") (by walk_at "z"; exact k _ F2)
theorem ok_is_sequence (T : Txt K mg c_BadCrackCalendar c_BadHeight c_CrackCalendar) : Z.Ok CX0 P w K mg base "is_sequence" 1 ["thing", "low", "high"] [] (sp_is_sequence K) := by
  obtain ⟨f, fd, F, g⟩ := T.d_is_sequence
  exact Z.mkOk F g (F.binds (ps := ["thing", "low", "high"]) fun _ _ _ _ _ _ us hl => match us, hl with | [_, _, _], _ => rfl) (fn_is_sequence T F)
theorem use_is_sequence {H : Hp} {Q : VK} {E : XK} {L : List Z.En} {a : V} {o : Option (List V)} {lo hi : Int} (F : Z.Fx H L) (s : Z.SeqIs L a o) (k : ∀ H', Z.Fx H' L → Q (.bl (Z.inLen lo hi o)) H') : sp_is_sequence K [a, .int lo, .int hi] H Q E :=
  ⟨_, _, _, rfl, L, o, lo, hi, F, s, rfl, rfl, k⟩
local macro_rules | `(tactic| walk_at "zc") => `(tactic| ((with_reducible refine' use_is_sequence ?zf ?zs ?_); (case zf => walk_at "zF"); (case zs => walk_at "zis"); with_reducible intro _ _))
theorem sc_is_whole : FnScope ["thing", "low", "high"] ["thing", "low", "high"] (defScope s_is_whole) := ⟨rfl, rfl, rfl, by decide +kernel, rfl, by decide +kernel, by decide +kernel⟩
/-- what a bound may be -/
def isBd (v : V) : Prop := v = .non ∨ ∃ i, v = .int i
def sp_is_whole (K : PySem.W.Frag) : Sp := Z.Sp3 fun a b c H Q E => ∃ k, Z.HasK K H a k ∧ isBd b ∧ isBd c ∧ Q (.bl (Z.inB a b c)) H
theorem fn_is_whole (T : Txt K mg c_BadCrackCalendar c_BadHeight c_CrackCalendar) {f : Addr} {fd : FuncData} (F : FunD K "is_whole" "is_whole" (defArgs s_is_whole) (defBody s_is_whole) (defScope s_is_whole) [.non, .non] [] f fd) : FnOk P w K mg base CX0 1 f fd ["thing", "low", "high"] (sp_is_whole K) := by
  refine F.ok (CX := CX0) sc_is_whole (fun vs H Q E h => ?_) (fun cdv A outer s H vs Q E hr h => ?_)
  · obtain ⟨a, b, c, rfl, _⟩ := h; rfl
  · obtain ⟨a, b, c, rfl, h⟩ := h
    refine ⟨_, (pss_cons (ps_if (PW.pt (pw_or (pt_not (Z.pt_truN (pe_callB Z.zIsi (by rfl) T.b_isinstance (by decide +kernel) (pa_cons (pv 0) (pa_cons (pe_bltn (by rfl) T.b_int (by decide +kernel) (show RelV (.ty "int") _ from rfl)) pa_nil))))) (pw_or1 (Z.pt_truN (pe_callB Z.zIsi (by rfl) T.b_isinstance (by decide +kernel) (pa_cons (pv 0) (pa_cons (pe_bltn (by rfl) T.b_bool (by decide +kernel) (show RelV (.ty "bool") _ from rfl)) pa_nil)))))))
        (pss_one (ps_ret pe_bl))
        pss_nil)
      (pss_one (ps_ret (pe_andT (pe_orT (pe_cmpR Z.zIs (pv 1) pe_non (nomark _)) (pe_one (pe_cmpR Z.zGe (pv 0) (pv 1) (nomark _)))) (pe_one (pe_orT (pe_cmpR Z.zIs (pv 2) pe_non (nomark _)) (pe_one (pe_cmpR Z.zLe (pv 0) (pv 2) (nomark _))))))))), ?_⟩
    try dsimp only [cxOf, Cx.nox, Cx.wish]
    refine Z.at_start (σ' := [some a, some b, some c]) rfl ?_
    obtain ⟨k, hk, hb, hc, q⟩ := h
    walk_at "z"
    refine Z.wIsiInt hk ?_
    cases hk with
    | int i =>
      walk_at "z"
      refine Z.wIsiBool (.int i) ?_
      rcases hb with rfl | ⟨lo, rfl⟩ <;> rcases hc with rfl | ⟨hi, rfl⟩ <;> walk_at "zz"
      all_goals simpa [Z.inB, *] using q
    | bl b =>
      walk_at "z"
      refine Z.wIsiBool (.bl b) ?_
      walk_at "z"
      exact q
    | _ =>
      walk_at "z"
      exact q
theorem ok_is_whole_1 (T : Txt K mg c_BadCrackCalendar c_BadHeight c_CrackCalendar) : Z.Ok CX0 P w K mg base "is_whole" 1 ["thing", "low", "high"] [.non, .non] (sp_is_whole K) := by
  obtain ⟨f, fd, F, g⟩ := T.d_is_whole
  obtain ⟨ds, v, b⟩ := F.binds1 (ps := ["thing", "low", "high"]) 1 0 (by decide) rfl fun T kV doc pm an cdv ct us its h1 h2 => match us, h1, its, h2 with | [_], _, [_, _], _ => ⟨_, rfl, rfl⟩
  exact ⟨f, fd, ds, g, F.kp, b, v, fn_is_whole T F⟩
theorem ok_is_whole_2 (T : Txt K mg c_BadCrackCalendar c_BadHeight c_CrackCalendar) : Z.Ok CX0 P w K mg base "is_whole" 1 ["thing", "low", "high"] [.non] (sp_is_whole K) := by
  obtain ⟨f, fd, F, g⟩ := T.d_is_whole
  obtain ⟨ds, v, b⟩ := F.binds1 (ps := ["thing", "low", "high"]) 2 1 (by decide) rfl fun T kV doc pm an cdv ct us its h1 h2 => match us, h1, its, h2 with | [_, _], _, [_, _], _ => ⟨_, rfl, rfl⟩
  exact ⟨f, fd, ds, g, F.kp, b, v, fn_is_whole T F⟩
theorem ok_is_whole_3 (T : Txt K mg c_BadCrackCalendar c_BadHeight c_CrackCalendar) : Z.Ok CX0 P w K mg base "is_whole" 1 ["thing", "low", "high"] [] (sp_is_whole K) := by
  obtain ⟨f, fd, F, g⟩ := T.d_is_whole
  obtain ⟨ds, v, b⟩ := F.binds1 (ps := ["thing", "low", "high"]) 3 2 (by decide) rfl fun T kV doc pm an cdv ct us its h1 h2 => match us, h1, its, h2 with | [_, _, _], _, [_, _], _ => ⟨_, rfl, rfl⟩
  exact ⟨f, fd, ds, g, F.kp, b, v, fn_is_whole T F⟩
theorem use_is_whole {H : Hp} {Q : VK} {E : XK} {a b c : V} {k : Z.Kd} (hk : Z.HasK K H a k) (hb : isBd b) (hc : isBd c) (q : Q (.bl (Z.inB a b c)) H) : sp_is_whole K [a, b, c] H Q E := ⟨_, _, _, rfl, k, hk, hb, hc, q⟩
local macro_rules | `(tactic| walk_at "zc") => `(tactic| ((with_reducible refine' use_is_whole ?zk ?zb ?zc ?_); (case zk => walk_at "zk"); (case zb => first | exact Or.inl rfl | exact Or.inr ⟨_, rfl⟩); (case zc => first | exact Or.inl rfl | exact Or.inr ⟨_, rfl⟩)))
/-- how many turns behind the first prices -/
def trn (m p h : Int) : Int := if 0 < -(-(h - m) / p) then -(-(h - m) / p) else 0
theorem trn_of {m p h q : Int} (hp : 0 < p) (h1 : h - q * p ≤ m) (h2 : m - p < h - q * p) : -(-(h - m) / p) = q := by
  have e : -(h - m) = (m - h + q * p) + p * (-q) := by rw [Int.mul_neg, Int.mul_comm p q]; omega
  rw [e, Int.add_mul_ediv_left _ _ (by omega), Int.ediv_eq_zero_of_lt (by omega) (by omega)]
  omega
theorem trn_ceil {m p h : Int} (hp : 0 < p) : h - (-(-(h - m) / p)) * p ≤ m ∧ m - p < h - (-(-(h - m) / p)) * p := by
  have a := Int.emod_add_mul_ediv (-(h - m)) p
  have b := Int.emod_nonneg (-(h - m)) (show p ≠ 0 by omega)
  have c := Int.emod_lt_of_pos (-(h - m)) hp
  have e : -(-(h - m) / p) * p = -(p * (-(h - m) / p)) := by rw [Int.neg_mul, Int.mul_comm]
  rw [e]
  omega
theorem trn_spec {m p h : Int} (hp : 0 < p) : 0 ≤ trn m p h ∧ h - trn m p h * p ≤ m ∧ (trn m p h = 0 ∨ m - p < h - trn m p h * p) := by
  obtain ⟨a, b⟩ := trn_ceil (m := m) (h := h) hp
  unfold trn
  generalize -(-(h - m) / p) = q at *
  split
  · exact ⟨by omega, a, .inr b⟩
  · rename_i hq
    refine ⟨by omega, ?_, .inl rfl⟩
    have : q * p ≤ 0 := Int.mul_nonpos_of_nonpos_of_nonneg (by omega) (by omega)
    omega
theorem trn_law {m p h : Int} (hp : 0 < p) : (if 0 < (h - m + p - 1) / p then (h - m + p - 1) / p else 0) = trn m p h := by
  have e : (h - m + p - 1) / p = -(-(h - m) / p) := by
    refine (trn_of hp ?_ ?_).symm
    · have a := Int.emod_add_mul_ediv (h - m + p - 1) p
      have c := Int.emod_lt_of_pos (h - m + p - 1) hp
      rw [Int.mul_comm _ p]
      omega
    · have a := Int.emod_add_mul_ediv (h - m + p - 1) p
      have b := Int.emod_nonneg (h - m + p - 1) (show p ≠ 0 by omega)
      rw [Int.mul_comm _ p]
      omega
  rw [e]
  rfl
theorem trn_next {m p h : Int} (hp : 0 < p) (hh : m - p < h) : trn m p (h + p) = trn m p h + 1 := by
  obtain ⟨a, b⟩ := trn_ceil (m := m) (h := h) hp
  have q0 : 0 ≤ -(-(h - m) / p) := by
    apply Int.not_lt.mp
    intro hn
    have : (-(-(h - m) / p)) * p ≤ (-1) * p := Int.mul_le_mul_of_nonneg_right (by omega) (by omega)
    omega
  have e : -(-(h + p - m) / p) = -(-(h - m) / p) + 1 := by
    refine trn_of hp ?_ ?_ <;> rw [Int.add_mul] <;> omega
  unfold trn
  rw [e]
  generalize -(-(h - m) / p) = q at *
  split <;> split <;> omega
structure Cal where
  fs : List Int
  p : Int
  g : Int
def Cal.m (c : Cal) : Int := c.fs.length
def Cal.ok (c : Cal) : Prop := 1 ≤ c.p ∧ c.p ≤ c.m ∧ c.m ≤ 100 ∧ 0 ≤ c.g ∧ c.g < 1000 ∧ ∀ f ∈ c.fs, 0 ≤ f
def Cal.at (c : Cal) (h : Int) : Int := c.fs.getD (h - trn c.m c.p h * c.p - 1).toNat 0 + trn c.m c.p h * c.g
theorem Cal.next {c : Cal} (o : c.ok) {h : Int} (hh : c.m - c.p < h) : c.at (h + c.p) = c.at h + c.g := by
  unfold Cal.at
  rw [trn_next (by have := o.1; omega) hh, Int.add_mul, Int.add_mul]
  have e : h + c.p - (trn c.m c.p h * c.p + 1 * c.p) - 1 = h - trn c.m c.p h * c.p - 1 := by omega
  rw [e]
  omega
theorem Cal.nexts {c : Cal} (o : c.ok) {h : Int} (hh : c.m - c.p < h) : ∀ k : Nat, c.at (h + k * c.p) = c.at h + k * c.g
  | 0 => by simp
  | k + 1 => by
    have p1 := o.1
    have hk : 0 ≤ (k : Int) * c.p := Int.mul_nonneg (by omega) (by omega)
    have ih := Cal.nexts o hh k
    have e : h + ((k + 1 : Nat) : Int) * c.p = h + k * c.p + c.p := by rw [Int.natCast_add, Int.add_mul]; omega
    rw [e, Cal.next o (by omega), ih]
    rw [Int.natCast_add, Int.add_mul]; omega
def lead (c d : Cal) (h : Int) : Int := c.at h - d.at h
def big (c d : Cal) : Int := if d.m > c.m then d.m else c.m
def lcmI (c d : Cal) : Int := ((Nat.lcm c.p.natAbs d.p.natAbs : Nat) : Int)
def gain (c d : Cal) : Int := c.g * (lcmI c d / c.p) - d.g * (lcmI c d / d.p)
theorem lcm_c (c d : Cal) (oc : c.ok) : ∃ k : Nat, lcmI c d = k * c.p ∧ lcmI c d / c.p = k := by
  obtain ⟨k, hk⟩ := Nat.dvd_lcm_left c.p.natAbs d.p.natAbs
  have e : ((c.p.natAbs : Nat) : Int) = c.p := Int.natAbs_of_nonneg (by have := oc.1; omega)
  have e1 : lcmI c d = k * c.p := by
    unfold lcmI
    rw [hk, Int.natCast_mul, e, Int.mul_comm]
  exact ⟨k, e1, by rw [e1]; exact Int.mul_ediv_cancel _ (by have := oc.1; omega)⟩
theorem lcmI_comm (c d : Cal) : lcmI c d = lcmI d c := by unfold lcmI; rw [Nat.lcm_comm]
theorem lcm_pos {c d : Cal} (oc : c.ok) (od : d.ok) : 0 < lcmI c d := by
  have : 0 < Nat.lcm c.p.natAbs d.p.natAbs := Nat.lcm_pos (by have := oc.1; omega) (by have := od.1; omega)
  unfold lcmI
  omega
theorem lcm_le {c d : Cal} (oc : c.ok) (od : d.ok) : lcmI c d ≤ 10000 := by
  have h1 : Nat.lcm c.p.natAbs d.p.natAbs ≤ c.p.natAbs * d.p.natAbs := Nat.le_of_dvd (Nat.mul_pos (by have := oc.1; omega) (by have := od.1; omega)) (Nat.lcm_dvd_mul ..)
  obtain ⟨a, b, b2, _⟩ := oc
  obtain ⟨a', b', b2', _⟩ := od
  have h2 : c.p.natAbs * d.p.natAbs ≤ 100 * 100 := Nat.mul_le_mul (by omega) (by omega)
  unfold lcmI
  omega
theorem lead_next {c d : Cal} (oc : c.ok) (od : d.ok) {h : Int} (hh : big c d < h) : lead c d (h + lcmI c d) = lead c d h + gain c d := by
  obtain ⟨k, e1, e2⟩ := lcm_c c d oc
  obtain ⟨j, f1, f2⟩ := lcm_c d c od
  rw [lcmI_comm] at f1 f2
  have hc : c.m ≤ big c d := by unfold big; split <;> omega
  have hd : d.m ≤ big c d := by unfold big; split <;> omega
  have pc := oc.1
  have pd := od.1
  unfold lead gain
  rw [e2, f2]
  have a := Cal.nexts oc (h := h) (by omega) k
  have b := Cal.nexts od (h := h) (by omega) j
  rw [← e1] at a
  rw [← f1] at b
  rw [a, b, Int.mul_comm c.g, Int.mul_comm d.g]
  omega
theorem lead_nexts {c d : Cal} (oc : c.ok) (od : d.ok) {h : Int} (hh : big c d < h) : ∀ k : Nat, lead c d (h + k * lcmI c d) = lead c d h + k * gain c d
  | 0 => by simp
  | k + 1 => by
    have l0 := lcm_pos oc od
    have hk : 0 ≤ (k : Int) * lcmI c d := Int.mul_nonneg (by omega) (by omega)
    have ih := lead_nexts oc od hh k
    have e : h + ((k + 1 : Nat) : Int) * lcmI c d = h + k * lcmI c d + lcmI c d := by rw [Int.natCast_add, Int.add_mul]; omega
    rw [e, lead_next oc od (by omega), ih, Int.natCast_add, Int.add_mul]; omega
/-- where a height behind all first prices stands -/
theorem fold_at {c d : Cal} (oc : c.ok) (od : d.ok) {h : Int} (hh : big c d < h) : ∃ (i k : Nat), (i : Int) < lcmI c d ∧ h = big c d + 1 + i + k * lcmI c d ∧ lead c d h = lead c d (big c d + 1 + i) + k * gain c d := by
  have l0 := lcm_pos oc od
  have a := Int.emod_add_mul_ediv (h - (big c d + 1)) (lcmI c d)
  have b := Int.emod_nonneg (h - (big c d + 1)) (show lcmI c d ≠ 0 by omega)
  have e := Int.emod_lt_of_pos (h - (big c d + 1)) l0
  have f : 0 ≤ (h - (big c d + 1)) / lcmI c d := Int.ediv_nonneg (by omega) (by omega)
  obtain ⟨i, hi⟩ := Int.eq_ofNat_of_zero_le b
  obtain ⟨k, hk⟩ := Int.eq_ofNat_of_zero_le f
  rw [hi, hk] at a
  rw [hi] at e
  have e1 : h = big c d + 1 + i + k * lcmI c d := by rw [Int.mul_comm (lcmI c d)] at a; omega
  refine ⟨i, k, e, e1, ?_⟩
  conv => lhs; rw [e1]
  exact lead_nexts oc od (by omega) k
/-- no height is told -/
def GoodN (c d : Cal) : Prop := gain c d < 0 ∨ (gain c d = 0 ∧ ∃ i : Nat, (i : Int) < lcmI c d ∧ lead c d (big c d + 1 + i) ≤ 0)
/-- t is told -/
def GoodT (c d : Cal) (t : Int) : Prop := 1 ≤ t ∧ ¬ GoodN c d ∧ (1 < t → lead c d (t - 1) ≤ 0) ∧ ∀ h, t ≤ h → 0 < lead c d h
theorem good_walk {c d : Cal} (oc : c.ok) (od : d.ok) (hn : ¬ GoodN c d) (hl : ∀ i : Nat, (i : Int) < lcmI c d → 0 < lead c d (big c d + 1 + i)) {t : Int} (t0 : 0 ≤ t) (tb : t ≤ big c d)
    (h1 : 0 < t → lead c d t ≤ 0) (h2 : ∀ h, t < h → h ≤ big c d → 0 < lead c d h) : GoodT c d (t + 1) := by
  refine ⟨by omega, hn, fun h => ?_, fun h hh => ?_⟩
  · rw [Int.add_sub_cancel]
    exact h1 (by omega)
  · by_cases hb : h ≤ big c d
    · exact h2 h (by omega) hb
    · obtain ⟨i, k, hi, _, e⟩ := fold_at oc od (h := h) (by omega)
      have g0 : 0 ≤ gain c d := Int.not_lt.mp fun g => hn (.inl g)
      have := hl i hi
      have : 0 ≤ (k : Int) * gain c d := Int.mul_nonneg (by omega) g0
      omega
theorem good_max {c d : Cal} (oc : c.ok) (od : d.ok) (hn : ¬ GoodN c d) {ns : List Int} (h1 : ∀ i : Nat, (i : Int) < lcmI c d → lead c d (big c d + 1 + i) ≤ 0 → big c d + 1 + i + -lead c d (big c d + 1 + i) / gain c d * lcmI c d ∈ ns)
    (h2 : ∀ n ∈ ns, ∃ i : Nat, (i : Int) < lcmI c d ∧ lead c d (big c d + 1 + i) ≤ 0 ∧ n = big c d + 1 + i + -lead c d (big c d + 1 + i) / gain c d * lcmI c d) {t : Int} (ht : t ∈ ns) (hm : ∀ n ∈ ns, n ≤ t) : GoodT c d (t + 1) := by
  have l0 := lcm_pos oc od
  obtain ⟨i, hi, hl, et⟩ := h2 t ht
  have g0 : 0 < gain c d := by
    apply Int.not_le.mp
    intro g
    apply hn
    by_cases g1 : gain c d < 0
    · exact .inl g1
    · exact .inr ⟨by omega, i, hi, hl⟩
  have cm : 0 ≤ c.m := by unfold Cal.m; omega
  have hb : 0 ≤ big c d := by unfold big; split <;> omega
  have hq : 0 ≤ -lead c d (big c d + 1 + i) / gain c d := Int.ediv_nonneg (by omega) (by omega)
  have hql : 0 ≤ -lead c d (big c d + 1 + i) / gain c d * lcmI c d := Int.mul_nonneg hq (by omega)
  refine ⟨by omega, hn, fun _ => ?_, fun h hh => ?_⟩
  · rw [Int.add_sub_cancel, et]
    obtain ⟨q, eq⟩ := Int.eq_ofNat_of_zero_le hq
    have a := Int.emod_add_mul_ediv (-lead c d (big c d + 1 + i)) (gain c d)
    have b := Int.emod_nonneg (-lead c d (big c d + 1 + i)) (show gain c d ≠ 0 by omega)
    rw [eq] at a ⊢
    rw [lead_nexts oc od (by omega)]
    rw [Int.mul_comm] at a
    omega
  · apply Int.not_le.mp
    intro hle
    obtain ⟨j, k, hj, eh, e⟩ := fold_at oc od (h := h) (by omega)
    have hkg : 0 ≤ (k : Int) * gain c d := Int.mul_nonneg (by omega) (by omega)
    have hlj : lead c d (big c d + 1 + j) ≤ 0 := by omega
    have hle2 := hm _ (h1 j hj hlj)
    have hk : (k : Int) ≤ -lead c d (big c d + 1 + j) / gain c d := (Int.le_ediv_iff_mul_le g0).mpr (by omega)
    have := Int.mul_le_mul_of_nonneg_right hk (show 0 ≤ lcmI c d by omega)
    omega
theorem good_self {c : Cal} (oc : c.ok) : GoodN c c := by
  refine .inr ⟨Int.sub_self _, 0, lcm_pos oc oc, ?_⟩
  show c.at _ - c.at _ ≤ 0
  omega
theorem gain_lt {c d : Cal} (oc : c.ok) (od : d.ok) : gain c d < 10000001 ∧ -10000001 < gain c d := by
  have L := lcm_le oc od
  have l0 := lcm_pos oc od
  obtain ⟨pc, _, _, gc0, gc, _⟩ := oc
  obtain ⟨pd, _, _, gd0, gd, _⟩ := od
  have a : lcmI c d / c.p ≤ 10000 := Int.le_trans (Int.ediv_le_self _ (by omega)) L
  have b : lcmI c d / d.p ≤ 10000 := Int.le_trans (Int.ediv_le_self _ (by omega)) L
  have a0 : 0 ≤ lcmI c d / c.p := Int.ediv_nonneg (by omega) (by omega)
  have b0 : 0 ≤ lcmI c d / d.p := Int.ediv_nonneg (by omega) (by omega)
  have h1 : c.g * (lcmI c d / c.p) ≤ 1000 * 10000 := Int.mul_le_mul (by omega) a a0 (by omega)
  have h2 : d.g * (lcmI c d / d.p) ≤ 1000 * 10000 := Int.mul_le_mul (by omega) b b0 (by omega)
  have h3 := Int.mul_nonneg gc0 a0
  have h4 := Int.mul_nonneg gd0 b0
  unfold gain
  omega
/-- within the first prices -/
theorem Cal.ix {c : Cal} (o : c.ok) {h : Int} (hh : 1 ≤ h) : 0 ≤ h - trn c.m c.p h * c.p - 1 ∧ h - trn c.m c.p h * c.p - 1 < c.m := by
  obtain ⟨a, b, e⟩ := trn_spec (m := c.m) (p := c.p) (h := h) (by have := o.1; omega)
  have := o.2.1
  rcases e with e | e
  · rw [e] at b ⊢; omega
  · omega
theorem sc_CrackCalendar___init__ : FnScope ["self", "firsts", "period", "growth", "price"] ["self", "firsts", "period", "growth"] (defScope s_CrackCalendar___init__) := ⟨rfl, rfl, rfl, by decide +kernel, rfl, by decide +kernel, by decide +kernel⟩
/-- a calendar's attributes -/
def ccF (b p g : V) : List (Str × V) := putF "growth" g (putF "period" p (putF "firsts" b []))
theorem putF_len (f : Str) (v : V) : ∀ l : List (Str × V), (putF f v l).length ≤ l.length + 1
  | [] => Nat.le_refl _
  | (g, u) :: r => by
    have ih := putF_len f v r
    unfold putF
    split
    · exact Nat.le_succ _
    · exact Nat.succ_le_succ ih
theorem cc_firsts (b l r : V) : (ccF b l r).lookup ("firsts" : Str) = some b := by
  unfold ccF
  rw [lookup_putF, if_neg (by decide +kernel), lookup_putF, if_neg (by decide +kernel), lookup_putF, if_pos rfl]
theorem cc_period (b l r : V) : (ccF b l r).lookup ("period" : Str) = some l := by
  unfold ccF
  rw [lookup_putF, if_neg (by decide +kernel), lookup_putF, if_pos rfl]
theorem cc_growth (b l r : V) : (ccF b l r).lookup ("growth" : Str) = some r := by
  unfold ccF
  rw [lookup_putF, if_pos rfl]
/-- at x a calendar c -/
def CalIn (cC : Addr) (L : List Z.En) (x : Addr) (c : Cal) : Prop := ∃ dx p, Z.En.ob x (.ins cC dx (ccF (.ref p) (.int c.p) (.int c.g))) ∈ L ∧ Z.En.ob p (.tup (c.fs.map V.int)) ∈ L
theorem CalIn.le {cC : Addr} {L L2 : List Z.En} {x : Addr} {c : Cal} (s : CalIn cC L x c) (h : L.Sublist L2) : CalIn cC L2 x c := by
  obtain ⟨dx, p, m1, m2⟩ := s
  exact ⟨dx, p, h.subset m1, h.subset m2⟩
def sp_CrackCalendar___init__ (K : PySem.W.Frag) (cC : Addr) : Sp := Z.Sp4 fun a b c d H Q E => ∃ (L : List Z.En) (x dx : Addr) (k : Cal), a = .ref x ∧
  Z.Fx H (.ob x (.ins cC dx []) :: .ob dx (.own x) :: L) ∧ Z.SeqIs L b (some (k.fs.map V.int)) ∧ c = .int k.p ∧ d = .int k.g ∧ k.ok ∧
  (∀ L1 H', L.Sublist L1 → CalIn cC L1 x k → Z.Fx H' L1 → Q .non H')
theorem fn_CrackCalendar___init__ (T : Txt K mg c_BadCrackCalendar c_BadHeight c_CrackCalendar) {f : Addr} {fd : FuncData} (F : Fun K "__init__" "CrackCalendar.__init__" s_CrackCalendar___init__ f fd) : FnOk P w K mg base (L2.CX P w) 3 f fd ["self", "firsts", "period", "growth"] (sp_CrackCalendar___init__ K c_CrackCalendar) := by
  have O_BadCrackCalendar___init__ := ok_BadCrackCalendar___init__ (P := P) (w := w) (base := base) T
  have O_is_sequence := ok_is_sequence (P := P) (w := w) (base := base) T
  have O_is_whole_1 := ok_is_whole_1 (P := P) (w := w) (base := base) T
  have O_is_whole_2 := ok_is_whole_2 (P := P) (w := w) (base := base) T
  have O_is_whole_3 := ok_is_whole_3 (P := P) (w := w) (base := base) T
  refine F.okX sc_CrackCalendar___init__ (fun vs H Q E h => ?_) (fun cdv A outer s H vs Q E hr h => ?_)
  · obtain ⟨a, b, c, d, rfl, _⟩ := h; rfl
  · obtain ⟨a, b, c, d, rfl, h⟩ := h
    have TK := takes_of (X := cxOf (L2.CX P w) P w K mg base ["self", "firsts", "period", "growth", "price"] "CrackCalendar.__init__" (defScope s_CrackCalendar___init__) f cdv A outer s H E) rfl rfl rfl rfl
    refine ⟨_, (pss_cons (ps_if (PW.pt (pw_or (pt_not (Z.pt_truN (Z.pe_callO O_is_sequence (by rfl) (hr.mono (by decide)) pass0 (pa_cons (pv 1) (pa_cons pe_int (pa_cons pe_int pa_nil)))))) (pw_or1 (pt_not (Z.pt_truN (pe_callB (cr_all rfl) (by rfl) T.b_all (by decide +kernel) (pa_cons (by exact (pe_lc (own := [("price", 4)]) (g := (gName 4)) (by rfl) sc_CrackCalendar___init__.nd (Z.pi_seq (pv 1)) (blkOk_by (own := [("price", 4)]) (N := ["self", "firsts", "period", "growth", "price"]) (sc := defScope s_CrackCalendar___init__) (by decide +kernel)) (fun _ _ _ _ _ => (by exact (pg_name (i := 4) sc_CrackCalendar___init__.nd rfl (by first | exact Or.inl rfl | exact Or.inr rfl)))) (fun _ _ _ _ _ => (by exact pts_nil)) (fun _ _ _ _ _ => (by exact (Z.pe_callO O_is_whole_2 (by rfl) (hr.mono (by decide)) pass0 (pa_cons (pv 4) (pa_cons pe_int pa_nil))))))) pa_nil)))))))
        (pss_one (ps_raise (by rfl) TK (Z.pmk_errO T.x_BadCrackCalendar O_BadCrackCalendar___init__ (hr.mono (by decide)) T.g_BadCrackCalendar (by rfl) (pa_cons pe_str pa_nil))))
        pss_nil)
      (pss_cons (ps_if (pt_not (Z.pt_truN (Z.pe_callO O_is_whole_3 (by rfl) (hr.mono (by decide)) pass0 (pa_cons (pv 2) (pa_cons pe_int (pa_cons (pe_callB Z.zLen (by rfl) T.b_len (by decide +kernel) (pa_cons (pv 1) pa_nil)) pa_nil))))))
        (pss_one (ps_raise (by rfl) TK (Z.pmk_errO T.x_BadCrackCalendar O_BadCrackCalendar___init__ (hr.mono (by decide)) T.g_BadCrackCalendar (by rfl) (pa_cons pe_str pa_nil))))
        pss_nil)
      (pss_cons (ps_if (pt_not (Z.pt_truN (Z.pe_callO O_is_whole_2 (by rfl) (hr.mono (by decide)) pass0 (pa_cons (pv 3) (pa_cons pe_int pa_nil)))))
        (pss_one (ps_raise (by rfl) TK (Z.pmk_errO T.x_BadCrackCalendar O_BadCrackCalendar___init__ (hr.mono (by decide)) T.g_BadCrackCalendar (by rfl) (pa_cons pe_str pa_nil))))
        pss_nil)
      (pss_cons (ps_fld (pv 0) (pe_callTy Z.zTuple (by rfl) T.b_tuple (by decide +kernel) (pa_cons (pv 1) pa_nil)) rfl)
      (pss_cons (ps_fld (pv 0) (pv 2) rfl)
      (pss_one (ps_fld (pv 0) (pv 3) rfl))))))), ?_⟩
    try dsimp only [cxOf, Cx.nox, Cx.wish]
    refine Z.at_start (σ' := [some a, some b, some c, some d, none]) rfl ?_
    obtain ⟨L, x, dx, k, rfl, F, hs, rfl, rfl, ho, kQ⟩ := h
    have sub : ∀ e ∈ L, e ∈ (Z.En.ob x (.ins c_CrackCalendar dx []) :: Z.En.ob dx (.own x) :: L) := fun e h => List.mem_cons_of_mem _ (List.mem_cons_of_mem _ h)
    have hs2 := hs.mono sub
    obtain ⟨p1, p2, p3, g0, g1, hf⟩ := ho
    unfold Cal.m at p2 p3
    walk_at "z"
    rename_i H1 F1
    refine Z.wIfF (by simp only [Z.inLen, Bool.not_eq_false', Bool.and_eq_true, decide_eq_true_eq, List.length_map]; omega) ?_
    walk_at "z"
    refine Z.wLcS hs2 F1 (fun i acc L' => L' = _ ∧ acc = List.replicate i (V.bl true)) ⟨rfl, rfl⟩ (fun i acc L' r e he => r.1 ▸ he) ?_ ?_
    · rintro i y D H2 acc L' hy ⟨rfl, rfl⟩ F2
      obtain ⟨z, rfl, hz⟩ := Z.int_of_map' hy
      have hi := (List.getElem?_eq_some_iff.mp hz).1
      have hz0 := hf z (List.mem_of_getElem? hz)
      walk_at "zw"
      walk_at "z"
      refine ⟨rfl, ?_⟩
      walk_at "z"
      rw [show Z.inB (.int z) (.int 0) .non = true by simp only [Z.inB, Bool.and_true, decide_eq_true_eq]; exact hz0]
      refine Z.lcPut F2 (by rw [List.length_replicate]; have := Z.line_big; omega) ⟨rfl, List.replicate_succ'.symm⟩
    rintro D acc L' H2 F2 ⟨rfl, rfl⟩
    rw [← List.map_replicate (f := V.bl)] at F2
    walk_at "z"
    refine Z.wAll (F2.lst List.mem_cons_self) ?_
    walk_at "z"
    refine Z.wIfF (by simp) ?_
    have F3 := F2.sub (L' := (Z.En.ob x (.ins c_CrackCalendar dx []) :: Z.En.ob dx (.own x) :: L)) (by walk_at "zsub")
    clear F2 F1
    have hcl := T.i_CrackCalendar.cl
    have e1 : ∀ b : Bool, b = true → (!b) = false := fun b h => by rw [h]; rfl
    cases hs with
    | @lst q xs m =>
      walk_at "z"
      refine Z.wIfF (e1 _ (by simp only [Z.inB, Bool.and_eq_true, decide_eq_true_eq, List.length_map]; omega)) ?_
      walk_at "z"
      refine Z.wIfF (e1 _ (by simp only [Z.inB, Bool.and_true, decide_eq_true_eq]; omega)) ?_
      walk_at "z"
      rename_i p H4 F4
      refine Z.wStoreF F4 (by walk_at "zm") hcl T.n_CrackCalendar_firsts (by decide) (.tail .head) fun H5 F5 => ?_
      walk_at "z"
      refine Z.wStoreF F5 (by walk_at "zm") hcl T.n_CrackCalendar_period (Nat.lt_of_le_of_lt (putF_len _ _ _) (by decide)) (.tail .head) fun H6 F6 => ?_
      walk_at "z"
      refine Z.wStoreF F6 (by walk_at "zm") hcl T.n_CrackCalendar_growth (Nat.lt_of_le_of_lt (putF_len _ _ _) (Nat.lt_of_le_of_lt (Nat.succ_le_succ (putF_len _ _ _)) (by decide))) (.tail .head) fun H7 F7 => ?_
      exact kQ _ _ (.cons _ (.cons _ (.cons _ (.refl _)))) ⟨dx, p, .tail _ List.mem_cons_self, List.mem_cons_self⟩ F7
    | @tup q xs m =>
      walk_at "z"
      refine Z.wIfF (e1 _ (by simp only [Z.inB, Bool.and_eq_true, decide_eq_true_eq, List.length_map]; omega)) ?_
      walk_at "z"
      refine Z.wIfF (e1 _ (by simp only [Z.inB, Bool.and_true, decide_eq_true_eq]; omega)) ?_
      walk_at "z"
      refine Z.wStoreF F3 (by walk_at "zm") hcl T.n_CrackCalendar_firsts (by decide) .head fun H5 F5 => ?_
      walk_at "z"
      refine Z.wStoreF F5 (by walk_at "zm") hcl T.n_CrackCalendar_period (Nat.lt_of_le_of_lt (putF_len _ _ _) (by decide)) .head fun H6 F6 => ?_
      walk_at "z"
      refine Z.wStoreF F6 (by walk_at "zm") hcl T.n_CrackCalendar_growth (Nat.lt_of_le_of_lt (putF_len _ _ _) (Nat.lt_of_le_of_lt (Nat.succ_le_succ (putF_len _ _ _)) (by decide))) .head fun H7 F7 => ?_
      exact kQ _ _ (.cons _ (.cons _ (.refl _))) ⟨dx, q, List.mem_cons_self, .tail _ (.tail _ m)⟩ F7
theorem ok_CrackCalendar___init___3 (T : Txt K mg c_BadCrackCalendar c_BadHeight c_CrackCalendar) : Z.MkO (L2.CX P w) P w K mg base c_CrackCalendar 3 ["self", "firsts", "period", "growth"] [] (sp_CrackCalendar___init__ K c_CrackCalendar) := by
  obtain ⟨f, fd, F, i⟩ := T.d_CrackCalendar___init__
  exact ⟨f, fd, [], i, (F.binds (ps := ["self", "firsts", "period", "growth"]) fun _ _ _ _ _ _ us hl => match us, hl with | [_, _, _, _], _ => rfl), .nil, fn_CrackCalendar___init__ T F⟩
theorem use_CrackCalendar {cC : Addr} {H : Hp} {QX : Addr → Hp → Prop} {E : XK} {L : List Z.En} {b : V} {k : Cal} (F : Z.Fx H L) (hs : Z.SeqIs L b (some (k.fs.map V.int))) (ho : k.ok)
    (q : ∀ x L2 H', L.Sublist L2 → CalIn cC L2 x k → Z.Fx H' L2 → QX x H') :
    ∀ x dx, H x = none → H dx = none → dx ≠ x → sp_CrackCalendar___init__ K cC [.ref x, b, .int k.p, .int k.g] (upd (upd H dx (.own x)) x (.ins cC dx [])) (fun v H2 => v = .non ∧ QX x H2) E := fun x dx hx hdx ne =>
  ⟨_, _, _, _, rfl, L, x, dx, k, rfl, F.inst hx hdx ne, hs, rfl, rfl, ho, fun L1 H' s ci F' => ⟨rfl, q x L1 H' s ci F'⟩⟩
theorem sc__law_at : FnScope ["_law_calendar", "_law_height", "_law_firsts", "_law_period", "_law_growth", "_law_turns"] ["_law_calendar", "_law_height"] (defScope s__law_at) := ⟨rfl, rfl, rfl, by decide +kernel, rfl, by decide +kernel, by decide +kernel⟩
/-- at a the law's own calendar c -/
def TupIn (L : List Z.En) (a : Addr) (c : Cal) : Prop := ∃ f, Z.En.ob a (.tup [.ref f, .int c.p, .int c.g]) ∈ L ∧ Z.En.ob f (.lst (c.fs.map V.int)) ∈ L
theorem TupIn.le {L L2 : List Z.En} {x : Addr} {c : Cal} (s : TupIn L x c) (h : L.Sublist L2) : TupIn L2 x c := by
  obtain ⟨p, m1, m2⟩ := s
  exact ⟨p, h.subset m1, h.subset m2⟩
def sp__law_at (K : PySem.W.Frag) : Sp := Z.Sp2 fun a b H Q E => ∃ (L : List Z.En) (x : Addr) (c : Cal) (h : Int), a = .ref x ∧ b = .int h ∧ Z.Fx H L ∧ TupIn L x c ∧ c.ok ∧ 1 ≤ h ∧ Q (.int (c.at h)) H
theorem fn__law_at (T : Txt K mg c_BadCrackCalendar c_BadHeight c_CrackCalendar) {f : Addr} {fd : FuncData} (F : Fun K "_law_at" "_law_at" s__law_at f fd) : FnOk P w K mg base CX0 1 f fd ["_law_calendar", "_law_height"] (sp__law_at K) := by
  refine F.ok sc__law_at (fun vs H Q E h => ?_) (fun cdv A outer s H vs Q E hr h => ?_)
  · obtain ⟨a, b, rfl, _⟩ := h; rfl
  · obtain ⟨a, b, rfl, h⟩ := h
    refine ⟨_, (pss_cons (ps_asg (pv 0) (pg_tup (by rfl) (pgs_cons (pg_name (i := 2) sc__law_at.nd rfl (by first | exact Or.inl rfl | exact Or.inr rfl)) (pgs_cons (pg_name (i := 3) sc__law_at.nd rfl (by first | exact Or.inl rfl | exact Or.inr rfl)) (pgs_cons (pg_name (i := 4) sc__law_at.nd rfl (by first | exact Or.inl rfl | exact Or.inr rfl)) pgs_nil)))))
      (pss_cons (ps_set (i := 5) sc__law_at.nd rfl (by first | exact Or.inl rfl | exact Or.inr rfl) (pe_callB (Z.zMax2 rfl) (by rfl) T.b_max (by decide +kernel) (pa_cons pe_int (pa_cons (pe_op Z.zDiv (pe_op op_sub (pe_op Z.zAdd (pe_op op_sub (pv 1) (pe_callB Z.zLen (by rfl) T.b_len (by decide +kernel) (pa_cons (pv 2) pa_nil))) (pv 3)) pe_int) (pv 3)) pa_nil))))
      (pss_one (ps_ret (pe_op Z.zAdd (pe_ix ix_seq (pv 2) (pe_op op_sub (pe_op op_sub (pv 1) (pe_op Z.zMul (pv 5) (pv 3))) pe_int) (fun _ _ => rfl)) (pe_op Z.zMul (pv 5) (pv 4))))))), ?_⟩
    try dsimp only [cxOf, Cx.nox, Cx.wish]
    refine Z.at_start (σ' := [some a, some b, none, none, none, none]) rfl ?_
    obtain ⟨L, x, c, h, rfl, rfl, F, ⟨p, m1, m2⟩, ho, h1, q⟩ := h
    have hi := Cal.ix ho h1
    obtain ⟨p1, p2, p3, g0, g1, hf⟩ := ho
    walk_at "z"
    refine Z.wI ⟨by omega, Z.log_small (by omega) (by unfold Cal.m at *; omega)⟩ ?_
    walk_at "z"
    have e1 := trn_law (m := c.m) (h := h) (show 0 < c.p by omega)
    have e2 : (if (h - ↑c.fs.length + c.p - 1) / c.p > 0 then (h - ↑c.fs.length + c.p - 1) / c.p else 0) = trn c.m c.p h := e1
    rw [e2]
    refine Z.wIxLi (F.lst m2) hi.1 hi.2 ?_
    walk_at "z"
    exact q
theorem ok__law_at (T : Txt K mg c_BadCrackCalendar c_BadHeight c_CrackCalendar) : Z.Ok CX0 P w K mg base "_law_at" 1 ["_law_calendar", "_law_height"] [] (sp__law_at K) := by
  obtain ⟨f, fd, F, g⟩ := T.d__law_at
  exact Z.mkOk F g (F.binds (ps := ["_law_calendar", "_law_height"]) fun _ _ _ _ _ _ us hl => match us, hl with | [_, _], _ => rfl) (fn__law_at T F)
theorem use__law_at {H : Hp} {Q : VK} {E : XK} {L : List Z.En} {x : Addr} {c : Cal} {h : Int} (F : Z.Fx H L) (ci : TupIn L x c) (co : c.ok) (h1 : 1 ≤ h) (q : Q (.int (c.at h)) H) : sp__law_at K [.ref x, .int h] H Q E := ⟨_, _, rfl, L, x, c, h, rfl, rfl, F, ci, co, h1, q⟩
theorem sc__price_at : FnScope ["calendar", "height", "many", "turns"] ["calendar", "height"] (defScope s__price_at) := ⟨rfl, rfl, rfl, by decide +kernel, rfl, by decide +kernel, by decide +kernel⟩
def sp__price_at (K : PySem.W.Frag) (cC : Addr) : Sp := Z.Sp2 fun a b H Q E => ∃ (L : List Z.En) (x : Addr) (c : Cal) (h : Int), a = .ref x ∧ b = .int h ∧ Z.Fx H L ∧ CalIn cC L x c ∧ c.ok ∧ 1 ≤ h ∧ Q (.int (c.at h)) H
theorem fn__price_at (T : Txt K mg c_BadCrackCalendar c_BadHeight c_CrackCalendar) {f : Addr} {fd : FuncData} (F : Fun K "_price_at" "_price_at" s__price_at f fd) : FnOk P w K mg base CX0 1 f fd ["calendar", "height"] (sp__price_at K c_CrackCalendar) := by
  refine F.ok sc__price_at (fun vs H Q E h => ?_) (fun cdv A outer s H vs Q E hr h => ?_)
  · obtain ⟨a, b, rfl, _⟩ := h; rfl
  · obtain ⟨a, b, rfl, h⟩ := h
    refine ⟨_, (pss_cons (ps_set (i := 2) sc__price_at.nd rfl (by first | exact Or.inl rfl | exact Or.inr rfl) (pe_callB Z.zLen (by rfl) T.b_len (by decide +kernel) (pa_cons (pe_fld (pv 0) rfl) pa_nil)))
      (pss_cons (ps_set (i := 3) sc__price_at.nd rfl (by first | exact Or.inl rfl | exact Or.inr rfl) (pe_callB (Z.zMax2 rfl) (by rfl) T.b_max (by decide +kernel) (pa_cons pe_int (pa_cons (pe_un un_neg (pe_op Z.zDiv (pe_un un_neg (pe_op op_sub (pv 1) (pv 2))) (pe_fld (pv 0) rfl))) pa_nil))))
      (pss_one (ps_ret (pe_op Z.zAdd (pe_ix ix_seq (pe_fld (pv 0) rfl) (pe_op op_sub (pe_op op_sub (pv 1) (pe_op Z.zMul (pv 3) (pe_fld (pv 0) rfl))) pe_int) (fun _ _ => rfl)) (pe_op Z.zMul (pv 3) (pe_fld (pv 0) rfl))))))), ?_⟩
    try dsimp only [cxOf, Cx.nox, Cx.wish]
    refine Z.at_start (σ' := [some a, some b, none, none]) rfl ?_
    obtain ⟨L, x, c, h, rfl, rfl, F, ⟨dx, p, m1, m2⟩, ho, h1, q⟩ := h
    have hcl := T.i_CrackCalendar.cl
    have hi := Cal.ix ho h1
    obtain ⟨p1, p2, p3, g0, g1, hf⟩ := ho
    walk_at "z"
    refine Z.wFldAt F m1 hcl T.n_CrackCalendar_firsts (cc_firsts _ _ _) ?_
    walk_at "z"
    refine Z.wFldAt F m1 hcl T.n_CrackCalendar_period (cc_period _ _ _) ?_
    refine Z.wI ⟨by omega, Z.log_small (by omega) (by unfold Cal.m at *; omega)⟩ ?_
    walk_at "z"
    refine Z.wFldAt F m1 hcl T.n_CrackCalendar_firsts (cc_firsts _ _ _) ?_
    walk_at "z"
    refine Z.wFldAt F m1 hcl T.n_CrackCalendar_period (cc_period _ _ _) ?_
    show Z.rOr _ _ (V.int (trn c.m c.p h)) (V.int c.p) H _
    refine Z.wOr1 (Z.wI (.inr ⟨by omega, by omega⟩) ?_)
    walk_at "z"
    refine Z.wIxTi (F.tup m2) hi.1 hi.2 ?_
    walk_at "z"
    refine Z.wFldAt F m1 hcl T.n_CrackCalendar_growth (cc_growth _ _ _) ?_
    refine Z.wOr1 (Z.wI (.inr ⟨by omega, by omega⟩) ?_)
    walk_at "z"
    exact q
theorem ok__price_at (T : Txt K mg c_BadCrackCalendar c_BadHeight c_CrackCalendar) : Z.Ok CX0 P w K mg base "_price_at" 1 ["calendar", "height"] [] (sp__price_at K c_CrackCalendar) := by
  obtain ⟨f, fd, F, g⟩ := T.d__price_at
  exact Z.mkOk F g (F.binds (ps := ["calendar", "height"]) fun _ _ _ _ _ _ us hl => match us, hl with | [_, _], _ => rfl) (fn__price_at T F)
theorem use__price_at {cC : Addr} {H : Hp} {Q : VK} {E : XK} {L : List Z.En} {x : Addr} {c : Cal} {h : Int} (F : Z.Fx H L) (ci : CalIn cC L x c) (ho : c.ok) (h1 : 1 ≤ h) (q : Q (.int (c.at h)) H) : sp__price_at K cC [.ref x, .int h] H Q E := ⟨_, _, rfl, L, x, c, h, rfl, rfl, F, ci, ho, h1, q⟩
theorem sc__lead_at : FnScope ["one", "other", "height"] ["one", "other", "height"] (defScope s__lead_at) := ⟨rfl, rfl, rfl, by decide +kernel, rfl, by decide +kernel, by decide +kernel⟩
def sp__lead_at (K : PySem.W.Frag) (cC : Addr) : Sp := Z.Sp3 fun a b e H Q E => ∃ (L : List Z.En) (x y : Addr) (c d : Cal) (h : Int), a = .ref x ∧ b = .ref y ∧ e = .int h ∧ Z.Fx H L ∧ CalIn cC L x c ∧ c.ok ∧ CalIn cC L y d ∧ d.ok ∧ 1 ≤ h ∧ Q (.int (lead c d h)) H
theorem fn__lead_at (T : Txt K mg c_BadCrackCalendar c_BadHeight c_CrackCalendar) {f : Addr} {fd : FuncData} (F : Fun K "_lead_at" "_lead_at" s__lead_at f fd) : FnOk P w K mg base CX0 2 f fd ["one", "other", "height"] (sp__lead_at K c_CrackCalendar) := by
  have O__price_at := ok__price_at (P := P) (w := w) (base := base) T
  refine F.ok sc__lead_at (fun vs H Q E h => ?_) (fun cdv A outer s H vs Q E hr h => ?_)
  · obtain ⟨a, b, c, rfl, _⟩ := h; rfl
  · obtain ⟨a, b, c, rfl, h⟩ := h
    refine ⟨_, (pss_one (ps_ret (pe_op op_sub (Z.pe_callO O__price_at (by rfl) (hr.mono (by decide)) pass0 (pa_cons (pv 0) (pa_cons (pv 2) pa_nil))) (Z.pe_callO O__price_at (by rfl) (hr.mono (by decide)) pass0 (pa_cons (pv 1) (pa_cons (pv 2) pa_nil)))))), ?_⟩
    try dsimp only [cxOf, Cx.nox, Cx.wish]
    refine Z.at_start (σ' := [some a, some b, some c]) rfl ?_
    obtain ⟨L, x, y, c, d, h, rfl, rfl, rfl, F, ci, co, di, dok, h1, q⟩ := h
    walk_at "z"
    refine use__price_at F ci co h1 ?_
    walk_at "z"
    refine use__price_at F di dok h1 ?_
    walk_at "z"
    exact q
theorem ok__lead_at (T : Txt K mg c_BadCrackCalendar c_BadHeight c_CrackCalendar) : Z.Ok CX0 P w K mg base "_lead_at" 2 ["one", "other", "height"] [] (sp__lead_at K c_CrackCalendar) := by
  obtain ⟨f, fd, F, g⟩ := T.d__lead_at
  exact Z.mkOk F g (F.binds (ps := ["one", "other", "height"]) fun _ _ _ _ _ _ us hl => match us, hl with | [_, _, _], _ => rfl) (fn__lead_at T F)
theorem use__lead_at {cC : Addr} {H : Hp} {Q : VK} {E : XK} {L : List Z.En} {x y : Addr} {c d : Cal} {h : Int} (F : Z.Fx H L) (ci : CalIn cC L x c) (co : c.ok) (di : CalIn cC L y d) (dok : d.ok) (h1 : 1 ≤ h) (q : Q (.int (lead c d h)) H) : sp__lead_at K cC [.ref x, .ref y, .int h] H Q E := ⟨_, _, _, rfl, L, x, y, c, d, h, rfl, rfl, rfl, F, ci, co, di, dok, h1, q⟩
theorem sc_stays_stronger : FnScope ["one", "other", "period", "gain", "begun", "leads", "height", "at", "lead"] ["one", "other"] (defScope s_stays_stronger) := ⟨rfl, rfl, rfl, by decide +kernel, rfl, by decide +kernel, by decide +kernel⟩
theorem gainN {c d : Cal} (h : gain c d < 0) : GoodN c d := .inl h
theorem lead_list {c d : Cal} {ls : List Int} (e : ls = (List.range (lcmI c d).toNat).map fun i => lead c d (big c d + 1 + (i : Nat))) {i : Nat} (h : (i : Int) < lcmI c d) : ls[i]? = some (lead c d (big c d + 1 + i)) := by
  subst e
  rw [List.getElem?_map, List.getElem?_range (by omega)]
  rfl
theorem lead_mem {c d : Cal} {ls : List Int} (e : ls = (List.range (lcmI c d).toNat).map fun i => lead c d (big c d + 1 + (i : Nat))) {m : Int} (h : m ∈ ls) : ∃ i : Nat, (i : Int) < lcmI c d ∧ m = lead c d (big c d + 1 + i) := by
  subst e
  obtain ⟨i, hi, rfl⟩
        := List.mem_map.mp h
  have := List.mem_range.mp hi
  exact ⟨i, by omega, rfl⟩
def sp_stays_stronger (K : PySem.W.Frag) (cC : Addr) : Sp := Z.Sp2 fun a b H Q E => ∃ (L : List Z.En) (x y : Addr) (c d : Cal), a = .ref x ∧ b = .ref y ∧ Z.Fx H L ∧ CalIn cC L x c ∧ c.ok ∧ CalIn cC L y d ∧ d.ok ∧
  (GoodN c d → ∀ H', Z.Fx H' L → Q .non H') ∧ ∀ t, GoodT c d t → ∀ H', Z.Fx H' L → Q (.int t) H'
theorem fn_stays_stronger (T : Txt K mg c_BadCrackCalendar c_BadHeight c_CrackCalendar) {f : Addr} {fd : FuncData} (F : Fun K "stays_stronger" "stays_stronger" s_stays_stronger f fd) : FnOk P w K mg base CX0 3 f fd ["one", "other"] (sp_stays_stronger K c_CrackCalendar) := by
  have O__lead_at := ok__lead_at (P := P) (w := w) (base := base) T
  refine F.ok sc_stays_stronger (fun vs H Q E h => ?_) (fun cdv A outer s H vs Q E hr h => ?_)
  · obtain ⟨a, b, rfl, _⟩ := h; rfl
  · obtain ⟨a, b, rfl, h⟩ := h
    refine ⟨_, (pss_cons (ps_set (i := 2) sc_stays_stronger.nd rfl (by first | exact Or.inl rfl | exact Or.inr rfl) (pe_callBfun Z.cr_lcm (by rfl) T.m_lcm (pa_cons (pe_fld (pv 0) rfl) (pa_cons (pe_fld (pv 1) rfl) pa_nil))))
      (pss_cons (ps_set (i := 3) sc_stays_stronger.nd rfl (by first | exact Or.inl rfl | exact Or.inr rfl) (pe_op op_sub (pe_op Z.zMul (pe_fld (pv 0) rfl) (pe_op Z.zDiv (pv 2) (pe_fld (pv 0) rfl))) (pe_op Z.zMul (pe_fld (pv 1) rfl) (pe_op Z.zDiv (pv 2) (pe_fld (pv 1) rfl)))))
      (pss_cons (ps_set (i := 4) sc_stays_stronger.nd rfl (by first | exact Or.inl rfl | exact Or.inr rfl) (pe_callB (Z.zMax2 rfl) (by rfl) T.b_max (by decide +kernel) (pa_cons (pe_callB Z.zLen (by rfl) T.b_len (by decide +kernel) (pa_cons (pe_fld (pv 0) rfl) pa_nil)) (pa_cons (pe_callB Z.zLen (by rfl) T.b_len (by decide +kernel) (pa_cons (pe_fld (pv 1) rfl) pa_nil)) pa_nil))))
      (pss_cons (by exact (ps_setLc (i := 5) (own := [("height", 6)]) (g := (gName 6)) (by rfl) sc_stays_stronger.nd rfl rfl (sw_true rfl rfl rfl (by decide +kernel)) (pi_range2 (by rfl) T.b_range (pa_cons (pe_op Z.zAdd (pv 4) pe_int) (pa_cons (pe_op Z.zAdd (pe_op Z.zAdd (pv 4) (pv 2)) pe_int) pa_nil))) (blkOk_by (own := [("height", 6)]) (N := ["one", "other", "period", "gain", "begun", "leads", "height", "at", "lead"]) (sc := defScope s_stays_stronger) (by decide +kernel)) (fun _ _ _ _ _ => (by exact (pg_name (i := 6) sc_stays_stronger.nd rfl (by first | exact Or.inl rfl | exact Or.inr rfl)))) (fun _ _ _ _ _ => (by exact pts_nil)) (fun _ _ _ _ _ => (by exact (Z.pe_callO O__lead_at (by rfl) (hr.mono (by decide)) pass0 (pa_cons (pv 0) (pa_cons (pv 1) (pa_cons (pv 6) pa_nil))))))))
      (pss_cons (ps_if (PW.pt (pw_or (pt_cmpR Z.zLt (pv 3) pe_int (nomark _)) (pw_or1 (PW.pt (pw_and (pt_cmpR (Z.zEq (Z.hu0 hr)) (pv 3) pe_int (nomark _)) (pw_and1 (pt_cmpR Z.zLe (pe_callB (cr_min rfl) (by rfl) T.b_min (by decide +kernel) (pa_cons (pv 5) pa_nil)) pe_int (nomark _))))))))
        (pss_one (ps_ret pe_non))
        pss_nil)
      (pss_cons (ps_if (pt_cmpR Z.zLe (pe_callB (cr_min rfl) (by rfl) T.b_min (by decide +kernel) (pa_cons (pv 5) pa_nil)) pe_int (nomark _))
        (pss_one (ps_ret (pe_op Z.zAdd (pe_callB (cr_max rfl) (by rfl) T.b_max (by decide +kernel) (pa_cons (by exact (pe_lc (own := [("at", 7), ("lead", 8)]) (g := (gTup K 2 (gCons (gName 7) (gCons (gName 8) gNil)))) (by rfl) sc_stays_stronger.nd (Z.pi_enumS (by rfl) T.b_enumerate (pa_cons (pv 5) pa_nil)) (blkOk_by (own := [("at", 7), ("lead", 8)]) (N := ["one", "other", "period", "gain", "begun", "leads", "height", "at", "lead"]) (sc := defScope s_stays_stronger) (by decide +kernel)) (fun _ _ _ _ _ => (by exact (pg_tup (by rfl) (pgs_cons (pg_name (i := 7) sc_stays_stronger.nd rfl (by first | exact Or.inl rfl | exact Or.inr rfl)) (pgs_cons (pg_name (i := 8) sc_stays_stronger.nd rfl (by first | exact Or.inl rfl | exact Or.inr rfl)) pgs_nil))))) (fun _ _ _ _ _ => (by exact (pts_one (pt_cmpR Z.zLe (pv 8) pe_int (nomark _))))) (fun _ _ _ _ _ => (by exact (pe_op (show OpR _ _ (Z.rOr Z.rAddI (Z.rOr Z.rAddS (Z.rOr rCat (rCatT K)))) from Z.zAdd) (pe_op (show OpR _ _ (Z.rOr Z.rAddI (Z.rOr Z.rAddS (Z.rOr rCat (rCatT K)))) from Z.zAdd) (pe_op (show OpR _ _ (Z.rOr Z.rAddI (Z.rOr Z.rAddS (Z.rOr rCat (rCatT K)))) from Z.zAdd) (pv 4) pe_int) (pv 7)) (pe_op (show OpR _ _ (Z.rOr Z.rMulC (Z.rOr Z.rMulI (Z.rOr rRep (rRepT K)))) from Z.zMul) (pe_op Z.zDiv (pe_un un_neg (pv 8)) (pv 3)) (pv 2))))))) pa_nil)) pe_int)))
        pss_nil)
      (pss_cons (ps_set (i := 6) sc_stays_stronger.nd rfl (by first | exact Or.inl rfl | exact Or.inr rfl) (pv 4))
      (pss_cons (ps_while PassesOwn.never (PW.pt (pw_and (pt_cmpR Z.zGt (pv 6) pe_int (nomark _)) (pw_and1 (pt_cmpR Z.zGt (Z.pe_callO O__lead_at (by rfl) (hr.mono (by decide)) pass0 (pa_cons (pv 0) (pa_cons (pv 1) (pa_cons (pv 6) pa_nil)))) pe_int (nomark _)))))
        (pss_one (ps_aug (i := 6) sc_stays_stronger.nd rfl (by first | exact Or.inl rfl | exact Or.inr rfl) pe_int ip_sub)))
      (pss_one (ps_ret (pe_op Z.zAdd (pv 6) pe_int))))))))))), ?_⟩
    try dsimp only [cxOf, Cx.nox, Cx.wish]
    refine Z.at_start (σ' := [some a, some b, none, none, none, none, none, none, none]) rfl ?_
    obtain ⟨L, x, y, c, d, rfl, rfl, F, ci, co, di, dok, kN, kT⟩ := h
    obtain ⟨dx, p, m1, m2⟩ := id ci
    obtain ⟨dy, p', m1', m2'⟩ := id di
    have hcl := T.i_CrackCalendar.cl
    have hl1 := lcm_le co dok
    have hl0 := lcm_pos co dok
    have hg := gain_lt co dok
    have c100 := co.2.2.1
    have d100 := dok.2.2.1
    have cp1 := co.1
    have dp1 := dok.1
    have cpm := co.2.1
    have dpm := dok.2.1
    walk_at "z"
    refine Z.wFldAt F m1 hcl T.n_CrackCalendar_period (cc_period _ _ _) ?_
    walk_at "z"
    refine Z.wFldAt F m1' hcl T.n_CrackCalendar_period (cc_period _ _ _) ?_
    walk_at "z"
    refine Z.wLcm (by omega) (by omega) ?_
    show gName 2 (V.int (lcmI c d)) _ _ _
    walk_at "z"
    refine Z.wFldAt F m1 hcl T.n_CrackCalendar_growth (cc_growth _ _ _) ?_
    walk_at "z"
    refine Z.wFldAt F m1 hcl T.n_CrackCalendar_period (cc_period _ _ _) ?_
    refine Z.wI ⟨by omega, Z.log_small (by omega) (by omega)⟩ ?_
    refine Z.wOr1 (Z.wI (.inl ⟨by have := co.2.2.2.1; omega, by have := co.2.2.2.2.1; omega⟩) ?_)
    walk_at "z"
    refine Z.wFldAt F m1' hcl T.n_CrackCalendar_growth (cc_growth _ _ _) ?_
    walk_at "z"
    refine Z.wFldAt F m1' hcl T.n_CrackCalendar_period (cc_period _ _ _) ?_
    refine Z.wI ⟨by omega, Z.log_small (by omega) (by omega)⟩ ?_
    refine Z.wOr1 (Z.wI (.inl ⟨by have := dok.2.2.2.1; omega, by have := dok.2.2.2.2.1; omega⟩) ?_)
    refine Z.wI0 ?_
    show gName 3 (V.int (gain c d)) _ _ _
    walk_at "z"
    refine Z.wFldAt F m1 hcl T.n_CrackCalendar_firsts (cc_firsts _ _ _) ?_
    walk_at "z"
    refine Z.wFldAt F m1' hcl T.n_CrackCalendar_firsts (cc_firsts _ _ _) ?_
    walk_at "z"
    rw [show (if (d.fs.length : Int) > (c.fs.length : Int) then (d.fs.length : Int) else (c.fs.length : Int)) = big c d from rfl]
    have hb0 : 0 ≤ big c d := by unfold big Cal.m; split <;> omega
    have hb1 : big c d ≤ 100 := by unfold big; split <;> omega
    walk_at "z"
    refine Z.wLcW walk_range F (fun i acc L' => L' = L ∧ acc = ((List.range i).map fun i => lead c d (big c d + 1 + (i : Nat))).map V.int) ⟨rfl, rfl⟩ (fun _ _ _ _ _ _ _ => trivial) ?_ ?_
    · rintro i u D H2 H3 acc L' hi ⟨rfl, rfl⟩ F2 ⟨rfl, rfl⟩
      walk_at "zw"
      walk_at "z"
      refine ⟨rfl, ?_⟩
      walk_at "z"
      refine use__lead_at F2 (ci.le (.cons _ (.refl _))) co (di.le (.cons _ (.refl _))) dok (by omega) ?_
      refine Z.lcPut F2 (by rw [List.length_map, List.length_map, List.length_range]; have := Z.line_big; omega) ⟨rfl, ?_⟩
      rw [List.range_succ, List.map_append, List.map_append]
      rfl
    rintro D acc L' H2 F2 ⟨rfl, rfl⟩
    rw [show (big c d + lcmI c d + 1 - (big c d + 1)).toNat = (lcmI c d).toNat by congr 1; omega] at F2
    obtain ⟨ls, el⟩ : ∃ ls, ls = ((List.range (lcmI c d).toNat).map fun i => lead c d (big c d + 1 + (i : Nat))) := ⟨_, rfl⟩
    rw [← el] at F2
    have ell : ls.length = (lcmI c d).toNat := by rw [el, List.length_map, List.length_range]
    have FL := F2.sub (L' := L') (.cons _ (.refl _))
    walk_at "y"
    refine Z.wMidS (fun σ' H' => σ' = [some (.ref x), some (.ref y), some (.int (lcmI c d)), some (.int (gain c d)), some (.int (big c d)), some (.ref D), none, none, none] ∧ H' = H2 ∧ ¬ GoodN c d) (fun N hk => ?_) ?_
    · walk_at "z"
      refine Z.wIfD (fun g => ?_) (fun g => ?_)
      · walk_at "z"
        exact kN (.inl g) _ FL
      walk_at "z"
      refine Z.wIfD (fun g0 => ?_) (fun g0 => ?_)
      · walk_at "z"
        refine Z.wMinL (F2.lst List.mem_cons_self) (by omega) fun m hm hmin => ?_
        walk_at "z"
        refine Z.wIfD (fun h0 => ?_) (fun h0 => ?_)
        · walk_at "z"
          obtain ⟨i, hi, rfl⟩ := lead_mem el hm
          exact kN (.inr ⟨g0, i, hi, h0⟩) _ FL
        · walk_at "z"
          refine hk _ _ ⟨rfl, rfl, ?_⟩
          rintro (hn | ⟨_, i, hi, hn⟩)
          · exact g hn
          · have := hmin _ (List.mem_of_getElem? (lead_list el hi))
            omega
      · walk_at "z"
        refine hk _ _ ⟨rfl, rfl, ?_⟩
        rintro (hn | ⟨hn, _⟩)
        · exact g hn
        · exact g0 hn
    rintro _ H7 ⟨rfl, rfl, hn⟩
    walk_at "z"
    refine Z.wMinL (F2.lst List.mem_cons_self) (by omega) fun m hm hmin => ?_
    walk_at "z"
    refine Z.wIfD (fun h0 => ?_) (fun h0 => ?_)
    · walk_at "z"
      refine ⟨D, rfl, .inl ⟨_, F2.lst List.mem_cons_self, ?_⟩⟩
      have gp : 0 < gain c d := by
        obtain ⟨i, hi, rfl⟩ := lead_mem el hm
        apply Int.not_le.mp
        intro hle
        apply hn
        by_cases g1 : gain c d < 0
        · exact .inl g1
        · exact .inr ⟨by omega, i, hi, h0⟩
      have hcm := List.mem_of_getElem? (lead_list el (i := 0) (by omega))
      obtain ⟨L3, e3⟩ : ∃ L3, L3 = Z.En.ob D (.lst (ls.map V.int)) :: L' := ⟨_, rfl⟩
      have mD : Z.En.ob D (.lst (ls.map V.int)) ∈ L3 := by rw [e3]; exact List.mem_cons_self
      have s3 : L'.Sublist L3 := by rw [e3]; exact .cons _ (.refl _)
      rw [← e3] at F2
      refine Z.wLcW (walk_enum (xs := ls.map V.int)) F2 (fun i acc L4 => L3.Sublist L4 ∧ ∃ ns : List Int, acc = ns.map V.int ∧ ns.length ≤ i ∧ (∀ j : Nat, j < i → (j : Int) < lcmI c d → lead c d (big c d + 1 + j) ≤ 0 → big c d + 1 + j + -lead c d (big c d + 1 + j) / gain c d * lcmI c d ∈ ns) ∧
        ∀ n ∈ ns, ∃ j : Nat, (j : Int) < lcmI c d ∧ lead c d (big c d + 1 + j) ≤ 0 ∧ n = big c d + 1 + j + -lead c d (big c d + 1 + j) / gain c d * lcmI c d)
        ⟨.refl _, [], rfl, Nat.le_refl _, fun j hj => absurd hj (Nat.not_lt_zero _), by simp⟩ (fun i acc L4 D' H' r F' => F'.lst (.tail _ (r.1.subset mD))) ?_ ?_
      · rintro i u D2 H5 H6 acc L4 hi ⟨s4, ns, rfl, hnl, hj1, hj2⟩ F5 ⟨T1, v, z, rfl, hT, rfl, ev, ez⟩
        cases ev
        obtain ⟨z, rfl, hz⟩ := Z.int_of_map' ez
        rw [List.length_map] at hi
        have hil : (i : Int) < lcmI c d := by omega
        have hzl : z = lead c d (big c d + 1 + i) := by
          have := lead_list el hil
          rw [hz] at this
          exact Option.some.inj this
        subst hzl
        have F6 := (F5.new (o := .tup [.int (i : Nat), .int (lead c d (big c d + 1 + i))]) hT).perm (List.Perm.swap _ _ _)
        walk_at "zw"
        walk_at "z"
        refine ⟨rfl, ?_⟩
        walk_at "z"
        refine Z.wIfD (fun hle => ?_) (fun hle => ?_)
        · walk_at "z"
          refine Z.wI ⟨gp, Z.log_small (by omega) (by omega)⟩ ?_
          walk_at "z"
          refine Z.lcPut F6 (by rw [List.length_map]; have := Z.line_big; omega) ⟨.cons _ s4, ns ++ [big c d + 1 + i + -lead c d (big c d + 1 + i) / gain c d * lcmI c d], by rw [List.map_append]; rfl, by rw [List.length_append]; simp only [List.length_cons, List.length_nil]; omega, ?_, ?_⟩
          · intro j hj hjl hl
            rw [List.mem_append]
            by_cases e : j = i
            · subst e
              exact .inr (List.mem_singleton.mpr rfl)
            · exact .inl (hj1 j (by omega) hjl hl)
          · intro n hn2
            rcases List.mem_append.mp hn2 with h | h
            · exact hj2 n h
            · exact ⟨i, hil, hle, List.mem_singleton.mp h⟩
        · walk_at "z"
          refine ⟨_, _, F6, .cons _ s4, ns, rfl, by omega, ?_, hj2⟩
          intro j hj hjl hl
          by_cases e : j = i
          · subst e
            exact absurd hl hle
          · exact hj1 j (by omega) hjl hl
      · rintro D2 acc L4 H5 F5 ⟨s4, ns, rfl, hnl, hj1, hj2⟩
        rw [List.length_map] at hj1
        have hj1' : ∀ j : Nat, (j : Int) < lcmI c d → lead c d (big c d + 1 + j) ≤ 0 → big c d + 1 + j + -lead c d (big c d + 1 + j) / gain c d * lcmI c d ∈ ns := fun j hj hl => hj1 j (by omega) hj hl
        obtain ⟨i0, hi0, em⟩ := lead_mem el hm
        have h1 := hj1' i0 hi0 (by omega)
        walk_at "z"
        refine Z.wMaxL (F5.lst List.mem_cons_self) (List.length_pos_of_mem h1) fun t ht htm => ?_
        walk_at "z"
        exact kT _ (good_max co dok hn hj1' hj2 ht htm) _ (F5.sub (.cons _ (s3.trans s4)))
    · walk_at "z"
      have hpos : ∀ i : Nat, (i : Int) < lcmI c d → 0 < lead c d (big c d + 1 + i) := fun i hi => by
        have := hmin _ (List.mem_of_getElem? (lead_list el hi))
        omega
      refine Z.wWhile (fun m σ H' => ∃ t : Nat, t = m ∧ (t : Int) ≤ big c d ∧ H' = H7 ∧ (∀ h, (t : Int) < h → h ≤ big c d → 0 < lead c d h) ∧ σ = [some (.ref x), some (.ref y), some (.int (lcmI c d)), some (.int (gain c d)), some (.int (big c d)), some (.ref D), some (.int t), none, none]) (big c d).toNat ⟨(big c d).toNat, rfl, by omega, rfl, fun h h1 h2 => by omega, by rw [Int.toNat_of_nonneg hb0]⟩ ?_
      rintro m σ _ ⟨t, rfl, tb, rfl, hab, rfl⟩
      walk_at "z"
      refine Z.wIfD (fun ht => ?_) (fun ht => ?_)
      · walk_at "z"
        refine use__lead_at FL ci co di dok (by omega) ?_
        walk_at "z"
        refine Z.wIfD (fun hl => ?_) (fun hl => ?_)
        · refine Z.wBody ?_
          walk_at "z"
          refine ⟨t - 1, by omega, t - 1, rfl, by omega, trivial, fun h h1 h2 => ?_, ?_⟩
          · by_cases e : h = t
            · subst e; exact hl
            · exact hab h (by omega) h2
          · rw [show ((t - 1 : Nat) : Int) = t - 1 by omega]
        · walk_at "z"
          exact kT _ (good_walk co dok hn hpos (by omega) tb (fun _ => by omega) hab) _ FL
      · walk_at "z"
        exact kT _ (good_walk co dok hn hpos (by omega) tb (fun h => absurd h ht) hab) _ FL
theorem ok_stays_stronger (T : Txt K mg c_BadCrackCalendar c_BadHeight c_CrackCalendar) : Z.Ok CX0 P w K mg base "stays_stronger" 3 ["one", "other"] [] (sp_stays_stronger K c_CrackCalendar) := by
  obtain ⟨f, fd, F, g⟩ := T.d_stays_stronger
  exact Z.mkOk F g (F.binds (ps := ["one", "other"]) fun _ _ _ _ _ _ us hl => match us, hl with | [_, _], _ => rfl) (fn_stays_stronger T F)
theorem use_stays_stronger {cC : Addr} {H : Hp} {Q : VK} {E : XK} {L : List Z.En} {x y : Addr} {c d : Cal} (F : Z.Fx H L) (ci : CalIn cC L x c) (co : c.ok) (di : CalIn cC L y d) (dok : d.ok)
    (kN : GoodN c d → ∀ H', Z.Fx H' L → Q .non H') (kT : ∀ t, GoodT c d t → ∀ H', Z.Fx H' L → Q (.int t) H') : sp_stays_stronger K cC [.ref x, .ref y] H Q E := ⟨_, _, rfl, L, x, y, c, d, rfl, rfl, F, ci, co, di, dok, kN, kT⟩
theorem sc__law_least_common : FnScope ["_law_one", "_law_other", "_law_both"] ["_law_one", "_law_other"] (defScope s__law_least_common) := ⟨rfl, rfl, rfl, by decide +kernel, rfl, by decide +kernel, by decide +kernel⟩
theorem lcm_least {c d : Cal} (co : c.ok) (dok : d.ok) {i : Nat} (i1 : 1 ≤ i) (he : (i : Int) * c.p % d.p = 0) : lcmI c d ≤ i * c.p := by
  have h1 : c.p.natAbs ∣ ((i : Int) * c.p).natAbs := Int.natAbs_dvd_natAbs.mpr ⟨i, Int.mul_comm _ _⟩
  have h2 : d.p.natAbs ∣ ((i : Int) * c.p).natAbs := Int.natAbs_dvd_natAbs.mpr (Int.dvd_of_emod_eq_zero he)
  have cp := co.1
  have h0 : 0 < (i : Int) * c.p := Int.mul_pos (by omega) (by omega)
  have h3 := Nat.le_of_dvd (by omega) (Nat.lcm_dvd h1 h2)
  unfold lcmI
  omega
def sp__law_least_common : Sp := Z.Sp2 fun a b H Q E => ∃ c d : Cal, a = .int c.p ∧ b = .int d.p ∧ c.ok ∧ d.ok ∧ Q (.int (lcmI c d)) H
theorem fn__law_least_common (T : Txt K mg c_BadCrackCalendar c_BadHeight c_CrackCalendar) {f : Addr} {fd : FuncData} (F : Fun K "_law_least_common" "_law_least_common" s__law_least_common f fd) : FnOk P w K mg base CX0 1 f fd ["_law_one", "_law_other"] sp__law_least_common := by
  refine F.ok sc__law_least_common (fun vs H Q E h => ?_) (fun cdv A outer s H vs Q E hr h => ?_)
  · obtain ⟨a, b, rfl, _⟩ := h; rfl
  · obtain ⟨a, b, rfl, h⟩ := h
    refine ⟨_, (pss_cons (ps_set (i := 2) sc__law_least_common.nd rfl (by first | exact Or.inl rfl | exact Or.inr rfl) (pv 0))
      (pss_cons (ps_while PassesOwn.never (pt_cmpR (Z.zNe (Z.hu0 hr)) (pe_op Z.zMod (pe_callTy Z.zInt (by rfl) T.b_int (by decide +kernel) (pa_cons (pv 2) pa_nil)) (pv 1)) pe_int (nomark _))
        (pss_one (ps_set (i := 2) sc__law_least_common.nd rfl (by first | exact Or.inl rfl | exact Or.inr rfl) (pe_op Z.zAdd (pv 2) (pv 0)))))
      (pss_one (ps_ret (pv 2))))), ?_⟩
    try dsimp only [cxOf, Cx.nox, Cx.wish]
    refine Z.at_start (σ' := [some a, some b, none]) rfl ?_
    obtain ⟨c, d, rfl, rfl, co, dok, q⟩ := h
    have cp1 := co.1
    have dp1 := dok.1
    have d100 := dok.2.2.1
    have dpm := dok.2.1
    have hl0 := lcm_pos co dok
    walk_at "z"
    obtain ⟨k, e1, e2⟩ := lcm_c c d co
    obtain ⟨j, f1, f2⟩ := lcm_c d c dok
    rw [lcmI_comm] at f1
    have hk0 : 1 ≤ k := by
      apply Nat.one_le_iff_ne_zero.mpr
      rintro rfl
      simp at e1
      omega
    refine Z.wWhile (fun m σ H' => ∃ i : Nat, 1 ≤ i ∧ i ≤ k ∧ m = k - i ∧ H' = H ∧ σ = [some (.int c.p), some (.int d.p), some (.int ((i : Int) * c.p))]) (k - 1) ⟨1, by omega, hk0, rfl, rfl, by rw [Int.natCast_one, Int.one_mul]⟩ ?_
    rintro m σ _ ⟨i, i1, ik, rfl, rfl, rfl⟩
    walk_at "z"
    refine Z.wIf (fun hb => ?_) (fun hb => ?_)
    · have hne : (i : Int) * c.p % d.p ≠ 0 := by simpa using hb
      have hik : i ≠ k := by
        rintro rfl
        rw [← e1, f1] at hne
        exact hne (Int.mul_emod_left _ _)
      refine Z.wBody ?_
      walk_at "z"
      refine ⟨k - (i + 1), by omega, i + 1, by omega, by omega, rfl, rfl, ?_⟩
      rw [Int.natCast_add, Int.add_mul, Int.natCast_one, Int.one_mul]
    · have he : (i : Int) * c.p % d.p = 0 := by simpa using hb
      walk_at "z"
      have hle := lcm_least co dok i1 he
      have hik : (i : Int) ≤ k := by omega
      have := Int.mul_le_mul_of_nonneg_right hik (show 0 ≤ c.p by omega)
      have ee : (i : Int) * c.p = lcmI c d := by omega
      rw [ee]
      exact q
theorem ok__law_least_common (T : Txt K mg c_BadCrackCalendar c_BadHeight c_CrackCalendar) : Z.Ok CX0 P w K mg base "_law_least_common" 1 ["_law_one", "_law_other"] [] sp__law_least_common := by
  obtain ⟨f, fd, F, g⟩ := T.d__law_least_common
  exact Z.mkOk F g (F.binds (ps := ["_law_one", "_law_other"]) fun _ _ _ _ _ _ us hl => match us, hl with | [_, _], _ => rfl) (fn__law_least_common T F)
theorem use__law_least_common {H : Hp} {Q : VK} {E : XK} {c d : Cal} (co : c.ok) (dok : d.ok) (q : Q (.int (lcmI c d)) H) : sp__law_least_common [.int c.p, .int d.p] H Q E := ⟨_, _, rfl, c, d, rfl, rfl, co, dok, q⟩
theorem sc__law_whole : FnScope ["_law_thing", "_law_low"] ["_law_thing", "_law_low"] (defScope s__law_whole) := ⟨rfl, rfl, rfl, by decide +kernel, rfl, by decide +kernel, by decide +kernel⟩
def sp__law_whole (K : PySem.W.Frag) : Sp := Z.Sp2 fun a b H Q E => ∃ i j : Int, a = .int i ∧ b = .int j ∧ Q (.bl (decide (j ≤ i))) H
theorem fn__law_whole (T : Txt K mg c_BadCrackCalendar c_BadHeight c_CrackCalendar) {f : Addr} {fd : FuncData} (F : Fun K "_law_whole" "_law_whole" s__law_whole f fd) : FnOk P w K mg base CX0 1 f fd ["_law_thing", "_law_low"] (sp__law_whole K) := by
  refine F.ok sc__law_whole (fun vs H Q E h => ?_) (fun cdv A outer s H vs Q E hr h => ?_)
  · obtain ⟨a, b, rfl, _⟩ := h; rfl
  · obtain ⟨a, b, rfl, h⟩ := h
    refine ⟨_, (pss_one (ps_ret (pe_andT (pe_callB Z.zIsi (by rfl) T.b_isinstance (by decide +kernel) (pa_cons (pv 0) (pa_cons (pe_bltn (by rfl) T.b_int (by decide +kernel) (show RelV (.ty "int") _ from rfl)) pa_nil))) (pe_andT (pe_notT (pe_callB Z.zIsi (by rfl) T.b_isinstance (by decide +kernel) (pa_cons (pv 0) (pa_cons (pe_bltn (by rfl) T.b_bool (by decide +kernel) (show RelV (.ty "bool") _ from rfl)) pa_nil)))) (pe_one (pe_cmpR Z.zGe (pv 0) (pv 1) (nomark _))))))), ?_⟩
    try dsimp only [cxOf, Cx.nox, Cx.wish]
    refine Z.at_start (σ' := [some a, some b]) rfl ?_
    obtain ⟨i, j,
          rfl, rfl, q⟩ := h
    walk_at "z"
    refine Z.wIsiInt (.int i) ?_
    walk_at "z"
    refine Z.wIsiBool (.int i) ?_
    walk_at "z"
    exact q
theorem ok__law_whole (T : Txt K mg c_BadCrackCalendar c_BadHeight c_CrackCalendar) : Z.Ok CX0 P w K mg base "_law_whole" 1 ["_law_thing", "_law_low"] [] (sp__law_whole K) := by
  obtain ⟨f, fd, F, g⟩ := T.d__law_whole
  exact Z.mkOk F g (F.binds (ps := ["_law_thing", "_law_low"]) fun _ _ _ _ _ _ us hl => match us, hl with | [_, _], _ => rfl) (fn__law_whole T F)
theorem use__law_whole {H : Hp} {Q : VK} {E : XK} {i j : Int} (q : Q (.bl (decide (j ≤ i))) H) : sp__law_whole K [.int i, .int j] H Q E := ⟨_, _, rfl, i, j, rfl, rfl, q⟩
local macro_rules | `(tactic| walk_at "zc") => `(tactic| with_reducible refine use__law_whole ?_)
theorem sc__law_stronger : FnScope ["_law_one", "_law_other", "_law_told", "_law_both", "_law_many", "_law_rise", "_law_late", "_law_height", "_law_begin", "_law_k"] ["_law_one", "_law_other", "_law_told"] (defScope s__law_stronger) := ⟨rfl, rfl, rfl, by decide +kernel, rfl, by decide +kernel, by decide +kernel⟩
def sp__law_stronger (K : PySem.W.Frag) : Sp := Z.Sp3 fun a b e H Q E => ∃ (L : List Z.En) (x y : Addr) (c d : Cal), a = .ref x ∧ b = .ref y ∧ Z.Fx H L ∧ TupIn L x c ∧ c.ok ∧ TupIn L y d ∧ d.ok ∧
  ((e = .non ∧ GoodN c d) ∨ ∃ t, e = .int t ∧ GoodT c d t) ∧ ∀ H', Z.Fx H' L → Q (.bl true) H'
theorem fn__law_stronger (T : Txt K mg c_BadCrackCalendar c_BadHeight c_CrackCalendar) {f : Addr} {fd : FuncData} (F : Fun K "_law_stronger" "_law_stronger" s__law_stronger f fd) : FnOk P w K mg base CX0 2 f fd ["_law_one", "_law_other", "_law_told"] (sp__law_stronger K) := by
  have O__law_at := ok__law_at (P := P) (w := w) (base := base) T
  have O__law_least_common := ok__law_least_common (P := P) (w := w) (base := base) T
  have O__law_whole := ok__law_whole (P := P) (w := w) (base := base) T
  refine F.ok sc__law_stronger (fun vs H Q E h => ?_) (fun cdv A outer s H vs Q E hr h => ?_)
  · obtain ⟨a, b, c, rfl, _⟩ := h; rfl
  · obtain ⟨a, b, c, rfl, h⟩ := h
    refine ⟨_, (pss_cons (ps_set (i := 3) sc__law_stronger.nd rfl (by first | exact Or.inl rfl | exact Or.inr rfl) (Z.pe_callO O__law_least_common (by rfl) (hr.mono (by decide)) pass0 (pa_cons (pe_ix ix_seq (pv 0) pe_int (fun _ _ => rfl)) (pa_cons (pe_ix ix_seq (pv 1) pe_int (fun _ _ => rfl)) pa_nil))))
      (pss_cons (ps_set (i := 4) sc__law_stronger.nd rfl (by first | exact Or.inl rfl | exact Or.inr rfl) (pe_callB (Z.zMax2 rfl) (by rfl) T.b_max (by decide +kernel) (pa_cons (pe_callB Z.zLen (by rfl) T.b_len (by decide +kernel) (pa_cons (pe_ix ix_seq (pv 0) pe_int (fun _ _ => rfl)) pa_nil)) (pa_cons (pe_callB Z.zLen (by rfl) T.b_len (by decide +kernel) (pa_cons (pe_ix ix_seq (pv 1) pe_int (fun _ _ => rfl)) pa_nil)) pa_nil))))
      (pss_cons (ps_set (i := 5) sc__law_stronger.nd rfl (by first | exact Or.inl rfl | exact Or.inr rfl) (pe_op op_sub (pe_op Z.zMul (pe_ix ix_seq (pv 0) pe_int (fun _ _ => rfl)) (pe_op Z.zDiv (pv 3) (pe_ix ix_seq (pv 0) pe_int (fun _ _ => rfl)))) (pe_op Z.zMul (pe_ix ix_seq (pv 1) pe_int (fun _ _ => rfl)) (pe_op Z.zDiv (pv 3) (pe_ix ix_seq (pv 1) pe_int (fun _ _ => rfl))))))
      (pss_cons (by exact (ps_setLc (i := 6) (own := [("_law_k", 9)]) (g := (gName 9)) (by rfl) sc__law_stronger.nd rfl rfl (sw_true rfl rfl rfl (by decide +kernel)) (pi_range1 (by rfl) T.b_range (pa_cons (pv 3) pa_nil)) (blkOk_by (own := [("_law_k", 9)]) (N := ["_law_one", "_law_other", "_law_told", "_law_both", "_law_many", "_law_rise", "_law_late", "_law_height", "_law_begin", "_law_k"]) (sc := defScope s__law_stronger) (by decide +kernel)) (fun _ _ _ _ _ => (by exact (pg_name (i := 9) sc__law_stronger.nd rfl (by first | exact Or.inl rfl | exact Or.inr rfl)))) (fun _ _ _ _ _ => (by exact pts_nil)) (fun _ _ _ _ _ => (by exact (pe_op op_sub (Z.pe_callO O__law_at (by rfl) (hr.mono (by decide)) pass0 (pa_cons (pv 0) (pa_cons (pe_op (show OpR _ _ (Z.rOr Z.rAddI (Z.rOr Z.rAddS (Z.rOr rCat (rCatT K)))) from Z.zAdd) (pe_op (show OpR _ _ (Z.rOr Z.rAddI (Z.rOr Z.rAddS (Z.rOr rCat (rCatT K)))) from Z.zAdd) (pv 4) pe_int) (pv 9)) pa_nil))) (Z.pe_callO O__law_at (by rfl) (hr.mono (by decide)) pass0 (pa_cons (pv 1) (pa_cons (pe_op (show OpR _ _ (Z.rOr Z.rAddI (Z.rOr Z.rAddS (Z.rOr rCat (rCatT K)))) from Z.zAdd) (pe_op (show OpR _ _ (Z.rOr Z.rAddI (Z.rOr Z.rAddS (Z.rOr rCat (rCatT K)))) from Z.zAdd) (pv 4) pe_int) (pv 9)) pa_nil))))))))
      (pss_cons (ps_if (pt_cmpR Z.zIs (pv 2) pe_non (nomark _))
        (pss_one (ps_ret (pe_orT (pe_cmpR Z.zLt (pv 5) pe_int (nomark _)) (pe_one (pe_andT (pe_cmpR (Z.zEq (Z.hu0 hr)) (pv 5) pe_int (nomark _)) (pe_one (pe_cmpR Z.zLe (pe_callB (cr_min rfl) (by rfl) T.b_min (by decide +kernel) (pa_cons (pv 6) pa_nil)) pe_int (nomark _))))))))
        pss_nil)
      (pss_cons (ps_if (PW.pt (pw_or (pt_not (Z.pt_truN (Z.pe_callO O__law_whole (by rfl) (hr.mono (by decide)) pass0 (pa_cons (pv 2) (pa_cons pe_int pa_nil))))) (pw_or (pt_cmpR Z.zLt (pv 5) pe_int (nomark _)) (pw_or1 (PW.pt (pw_and (pt_cmpR (Z.zEq (Z.hu0 hr)) (pv 5) pe_int (nomark _)) (pw_and1 (pt_cmpR Z.zLe (pe_callB (cr_min rfl) (by rfl) T.b_min (by decide +kernel) (pa_cons (pv 6) pa_nil)) pe_int (nomark _)))))))))
        (pss_one (ps_ret pe_bl))
        pss_nil)
      (pss_cons (ps_if (PW.pt (pw_and (pt_cmpR Z.zGt (pv 2) pe_int (nomark _)) (pw_and1 (pt_cmpR Z.zGt (Z.pe_callO O__law_at (by rfl) (hr.mono (by decide)) pass0 (pa_cons (pv 0) (pa_cons (pe_op op_sub (pv 2) pe_int) pa_nil))) (Z.pe_callO O__law_at (by rfl) (hr.mono (by decide)) pass0 (pa_cons (pv 1) (pa_cons (pe_op op_sub (pv 2) pe_int) pa_nil))) (nomark _)))))
        (pss_one (ps_ret pe_bl))
        pss_nil)
      (pss_cons (ps_for PassesOwn.never (by rfl) (Z.pi_rangeG (by rfl) T.b_range (pa_cons (pv 2) (pa_cons (pe_callB (Z.zMax2 rfl) (by rfl) T.b_max (by decide +kernel) (pa_cons (pv 2) (pa_cons (pe_op Z.zAdd (pv 4) pe_int) pa_nil))) pa_nil))) (pg_name (i := 7) sc__law_stronger.nd rfl (by first | exact Or.inl rfl | exact Or.inr rfl))
        (pss_one (ps_if (pt_cmpR Z.zLe (Z.pe_callO O__law_at (by rfl) (hr.mono (by decide)) pass0 (pa_cons (pv 0) (pa_cons (pv 7) pa_nil))) (Z.pe_callO O__law_at (by rfl) (hr.mono (by decide)) pass0 (pa_cons (pv 1) (pa_cons (pv 7) pa_nil))) (nomark _))
          (pss_one (ps_ret pe_bl))
          pss_nil)))
      (pss_cons (ps_set (i := 8) sc__law_stronger.nd rfl (by first | exact Or.inl rfl | exact Or.inr rfl) (pe_callB (Z.zMax2 rfl) (by rfl) T.b_max (by decide +kernel) (pa_cons (pv 2) (pa_cons (pe_op Z.zAdd (pv 4) pe_int) pa_nil))))
      (pss_one (ps_ret (pe_cmpR Z.zGt (pe_callB (cr_min rfl) (by rfl) T.b_min (by decide +kernel) (pa_cons (by exact (pe_lc (own := [("_law_k", 9)]) (g := (gName 9)) (by rfl) sc__law_stronger.nd (pi_range1 (by rfl) T.b_range (pa_cons (pv 3) pa_nil)) (blkOk_by (own := [("_law_k", 9)]) (N := ["_law_one", "_law_other", "_law_told", "_law_both", "_law_many", "_law_rise", "_law_late", "_law_height", "_law_begin", "_law_k"]) (sc := defScope s__law_stronger) (by decide +kernel)) (fun _ _ _ _ _ => (by exact (pg_name (i := 9) sc__law_stronger.nd rfl (by first | exact Or.inl rfl | exact Or.inr rfl)))) (fun _ _ _ _ _ => (by exact pts_nil)) (fun _ _ _ _ _ => (by exact (pe_op op_sub (Z.pe_callO O__law_at (by rfl) (hr.mono (by decide)) pass0 (pa_cons (pv 0) (pa_cons (pe_op (show OpR _ _ (Z.rOr Z.rAddI (Z.rOr Z.rAddS (Z.rOr rCat (rCatT K)))) from Z.zAdd) (pv 8) (pv 9)) pa_nil))) (Z.pe_callO O__law_at (by rfl) (hr.mono (by decide)) pass0 (pa_cons (pv 1) (pa_cons (pe_op (show OpR _ _ (Z.rOr Z.rAddI (Z.rOr Z.rAddS (Z.rOr rCat (rCatT K)))) from Z.zAdd) (pv 8) (pv 9)) pa_nil)))))))) pa_nil)) pe_int (nomark _))))))))))))), ?_⟩
    try dsimp only [cxOf, Cx.nox, Cx.wish]
    refine Z.at_start (σ' := [some a, some b, some c, none, none, none, none, none, none, none]) rfl ?_
    obtain ⟨L, x, y, c, d, rfl, rfl, F, ⟨p, m1, m2⟩, co, ⟨p', m1', m2'⟩, dok, hg, q⟩ := h
    have hl1 := lcm_le co dok
    have hl0 := lcm_pos co dok
    have hgl := gain_lt co dok
    have c100 := co.2.2.1
    have d100 := dok.2.2.1
    have cp1 := co.1
    have dp1 := dok.1
    have cpm := co.2.1
    have dpm := dok.2.1
    have lg1 : c.p.natAbs.log2 < 9000 := Z.log_small (by omega) (by omega)
    have lg2 : d.p.natAbs.log2 < 9000 := Z.log_small (by omega) (by omega)
    obtain ⟨-, -, -, cg0, cg1, -⟩ := id co
    obtain ⟨-, -, -, dg0, dg1, -⟩ := id dok
    have ci : TupIn L x c := ⟨p, m1, m2⟩
    have di : TupIn L y d := ⟨p', m1', m2'⟩
    walk_at "z"
    refine use__law_least_common co dok ?_
    walk_at "z"
    rw [show (if (d.fs.length : Int) > (c.fs.length : Int) then (d.fs.length : Int) else (c.fs.length : Int)) = big c d from rfl, show c.g * (lcmI c d / c.p) - d.g * (lcmI c d / d.p) = gain c d from rfl]
    have hb0 : 0 ≤ big c d := by unfold big Cal.m; split <;> omega
    have hb1 : big c d ≤ 100 := by unfold big; split <;> omega
    refine Z.wLcW walk_range F (fun i acc L' => L' = L ∧ acc = ((List.range i).map fun i => lead c d (big c d + 1 + (i : Nat))).map V.int) ⟨rfl, rfl⟩ (fun _ _ _ _ _ _ _ => trivial) ?_ ?_
    · rintro i u D H2 H3 acc L' hi ⟨rfl, rfl⟩ F2 ⟨rfl, rfl⟩
      try dsimp only
      rw [Int.zero_add]
      walk_at "zw"
      walk_at "z"
      refine ⟨rfl, ?_⟩
      walk_at "z"
      refine use__law_at F2 (ci.le (.cons _ (.refl _))) co (by omega) ?_
      walk_at "z"
      refine use__law_at F2 (di.le (.cons _ (.refl _))) dok (by omega) ?_
      walk_at "z"
      refine Z.lcPut F2 (by rw [List.length_map, List.length_map, List.length_range]; have := Z.line_big; omega) ⟨rfl, ?_⟩
      rw [List.range_succ, List.map_append, List.map_append]
      rfl
    rintro D acc L' H2 F2 ⟨rfl, rfl⟩
    obtain ⟨ls, el⟩ : ∃ ls, ls = ((List.range (lcmI c d).toNat).map fun i => lead c d (big c d + 1 + (i : Nat))) := ⟨_, rfl⟩
    rw [← el] at F2
    have ell : ls.length = (lcmI c d).toNat := by rw [el, List.length_map, List.length_range]
    have FL := F2.sub (L' := L') (.cons _ (.refl _))
    rcases hg with ⟨rfl, hn⟩ | ⟨t, rfl, h1, hn, h2, h3⟩
    · walk_at "z"
      refine Z.wIfD (fun g => ?_) (fun g => ?_)
      · walk_at "z"
        rw [decide_eq_true g]
        exact q _ FL
      walk_at "z"
      rcases hn with hn | ⟨hn, i, hi, hle⟩
      · exact absurd hn g
      refine Z.wIfT (decide_eq_true hn) ?_
      walk_at "z"
      refine Z.wMinL (F2.lst List.mem_cons_self) (by omega) fun m hm hmin => ?_
      walk_at "z"
      have := hmin _ (List.mem_of_getElem? (lead_list el hi))
      rw [decide_eq_true (show m ≤ 0 by omega)]
      exact q _ FL
    · have ng : ¬ gain c d < 0 := fun g => hn (.inl g)
      have hpos : ∀ i : Nat, (i : Int) < lcmI c d → gain c d = 0 → 0 < lead c d (big c d + 1 + i) := fun i hi g => by
        apply Int.not_le.mp
        intro hle
        exact hn (.inr ⟨g, i, hi, hle⟩)
      walk_at "y"
      walk_at "zif"
      walk_at "y"
      refine Z.wMidS (fun σ' H' => H' = H2 ∧ σ' = [some (.ref x), some (.ref y), some (.int t), some (.int (lcmI c d)), some (.int (big c d)), some (.int (gain c d)), some (.ref D), none, none, none]) (fun N hk => ?_) ?_
      · walk_at "z"
        refine Z.wIfD (fun g0 => ?_) (fun g0 => ?_)
        · walk_at "z"
          refine Z.wMinL (F2.lst List.mem_cons_self) (by omega) fun m hm hmin => ?_
          obtain ⟨i, hi, e⟩ := lead_mem el hm
          have hp := hpos i hi g0
          walk_at "z"
          exact hk _ _ ⟨rfl, rfl⟩
        · walk_at "z"
          exact hk _ _ ⟨rfl, rfl⟩
      rintro _ H3 ⟨rfl, rfl⟩
      walk_at "y"
      refine Z.wMidS (fun σ' H' => H' = H3 ∧ σ' = [some (.ref x), some (.ref y), some (.int t), some (.int (lcmI c d)), some (.int (big c d)), some (.int (gain c d)), some (.ref D), none, none, none]) (fun N hk => ?_) ?_
      · walk_at "z"
        refine Z.wIfD (fun g0 => ?_) (fun g0 => ?_)
        · walk_at "z"
          refine use__law_at FL ci co (by omega) ?_
          walk_at "z"
          refine use__law_at FL di dok (by omega) ?_
          have hle := h2 (by omega)
          have hle2 : ¬ c.at (t - 1) > d.at (t - 1) := by unfold lead at hle; omega
          walk_at "z"
          exact hk _ _ ⟨rfl, rfl⟩
        · walk_at "z"
          exact hk _ _ ⟨rfl, rfl⟩
      rintro _ H4 ⟨rfl, rfl⟩
      walk_at "z"
      refine Z.wForW walk_range (fun i σ H' => ∃ v7, H' = H4 ∧ σ = [some (.ref x), some (.ref y), some (.int t), some (.int (lcmI c d)), some (.int (big c d)), some (.int (gain c d)), some (.ref D), v7, none, none]) ⟨_, rfl, rfl⟩ (fun _ _ _ _ _ => trivial) ?_ ?_
      · rintro i u σ H5 H6 hi ⟨v7, rfl, rfl⟩ ⟨rfl, rfl⟩
        try dsimp only
        have hp := h3 (t + i) (by omega)
        unfold lead at hp
        walk_at "z"
        refine use__law_at FL ci co (by omega) ?_
        walk_at "z"
        refine use__law_at FL di dok (by omega) ?_
        have hle2 : ¬ c.at (t + i) ≤ d.at (t + i) := by omega
        walk_at "z"
        exact ⟨_, rfl, rfl⟩
      rintro σ H5 ⟨v7, rfl, rfl⟩
      walk_at "z"
      obtain ⟨B, eB⟩ : ∃ B, B = (if big c d + 1 > t then big c d + 1 else t) := ⟨_, rfl⟩
      have hB : t ≤ B := by rw [eB]; split <;> omega
      rw [← eB]
      refine Z.wLcW walk_range FL (fun i acc L4 => L4 = L' ∧ ∃ ns : List Int, acc = ns.map V.int ∧ ns.length = i ∧ ∀ n ∈ ns, 0 < n) ⟨rfl, [], rfl, rfl, by simp⟩ (fun _ _ _ _ _ _ _ => trivial) ?_ ?_
      · rintro i u D2 H6 H7 acc L4 hi ⟨rfl, ns, rfl, hn1, hn2⟩ F6 ⟨rfl, rfl⟩
        try dsimp only
        rw [Int.zero_add]
        have hp := h3 (B + i) (by omega)
        unfold lead at hp
        walk_at "zw"
        walk_at "z"
        refine ⟨rfl, ?_⟩
        walk_at "z"
        refine use__law_at F6 (ci.le (.cons _ (.refl _))) co (by omega) ?_
        walk_at "z"
        refine use__law_at F6 (di.le (.cons _ (.refl _))) dok (by omega) ?_
        walk_at "z"
        refine Z.lcPut F6 (by rw [List.length_map]; have := Z.line_big; omega) ⟨rfl, ns ++ [c.at (B + i) - d.at (B + i)], by rw [List.map_append]; rfl, by rw [List.length_append, hn1]; rfl, fun n h => ?_⟩
        rcases List.mem_append.mp
              h with h | h
        · exact hn2 n h
        · cases List.mem_singleton.mp h
          exact hp
      · rintro D2 acc L4 H6 F6 ⟨rfl, ns, rfl, hn1, hn2⟩
        walk_at "z"
        refine Z.wMinL (F6.lst List.mem_cons_self) (by omega) fun m hm hmin => ?_
        walk_at "z"
        rw [decide_eq_true (show m > 0 from hn2 m hm)]
        exact q _ (F6.sub (.cons _ (.refl _)))
theorem ok__law_stronger (T : Txt K mg c_BadCrackCalendar c_BadHeight c_CrackCalendar) : Z.Ok CX0 P w K mg base "_law_stronger" 2 ["_law_one", "_law_other", "_law_told"] [] (sp__law_stronger K) := by
  obtain ⟨f, fd, F, g⟩ := T.d__law_stronger
  exact Z.mkOk F g (F.binds (ps := ["_law_one", "_law_other", "_law_told"]) fun _ _ _ _ _ _ us hl => match us, hl with | [_, _, _], _ => rfl) (fn__law_stronger T F)
theorem use__law_stronger {H : Hp} {Q : VK} {E : XK} {L : List Z.En} {x y : Addr} {e : V} {c d : Cal} (F : Z.Fx H L) (ci : TupIn L x c) (co : c.ok) (di : TupIn L y d) (dok : d.ok)
    (hg : (e = .non ∧ GoodN c d) ∨ ∃ t, e = .int t ∧ GoodT c d t) (q : ∀ H', Z.Fx H' L → Q (.bl true) H') : sp__law_stronger K [.ref x, .ref y, e] H Q E := ⟨_, _, _, rfl, L, x, y, c, d, rfl, rfl, F, ci, co, di, dok, hg, q⟩
theorem sc__law_mix : FnScope ["_law_number", "_law_turn", "_law_once", "_law_twice"] ["_law_number", "_law_turn"] (defScope s__law_mix) := ⟨rfl, rfl, rfl, by decide +kernel, rfl, by decide +kernel, by decide +kernel⟩
def sp__law_mix : Sp := Z.Sp2 fun a b H Q E => ∃ x y : Int, a = .int x ∧ b = .int y ∧ ∀ v : Int, Q (.int v) H
theorem fn__law_mix (T : Txt K mg c_BadCrackCalendar c_BadHeight c_CrackCalendar) {f : Addr} {fd : FuncData} (F : Fun K "_law_mix" "_law_mix" s__law_mix f fd) : FnOk P w K mg base CX0 1 f fd ["_law_number", "_law_turn"] sp__law_mix := by
  refine F.ok sc__law_mix (fun vs H Q E h => ?_) (fun cdv A outer s H vs Q E hr h => ?_)
  · obtain ⟨a, b, rfl, _⟩ := h; rfl
  · obtain ⟨a, b, rfl, h⟩ := h
    refine ⟨_, (pss_cons (ps_set (i := 2) sc__law_mix.nd rfl (by first | exact Or.inl rfl | exact Or.inr rfl) (pe_op Z.zMod (pe_callTy Z.zInt (by rfl) T.b_int (by decide +kernel) (pa_cons (pe_op Z.zAdd (pe_op Z.zAdd (pe_op Z.zMul (pv 0) pe_int) (pe_op Z.zMul (pv 1) pe_int)) pe_int) pa_nil)) pe_int))
      (pss_cons (ps_set (i := 3) sc__law_mix.nd rfl (by first | exact Or.inl rfl | exact Or.inr rfl) (pe_op Z.zMod (pe_callTy Z.zInt (by rfl) T.b_int (by decide +kernel) (pa_cons (pe_op Z.zAdd (pe_op Z.zAdd (pe_op Z.zMul (pv 2) (pv 2)) (pe_op Z.zMul (pe_op Z.zDiv (pv 2) pe_int) pe_int)) (pe_op Z.zMul (pv 1) pe_int)) pa_nil)) pe_int))
      (pss_one (ps_ret (pe_op Z.zDiv (pe_callTy Z.zInt (by rfl) T.b_int (by decide +kernel) (pa_cons (pe_op Z.zMod (pe_callTy Z.zInt (by rfl) T.b_int (by decide +kernel) (pa_cons (pe_op Z.zAdd (pe_op Z.zDiv (pe_op Z.zMul (pv 3) (pv 3)) pe_int) (pv 2)) pa_nil)) pe_int) pa_nil)) pe_int))))), ?_⟩
    try dsimp only [cxOf, Cx.nox, Cx.wish]
    refine Z.at_start (σ' := [some a, some b, none, none]) rfl ?_
    obtain ⟨x, y, rfl, rfl, k⟩ := h
    walk_at "z"
    exact k _
theorem ok__law_mix (T : Txt K mg c_BadCrackCalendar c_BadHeight c_CrackCalendar) : Z.Ok CX0 P w K mg base "_law_mix" 1 ["_law_number", "_law_turn"] [] sp__law_mix := by
  obtain ⟨f, fd, F, g⟩ := T.d__law_mix
  exact Z.mkOk F g (F.binds (ps := ["_law_number", "_law_turn"]) fun _ _ _ _ _ _ us hl => match us, hl with | [_, _], _ => rfl) (fn__law_mix T F)
theorem use__law_mix {H : Hp} {Q : VK} {E : XK} {x y : Int} (k : ∀ v : Int, Q (.int v) H) : sp__law_mix [.int x, .int y] H Q E := ⟨_, _, rfl, x, y, rfl, rfl, k⟩
local macro_rules | `(tactic| walk_at "zc") => `(tactic| (with_reducible refine use__law_mix ?_; intro _))
theorem sc__law_draw : FnScope ["_law_hand_here", "_law_many", "_law_cell", "_law_rest"] ["_law_hand_here", "_law_many"] (defScope s__law_draw) := ⟨rfl, rfl, rfl, by decide +kernel, rfl, by decide +kernel, by decide +kernel⟩
/-- a draw below m -/
def sp__law_draw : Sp := Z.Sp2 fun a b H Q E => ∃ (L : List Z.En) (l c : Addr) (m : Int), a = .ref l ∧ b = .int m ∧ Z.Fx H L ∧ Z.En.hand l c ∈ L ∧ 0 < m ∧ m.natAbs.log2 < 9000 ∧ ∀ (v : Int) H', Z.Fx H' L → 0 ≤ v → v < m → Q (.int v) H'
theorem fn__law_draw (T : Txt K mg c_BadCrackCalendar c_BadHeight c_CrackCalendar) {f : Addr} {fd : FuncData} (F : Fun K "_law_draw" "_law_draw" s__law_draw f fd) : FnOk P w K mg base CX0 2 f fd ["_law_hand_here", "_law_many"] sp__law_draw := by
  have O__law_mix := ok__law_mix (P := P) (w := w) (base := base) T
  refine F.ok sc__law_draw (fun vs H Q E h => ?_) (fun cdv A outer s H vs Q E hr h => ?_)
  · obtain ⟨a, b, rfl, _⟩ := h; rfl
  · obtain ⟨a, b, rfl, h⟩ := h
    refine ⟨_, (pss_cons (ps_if (PW.pt (pw_and (pt_cmpR (Z.zEq (Z.hu0 hr)) (pe_ix ix_seq (pv 0) pe_int (fun _ _ => rfl)) pe_int (nomark _)) (pw_and1 (pt_cmpR Z.zLt (pe_ix ix_seq (pv 0) pe_int (fun _ _ => rfl)) (pe_callB Z.zLen (by rfl) T.b_len (by decide +kernel) (pa_cons (pe_ix ix_seq (pv 0) pe_int (fun _ _ => rfl)) pa_nil)) (nomark _)))))
        (pss_cons (ps_set (i := 2) sc__law_draw.nd rfl (by first | exact Or.inl rfl | exact Or.inr rfl) (pe_ix ix_seq (pe_ix ix_seq (pv 0) pe_int (fun _ _ => rfl)) (pe_ix ix_seq (pv 0) pe_int (fun _ _ => rfl)) (fun _ _ => rfl)))
        (pss_cons (ps_asg (pe_op Z.zAdd (pe_ix ix_seq (pv 0) pe_int (fun _ _ => rfl)) pe_int) (pg_sub (pv 0) pe_int set_list))
        (pss_cons (ps_if (pt_cmpR Z.zLt (pv 2) (pe_op Z.zPow pe_int pe_int) (nomark _))
          (pss_one (ps_ret (pe_op Z.zMod (pe_callTy Z.zInt (by rfl) T.b_int (by decide +kernel) (pa_cons (Z.pe_callO O__law_mix (by rfl) (hr.mono (by decide)) pass0 (pa_cons (pe_op Z.zMod (pe_callTy Z.zInt (by rfl) T.b_int (by decide +kernel) (pa_cons (pv 2) pa_nil)) pe_int) (pa_cons (pe_ix ix_seq (pv 0) pe_int (fun _ _ => rfl)) pa_nil))) pa_nil)) (pv 1))))
          pss_nil)
        (pss_one (ps_asg (pv 2) (pg_sub (pv 0) pe_int set_list))))))
        pss_nil)
      (pss_cons (ps_if (pt_cmpR Z.zGt (pe_ix ix_seq (pv 0) pe_int (fun _ _ => rfl)) pe_int (nomark _))
        (pss_cons (ps_set (i := 3) sc__law_draw.nd rfl (by first | exact Or.inl rfl | exact Or.inr rfl) (pe_ix ix_seq (pv 0) pe_int (fun _ _ => rfl)))
        (pss_cons (ps_asg (pe_op Z.zDiv (pv 3) (pv 1)) (pg_sub (pv 0) pe_int set_list))
        (pss_one (ps_ret (pe_op Z.zMod (pe_callTy Z.zInt (by rfl) T.b_int (by decide +kernel) (pa_cons (pv 3) pa_nil)) (pv 1))))))
        pss_nil)
      (pss_cons (ps_asg (pe_op Z.zMod (pe_callTy Z.zInt (by rfl) T.b_int (by decide +kernel) (pa_cons (pe_op Z.zAdd (pe_ix ix_seq (pv 0) pe_int (fun _ _ => rfl)) pe_int) pa_nil)) pe_int) (pg_sub (pv 0) pe_int set_list))
      (pss_one (ps_ret (pe_op Z.zMod (pe_callTy Z.zInt (by rfl) T.b_int (by decide +kernel) (pa_cons (Z.pe_callO O__law_mix (by rfl) (hr.mono (by decide)) pass0 (pa_cons (pe_ix ix_seq (pv 0) pe_int (fun _ _ => rfl)) (pa_cons (pe_ix ix_seq (pv 0) pe_int (fun _ _ => rfl)) pa_nil))) pa_nil)) (pv 1))))))), ?_⟩
    try dsimp only [cxOf, Cx.nox, Cx.wish]
    refine Z.at_start (σ' := [some a, some b, none, none]) rfl ?_
    obtain ⟨L, l, c, m, rfl, rfl, F, hm, h0, h9, k⟩ := h
    obtain ⟨ns, i, j, t, L1, hi, G, back⟩ := F.open hm
    clear F hm
    walk_at "zz"
    all_goals (refine' k _ _ (back _ _ _ _ _ ?hiz ?fxz) (Int.emod_nonneg _ (by omega)) (Int.emod_lt_of_pos _ h0); (case fxz => assumption); (case hiz => omega))
theorem ok__law_draw (T : Txt K mg c_BadCrackCalendar c_BadHeight c_CrackCalendar) : Z.Ok CX0 P w K mg base "_law_draw" 2 ["_law_hand_here", "_law_many"] [] sp__law_draw := by
  obtain ⟨f, fd, F, g⟩ := T.d__law_draw
  exact Z.mkOk F g (F.binds (ps := ["_law_hand_here", "_law_many"]) fun _ _ _ _ _ _ us hl => match us, hl with | [_, _], _ => rfl) (fn__law_draw T F)
theorem use__law_draw {H : Hp} {Q : VK} {E : XK} {L : List Z.En} {l c : Addr} {m : Int} (F : Z.Fx H L) (hm : Z.En.hand l c ∈ L) (h0 : 0 < m) (h9 : m.natAbs.log2 < 9000) (k : ∀ (v : Int) H', Z.Fx H' L → 0 ≤ v → v < m → Q (.int v) H') : sp__law_draw [.ref l, .int m] H Q E :=
  ⟨_, _, rfl, L, l, c, m, rfl, rfl, F, hm, h0, h9, k⟩
local macro_rules | `(tactic| walk_at "zc") => `(tactic| ((with_reducible refine' use__law_draw ?zf ?zm ?z0 ?z9 ?_); (case zf => walk_at "zF"); (case zm => walk_at "zm"); (case z0 => first | walk_at "zo" | decide); (case z9 => walk_at "zlog"); with_reducible intro _ _ _ _ _))
theorem sc__law_pick : FnScope ["_law_hand_here", "_law_things"] ["_law_hand_here", "_law_things"] (defScope s__law_pick) := ⟨rfl, rfl, rfl, by decide +kernel, rfl, by decide +kernel, by decide +kernel⟩
/-- one of a list's whole numbers -/
def sp__law_pick (K : PySem.W.Frag) : Sp := Z.Sp2 fun a b H Q E => ∃ (L : List Z.En) (l c p : Addr) (ns : List Int), a = .ref l ∧ b = .ref p ∧ Z.Fx H L ∧ Z.En.hand l c ∈ L ∧ Z.En.ob p (.lst (ns.map V.int)) ∈ L ∧ 1 ≤ ns.length ∧ ns.length ≤ 1000 ∧ ∀ (v : Int) H', v ∈ ns → Z.Fx H' L → Q (.int v) H'
theorem fn__law_pick (T : Txt K mg c_BadCrackCalendar c_BadHeight c_CrackCalendar) {f : Addr} {fd : FuncData} (F : Fun K "_law_pick" "_law_pick" s__law_pick f fd) : FnOk P w K mg base CX0 3 f fd ["_law_hand_here", "_law_things"] (sp__law_pick K) := by
  have O__law_draw := ok__law_draw (P := P) (w := w) (base := base) T
  refine F.ok sc__law_pick (fun vs H Q E h => ?_) (fun cdv A outer s H vs Q E hr h => ?_)
  · obtain ⟨a, b, rfl, _⟩ := h; rfl
  · obtain ⟨a, b, rfl, h⟩ := h
    refine ⟨_, (pss_one (ps_ret (pe_ix ix_seq (pv 1) (Z.pe_callO O__law_draw (by rfl) (hr.mono (by decide)) pass0 (pa_cons (pv 0) (pa_cons (pe_callB Z.zLen (by rfl) T.b_len (by decide +kernel) (pa_cons (pv 1) pa_nil)) pa_nil))) (fun _ _ => rfl)))), ?_⟩
    try dsimp only [cxOf, Cx.nox, Cx.wish]
    refine Z.at_start (σ' := [some a, some b]) rfl ?_
    obtain ⟨L, l, c, p, ns, rfl, rfl, F, hm, mp, h1, h2, q⟩ := h
    walk_at "z"
    rename_i v H1 F1 v0 v1
    exact q _ _ (List.mem_of_getElem? (Z.get_getD (by omega))) F1
theorem ok__law_pick (T : Txt K mg c_BadCrackCalendar c_BadHeight c_CrackCalendar) : Z.Ok CX0 P w K mg base "_law_pick" 3 ["_law_hand_here", "_law_things"] [] (sp__law_pick K) := by
  obtain ⟨f, fd, F, g⟩ := T.d__law_pick
  exact Z.mkOk F g (F.binds (ps := ["_law_hand_here", "_law_things"]) fun _ _ _ _ _ _ us hl => match us, hl with | [_, _], _ => rfl) (fn__law_pick T F)
theorem use__law_pick {H : Hp} {Q : VK} {E : XK} {L : List Z.En} {l c p : Addr} {ns : List Int} (F : Z.Fx H L) (hm : Z.En.hand l c ∈ L) (mp : Z.En.ob p (.lst (ns.map V.int)) ∈ L) (h1 : 1 ≤ ns.length) (h2 : ns.length ≤ 1000) (q : ∀ (v : Int) H', v ∈ ns → Z.Fx H' L → Q (.int v) H') : sp__law_pick K [.ref l, .ref p] H Q E :=
  ⟨_, _, rfl, L, l, c, p, ns, rfl, rfl, F, hm, mp, h1, h2, q⟩
theorem sc__law_calendar_drawn : FnScope ["_law_hand_here", "_law_great", "_law_firsts", "_law_period", "_law_growth", "_law_k"] ["_law_hand_here", "_law_great"] (defScope s__law_calendar_drawn) := ⟨rfl, rfl, rfl, by decide +kernel, rfl, by decide +kernel, by decide +kernel⟩
theorem great9 {g : Int} (g0 : 0 ≤ g) (g1 : g < 10 ^ 20) : 0 ≤ g / 10 ^ Int.toNat 19 ∧ g / 10 ^ Int.toNat 19 ≤ 9 := by
  have e : (10 : Int) ^ Int.toNat 19 = 10000000000000000000 := by decide
  have e2 : (10 : Int) ^ 20 = 100000000000000000000 := by decide
  rw [e]
  rw [e2] at g1
  omega
def sp__law_calendar_drawn (K : PySem.W.Frag) : Sp := Z.Sp2 fun a b H Q E => ∃ (L : List Z.En) (l hc : Addr) (g : Int), a = .ref l ∧ b = .int g ∧ Z.Fx H L ∧ Z.En.hand l hc ∈ L ∧ 0 ≤ g ∧ g < 10 ^ 20 ∧ ∀ x c L1 H', c.ok → L.Sublist L1 → TupIn L1 x c → Z.Fx H' L1 → Q (.ref x) H'
theorem fn__law_calendar_drawn (T : Txt K mg c_BadCrackCalendar c_BadHeight c_CrackCalendar) {f : Addr} {fd : FuncData} (F : Fun K "_law_calendar_drawn" "_law_calendar_drawn" s__law_calendar_drawn f fd) : FnOk P w K mg base CX0 4 f fd ["_law_hand_here", "_law_great"] (sp__law_calendar_drawn K) := by
  have O__law_draw := ok__law_draw (P := P) (w := w) (base := base) T
  have O__law_pick := ok__law_pick (P := P) (w := w) (base := base) T
  refine F.ok sc__law_calendar_drawn (fun vs H Q E h => ?_) (fun cdv A outer s H vs Q E hr h => ?_)
  · obtain ⟨a, b, rfl, _⟩ := h; rfl
  · obtain ⟨a, b, rfl, h⟩ := h
    refine ⟨_, (pss_cons (by exact (ps_setLc (i := 2) (own := [("_law_k", 5)]) (g := (gName 5)) (by rfl) sc__law_calendar_drawn.nd rfl rfl (sw_true rfl rfl rfl (by decide +kernel)) (pi_range1 (by rfl) T.b_range (pa_cons (pe_op Z.zAdd pe_int (Z.pe_callO O__law_draw (by rfl) (hr.mono (by decide)) pass0 (pa_cons (pv 0) (pa_cons pe_int pa_nil)))) pa_nil)) (blkOk_by (own := [("_law_k", 5)]) (N := ["_law_hand_here", "_law_great", "_law_firsts", "_law_period", "_law_growth", "_law_k"]) (sc := defScope s__law_calendar_drawn) (by decide +kernel)) (fun _ _ _ _ _ => (by exact (pg_name (i := 5) sc__law_calendar_drawn.nd rfl (by first | exact Or.inl rfl | exact Or.inr rfl)))) (fun _ _ _ _ _ => (by exact pts_nil)) (fun _ _ _ _ _ => (by exact (pe_op (show OpR _ _ (Z.rOr Z.rAddI (Z.rOr Z.rAddS (Z.rOr rCat (rCatT K)))) from Z.zAdd) (Z.pe_callO O__law_draw (by rfl) (hr.mono (by decide)) pass0 (pa_cons (pv 0) (pa_cons (Z.pe_callO O__law_pick (by rfl) (hr.mono (by decide)) pass0 (pa_cons (pv 0) (pa_cons (pe_lst (pa_cons pe_int (pa_cons pe_int pa_nil))) pa_nil))) pa_nil))) (pv 1))))))
      (pss_cons (ps_set (i := 3) sc__law_calendar_drawn.nd rfl (by first | exact Or.inl rfl | exact Or.inr rfl) (pe_op Z.zAdd pe_int (Z.pe_callO O__law_draw (by rfl) (hr.mono (by decide)) pass0 (pa_cons (pv 0) (pa_cons (pe_callB Z.zLen (by rfl) T.b_len (by decide +kernel) (pa_cons (pv 2) pa_nil)) pa_nil)))))
      (pss_cons (ps_set (i := 4) sc__law_calendar_drawn.nd rfl (by first | exact Or.inl rfl | exact Or.inr rfl) (pe_op Z.zAdd (Z.pe_callO O__law_pick (by rfl) (hr.mono (by decide)) pass0 (pa_cons (pv 0) (pa_cons (pe_lst (pa_cons pe_int (pa_cons (pv 3) (pa_cons (pe_op Z.zMul pe_int (pv 3)) (pa_cons (Z.pe_callO O__law_draw (by rfl) (hr.mono (by decide)) pass0 (pa_cons (pv 0) (pa_cons pe_int pa_nil))) pa_nil))))) pa_nil))) (Z.pe_callO O__law_pick (by rfl) (hr.mono (by decide)) pass0 (pa_cons (pv 0) (pa_cons (pe_lst (pa_cons pe_int (pa_cons pe_int (pa_cons (pe_op Z.zMul (pe_op Z.zDiv (pv 1) (pe_op Z.zPow pe_int pe_int)) (pv 3)) pa_nil)))) pa_nil)))))
      (pss_one (ps_ret (pe_tup (pa_cons (pv 2) (pa_cons (pv 3) (pa_cons (pv 4) pa_nil))))))))), ?_⟩
    try dsimp only [cxOf, Cx.nox, Cx.wish]
    refine Z.at_start (σ' := [some a, some b, none, none, none, none]) rfl ?_
    obtain ⟨L, l, hc, g, rfl, rfl, F, mh, g0, g1, q⟩ := h
    obtain ⟨gg0, gg1⟩ := great9 g0 g1
    have lg19 : (((10 : Int) ^ Int.toNat 19).natAbs).log2 < 9000 := by decide +kernel
    have p19 : (0 : Int) < 10 ^ Int.toNat 19 := by decide
    walk_at "z"
    rename_i n1 H1 F1 n10 n11
    refine Z.wLcW walk_range F1 (fun i acc L' => L' = L ∧ ∃ fs : List Int, acc = fs.map V.int ∧ fs.length = i ∧ ∀ f ∈ fs, 0 ≤ f) ⟨rfl, [], rfl, rfl, by simp⟩ (fun _ _ _ _ _ _ _ => trivial) ?_ ?_
    · rintro i u D H2 H3 acc L' hi ⟨rfl, fs, rfl, hfl, hf⟩ F2 ⟨rfl, rfl⟩
      walk_at "zw"
      walk_at "z"
      refine ⟨rfl, ?_⟩
      walk_at "z"
      rename_i pp H4 F4
      refine use__law_pick (ns := [4, 21]) F4 (.tail _ (.tail _ mh)) List.mem_cons_self (by decide) (by decide) fun v H5 hv F5 => ?_
      have hv2 : 0 < v ∧ v < 1000 := by
        simp only [List.mem_cons, List.not_mem_nil, or_false] at hv
        omega
      walk_at "z"
      rename_i v2 H6 F6 v20 v21
      have F7 := F6.sub (L' := Z.En.ob D (.lst (fs.map V.int)) :: L') (.cons _ (.refl _))
      refine Z.lcPut F7 (by rw [List.length_map]; have := Z.line_big; omega) ⟨rfl, fs ++ [v2 + g], by rw [List.map_append]; rfl, by rw [List.length_append, hfl]; rfl, fun f h => ?_⟩
      rcases List.mem_append.mp
            h with h | h
      · exact hf f h
      · cases List.mem_singleton.mp h
        omega
    rintro D acc L' H2 F2 ⟨rfl, fs, rfl, hfl, hf⟩
    walk_at "z"
    rename_i p0 H3 F3 p00 p01 v0 H4 F4 v00 v01 lp H5 F5
    have sL : L'.Sublist (Z.En.ob D (.lst (fs.map V.int)) :: L') := .cons _ (.refl _)
    refine use__law_pick (ns := [0, 1 + p0, 2 * (1 + p0), v0]) F5 (.tail _ (.tail _ mh)) List.mem_cons_self (by simp) (by simp) fun a H6 ha F6 => ?_
    have ha2 : 0 ≤ a ∧ a ≤ 16 := by
      simp only [List.mem_cons, List.not_mem_nil, or_false] at ha
      omega
    clear F5 F4 F3
    walk_at "z"
    rename_i lq H7 F7
    have hm1 : g / 10 ^ Int.toNat 19 * (1 + p0) ≤ 9 * 8 := Int.mul_le_mul gg1 (by omega) (by omega) (by decide)
    have hm0 : 0 ≤ g / 10 ^ Int.toNat 19 * (1 + p0) := Int.mul_nonneg gg0 (by omega)
    refine use__law_pick (ns := [0, 0, g / 10 ^ Int.toNat 19 * (1 + p0)]) F7 (.tail _ (.tail _ (.tail _ mh))) List.mem_cons_self (by simp) (by simp) fun b H8 hb F8 => ?_
    have hb2 : 0 ≤ b ∧ b ≤ 72 := by
      simp only [List.mem_cons,
            List.not_mem_nil, or_false] at hb
      omega
    clear F7 F6
    walk_at "z"
    rename_i x H9 F9
    refine q x ⟨fs, 1 + p0, a + b⟩ _ H9 ⟨by show 1 ≤ 1 + p0; omega, by show 1 + p0 ≤ (fs.length : Int); omega, by show (fs.length : Int) ≤ 100; omega, by show 0 ≤ a + b; omega, by show a + b < 1000; omega, hf⟩ (.cons _ (.cons _ (.cons _ sL))) ⟨D, List.mem_cons_self, .tail _ (.tail _ (.tail _ List.mem_cons_self))⟩ F9
theorem ok__law_calendar_drawn (T : Txt K mg c_BadCrackCalendar c_BadHeight c_CrackCalendar) : Z.Ok CX0 P w K mg base "_law_calendar_drawn" 4 ["_law_hand_here", "_law_great"] [] (sp__law_calendar_drawn K) := by
  obtain ⟨f, fd, F, g⟩ := T.d__law_calendar_drawn
  exact Z.mkOk F g (F.binds (ps := ["_law_hand_here", "_law_great"]) fun _ _ _ _ _ _ us hl => match us, hl with | [_, _], _ => rfl) (fn__law_calendar_drawn T F)
theorem use__law_calendar_drawn {H : Hp} {Q : VK} {E : XK} {L : List Z.En} {l hc : Addr} {g : Int} (F : Z.Fx H L) (mh : Z.En.hand l hc ∈ L) (g0 : 0 ≤ g) (g1 : g < 10 ^ 20) (q : ∀ x c L1 H', c.ok → L.Sublist L1 → TupIn L1 x c → Z.Fx H' L1 → Q (.ref x) H') : sp__law_calendar_drawn K [.ref l, .int g] H Q E :=
  ⟨_, _, rfl, L, l, hc, g, rfl, rfl, F, mh, g0, g1, q⟩
theorem sc__check_height : FnScope ["height"] ["height"] (defScope s__check_height) := ⟨rfl, rfl, rfl, by decide +kernel, rfl, by decide +kernel, by decide +kernel⟩
def sp__check_height (K : PySem.W.Frag) : Sp := Z.Sp1 fun a H Q E => ∃ h : Int, a = .int h ∧ 1 ≤ h ∧ h ≤ 10 ^ 30 ∧ Q .non H
theorem fn__check_height (T : Txt K mg c_BadCrackCalendar c_BadHeight c_CrackCalendar) {f : Addr} {fd : FuncData} (F : Fun K "_check_height" "_check_height" s__check_height f fd) : FnOk P w K mg base (L2.CX P w) 2 f fd ["height"] (sp__check_height K) := by
  have O_is_whole_1 := ok_is_whole_1 (P := P) (w := w) (base := base) T
  have O_is_whole_2 := ok_is_whole_2 (P := P) (w := w) (base := base) T
  have O_is_whole_3 := ok_is_whole_3 (P := P) (w := w) (base := base) T
  refine F.okX sc__check_height (fun vs H Q E h => ?_) (fun cdv A outer s H vs Q E hr h => ?_)
  · obtain ⟨a, rfl, _⟩ := h; rfl
  · obtain ⟨a, rfl, h⟩ := h
    have TK := takes_of (X := cxOf (L2.CX P w) P w K mg base ["height"] "_check_height" (defScope s__check_height) f cdv A outer s H E) rfl rfl rfl rfl
    refine ⟨_, (pss_one (ps_if (pt_not (Z.pt_truN (Z.pe_callO O_is_whole_3 (by rfl) (hr.mono (by decide)) pass0 (pa_cons (pv 0) (pa_cons pe_int (pa_cons (pe_op Z.zPow pe_int pe_int) pa_nil))))))
        (pss_one (ps_raise (by rfl) TK (Z.pmk_err00 T.y_BadHeight T.g_BadHeight (by rfl))))
        pss_nil)), ?_⟩
    try dsimp only [cxOf, Cx.nox, Cx.wish]
    refine Z.at_start (σ' := [some a]) rfl ?_
    obtain ⟨h, rfl, h1, h2, q⟩ := h
    walk_at "z"
    refine Z.wIfF ?_ ?_
    · have e : (10 : Int) ^ 30 = 1000000000000000000000000000000 := by decide
      simp only [Z.inB, Bool.not_eq_false', Bool.and_eq_true, decide_eq_true_eq]
      exact ⟨h1, h2⟩
    walk_at "z"
    exact q
theorem ok__check_height (T : Txt K mg c_BadCrackCalendar c_BadHeight c_CrackCalendar) : Z.Ok (L2.CX P w) P w K mg base "_check_height" 2 ["height"] [] (sp__check_height K) := by
  obtain ⟨f, fd, F, g⟩ := T.d__check_height
  exact Z.mkOk F g (F.binds (ps := ["height"]) fun _ _ _ _ _ _ us hl => match us, hl with | [_], _ => rfl) (fn__check_height T F)
theorem use__check_height {H : Hp} {Q : VK} {E : XK} {h : Int} (h1 : 1 ≤ h) (h2 : h ≤ 10 ^ 30) (q : Q .non H) : sp__check_height K [.int h] H Q E := ⟨_, rfl, h, rfl, h1, h2, q⟩
theorem sc_crack_at : FnScope ["calendar", "height"] ["calendar", "height"] (defScope s_crack_at) := ⟨rfl, rfl, rfl, by decide +kernel, rfl, by decide +kernel, by decide +kernel⟩
def sp_crack_at (K : PySem.W.Frag) (cC : Addr) : Sp := Z.Sp2 fun a b H Q E => ∃ (L : List Z.En) (x : Addr) (c : Cal) (h : Int), a = .ref x ∧ b = .int h ∧ Z.Fx H L ∧ CalIn cC L x c ∧ c.ok ∧ 1 ≤ h ∧ h ≤ 10 ^ 30 ∧ Q (.int (c.at h)) H
theorem fn_crack_at (T : Txt K mg c_BadCrackCalendar c_BadHeight c_CrackCalendar) {f : Addr} {fd : FuncData} (F : Fun K "crack_at" "crack_at" s_crack_at f fd) : FnOk P w K mg base (L2.CX P w) 3 f fd ["calendar", "height"] (sp_crack_at K c_CrackCalendar) := by
  have O__check_height := ok__check_height (P := P) (w := w) (base := base) T
  have O__price_at := ok__price_at (P := P) (w := w) (base := base) T
  refine F.okX sc_crack_at (fun vs H Q E h => ?_) (fun cdv A outer s H vs Q E hr h => ?_)
  · obtain ⟨a, b, rfl, _⟩ := h; rfl
  · obtain ⟨a, b, rfl, h⟩ := h
    have TK := takes_of (X := cxOf (L2.CX P w) P w K mg base ["calendar", "height"] "crack_at" (defScope s_crack_at) f cdv A outer s H E) rfl rfl rfl rfl
    refine ⟨_, (pss_cons (ps_expr (Z.pe_callO O__check_height (by rfl) (hr.mono (by decide)) (Z.passE TK) (pa_cons (pv 1) pa_nil)))
      (pss_one (ps_ret (Z.pe_callO O__price_at (by rfl) (hr.mono (by decide)) pass0 (pa_cons (pv 0) (pa_cons (pv 1) pa_nil)))))), ?_⟩
    try dsimp only [cxOf, Cx.nox, Cx.wish]
    refine Z.at_start (σ' := [some a, some b]) rfl ?_
    obtain ⟨L, x, c, h, rfl, rfl, F, ci, co, h1, h2, q⟩ := h
    walk_at "z"
    refine use__check_height h1 h2 ?_
    walk_at "z"
    refine use__price_at F ci co h1 ?_
    walk_at "z"
    exact q
theorem ok_crack_at (T : Txt K mg c_BadCrackCalendar c_BadHeight c_CrackCalendar) : Z.Ok (L2.CX P w) P w K mg base "crack_at" 3 ["calendar", "height"] [] (sp_crack_at K c_CrackCalendar) := by
  obtain ⟨f, fd, F, g⟩ := T.d_crack_at
  exact Z.mkOk F g (F.binds (ps := ["calendar", "height"]) fun _ _ _ _ _ _ us hl => match us, hl with | [_, _], _ => rfl) (fn_crack_at T F)
theorem use_crack_at {cC : Addr} {H : Hp} {Q : VK} {E : XK} {L : List Z.En} {x : Addr} {c : Cal} {h : Int} (F : Z.Fx H L) (ci : CalIn cC L x c) (co : c.ok) (h1 : 1 ≤ h) (h2 : h ≤ 10 ^ 30) (q : Q (.int (c.at h)) H) : sp_crack_at K cC [.ref x, .int h] H Q E := ⟨_, _, rfl, L, x, c, h, rfl, rfl, F, ci, co, h1, h2, q⟩
theorem sc__law_hand : FnScope ["_law_script", "_law_total", "_law_k", "_law_cell"] ["_law_script"] (defScope s__law_hand) := ⟨rfl, rfl, rfl, by decide +kernel, rfl, by decide +kernel, by decide +kernel⟩
def sp__law_hand (K : PySem.W.Frag) : Sp := Z.Sp1 fun a H Q E => ∃ (l : Addr) (ns : List Int), a = .ref l ∧ SqL K H l (ns.map V.int) ∧ ns.length ≤ 63 ∧ ∀ p c H', Z.Fx H' [.hand p c] → Q (.ref p) H'
theorem fn__law_hand (T : Txt K mg c_BadCrackCalendar c_BadHeight c_CrackCalendar) {f : Addr} {fd : FuncData} (F : Fun K "_law_hand" "_law_hand" s__law_hand f fd) : FnOk P w K mg base CX0 1 f fd ["_law_script"] (sp__law_hand K) := by
  refine F.ok sc__law_hand (fun vs H Q E h => ?_) (fun cdv A outer s H vs Q E hr h => ?_)
  · obtain ⟨a, rfl, _⟩ := h; rfl
  · obtain ⟨a, rfl, h⟩ := h
    refine ⟨_, (pss_cons (ps_set (i := 1) sc__law_hand.nd rfl (by first | exact Or.inl rfl | exact Or.inr rfl) pe_int)
      (pss_cons (ps_for PassesOwn.never (by rfl) (Z.pi_enumS (by rfl) T.b_enumerate (pa_cons (pv 0) pa_nil)) (pg_tup (by rfl) (pgs_cons (pg_name (i := 2) sc__law_hand.nd rfl (by first | exact Or.inl rfl | exact Or.inr rfl)) (pgs_cons (pg_name (i := 3) sc__law_hand.nd rfl (by first | exact Or.inl rfl | exact Or.inr rfl)) pgs_nil)))
        (pss_one (ps_set (i := 1) sc__law_hand.nd rfl (by first | exact Or.inl rfl | exact Or.inr rfl) (pe_op Z.zMod (pe_callTy Z.zInt (by rfl) T.b_int (by decide +kernel) (pa_cons (pe_op Z.zAdd (pe_op Z.zMul (pv 1) pe_int) (pe_op Z.zMul (pe_callTy Z.zInt (by rfl) T.b_int (by decide +kernel) (pa_cons (pv 3) pa_nil)) (pe_op Z.zAdd (pv 2) pe_int))) pa_nil)) pe_int))))
      (pss_one (ps_ret (pe_lst (pa_cons (by exact (pe_lc (own := [("_law_cell", 3)]) (g := (gName 3)) (by rfl) sc__law_hand.nd (Z.pi_seq (pv 0)) (blkOk_by (own := [("_law_cell", 3)]) (N := ["_law_script", "_law_total", "_law_k", "_law_cell"]) (sc := defScope s__law_hand) (by decide +kernel)) (fun _ _ _ _ _ => (by exact (pg_name (i := 3) sc__law_hand.nd rfl (by first | exact Or.inl rfl | exact Or.inr rfl)))) (fun _ _ _ _ _ => (by exact pts_nil)) (fun _ _ _ _ _ => (by exact (pe_callB Z.zAbs (by rfl) T.b_abs (by decide +kernel) (pa_cons (pe_callTy Z.zInt (by rfl) T.b_int (by decide +kernel) (pa_cons (pv 3) pa_nil)) pa_nil)))))) (pa_cons pe_int (pa_cons pe_int (pa_cons (pv 1) pa_nil))))))))), ?_⟩
    try dsimp only [cxOf, Cx.nox, Cx.wish]
    refine Z.at_start (σ' := [some a, none, none, none]) rfl ?_
    obtain ⟨l, ns, rfl, hS, hl, k⟩ := h
    obtain ⟨L0, F, keep⟩ := Z.seq_keep hS [] Z.Fx.nil (by simp)
    walk_at "z"
    refine ⟨l, rfl, .inl ⟨_, hS, ?_⟩⟩
    refine Z.wForW (walk_enum (xs := ns.map V.int)) (fun i σ H2 => ∃ (t : Int) (v w : Option V) (L1 : List Z.En), σ = [some (.ref l), some (.int t), v, w] ∧ Z.Fx H2 (L1 ++ (L0 ++ []))) ?_ ?_ ?_ ?_
    · exact ⟨_, _, _, [], rfl, F⟩
    · rintro i σ H2 _ ⟨t, v, w, L1, rfl, F2⟩
      exact keep _ _ F2
    · rintro i x σ H2 H3 hi ⟨t, v, w, L1, rfl, F2⟩ ⟨T, u, y, rfl, hT, rfl, e1, e2⟩
      cases e1
      obtain ⟨z, rfl⟩ := Z.int_of_map e2
      rw [List.length_map] at hi
      have F3 := F2.new (o := .tup [.int (i : Nat), .int z]) hT
      walk_at "z"
      exact ⟨_, _, _, .ob T (.tup [.int (i : Nat), .int z]) :: L1, rfl, F3⟩
    · rintro σ H2 ⟨t, v, w, L1, rfl, F2⟩
      walk_at "z"
      refine Z.wGoSL (keep _ _ F2) ?_
      refine Z.wLcW (walk_list (xs := ns.map V.int)) F2 (fun i acc L' => ∃ cs : List Int, acc = cs.map V.int ∧ cs.length = i ∧ L' = L1 ++ (L0 ++ [])) ⟨[], rfl, rfl, rfl⟩ ?_ ?_ ?_
      · rintro i acc L' D H5 ⟨cs, rfl, _, rfl⟩ F5
        exact keep _ (_ :: _) F5
      · rintro i x D H5 H6 acc L' hi ⟨cs, rfl, hc, rfl⟩ F5 ⟨rfl, hx⟩
        obtain ⟨z, rfl⟩ := Z.int_of_map hx
        rw [List.length_map] at hi
        walk_at "zw"
        walk_at "z"
        refine ⟨rfl, ?_⟩
        walk_at "z"
        refine Z.lcPut F5 (by rw [List.length_map]; have := Z.line_big; omega) ⟨cs ++ [if z < 0 then -z else z], by rw [List.map_append]; rfl, by rw [List.length_append, hc]; rfl, rfl⟩
      · rintro D acc L' H5 F5 ⟨cs, rfl, hc, rfl⟩
        walk_at "z"
        rename_i p H6 F6
        refine k _ D _ ?_
        have F7 := F6.sub (L' := [Z.En.ob p (.lst [.ref D, .int 0, .int 0, .int t]), Z.En.ob D (.lst (cs.map V.int))]) (.cons_cons _ (.cons_cons _ (List.nil_sublist _)))
        refine ⟨fun e he => ?_, F7.2⟩
        cases List.mem_singleton.mp he
        exact ⟨cs, 0, 0, t, by omega, F7.get List.mem_cons_self, F7.get (List.mem_cons_of_mem _ List.mem_cons_self)⟩
theorem ok__law_hand (T : Txt K mg c_BadCrackCalendar c_BadHeight c_CrackCalendar) : Z.Ok CX0 P w K mg base "_law_hand" 1 ["_law_script"] [] (sp__law_hand K) := by
  obtain ⟨f, fd, F, g⟩ := T.d__law_hand
  exact Z.mkOk F g (F.binds (ps := ["_law_script"]) fun _ _ _ _ _ _ us hl => match us, hl with | [_], _ => rfl) (fn__law_hand T F)
theorem sc_law : FnScope ["_law_script", "_law_hand_here", "_law_great", "_law_one", "_law_other", "_law_made", "_law_height", "_law_told", "_law_first"] ["_law_script"] (defScope s_law) := ⟨rfl, rfl, rfl, by decide +kernel, rfl, by decide +kernel, by decide +kernel⟩
def sp_law (K : PySem.W.Frag) : Sp := Z.Sp1 fun a H Q E => ∃ (l : Addr) (ns : List Int), a = .ref l ∧ SqL K H l (ns.map V.int) ∧ ns.length ≤ 63 ∧ ∀ H', Q (.bl true) H'
theorem Cal.nn {c : Cal} (o : c.ok) {h : Int} (h1 : 1 ≤ h) : 0 ≤ c.at h := by
  obtain ⟨a, b⟩ := Cal.ix o h1
  have t0 := (trn_spec (m := c.m) (p := c.p) (h := h) (by have := o.1; omega)).1
  have g0 := o.2.2.2.1
  have b' : h - trn c.m c.p h * c.p - 1 < (c.fs.length : Int) := b
  have hf := o.2.2.2.2.2 _ (List.mem_of_getElem? (Z.get_getD (ns := c.fs) (k := (h - trn c.m c.p h * c.p - 1).toNat) (by omega)))
  have := Int.mul_nonneg t0 g0
  unfold Cal.at
  omega
theorem fn_law (T : Txt K mg c_BadCrackCalendar c_BadHeight c_CrackCalendar) {f : Addr} {fd : FuncData} (F : Fun K "law" "law" s_law f fd) : FnOk P w K mg base CX0 5 f fd ["_law_script"] (sp_law K) := by
  have O__law_at := ok__law_at (P := P) (w := w) (base := base) T
  have O__law_calendar_drawn := ok__law_calendar_drawn (P := P) (w := w) (base := base) T
  have O__law_draw := ok__law_draw (P := P) (w := w) (base := base) T
  have O__law_hand := ok__law_hand (P := P) (w := w) (base := base) T
  have O__law_pick := ok__law_pick (P := P) (w := w) (base := base) T
  have O__law_stronger := ok__law_stronger (P := P) (w := w) (base := base) T
  have O__law_whole := ok__law_whole (P := P) (w := w) (base := base) T
  have O_crack_at := ok_crack_at (P := P) (w := w) (base := base) T
  have O_stays_stronger := ok_stays_stronger (P := P) (w := w) (base := base) T
  have O_CrackCalendar_3 := ok_CrackCalendar___init___3 (P := P) (w := w) (base := base) T
  refine F.ok sc_law (fun vs H Q E h => ?_) (fun cdv A outer s H vs Q E hr h => ?_)
  · obtain ⟨a, rfl, _⟩ := h; rfl
  · obtain ⟨a, rfl, h⟩ := h
    refine ⟨_, (pss_cons (ps_set (i := 1) sc_law.nd rfl (by first | exact Or.inl rfl | exact Or.inr rfl) (Z.pe_callO O__law_hand (by rfl) (hr.mono (by decide)) pass0 (pa_cons (pv 0) pa_nil)))
      (pss_cons (ps_set (i := 2) sc_law.nd rfl (by first | exact Or.inl rfl | exact Or.inr rfl) (Z.pe_callO O__law_pick (by rfl) (hr.mono (by decide)) pass0 (pa_cons (pv 1) (pa_cons (pe_lst (pa_cons pe_int (pa_cons pe_int (pa_cons pe_int (pa_cons (Z.pe_callO O__law_draw (by rfl) (hr.mono (by decide)) pass0 (pa_cons (pv 1) (pa_cons (pe_op Z.zPow pe_int pe_int) pa_nil))) pa_nil))))) pa_nil))))
      (pss_cons (ps_set (i := 3) sc_law.nd rfl (by first | exact Or.inl rfl | exact Or.inr rfl) (Z.pe_callO O__law_calendar_drawn (by rfl) (hr.mono (by decide)) pass0 (pa_cons (pv 1) (pa_cons pe_int pa_nil))))
      (pss_cons (ps_set (i := 4) sc_law.nd rfl (by first | exact Or.inl rfl | exact Or.inr rfl) (Z.pe_callO O__law_calendar_drawn (by rfl) (hr.mono (by decide)) pass0 (pa_cons (pv 1) (pa_cons (pv 2) pa_nil))))
      (pss_cons (ps_if (pt_cmpR (Z.zEq (Z.hu0 hr)) (Z.pe_callO O__law_draw (by rfl) (hr.mono (by decide)) pass0 (pa_cons (pv 1) (pa_cons pe_int pa_nil))) pe_int (nomark _))
        (pss_one (ps_set (i := 4) sc_law.nd rfl (by first | exact Or.inl rfl | exact Or.inr rfl) (pe_tup (pa_cons (by exact (pe_lc (own := [("_law_first", 8)]) (g := (gName 8)) (by rfl) sc_law.nd (Z.pi_seq (pe_ix ix_seq (pv 3) pe_int (fun _ _ => rfl))) (blkOk_by (own := [("_law_first", 8)]) (N := ["_law_script", "_law_hand_here", "_law_great", "_law_one", "_law_other", "_law_made", "_law_height", "_law_told", "_law_first"]) (sc := defScope s_law) (by decide +kernel)) (fun _ _ _ _ _ => (by exact (pg_name (i := 8) sc_law.nd rfl (by first | exact Or.inl rfl | exact Or.inr rfl)))) (fun _ _ _ _ _ => (by exact pts_nil)) (fun _ _ _ _ _ => (by exact (pe_op (show OpR _ _ (Z.rOr Z.rAddI (Z.rOr Z.rAddS (Z.rOr rCat (rCatT K)))) from Z.zAdd) (pe_op (show OpR _ _ (Z.rOr Z.rAddI (Z.rOr Z.rAddS (Z.rOr rCat (rCatT K)))) from Z.zAdd) (pv 8) (Z.pe_callO O__law_pick (by rfl) (hr.mono (by decide)) pass0 (pa_cons (pv 1) (pa_cons (pe_lst (pa_cons (pe_un un_neg pe_int) (pa_cons pe_int (pa_cons pe_int (pa_cons pe_int pa_nil))))) pa_nil)))) pe_int))))) (pa_cons (pe_ix ix_seq (pv 3) pe_int (fun _ _ => rfl)) (pa_cons (pe_ix ix_seq (pv 3) pe_int (fun _ _ => rfl)) pa_nil))))))
        pss_nil)
      (pss_cons (ps_set (i := 5) sc_law.nd rfl (by first | exact Or.inl rfl | exact Or.inr rfl) (pe_lst (pa_cons (Z.pe_makeO O_CrackCalendar_3 (hr.mono (by decide)) T.g_CrackCalendar (by rfl) passL (pa_cons (pe_ix ix_seq (pv 3) pe_int (fun _ _ => rfl)) (pa_cons (pe_ix ix_seq (pv 3) pe_int (fun _ _ => rfl)) (pa_cons (pe_ix ix_seq (pv 3) pe_int (fun _ _ => rfl)) pa_nil)))) (pa_cons (Z.pe_makeO O_CrackCalendar_3 (hr.mono (by decide)) T.g_CrackCalendar (by rfl) passL (pa_cons (pe_callTy Z.zTuple (by rfl) T.b_tuple (by decide +kernel) (pa_cons (pe_ix ix_seq (pv 4) pe_int (fun _ _ => rfl)) pa_nil)) (pa_cons (pe_ix ix_seq (pv 4) pe_int (fun _ _ => rfl)) (pa_cons (pe_ix ix_seq (pv 4) pe_int (fun _ _ => rfl)) pa_nil)))) pa_nil))))
      (pss_cons (ps_if (pt_not (Z.pt_truN (Z.pe_callO O__law_stronger (by rfl) (hr.mono (by decide)) pass0 (pa_cons (pv 3) (pa_cons (pv 4) (pa_cons (Z.pe_callO O_stays_stronger (by rfl) (hr.mono (by decide)) pass0 (pa_cons (pe_ix ix_seq (pv 5) pe_int (fun _ _ => rfl)) (pa_cons (pe_ix ix_seq (pv 5) pe_int (fun _ _ => rfl)) pa_nil))) pa_nil))))))
        (pss_one (ps_ret pe_bl))
        pss_nil)
      (pss_cons (ps_if (pt_not (Z.pt_truN (Z.pe_callO O__law_stronger (by rfl) (hr.mono (by decide)) pass0 (pa_cons (pv 4) (pa_cons (pv 3) (pa_cons (Z.pe_callO O_stays_stronger (by rfl) (hr.mono (by decide)) pass0 (pa_cons (pe_ix ix_seq (pv 5) pe_int (fun _ _ => rfl)) (pa_cons (pe_ix ix_seq (pv 5) pe_int (fun _ _ => rfl)) pa_nil))) pa_nil))))))
        (pss_one (ps_ret pe_bl))
        pss_nil)
      (pss_cons (ps_if (pt_cmpR Z.zIsNot (Z.pe_callO O_stays_stronger (by rfl) (hr.mono (by decide)) pass0 (pa_cons (pe_ix ix_seq (pv 5) pe_int (fun _ _ => rfl)) (pa_cons (pe_ix ix_seq (pv 5) pe_int (fun _ _ => rfl)) pa_nil))) pe_non (nomark _))
        (pss_one (ps_ret pe_bl))
        pss_nil)
      (pss_cons (ps_for PassesOwn.never (by rfl) (Z.pi_seq (pe_lst (pa_cons (pe_op Z.zAdd pe_int (Z.pe_callO O__law_draw (by rfl) (hr.mono (by decide)) pass0 (pa_cons (pv 1) (pa_cons pe_int pa_nil)))) (pa_cons (pe_op Z.zAdd pe_int (Z.pe_callO O__law_draw (by rfl) (hr.mono (by decide)) pass0 (pa_cons (pv 1) (pa_cons (pe_op Z.zPow pe_int pe_int) pa_nil)))) pa_nil)))) (pg_name (i := 6) sc_law.nd rfl (by first | exact Or.inl rfl | exact Or.inr rfl))
        (pss_cons (ps_set (i := 7) sc_law.nd rfl (by first | exact Or.inl rfl | exact Or.inr rfl) (Z.pe_callO O_crack_at (by rfl) (hr.mono (by decide)) passL (pa_cons (pe_ix ix_seq (pv 5) pe_int (fun _ _ => rfl)) (pa_cons (pv 6) pa_nil))))
        (pss_one (ps_if (PW.pt (pw_or (pt_not (Z.pt_truN (Z.pe_callO O__law_whole (by rfl) (hr.mono (by decide)) pass0 (pa_cons (pv 7) (pa_cons pe_int pa_nil))))) (pw_or1 (pt_cmpR (Z.zNe (Z.hu0 hr)) (pv 7) (Z.pe_callO O__law_at (by rfl) (hr.mono (by decide)) pass0 (pa_cons (pv 4) (pa_cons (pv 6) pa_nil))) (nomark _)))))
          (pss_one (ps_ret pe_bl))
          pss_nil))))
      (pss_one (ps_ret pe_bl)))))))))))), ?_⟩
    try dsimp only [cxOf, Cx.nox, Cx.wish]
    refine Z.at_start (σ' := [some a, none, none, none, none, none, none, none, none]) rfl ?_
    obtain ⟨l, ns0, rfl, hS, hl, q⟩ := h
    walk_at "z"
    refine ⟨_, rfl, l, ns0, rfl, hS, hl, fun hp cp H1 F1 => ?_⟩
    have lg20 : (((10 : Int) ^ Int.toNat 20).natAbs).log2 < 9000 := by decide +kernel
    have p20 : (0 : Int) < 10 ^ Int.toNat 20 := by decide
    have lg30 : (((10 : Int) ^ Int.toNat 30).natAbs).log2 < 9000 := by decide +kernel
    have p30 : (0 : Int) < 10 ^ Int.toNat 30 := by decide
    walk_at "z"
    rename_i v H2 F2 v0 v1 lp H3 F3
    refine use__law_pick (ns := [0, 0, 0, v]) F3 (.tail _ List.mem_cons_self) List.mem_cons_self (by simp) (by simp) fun g H4 hg F4 => ?_
    have hg2 : 0 ≤ g ∧ g < 10 ^ 20 := by
      have e : (10 : Int) ^ Int.toNat 20 = 10 ^ 20 := rfl
      rw [e] at v1
      simp only [List.mem_cons, List.not_mem_nil, or_false] at hg
      rcases hg with rfl | rfl | rfl | rfl
      · exact ⟨by decide, by decide⟩
      · exact ⟨by decide, by decide⟩
      · exact ⟨by decide, by decide⟩
      · exact ⟨v0, v1⟩
    have F5 := F4.sub (L' := [Z.En.hand hp cp]) (.cons _ (.refl _))
    clear F4 F3 F2 F1
    walk_at "y"
    refine use__law_calendar_drawn F5 List.mem_cons_self (by decide) (by decide) fun x c L1 H5 co s1 ci F6 => ?_
    walk_at "y"
    refine use__law_calendar_drawn F6 (s1.subset List.mem_cons_self) hg2.1 hg2.2 fun y d0 L2 H6 dok0 s2 di0 F7 => ?_
    have mh2 := s2.subset (s1.subset List.mem_cons_self)
    have ci2 := ci.le s2
    clear F6 F5 ci s1 s2 L1
    obtain ⟨f1, mx1, mx2⟩ := id ci2
    obtain ⟨cp1, cpm, c100, cg0, cg1, cf⟩ := id co
    walk_at "y"
    refine Z.wMidS (fun σ' H' => ∃ y d L3, σ' = [some (.ref l), some (.ref hp), some (.int g), some (.ref x), some (.ref y), none, none, none, none] ∧ d.ok ∧ L2.Sublist L3 ∧ TupIn L3 y d ∧ Z.Fx H' L3) (fun N hk => ?_) ?_
    · walk_at "z"
      rename_i w0 H7 F8 w1 w2
      refine Z.wIfD (fun _ => ?_) (fun _ => ?_)
      · walk_at "z"
        refine Z.wLcL mx2 F8 (fun i acc L4 => L4 = L2 ∧ ∃ fs : List Int, acc = fs.map V.int ∧ fs.length = i ∧ ∀ f ∈ fs, 0 ≤ f) ⟨rfl, [], rfl, rfl, by simp⟩ (fun i acc L4 r => r.1 ▸ mx2) ?_ ?_
        · rintro i u D H8 acc L4 hu ⟨rfl, fs, rfl, hfl, hf⟩ F9
          obtain ⟨z, rfl, hz⟩ := Z.int_of_map' hu
          have hi := (List.getElem?_eq_some_iff.mp hz).1
          have z0 := cf z (List.mem_of_getElem? hz)
          unfold Cal.m at c100
          walk_at "zw"
          walk_at "z"
          refine ⟨rfl, ?_⟩
          walk_at "z"
          rename_i lq H9 F10
          refine use__law_pick (ns := [-1, 0, 0, 1]) F10 (.tail _ (.tail _ mh2)) List.mem_cons_self (by decide) (by decide) fun a H10 ha F11 => ?_
          have ha2 : -1 ≤ a := by
            simp only [List.mem_cons, List.not_mem_nil, or_false] at ha
            omega
          walk_at "z"
          have F12 := F11.sub (L' := Z.En.ob D (.lst (fs.map V.int)) :: L4) (.cons _ (.refl _))
          refine Z.lcPut F12 (by rw [List.length_map]; have := Z.line_big; omega) ⟨rfl, fs ++ [z + a + 1], by rw [List.map_append]; rfl, by rw [List.length_append, hfl]; rfl, fun f h => ?_⟩
          rcases List.mem_append.mp
                h with h | h
          · exact hf f h
          · cases List.mem_singleton.mp h
            omega
        · rintro D acc L4 H8 F9 ⟨rfl, fs, rfl, hfl, hf⟩
          rw [List.length_map] at hfl
          walk_at "z"
          rename_i y2 H9 F10
          refine hk _ _ ⟨y2, ⟨fs, c.p, c.g⟩, _, rfl, ⟨cp1, ?_, ?_, cg0, cg1, hf⟩, .cons _ (.cons _ (.refl _)), ⟨D, List.mem_cons_self, .tail _ List.mem_cons_self⟩, F10⟩
          · show c.p ≤ (fs.length : Int)
            rw [hfl]
            exact cpm
          · show (fs.length : Int) ≤ 100
            rw [hfl]
            exact c100
      · walk_at "z"
        exact hk _ _ ⟨y, d0, L2, rfl, dok0, .refl _, di0, F8⟩
    rintro _ H7 ⟨y, d, L3, rfl, dok, s3, di, F8⟩
    have mh3 := s3.subset mh2
    have ci3 := ci2.le s3
    clear F7 di0 dok0 mx1 mx2
    obtain ⟨f1, mx1, mx2⟩ := id ci3
    obtain ⟨f2, my1, my2⟩ := id di
    walk_at "y"
    refine use_CrackCalendar (k := c) F8 (.lst mx2) co fun o1 L4 H8 s4 oi1 F9 => ?_
    have my1' := s4.subset my1
    have my2' := s4.subset my2
    walk_at "y"
    rename_i tp H9 F10
    refine use_CrackCalendar (k := d) F10 (.tup List.mem_cons_self) dok fun o2 L5 H10 s5 oi2 F11 => ?_
    have s5' : L4.Sublist L5 := (List.Sublist.cons _ (.refl _)).trans s5
    have s6 := s4.trans s5'
    have oi1' := oi1.le s5'
    have ci5 := ci3.le s6
    have di5 := di.le s6
    have mh5 := s6.subset mh3
    clear F10 F9 F8 my1' my2' mx1 mx2 my1 my2
    walk_at "y"
    rename_i mp H11 F12
    obtain ⟨L6, s7, mm, F13⟩ : ∃ L6, L5.Sublist L6 ∧ Z.En.ob mp (.lst [.ref o1, .ref o2]) ∈ L6 ∧ Z.Fx H11 L6 := ⟨_, .cons _ (.refl _), List.mem_cons_self, F12⟩
    have oi1 := oi1'.le s7
    have oi2 := oi2.le s7
    have ci := ci5.le s7
    have di := di5.le s7
    have mh := s7.subset mh5
    clear F12 F11
    refine Z.wMidS (fun σ' H' => σ' = [some (.ref l), some (.ref hp), some (.int g), some (.ref x), some (.ref y), some (.ref mp), none, none, none] ∧ Z.Fx H' L6) (fun N hk => ?_) ?_
    · walk_at "z"
      refine use_stays_stronger F13 oi1 co oi2 dok (fun hn H' F' => ?_) (fun t ht H' F' => ?_)
      · walk_at "z"
        refine use__law_stronger F' ci co di dok (.inl ⟨rfl, hn⟩) fun H2 F2 => ?_
        walk_at "z"
        exact hk _ _ ⟨rfl, F2⟩
      · walk_at "z"
        refine use__law_stronger F' ci co di dok (.inr ⟨t, rfl, ht⟩) fun H2 F2 => ?_
        walk_at "z"
        exact hk _ _ ⟨rfl, F2⟩
    rintro _ H12 ⟨rfl, F14⟩
    walk_at "y"
    refine Z.wMidS (fun σ' H' => σ' = [some (.ref l), some (.ref hp), some (.int g), some (.ref x), some (.ref y), some (.ref mp), none, none, none] ∧ Z.Fx H' L6) (fun N hk => ?_) ?_
    · walk_at "z"
      refine use_stays_stronger F14 oi2 dok oi1 co (fun hn H' F' => ?_) (fun t ht H' F' => ?_)
      · walk_at "z"
        refine use__law_stronger F' di dok ci co (.inl ⟨rfl, hn⟩) fun H2 F2 => ?_
        walk_at "z"
        exact hk _ _ ⟨rfl, F2⟩
      · walk_at "z"
        refine use__law_stronger F' di dok ci co (.inr ⟨t, rfl, ht⟩) fun H2 F2 => ?_
        walk_at "z"
        exact hk _ _ ⟨rfl, F2⟩
    rintro _ H13 ⟨rfl, F15⟩
    walk_at "z"
    refine use_stays_stronger F15 oi1 co oi1 co (fun hn H14 F16 => ?_) (fun t ht H' F' => absurd (good_self co) ht.2.1)
    walk_at "z"
    rename_i a0 H15 F17 a1 a2 b0 H16 F18 b1 b2 lq H17 F19
    have hns : ∀ n ∈ [1 + a0, 1 + b0], 1 ≤ n ∧ n ≤ 10 ^ 30 := by
      have e : (10 : Int) ^ Int.toNat 30 = 10 ^ 30 := rfl
      rw [e] at b2
      have e2 : (10 : Int) ^ 30 = 1000000000000000000000000000000 := by decide
      rw [e2] at b2 ⊢
      intro n hn
      simp only [List.mem_cons, List.not_mem_nil, or_false] at hn
      omega
    have eL : [V.int (1 + a0), V.int (1 + b0)] = [1 + a0, 1 + b0].map V.int := rfl
    rw [eL] at F19
    generalize [1 + a0, 1 + b0] = hs at F19 hns
    obtain ⟨L7, s8, mq, F20⟩ : ∃ L7, L6.Sublist L7 ∧ Z.En.ob lq (.lst (hs.map V.int)) ∈ L7 ∧ Z.Fx H17 L7 := ⟨_, .cons _ (.refl _), List.mem_cons_self, F19⟩
    have oi2 := oi2.le s8
    have di := di.le s8
    have mm := s8.subset mm
    clear F19 F18 F17 F16 F15 F14
    refine Z.wForLi F20 mq (fun i σ H' => ∃ v6 v7, σ = [some (.ref l), some (.ref hp), some (.int g), some (.ref x), some (.ref y), some (.ref mp), v6, v7, none] ∧ Z.Fx H' L7) ⟨_, _, rfl, F20⟩ ?_ ?_ ?_
    · rintro i σ H' ⟨v6, v7, rfl, F'⟩
      exact ⟨_, F', mq⟩
    · rintro i u σ H18 hu ⟨v6, v7, rfl, F21⟩
      obtain ⟨z, rfl, hz⟩ := Z.int_of_map' hu
      obtain ⟨z1, z2⟩ := hns z (List.mem_of_getElem? hz)
      walk_at "z"
      refine use_crack_at F21 oi2 dok z1 z2 ?_
      walk_at "z"
      refine Z.wIfF (by rw [decide_eq_true (Cal.nn dok z1)]; rfl) ?_
      walk_at "z"
      refine use__law_at F21 di dok z1 ?_
      walk_at "z"
      refine Z.wIfF (by simp) ?_
      walk_at "z"
      exact ⟨_, _, rfl, F21⟩
    · rintro σ H18 ⟨v6, v7, rfl, F21⟩
      walk_at "z"
      exact q _
theorem ok_law (T : Txt K mg c_BadCrackCalendar c_BadHeight c_CrackCalendar) : Z.Ok CX0 P w K mg base "law" 5 ["_law_script"] [] (sp_law K) := by
  obtain ⟨f, fd, F, g⟩ := T.d_law
  exact Z.mkOk F g (F.binds (ps := ["_law_script"]) fun _ _ _ _ _ _ us hl => match us, hl with | [_], _ => rfl) (fn_law T F)
end
section
open PyProof.Rows
theorem all_facts {l : PySem.W.OpenLaw} {w : World} {K : PySem.W.Frag} {h : Heap} {mg : Str → Option Value} {fa : Addr} (X : K.In h) (G : h.Ns mainGlobals mg)
    (hfa : mg "law" = some (.ref fa))
    {c_BadCrackCalendar N_BadCrackCalendar c_BadHeight N_BadHeight c_CrackCalendar f0 f1 f2 f3 f4 f5 f6 f7 f8 f9 f10 f11 f12 f13 f14 f15 f16 f17 f18 : Addr} {od0 an0 od1 an1 od2 an2 od3 an3 od4 an4 od5 an5 od6 an6 od7 an7 od8 an8 od9 an9 od10 an10 od11 an11 od12 an12 od13 an13 od14 an14 od15 an15 od16 an16 od17 an17 od18 an18 : Option Addr} {sl0 sl1 sl2 sl3 sl4 sl5 sl6 sl7 sl8 sl9 sl10 sl11 sl12 sl13 sl14 sl15 sl16 sl17 sl18 : Array (Option Value)}
    {oc0 kV0 dc0 pm0 cd0 ct0 oc1 kV1 dc1 pm1 cd1 ct1 oc2 kV2 dc2 pm2 cd2 ct2 dV2 oc3 kV3 dc3 pm3 cd3 ct3 oc4 kV4 dc4 pm4 cd4 ct4 oc5 kV5 dc5 pm5 cd5 ct5 oc6 kV6 dc6 pm6 cd6 ct6 oc7 kV7 dc7 pm7 cd7 ct7 oc8 kV8 dc8 pm8 cd8 ct8 oc9 kV9 dc9 pm9 cd9 ct9 oc10 kV10 dc10 pm10 cd10 ct10 oc11 kV11 dc11 pm11 cd11 ct11 oc12 kV12 dc12 pm12 cd12 ct12 oc13 kV13 dc13 pm13 cd13 ct13 oc14 kV14 dc14 pm14 cd14 ct14 oc15 kV15 dc15 pm15 cd15 ct15 oc16 kV16 dc16 pm16 cd16 ct16 oc17 kV17 dc17 pm17 cd17 ct17 oc18 kV18 dc18 pm18 cd18 ct18 : Value}
    {nm_BadCrackCalendar : Str} {qq_BadCrackCalendar : Str} {bs_BadCrackCalendar : List Value} {bm_BadCrackCalendar : List Value} {sn_BadCrackCalendar : List Str} {sub_BadCrackCalendar : List Value} {ab_BadCrackCalendar : Bool} {col_BadCrackCalendar : Option Bool} {dd_BadCrackCalendar : Option Addr} {m0_BadCrackCalendar : Option Value} {m1_BadCrackCalendar : Option Value} {m2_BadCrackCalendar : Option Value} {m3_BadCrackCalendar : Option Value} {m5_BadCrackCalendar : Option Value} {nm_BadHeight : Str} {qq_BadHeight : Str} {bs_BadHeight : List Value} {bm_BadHeight : List Value} {sn_BadHeight : List Str} {sub_BadHeight : List Value} {ab_BadHeight : Bool} {col_BadHeight : Option Bool} {dd_BadHeight : Option Addr} {m0_BadHeight : Option Value} {m1_BadHeight : Option Value} {m2_BadHeight : Option Value} {m3_BadHeight : Option Value} {m5_BadHeight : Option Value}
    (g_BadCrackCalendar : PySem.W.nsIn K mainGlobals "BadCrackCalendar" = some (some (.ref c_BadCrackCalendar)))
    (xL_BadCrackCalendar : K.lookup c_BadCrackCalendar = some (excClassObj nm_BadCrackCalendar qq_BadCrackCalendar c_BadCrackCalendar N_BadCrackCalendar bs_BadCrackCalendar bm_BadCrackCalendar true sn_BadCrackCalendar sub_BadCrackCalendar ab_BadCrackCalendar col_BadCrackCalendar dd_BadCrackCalendar m0_BadCrackCalendar m1_BadCrackCalendar m2_BadCrackCalendar m3_BadCrackCalendar m5_BadCrackCalendar "ValueError.__new__"))
    (rv_BadCrackCalendar : PySem.HandSPX.refsVE bm_BadCrackCalendar = true)
    (sa_BadCrackCalendar : PySem.W.findIn K (.ref c_BadCrackCalendar) "__setattr__" = some (some (.builtin "object.__setattr__")))
    (ex_BadCrackCalendar : PySem.W.subIn K (.ref c_BadCrackCalendar) (.type "BaseException") = some true)
    (ty_BadCrackCalendar : PySem.W.typeIn K (.ref c_BadCrackCalendar) = some (.type "type"))
    (kc_BadCrackCalendar : PySem.W.keepIn K (.ref c_BadCrackCalendar) = true)
    (ga_BadCrackCalendar : PySem.W.findIn K (.ref c_BadCrackCalendar) "__getattribute__" = some (some (.builtin "BaseException.__getattribute__")))
    (gg_BadCrackCalendar : PySem.W.findIn K (.ref c_BadCrackCalendar) "__getattr__" = some none)
    (hd_BadCrackCalendar : PySem.W.hasDictIn K c_BadCrackCalendar = true)
    (ic_BadCrackCalendar : PySem.W.isClsIn K c_BadCrackCalendar = true)
    (ss_BadCrackCalendar : PySem.W.subIn K (.ref c_BadCrackCalendar) (.ref c_BadCrackCalendar) = some true)
    (n_BadCrackCalendar_what : PySem.W.findIn K (.ref c_BadCrackCalendar) "what" = some none)
    (g_BadHeight : PySem.W.nsIn K mainGlobals "BadHeight" = some (some (.ref c_BadHeight)))
    (xL_BadHeight : K.lookup c_BadHeight = some (excClassObj nm_BadHeight qq_BadHeight c_BadHeight N_BadHeight bs_BadHeight bm_BadHeight true sn_BadHeight sub_BadHeight ab_BadHeight col_BadHeight dd_BadHeight m0_BadHeight m1_BadHeight m2_BadHeight m3_BadHeight m5_BadHeight "ValueError.__new__"))
    (rv_BadHeight : PySem.HandSPX.refsVE bm_BadHeight = true)
    (sa_BadHeight : PySem.W.findIn K (.ref c_BadHeight) "__setattr__" = some (some (.builtin "object.__setattr__")))
    (ex_BadHeight : PySem.W.subIn K (.ref c_BadHeight) (.type "BaseException") = some true)
    (ty_BadHeight : PySem.W.typeIn K (.ref c_BadHeight) = some (.type "type"))
    (kc_BadHeight : PySem.W.keepIn K (.ref c_BadHeight) = true)
    (ga_BadHeight : PySem.W.findIn K (.ref c_BadHeight) "__getattribute__" = some (some (.builtin "BaseException.__getattribute__")))
    (gg_BadHeight : PySem.W.findIn K (.ref c_BadHeight) "__getattr__" = some none)
    (hd_BadHeight : PySem.W.hasDictIn K c_BadHeight = true)
    (ic_BadHeight : PySem.W.isClsIn K c_BadHeight = true)
    (ss_BadHeight : PySem.W.subIn K (.ref c_BadHeight) (.ref c_BadHeight) = some true)
    (e0_BadHeight : PySem.W.excIn K c_BadHeight [.type "ValueError", .type "Exception", .type "BaseException", .type "object"] "ValueError.__new__" = true)
    (g_CrackCalendar : PySem.W.nsIn K mainGlobals "CrackCalendar" = some (some (.ref c_CrackCalendar)))
    (pg_CrackCalendar : PySem.W.plainGet K c_CrackCalendar Str.empty = true)
    (hd_CrackCalendar : PySem.W.hasDictIn K c_CrackCalendar = true)
    (po_CrackCalendar : PySem.W.plainOver K c_CrackCalendar = true)
    (sa_CrackCalendar : PySem.W.findIn K (.ref c_CrackCalendar) "__setattr__" = some (some (.builtin "object.__setattr__")))
    (ha_CrackCalendar : PySem.W.findIn K (.ref c_CrackCalendar) "__class__" = some (some (.builtin "object.__class__")))
    (hn_CrackCalendar : PySem.W.specialIn K (.builtin "object.__class__") "__get__" = some (some (.builtin "getset_descriptor.__get__")))
    (tk_CrackCalendar : PySem.W.takesIn K (.builtin "object.__class__") = some true)
    (hm_CrackCalendar : PySem.W.mroIn K c_CrackCalendar (.type "object") = some true)
    (me_CrackCalendar : PySem.W.kitOne K (.ref c_CrackCalendar) (.ref c_CrackCalendar) = some true)
    (nt_CrackCalendar : PySem.W.kitOne K (.type "tuple") (.ref c_CrackCalendar) = some false)
    (nl_CrackCalendar : PySem.W.kitOne K (.type "list") (.ref c_CrackCalendar) = some false)
    (ns_CrackCalendar : PySem.W.kitOne K (.type "str") (.ref c_CrackCalendar) = some false)
    (nf_CrackCalendar : PySem.W.notFirst K c_CrackCalendar (.type "tuple") = true)
    (n_CrackCalendar_firsts : PySem.W.findIn K (.ref c_CrackCalendar) "firsts" = some none)
    (n_CrackCalendar_period : PySem.W.findIn K (.ref c_CrackCalendar) "period" = some none)
    (n_CrackCalendar_growth : PySem.W.findIn K (.ref c_CrackCalendar) "growth" = some none)
    (z_abs : PySem.W.nsIn K mainGlobals "abs" = some none)
    (z_all : PySem.W.nsIn K mainGlobals "all" = some none)
    (z_bool : PySem.W.nsIn K mainGlobals "bool" = some none)
    (z_enumerate : PySem.W.nsIn K mainGlobals "enumerate" = some none)
    (z_int : PySem.W.nsIn K mainGlobals "int" = some none)
    (z_isinstance : PySem.W.nsIn K mainGlobals "isinstance" = some none)
    (z_len : PySem.W.nsIn K mainGlobals "len" = some none)
    (z_list : PySem.W.nsIn K mainGlobals "list" = some none)
    (z_max : PySem.W.nsIn K mainGlobals "max" = some none)
    (z_min : PySem.W.nsIn K mainGlobals "min" = some none)
    (z_range : PySem.W.nsIn K mainGlobals "range" = some none)
    (z_tuple : PySem.W.nsIn K mainGlobals "tuple" = some none)
    (zi_lcm : PySem.W.nsIn K mainGlobals "lcm" = some (some (.builtin "math.lcm")))
    (a0 : PySem.W.findIn K (.ref c_BadCrackCalendar) "__init__" = some (some (.ref f0)))
    (l0 : K.lookup f0 = some ⟨oc0, od0, .func (PySem.W.fnOf "__init__" "BadCrackCalendar.__init__" (defArgs s_BadCrackCalendar___init__) (defBody s_BadCrackCalendar___init__) (defScope s_BadCrackCalendar___init__) .none kV0 dc0 pm0 an0 cd0 ct0), sl0⟩)
    (c0 : PySem.W.codeIn K cd0 "BadCrackCalendar.__init__" = true)
    (k0 : PySem.W.keepIn K (.ref f0) = true)
    (t0 : PySem.W.typeIn K (.ref f0) = some (.type "function"))
    (a1 : PySem.W.nsIn K mainGlobals "is_sequence" = some (some (.ref f1)))
    (l1 : K.lookup f1 = some ⟨oc1, od1, .func (PySem.W.fnOf "is_sequence" "is_sequence" (defArgs s_is_sequence) (defBody s_is_sequence) (defScope s_is_sequence) .none kV1 dc1 pm1 an1 cd1 ct1), sl1⟩)
    (c1 : PySem.W.codeIn K cd1 "is_sequence" = true)
    (k1 : PySem.W.keepIn K (.ref f1) = true)
    (a2 : PySem.W.nsIn K mainGlobals "is_whole" = some (some (.ref f2)))
    (l2 : K.lookup f2 = some ⟨oc2, od2, .func (PySem.W.fnOf "is_whole" "is_whole" (defArgs s_is_whole) (defBody s_is_whole) (defScope s_is_whole) dV2 kV2 dc2 pm2 an2 cd2 ct2), sl2⟩)
    (c2 : PySem.W.codeIn K cd2 "is_whole" = true)
    (k2 : PySem.W.keepIn K (.ref f2) = true)
    (v2 : He.dflB K dV2 [.non, .non] = true)
    (a3 : PySem.W.findIn K (.ref c_CrackCalendar) "__init__" = some (some (.ref f3)))
    (l3 : K.lookup f3 = some ⟨oc3, od3, .func (PySem.W.fnOf "__init__" "CrackCalendar.__init__" (defArgs s_CrackCalendar___init__) (defBody s_CrackCalendar___init__) (defScope s_CrackCalendar___init__) .none kV3 dc3 pm3 an3 cd3 ct3), sl3⟩)
    (c3 : PySem.W.codeIn K cd3 "CrackCalendar.__init__" = true)
    (k3 : PySem.W.keepIn K (.ref f3) = true)
    (i3 : PySem.W.isFn K (.ref f3) = true)
    (mk_CrackCalendar : PySem.W.makesIn K c_CrackCalendar = true)
    (kc_CrackCalendar : PySem.W.keepIn K (.ref c_CrackCalendar) = true)
    (a4 : PySem.W.nsIn K mainGlobals "_law_at" = some (some (.ref f4)))
    (l4 : K.lookup f4 = some ⟨oc4, od4, .func (PySem.W.fnOf "_law_at" "_law_at" (defArgs s__law_at) (defBody s__law_at) (defScope s__law_at) .none kV4 dc4 pm4 an4 cd4 ct4), sl4⟩)
    (c4 : PySem.W.codeIn K cd4 "_law_at" = true)
    (k4 : PySem.W.keepIn K (.ref f4) = true)
    (a5 : PySem.W.nsIn K mainGlobals "_price_at" = some (some (.ref f5)))
    (l5 : K.lookup f5 = some ⟨oc5, od5, .func (PySem.W.fnOf "_price_at" "_price_at" (defArgs s__price_at) (defBody s__price_at) (defScope s__price_at) .none kV5 dc5 pm5 an5 cd5 ct5), sl5⟩)
    (c5 : PySem.W.codeIn K cd5 "_price_at" = true)
    (k5 : PySem.W.keepIn K (.ref f5) = true)
    (a6 : PySem.W.nsIn K mainGlobals "_lead_at" = some (some (.ref f6)))
    (l6 : K.lookup f6 = some ⟨oc6, od6, .func (PySem.W.fnOf "_lead_at" "_lead_at" (defArgs s__lead_at) (defBody s__lead_at) (defScope s__lead_at) .none kV6 dc6 pm6 an6 cd6 ct6), sl6⟩)
    (c6 : PySem.W.codeIn K cd6 "_lead_at" = true)
    (k6 : PySem.W.keepIn K (.ref f6) = true)
    (a7 : PySem.W.nsIn K mainGlobals "stays_stronger" = some (some (.ref f7)))
    (l7 : K.lookup f7 = some ⟨oc7, od7, .func (PySem.W.fnOf "stays_stronger" "stays_stronger" (defArgs s_stays_stronger) (defBody s_stays_stronger) (defScope s_stays_stronger) .none kV7 dc7 pm7 an7 cd7 ct7), sl7⟩)
    (c7 : PySem.W.codeIn K cd7 "stays_stronger" = true)
    (k7 : PySem.W.keepIn K (.ref f7) = true)
    (a8 : PySem.W.nsIn K mainGlobals "_law_least_common" = some (some (.ref f8)))
    (l8 : K.lookup f8 = some ⟨oc8, od8, .func (PySem.W.fnOf "_law_least_common" "_law_least_common" (defArgs s__law_least_common) (defBody s__law_least_common) (defScope s__law_least_common) .none kV8 dc8 pm8 an8 cd8 ct8), sl8⟩)
    (c8 : PySem.W.codeIn K cd8 "_law_least_common" = true)
    (k8 : PySem.W.keepIn K (.ref f8) = true)
    (a9 : PySem.W.nsIn K mainGlobals "_law_whole" = some (some (.ref f9)))
    (l9 : K.lookup f9 = some ⟨oc9, od9, .func (PySem.W.fnOf "_law_whole" "_law_whole" (defArgs s__law_whole) (defBody s__law_whole) (defScope s__law_whole) .none kV9 dc9 pm9 an9 cd9 ct9), sl9⟩)
    (c9 : PySem.W.codeIn K cd9 "_law_whole" = true)
    (k9 : PySem.W.keepIn K (.ref f9) = true)
    (a10 : PySem.W.nsIn K mainGlobals "_law_stronger" = some (some (.ref f10)))
    (l10 : K.lookup f10 = some ⟨oc10, od10, .func (PySem.W.fnOf "_law_stronger" "_law_stronger" (defArgs s__law_stronger) (defBody s__law_stronger) (defScope s__law_stronger) .none kV10 dc10 pm10 an10 cd10 ct10), sl10⟩)
    (c10 : PySem.W.codeIn K cd10 "_law_stronger" = true)
    (k10 : PySem.W.keepIn K (.ref f10) = true)
    (a11 : PySem.W.nsIn K mainGlobals "_law_mix" = some (some (.ref f11)))
    (l11 : K.lookup f11 = some ⟨oc11, od11, .func (PySem.W.fnOf "_law_mix" "_law_mix" (defArgs s__law_mix) (defBody s__law_mix) (defScope s__law_mix) .none kV11 dc11 pm11 an11 cd11 ct11), sl11⟩)
    (c11 : PySem.W.codeIn K cd11 "_law_mix" = true)
    (k11 : PySem.W.keepIn K (.ref f11) = true)
    (a12 : PySem.W.nsIn K mainGlobals "_law_draw" = some (some (.ref f12)))
    (l12 : K.lookup f12 = some ⟨oc12, od12, .func (PySem.W.fnOf "_law_draw" "_law_draw" (defArgs s__law_draw) (defBody s__law_draw) (defScope s__law_draw) .none kV12 dc12 pm12 an12 cd12 ct12), sl12⟩)
    (c12 : PySem.W.codeIn K cd12 "_law_draw" = true)
    (k12 : PySem.W.keepIn K (.ref f12) = true)
    (a13 : PySem.W.nsIn K mainGlobals "_law_pick" = some (some (.ref f13)))
    (l13 : K.lookup f13 = some ⟨oc13, od13, .func (PySem.W.fnOf "_law_pick" "_law_pick" (defArgs s__law_pick) (defBody s__law_pick) (defScope s__law_pick) .none kV13 dc13 pm13 an13 cd13 ct13), sl13⟩)
    (c13 : PySem.W.codeIn K cd13 "_law_pick" = true)
    (k13 : PySem.W.keepIn K (.ref f13) = true)
    (a14 : PySem.W.nsIn K mainGlobals "_law_calendar_drawn" = some (some (.ref f14)))
    (l14 : K.lookup f14 = some ⟨oc14, od14, .func (PySem.W.fnOf "_law_calendar_drawn" "_law_calendar_drawn" (defArgs s__law_calendar_drawn) (defBody s__law_calendar_drawn) (defScope s__law_calendar_drawn) .none kV14 dc14 pm14 an14 cd14 ct14), sl14⟩)
    (c14 : PySem.W.codeIn K cd14 "_law_calendar_drawn" = true)
    (k14 : PySem.W.keepIn K (.ref f14) = true)
    (a15 : PySem.W.nsIn K mainGlobals "_check_height" = some (some (.ref f15)))
    (l15 : K.lookup f15 = some ⟨oc15, od15, .func (PySem.W.fnOf "_check_height" "_check_height" (defArgs s__check_height) (defBody s__check_height) (defScope s__check_height) .none kV15 dc15 pm15 an15 cd15 ct15), sl15⟩)
    (c15 : PySem.W.codeIn K cd15 "_check_height" = true)
    (k15 : PySem.W.keepIn K (.ref f15) = true)
    (a16 : PySem.W.nsIn K mainGlobals "crack_at" = some (some (.ref f16)))
    (l16 : K.lookup f16 = some ⟨oc16, od16, .func (PySem.W.fnOf "crack_at" "crack_at" (defArgs s_crack_at) (defBody s_crack_at) (defScope s_crack_at) .none kV16 dc16 pm16 an16 cd16 ct16), sl16⟩)
    (c16 : PySem.W.codeIn K cd16 "crack_at" = true)
    (k16 : PySem.W.keepIn K (.ref f16) = true)
    (a17 : PySem.W.nsIn K mainGlobals "_law_hand" = some (some (.ref f17)))
    (l17 : K.lookup f17 = some ⟨oc17, od17, .func (PySem.W.fnOf "_law_hand" "_law_hand" (defArgs s__law_hand) (defBody s__law_hand) (defScope s__law_hand) .none kV17 dc17 pm17 an17 cd17 ct17), sl17⟩)
    (c17 : PySem.W.codeIn K cd17 "_law_hand" = true)
    (k17 : PySem.W.keepIn K (.ref f17) = true)
    (a18 : PySem.W.nsIn K mainGlobals "law" = some (some (.ref f18)))
    (l18 : K.lookup f18 = some ⟨oc18, od18, .func (PySem.W.fnOf "law" "law" (defArgs s_law) (defBody s_law) (defScope s_law) .none kV18 dc18 pm18 an18 cd18 ct18), sl18⟩)
    (c18 : PySem.W.codeIn K cd18 "law" = true)
    (k18 : PySem.W.keepIn K (.ref f18) = true)
    (q_BadCrackCalendar_BadHeight : PySem.W.subIn K (.ref c_BadCrackCalendar) (.ref c_BadHeight) = some false)
    (q_BadHeight_BadCrackCalendar : PySem.W.subIn K (.ref c_BadHeight) (.ref c_BadCrackCalendar) = some false)
    : ∃ fd : FuncData, (∀ (s : Shared) (u : Value), BindsTo s fd ⟨[u], []⟩ [("_law_script", u)]) ∧ ∀ base : Heap, K.In base → base.Ns mainGlobals mg → FnOk l.prog w K mg base CX0 5 fa fd ["_law_script"] (sp_law K) := by
  have e := hfa.symm.trans (PySem.W.mg_of X G a18)
  cases e
  have T : Txt K mg c_BadCrackCalendar c_BadHeight c_CrackCalendar :=
    { g_BadCrackCalendar := PySem.W.mg_of X G g_BadCrackCalendar,
      x_BadCrackCalendar := ⟨⟨⟨_, _, _, _, _, _, _, _, _, _, _, _, _, _, _, xL_BadCrackCalendar, rv_BadCrackCalendar⟩, sa_BadCrackCalendar, ex_BadCrackCalendar, ty_BadCrackCalendar, kc_BadCrackCalendar⟩, ⟨ga_BadCrackCalendar, gg_BadCrackCalendar, ex_BadCrackCalendar, hd_BadCrackCalendar⟩, Z.exm_of ex_BadCrackCalendar ic_BadCrackCalendar ty_BadCrackCalendar ss_BadCrackCalendar⟩,
      q_BadCrackCalendar_BadHeight := Z.exm_of ex_BadHeight ic_BadHeight ty_BadHeight q_BadCrackCalendar_BadHeight,
      n_BadCrackCalendar_what := n_BadCrackCalendar_what,
      g_BadHeight := PySem.W.mg_of X G g_BadHeight,
      x_BadHeight := ⟨⟨⟨_, _, _, _, _, _, _, _, _, _, _, _, _, _, _, xL_BadHeight, rv_BadHeight⟩, sa_BadHeight, ex_BadHeight, ty_BadHeight, kc_BadHeight⟩, ⟨ga_BadHeight, gg_BadHeight, ex_BadHeight, hd_BadHeight⟩, Z.exm_of ex_BadHeight ic_BadHeight ty_BadHeight ss_BadHeight⟩,
      y_BadHeight := ⟨e0_BadHeight, kc_BadHeight, ex_BadHeight, ty_BadHeight⟩,
      q_BadHeight_BadCrackCalendar := Z.exm_of ex_BadCrackCalendar ic_BadCrackCalendar ty_BadCrackCalendar q_BadHeight_BadCrackCalendar,
      g_CrackCalendar := PySem.W.mg_of X G g_CrackCalendar,
      i_CrackCalendar := ⟨⟨pg_CrackCalendar, hd_CrackCalendar, po_CrackCalendar, sa_CrackCalendar⟩, ha_CrackCalendar, hn_CrackCalendar, tk_CrackCalendar, hm_CrackCalendar, me_CrackCalendar, nt_CrackCalendar, nl_CrackCalendar, ns_CrackCalendar, nf_CrackCalendar⟩,
      n_CrackCalendar_firsts := n_CrackCalendar_firsts,
      n_CrackCalendar_period := n_CrackCalendar_period,
      n_CrackCalendar_growth := n_CrackCalendar_growth,
      b_abs := PySem.W.mg_none_of X G z_abs,
      b_all := PySem.W.mg_none_of X G z_all,
      b_bool := PySem.W.mg_none_of X G z_bool,
      b_enumerate := PySem.W.mg_none_of X G z_enumerate,
      b_int := PySem.W.mg_none_of X G z_int,
      b_isinstance := PySem.W.mg_none_of X G z_isinstance,
      b_len := PySem.W.mg_none_of X G z_len,
      b_list := PySem.W.mg_none_of X G z_list,
      b_max := PySem.W.mg_none_of X G z_max,
      b_min := PySem.W.mg_none_of X G z_min,
      b_range := PySem.W.mg_none_of X G z_range,
      b_tuple := PySem.W.mg_none_of X G z_tuple,
      m_lcm := PySem.W.mg_of X G zi_lcm,
      d_BadCrackCalendar___init__ := ⟨f0, _, fun_mk (st := s_BadCrackCalendar___init__) l0 c0 k0, ⟨a0, t0⟩⟩,
      d_is_sequence := ⟨f1, _, fun_mk (st := s_is_sequence) l1 c1 k1, PySem.W.mg_of X G a1⟩,
      d_is_whole := ⟨f2, _, ⟨⟨_, _, _, _, _, _, _, _, _, _, rfl, l2, c2, He.dflB_ok v2, .inl rfl⟩, k2⟩, PySem.W.mg_of X G a2⟩,
      d_CrackCalendar___init__ := ⟨f3, _, fun_mk (st := s_CrackCalendar___init__) l3 c3 k3, ⟨mk_CrackCalendar, a3, i3, kc_CrackCalendar⟩⟩,
      d__law_at := ⟨f4, _, fun_mk (st := s__law_at) l4 c4 k4, PySem.W.mg_of X G a4⟩,
      d__price_at := ⟨f5, _, fun_mk (st := s__price_at) l5 c5 k5, PySem.W.mg_of X G a5⟩,
      d__lead_at := ⟨f6, _, fun_mk (st := s__lead_at) l6 c6 k6, PySem.W.mg_of X G a6⟩,
      d_stays_stronger := ⟨f7, _, fun_mk (st := s_stays_stronger) l7 c7 k7, PySem.W.mg_of X G a7⟩,
      d__law_least_common := ⟨f8, _, fun_mk (st := s__law_least_common) l8 c8 k8, PySem.W.mg_of X G a8⟩,
      d__law_whole := ⟨f9, _, fun_mk (st := s__law_whole) l9 c9 k9, PySem.W.mg_of X G a9⟩,
      d__law_stronger := ⟨f10, _, fun_mk (st := s__law_stronger) l10 c10 k10, PySem.W.mg_of X G a10⟩,
      d__law_mix := ⟨f11, _, fun_mk (st := s__law_mix) l11 c11 k11, PySem.W.mg_of X G a11⟩,
      d__law_draw := ⟨f12, _, fun_mk (st := s__law_draw) l12 c12 k12, PySem.W.mg_of X G a12⟩,
      d__law_pick := ⟨f13, _, fun_mk (st := s__law_pick) l13 c13 k13, PySem.W.mg_of X G a13⟩,
      d__law_calendar_drawn := ⟨f14, _, fun_mk (st := s__law_calendar_drawn) l14 c14 k14, PySem.W.mg_of X G a14⟩,
      d__check_height := ⟨f15, _, fun_mk (st := s__check_height) l15 c15 k15, PySem.W.mg_of X G a15⟩,
      d_crack_at := ⟨f16, _, fun_mk (st := s_crack_at) l16 c16 k16, PySem.W.mg_of X G a16⟩,
      d__law_hand := ⟨f17, _, fun_mk (st := s__law_hand) l17 c17 k17, PySem.W.mg_of X G a17⟩,
      d_law := ⟨fa, _, fun_mk (st := s_law) l18 c18 k18, PySem.W.mg_of X G a18⟩ }
  exact ⟨PySem.W.fnOf "law" "law" (defArgs s_law) (defBody s_law) (defScope s_law) .none kV18 dc18 pm18 an18 cd18 ct18, fun s u => .of_eq rfl, fun base _ _ => fn_law T (fun_mk (st := s_law) l18 c18 k18)⟩
theorem walk {l : PySem.W.OpenLaw} {q : Program} {loose : List Str} {XP : (Str → Option Value) → Heap → Prop} {YP : World → Heap → Prop}
    {d : DefRec} {K : Params → PySem.W.Frag} (hn : l.most = some 63) (hdf : d.params.defaults = [])
    (hY : ∀ (w : World) (h : Heap),
          YP w h → (K w.params).In h)
    (F : ∀ (w : World) (mg : Str → Option Value) (fa : Addr) (h : Heap),
      (K w.params).In h → h.Ns mainGlobals mg → mg d.name = some (.ref fa) →
      ∃ fd : FuncData, (∀ (s : Shared) (u : Value), BindsTo s fd ⟨[u], []⟩ [("_law_script", u)]) ∧
        ∀ base : Heap, (K w.params).In base → base.Ns mainGlobals mg → FnOk l.prog w (K w.params) mg base CX0 5 fa fd ["_law_script"] (sp_law (K w.params))) :
    PySem.W.WalkO q loose XP YP l.row.toRowW
          d [] (fun f vs => PySem.call f vs) :=
  L2.walk_of (n := 63) (k := 5) (x := "_law_script") (CX := fun _ => CX0) (sp := fun w => sp_law (K w.params)) hn (by decide) hdf ⟨rfl, by decide, by decide⟩
    hY F (fun _ _ a ns hl _ hS => ⟨_, rfl, a, ns, rfl, hS, hl, fun _ => rfl⟩) fun _ _ _ _ _ z => z
end
end M
open PySem PySem.W
      PyProof.Rows
set_option
      maxRecDepth 100000 in
set_option maxHeartbeats 0 in
theorem PySem.Challenge.cw_jointsapart_k60_whole_stronger_for_every_holds : PySem.Challenge.rw_jointsapart_k60_whole_stronger_for_every.Holds := by
  w_on; o_law; k_head;
        (case hw => w_witness2)
  k_fill
  refine M.walk (l := PySem.Challenge.rw_jointsapart_k60_whole_stronger_for_every) rfl rfl (fun w h Y => PySem.W.kIn_of Y) ?F
  case F =>
    intro w mg fa h KX G hmg
    refine' M.all_facts (l := PySem.Challenge.rw_jointsapart_k60_whole_stronger_for_every) KX G hmg ?h_g_BadCrackCalendar ?h_xL_BadCrackCalendar ?h_rv_BadCrackCalendar ?h_sa_BadCrackCalendar ?h_ex_BadCrackCalendar ?h_ty_BadCrackCalendar ?h_kc_BadCrackCalendar ?h_ga_BadCrackCalendar ?h_gg_BadCrackCalendar ?h_hd_BadCrackCalendar ?h_ic_BadCrackCalendar ?h_ss_BadCrackCalendar ?h_n_BadCrackCalendar_what ?h_g_BadHeight ?h_xL_BadHeight ?h_rv_BadHeight ?h_sa_BadHeight ?h_ex_BadHeight ?h_ty_BadHeight ?h_kc_BadHeight ?h_ga_BadHeight ?h_gg_BadHeight ?h_hd_BadHeight ?h_ic_BadHeight ?h_ss_BadHeight ?h_e0_BadHeight ?h_g_CrackCalendar ?h_pg_CrackCalendar ?h_hd_CrackCalendar ?h_po_CrackCalendar ?h_sa_CrackCalendar ?h_ha_CrackCalendar ?h_hn_CrackCalendar ?h_tk_CrackCalendar ?h_hm_CrackCalendar ?h_me_CrackCalendar ?h_nt_CrackCalendar ?h_nl_CrackCalendar ?h_ns_CrackCalendar ?h_nf_CrackCalendar ?h_n_CrackCalendar_firsts ?h_n_CrackCalendar_period ?h_n_CrackCalendar_growth ?h_z_abs ?h_z_all ?h_z_bool ?h_z_enumerate ?h_z_int ?h_z_isinstance ?h_z_len ?h_z_list ?h_z_max ?h_z_min ?h_z_range ?h_z_tuple ?h_zi_lcm ?h_a0 ?h_l0 ?h_c0 ?h_k0 ?h_t0 ?h_a1 ?h_l1 ?h_c1 ?h_k1 ?h_a2 ?h_l2 ?h_c2 ?h_k2 ?h_v2 ?h_a3 ?h_l3 ?h_c3 ?h_k3 ?h_i3 ?h_mk_CrackCalendar ?h_kc_CrackCalendar ?h_a4 ?h_l4 ?h_c4 ?h_k4 ?h_a5 ?h_l5 ?h_c5 ?h_k5 ?h_a6 ?h_l6 ?h_c6 ?h_k6 ?h_a7 ?h_l7 ?h_c7 ?h_k7 ?h_a8 ?h_l8 ?h_c8 ?h_k8 ?h_a9 ?h_l9 ?h_c9 ?h_k9 ?h_a10 ?h_l10 ?h_c10 ?h_k10 ?h_a11 ?h_l11 ?h_c11 ?h_k11 ?h_a12 ?h_l12 ?h_c12 ?h_k12 ?h_a13 ?h_l13 ?h_c13 ?h_k13 ?h_a14 ?h_l14 ?h_c14 ?h_k14 ?h_a15 ?h_l15 ?h_c15 ?h_k15 ?h_a16 ?h_l16 ?h_c16 ?h_k16 ?h_a17 ?h_l17 ?h_c17 ?h_k17 ?h_a18 ?h_l18 ?h_c18 ?h_k18 ?h_q_BadCrackCalendar_BadHeight ?h_q_BadHeight_BadCrackCalendar
    case h_g_BadCrackCalendar => first | k_is | rfl | decide +kernel
    case h_xL_BadCrackCalendar => first | k_is | rfl | decide +kernel
    case h_rv_BadCrackCalendar => first | k_is | rfl | decide +kernel
    case h_sa_BadCrackCalendar => first | k_is | rfl | decide +kernel
    case h_ex_BadCrackCalendar => first | k_is | rfl | decide +kernel
    case h_ty_BadCrackCalendar => first | k_is | rfl | decide +kernel
    case h_kc_BadCrackCalendar => first | k_is | rfl | decide +kernel
    case h_ga_BadCrackCalendar => first | k_is | rfl | decide +kernel
    case h_gg_BadCrackCalendar => first | k_is | rfl | decide +kernel
    case h_hd_BadCrackCalendar => first | k_is | rfl | decide +kernel
    case h_ic_BadCrackCalendar => first | k_is | rfl | decide +kernel
    case h_ss_BadCrackCalendar => first | k_is | rfl | decide +kernel
    case h_n_BadCrackCalendar_what => first | k_is | rfl | decide +kernel
    case h_g_BadHeight => first | k_is | rfl | decide +kernel
    case h_xL_BadHeight => first | k_is | rfl | decide +kernel
    case h_rv_BadHeight => first | k_is | rfl | decide +kernel
    case h_sa_BadHeight => first | k_is | rfl | decide +kernel
    case h_ex_BadHeight => first | k_is | rfl | decide +kernel
    case h_ty_BadHeight => first | k_is | rfl | decide +kernel
    case h_kc_BadHeight => first | k_is | rfl | decide +kernel
    case h_ga_BadHeight => first | k_is | rfl | decide +kernel
    case h_gg_BadHeight => first | k_is | rfl | decide +kernel
    case h_hd_BadHeight => first | k_is | rfl | decide +kernel
    case h_ic_BadHeight => first | k_is | rfl | decide +kernel
    case h_ss_BadHeight => first | k_is | rfl | decide +kernel
    case h_e0_BadHeight => k_exc
    case h_g_CrackCalendar => first | k_is | rfl | decide +kernel
    case h_pg_CrackCalendar => first | k_is | rfl | decide +kernel
    case h_hd_CrackCalendar => first | k_is | rfl | decide +kernel
    case h_po_CrackCalendar => first | k_is | rfl | decide +kernel
    case h_sa_CrackCalendar => first | k_is | rfl | decide +kernel
    case h_ha_CrackCalendar => first | k_is | rfl | decide +kernel
    case h_hn_CrackCalendar => first | k_is | rfl | decide +kernel
    case h_tk_CrackCalendar => first | k_is | rfl | decide +kernel
    case h_hm_CrackCalendar => first | k_is | rfl | decide +kernel
    case h_me_CrackCalendar => first | k_is | rfl | decide +kernel
    case h_nt_CrackCalendar => first | k_is | rfl | decide +kernel
    case h_nl_CrackCalendar => first | k_is | rfl | decide +kernel
    case h_ns_CrackCalendar => first | k_is | rfl | decide +kernel
    case h_nf_CrackCalendar => first | k_is | rfl | decide +kernel
    case h_n_CrackCalendar_firsts => first | k_is | rfl | decide +kernel
    case h_n_CrackCalendar_period => first | k_is | rfl | decide +kernel
    case h_n_CrackCalendar_growth => first | k_is | rfl | decide +kernel
    case h_z_abs => first | k_is | rfl | decide +kernel
    case h_z_all => first | k_is | rfl | decide +kernel
    case h_z_bool => first | k_is | rfl | decide +kernel
    case h_z_enumerate => first | k_is | rfl | decide +kernel
    case h_z_int => first | k_is | rfl | decide +kernel
    case h_z_isinstance => first | k_is | rfl | decide +kernel
    case h_z_len => first | k_is | rfl | decide +kernel
    case h_z_list => first | k_is | rfl | decide +kernel
    case h_z_max => first | k_is | rfl | decide +kernel
    case h_z_min => first | k_is | rfl | decide +kernel
    case h_z_range => first | k_is | rfl | decide +kernel
    case h_z_tuple => first | k_is | rfl | decide +kernel
    case h_zi_lcm => first | k_is | rfl | decide +kernel
    case h_a0 => first | k_is | rfl | decide +kernel
    case h_l0 => first | k_is | rfl | decide +kernel
    case h_c0 => first | k_is | rfl | decide +kernel
    case h_k0 => first | k_is | rfl | decide +kernel
    case h_t0 => first | k_is | rfl | decide +kernel
    case h_a1 => first | k_is | rfl | decide +kernel
    case h_l1 => first | k_is | rfl | decide +kernel
    case h_c1 => first | k_is | rfl | decide +kernel
    case h_k1 => first | k_is | rfl | decide +kernel
    case h_a2 => first | k_is | rfl | decide +kernel
    case h_l2 => first | k_is | rfl | decide +kernel
    case h_c2 => first | k_is | rfl | decide +kernel
    case h_k2 => first | k_is | rfl | decide +kernel
    case h_v2 => first | k_is | rfl | decide +kernel
    case h_a3 => first | k_is | rfl | decide +kernel
    case h_l3 => first | k_is | rfl | decide +kernel
    case h_c3 => first | k_is | rfl | decide +kernel
    case h_k3 => first | k_is | rfl | decide +kernel
    case h_i3 => first | k_is | rfl | decide +kernel
    case h_mk_CrackCalendar => first | k_is | rfl | decide +kernel
    case h_kc_CrackCalendar => first | k_is | rfl | decide +kernel
    case h_a4 => first | k_is | rfl | decide +kernel
    case h_l4 => first | k_is | rfl | decide +kernel
    case h_c4 => first | k_is | rfl | decide +kernel
    case h_k4 => first | k_is | rfl | decide +kernel
    case h_a5 => first | k_is | rfl | decide +kernel
    case h_l5 => first | k_is | rfl | decide +kernel
    case h_c5 => first | k_is | rfl | decide +kernel
    case h_k5 => first | k_is | rfl | decide +kernel
    case h_a6 => first | k_is | rfl | decide +kernel
    case h_l6 => first | k_is | rfl | decide +kernel
    case h_c6 => first | k_is | rfl | decide +kernel
    case h_k6 => first | k_is | rfl | decide +kernel
    case h_a7 => first | k_is | rfl | decide +kernel
    case h_l7 => first | k_is | rfl | decide +kernel
    case h_c7 => first | k_is | rfl | decide +kernel
    case h_k7 => first | k_is | rfl | decide +kernel
    case h_a8 => first | k_is | rfl | decide +kernel
    case h_l8 => first | k_is | rfl | decide +kernel
    case h_c8 => first | k_is | rfl | decide +kernel
    case h_k8 => first | k_is | rfl | decide +kernel
    case h_a9 => first | k_is | rfl | decide +kernel
    case h_l9 => first | k_is | rfl | decide +kernel
    case h_c9 => first | k_is | rfl | decide +kernel
    case h_k9 => first | k_is | rfl | decide +kernel
    case h_a10 => first | k_is | rfl | decide +kernel
    case h_l10 => first | k_is | rfl | decide +kernel
    case h_c10 => first | k_is | rfl | decide +kernel
    case h_k10 => first | k_is | rfl | decide +kernel
    case h_a11 => first | k_is | rfl | decide +kernel
    case h_l11 => first | k_is | rfl | decide +kernel
    case h_c11 => first | k_is | rfl | decide +kernel
    case h_k11 => first | k_is | rfl | decide +kernel
    case h_a12 => first | k_is | rfl | decide +kernel
    case h_l12 => first | k_is | rfl | decide +kernel
    case h_c12 => first | k_is | rfl | decide +kernel
    case h_k12 => first | k_is | rfl | decide +kernel
    case h_a13 => first | k_is | rfl | decide +kernel
    case h_l13 => first | k_is | rfl | decide +kernel
    case h_c13 => first | k_is | rfl | decide +kernel
    case h_k13 => first | k_is | rfl | decide +kernel
    case h_a14 => first | k_is | rfl | decide +kernel
    case h_l14 => first | k_is | rfl | decide +kernel
    case h_c14 => first | k_is | rfl | decide +kernel
    case h_k14 => first | k_is | rfl | decide +kernel
    case h_a15 => first | k_is | rfl | decide +kernel
    case h_l15 => first | k_is | rfl | decide +kernel
    case h_c15 => first | k_is | rfl | decide +kernel
    case h_k15 => first | k_is | rfl | decide +kernel
    case h_a16 => first | k_is | rfl | decide +kernel
    case h_l16 => first | k_is | rfl | decide +kernel
    case h_c16 => first | k_is | rfl | decide +kernel
    case h_k16 => first | k_is | rfl | decide +kernel
    case h_a17 => first | k_is | rfl | decide +kernel
    case h_l17 => first | k_is | rfl | decide +kernel
    case h_c17 => first | k_is | rfl | decide +kernel
    case h_k17 => first | k_is | rfl | decide +kernel
    case h_a18 => first | k_is | rfl | decide +kernel
    case h_l18 => first | k_is | rfl | decide +kernel
    case h_c18 => first | k_is | rfl | decide +kernel
    case h_k18 => first | k_is | rfl | decide +kernel
    case h_q_BadCrackCalendar_BadHeight => first | k_is | rfl | decide +kernel
    case h_q_BadHeight_BadCrackCalendar => first | k_is | rfl | decide +kernel