import PyProof.Rows.All
import Wide.All
import OpenK.AllK
import Wide.FinOn
import HandS.ForExc
import HandS.Comp
import HandS.Iter
import HandS.Wide
import HandS.IsInst
import HandS.TupLe
import HandS.Flow
import HandS.Defaults
import HandS.MakeKw
import HandS.ExcInit
import HandS.ExcField
import HandS.TryMany
import HandS.Zip
import HandS.OwnEq
import HandS.Property
import HandS.TupMul
import HandS.Conv
import HandS.Style
import HandS.Star
import HandS.Rev
import HandS.Small
import HandS.Walk
import KE.GoesEnum
import KE.GoesMore
import KE.KTupSum
import HandS.TupAny
import HandS.RevTup
import HandS.Gcd
import KE.KMathGC
import PyProof.LongRange
import KE.GoesZip
import HandS.Dict
import KE.DatumOrd
import HandS.SortInts
import HandS.RevRange
import HandS.DictComp
import HandS.Flt
import HandS.SortKw
import HandS.WideBits
import HandS.HeadHook2
import HandS.Ends
import PySem.Challenge.RW_jointsapart_k27_whole_calendars_asked_an
set_option Elab.async false
set_option linter.all false
set_option maxRecDepth 100000
/-! ### Z: a ledger of what stands in the heap, and rules for readings over it -/
namespace Z
open PySem L2
/-- an entry of the ledger: an object with all that it holds; the draws' list l with its cells c -/
inductive En where
  | ob (a : Addr) (o : HO)
  | hand (l c : Addr)
  | hand5 (l c : Addr)
def En.fp : En → List Addr
  | .ob a _ => [a]
  | .hand l c => [l, c]
  | .hand5 l c => [l, c]
def HandAt (H : Hp) (l c : Addr) : Prop := ∃ (ns : List Int) (i j t : Int), 0 ≤ i ∧ H l = some (.lst [.ref c, .int i, .int j, .int t]) ∧ H c = some (.lst (ns.map V.int))
def HandAt5 (H : Hp) (l c : Addr) : Prop := ∃ (ns : List Int) (i j t u : Int), 0 ≤ i ∧ H l = some (.lst [.ref c, .int i, .int j, .int t, .int u]) ∧ H c = some (.lst (ns.map V.int))
def En.sat (H : Hp) : En → Prop
  | .ob a o => H a = some o
  | .hand l c => HandAt H l c
  | .hand5 l c => HandAt5 H l c
def Fx (H : Hp) (L : List En) : Prop := (∀ e ∈ L, e.sat H) ∧ (L.flatMap En.fp).Nodup
theorem En.there {H : Hp} {e : En} (h : e.sat H) {a : Addr} (ha : a ∈ e.fp) : ∃ o, H a = some o := by
  cases e with
  | ob b o =>
    have e : a = b := List.mem_singleton.mp ha
    subst e
    exact ⟨o, h⟩
  | hand l c =>
    obtain ⟨ns, i, j, t, h0, h1, h2⟩ := (show HandAt H l c from h)
    rcases List.mem_cons.mp (show a ∈ [l, c] from ha) with e | e
    · subst e
      exact ⟨_, h1⟩
    · have e := List.mem_singleton.mp e
      subst e
      exact ⟨_, h2⟩
  | hand5 l c =>
    obtain ⟨ns, i, j, t, u, h0, h1, h2⟩ := (show HandAt5 H l c from h)
    rcases List.mem_cons.mp (show a ∈ [l, c] from ha) with e | e
    · subst e
      exact ⟨_, h1⟩
    · have e := List.mem_singleton.mp e
      subst e
      exact ⟨_, h2⟩
theorem En.keep {H H' : Hp} {e : En} (h : e.sat H) (k : ∀ a ∈ e.fp, ∀ o, H a = some o → H' a = some o) : e.sat H' := by
  cases e with
  | ob b o => exact k b List.mem_cons_self o h
  | hand l c =>
    obtain ⟨ns, i, j, t, h0, h1, h2⟩ := (show HandAt H l c from h)
    exact ⟨ns, i, j, t, h0, k l List.mem_cons_self _ h1, k c (List.mem_cons_of_mem _ List.mem_cons_self) _ h2⟩
  | hand5 l c =>
    obtain ⟨ns, i, j, t, u, h0, h1, h2⟩ := (show HandAt5 H l c from h)
    exact ⟨ns, i, j, t, u, h0, k l List.mem_cons_self _ h1, k c (List.mem_cons_of_mem _ List.mem_cons_self) _ h2⟩
section
variable {H H' : Hp} {L L' : List En} {a p : Addr} {o o' : HO}
theorem Fx.get (F : Fx H L) (h : En.ob a o ∈ L) : H a = some o := F.1 _ h
theorem Fx.gh {l c : Addr} (F : Fx H L) (h : En.hand l c ∈ L) : HandAt H l c := F.1 _ h
theorem Fx.nil : Fx H [] := ⟨fun e h => (nomatch h), List.nodup_nil⟩
theorem Fx.notin (F : Fx H L) (h : H p = none) : p ∉ L.flatMap En.fp := fun hp => by
  obtain ⟨e, he, ha⟩ := List.mem_flatMap.mp hp
  obtain ⟨o, q⟩ := En.there (F.1 e he) ha
  rw [h] at q
  cases q
theorem Fx.new (F : Fx H L) (h : H p = none) : Fx (upd H p o) (.ob p o :: L) := by
  have ni := F.notin h
  refine ⟨fun e he => ?_, ?_⟩
  · rcases List.mem_cons.mp he with e1 | he
    · subst e1
      exact upd_same
    · refine En.keep (F.1 e he) fun a ha o q => ?_
      rw [upd_ne (ne_of_none q h)]
      exact q
  · show (p :: L.flatMap En.fp).Nodup
    exact List.nodup_cons.mpr ⟨ni, F.2⟩
theorem Fx.same (F : Fx H L) (k : Same H H') : Fx H' L := ⟨fun e he => En.keep (F.1 e he) fun a _ o q => k a o q, F.2⟩
theorem Fx.add (F : Fx H L) (h : H p = some o) (n : p ∉ L.flatMap En.fp) : Fx H (.ob p o :: L) := by
  refine ⟨fun e he => ?_, ?_⟩
  · rcases List.mem_cons.mp he with e1 | he
    · subst e1
      exact h
    · exact F.1 e he
  · show (p :: L.flatMap En.fp).Nodup
    exact List.nodup_cons.mpr ⟨n, F.2⟩
theorem Fx.sub (F : Fx H L) (h : L'.Sublist L) : Fx H L' := by
  refine ⟨fun e he => F.1 e (h.subset he), ?_⟩
  have : (L'.flatMap En.fp).Sublist (L.flatMap En.fp) := by
    induction h with
    | slnil => exact List.Sublist.refl _
    | cons a _ ih =>
      rw [List.flatMap_cons]
      exact List.Sublist.trans (ih ⟨fun e he => F.1 e (List.mem_cons_of_mem _ he), (List.nodup_append.mp (by have := F.2; rwa [List.flatMap_cons] at this)).2.1⟩) (List.sublist_append_right _ _)
    | cons_cons a _ ih =>
      rw [List.flatMap_cons, List.flatMap_cons]
      exact (List.Sublist.refl _).append (ih ⟨fun e he => F.1 e (List.mem_cons_of_mem _ he), (List.nodup_append.mp (by have := F.2; rwa [List.flatMap_cons] at this)).2.1⟩)
  exact List.Sublist.nodup this F.2
/-- p's object is exchanged -/
inductive Put (p : Addr) (o' : HO) : List En → List En → Prop where
  | head {o : HO} {L : List En} : Put p o' (.ob p o :: L) (.ob p o' :: L)
  | tail {e : En} {L L' : List En} (h : Put p o' L L') : Put p o' (e :: L) (e :: L')
theorem Put.fps (h : Put p o' L L') : L'.flatMap En.fp = L.flatMap En.fp := by
  induction h with
  | head => rfl
  | tail _ ih => rw [List.flatMap_cons, List.flatMap_cons, ih]
theorem Put.mem (h : Put p o' L L') : p ∈ L.flatMap En.fp := by
  induction h with
  | head => exact List.mem_cons_self
  | tail _ ih =>
    rw [List.flatMap_cons]
    exact List.mem_append_right _ ih
theorem Put.sat (h : Put p o' L L') (nd : (L.flatMap En.fp).Nodup) (s : ∀ e ∈ L, e.sat H) : ∀ e ∈ L', e.sat (upd H p o') := by
  induction h with
  | @head o L =>
    intro e he
    rcases List.mem_cons.mp he with e1 | he
    · subst e1
      exact upd_same
    · refine En.keep (s e (List.mem_cons_of_mem _ he)) fun a ha u q => ?_
      have n := (List.nodup_cons.mp (show (p :: L.flatMap En.fp).Nodup from nd)).1
      rw [upd_ne (fun z => n (by rw [← z]; exact List.mem_flatMap.mpr ⟨e, he, ha⟩))]
      exact q
  | @tail x L L' h ih =>
    rw [List.flatMap_cons] at nd
    obtain ⟨n1, n2, n3⟩ := List.nodup_append.mp nd
    intro e he
    rcases List.mem_cons.mp he with e1 | he
    · subst e1
      refine En.keep (s e List.mem_cons_self) fun a ha u q => ?_
      rw [upd_ne (n3 a ha p h.mem)]
      exact q
    · exact ih n2 (fun e he => s e (List.mem_cons_of_mem _ he)) e he
theorem Fx.put (F : Fx H L) (h : Put p o' L L') : Fx (upd H p o') L' := ⟨h.sat F.2 F.1, by rw [h.fps]; exact F.2⟩
/-- all but the list l stands; the draws go on at l -/
theorem Fx.drawn {l c : Addr} (F : Fx H L) (h : En.hand l c ∈ L) (k : ∀ b o, H b = some o → b ≠ l → H' b = some o) (d : HandAt H' l c) : Fx H' L := by
  refine ⟨fun e he => ?_, F.2⟩
  by_cases hl : l ∈ e.fp
  · have key : e = En.hand l c := by
      have nd := F.2
      have h' := h
      have he' := he
      clear d k F
      induction L with
      | nil => cases he
      | cons x L ih =>
        rw [List.flatMap_cons] at nd
        obtain ⟨n1, n2, n3⟩ := List.nodup_append.mp nd
        rcases List.mem_cons.mp h with e1 | h1
        · rcases List.mem_cons.mp he with e2 | h2
          · rw [e1, e2]
          · exact absurd rfl (n3 l (e1 ▸ List.mem_cons_self) l (List.mem_flatMap.mpr ⟨e, h2, hl⟩))
        · rcases List.mem_cons.mp he with e2 | h2
          · exact absurd rfl (n3 l (e2 ▸ hl) l (List.mem_flatMap.mpr ⟨_, h1, List.mem_cons_self⟩))
          · exact ih h1 h2 n2 h1 h2
    rw [key]
    exact d
  · exact En.keep (F.1 e he) fun a ha o q => k a o q fun z => hl (z ▸ ha)
end
end Z

set_option Elab.async false
set_option linter.all false
set_option maxRecDepth 100000
namespace Z
open PySem L2
/-! ### rules -/
theorem hu0 {X : Cx} {k : Nat} (hr : Room k X.A) : X.A.units + 64 < cLine := hr.units
section
variable {CX : CXT} {P : Program} {w : World} {K : PySem.W.Frag} {mg : Str → Option Value} {base : Heap}
/-- the def x keeps its promise; dvs: the defaults that fill up the call -/
def Ok (CX : CXT) (P : Program) (w : World) (K : PySem.W.Frag) (mg : Str → Option Value) (base : Heap) (x : Str) (k : Nat) (ps : List Str) (dvs : List V) (sp : Sp) : Prop :=
  ∃ (f : Addr) (fd : FuncData) (ds : List Value), mg x = some (.ref f) ∧ PySem.W.keepIn K (.ref f) = true ∧ Binds K fd ps ds ∧ Vals dvs ds ∧ FnOk P w K mg base CX k f fd ps sp
theorem mkOk {x : Str} {k : Nat} {ps : List Str} {sp : Sp} {st : Stmt} {f : Addr} {fd : FuncData} (F : Fun K x x st f fd) (g : mg x = some (.ref f)) (b : Binds K fd ps []) (G : FnOk P w K mg base CX k f fd ps sp) : Ok CX P w K mg base x k ps [] sp :=
  ⟨f, fd, [], g, F.kp, b, .nil, G⟩
end
section
variable {X : Cx} {CX : CXT} {k : Nat} {ps : List Str} {sp : Sp} {E : XK} {x : Str} {p pos apos : Pos} {e : Expr} {es : List Expr} {t : TA} {dvs : List V}
theorem pe_callO (O : Ok CX X.prog X.w X.K X.mg X.base x k ps dvs sp) (hg : Gl X x) (hr : Room k X.A) (hx : Passes CX X E) (ha : PA X (e :: es) t)
    (hdb : (x == ("__debug__" : Str)) = false := by decide) (he : starEach (e :: es) X.env = (false, eval e
          X.env) :: starEach es X.env := by rfl) (hpl : (backTo pos (starEach es X.env)).any (·.1) = false := by rfl) :
    PE X (.Call (.Name x p) (e :: es)
          [] pos) (tCall sp dvs E t) := by
  obtain ⟨f, fd, ds, g, kp, b, v, F⟩ := O
  exact pe_call F hr hg g kp b v hx ha hdb he hpl
theorem pt_tru {a : Expr} {ta : TE} (ha : PE X a ta) (he : ∀ whole, isTrue a X.env whole = (do let v ← whole; standAt a.pos; holding [v] (truthy v)) := by intro _; rfl) :
    PT X a (fun σ H Q => ta σ H fun x H' => ∃ k, TruV X.K x H' k ∧ Q k H') := pt_truth ha he
end
/-! named readings -/
def rTru (K : PySem.W.Frag) (ta : TE) : TT := fun σ H Q => ta σ H fun x H' => ∃ k, TruV K x H' k ∧ Q k H'
theorem pt_truN {X : Cx} {a : Expr} {ta : TE} (ha : PE X a ta) (he : ∀ whole, isTrue a X.env whole = (do let v ← whole; standAt a.pos; holding [v] (truthy v)) := by intro _; rfl) : PT X a (rTru X.K ta) := pt_truth ha he
def rAddS : R2 := fun x y H Q => ∃ i j, x = .str i ∧ y = .str j ∧ i.length + j.length ≤ sizeLine ∧ Q (.str (i ++ j)) H
def rOr (r r' : R2) : R2 := fun x y H Q => r x y H Q ∨ r' x y H Q
theorem opOr {X : Cx} {f : Value → Value → Sem Value} {r r' : R2} (h : OpR X f r) (h' : OpR X f r') : OpR X f (rOr r r') := h.or h'
abbrev rAddI : R2 := rI0 fun i j => .int (i + j)
abbrev rSubI : R2 := rI0 fun i j => .int (i - j)
theorem zAdd {X : Cx} : OpR X (binaryOp .Add) (rOr rAddI (rOr rAddS (rOr rCat (rCatT X.K)))) := opOr op_add (opOr op_add_str (opOr op_cat op_catT))
abbrev rMulI : R2 := rI CMulW fun i j => .int (i * j)
abbrev rMulC : R2 := rI CMul fun i j => .int (i * j)
theorem zMul {X : Cx} : OpR X (binaryOp .Mult) (rOr rMulC (rOr rMulI (rOr rRep (rRepT X.K)))) := opOr op_mul (opOr op_mulW (opOr op_rep op_repT))
abbrev rDivI : R2 := rI CDivW fun i j => .int (i / j)
theorem zDiv {X : Cx} : OpR X (binaryOp .FloorDiv) rDivI := op_fdivW
abbrev rModI : R2 := rI (fun _ j => 0 < j) fun i j => .int (i % j)
theorem zMod {X : Cx} : OpR X (binaryOp .Mod) rModI := op_mod
abbrev rPowI : R2 := rI CPow fun i j => .int (i ^ j.toNat)
theorem zPow {X : Cx} : OpR X (binaryOp .Pow) rPowI := op_pow
abbrev rLtI : R2 := rI0 fun i j => .bl (decide (i < j))
abbrev rLeI : R2 := rI0 fun i j => .bl (decide (i ≤ j))
abbrev rGtI : R2 := rI0 fun i j => .bl (decide (j < i))
abbrev rGeI : R2 := rI0 fun i j => .bl (decide (j ≤ i))
theorem zLt {X : Cx} : OpR X (compareOp .Lt) rLtI := op_lt
theorem zLe {X : Cx} : OpR X (compareOp .LtE) rLeI := op_le
theorem zGt {X : Cx} : OpR X (compareOp .Gt) rGtI := op_gt
theorem zGe {X : Cx} : OpR X (compareOp .GtE) rGeI := op_ge
theorem zEq {X : Cx} (hu : X.A.units + 64 < cLine) : OpR X (compareOp .Eq) (rOr rEq (rEqD X.K)) := opOr op_eq (op_eqD hu)
theorem zNe {X : Cx} (hu : X.A.units + 64 < cLine) : OpR X (compareOp .NotEq) (rOr rNe (rNeD X.K)) := opOr op_ne (op_neD hu)
def rIsN : R2 := fun x y H Q => y =
      .non ∧ Q (.bl (decide (x = .non))) H
def rNotN : R2 := fun x y H Q => y =
      .non ∧ Q (.bl (!decide (x = .non))) H
theorem zIs {X : Cx} : OpR X (compareOp .Is) (rOr rIsN rIsB) := opOr op_isN op_isBl
theorem zIsNot {X : Cx} : OpR X (compareOp .IsNot) (rOr rNotN rNotB) := opOr op_notN op_notBl
theorem zIn {X : Cx} : OpR X (compareOp .In) (rIn X.K false) := op_in_seq
theorem zNotIn {X : Cx} : OpR X (compareOp .NotIn) (rIn X.K true) := op_notIn_seq
def rLen (K : PySem.W.Frag) : List V → Hp → VK → Prop :=
      fun xs H Q => ∃ x n, xs = [x] ∧ LenV K x H n ∧ Q (.int n) H
theorem zLen {X : Cx} : CallR X (.builtin "len") (rLen X.K) := call_len
def rOrC (r r' : List V → Hp → VK → Prop) : List V → Hp → VK → Prop := fun xs H Q => r xs H Q ∨ r' xs H Q
theorem zIsi {X : Cx} : CallR X (.builtin "isinstance") (rOrC (rIsi X.K) (rIsiT X.K)) := CallR.or call_isi call_isiT
def rInt : List V → Hp → VK → Prop := fun xs H Q => (∃ i, xs = [.int i] ∧ Q (.int i) H) ∨ ∃ k, xs = [.bl k] ∧ Q (.int (if k then 1 else 0)) H
theorem zInt {X : Cx} : CallR X (.type "int") rInt := call_int1
def rList (K : PySem.W.Frag) : List V → Hp → VK → Prop := fun xs H Q => ∃ p ys, xs = [.ref p] ∧ (SqL K H p ys ∨ SqT K H p ys) ∧ ∀ l, H l = none → Q (.ref l) (upd H l (.lst ys))
theorem zList {X : Cx} : CallR X (.type "list") (rList X.K) := call_list_of
def rTuple (K : PySem.W.Frag) : List V → Hp → VK → Prop := fun xs H Q => ∃ p ys, xs = [.ref p] ∧ ((SqL K H p ys ∧ ∀ l, H l = none → Q (.ref l) (upd H l (.tup ys))) ∨ (SqT K H p ys ∧ Q (.ref p) H))
theorem zTuple {X : Cx} : CallR X (.type "tuple") (rTuple X.K) := call_tuple_of
def rAbs : List V → Hp → VK → Prop := fun xs H Q => ∃ i, xs = [.int i] ∧ Q (.int (if i < 0 then -i else i)) H
theorem zAbs {X : Cx} : CallR X (.builtin "abs") rAbs := call_abs
def rOrS (r r' : V → Option Int → Option Int → Hp → VK → Prop) : V → Option Int → Option Int → Hp → VK → Prop := fun x lo hi H Q => r x lo hi H Q ∨ r' x lo hi H Q
theorem zSl {X : Cx} : SlR X (rOrS (rSlL X.K) (rSlT X.K)) := SlR.or sl_list sl_tup

def NewT (xs : List V) (H : Hp) (Q : VK) : Prop := xs.length ≤ sizeLine ∧ ∀ p, H p = none → Q (.ref p) (upd H p (.tup xs))
def NewL (xs : List V) (H : Hp) (Q : VK) : Prop := xs.length ≤ sizeLine ∧ ∀ p, H p = none → Q (.ref p) (upd H p (.lst xs))
/-! ### how a reading is answered -/
section
variable {K : PySem.W.Frag} {H : Hp} {Q : VK} {L : List En} {σ : St} {v w : V} {i j : Int} {t u : TS} {nx bk ct : St → Hp → Prop} {rt : VK} {te ta tb tc : TE} {tt tt' : TT} {ts : TA} {g : TG} {r r' : R2} {QB : Bool → Hp → Prop} {QA : List V → Hp → Prop}
theorem at_start {σ' : St} {N : List Str} {vs : List V} {D : Ends} (e : start N vs = σ') (h : t D σ' H) : t D (start N vs) H := by rw [e]; exact h
theorem wSeq (h : t ⟨u ⟨nx, rt, bk, ct⟩, rt, bk, ct⟩ σ H) : tSeq t u ⟨nx, rt, bk, ct⟩ σ H := h
theorem wNext (h : nx σ H) : tNext ⟨nx, rt, bk, ct⟩ σ H := h
theorem wBreak (h : bk σ H) : tBreak ⟨nx, rt, bk, ct⟩ σ H := h
theorem wCont (h : ct σ H) : tCont ⟨nx, rt, bk, ct⟩ σ H := h
theorem wDrop (h : te σ H fun _ H1 => nx σ H1) : tDrop te ⟨nx, rt, bk, ct⟩ σ H := h
theorem wRet (h : te σ H rt) : tRet te ⟨nx, rt, bk, ct⟩ σ H := h
theorem wRetN (h : rt .non H) : tRetN ⟨nx, rt, bk, ct⟩ σ H := h
theorem wIfS (h : tt σ H fun b H1 => if b = true then t ⟨nx, rt, bk, ct⟩ σ H1 else u ⟨nx, rt, bk, ct⟩ σ H1) : tIfS tt t u ⟨nx, rt, bk, ct⟩ σ H := h
theorem wAsg (h : te σ H fun x H1 => g x σ H1 nx) : tAsg te g ⟨nx, rt, bk, ct⟩ σ H := h
theorem wFor {wi : TI} {tb : TS} (h : wi σ H fun J H1 => ∃ W : Nat → Nat → St → Hp → Prop, (∃ m, W 0 m σ H1) ∧ ∀ i m σ H, W i m σ H →
  (J.stop i H ∧ nx σ H) ∨ (J.go i H ∧ ∃ N : St → Hp → Prop, (∀ σ' H', N σ' H' → ∃ m', m' < m ∧ W (i + 1) m' σ' H') ∧ ∀ x H', J.yld i H x H' → g x σ H' fun σ2 H2 => tb ⟨N, rt, nx, N⟩ σ2 H2)) : tFor wi g tb ⟨nx, rt, bk, ct⟩ σ H := h
variable {a0 a1 a2 a3 a4 a5 a6 a7 a8 a9 b0 b1 b2 b3 b4 b5 b6 b7 : Option V} {ρ : St} {N : St → Hp → Prop}
theorem wG0 (h : N (some v :: ρ) H) : gName 0 v (a0 :: ρ) H N := h
theorem wG1 (h : N (a0 :: some v :: ρ) H) : gName 1 v (a0 :: a1 :: ρ) H N := h
theorem wG2 (h : N (a0 :: a1 :: some v :: ρ) H) : gName 2 v (a0 :: a1 :: a2 :: ρ) H N := h
theorem wG3 (h : N (a0 :: a1 :: a2 :: some v :: ρ) H) : gName 3 v (a0 :: a1 :: a2 :: a3 :: ρ) H N := h
theorem wG4 (h : N (a0 :: a1 :: a2 :: a3 :: some v :: ρ) H) : gName 4 v (a0 :: a1 :: a2 :: a3 :: a4 :: ρ) H N := h
theorem wG5 (h : N (a0 :: a1 :: a2 :: a3 :: a4 :: some v :: ρ) H) : gName 5 v (a0 :: a1 :: a2 :: a3 :: a4 :: a5 :: ρ) H N := h
theorem wG6 (h : N (a0 :: a1 :: a2 :: a3 :: a4 :: a5 :: some v :: ρ) H) : gName 6 v (a0 :: a1 :: a2 :: a3 :: a4 :: a5 :: a6 :: ρ) H N := h
theorem wG7 (h : N (a0 :: a1 :: a2 :: a3 :: a4 :: a5 :: a6 :: some v :: ρ) H) : gName 7 v (a0 :: a1 :: a2 :: a3 :: a4 :: a5 :: a6 :: a7 :: ρ) H N := h
theorem wG8 (h : N (a0 :: a1 :: a2 :: a3 :: a4 :: a5 :: a6 :: a7 :: some v :: ρ) H) : gName 8 v (a0 :: a1 :: a2 :: a3 :: a4 :: a5 :: a6 :: a7 :: a8 :: ρ) H N := h
theorem wG9 (h : N (a0 :: a1 :: a2 :: a3 :: a4 :: a5 :: a6 :: a7 :: a8 :: some v :: ρ) H) : gName 9 v (a0 :: a1 :: a2 :: a3 :: a4 :: a5 :: a6 :: a7 :: a8 :: a9 :: ρ) H N := h
theorem wG10 (h : N (a0 :: a1 :: a2 :: a3 :: a4 :: a5 :: a6 :: a7 :: a8 :: a9 :: some v :: ρ) H) : gName 10 v (a0 :: a1 :: a2 :: a3 :: a4 :: a5 :: a6 :: a7 :: a8 :: a9 :: b0 :: ρ) H N := h
theorem wG11 (h : N (a0 :: a1 :: a2 :: a3 :: a4 :: a5 :: a6 :: a7 :: a8 :: a9 :: b0 :: some v :: ρ) H) : gName 11 v (a0 :: a1 :: a2 :: a3 :: a4 :: a5 :: a6 :: a7 :: a8 :: a9 :: b0 :: b1 :: ρ) H N := h
theorem wG12 (h : N (a0 :: a1 :: a2 :: a3 :: a4 :: a5 :: a6 :: a7 :: a8 :: a9 :: b0 :: b1 :: some v :: ρ) H) : gName 12 v (a0 :: a1 :: a2 :: a3 :: a4 :: a5 :: a6 :: a7 :: a8 :: a9 :: b0 :: b1 :: b2 :: ρ) H N := h
theorem wG13 (h : N (a0 :: a1 :: a2 :: a3 :: a4 :: a5 :: a6 :: a7 :: a8 :: a9 :: b0 :: b1 :: b2 :: some v :: ρ) H) : gName 13 v (a0 :: a1 :: a2 :: a3 :: a4 :: a5 :: a6 :: a7 :: a8 :: a9 :: b0 :: b1 :: b2 :: b3 :: ρ) H N := h
theorem wG14 (h : N (a0 :: a1 :: a2 :: a3 :: a4 :: a5 :: a6 :: a7 :: a8 :: a9 :: b0 :: b1 :: b2 :: b3 :: some v :: ρ) H) : gName 14 v (a0 :: a1 :: a2 :: a3 :: a4 :: a5 :: a6 :: a7 :: a8 :: a9 :: b0 :: b1 :: b2 :: b3 :: b4 :: ρ) H N := h
theorem wV {n : Nat} (e : σ[n]? = some (some v)) (h : Q v H) : tVar n σ H Q := ⟨v, e, h⟩
theorem wV0 (h : Q v H) : tVar 0 (some v :: ρ) H Q := ⟨v, rfl, h⟩
theorem wV1 (h : Q v H) : tVar 1 (a0 :: some v :: ρ) H Q := ⟨v, rfl, h⟩
theorem wV2 (h : Q v H) : tVar 2 (a0 :: a1 :: some v :: ρ) H Q := ⟨v, rfl, h⟩
theorem wV3 (h : Q v H) : tVar 3 (a0 :: a1 :: a2 :: some v :: ρ) H Q := ⟨v, rfl, h⟩
theorem wV4 (h : Q v H) : tVar 4 (a0 :: a1 :: a2 :: a3 :: some v :: ρ) H Q := ⟨v, rfl, h⟩
theorem wV5 (h : Q v H) : tVar 5 (a0 :: a1 :: a2 :: a3 :: a4 :: some v :: ρ) H Q := ⟨v, rfl, h⟩
theorem wV6 (h : Q v H) : tVar 6 (a0 :: a1 :: a2 :: a3 :: a4 :: a5 :: some v :: ρ) H Q := ⟨v, rfl, h⟩
theorem wV7 (h : Q v H) : tVar 7 (a0 :: a1 :: a2 :: a3 :: a4 :: a5 :: a6 :: some v :: ρ) H Q := ⟨v, rfl, h⟩
theorem wV8 (h : Q v H) : tVar 8 (a0 :: a1 :: a2 :: a3 :: a4 :: a5 :: a6 :: a7 :: some v :: ρ) H Q := ⟨v, rfl, h⟩
theorem wV9 (h : Q v H) : tVar 9 (a0 :: a1 :: a2 :: a3 :: a4 :: a5 :: a6 :: a7 :: a8 :: some v :: ρ) H Q := ⟨v, rfl, h⟩
theorem wV10 (h : Q v H) : tVar 10 (a0 :: a1 :: a2 :: a3 :: a4 :: a5 :: a6 :: a7 :: a8 :: a9 :: some v :: ρ) H Q := ⟨v, rfl, h⟩
theorem wV11 (h : Q v H) : tVar 11 (a0 :: a1 :: a2 :: a3 :: a4 :: a5 :: a6 :: a7 :: a8 :: a9 :: b0 :: some v :: ρ) H Q := ⟨v, rfl, h⟩
theorem wV12 (h : Q v H) : tVar 12 (a0 :: a1 :: a2 :: a3 :: a4 :: a5 :: a6 :: a7 :: a8 :: a9 :: b0 :: b1 :: some v :: ρ) H Q := ⟨v, rfl, h⟩
theorem wV13 (h : Q v H) : tVar 13 (a0 :: a1 :: a2 :: a3 :: a4 :: a5 :: a6 :: a7 :: a8 :: a9 :: b0 :: b1 :: b2 :: some v :: ρ) H Q := ⟨v, rfl, h⟩
theorem wV14 (h : Q v H) : tVar 14 (a0 :: a1 :: a2 :: a3 :: a4 :: a5 :: a6 :: a7 :: a8 :: a9 :: b0 :: b1 :: b2 :: b3 :: some v :: ρ) H Q := ⟨v, rfl, h⟩
theorem wC (h : Q v H) : tC v σ H Q := h
theorem wOp (h : ta σ H fun x H1 => tb σ H1 fun y H2 => r x y H2 Q) : tOp r ta tb σ H Q := h
theorem wUn {rr : V → Hp → VK → Prop} (h : ta σ H fun x H1 => rr x H1 Q) : tUn rr ta σ H Q := h
theorem wNeg (h : Q (.int (-i)) H) : rU (fun i => .int (-i)) (.int i) H Q := ⟨i, rfl, h⟩
theorem wI0 {f : Int → Int → V} (h : Q (f i j) H) : rI0 f (.int i) (.int j) H Q := ⟨i, j, rfl, rfl, h⟩
theorem wI {C : Int → Int → Prop} {f : Int → Int → V} (c : C i j) (h : Q (f i j) H) : rI C f (.int i) (.int j) H Q := ⟨i, j, rfl, rfl, c, h⟩
theorem wOr1 (h : r v w H Q) : rOr r r' v w H Q := .inl h
theorem wOr2 (h : r' v w H Q) : rOr r r' v w H Q := .inr h
theorem wNil (h : QA [] H) : tNil σ H QA := h
theorem wCons (h : ta σ H fun x H1 => ts σ H1 fun xs H2 => QA (x :: xs) H2) : tCons ta ts σ H QA := h
theorem wCB {rr : List V → Hp → VK → Prop} (h : ts σ H fun vs H1 => rr vs H1 Q) : tCB rr ts σ H Q := h
theorem wTest (h : te σ H fun x H' => ∃ k, x = .bl k ∧ QB k H') : tTest te σ H QB := h
theorem wBl {b : Bool} {QP : Bool → Prop} (h : QP b) : ∃ k, V.bl b = .bl k ∧ QP k := ⟨b, rfl, h⟩
theorem wTruN (h : te σ H fun x H' => ∃ k, TruV K x H' k ∧ QB k H') : rTru K te σ H QB := h
theorem wTbl {b : Bool} {QP : Bool → Prop} (h : QP b) : ∃ k, TruV K (.bl b) H k ∧ QP k := ⟨b, rfl, h⟩
theorem wTint {QP : Bool → Prop} (h : QP (i != 0)) : ∃ k, TruV K (.int i) H k ∧ QP k := ⟨_, rfl, h⟩
theorem wTnon {QP : Bool → Prop} (h : QP false) : ∃ k, TruV K .non H k ∧ QP k := ⟨_, rfl, h⟩
theorem wTlst {a : Addr} {xs : List V} (s : SqL K H a xs) {QP : Bool → Prop} (h : QP (!xs.isEmpty)) : ∃ k, TruV K (.ref a) H k ∧ QP k := ⟨_, .inl ⟨xs, s, rfl⟩, h⟩
theorem wTtup {a : Addr} {xs : List V} (s : SqT K H a xs) {QP : Bool → Prop} (h : QP (!xs.isEmpty)) : ∃ k, TruV K (.ref a) H k ∧ QP k := ⟨_, .inr (.inl ⟨xs, s, rfl⟩), h⟩
theorem wNot (h : tt σ H fun c H1 => QB (!c) H1) : tNot tt σ H QB := h
theorem wAnd (h : tt σ H fun c H1 => if c = true then tt' σ H1 QB else QB false H1) : tAnd tt tt' σ H QB := h
theorem wOrb (h : tt σ H fun c H1 => if c = true then QB true H1 else tt' σ H1 QB) : tOr tt tt' σ H QB := h
theorem wAndT (h : ta σ H fun x H1 => ∃ k, TruV K x H1 k ∧ if k = true then tb σ H1 Q else Q x H1) : tAndT K ta tb σ H Q := h
theorem wOrT (h : ta σ H fun x H1 => ∃ k, TruV K x H1 k ∧ if k = true then Q x H1 else tb σ H1 Q) : tOrT K ta tb σ H Q := h
theorem wNotT (h : ta σ H fun x H1 => ∃ k, TruV K x H1 k ∧ Q (.bl (!k)) H1) : tNotT K ta σ H Q := h
theorem wTIf (h : tt σ H fun c H1 => if c = true then ta σ H1 Q else tb σ H1 Q) : tIf tt ta tb σ H Q := h
theorem wChain (h : ta σ H fun x H1 => tb σ H1 fun y H2 => r x y H2 fun z H3 => ∃ k, z = .bl k ∧ (if k = true then tc σ H3 fun w' H4 => r' y w' H4 Q else Q (.bl false) H3)) : tChain r r' ta tb tc σ H Q := h
theorem wIfT {b : Bool} {A B : Prop} (e : b = true) (h : A) : if b = true then A else B := by rw [if_pos e]; exact h
theorem wIfF {b : Bool} {A B : Prop} (e : b = false) (h : B) : if b = true then A else B := by rw [if_neg (by rw [e]; exact Bool.false_ne_true)]; exact h
theorem wIf {b : Bool} {A B : Prop} (h : b = true → A) (h' : b = false → B) : if b = true then A else B := by
  cases b with
  | true => exact wIfT rfl (h rfl)
  | false => exact wIfF rfl (h' rfl)
theorem wIfD {p : Prop} [Decidable p] {A B : Prop} (h : p → A) (h' : ¬ p → B) : if decide p = true then A else B := wIf (fun e => h (of_decide_eq_true e)) fun e => h' (of_decide_eq_false e)
theorem wIfND {p : Prop} [Decidable p] {A B : Prop} (h : ¬ p → A) (h' : p → B) : if (!decide p) = true then A else B := wIf (fun e => h (by simpa using e)) fun e => h' (by simpa using e)
theorem wEqII (h : Q (.bl (decide (i = j))) H) : rEq (.int i) (.int j) H Q := ⟨rfl, by
  have e : decide (V.int i = V.int j) = decide (i = j) := by
    by_cases q : i = j
    · rw [q, decide_eq_true rfl, decide_eq_true rfl]
    · rw [decide_eq_false q, decide_eq_false (fun z => q (by injection z))]
  rw [e]; exact h⟩
theorem wNeII (h : Q (.bl (!decide (i = j))) H) : rNe (.int i) (.int j) H Q := ⟨rfl, by
  have e : decide (V.int i = V.int j) = decide (i = j) := by
    by_cases q : i = j
    · rw [q, decide_eq_true rfl, decide_eq_true rfl]
    · rw [decide_eq_false q, decide_eq_false (fun z => q (by injection z))]
  rw [e]; exact h⟩
theorem wEqS {x y : V} (s : scal x y = true) (h : Q (.bl (decide (x = y))) H) : rEq x y H Q := ⟨s, h⟩
theorem wNeS {x y : V} (s : scal x y = true) (h : Q (.bl (!decide (x = y))) H) : rNe x y H Q := ⟨s, h⟩
theorem wIsN {x : V} (h : Q (.bl (decide (x = .non))) H) : rIsN x .non H Q := ⟨rfl, h⟩
theorem wNotN {x : V} (h : Q (.bl (!decide (x = .non))) H) : rNotN x .non H Q := ⟨rfl, h⟩
theorem wIsB {b c : Bool} (h : Q (.bl (decide (b = c))) H) : rIsB (.bl b) (.bl c) H Q := ⟨b, c, rfl, rfl, h⟩
theorem wNotB {b c : Bool} (h : Q (.bl (!decide (b = c))) H) : rNotB (.bl b) (.bl c) H Q := ⟨b, c, rfl, rfl, h⟩
theorem wIntI (h : Q (.int i) H) : rInt [.int i] H Q := .inl ⟨i, rfl, h⟩
theorem wAbs (h : Q (.int (if i < 0 then -i else i)) H) : rAbs [.int i] H Q := ⟨i, rfl, h⟩
variable {a b : Addr} {xs ys : List V} {o : HO}
theorem wLenL (s : SqL K H a xs) (h : Q (.int xs.length) H) : rLen K [.ref a] H Q := ⟨_, _, rfl, .inl ⟨_, s, rfl⟩, h⟩
theorem wLenT (s : SqT K H a xs) (h : Q (.int xs.length) H) : rLen K [.ref a] H Q := ⟨_, _, rfl, .inr ⟨_, s, rfl⟩, h⟩
theorem wLenS {z : Str} (s : z.length ≤ sizeLine) (h : Q (.int z.length) H) : rLen K [.str z] H Q := ⟨_, _, rfl, ⟨s, rfl⟩, h⟩
theorem wIxL (s : SqL K H a xs) (e : atI xs i = some v) (h : Q v H) : rIx K (.ref a) (.int i) H Q := .inl ⟨a, xs, i, v, rfl, rfl, s, e, h⟩
theorem wIxT (s : SqT K H a xs) (e : atI xs i = some v) (h : Q v H) : rIx K (.ref a) (.int i) H Q := .inr (.inl ⟨a, xs, i, v, rfl, rfl, s, e, h⟩)
theorem wIxS {z : Str} {c : Nat} (n : z.length ≤ sizeLine) (e : atI z.cps.toList i = some c) (h : Q (.str ⟨#[c]⟩) H) : rIx K (.str z) (.int i) H Q := .inr (.inr ⟨z, i, c, rfl, rfl, n, e, h⟩)
theorem SqT.of {K : PySem.W.Frag} {H : Hp} {a : Addr} {xs : List V} (h : H a = some (.tup xs)) : SqT K H a xs := .inl (.inl h)
/-- from the ledger -/
theorem Fx.lst (F : Fx H L) (m : En.ob a (.lst xs) ∈ L) : SqL K H a xs := SqL.of (F.get m)
theorem Fx.tup (F : Fx H L) (m : En.ob a (.tup xs) ∈ L) : SqT K H a xs := SqT.of (F.get m)
theorem Fx.frz {ob : Obj} (F : Fx H L) (m : En.ob a (.frz ob (.lst xs)) ∈ L) : SqL K H a xs := .inl (.inr ⟨ob, F.get m⟩)
/-- new objects -/
theorem wNewF (F : Fx H L) (k : ∀ p H', Fx H' (.ob p o :: L) → Q (.ref p) H') : ∀ p, H p = none → Q (.ref p) (upd H p o) := fun p n => k p _ (F.new n)
theorem wTup (n : xs.length ≤ 1000) (F : Fx H L) (k : ∀ p H', Fx H' (.ob p (.tup xs) :: L) → Q (.ref p) H') : NewT xs H Q := ⟨Nat.le_of_lt (small1000 n), wNewF F k⟩
theorem wLst (n : xs.length ≤ 1000) (F : Fx H L) (k : ∀ p H', Fx H' (.ob p (.lst xs) :: L) → Q (.ref p) H') : NewL xs H Q := ⟨Nat.le_of_lt (small1000 n), wNewF F k⟩
theorem wTTup (h : ts σ H fun xs H1 => NewT xs H1 Q) : tTup ts σ H Q := h
theorem wTLst (h : ts σ H fun xs H1 => NewL xs H1 Q) : tLst ts σ H Q := h
theorem wListL (s : SqL K H a xs) (F : Fx H L) (k : ∀ p H', Fx H' (.ob p (.lst xs) :: L) → Q (.ref p) H') : rList K [.ref a] H Q := ⟨a, xs, rfl, .inl s, wNewF F k⟩
theorem wListT (s : SqT K H a xs) (F : Fx H L) (k : ∀ p H', Fx H' (.ob p (.lst xs) :: L) → Q (.ref p) H') : rList K [.ref a] H Q := ⟨a, xs, rfl, .inr s, wNewF F k⟩
theorem wTupleL (s : SqL K H a xs) (F : Fx H L) (k : ∀ p H', Fx H' (.ob p (.tup xs) :: L) → Q (.ref p) H') : rTuple K [.ref a] H Q := ⟨a, xs, rfl, .inl ⟨s, wNewF F k⟩⟩
theorem wTupleT (s : SqT K H a xs) (h : Q (.ref a) H) : rTuple K [.ref a] H Q := ⟨a, xs, rfl, .inr ⟨s, h⟩⟩
/-- xs.append(v) -/
theorem wBM {T : String} {rr : V → List V → Hp → VK → Prop} (h : ta σ H fun x H1 => tyV K T x H1 ∧ ts σ H1 fun xs H2 => rr x xs H2 Q) : tBM K T rr ta ts σ H Q := h
theorem wBM0 {T : String} {rr : V → List V → Hp → VK → Prop} (h : ta σ H fun x H1 => tyV K T x H1 ∧ rr x [] H1 Q) : tBM0 K T rr ta σ H Q := h
theorem wTyL (s : SqL K H a xs) {B : Prop} (h : B) : tyV K "list" (.ref a) H ∧ B := ⟨.inl ⟨rfl, _, s⟩, h⟩
theorem wApp {L' : List En} (F : Fx H L) (m : En.ob a (.lst xs) ∈ L) (pt : Put a (.lst (xs ++ [v])) L L') (n : xs.length < sizeLine) (k : ∀ H', Fx H' L' → Q .non H') : rAppend (.ref a) [v] H Q :=
  ⟨a, xs, v, rfl, rfl, F.get m, n, k _ (F.put pt)⟩
theorem wPopAt {L' : List En} {n : Nat} (F : Fx H L) (m : En.ob a (.lst xs) ∈ L) (pt : Put a (.lst (xs.eraseIdx n)) L L') (h1 : -(2 ^ 63) ≤ i) (h2 : i < 2 ^ 63) (hi : seqIndex? i xs.length = some n) (hv : xs[n]? = some v) (k : ∀ H', Fx H' L' → Q v H') : rPopAt (.ref a) [.int i] H Q :=
  ⟨a, xs, i, n, v, rfl, rfl, F.get m, h1, h2, hi, hv, k _ (F.put pt)⟩
/-- a[i] = v -/
theorem wGSub {to ti : TE} {ts : TSet} (h : to σ H fun o H1 => ti σ H1 fun i H2 => ts o i v H2 fun H3 => N σ H3) : gSub to ti ts v σ H N := h
theorem wSetL {L' : List En} {QH : Hp → Prop} {n : Nat} (F : Fx H L) (m : En.ob a (.lst xs) ∈ L) (e : ixN xs.length i = some n) (pt : Put a (.lst (xs.set n v)) L L') (k : ∀ H', Fx H' L' → QH H') : rSetL (.ref a) (.int i) v H QH :=
  ⟨a, xs, i, n, rfl, rfl, F.get m, e, k _ (F.put pt)⟩
/-- calls -/
theorem wCall0 {sp : Sp} {E : XK} (h : ts σ H fun vs H1 => sp vs H1 Q E) : tCall sp [] E ts σ H Q := by unfold tCall; simpa only [List.append_nil] using h
theorem wCallD {sp : Sp} {E : XK} {d : V} {ds : List V} (h : ts σ H fun vs H1 => sp (vs ++ (d :: ds)) H1 Q E) : tCall sp (d :: ds) E ts σ H Q := h
/-- promises by the number of their arguments -/
def Sp1 (f : V → Hp → VK → XK → Prop) : Sp := fun vs H Q E => ∃ a, vs = [a] ∧ f a H Q E
def Sp2 (f : V → V → Hp → VK → XK → Prop) : Sp := fun vs H Q E => ∃ a b, vs = [a, b] ∧ f a b H Q E
def Sp3 (f : V → V → V → Hp → VK → XK → Prop) : Sp := fun vs H Q E => ∃ a b c, vs = [a, b, c] ∧ f a b c H Q E
def Sp4 (f : V → V → V → V → Hp → VK → XK → Prop) : Sp := fun vs H Q E => ∃ a b c d, vs = [a, b, c, d] ∧ f a b c d H Q E
theorem wSp1 {f : V → Hp → VK → XK → Prop} {E : XK} {x : V} (h : f x H Q E) : Sp1 f [x] H Q E := ⟨x, rfl, h⟩
theorem wSp2 {f : V → V → Hp → VK → XK → Prop} {E : XK} {x y : V} (h : f x y H Q E) : Sp2 f [x, y] H Q E := ⟨x, y, rfl, h⟩
theorem wSp3 {f : V → V → V → Hp → VK → XK → Prop} {E : XK} {x y z : V} (h : f x y z H Q E) : Sp3 f [x, y, z] H Q E := ⟨x, y, z, rfl, h⟩
theorem wSp4 {f : V → V → V → V → Hp → VK → XK → Prop} {E : XK} {x y z z' : V} (h : f x y z z' H Q E) : Sp4 f [x, y, z, z'] H Q E := ⟨x, y, z, z', rfl, h⟩
/-- loops -/
theorem wListI {R : It → Hp → Prop} {tl : TE} (h : tl σ H fun x H1 => ∃ a, x = .ref a ∧ (∃ xs, SqL K H1 a xs) ∧ R (Itl K a) H1) : iList K tl σ H R := h
theorem wForL {tb : TS} (s : SqL K H a xs) (Pv : Nat → St → Hp → Prop) (h0 : Pv 0 σ H) (hl : ∀ i σ H, i ≤ xs.length → Pv i σ H → SqL K H a xs)
    (hs : ∀ i x σ H, xs[i]? = some x → Pv i σ H → g x σ H fun σ2 H2 => tb ⟨Pv (i + 1), rt, nx, Pv (i + 1)⟩ σ2 H2) (hd : ∀ σ H, Pv xs.length σ H → nx σ H) :
    ∃ a', V.ref a = .ref a' ∧ (∃ xs, SqL K H a' xs) ∧ ∃ W : Nat → Nat → St → Hp → Prop, (∃ m, W 0 m σ H) ∧ ∀ i m σ H, W i m σ H →
  ((Itl K a').stop i H ∧ nx σ H) ∨ ((Itl K a').go i H ∧ ∃ N : St → Hp → Prop, (∀ σ' H', N σ' H' → ∃ m', m' < m ∧ W (i + 1) m' σ' H') ∧ ∀ x H', (Itl K a').yld i H x H' → g x σ H' fun σ2 H2 => tb ⟨N, rt, nx, N⟩ σ2 H2) :=
  ⟨a, rfl, ⟨xs, s⟩, for_list (D := ⟨nx, rt, fun _ _ => False, fun _ _ => False⟩) Pv h0 hl hs hd⟩
end
end Z

set_option Elab.async false
set_option linter.all false
set_option maxRecDepth 100000
namespace Z
open PySem L2
/-! ### kinds of things -/
inductive Kd where
  | non | bl | int | str | lst | tup | dct
def Kd.ty : Kd → Value
  | .non => .type "NoneType"
  | .bl => .type "bool"
  | .int => .type "int"
  | .str => .type "str"
  | .lst => .type "list"
  | .tup => .type "tuple"
  | .dct => .type "dict"
/-- isinstance's answers -/
def Kd.isInt : Kd → Bool | .int => true | .bl => true | _ => false
def Kd.isBool : Kd → Bool | .bl => true | _ => false
def Kd.isStr : Kd → Bool | .str => true | _ => false
def Kd.isList : Kd → Bool | .lst => true | _ => false
def Kd.isTuple : Kd → Bool | .tup => true | _ => false
inductive HasK (K : PySem.W.Frag) (H : Hp) : V → Kd → Prop where
  | non : HasK K H .non .non
  | bl (b : Bool) : HasK K H (.bl b) .bl
  | int (i : Int) : HasK K H (.int i) .int
  | str (z : Str) : HasK K H (.str z) .str
  | lst {a : Addr} {xs : List V} (s : SqL K H a xs) : HasK K H (.ref a) .lst
  | tup {a : Addr} {xs : List V} (s : SqT K H a xs) : HasK K H (.ref a) .tup
  | dct {a : Addr} {kvs : List (Key × V)} (e : H a = some (.dK kvs)) : HasK K H (.ref a) .dct
section
variable {K : PySem.W.Frag} {H H' : Hp} {x : V} {k : Kd} {Q : VK} {L : List En} {a p : Addr}
theorem HasK.tyx (h : HasK K H x k) : TyX K H x k.ty := by
  cases h with
  | non => exact .base .non
  | bl b => exact .base (.bl b)
  | int i => exact .base (.int i)
  | str z => exact .base (.str z)
  | lst s =>
    rcases s with (h | ⟨o, h⟩) | ⟨o, its, n, h1, h2, _⟩
    · exact .base (.lst h)
    · exact .base (.frz h)
    · exact .kList h1 h2
  | tup s =>
    rcases s with (h | ⟨o, h⟩) | h
    · exact .base (.tup h)
    · exact .fTuple h
    · obtain ⟨o, its, n, h1, h2, _⟩ := h
      exact .kTuple h1 h2
  | dct e => exact .base (.dK e)
theorem HasK.mono (h : HasK K H x k) (e : Same H H') : HasK K H' x k := by
  cases h with
  | non => exact .non
  | bl b => exact .bl b
  | int i => exact .int i
  | str z => exact .str z
  | lst s => exact .lst (e.seq s)
  | @tup b ys s =>
    have s' : SqT K H' b ys := by
      rcases s with (h | ⟨o, h⟩) | h
      · exact .inl (.inl (e _ _ h))
      · exact .inl (.inr
            ⟨o, e _ _ h⟩)
      · exact .inr h
    exact .tup s'
  | dct h => exact .dct (e _ _ h)
theorem kit_int : PySem.W.kitOne K k.ty (.type "int") = some k.isInt := by cases k <;> exact kit_ty (by decide +kernel)
theorem kit_bool : PySem.W.kitOne K k.ty (.type "bool") = some k.isBool := by cases k <;> exact kit_ty (by decide +kernel)
theorem kit_str : PySem.W.kitOne K k.ty (.type "str") = some k.isStr := by cases k <;> exact kit_ty (by decide +kernel)
theorem kit_list : PySem.W.kitOne K k.ty (.type "list") = some k.isList := by cases k <;> exact kit_ty (by decide +kernel)
theorem kit_tuple : PySem.W.kitOne K k.ty (.type "tuple") = some k.isTuple := by cases k <;> exact kit_ty (by decide +kernel)
theorem wIsiInt (h : HasK K H x k) (q : Q (.bl k.isInt) H) : rOrC (rIsi K) (rIsiT K) [x, .ty "int"] H Q := .inl ⟨x, _, _, _, _, rfl, .ty _, h.tyx, kit_int, q⟩
theorem wIsiBool (h : HasK K H x k) (q : Q (.bl k.isBool) H) : rOrC (rIsi K) (rIsiT K) [x, .ty "bool"] H Q := .inl ⟨x, _, _, _, _, rfl, .ty _, h.tyx, kit_bool, q⟩
theorem wIsiStr (h : HasK K H x k) (q : Q (.bl k.isStr) H) : rOrC (rIsi K) (rIsiT K) [x, .ty "str"] H Q := .inl ⟨x, _, _, _, _, rfl, .ty _, h.tyx, kit_str, q⟩
theorem wIsiList (h : HasK K H x k) (q : Q (.bl k.isList) H) : rOrC (rIsi K) (rIsiT K) [x, .ty "list"] H Q := .inl ⟨x, _, _, _, _, rfl, .ty _, h.tyx, kit_list, q⟩
theorem wIsiTuple (h : HasK K H x k) (q : Q (.bl k.isTuple) H) : rOrC (rIsi K) (rIsiT K) [x, .ty "tuple"] H Q := .inl ⟨x, _, _, _, _, rfl, .ty _, h.tyx, kit_tuple, q⟩
theorem wIsiLT (h : HasK K H x k) (F : Fx H L) (m : En.ob p (.tup [.ty "list", .ty "tuple"]) ∈ L) (q : Q (.bl (k.isList || k.isTuple)) H) : rOrC (rIsi K) (rIsiT K) [x, .ref p] H Q :=
  .inr ⟨x, p, _, _, _, _, rfl, F.get m, .cons (.ty _) (.cons (.ty _) .nil), h.tyx, kitAny_cons kit_list (fun e => by rw [e]; exact kitAny_cons kit_tuple (fun e => by rw [e]; exact kitAny_nil) (fun e => by rw [e]; rfl)) (fun e => by rw [e]; rfl), q⟩
/-- a whole number within bounds, by is_whole's own words -/
def inB (x : V) (lo hi : V) : Bool := match x with
  | .int i => (match lo with | .int l => decide (l ≤ i) | _ => true) && (match hi with | .int h => decide (i ≤ h) | _ => true)
  | _ => false
end
/-! ### a fact of the heap as an entry: a sequence of the script's kind -/
theorem seq_keep {K : PySem.W.Frag} {H : Hp} {a : Addr} {xs : List V} (s : SqL K H a xs) (L : List En) (F : Fx H L) (n : a ∉ L.flatMap En.fp) : ∃ L0 : List En, Fx H (L0 ++ L) ∧ ∀ H' L', Fx H' (L' ++ (L0 ++ L)) → SqL K H' a xs := by
  rcases s with (h | ⟨o, h⟩) | h
  · exact ⟨[.ob a (.lst xs)], F.add h n, fun H' L' F' => .inl (.inl (F'.get (List.mem_append_right _ (List.mem_append_left _ List.mem_cons_self))))⟩
  · exact ⟨[.ob a (.frz o (.lst xs))], F.add h n, fun H' L' F' => .inl (.inr ⟨o, F'.get (List.mem_append_right _ (List.mem_append_left _ List.mem_cons_self))⟩)⟩
  · exact ⟨[], F, fun H' L' F' => .inr h⟩
end Z
namespace Z
open PySem L2
theorem Fx.perm {H : Hp} {L L' : List En} (F : Fx H L) (p : L.Perm L') : Fx H L' := by
  refine ⟨fun e he => F.1 e (p.mem_iff.mpr he), ?_⟩
  have q : (L.flatMap En.fp).Perm (L'.flatMap En.fp) := by
    induction p with
    | nil => exact List.Perm.refl _
    | cons x _ ih =>
      rw [List.flatMap_cons, List.flatMap_cons]
      exact (ih ⟨fun e he => F.1 e (List.mem_cons_of_mem _ he), (List.nodup_append.mp (by have := F.2; rwa [List.flatMap_cons] at this)).2.1⟩).append_left _
    | swap x y l =>
      rw [List.flatMap_cons, List.flatMap_cons, List.flatMap_cons, List.flatMap_cons, ← List.append_assoc, ← List.append_assoc]
      exact List.perm_append_comm.append_right _
    | trans p1 p2 ih1 ih2 =>
      have q1 := ih1 F
      exact q1.trans (ih2 ⟨fun e he => F.1 e (p1.mem_iff.mpr he), q1.nodup_iff.mp F.2⟩)
  exact q.nodup_iff.mp F.2
/-- the draws' list, opened and shut again -/
theorem Fx.open {H : Hp} {L : List En} {l c : Addr} (F : Fx H L) (hm : En.hand l c ∈ L) : ∃ (ns : List Int) (i j t : Int) (L1 : List En), 0 ≤ i ∧ Fx H (.ob l (.lst [.ref c, .int i, .int j, .int t]) :: .ob c (.lst (ns.map V.int)) :: L1) ∧
    ∀ H' (ns' : List Int) (i' j' t' : Int), 0 ≤ i' → Fx H' (.ob l (.lst [.ref c, .int i', .int j', .int t']) :: .ob c (.lst (ns'.map V.int)) :: L1) → Fx H' L := by
  obtain ⟨ns, i, j, t, h0, h1, h2⟩ := F.gh hm
  obtain ⟨A, B, rfl⟩ := List.append_of_mem hm
  have G := F.perm List.perm_middle
  refine ⟨ns, i, j, t, A ++ B, h0, ⟨fun e he => ?_, G.2⟩, fun H' ns' i' j' t' h0' G' => ?_⟩
  · rcases List.mem_cons.mp he with e1 | he
    · subst e1; exact h1
    · rcases List.mem_cons.mp he with e1 | he
      · subst e1; exact h2
      · exact G.1 e (List.mem_cons_of_mem _ he)
  · have G2 : Fx H' (.hand l c :: (A ++ B)) := by
      refine ⟨fun e he => ?_, G'.2⟩
      rcases List.mem_cons.mp he with e1 | he
      · subst e1
        exact ⟨ns', i', j', t', h0', G'.get List.mem_cons_self, G'.get (List.mem_cons_of_mem _ List.mem_cons_self)⟩
      · exact G'.1 e (List.mem_cons_of_mem _ (List.mem_cons_of_mem _ he))
    exact G2.perm List.perm_middle.symm
/-- the draws' list, opened and shut again -/
theorem Fx.open5 {H : Hp} {L : List En} {l c : Addr} (F : Fx H L) (hm : En.hand5 l c ∈ L) : ∃ (ns : List Int) (i j t u : Int) (L1 : List En), 0 ≤ i ∧ Fx H (.ob l (.lst [.ref c, .int i, .int j, .int t, .int u]) :: .ob c (.lst (ns.map V.int)) :: L1) ∧
    ∀ H' (ns' : List Int) (i' j' t' u' : Int), 0 ≤ i' → Fx H' (.ob l (.lst [.ref c, .int i', .int j', .int t', .int u']) :: .ob c (.lst (ns'.map V.int)) :: L1) → Fx H' L := by
  obtain ⟨ns, i, j, t, u, h0, h1, h2⟩ : HandAt5 H l c := F.1 _ hm
  obtain ⟨A, B, rfl⟩ := List.append_of_mem hm
  have G := F.perm List.perm_middle
  refine ⟨ns, i, j, t, u, A ++ B, h0, ⟨fun e he => ?_, G.2⟩, fun H' ns' i' j' t' u' h0' G' => ?_⟩
  · rcases List.mem_cons.mp he with e1 | he
    · subst e1; exact h1
    · rcases List.mem_cons.mp he with e1 | he
      · subst e1; exact h2
      · exact G.1 e (List.mem_cons_of_mem _ he)
  · have G2 : Fx H' (.hand5 l c :: (A ++ B)) := by
      refine ⟨fun e he => ?_, G'.2⟩
      rcases List.mem_cons.mp he with e1 | he
      · subst e1
        exact ⟨ns', i', j', t', u', h0', G'.get List.mem_cons_self, G'.get (List.mem_cons_of_mem _ List.mem_cons_self)⟩
      · exact G'.1 e (List.mem_cons_of_mem _ (List.mem_cons_of_mem _ he))
    exact G2.perm List.perm_middle.symm
theorem at_ints {ns : List Int} {i : Nat} (h : i < ns.length) : atI (ns.map V.int) (i : Int) = some (V.int (ns.getD i 0)) := by
  have e : (ns.map V.int)[i]? = some (V.int (ns.getD i 0)) := by
    rw [List.getElem?_map, List.getElem?_eq_getElem h,
          List.getD_eq_getElem?_getD, List.getElem?_eq_getElem h]
    rfl
  exact at_of rfl e

theorem ixN_of {n : Nat} {k : Int} (h0 : 0 ≤ k) (h1 : k < n) : ixN n k = some k.toNat := by
  unfold ixN
  rw [if_pos h0, if_pos h1]
theorem at_intsI {ns : List Int} {k : Int} (h0 : 0 ≤ k) (h1 : k < ns.length) : atI (ns.map V.int) k = some (V.int (ns.getD k.toNat 0)) := by
  have e : k = ((k.toNat : Nat) : Int) := (Int.toNat_of_nonneg h0).symm
  have h2 : k.toNat < ns.length := by omega
  have q := at_ints (ns := ns) h2
  rw [← e] at q
  exact q
section
variable {K : PySem.W.Frag} {H : Hp} {Q : VK} {L : List En} {a : Addr} {ns : List Int} {k : Int} {xs : List V}
theorem wIxLi (s : SqL K H a (ns.map V.int)) (h0 : 0 ≤ k) (h1 : k < ns.length) (h : Q (.int (ns.getD k.toNat 0)) H) : rIx K (.ref a) (.int k) H Q := wIxL s (at_intsI h0 h1) h
theorem wIxTi (s : SqT K H a (ns.map V.int)) (h0 : 0 ≤ k) (h1 : k < ns.length) (h : Q (.int (ns.getD k.toNat 0)) H) : rIx K (.ref a) (.int k) H Q := wIxT s (at_intsI h0 h1) h
theorem wLenLi (s : SqL K H a (ns.map V.int)) (h : Q (.int ns.length) H) : rLen K [.ref a] H Q := by
  have := wLenL (Q := Q) s
  rw [List.length_map] at this
  exact this h
theorem wLenTi (s : SqT K H a (ns.map V.int)) (h : Q (.int ns.length) H) : rLen K [.ref a] H Q := by
  have := wLenT (Q := Q) s
  rw [List.length_map] at this
  exact this h
end

theorem log_small {m : Int} (h0 : 0 ≤ m) (h1 : m < 1000000000000) : m.natAbs.log2 < 9000 := by
  have h2 : m.natAbs < 2 ^ 40 := by omega
  exact Nat.lt_of_lt_of_le (PySem.Flt.log2_lt_of (by decide) h2) (by decide)

theorem int_of_map {ns : List Int} {i : Nat} {x : V} (h : (ns.map V.int)[i]? = some x) : ∃ z, x = V.int z := by
  rw [List.getElem?_map] at h
  cases e : ns[i]? with
  | none => rw [e]
        at h; cases h
  | some z => rw [e] at h; exact ⟨z, (Option.some.inj h).symm⟩
theorem int_of_map' {ns : List Int} {i : Nat} {x : V} (h : (ns.map V.int)[i]? = some x) : ∃ z, x = V.int z ∧ ns[i]? = some z := by
  rw [List.getElem?_map] at h
  cases e : ns[i]? with
  | none => rw [e]
        at h; cases h
  | some z => rw [e] at h; exact ⟨z, (Option.some.inj h).symm, rfl⟩
theorem line_big : 1000000 ≤ sizeLine := by rw [sizeLine_eq]; decide
end Z

set_option Elab.async false
set_option linter.all false
set_option maxRecDepth 100000
set_option maxHeartbeats 2000500
namespace Z
open PySem L2 PySem.W
/-! ### == and != of an instance by its class's own __eq__ -/
section
variable {prog : Program} {w : World} {A : Around} {E : Value → Shared → Prop} {s : Shared} {K : Frag} {x C L f : Addr} {h₀ : Heap} {m : Str → Option Value} {ox : Obj} {od : Option Obj} {b tb : Value}
theorem ifBound_ne {args : List Value} {Q : Option Value → Shared → Prop} (X : K.In s.heap) (I : InstAt s.heap x ox C od) (hs : findIn K (.ref C) "__ne__" = some (some (.builtin "object.__ne__")))
    (h : wpAny (model prog w) A (call (.builtin "object.__ne__") (.ref x :: args)) (fun v => Q (some v)) E s) : wpAny (model prog w) A (callSpecialIfBound? (.ref x) "__ne__" args) Q E s := by
  simp only [callSpecialIfBound?,
        bindSpecialIfBound?]
  refine wpAny_holding (wpAny_bind (wpAny_bind (wpAny_bind
        (I.type.here ((looks_findIn X hs).here ?_)))))
  refine wpAny_bind
        (wpAny_askSetting (wpAny_ite ?_))
  have fin : wpAny (model prog w) A (call (.builtin "object.__ne__") ([.ref x] ++ args) >>= fun v => pure (some v)) Q E s := wpAny_bind (wpAny_mono h (fun v s' h' => wpAny_pure h') fun _ _ h' => h')
  have S := F.cmp_object.ne
  split
  · simp only [S.bind]
    exact wpAny_bind (wpAny_pure (wpAny_pure (by exact fin)))
  · simp only [S.bind]
    exact wpAny_tryCatch (wpAny_bind (wpAny_pure (wpAny_pure (by exact fin))))

theorem cmp_one {op : CmpOp} {Q : Value → Shared → Prop} (hu : A.units < cLine) (X : K.In s.heap) (I : InstAt s.heap x ox C od) (hb : Looks (model prog w) s.heap (typeOf b) tb) (hn : notFirst K C tb = true)
    (one : wpAny (model prog w) A (tryCompare (.ref x) (cmpInfo op).2.1 b) (fun r s' => ∃ v, r = some v ∧ Q v s') E s) : wpAny (model prog w) A (richCompare op (.ref x) b) Q E s := by
  unfold richCompare
  simp only [oneThing_ref]
  refine wpAny_holding (wpAny_bind
        (wpAny_cRoomFor hu ?_))
  refine wpAny_bind (I.type.here
        (wpAny_bind (hb.here ?_)))
  split
  · rename_i q
    have e : subIn K tb (.ref
          C) = some false := by
      rcases Bool.or_eq_true_iff.mp
            hn with e | e
      · rw [beq_iff_eq.mp
            e] at q; simp at q
      · exact beq_iff_eq.mp e
    refine wpAny_bind
          ((looks_subIn X e).here ?_)
    simp only [Bool.false_eq_true,
          if_false]
    refine wpAny_bind (wpAny_mono one
          (fun r s' z => ?_) fun _ _ e => e)
    obtain ⟨v, rfl, hq⟩ := z
    exact wpAny_pure hq
  · refine wpAny_bind
        (wpAny_pure ?_)
    simp only [Bool.false_eq_true,
          if_false]
    refine wpAny_bind (wpAny_mono one
          (fun r s' z => ?_) fun _ _ e => e)
    obtain ⟨v, rfl, hq⟩ := z
    exact wpAny_pure hq
theorem ne_entry {Q : Fin → Shared → Prop} (hu : A.units < cLine) (X : K.In s.heap) (I : InstAt s.heap x ox C od) (hs : findIn K (.ref C) "__eq__" = some (some (.ref f))) (hf : isFn K (.ref f) = true)
    (h : wpAny (model prog w) A (call (.ref f) [.ref x, b]) (fun v s' => ∃ r : Bool, v = .bool r ∧ Q (.done (.ret (.bool (!r)))) s') E s) : wpAny (model prog w) A (Builtin.«object.__ne__» ⟨[.ref x, b], []⟩) Q E s := by
  have key : wpAny (model prog w) A (callSpecialIfBound? (.ref x) "__eq__" [b]) (fun o s' => ∃ r : Bool, o = some (.bool r) ∧ Q (.done (.ret (.bool (!r)))) s') E s := by
    refine ifBound_K X I hs hf (wpAny_mono h (fun v s' hv => ?_) fun _ _ e => e)
    obtain ⟨r, rfl, q⟩ := hv
    exact ⟨r, rfl, q⟩
  unfold
        Builtin.«object.__ne__»
  show wpAny (model prog w) A (cRoomFor "comparison" [.ref x, b] >>= _) Q E s
  refine wpAny_bind
        (wpAny_cRoomFor hu ?_)
  refine wpAny_bind (wpAny_mono key (fun o s' z => ?_) fun _ _ e => e)
  obtain ⟨r, rfl, q⟩ := z
  show wpAny (model prog w) A (truthy (.bool r) >>= _) Q E s'
  exact wpAny_bind (wpAny_truthy_bool (wpAny_pure q))
theorem cmp_Kne {Q : Value → Shared → Prop} (hu : A.units + 1 < cLine) (X : K.In s.heap) (I : InstAt s.heap x ox C od) (hb : Looks (model prog w) s.heap (typeOf b) tb) (hn : notFirst K C tb = true)
    (hne : findIn K (.ref C) "__ne__" = some (some (.builtin "object.__ne__"))) (hs : findIn K (.ref C) "__eq__" = some (some (.ref f))) (hf : isFn K (.ref f) = true) (hm : mroIn K C (.type "object") = some true)
    (h : wpAny (model prog w) A.in1 (call (.ref f) [.ref x, b]) (fun v s' => ∃ r : Bool, v = .bool r ∧ Q (.bool (!r)) s') E s) : wpAny (model prog w) A (richCompare .NotEq (.ref x) b) Q E s := by
  refine cmp_one (Nat.lt_of_succ_lt hu) X I hb hn ?_
  show wpAny (model prog w) A (tryCompare (.ref x) "__ne__" b) _ E s
  unfold tryCompare
  have sub : Looks (model prog w) s.heap (isInstance (.ref x) (.type "object")) true := I.type.andThen (looks_mroIn X hm)
  refine wpAny_bind (ifBound_ne X I hne (wpAny_call (codeAny_call_builtin F.cmp_object.ne.plain F.cmpEntry_ne (@check_slot (model prog w) _ _ s "object.__ne__" "object" "__ne__" (.ref x) [b] [] _ F.cmpKind_ne F.cmpSplit_ne sub (F.cmpArgs_ne _ _) ?_))))
  refine ne_entry (A := A.in1) hu X I hs hf (wpAny_mono h (fun v s' z => ?_) fun _ _ e => e)
  obtain ⟨r, rfl, q⟩ := z
  exact ⟨r, rfl, wpAny_pure ⟨_, rfl, q⟩⟩
end

structure OwnEqF (K : PySem.W.Frag) (C f : Addr) : Prop where
  eq : PySem.W.findIn K (.ref C) "__eq__" = some (some (.ref f))
  ne : PySem.W.findIn K (.ref C) "__ne__" = some (some (.builtin "object.__ne__"))
  fn : PySem.W.isFn
        K (.ref f) = true
  ob : PySem.W.mroIn K C (.type "object") = some true
def rOwn (K : PySem.W.Frag) (C : Addr) (sp : Sp) (g : Bool → Bool) : R2 := fun x y H Q => ∃ a dx fs tb, x = .ref a ∧ H a = some (.ins C dx fs) ∧ TyX K H y tb ∧ PySem.W.notFirst K C tb = true ∧ sp [x, y] H (fun v H' => ∃ b, v = .bl b ∧ Q (.bl (g b)) H') E0
section
variable {X : Cx} {k : Nat} {C f : Addr} {fd : FuncData} {ps : List Str} {sp : Sp}
theorem own_call {A : Around} {pins : List (Addr × Obj)} {σ : St} {H : Hp} {s : Shared} {Q : VK} {x y : V} {u v : Value} (F : FnOk X.prog X.w X.K X.mg X.base CX0 k f fd ps sp) (hb : Binds X.K fd ps []) (hr : Room k A) (hf : A.frames = X.A.frames)
    (I : L2.Inv X pins σ H s) (rx : RelV x u) (ry : RelV y v) (h : sp [x, y] H Q E0) : wpAny (model X.prog X.w) A (call (.ref f) [u, v]) (EP X pins σ Q) X.xe s := by
  have e0 : Env0 X.prog X.w X.K
        X.mg X.base A X.stack s H := by
    have e := I.env0
    exact ⟨by rw [hf]; exact e.frames, e.mod, e.bs, e.bsz, e.funs, e.frf, e.hok, e.bare⟩
  have hl := F.len _ _ _ _ h
  have r2 : Vals [x, y] [u, v] := .cons rx (.cons ry .nil)
  refine wpAny_call (codeAny_mono (F.run A X.stack s H ⟨[u, v], []⟩ [u, v] [x, y] _ E0 hr e0 (by
    have := hb s [u, v] I.kIn (by simpa using hl)
    simpa using this) r2 h) fun r s' hq => ?_)
  cases r with
  | error e => exact
        False.elim hq
  | ok fl =>
    cases fl with
    | ret w => exact I.after hq
    | next => exact False.elim hq
    | brk => exact False.elim hq
    | cont => exact False.elim hq
theorem op_eqOwn (F : FnOk X.prog X.w X.K X.mg X.base CX0 k f fd ps sp) (q : OwnEqF X.K C f) (hb : Binds X.K fd ps []) (hr : Room k X.A) : OpR X (compareOp .Eq) (rOwn X.K C sp id) := by
  intro pins s σ H x
        y v u Q I rx ry h
  obtain ⟨a, dx, fs, tb, rfl, ha, ty, nf, hsp⟩ := h
  cases rx
  obtain ⟨mA, J, _⟩
        := ins_get I.hok ha
  obtain ⟨od, J, _⟩ := J.look
  obtain ⟨P, Z, p, _⟩ := kit_of I ry ty
  show wpAny (model X.prog X.w) X.A (richCompare .Eq (.ref a) u) (EP X pins σ Q) X.xe s
  refine cmp_one hr.units0 I.kIn J (Z.ty _ _ I.kIn p) nf ?_
  show wpAny (model X.prog X.w) X.A (tryCompare (.ref a) "__eq__" u) _ X.xe s
  unfold tryCompare
  refine wpAny_bind (PySem.W.ifBound_K I.kIn J q.eq q.fn (wpAny_mono (own_call F hb hr rfl I (show RelV (V.ref a) (Value.ref a) from rfl) ry hsp) (fun v s' z => ?_) fun _ _ e => e))
  obtain ⟨v', H', I', rv, b, eb, hq⟩ := z
  subst eb
  cases rv
  exact wpAny_pure ⟨_, rfl, .bl b, H', I', rfl, hq⟩
theorem op_neOwn (F : FnOk X.prog X.w X.K X.mg X.base CX0 k f fd ps sp) (q : OwnEqF X.K C f) (hb : Binds X.K fd ps []) (hr : Room (k + 1) X.A) : OpR X (compareOp .NotEq) (rOwn X.K C sp not) := by
  intro pins s σ H x
        y v u Q I rx ry h
  obtain ⟨a, dx, fs, tb, rfl, ha, ty, nf, hsp⟩ := h
  cases rx
  obtain ⟨mA, J, _⟩
        := ins_get I.hok ha
  obtain ⟨od, J, _⟩ := J.look
  obtain ⟨P, Z, p, _⟩ := kit_of I ry ty
  show wpAny (model X.prog X.w) X.A (richCompare .NotEq (.ref a) u) (EP X pins σ Q) X.xe s
  refine cmp_Kne (by have := hr.units; omega) I.kIn J (Z.ty _ _ I.kIn p) nf q.ne q.eq q.fn q.ob (wpAny_mono (own_call F hb hr.in1 rfl I (show RelV (V.ref a) (Value.ref a) from rfl) ry hsp) (fun v s' z => ?_) fun _ _ e => e)
  obtain ⟨v', H', I', rv, b, eb, hq⟩ := z
  subst eb
  cases rv
  exact ⟨b, rfl, .bl (!b), H', I', rfl, hq⟩
end
end Z

set_option Elab.async false
set_option linter.all false
set_option maxRecDepth 100000
set_option maxHeartbeats 2000500
namespace Z
open PySem L2
/-! ### errors -/
/-- what the written part says of an error class: it is raised, caught by its own name -/
structure ErrF (K : PySem.W.Frag) (C : Addr) : Prop where
  oex : OexC K C
  xf : XfC K C
  me : PySem.W.exmOne K (.ref C) (.ref C) = some true
/-- its __init__ at fI -/
structure ErrI (K : PySem.W.Frag) (C fI : Addr) : Prop where
  iC : PySem.W.findIn K (.ref C) "__init__" = some (some (.ref fI))
  tI : PySem.W.typeIn K (.ref fI) = some (.type "function")
section
variable {X : Cx} {CX : CXT} {C fI : Addr} {k : Nat} {fd : FuncData} {ps : List Str} {sp : Sp} {ta : TA} {x : Str} {e : Expr} {es : List Expr} {p pos : Pos}
theorem pmk_err (T : ErrF X.K C) (iC : ErrI X.K C fI) (F1 : FnOk X.prog X.w X.K X.mg X.base CX0 k fI fd ps sp) (hb : Binds X.K fd ps []) (hr : Room (k + 1) X.A) (hm : X.mg x = some (.ref C)) (hg : Gl X x) (ha : PA X (e :: es) ta)
    (hdb : (x == ("__debug__" : Str)) = false := by decide) (he : starEach (e :: es) X.env = (false, eval e
          X.env) :: starEach es X.env := by rfl) (hpl : (backTo pos (starEach es X.env)).any (·.1) = false := by rfl) :
    PMk X (.Call (.Name x p) (e :: es) [] pos) (tMkO C sp [] ta) :=
  pmk_oex (dvs := []) (ds := []) T.oex iC.iC iC.tI F1 hr hb .nil (fun _ _ _ _ _ _ _ h => h.elim) hg hm ha hdb he hpl
end
/-- an __init__ that keeps one thing under one name -/
def spErr1 (K : PySem.W.Frag) (f : Str) : Sp := Sp2 fun a b H Q E => ∃ (q C : Addr), a = .ref q ∧ OexC K C ∧ PySem.W.findIn K (.ref C) f = some none ∧ H q = some (exo q C none) ∧
  ∀ d, H d = none → d ≠ q → Q .non (upd (upd H d (exd d [(f, b)])) q (exo q C (some d)))
def spErr2 (K : PySem.W.Frag) (f g : Str) : Sp := Sp3 fun a b c H Q E => ∃ (q C : Addr), a = .ref q ∧ OexC K C ∧ PySem.W.findIn K (.ref C) f = some none ∧ PySem.W.findIn K (.ref C) g = some none ∧ H q = some (exo q C none) ∧
  ∀ d, H d = none → d ≠ q → Q .non (upd (upd (upd H d (exd d [(f, b)])) q (exo q C (some d))) d (exd d [(g, c), (f, b)]))
theorem exd_ne {q C d : Addr} {o : Option Addr} {fs : List (Str × V)} : exo q C o ≠ exo q C o → False := fun h => h rfl
section
variable {K : PySem.W.Frag} {H H' : Hp} {L : List En} {C : Addr} {E : XK} {EK : XK} {ts : TA} {f g : Str} {v w : V}
/-- the heap behind an error's making -/
theorem Fx.made {a d : Addr} {o : HO} {H2 : Hp} (F : Fx H L) (ha : H a = none) (hd : H d = none) (k : ∀ b, b ≠ a → b ≠ d → H2 b = H b) : Fx (upd (del H2 a) d o) (.ob d o :: L) := by
  have F1 : Fx (upd (del H2 a) d o) L := F.same fun b u q => by
    have nb := ne_of_none q hd
    have na := ne_of_none q ha
    rw [upd_ne nb, del_ne na, k b na nb]
    exact q
  refine F1.add upd_same fun h => ?_
  obtain ⟨e, he, hm⟩ := List.mem_flatMap.mp h
  obtain ⟨o, q⟩ := En.there (F.1 e he) hm
  rw [hd] at q
  cases q
theorem wMk1 (T : OexC K C) (n : PySem.W.findIn K (.ref C) f = some none) (F : Fx H L) (k : ∀ d H', Fx H' (.ob d (.xd [(f, v)]) :: L) → EK (.ref C) (some d) H') :
    [v].length ≤ 1000 ∧ ∀ a, H a = none → spErr1 K f (.ref a :: ([v] ++ [])) (upd H a (exo a C none))
  (fun v H2 => v = .non ∧ ∃ (d : Addr) (fs : List (Str × V)), H2 a = some (exo a C (some d)) ∧ H2 d = some (exd d fs) ∧ H d = none ∧ EK (.ref C) (some d) (upd (del H2 a) d (.xd fs))) (fun _ _ _ => False) := by
  refine ⟨Nat.le_of_ble_eq_true rfl, fun a ha => ⟨_, _, rfl, a, C, rfl, T, n, upd_same, fun d hd hn => ⟨rfl, d, _, upd_same, ?_, ?_, k d _ (F.made ha ?_ fun b h1 h2 => ?_)⟩⟩⟩
  · rw [upd_ne hn, upd_same]
  · rw [upd_ne hn] at hd; exact hd
  · rw [upd_ne hn] at hd; exact hd
  · rw [upd_ne h1, upd_ne h2, upd_ne h1]
theorem wMk2 (T : OexC K C) (n : PySem.W.findIn K (.ref C) f = some none) (n' : PySem.W.findIn K (.ref C) g = some none) (F : Fx H L) (k : ∀ d H', Fx H' (.ob d (.xd [(g, w), (f, v)]) :: L) → EK (.ref C) (some d) H') :
    [v, w].length ≤ 1000 ∧ ∀ a, H a = none → spErr2 K f g (.ref a :: ([v, w] ++ [])) (upd H a (exo a C none))
  (fun v H2 => v = .non ∧ ∃ (d : Addr) (fs : List (Str × V)), H2 a = some (exo a C (some d)) ∧ H2 d = some (exd d fs) ∧ H d = none ∧ EK (.ref C) (some d) (upd (del H2 a) d (.xd fs))) (fun _ _ _ => False) := by
  refine ⟨Nat.le_of_ble_eq_true rfl, fun a ha => ⟨_, _, _, rfl, a, C, rfl, T, n, n', upd_same, fun d hd hn => ⟨rfl, d, _, ?_, upd_same, ?_, k d _ (F.made ha ?_ fun b h1 h2 => ?_)⟩⟩⟩
  · rw [upd_ne (Ne.symm hn), upd_same]
  · rw [upd_ne hn] at hd; exact hd
  · rw [upd_ne hn] at hd; exact hd
  · rw [upd_ne h2, upd_ne h1, upd_ne h2, upd_ne h1]
end
theorem owns {X : Cx} {K : Value → Shared → Prop} {E₁ : Value → Shared → Prop} (hx : X.xe = fun e s' => wpAny (model X.prog X.w) X.A (leaving X.env e) (fun _ s'' => K e s'') E₁ s') : PassesOwn (model X.prog X.w) X.A X.env X.xe := passes_of hx
/-! ### an instance is made in a try -/
section
variable {X : Cx} {CX : CXT} {k : Nat} {f C : Addr} {fd : FuncData} {ps : List Str} {ds : List Value} {dvs : List V} {sp : Sp} {E : St → XK} {x : Str} {p pos : Pos} {e : Expr} {es : List Expr} {t : TA}
def tMakeS (C : Addr) (sp : Sp) (dvs : List V) (E : St → XK) (t : TA) : TE := fun σ H Q => t σ H fun vs H1 => ∀ x dx, H1 x = none → H1 dx = none → dx ≠ x →
  sp (.ref x :: (vs ++ dvs)) (upd (upd H1 dx (.own x)) x (.ins C dx [])) (fun v H2 => v = .non ∧ Q (.ref x) H2) (E σ)
theorem run_makeS {pins : List (Addr × Obj)} {σ : St} {H : Hp} {s : Shared} {Q : VK} {us : List Value} {vs : List V} (M : Mk X.K C f) (F : FnOk X.prog X.w X.K X.mg X.base CX k f fd ps sp) (hr : Room (k + 1) X.A) (hb : Binds X.K fd ps ds) (hd : Vals dvs ds)
    (hx : PassesAt CX X σ (E σ)) (I : L2.Inv X pins σ H s) (r : Vals vs us)
    (h : ∀ x dx, H x = none → H dx = none → dx ≠ x → sp (.ref x :: (vs ++ dvs)) (upd (upd H dx (.own x)) x (.ins C dx [])) (fun v H2 => v = .non ∧ Q (.ref x) H2) (E σ)) :
    wpAny (model X.prog X.w) X.A (call (.ref
          C) us) (EP X pins σ Q) X.xe s := by
  have hq := h (s.heap.objs.size + 1) s.heap.objs.size (I.hok.fresh (Nat.le_succ
        _)) (I.hok.fresh (Nat.le_refl _)) (Nat.ne_of_lt (Nat.lt_succ_self _))
  have I2 := Inv.made
        (C := C) I
  have r2 : Vals (V.ref (s.heap.objs.size + 1) :: (vs ++ dvs)) (Value.ref
        (s.heap.objs.size + 1) :: (us ++ ds)) := .cons rfl (r.append hd)
  have hl : (Value.ref (s.heap.objs.size +
        1) :: us ++ ds).length = ps.length := by
    have e := r2.length
    rw [F.len _ _ _ _ hq] at e
    exact e.symm
  refine wpAny_call (make_map (f := f) I.kIn M.makes M.init (beq_iff_eq.mp M.fn) (codeAny_mono (F.run _ X.stack _ _ ⟨Value.ref (s.heap.objs.size + 1) :: us, []⟩ (Value.ref (s.heap.objs.size + 1) :: (us ++ ds)) _ _ (E σ) (hr.make C us [])
    (I2.env0.make C us []) (hb _ (Value.ref (s.heap.objs.size
          + 1) :: us) I2.kIn hl) r2 hq) fun r s' hq' => ?_))
  cases r with
  | error e => exact hx pins _ _ e s' I2 hq'
  | ok fl =>
    cases fl with
    | ret u =>
      obtain ⟨v, H', I3, rv,
            ev, q3⟩ := I2.after hq'
      subst ev
      exact ⟨rv, ⟨V.ref (s.heap.objs.size
            + 1), H', I3, rfl, q3⟩⟩
    | next => exact
          False.elim hq'
    | brk => exact False.elim hq'
    | cont => exact
          False.elim hq'
theorem pe_makeS (M : Mk X.K C f) (F : FnOk X.prog X.w X.K X.mg X.base CX k f fd ps sp) (hr : Room (k + 1) X.A) (hg : Gl X x) (hm : X.mg x = some (.ref C)) (hb : Binds X.K fd ps ds) (hd : Vals dvs ds) (hx : ∀ σ, PassesAt CX X σ (E σ))
    (ha : PA X (e :: es) t) (hdb : (x == ("__debug__" : Str)) = false := by decide) (he : starEach (e :: es) X.env = (false,
          eval e X.env) :: starEach es X.env := by rfl) (hpl : (backTo pos (starEach es X.env)).any (·.1) = false := by rfl) :
    PE X (.Call (.Name x p) (e :: es) [] pos) (tMakeS C sp dvs E t) := by
  refine ⟨fun pins
        s σ H Q I h => ?_⟩
  refine wpAny_Call_Name_kw
        (ld_glob I hg hm ?_ hdb)
  refine PySem.W.callWith_K (h₀ := X.base) I.ok.mod.kin M.kp (thn (ha.run
        pos pins s σ H _ I h) fun us s1 ⟨vs, H1, I1, r, q⟩ => ⟨I1.kIn, ?_⟩) he hpl
  exact run_makeS M F hr hb hd (hx σ) I1 r q
end
/-- the new instance and its dict, as entries -/
theorem Fx.inst {H : Hp} {L : List En} {C x dx : Addr} (F : Fx H L) (hx : H x = none) (hd : H dx = none) (ne : dx ≠ x) : Fx (upd (upd H dx (.own x)) x (.ins C dx [])) (.ob x (.ins C dx []) :: .ob dx (.own x) :: L) := by
  have F1 := F.new (o := .own x) hd
  exact F1.new (by rw [upd_ne (Ne.symm ne)]; exact hx)
theorem wMake {sp : Sp} {C : Addr} {dvs : List V} {E : XK} {t : TA} {σ : St} {H : Hp} {Q : VK} (h : t σ H fun vs H1 => ∀ x dx, H1 x = none → H1 dx = none → dx ≠ x →
  sp (.ref x :: (vs ++ dvs)) (upd (upd H1 dx (.own x)) x (.ins C dx [])) (fun v H2 => v = .non ∧ Q (.ref x) H2) E) : tMake C sp dvs E t σ H Q := h
theorem wMakeS {sp : Sp} {C : Addr} {dvs : List V} {E : St → XK} {t : TA} {σ : St} {H : Hp} {Q : VK} (h : t σ H fun vs H1 => ∀ x dx, H1 x = none → H1 dx = none → dx ≠ x →
  sp (.ref x :: (vs ++ dvs)) (upd (upd H1 dx (.own x)) x (.ins C dx [])) (fun v H2 => v = .non ∧ Q (.ref x) H2) (E σ)) : tMakeS C sp dvs E t σ H Q := h
/-- o.f and self.f = v of an instance -/
theorem wFld {K : PySem.W.Frag} {ta : TE} {f : Str} {σ : St} {H : Hp} {Q : VK} (h : ta σ H fun x H1 => ∃ a C dx fs v, x = .ref a ∧ H1 a = some (.ins C dx fs) ∧ Cls K C ∧ NoAttr K C f ∧ fs.lookup f = some v ∧ Q v H1) : tFld K ta f σ H Q := h
theorem wFldAt {K : PySem.W.Frag} {f : Str} {H : Hp} {L : List En} {a C dx : Addr} {fs : List (Str × V)} {v : V} {QP : V → Prop} (F : Fx H L) (m : En.ob a (.ins C dx fs) ∈ L) (c : Cls K C) (n : NoAttr K C f) (e : fs.lookup f = some v) (h : QP v) :
    ∃ a' C dx fs v, V.ref a = .ref a' ∧ H a' = some (.ins C dx fs) ∧ Cls K C ∧ NoAttr K C f ∧ fs.lookup f = some v ∧ QP v := ⟨a, C, dx, fs, v, rfl, F.get m, c, n, e, h⟩

def StoreF (K : PySem.W.Frag) (f : Str) (x y : V) (H : Hp) (N : Hp → Prop) : Prop := ∃ a C dx fs, x = .ref a ∧ H a = some (.ins C dx fs) ∧ Cls K C ∧ NoAttr K C f ∧ fs.length < 1000 ∧ N (upd H a (.ins C dx (putF f y fs)))
theorem wSFld {K : PySem.W.Frag} {ta tv : TE} {f : Str} {σ : St} {H : Hp} {nx bk ct : St → Hp → Prop} {rt : VK} (h : tv σ H fun y H1 => ta σ H1 fun x H2 => StoreF K f x y H2 (fun H3 => nx σ H3)) : sFld K ta tv f ⟨nx, rt, bk, ct⟩ σ H := h
theorem wStoreF {K : PySem.W.Frag} {f : Str} {y : V} {H : Hp} {N : Hp → Prop} {L L' : List En} {a C dx : Addr} {fs : List (Str × V)} (F : Fx H L) (m : En.ob a (.ins C dx fs) ∈ L) (c : Cls K C) (n : NoAttr K C f) (l : fs.length < 1000) (pt : Put a (.ins C dx (putF f y fs)) L L') (k : ∀ H', Fx H' L' → N H') : StoreF K f (.ref a) y H N :=
  ⟨a, C, dx, fs, rfl, F.get m, c, n, l, k _ (F.put pt)⟩
/-- self.f = v in an error's __init__ -/
theorem init1_run {K : PySem.W.Frag} {f : Str} {a b : V} {H : Hp} {Q : VK} {rt : VK} {bk ct : St → Hp → Prop} (h : ∃ (q C : Addr), a = .ref q ∧ OexC K C ∧ PySem.W.findIn K (.ref C) f = some none ∧ H q = some (exo q C none) ∧
  ∀ d, H d = none → d ≠ q → Q .non (upd (upd H d (exd d [(f, b)])) q (exo q C (some d)))) : tOst K f (tVar 0) (tVar 1) ⟨fun _ H' => Q .non H', rt, bk, ct⟩ [some a, some b] H := by
  obtain ⟨q, C, rfl, T, n, hq, k⟩ := h
  exact ⟨_, rfl, _, rfl, q, C, rfl, T, n, .inl ⟨hq, fun dx hd ne => k dx hd ne⟩⟩
theorem init2_run {K : PySem.W.Frag} {f g : Str} {a b c : V} {H : Hp} {Q : VK} {rt : VK} {bk ct : St → Hp → Prop} (h : ∃ (q C : Addr), a = .ref q ∧ OexC K C ∧ PySem.W.findIn K (.ref C) f = some none ∧ PySem.W.findIn K (.ref C) g = some none ∧ H q = some (exo q C none) ∧
  ∀ d, H d = none → d ≠ q → Q .non (upd (upd (upd H d (exd d [(f, b)])) q (exo q C (some d))) d (exd d [(g, c), (f, b)]))) : tSeq (tOst K f (tVar 0) (tVar 1)) (tOst K g (tVar 0) (tVar 2)) ⟨fun _ H' => Q .non H', rt, bk, ct⟩ [some a, some b, some c] H := by
  obtain ⟨q, C, rfl, T, n, n', hq, k⟩ := h
  exact ⟨_, rfl, _, rfl, q, C, rfl, T, n, .inl ⟨hq, fun dx hd ne => ⟨_, rfl, _, rfl, q, C, rfl, T, n', .inr ⟨dx, _, upd_same, by rw [upd_ne ne, upd_same], Nat.le_of_ble_eq_true rfl, k dx hd ne⟩⟩⟩⟩
end Z

set_option Elab.async false
set_option linter.all false
set_option maxRecDepth 100000
set_option maxHeartbeats 2000500
namespace Z
open PySem L2
section
variable (CX : CXT) (P : Program) (w : World) (K : PySem.W.Frag) (mg : Str → Option Value) (base : Heap)
def ErrO (C : Addr) (k : Nat) (ps : List Str) (sp : Sp) : Prop := ∃ (f : Addr) (fd : FuncData), ErrI K C f ∧ Binds K fd ps [] ∧ FnOk P w K mg base CX0 k f fd ps sp
def MkO (C : Addr) (k : Nat) (ps : List Str) (dvs : List V) (sp : Sp) : Prop := ∃ (f : Addr) (fd : FuncData) (ds : List Value), Mk K C f ∧ Binds K fd ps ds ∧ Vals dvs ds ∧ FnOk P w K mg base CX k f fd ps sp
def MkKO (C : Addr) (k : Nat) (ps ks : List Str) (n : Nat) (gV : List V → List V → List V) (sp : Sp) : Prop := ∃ (f : Addr) (fd : FuncData) (g : List Value → List Value → List Value), Mk K C f ∧ KBn K fd ps (n + 1) ks g gV ∧ FnOk P w K mg base CX k f fd ps sp
def EqO (C : Addr) (k : Nat) (ps : List Str) (sp : Sp) : Prop := ∃ (f : Addr) (fd : FuncData), OwnEqF K C f ∧ Binds K fd ps [] ∧ FnOk P w K mg base CX0 k f fd ps sp
def PropO (C : Addr) (x : Str) (k : Nat) (ps : List Str) (sp : Sp) : Prop := ∃ (p f : Addr) (fd : FuncData), PropOf K C x p f ∧ Binds K fd ps [] ∧ FnOk P w K mg base CX k f fd ps sp
def MethO (C : Addr) (x : Str) (k : Nat) (ps : List Str) (dvs : List V) (sp : Sp) : Prop := ∃ (f : Addr) (fd : FuncData) (ds : List Value), Meth K C x f ∧ Binds K fd ps ds ∧ Vals dvs ds ∧ FnOk P w K mg base CX k f fd ps sp
end
section
variable {X : Cx} {CX : CXT} {C : Addr} {k : Nat} {ps ks : List Str} {sp : Sp} {ta t tk : TA} {x : Str} {e o : Expr} {es : List Expr} {p pos apos : Pos} {E : XK} {ES : St → XK} {dvs : List V} {te : TE} {n : Nat} {gV : List V → List V → List V} {kws : List Keyword}
theorem pmk_errO (T : ErrF X.K C) (O : ErrO X.prog X.w X.K X.mg X.base C k ps sp) (hr : Room (k + 1) X.A) (hm : X.mg x = some (.ref C)) (hg : Gl X x) (ha : PA X (e :: es) ta)
    (hdb : (x == ("__debug__" : Str)) = false := by decide) (he : starEach (e :: es) X.env = (false, eval e
          X.env) :: starEach es X.env := by rfl) (hpl : (backTo pos (starEach es X.env)).any (·.1) = false := by rfl) :
    PMk X (.Call (.Name x p) (e :: es) [] pos) (tMkO C sp [] ta) := by
  obtain ⟨f, fd, i, b, F⟩ := O
  exact pmk_err T i F b hr hm hg ha hdb he hpl
theorem pe_makeO (O : MkO CX X.prog X.w X.K X.mg X.base C k ps dvs sp) (hr : Room (k + 1) X.A) (hm : X.mg x = some (.ref C)) (hg : Gl X x) (hx : Passes CX X E) (ha : PA X (e :: es) t)
    (hdb : (x == ("__debug__" : Str)) = false := by decide) (he : starEach (e :: es) X.env = (false, eval e
          X.env) :: starEach es X.env := by rfl) (hpl : (backTo pos (starEach es X.env)).any (·.1) = false := by rfl) :
    PE X (.Call (.Name x p) (e :: es)
          [] pos) (tMake C sp dvs E t) := by
  obtain ⟨f, fd, ds, M, b, v, F⟩ := O
  exact pe_make M F hr hg hm b v hx ha hdb he hpl
theorem pe_makeSO (O : MkO CX X.prog X.w X.K X.mg X.base C k ps dvs sp) (hr : Room (k + 1) X.A) (hm : X.mg x = some (.ref C)) (hg : Gl X x) (hx : ∀ σ, PassesAt CX X σ (ES σ)) (ha : PA X (e :: es) t)
    (hdb : (x == ("__debug__" : Str)) = false := by decide) (he : starEach (e :: es) X.env = (false, eval e
          X.env) :: starEach es X.env := by rfl) (hpl : (backTo pos (starEach es X.env)).any (·.1) = false := by rfl) :
    PE X (.Call (.Name x p) (e :: es) [] pos) (tMakeS C sp dvs ES t) := by
  obtain ⟨f, fd, ds, M, b, v, F⟩ := O
  exact pe_makeS M F hr hg hm b v hx ha hdb he hpl
theorem pe_makeKO (O : MkKO CX X.prog X.w X.K X.mg X.base C k ps ks n gV sp) (hr : Room (k + 1) X.A) (hm : X.mg x = some (.ref C)) (hg : Gl X x) (hx : Passes CX X E) (ha : PA X (e :: es) t) (hkw : PK X kws tk)
    (hall : (backToKw pos (keywordEach kws X.env)).all (·.1.isSome) = true := by rfl) (hks : (backToKw pos (keywordEach kws X.env)).filterMap (·.1) = ks := by rfl)
    (hdb : (x == ("__debug__" : Str)) = false := by decide) (he : starEach
          (e :: es) X.env = (false, eval e X.env) :: starEach es X.env := by rfl)
    (hpl : ((backTo pos (starEach (e :: es) X.env)).any (·.1) || (backToKw
          pos (keywordEach kws X.env)).any (·.1.isNone)) = false := by rfl) :
    PE X (.Call (.Name x p) (e :: es) kws pos)
          (tMakeN C n ks.length sp gV E t tk) := by
  obtain ⟨f, fd, g, M, b, F⟩ := O
  exact pe_makeN M F hr hg hm b hx ha hkw hall hks hdb he hpl
theorem pe_propO (O : PropO CX X.prog X.w X.K X.mg X.base C x k ps sp) (c : Cls X.K C) (hr : Room (k + 1) X.A) (hx : Passes CX X.nox E) (he : PE X e te) (hab : attributeBase e x X.env (eval e X.env) = eval e X.env := by rfl) :
    PE X (.Attribute e x pos) (tProp C sp [] E te) := by
  obtain ⟨p, f, fd, q, b, F⟩ := O
  exact pe_prop he c q F hr b .nil hx hab
theorem op_eqOwnO (O : EqO X.prog X.w X.K X.mg X.base C k ps sp) (hr : Room k X.A) : OpR X (compareOp .Eq) (rOwn X.K C sp id) := by
  obtain ⟨f, fd, q, b, F⟩ := O
  exact op_eqOwn F q b hr
theorem op_neOwnO (O : EqO X.prog X.w X.K X.mg X.base C k ps sp) (hr : Room (k + 1) X.A) : OpR X (compareOp .NotEq) (rOwn X.K C sp not) := by
  obtain ⟨f, fd, q, b, F⟩ := O
  exact op_neOwn F q b hr
end
/-- what the written part says of an own class whose instances are asked for their kind -/
structure InsF (K : PySem.W.Frag) (C : Addr) : Prop where
  cl : Cls K C
  ha : PySem.W.findIn K (.ref C) "__class__"
        = some (some (.builtin "object.__class__"))
  hn : PySem.W.specialIn K (.builtin "object.__class__")
        "__get__" = some (some (.builtin "getset_descriptor.__get__"))
  htk : PySem.W.takesIn K (.builtin
        "object.__class__") = some true
  hm : PySem.W.mroIn K C
        (.type "object") = some true
  me : PySem.W.kitOne K (.ref
        C) (.ref C) = some true
  tup : PySem.W.kitOne K (.type "tuple") (.ref C) = some false
  lst : PySem.W.kitOne K (.type "list") (.ref C) = some false
  str : PySem.W.kitOne K (.type "str") (.ref C) = some false
  nft : PySem.W.notFirst K C (.type "tuple") = true
section
variable {K : PySem.W.Frag} {C a dx : Addr} {H : Hp} {L : List En} {fs : List (Str × V)} {Q : VK} {xs : List V}
theorem InsF.ty (c : InsF K C) (h : H a = some (.ins C dx fs)) : TyX K H (.ref a) (.ref C) := .base (.ins h c.cl c.ha c.hn c.htk c.hm)
theorem InsF.nf (c : InsF K C) : PySem.W.notFirst K C (.ref C) = true := by
  show ((Value.ref C == .ref C) || _) = true
  rw [beq_self_eq_true]
  rfl
theorem wIsiOwn (c : InsF K C) (h : H a = some (.ins C dx fs)) (q : Q (.bl true) H) : rOrC (rIsi K) (rIsiT K) [.ref a, .ref C] H Q := .inl ⟨_, _, _, _, _, rfl, .own _, c.ty h, c.me, q⟩
theorem wIsiTupOwn (c : InsF K C) (s : SqT K H a xs) (q : Q (.bl false) H) : rOrC (rIsi K) (rIsiT K) [.ref a, .ref C] H Q := .inl ⟨_, _, _, _, _, rfl, .own _, (HasK.tup s).tyx, c.tup, q⟩
end
end Z
namespace Z
open PySem L2
section
variable {X : Cx} {CX : CXT} {k : Nat} {ps : List Str} {sp : Sp} {E : St → XK} {x : Str} {p pos : Pos} {e : Expr} {es : List Expr} {t : TA}
theorem pe_callSO (O : Ok CX X.prog X.w X.K X.mg X.base x k ps [] sp) (hg : Gl X x) (hr : Room k X.A) (hx : ∀ σ, PassesAt CX X σ (E σ)) (ha : PA X (e :: es) t)
    (hdb : (x == ("__debug__" : Str)) = false := by decide) (he : starEach (e :: es) X.env = (false, eval e
          X.env) :: starEach es X.env := by rfl) (hpl : (backTo pos (starEach es X.env)).any (·.1) = false := by rfl) :
    PE X (.Call (.Name x p) (e ::
          es) [] pos) (tCallS sp E t) := by
  obtain ⟨f, fd, ds, g, kp, b, v, F⟩ := O
  cases v
  exact pe_callS F hr hg g kp b hx ha hdb he hpl
end
theorem wCallS {sp : Sp} {E : St → XK} {t : TA} {σ : St} {H : Hp} {Q : VK} (h : t σ H fun vs H1 => sp vs H1 Q (E σ)) : tCallS sp E t σ H Q := h
end Z

set_option Elab.async false
set_option linter.all false
set_option maxRecDepth 100000
set_option maxHeartbeats 2000500
namespace Z
open PySem L2 RZ
/-! ### things by the ledger alone -/
inductive Thing (L : List En) : V → Kd → Prop where
  | non : Thing L .non .non
  | bl (b : Bool) : Thing L (.bl b) .bl
  | int (i : Int) : Thing L (.int i) .int
  | str (z : Str) : Thing L (.str z) .str
  | lst {a : Addr} {xs : List V} (m : En.ob a (.lst xs) ∈ L) : Thing L (.ref a) .lst
  | tup {a : Addr} {xs : List V} (m : En.ob a (.tup xs) ∈ L) : Thing L (.ref a) .tup
  | dct {a : Addr} {kvs : List (Key × V)} (m : En.ob a (.dK kvs) ∈ L) : Thing L (.ref a) .dct
theorem Thing.has {K : PySem.W.Frag} {H : Hp} {L : List En} {x : V} {k : Kd} (F : Fx H L) (t : Thing L x k) : HasK K H x k := by
  cases t with
  | non => exact .non
  | bl b => exact .bl b
  | int i => exact .int i
  | str z => exact .str z
  | lst m => exact .lst (F.lst m)
  | tup m => exact .tup (F.tup m)
  | dct m => exact .dct (F.get m)
theorem Thing.mono {L L' : List En} {x : V} {k : Kd} (t : Thing L x k) (h : ∀ e ∈ L, e ∈ L') : Thing L' x k := by
  cases t with
  | non => exact .non
  | bl b => exact .bl b
  | int i => exact .int i
  | str z => exact .str z
  | lst m => exact .lst (h _ m)
  | tup m => exact .tup (h _ m)
  | dct m => exact .dct (h _ m)
theorem Thing.cons {L : List En} {x : V} {k : Kd} {e : En} (t : Thing L x k) : Thing (e :: L) x k := t.mono fun _ h => List.mem_cons_of_mem _ h
/-- its items, where it is a sequence -/
inductive SeqIs (L : List En) : V → Option (List V) → Prop where
  | non : SeqIs L .non none
  | bl (b : Bool) : SeqIs L (.bl b) none
  | int (i : Int) : SeqIs L (.int i) none
  | str (z : Str) : SeqIs L (.str z) none
  | lst {a : Addr} {xs : List V} (m : En.ob a (.lst xs) ∈ L) : SeqIs L (.ref a) (some xs)
  | tup {a : Addr} {xs : List V} (m : En.ob a (.tup xs) ∈ L) : SeqIs L (.ref a) (some xs)
  | dct {a : Addr} {kvs : List (Key × V)} (m : En.ob a (.dK kvs) ∈ L) : SeqIs L (.ref a) none
def inLen (lo hi : Int) : Option (List V) → Bool
  | some xs => decide (lo ≤ (xs.length : Int)) && decide ((xs.length : Int) ≤ hi)
  | none => false
/-! ### comprehensions -/
section
variable {D : Addr} {R : Nat → List V → List En → Prop}
def LcP (D : Addr) (R : Nat → List V → List En → Prop) (i : Nat) (H : Hp) : Prop := ∃ acc L, Fx H (.ob D (.lst acc) :: L) ∧ R i acc L
def LcPut (D : Addr) (R : Nat → List V → List En → Prop) (i : Nat) (y : V) (H : Hp) : Prop := ∃ acc, H D = some (.lst acc) ∧ acc.length < sizeLine ∧ LcP D R (i + 1) (upd H D (.lst (acc ++ [y])))
theorem lcPut {i : Nat} {y : V} {H : Hp} {acc : List V} {L : List En} (F : Fx H (.ob D (.lst acc) :: L)) (n : acc.length < sizeLine) (r : R (i + 1) (acc ++ [y]) L) : LcPut D R i y H :=
  ⟨acc, F.get List.mem_cons_self, n, acc ++ [y], L, F.put .head, r⟩
variable {J : It} {n : Nat} {G : Hp → Prop} {Y : Nat → Hp → V → Hp → Prop} {g : TG} {tt : TT} {te : TE} {vs : List Nat} {σ : St} {H : Hp} {Q : VK} {L : List En}
theorem wLcW {QD : Addr → Hp → Prop} (w : Walk J n G Y) (F : Fx H L) (R : Nat → List V → List En → Prop) (h0 : R 0 [] L) (hG : ∀ i acc L' D H', R i acc L' → Fx H' (.ob D (.lst acc) :: L') → G H')
    (hs : ∀ i x D H' H'' acc L', i < n → R i acc L' → Fx H' (.ob D (.lst acc) :: L') → Y i H' x H'' → g x (wipe σ vs) H'' fun σ2 H2 => wipe σ2 vs = wipe σ vs ∧ tt σ2 H2 fun b H3 =>
      if b = true then te σ2 H3 fun y H4 => LcPut D R i y H4 else LcP D R (i + 1) H3)
    (hd : ∀ D acc L' H', Fx H' (.ob D (.lst acc) :: L') → R n acc L' → QD D H') :
    ∀ D, H D = none → ∃ W : Nat → Nat → Hp → Prop, (∃ m, W 0 m (upd H D (.lst []))) ∧ ∀ i m H, W i m H →
  (J.stop i H ∧ QD D H) ∨ (J.go i H ∧ ∃ Nx : Hp → Prop, (∀ H', Nx H' → ∃ m', m' < m ∧ W (i + 1) m' H') ∧ ∀ x H', J.yld i H x H' → g x (wipe σ vs) H' fun σ2 H2 => wipe σ2 vs = wipe σ vs ∧ tt σ2 H2 fun b H3 =>
    if b = true then te σ2 H3 fun y H4 => ∃ acc, H4 D = some (.lst acc) ∧ acc.length < sizeLine ∧ Nx (upd H4 D (.lst (acc ++ [y]))) else Nx H3) := fun D hD =>
  lc_it w (Qd := fun H' => QD D H') (LcP D R) ⟨[], L, F.new hD, h0⟩ (fun i H' _ ⟨acc, L', F', r⟩ => hG i acc L' D H' r F')
    (fun i x H' H'' hi ⟨acc, L', F', r⟩ y => hs i x D H' H'' acc L' hi r F' y) (fun H' ⟨acc, L', F', r⟩ => hd D acc L' H' F' r)
end
theorem wLc {wi : TI} {g : TG} {tt : TT} {te : TE} {vs : List Nat} {σ : St} {H : Hp} {Q : VK} (h : wi σ H fun J H1 => ∀ D, H1 D = none → ∃ W : Nat → Nat → Hp → Prop, (∃ m, W 0 m (upd H1 D (.lst []))) ∧ ∀ i m H, W i m H →
  (J.stop i H ∧ Q (.ref D) H) ∨ (J.go i H ∧ ∃ Nx : Hp → Prop, (∀ H', Nx H' → ∃ m', m' < m ∧ W (i + 1) m' H')
        ∧ ∀ x H', J.yld i H x H' → g x (wipe σ vs) H' fun σ2 H2 => wipe σ2 vs = wipe σ vs ∧ tt σ2 H2 fun b H3 =>
    if b = true then te σ2 H3 fun y H4 => ∃ acc, H4 D = some (.lst acc) ∧ acc.length < sizeLine ∧ Nx (upd H4 D (.lst (acc ++ [y]))) else Nx H3)) : tLc wi g tt te vs σ H Q := h
/-! what a loop or a comprehension walks -/
section
variable {K : PySem.W.Frag} {H : Hp} {L : List En} {a b : Addr} {xs ys : List V} {RI : It → Hp → Prop} {σ : St} {te : TE} {ta : TA}
def GoL (K : PySem.W.Frag) (x : V) (H : Hp) (R : It → Hp → Prop) : Prop := ∃ a, x = .ref a ∧ (∃ xs, SqL K H a xs) ∧ R (Itl K a) H
def GoT (K : PySem.W.Frag) (x : V) (H : Hp) (R : It → Hp → Prop) : Prop := ∃ a, x = .ref a ∧ (∃ xs, SqT K H a xs) ∧ R (Itt K a) H
theorem wIL (h : te σ H fun x H1 => GoL K x H1 RI) : iList K te σ H RI := h
theorem wIT (h : te σ H fun x H1 => GoT K x H1 RI) : iTup K te σ H RI := h
theorem wGoL (s : SqL K H a xs) (h : RI (Itl K a) H) : GoL K (.ref a) H RI := ⟨a, rfl, ⟨xs, s⟩, h⟩
theorem wGoT (s : SqT K H a xs) (h : RI (Itt K a) H) : GoT K (.ref a) H RI := ⟨a, rfl, ⟨xs, s⟩, h⟩
def GoR1 (vs : List V) (H : Hp) (R : It → Hp → Prop) : Prop := ∃ j : Int, vs = [.int j] ∧ -(2 ^ 62) ≤ j ∧ j < 2 ^ 62 ∧ R (Itr 0 j.toNat) H
def GoR2 (vs : List V) (H : Hp) (R : It → Hp → Prop) : Prop := ∃ i j : Int, vs = [.int i, .int j] ∧ (-(2 ^ 62) ≤ i ∧ i < 2 ^ 62 ∧ -(2 ^ 62) ≤ j ∧ j < 2 ^ 62) ∧ R (Itr i (j - i).toNat) H
theorem wIR1 (h : ta σ H fun vs H1 => GoR1 vs H1 RI) : iRng1 ta σ H RI := h
theorem wIR2 (h : ta σ H fun vs H1 => GoR2 vs H1 RI) : iRng2 ta σ H RI := h
theorem wGoR1 {j : Int} (h1 : -(2 ^ 62) ≤ j) (h2 : j < 2 ^ 62) (h : RI (Itr 0 j.toNat) H) : GoR1 [.int j] H RI := ⟨j, rfl, h1, h2, h⟩
theorem wGoR2 {i j : Int} (h1 : -(2 ^ 62) ≤ i) (h2 : i < 2 ^ 62) (h3 : -(2 ^ 62) ≤ j) (h4 : j < 2 ^ 62) (h : RI (Itr i (j - i).toNat) H) : GoR2 [.int i, .int j] H RI := ⟨i, j, rfl, ⟨h1, h2, h3, h4⟩, h⟩
def GoZ (K : PySem.W.Frag) (vs : List V) (H : Hp) (R : It → Hp → Prop) : Prop := ∃ a b xs ys, vs = [.ref a, .ref b] ∧ ((SqL K H a xs ∧ SqL K H b ys ∧ R (Itz K a b) H) ∨ (SqT K H a xs ∧ SqT K H b ys ∧ R (ItzT K a b) H))
theorem wIZ (h : ta σ H fun vs H1 => GoZ K vs H1 RI) : iZipA K ta σ H RI := h
theorem wGoZL (s : SqL K H a xs) (s' : SqL K H b ys) (h : RI (Itz K a b) H) : GoZ K [.ref a, .ref b] H RI := ⟨a, b, xs, ys, rfl, .inl ⟨s, s', h⟩⟩
theorem wGoZT (s : SqT K H a xs) (s' : SqT K H b ys) (h : RI (ItzT K a b) H) : GoZ K [.ref a, .ref b] H RI := ⟨a, b, xs, ys, rfl, .inr ⟨s, s', h⟩⟩
theorem walk_zipT {n : Nat} (hn : n = min xs.length ys.length) : Walk (ItzT K a b) n (fun H => SqT K H a xs ∧ SqT K H b ys) (YPair (fun i => xs[i]?) (fun i => ys[i]?)) := by
  subst hn
  refine ⟨fun i _ hi q => ?_, fun _ q => ⟨xs, ys,
        q.1, q.2, by omega⟩, fun i H v H' _ q y => ?_⟩
  · have h1 : i <
        xs.length := by omega
    have h2 : i <
          ys.length := by omega
    exact ⟨xs, ys, xs[i], ys[i], q.1,
          q.2, by simp [h1], by simp [h2]⟩
  · obtain ⟨T, x, z, h1,
        h2, h3, h4, h5⟩ := y
    exact ⟨T, x, z, h1, h2,
          h3, h4 xs q.1, h5 ys q.2⟩
theorem wYes {QB : Bool → Hp → Prop} (h : QB true H) : tYes σ H QB := h
end
/-- a for over a walk -/
theorem wForW {J : It} {n : Nat} {G : Hp → Prop} {Y : Nat → Hp → V → Hp → Prop} (w : Walk J n G Y) {g : TG} {tb : TS} {nx : St → Hp → Prop} {rt : VK} {σ : St} {H : Hp} (Pv : Nat → St → Hp → Prop) (h0 : Pv 0 σ H) (hG : ∀ i σ H, i ≤ n → Pv i σ H → G H)
    (hs : ∀ i x σ H H', i < n → Pv i σ H → Y i H x H' → g x σ H' fun σ2 H2 => tb ⟨Pv (i + 1), rt, nx, Pv (i + 1)⟩ σ2 H2) (hd : ∀ σ H, Pv n σ H → nx σ H) :
    ∃ W : Nat → Nat → St → Hp → Prop, (∃
          m, W 0 m σ H) ∧ ∀ i m σ H, W i m σ H →
      (J.stop i H ∧ nx σ H) ∨ (J.go i H ∧ ∃ N : St → Hp → Prop, (∀ σ' H', N σ' H' → ∃ m', m' < m ∧ W (i + 1) m' σ' H') ∧ ∀ x H', J.yld i H x H' → g x σ H' fun σ2 H2 => tb ⟨N, rt, nx, N⟩ σ2 H2) :=
  for_it (D := ⟨nx, rt, fun _ _ => False, fun _ _ => False⟩) w Pv h0 hG hs hd
/-- a tuple's items to names -/
theorem wGTup {K : PySem.W.Frag} {n : Nat} {t : TGs} {a : Addr} {xs : List V} {σ : St} {H : Hp} {N : St → Hp → Prop} (s : SqT K H a xs) (e : xs.length = n) (h : t xs σ H N) : gTup K n t (.ref a) σ H N := ⟨a, xs, rfl, s, e, h⟩
theorem wGCons {t : TG} {u : TGs} {v : V} {r : List V} {σ : St} {H : Hp} {N : St → Hp → Prop} (h : t v σ H fun σ' H' => u r σ' H' N) : gCons t u (v :: r) σ H N := ⟨v, r, rfl, h⟩
theorem wGNil {σ : St} {H : Hp} {N : St → Hp → Prop} (h : N σ H) : gNil [] σ H N := ⟨rfl, h⟩
/-! slices -/
section
variable {K : PySem.W.Frag} {H : Hp} {L : List En} {a : Addr} {xs : List V} {Q : VK} {σ : St} {r : V → Option Int → Option Int → Hp → VK → Prop} {te : TE} {tl th : TO} {lo hi : Option Int} {i : Int}
theorem wSl (h : te σ H fun x H1 => tl σ H1 fun l H2 => th σ H2 fun u H3 => r x l u H3 Q) : tSl r te tl th σ H Q := h
theorem wNoPart {QO : Option Int → Hp → Prop} (h : QO none H) : tNoPart σ H QO := h
def PartV (x : V) (H : Hp) (QO : Option Int → Hp → Prop) : Prop := ∃ i, x = .int i ∧ QO (some i) H
theorem wPart {QO : Option Int → Hp → Prop} {t : TE} (h : t σ H fun x H1 => PartV x H1 QO) : tPart t σ H QO := h
theorem wPartV {QO : Option Int → Hp → Prop} (h : QO (some i) H) : PartV (.int i) H QO := ⟨i, rfl, h⟩
theorem wSlL (s : SqL K H a xs) (F : Fx H L) (k : ∀ p H', Fx H' (.ob p (.lst (cutV xs lo hi)) :: L) → Q (.ref p) H') : rOrS (rSlL K) (rSlT K) (.ref a) lo hi H Q := .inl ⟨a, xs, rfl, s, wNewF F k⟩
theorem wSlT (s : SqT K H a xs) (n : ¬ (HT.sIx xs.length 0 lo = 0 ∧ HT.sIx xs.length xs.length hi = xs.length)) (F : Fx H L) (k : ∀ p H', Fx H' (.ob p (.tup (cutV xs lo hi)) :: L) → Q (.ref p) H') : rOrS (rSlL K) (rSlT K) (.ref a) lo hi H Q := .inr ⟨a, xs, rfl, s, n, wNewF F k⟩
theorem cut_tail : cutV xs (some 1) none = xs.tail := by
  unfold cutV HT.sIx
  cases xs with
  | nil => rfl
  | cons x r =>
    simp only [List.length_cons]
    have e : (min (1 : Int).toNat (r.length + 1)) = 1 := by
      have : (1 : Int).toNat = 1 := rfl
      omega
    simp
end

/-! a list or a tuple, walked -/
section
variable {X : Cx} {tg : Expr}
def GoS (K : PySem.W.Frag) (x : V) (H : Hp) (R : It → Hp → Prop) : Prop := GoL K x H R ∨ GoT K x H R
def iSeq (K : PySem.W.Frag) (tl : TE) : TI := fun σ H R => tl σ H fun x H1 => GoS K x H1 R
theorem pi_seq {l : Expr} {tl : TE} (hl : PE X l tl) : PI X tg l (iSeq X.K tl) := by
  refine ⟨fun pins
        s σ H R I h => ?_⟩
  refine thn (hl.run pins s σ H _ I h)
        fun v s1 ⟨x, H1, I1, r1, q1⟩ => ?_
  rcases q1 with q1 | q1
  · obtain ⟨a, e, ⟨xs, hq⟩, q⟩ := q1
    subst e
    cases r1
    obtain ⟨its, rv, p,
          hz⟩ := I1.list hq
    refine wpAny_pyIter_list
          p.isList ?_
    refine ⟨s1.heap.objs.size, [s1.heap.objs.size], _, _, H1, rfl, I1.kept (t' := s1.toks) fun b o e =>
          Heap.get?_push_of_some _ e, turn_list a _, ⟨_, Heap.get?_push_size _ rfl, rfl, rfl⟩, fun b hb => ?_, q⟩
    have e : b = s1.heap.objs.size
          := by simpa using hb
    subst e
    exact I1.fpOk (Nat.le_refl _)
          (I1.hok.fresh (Nat.le_refl _))
  · obtain ⟨a, e, ⟨xs, hq⟩, q⟩ := q1
    subst e
    cases r1
    obtain ⟨its, rv, p,
          hz⟩ := I1.tuple hq
    refine wpAny_pyIter_tuple (show
          s1.heap.IsTuple a its.toArray from p) ?_
    refine ⟨s1.heap.objs.size, [s1.heap.objs.size], _, _, H1, rfl, I1.kept (t' := s1.toks) fun b o e =>
          Heap.get?_push_of_some _ e, turn_tuple a _, ⟨_, Heap.get?_push_size _ rfl, rfl, rfl⟩, fun b hb => ?_, q⟩
    have e : b = s1.heap.objs.size
          := by simpa using hb
    subst e
    exact I1.fpOk (Nat.le_refl _)
          (I1.hok.fresh (Nat.le_refl _))
end
section
variable {K : PySem.W.Frag} {H : Hp} {L : List En} {a : Addr} {xs : List V} {RI : It → Hp → Prop} {σ : St} {te : TE}
theorem wIS (h : te σ H fun x H1 => GoS K x H1 RI) : iSeq K te σ H RI := h
theorem wGoSL (s : SqL K H a xs) (h : RI (Itl K a) H) : GoS K (.ref a) H RI := .inl (wGoL s h)
theorem wGoST (s : SqT K H a xs) (h : RI (Itt K a) H) : GoS K (.ref a) H RI := .inr (wGoT s h)
end
end Z
namespace Z
open PySem L2 RZ
theorem SeqIs.mono {L L' : List En} {a : V} {o : Option (List V)} (s : SeqIs L a o) (h : ∀ e ∈ L, e ∈ L') : SeqIs L' a o := by
  cases s with
  | non => exact .non
  | bl b => exact .bl b
  | int i => exact .int i
  | str z => exact .str z
  | lst m => exact .lst (h _ m)
  | tup m => exact .tup (h _ m)
  | dct m => exact .dct (h _ m)
end Z

set_option Elab.async false
set_option linter.all false
set_option maxRecDepth 100000
set_option maxHeartbeats 2000500
namespace Z
open PySem L2 RZ
theorem wAll {K : PySem.W.Frag} {H : Hp} {a : Addr} {bs : List Bool} {Q : VK} (s : SqL K H a (bs.map V.bl)) (h : Q (.bl (bs.all id)) H) : rAll K [.ref a] H Q := ⟨a, bs, rfl, s, h⟩
theorem wSum {K : PySem.W.Frag} {H : Hp} {a : Addr} {ns : List Int} {Q : VK} (s : SqL K H a (ns.map V.int)) (h : Q (.int ns.sum) H) : rSum K [.ref a] H Q := ⟨a, ns, rfl, s, h⟩
theorem wSorted {K : PySem.W.Frag} {H : Hp} {L : List En} {a : Addr} {ns : List Int} {Q : VK} (s : SqL K H a (ns.map V.int)) (n : ns.length < 64) (F : Fx H L) (k : ∀ (ms : List Int) p H', ms.Perm ns → ms.Pairwise (· ≤ ·) → Fx H' (.ob p (.lst (ms.map V.int)) :: L) → Q (.ref p) H') : rSorted K [.ref a] H Q :=
  ⟨a, ns, rfl, s, n, fun ms p q r hp => k ms p _ q r (F.new hp)⟩
/-- neighbours ascend -/
def asc : List Int → Bool
  | a :: b :: r => decide (a < b) && asc (b :: r)
  | _ => true
theorem asc_pw : ∀ {l : List Int}, asc l = true ↔ l.Pairwise (· < ·)
  | [] => by simp [asc]
  | [a] => by simp [asc]
  | a :: b :: r => by
    have ih := asc_pw (l := b :: r)
    have e : asc (a :: b :: r) = (decide (a < b) && asc (b :: r)) := by rw [asc]
    rw [e, Bool.and_eq_true, ih, decide_eq_true_iff]
    constructor
    · intro hp
      obtain ⟨h, p⟩ := hp
      refine List.pairwise_cons.mpr ⟨fun x hx => ?_, p⟩
      rcases List.mem_cons.mp hx with e1 | hx
      · rw [e1]; exact h
      · exact Int.lt_trans h ((List.pairwise_cons.mp p).1 x hx)
    · intro hp
      obtain ⟨h, p⟩ := List.pairwise_cons.mp hp
      exact ⟨h b List.mem_cons_self, p⟩
theorem asc_zip : ∀ {l : List Int}, ((l.zip l.tail).all fun p => decide (p.1 < p.2)) = asc l
  | [] => rfl
  | [a] => rfl
  | a :: b :: r => by
    have ih := asc_zip (l := b :: r)
    have e : asc (a :: b :: r) = (decide (a < b) && asc (b :: r)) := by rw [asc]
    rw [e, ← ih]
    rfl
theorem ints_of {xs : List V} {lo hi : V} (h : xs.all (fun x => inB x lo hi) = true) : ∃ ns : List Int, xs = ns.map V.int := by
  induction xs with
  | nil => exact ⟨[], rfl⟩
  | cons x r ih =>
    rw [List.all_cons,
          Bool.and_eq_true] at h
    obtain ⟨ns, e⟩ := ih h.2
    cases x with
    | int i => exact ⟨i :: ns, by rw [e]; rfl⟩
    | _ => exact absurd h.1 (by simp [inB])
theorem take_succ_map {α β : Type} {f : α → β} {l : List α} {i : Nat} {x : α} (h : l[i]? = some x) : (l.take (i + 1)).map f = (l.take i).map f ++ [f x] := by
  rw [List.take_add_one, h, List.map_append]
  rfl

section
variable {K : PySem.W.Frag} {H : Hp} {L : List En} {a b : V} {xs ys : List V} {Q : VK} {g : TG} {tt : TT} {te : TE} {vs : List Nat} {σ : St}
theorem wLcS {QD : Addr → Hp → Prop} (hq : SeqIs L a (some xs)) (F : Fx H L) (R : Nat → List V → List En → Prop) (h0 : R 0 [] L) (keep : ∀ i acc L', R i acc L' → ∀ e ∈ L, e ∈ L')
    (hs : ∀ i x D H' acc L', xs[i]? = some x → R i acc L' → Fx H' (.ob D (.lst acc) :: L') → g x (wipe σ vs) H' fun σ2 H2 => wipe σ2 vs = wipe σ vs ∧ tt σ2 H2 fun b H3 =>
      if b = true then te σ2 H3 fun y H4 => LcPut D R i y H4 else LcP D R (i + 1) H3)
    (hd : ∀ D acc L' H', Fx H' (.ob D (.lst acc) :: L') → R xs.length acc L' → QD D H') :
    GoS K a H fun J H1 => ∀ D, H1 D = none → ∃ W : Nat → Nat → Hp → Prop, (∃ m, W 0 m (upd H1 D (.lst []))) ∧ ∀ i m H, W i m H →
  (J.stop i H ∧ QD D H) ∨ (J.go i H ∧ ∃ Nx : Hp → Prop, (∀ H', Nx H' → ∃ m', m' < m ∧ W (i + 1) m' H') ∧ ∀ x H', J.yld i H x H' → g x (wipe σ vs) H' fun σ2 H2 => wipe σ2 vs = wipe σ vs ∧ tt σ2 H2 fun b H3 =>
    if b = true then te σ2 H3 fun y H4 => ∃ acc, H4 D = some (.lst acc) ∧
          acc.length < sizeLine ∧ Nx (upd H4 D (.lst (acc ++ [y]))) else Nx H3) := by
  cases hq with
  | lst m =>
    refine wGoSL (F.lst m) (wLcW (walk_list (K := K) (xs := xs)) F R h0 (fun i acc L' D H' r F' => F'.lst (List.mem_cons_of_mem _ (keep _ _ _ r _ m))) ?_ hd)
    rintro i x D H' H'' acc L' _ r F' ⟨rfl, e⟩
    exact hs i x D H'' acc L' e r F'
  | tup m =>
    refine wGoST (F.tup m) (wLcW (walk_tup (K := K) (xs := xs)) F R h0 (fun i acc L' D H' r F' => F'.tup (List.mem_cons_of_mem _ (keep _ _ _ r _ m))) ?_ hd)
    rintro i x D H' H'' acc L' _ r F' ⟨rfl, e⟩
    exact hs i x D H'' acc L' e r F'
/-- zip of two lists, or of two tuples -/
inductive Seq2 (L : List En) : V → V → List V → List V → Prop where
  | lst {a b : Addr} {xs ys : List V} (m : En.ob a (.lst xs) ∈ L) (m' : En.ob b (.lst ys) ∈ L) : Seq2 L (.ref a) (.ref b) xs ys
  | tup {a b : Addr} {xs ys : List V} (m : En.ob a (.tup xs) ∈ L) (m' : En.ob b (.tup ys) ∈ L) : Seq2 L (.ref a) (.ref b) xs ys
theorem wLcZ {QD : Addr → Hp → Prop} (hq : Seq2 L a b xs ys) (F : Fx H L) (R : Nat → List V → List En → Prop) (h0 : R 0 [] L) (keep : ∀ i acc L', R i acc L' → ∀ e ∈ L, e ∈ L')
    (hs : ∀ i x y T D H' acc L', xs[i]? = some x → ys[i]? = some y → R i acc L' → Fx H' (.ob T (.tup [x, y]) :: .ob D (.lst acc) :: L') → g (.ref T) (wipe σ vs) H' fun σ2 H2 => wipe σ2 vs = wipe σ vs ∧ tt σ2 H2 fun b H3 =>
      if b = true then te σ2 H3 fun y H4 => LcPut D R i y H4 else LcP D R (i + 1) H3)
    (hd : ∀ D acc L' H', Fx H' (.ob D (.lst acc) :: L') → R (min xs.length ys.length) acc L' → QD D H') :
    GoZ K [a, b] H fun J H1 => ∀ D, H1 D = none → ∃ W : Nat → Nat → Hp → Prop, (∃ m, W 0 m (upd H1 D (.lst []))) ∧ ∀ i m H, W i m H →
  (J.stop i H ∧ QD D H) ∨ (J.go i H ∧ ∃ Nx : Hp → Prop, (∀ H', Nx H' → ∃ m', m' < m ∧ W (i + 1) m' H') ∧ ∀ x H', J.yld i H x H' → g x (wipe σ vs) H' fun σ2 H2 => wipe σ2 vs = wipe σ vs ∧ tt σ2 H2 fun b H3 =>
    if b = true then te σ2 H3 fun y H4 => ∃ acc, H4 D = some (.lst acc) ∧
          acc.length < sizeLine ∧ Nx (upd H4 D (.lst (acc ++ [y]))) else Nx H3) := by
  cases hq with
  | lst m m' =>
    refine wGoZL (F.lst m) (F.lst m') (wLcW (walk_zip (K := K) (xs := xs) (ys := ys) rfl) F R h0 (fun i acc L' D H' r F' => ⟨F'.lst (List.mem_cons_of_mem _ (keep _ _ _ r _ m)), F'.lst (List.mem_cons_of_mem _ (keep _ _ _ r _ m'))⟩) ?_ hd)
    rintro i v D H' H'' acc L' _ r F' ⟨T, x, y, rfl, hT, rfl, e1, e2⟩
    exact hs i x y T D _ acc L' e1 e2 r (F'.new hT)
  | tup m m' =>
    refine wGoZT (F.tup m) (F.tup m') (wLcW (walk_zipT (K := K) (xs := xs) (ys := ys) rfl) F R h0 (fun i acc L' D H' r F' => ⟨F'.tup (List.mem_cons_of_mem _ (keep _ _ _ r _ m)), F'.tup (List.mem_cons_of_mem _ (keep _ _ _ r _ m'))⟩) ?_ hd)
    rintro i v D H' H'' acc L' _ r F' ⟨T, x, y, rfl, hT, rfl, e1, e2⟩
    exact hs i x y T D _ acc L' e1 e2 r (F'.new hT)
/-- a for over a list or a tuple -/
theorem wForS {tb : TS} {nx : St → Hp → Prop} {rt : VK} (hq : SeqIs L a (some xs)) (F : Fx H L) (Pv : Nat → St → Hp → Prop) (h0 : Pv 0 σ H) (keep : ∀ i σ H', Pv i σ H' → ∃ L', Fx H' L' ∧ ∀ p o, En.ob p o ∈ L → En.ob p o ∈ L')
    (hs : ∀ i x σ H', xs[i]? = some x → Pv i σ H' → g x σ H' fun σ2 H2 => tb ⟨Pv (i + 1), rt, nx, Pv (i + 1)⟩ σ2 H2) (hd : ∀ σ H', Pv xs.length σ H' → nx σ H') :
    GoS K a H fun J H1 => ∃ W : Nat → Nat → St → Hp → Prop, (∃ m, W 0 m σ H1) ∧ ∀ i m σ H, W i m σ H →
      (J.stop i H ∧ nx σ H) ∨ (J.go i H ∧ ∃ N : St → Hp → Prop, (∀ σ' H', N σ' H' → ∃ m', m' < m ∧ W (i + 1) m' σ' H') ∧ ∀ x H', J.yld i H x H' → g x σ H' fun σ2 H2 => tb ⟨N, rt, nx, N⟩ σ2 H2) := by
  cases hq with
  | lst m =>
    refine wGoSL (F.lst m) (wForW (walk_list (K := K) (xs := xs)) Pv h0 (fun i σ H' _ p => ?_) ?_ hd)
    · obtain ⟨L', F', k⟩ := keep i σ H' p
      exact F'.lst (k _ _ m)
    · rintro i x σ H' H'' _ p ⟨rfl, e⟩
      exact hs i x σ H'' e p
  | tup m =>
    refine wGoST (F.tup m) (wForW (walk_tup (K := K) (xs := xs)) Pv h0 (fun i σ H' _ p => ?_) ?_ hd)
    · obtain ⟨L', F', k⟩ := keep i σ H' p
      exact F'.tup (k _ _ m)
    · rintro i x σ H' H'' _ p ⟨rfl, e⟩
      exact hs i x σ H'' e p
/-- the tail of a list or of a tuple that is not empty -/
theorem wSlS (hq : SeqIs L a (some xs)) (n : xs ≠ []) (F : Fx H L) (k : ∀ p H' e, Fx H' (e :: L) → Seq2 (e :: L) a (.ref p) xs xs.tail → Q (.ref p) H') : rOrS (rSlL K) (rSlT K) a (some 1) none H Q := by
  cases hq with
  | lst m => exact wSlL (F.lst m) F fun p H' F' => k p H' _ F' (.lst (List.mem_cons_of_mem _ m) (by rw [cut_tail]; exact List.mem_cons_self))
  | tup m =>
    refine wSlT (F.tup m) (fun h => ?_) F fun p H' F' => k p H' _ F' (.tup (List.mem_cons_of_mem _ m) (by rw [cut_tail]; exact List.mem_cons_self))
    have e := h.1
    cases xs with
    | nil => exact n rfl
    | cons x r => simp [HT.sIx] at e
end

/-! list(range(a, b)) -/
def rgI (a b : Int) : List Int := (List.range (b - a).toNat).map fun i => a + (i : Nat)
theorem rgV_ints (a b : Int) : rgV a b = (rgI a b).map V.int := by
  unfold rgV rgI
  rw [List.map_map]
  rfl
theorem rgI_len (a b : Int) : (rgI a b).length = (b - a).toNat := by unfold rgI; rw [List.length_map, List.length_range]
theorem rgI_mem {a b n : Int} (h : n ∈ rgI a b) : a ≤ n ∧ n < b := by
  unfold rgI at h
  obtain ⟨i, hi, rfl⟩
        := List.mem_map.mp h
  have := List.mem_range.mp hi
  omega
theorem rgI_nodup (a b : Int) : (rgI a b).Nodup := by
  unfold rgI
  refine List.Pairwise.map _ (fun x y h => ?_) List.nodup_range
  intro e
  exact h (by omega)
section
variable {H : Hp} {L : List En} {Q : VK} {σ : St} {ta tb : TE} {i j : Int}
def RgV (x y : V) (H : Hp) (Q : VK) : Prop := ∃ i j, x = .int i ∧ y = .int j ∧ RgOk i j ∧ ∀ q, H q = none → Q (.ref q) (upd H q (.lst (rgV i j)))
theorem wListRg2 (h : ta σ H fun x H1 => tb σ H1 fun y H2 => RgV x y H2 Q) : tLstRg (tRg2 ta tb) σ H Q := h
theorem wListRg1 (h : ta σ H fun x H1 => RgV (.int 0) x H1 Q) (mono : ∀ (P P' : V → Hp → Prop) , (∀ x H, P x H → P' x H) → ta σ H P → ta σ H P') : tLstRg (tRg1 ta) σ H Q := by
  refine mono _ _ (fun x H1 z => ?_) h
  obtain ⟨i, j, e1, e2, r, q⟩ := z
  cases e1
  exact ⟨j, e2, r, q⟩
theorem wRgV (ok : RgOk i j) (F : Fx H L) (k : ∀ p H', Fx H' (.ob p (.lst ((rgI i j).map V.int)) :: L) → Q (.ref p) H') : RgV (.int i) (.int j) H Q := ⟨i, j, rfl, rfl, ok, by rw [rgV_ints]; exact wNewF F k⟩
end
theorem pw_lt {l : List Int} (h : l.Pairwise (· ≤ ·)) (n : l.Nodup) : l.Pairwise (· < ·) := by
  have q : l.Pairwise (fun a b => a ≤ b ∧ a ≠ b) := h.and n
  exact q.imp fun ⟨a, b⟩ => by omega
theorem erase_perm {α : Type} : ∀ {l : List α} {k : Nat} {x : α}, l[k]? = some x → (x :: l.eraseIdx k).Perm l
  | [], k, x, h => by simp at h
  | a :: r, 0, x, h => by
    have e : a = x :=
          Option.some.inj h
    subst e
    exact List.Perm.refl _
  | a :: r, k + 1, x, h => by
    have ih := erase_perm (l := r) (k := k) (x := x) h
    exact (List.Perm.swap a x _).trans (ih.cons a)
theorem seqIx {v : Int} {n : Nat} (h0 : 0 ≤ v) (h1 : v < n) : seqIndex? v n = some v.toNat := by
  unfold seqIndex?
  simp [h0, h1]
  try omega
theorem map_get {ns : List Int} {k : Nat} (h : k < ns.length) : (ns.map V.int)[k]? = some (V.int (ns.getD k 0)) := by
  rw [List.getElem?_map, List.getElem?_eq_getElem h,
        List.getD_eq_getElem?_getD, List.getElem?_eq_getElem h]
  rfl
theorem get_getD {ns : List Int} {k : Nat} (h : k < ns.length) : ns[k]? = some (ns.getD k 0) := by
  rw [List.getElem?_eq_getElem h,
        List.getD_eq_getElem?_getD, List.getElem?_eq_getElem h]
  rfl
theorem map_erase : ∀ {ns : List Int} {k : Nat}, (ns.map V.int).eraseIdx k = (ns.eraseIdx k).map V.int
  | [], _ => rfl
  | _ :: _, 0 => rfl
  | a :: r, k + 1 => by
    have ih := map_erase (ns := r) (k := k)
    show V.int a :: (r.map V.int).eraseIdx k = V.int a :: (r.eraseIdx k).map V.int
    rw [ih]
end Z

set_option Elab.async false
set_option linter.all false
set_option maxRecDepth 100000
set_option maxHeartbeats 2000500
namespace Z
open PySem L2 RZ
/-! ### data of whole numbers, compared -/
def iD (ns : List Int) : List PyData := ns.map PyData.int
theorem dpAll_ints {K : PySem.W.Frag} {H : Hp} : ∀ ns : List Int, DpAll K H (ns.map V.int) (iD ns)
  | [] => .nil
  | n :: r => .cons (.int n) (dpAll_ints r)
theorem eqvAll_ints : ∀ ns ms : List Int, PyData.eqvAll (iD ns) (iD ms) = decide (ns = ms)
  | [], [] => rfl
  | [], _ :: _ => rfl
  | _ :: _, [] => rfl
  | n :: r, m :: q => by
    show (PyData.eqv (.int n) (.int m) && PyData.eqvAll (iD r) (iD q)) = decide (n :: r = m :: q)
    rw [eqvAll_ints r q]
    show ((n == m) && decide (r = q)) = decide (n :: r = m :: q)
    by_cases h : n = m
    · subst h
      by_cases h' : r = q
      · subst h'; simp
      · simp [h']
    · simp [h]
theorem canLay_ints : ∀ ns : List Int, PyData.canLayAll0 (iD ns) = true
  | [] => rfl
  | n :: r => by
    show (PyData.canLay0 (.int n) && PyData.canLayAll0 (iD r)) = true
    rw [canLay_ints r]
    rfl
theorem depth_ints : ∀ ns : List Int, PyData.depthAll (iD ns) = 0
  | [] => rfl
  | n :: r => by
    show max (PyData.depth (.int n)) (PyData.depthAll (iD r)) = 0
    rw [depth_ints r]
    rfl
theorem shaped_tup (ns : List Int) : SeqAt.shaped (.tuple (iD ns)) = true := by
  unfold SeqAt.shaped
  rw [Bool.and_eq_true]
  refine ⟨canLay_ints ns, decide_eq_true ?_⟩
  show PyData.depthAll (iD ns) + 1 ≤ 64
  rw [depth_ints]
  decide
theorem shaped_lst (ns : List Int) : SeqAt.shaped (.list (iD ns)) = true := shaped_tup ns
section
variable {K : PySem.W.Frag} {H : Hp} {Q : VK} {a b : Addr} {ns ms : List Int} {x y : V} {r : R2}
theorem wEqTT (s : SqT K H a (ns.map V.int)) (t : SqT K H b (ms.map V.int)) (h : Q (.bl (decide (ns = ms))) H) : rOr rEq (rEqD K) (.ref a) (.ref b) H Q :=
  .inr ⟨_, _, .tup s (dpAll_ints ns), .tup t (dpAll_ints ms), shaped_tup ns, shaped_tup ms, by
    have e : PyData.eqv (.tuple (iD ns)) (.tuple (iD ms)) = decide (ns = ms) := eqvAll_ints ns ms
    rw [e]; exact h⟩
theorem wEqLL (s : SqL K H a (ns.map V.int)) (t : SqL K H b (ms.map V.int)) (h : Q (.bl (decide (ns = ms))) H) : rOr rEq (rEqD K) (.ref a) (.ref b) H Q :=
  .inr ⟨_, _, .lst s (dpAll_ints ns), .lst t (dpAll_ints ms), shaped_lst ns, shaped_lst ms, by
    have e : PyData.eqv (.list (iD ns)) (.list (iD ms)) = decide (ns = ms) := eqvAll_ints ns ms
    rw [e]; exact h⟩
theorem wNeTT (s : SqT K H a (ns.map V.int)) (t : SqT K H b (ms.map V.int)) (h : Q (.bl (!decide (ns = ms))) H) : rOr rNe (rNeD K) (.ref a) (.ref b) H Q :=
  .inr ⟨_, _, .tup s (dpAll_ints ns), .tup t (dpAll_ints ms), shaped_tup ns, shaped_tup ms, by
    have e : PyData.eqv (.tuple (iD ns)) (.tuple (iD ms)) = decide (ns = ms) := eqvAll_ints ns ms
    rw [e]; exact h⟩
theorem wNeLL (s : SqL K H a (ns.map V.int)) (t : SqL K H b (ms.map V.int)) (h : Q (.bl (!decide (ns = ms))) H) : rOr rNe (rNeD K) (.ref a) (.ref b) H Q :=
  .inr ⟨_, _, .lst s (dpAll_ints ns), .lst t (dpAll_ints ms), shaped_lst ns, shaped_lst ms, by
    have e : PyData.eqv (.list (iD ns)) (.list (iD ms)) = decide (ns = ms) := eqvAll_ints ns ms
    rw [e]; exact h⟩
/-- two texts, one of them known -/
theorem wNeStr {z z' : Str} (h : Q (.bl (!decide (z = z'))) H) : rOr rNe (rNeD K) (.str z) (.str z') H Q := .inl ⟨rfl, by
  have e : decide (V.str z = V.str z') = decide (z = z') := by
    by_cases q : z = z'
    · rw [q, decide_eq_true rfl, decide_eq_true rfl]
    · rw [decide_eq_false q, decide_eq_false (fun z => q (by injection z))]
  rw [e]; exact h⟩
theorem wEqStr {z z' : Str} (h : Q (.bl (decide (z = z'))) H) : rOr rEq (rEqD K) (.str z) (.str z') H Q := .inl ⟨rfl, by
  have e : decide (V.str z = V.str z') = decide (z = z') := by
    by_cases q : z = z'
    · rw [q, decide_eq_true rfl, decide_eq_true rfl]
    · rw [decide_eq_false q, decide_eq_false (fun z => q (by injection z))]
  rw [e]; exact h⟩
theorem wProp {C : Addr} {sp : Sp} {E : XK} {te : TE} {σ : St} (h : te σ H fun x H1 => ∃ a dx fs, x = .ref a ∧ H1 a = some (.ins C dx fs) ∧ sp [.ref a] H1 Q E) : tProp C sp [] E te σ H Q := h
theorem wSqTof {L : List En} (F : Fx H L) {xs : List V} (m : En.ob a (.tup xs) ∈ L) : SqT K H a xs := F.tup m
end
end Z
namespace Z
open PySem L2 RZ
theorem at_last {ns : List Int} (h : 0 < ns.length) : atI (ns.map V.int) (-1) = some (V.int (ns.getD (ns.length - 1) 0)) := by
  unfold atI ixN
  rw [if_neg (by decide), if_pos (by rw [List.length_map]; omega)]
  have e : ((-1 : Int) + (ns.map V.int).length).toNat = ns.length - 1 := by rw [List.length_map]; omega
  rw [e]
  exact map_get (by omega)
end Z
namespace Z
open PySem L2 RZ
theorem wXf {a : Addr} {cls : Value} {d : Option Addr} {C : Addr} {f : Str} {te : TE} {σ : St} {H : Hp} {Q : VK} (h : te σ H fun x H1 => x = .ref a ∧ cls = .ref C ∧ ∃ (dd : Addr) (fs : List (Str × V)) (v : V), d = some dd ∧ H1 dd = some (.xd fs) ∧ fs.lookup f = some v ∧ Q v H1) : tXf a cls d C f te σ H Q := h
theorem wAs_yes {K : PySem.W.Frag} {c : Value} {i : Nat} {ts : Addr → Value → Option Addr → TS} {Wout : WX} {nx bk ct : St → Hp → Prop} {rt : VK} {d : Option Addr} {σ : St} {H : Hp} (e : PySem.W.exmOne K c c = some true)
    (h : ∀ a, H a = none → ts a c d ⟨fun σ' H' => nx (σ'.set i none) H', rt, fun σ' H' => bk (σ'.set i none) H', fun σ' H' => ct (σ'.set i none) H'⟩ (σ.set i (some (.ref a))) H) : WE (wAs K c i ts Wout ⟨nx, rt, bk, ct⟩) σ c d H :=
  ⟨true, e, fun _ a ha => h a ha, fun q => Bool.noConfusion q⟩
end Z

set_option Elab.async false
set_option linter.all false
set_option maxRecDepth 100000
set_option maxHeartbeats 2000500
namespace Z
open PySem L2 RZ PySem.Spec PyProof.Rows
/-! ### a try whose clauses have a name or none, mixed -/
/-- a clause: the class, the slot of its name if it has one, the suite -/
structure Cl where
  c : Value
  i : Option Nat
  ts : Addr → Value → Option Addr → TS
/-- behind a suite the name is gone -/
def gone (D : Ends) : Option Nat → Ends
  | none => D
  | some i => ⟨fun σ H => D.nx (σ.set i none) H, D.rt, fun σ H => D.bk (σ.set i none) H, fun σ H => D.ct (σ.set i none) H⟩
def held (a : Addr) (σ : L2.St) : Option Nat → L2.St
  | none => σ
  | some i => σ.set i (some (.ref a))
def wMix (K : PySem.W.Frag) (Wout : WX) (D : Ends) : List Cl → WX
  | [] => Wout
  | k :: r => fun cls d σ H => ∃ b, PySem.W.exmOne K cls k.c = some b ∧
    (b = true → ∀ a, H a = none → k.ts a cls d (gone D k.i) (held a σ k.i) H) ∧
    (b = false → wMix K Wout D r cls d σ H)
inductive ClsOk (X : Cx) : List ExceptHandler → List Cl → Prop
  | nil : ClsOk X [] []
  | bare {x : Str} {c : Value} {ts : Addr → Value → Option Addr → TS} {b₀ : Stmt} {su : List Stmt} {np ps : Pos} {hs : List ExceptHandler} {l : List Cl}
      (hc : Names X x c) (hsu : ∀ (a : Addr) (oe : Obj) (cls : Value) (d : Option Addr) (pn : List (Addr × Obj)), Zc cls d oe →
        (∃ vs, oe.data = .fields vs) → PSs (X.suite a ((a, oe) :: pn)) (b₀ :: su) (ts a cls d)) (r : ClsOk X hs l) :
      ClsOk X (.ExceptHandler (some (.Name x np)) none (b₀ :: su) ps :: hs) (⟨c, none, ts⟩ :: l)
  | named {x n : Str} {i : Nat} {c : Value} {ts : Addr → Value → Option Addr → TS} {b₀ : Stmt} {su : List Stmt} {np ps : Pos} {hs : List ExceptHandler} {l : List Cl}
      (hN : X.N.Nodup) (hi : X.N[i]? = some n) (hln : X.env.kindOf n = some .local)
      (hc : Names X x c) (hsu : ∀ (a : Addr) (oe : Obj) (cls : Value) (d : Option Addr) (pn : List (Addr × Obj)), Zc cls d oe →
        (∃ vs, oe.data = .fields vs) → PSs (X.suite a ((a, oe) :: pn)) (b₀ :: su) (ts a cls d)) (r : ClsOk X hs l) :
      ClsOk X (.ExceptHandler (some (.Name x np)) (some n) (b₀ :: su) ps :: hs) (⟨c, some i, ts⟩ :: l)
section
variable {X : Cx} {body : List Stmt} {h₀ : ExceptHandler} {hds : List ExceptHandler} {l : List Cl} {pos : Pos} {tb : WX → TS} {Wout : WX}
theorem ps_try_mix (hs : X.stack = X.env :: X.outer) (hf : X.env.frame = some X.env.locals) (tk : Takes X Wout)
    (hb : ∀ (W : WX) (pn : List (Addr × Obj)) (xe : Value → Shared → Prop), Takes (X.tr pn xe) W →
      PassesOwn (model X.prog X.w) X.A X.env xe → PSs (X.tr pn xe) body (tb W))
    (hh : ClsOk X (h₀ :: hds) l) : PS X (.Try body (h₀ :: hds) [] [] pos) (fun D σ H => tb (wMix X.K Wout D l) D σ H) := by
  refine ⟨fun pins
        s σ H D I h => ?_⟩
  have ok := I.ok
  have frs0 : X.A.frames = some (X.env :: X.outer) := by rw [ok.frames, hs]
  have run := (hb (wMix X.K Wout D l) (X.pn ++ pins)
    (fun e s₁ => wpAny (model X.prog X.w) X.A (noteFrame e X.env) (fun _ s₂ => wpAny (model X.prog X.w) X.A (setFlight e none)
      (fun _ s₃ => wpAny (model X.prog X.w) X.A (handleBy e X.env (h₀ :: hds)) (SP X pins D) X.xe s₃) X.xe s₂) X.xe s₁)
    (fun u s' xx => ?caught) PassesOwn.looking).run [] s σ H D (I.toTry _) h
  · refine wpAny_Try_except (wpAny_mono run (fun f s1 done => ?_) fun e s1 z => z)
    cases f with
    | next =>
      obtain ⟨σ1, H1, J1, q1⟩ := done
      exact wpAny_execs_nil ⟨σ1, H1, J1.ofTry ok, q1⟩
    | brk => exact done.imp fun σ1 ⟨H1, J1, q1⟩ => ⟨H1, J1.ofTry ok, q1⟩
    | cont => exact done.imp fun σ1 ⟨H1, J1, q1⟩ => ⟨H1, J1.ofTry ok, q1⟩
    | ret u =>
      obtain ⟨v, σ1, H1, J1, r1, q1⟩ := done
      exact ⟨v, σ1, H1, J1.ofTry ok, r1, q1⟩
  obtain ⟨a, B, sI, pins', σ', H', cls, d, rfl, J', nb, up, sky, na, os, ag, wish⟩ := xx
  have J : Inv X pins σ'
        H' sI := J'.ofTry ok
  have sky1 : Sky B (X.env :: X.outer) a (Zc cls d) X.env.locals s'.heap := by rw [← hs]; exact sky
  show wpAny (model X.prog X.w) X.A
        (noteFrame (.ref a) X.env) _ _ _
  refine Sky.land Zc.steady frs0 hf sky1 fun h3 fl3 up3 => ?_
  have up13 := up.trans up3
  have J3 : Inv X pins σ' H' { s' with heap := h3 } := J.landed nb fl3.1 up13 os ag
  obtain ⟨oe3, vs3, he3,
        hz3, hd3⟩ := fl3.there
  have away : a ∉ frs (X.env :: X.outer) := fun hm => by
    obtain ⟨_, o', e', q⟩ := fl3.2.2.1.mem hm
    rw [he3] at e'
    cases e'
    exact q _ hd3
  have nL : a ≠ X.env.locals := fun z => away (List.mem_filterMap.mpr ⟨X.env, List.mem_cons_self, by rw [hf, z]⟩)
  have nF : a ∉ X.fs
        := fun hm => by
    obtain ⟨e, he, q⟩ :=
          List.mem_filterMap.mp hm
    exact away (List.mem_filterMap.mpr ⟨e, List.mem_cons_of_mem _ he, q⟩)
  have S3 := J3.suite
        he3 hd3 na nL nF
  have asks : ∀ {x : Str} {c : Value} {np : Pos} {Q E : Value → Shared → Prop}, Names X x c → Q c { s' with heap := h3 } →
      wpAny (model X.prog X.w) (X.A.mark (some (.ref a))) (eval (.Name x np) X.env) Q E { s' with heap := h3 } := fun {x c np Q E} hc q => by
    obtain ⟨hg, hdbg, hm
          | ⟨hm, hv, hnn⟩⟩ := hc
    · exact ld_glob (X := X.suite a ((a,
          oe3) :: (X.pn ++ pins))) S3 hg hm q hdbg
    · exact ld_blt (X := X.suite a ((a, oe3)
          :: (X.pn ++ pins))) S3 hg hm hv q hnn hdbg
  have LT : PySem.W.Looks (model X.prog X.w) h3 (typeOf (.ref a)) cls :=
    fun A Q E s k q => wpAny_typeOf_ref (k _ _ he3) (by rw [hz3.1]; exact q)
  have each : ∀ {hs' : List ExceptHandler} {l' : List Cl}, ClsOk X hs' l' → wMix X.K Wout D l' cls d σ' H' →
      wpAny (model X.prog X.w) X.A (handleBy (.ref a) X.env hs') (SP X pins D) X.xe { s' with heap := h3 } := by
    intro hs' l' hk
    induction hk with
    | nil =>
      intro w
      refine wpAny_handleBy_nil ?_
      obtain ⟨k1, k2, k3, oe, vs, T, oT,
            ts', he, hz, hd, h1, hr⟩ := id fl3
      unfold PySem.passOn
      refine wpAny_bind
            (wpAny_field he hd h1 ?_)
      rw [if_neg (show ¬ ((Value.ref T ==
            Value.none) = true) from by simp)]
      have out : wpAny (model X.prog X.w) X.A (setFlight (.ref a) X.env.frame)
          (fun _ s4 => wpAny (model X.prog X.w) X.A (throw (.ref a) : Sem Flow) (SP X pins D) X.xe s4) X.xe { s' with heap := h3 } := by
        rw [hf]
        refine HandSPX.setFlight_upZ fl3 fun
              h4 hh4 up4 => wpAny_throw (tk _ _ ?_)
        exact ⟨a, B, sI, pins, σ', H', cls, d, rfl, J, nb, up13.trans up4, .inr (.inr (by rw [hs]; exact hh4)), na, os, ag, w⟩
      first
        | exact wpAny_bind (wpAny_pure (wpAny_bind out))
        | exact wpAny_bind out
    | @bare x c ts b₀ su np ps hs2 l2 hc hsu r ih =>
      intro w
      obtain ⟨b, hb1, yes, no⟩ := w
      refine wpAny_handleBy_cons
            (codeAny_handlers_test ?_) (by intro q; cases q)
      have LM := PySem.W.exm_one (M := model X.prog X.w) J3.kIn LT hb1
      refine asks hc (LM.here ?_)
      cases b with
      | false =>
        show wpAny _ X.A (handleBy (.ref a) X.env hs2) _ _ _
        exact ih (no rfl)
      | true =>
        refine codeAny_handlers_suite (HandSPX.lands_againZ fl3 fun h4 fl4 up4 => ?_)
        have J4 : Inv X pins σ' H' { s' with heap := h4 } := J.landed nb fl4.1 (up13.trans up4) os ag
        obtain ⟨oe4, vs4, he4,
              hz4, hd4⟩ := fl4.there
        have S4 := J4.suite
              he4 hd4 na nL nF
        refine wpAny_mono ((hsu a oe4 cls d (X.pn ++ pins) hz4 ⟨_, hd4⟩).run [] _ _ H' _ S4 (yes rfl a na)) (fun f s6 done => ?_) (fun _ _ z => False.elim z)
        cases f with
        | ret u =>
          obtain ⟨v6, σ6, H6, S6, r6, q6⟩ := done
          exact ⟨_, _, _,
                S6.unsuite ok, r6, q6⟩
        | next => exact done.imp fun σ6 ⟨H6, S6, q6⟩ => ⟨H6, S6.unsuite ok, q6⟩
        | brk => exact done.imp fun σ6 ⟨H6, S6, q6⟩ => ⟨H6, S6.unsuite ok, q6⟩
        | cont => exact done.imp fun σ6 ⟨H6, S6, q6⟩ => ⟨H6, S6.unsuite ok, q6⟩
    | @named x n i c ts b₀ su np ps hs2 l2 hN hi hln hc hsu r ih =>
      intro w
      obtain ⟨b, hb1, yes, no⟩ := w
      refine wpAny_handleBy_cons
            (codeAny_handlers_test ?_) (by intro q; cases q)
      have LM := PySem.W.exm_one (M := model X.prog X.w) J3.kIn LT hb1
      refine asks hc (LM.here ?_)
      cases b with
      | false =>
        show wpAny _ X.A (handleBy (.ref a) X.env hs2) _ _ _
        exact ih (no rfl)
      | true =>
        refine codeAny_handlers_suite_as (HandSPX.lands_againZ fl3 fun h4 fl4 up4 => ?_)
        have J4 : Inv X pins σ' H' { s' with heap := h4 } := J.landed nb fl4.1 (up13.trans up4) os ag
        obtain ⟨oe4, vs4, he4,
              hz4, hd4⟩ := fl4.there
        have S4 := J4.suite
              he4 hd4 na nL nF
        refine store_ok (X := X.suite a ((a, oe4) :: (X.pn ++ pins))) (v := .ref a) S4 hN hi (.inl hln) rfl (fun s5 S5 => ?_) (.inr hln)
        refine wpAny_mono ((hsu a oe4 cls d (X.pn ++ pins) hz4 ⟨_, hd4⟩).run [] s5 _ H' _ S5 (yes rfl a na)) (fun f s6 done => ?_) (fun _ _ z => False.elim z)
        have free : ∀ {σ6 : L2.St} {H6 : Hp} {Q : Shared → Prop}, Inv (X.suite a ((a, oe4) :: (X.pn ++ pins))) [] σ6 H6 s6 →
            (∀ s7, Inv X pins (σ6.set i none) H6 s7 → Q s7) →
            wpAny (model X.prog X.w) X.A (do bindName X.env n .none; unbindBehindTheSuite X.env n ps) (fun _ s7 => Q s7) X.xe s6 :=
          fun {σ6 H6 Q} S6 hq => gone_ok (S6.unsuite ok) hN hi hln hq
        cases f with
        | ret u =>
          obtain ⟨v6, σ6, H6, S6, r6, q6⟩ := done
          exact free S6 fun s7 J7 => ⟨_, _, _, J7, r6, q6⟩
        | next =>
          obtain ⟨σ6, H6, S6, q6⟩ := done
          exact free S6 fun s7 J7 => ⟨_, _, J7, q6⟩
        | brk =>
          obtain ⟨σ6, H6, S6, q6⟩ := done
          exact free S6 fun s7 J7 => ⟨_, _, J7, q6⟩
        | cont =>
          obtain ⟨σ6, H6, S6, q6⟩ := done
          exact free S6 fun s7 J7 => ⟨_, _, J7, q6⟩
  exact each hh wish
end
end Z
namespace Z
open PySem L2 RZ PySem.Spec PyProof.Rows
section
variable {X : Cx} {C : Addr} {bmB :
      List Value} {B newId initId : String}
/-- X() of an own error without an __init__ -/
theorem pmk_own0 {x : Str} {p pos : Pos} (F : ExcBaseFacts B newId initId bmB) (q : PySem.W.excIn X.K C bmB newId = true)
    (gC : X.mg x = some (.ref C)) (kC : PySem.W.keepIn X.K (.ref C) = true) (r : Raises X (.ref C)) (hg : Gl X x)
    (hdb : (x == ("__debug__" : Str)) = false := by decide) : PMk X (.Call (.Name x p) [] [] pos) (fun _ H Q => Q (.ref C) none H) := by
  intro pins s σ H Q I h
  refine wpAny_Call_Name_kw
        (ld_glob I hg gC ?_ hdb)
  refine PySem.W.callWith_K0 I.kIn kC ?_
  show wpAny _ _ (call (.ref C) []) _ _ _
  obtain ⟨bm, N, nm, qn, bs, hdct, sn, sub, ab, col, dd, k0, k1, k2, k3, k5, mN, hC, hN, hni, T⟩ := exc_obj I.kIn q
  refine wpAny_call_exc_subT F T hC hN hni (fun h' e hm => ?_) (Nat.zero_le _)
  exact mk_of I hm r h (I.hok.gone hm.new)
end
end Z
/-! ### a method is called in a try; an own error without arguments is raised -/
namespace Z
open PySem L2 RZ
section
variable {X : Cx} {CX : CXT} {k : Nat} {C : Addr} {ps : List Str} {sp : Sp} {E : L2.St → XK} {m x : Str} {p pos apos : Pos} {e o : Expr} {es : List Expr} {ta : TE} {t : TA}
def tMethS (C : Addr) (m : Str) (sp : Sp) (E : L2.St → XK) (ta : TE) (t : TA) : TE := fun σ H Q => ta σ H fun x H1 =>
  ∃ a dx fs, x = .ref a ∧ H1 a = some (.ins C dx fs) ∧ fs.lookup m = none ∧ t σ H1 fun vs H2 => sp (x :: vs) H2 Q (E σ)
theorem pe_methSO {pl : Sem Bool} (O : MethO CX X.prog X.w X.K X.mg X.base C m k ps [] sp) (c : Cls X.K C) (hr : Room k X.A)
    (hx : ∀ σ, PassesAt CX X σ (E σ)) (he : PE X o ta) (ha : PA X (e :: es) t)
    (hst : starEach (e :: es) X.env = (false, eval e X.env) :: starEach es X.env := by rfl)
    (hpl : (backTo pos (starEach es X.env)).any (·.1) = false := by rfl)
    (ht : eval (.Call (.Attribute o m
          apos) (e :: es) [] pos) X.env = (do
      let ov ← eval o X.env
      standAt apos.atName
      let (f, first) ← holding
            [ov] (getMethod ov m pl)
      callWith pos f first (backTo pos (starEach (e :: es)
            X.env)) (backToKw pos (keywordEach [] X.env))) := by rfl) :
    PE X (.Call (.Attribute o m apos) (e ::
          es) [] pos) (tMethS C m sp E ta t) := by
  obtain ⟨f, fd, ds, hm, hb, v, F⟩ := O
  cases v
  refine ⟨fun pins
        s σ H Q I h => ?_⟩
  refine PySem.W.methodCall_KW (pl := pl) (thn (he.run pins s σ H _
        I h) fun u s1 ⟨x, H1, I1, rx, a, dx, fs, ex, ea, l, q⟩ => ?_) ht
  subst ex
  cases rx
  refine getmeth_ok
        I1 ea c hm l ?_
  refine PySem.W.callWith_K (first := [.ref a]) (h₀ := X.base) I.ok.mod.kin hm.kp (thn
        (ha.run pos pins s1 σ H1 _ I1 q) fun us s2 ⟨vs, H2, I2, r, q2⟩ => ⟨I2.kIn, ?_⟩) hst hpl
  exact run_fnS (us := .ref a :: us) (vs := .ref
        a :: vs) F hr hb (hx σ) I2 (.cons rfl r) q2
theorem wMethS {σ : L2.St} {H : Hp} {Q : VK} (h : ta σ H fun x H1 => ∃ a dx fs, x = .ref a ∧ H1 a = some (.ins C dx fs) ∧ fs.lookup m = none ∧ t σ H1 fun vs H2 => sp (x :: vs) H2 Q (E σ)) : tMethS C m sp E ta t σ H Q := h
theorem wMeth {dvs : List V} {E : XK} {σ : L2.St} {H : Hp} {Q : VK} (h : ta σ H fun x H1 => ∃ a dx fs, x = .ref a ∧ H1 a = some (.ins C dx fs) ∧ fs.lookup m = none ∧ t σ H1 fun vs H2 => sp (x :: (vs ++ dvs)) H2 Q E) : tMeth C m sp dvs E ta t σ H Q := h
/-- an own error class that is made without arguments -/
structure ErrF0 (K : PySem.W.Frag) (C : Addr) : Prop where
  ex0 : PySem.W.excIn K C [.type "ValueError", .type "Exception", .type "BaseException", .type "object"] "ValueError.__new__" = true
  kp : PySem.W.keepIn
        K (.ref C) = true
  exC : PySem.W.subIn K (.ref C)
        (.type "BaseException") = some true
  tyC : PySem.W.typeIn K (.ref
        C) = some (.type "type")
theorem pmk_err00 (T : ErrF0 X.K C) (hm : X.mg x = some (.ref C)) (hg : Gl X x) (hdb : (x == ("__debug__" : Str)) = false := by decide) :
    PMk X (.Call (.Name x p) [] [] pos) (fun _ H Q => Q (.ref C) none H) :=
  pmk_own0 PySem.F.excBase_ValueError T.ex0 hm T.kp (raises_own T.exC T.tyC) hg hdb
end
end Z
namespace Z
open PySem L2
theorem exm_of {K : PySem.W.Frag} {cls : Value} {C : Addr} {b : Bool} (hb : PySem.W.subIn K (.ref C) (.type "BaseException") = some true)
    (ic : PySem.W.isClsIn K C = true) (ty : PySem.W.typeIn K (.ref C) = some (.type "type")) (q : PySem.W.subIn K cls (.ref C) = some b) :
    PySem.W.exmOne K cls (.ref C) = some b := by
  have i' : (PySem.W.clsIn K C).isSome = true := ic
  have e2 : ((PySem.W.clsIn K C).isSome && PySem.W.typeIn K (.ref C) == some (.type "type")) = true := by
    rw [i', ty]
    rfl
  have e3 : PySem.W.kitCls K cls (.ref C) = some b := by
    unfold PySem.W.kitCls
    exact (if_pos e2).trans q
  unfold PySem.W.exmOne
  rw [hb]
  exact e3
end Z
namespace Z
open PySem L2
/-- what a callee lets out is let out -/
theorem passE {X : Cx} {E : XK} (tk : Takes X (fun cls d _ H => E cls d H)) : Passes (L2.CX X.prog X.w) X E := fun pins σ H s e s' I c => passAt (W := fun cls d _ H => E cls d H) tk σ pins H s e s' I c
end Z
namespace Z
open PySem L2
theorem wStarL {K : PySem.W.Frag} {te : TE} {t : TA} {σ : L2.St} {H : Hp} {Q : List V → Hp → Prop} (h : te σ H fun x H1 => ∃ p xs, x = V.ref p ∧ (SqT K H1 p xs ∨ SqL K H1 p xs) ∧ t σ H1 fun ys H2 => Q (xs ++ ys) H2) : StX.tStar K te t σ H Q := h
theorem starL {K : PySem.W.Frag} {a : Addr} {xs : List V} {H : Hp} {R : List V → Prop} (s : SqL K H a xs) (h : R xs) : ∃ p xs, V.ref a = V.ref p ∧ (SqT K H p xs ∨ SqL K H p xs) ∧ R xs := ⟨a, xs, rfl, .inr s, h⟩
end Z
namespace Z
open PySem L2
section
variable {K : PySem.W.Frag} {Wout : WX} {D : Ends} {k : Cl} {r : List Cl} {cls : Value} {d : Option Addr} {σ : L2.St} {H : Hp}
theorem wMix_yes (e : PySem.W.exmOne K cls k.c = some true) (h : ∀ a, H a = none → k.ts a cls d (gone D k.i) (held a σ k.i) H) : WE (wMix K Wout D (k :: r)) σ cls d H :=
  ⟨true, e, fun _ => h, fun q => Bool.noConfusion q⟩
theorem wMix_no (e : PySem.W.exmOne K cls k.c = some false) (h : WE (wMix K Wout D r) σ cls d H) : WE (wMix K Wout D (k :: r)) σ cls d H :=
  ⟨false, e, fun q => Bool.noConfusion q, fun _ => h⟩
end
end Z

set_option Elab.async false
set_option linter.all false
set_option maxRecDepth 100000
set_option maxHeartbeats 2000500
namespace Z
open PySem PySem.Spec
      PyProof.Rows
/-- a new list, then all of vs in it -/
abbrev poured (h : Heap) (vs : List Value) : Heap := (h.push (seqObj "list" #[] 0)).update h.objs.size (Obj.mapSeq (· ++ vs.toArray))
section
variable {prog : Program} {w : World} {A :
      Around} {E : Value → Shared → Prop} {s : Shared}
theorem collect_tuple {l : Addr} {vs : List Value} {Q : List Value → Shared → Prop} (hl : s.heap.IsTuple l vs.toArray)
    (h : Q vs { s with heap := poured s.heap vs })
    (hsz : vs.length ≤ sizeLine := by size_fits) : wpAny (model prog w) A (collect (.ref l)) Q E s := by
  obtain ⟨o, ho, hc,
        n, hd⟩ := id hl
  unfold collect
  refine wpAny_bind (wpAny_runValue
        (codeAny_builtin entry_proto_collect' ?_))
  show wpAny _ _ (do again (.builtin "list.__iadd__"
        ⟨[← newList [], .ref l], []⟩)) _ _ s
  refine wpAny_bind (wpAny_newList (wpAny_pure ⟨Code.quiet_builtin
        _ (by decide +kernel), codeAny_builtin entry_list_iadd' ?_⟩))
  show wpAny _ _ (Builtin.List.listExtendWith (.ref s.heap.objs.size) (.ref l) (.ref s.heap.objs.size)) _ _
    { s with heap := s.heap.push (seqObj "list" #[] 0) }
  unfold
        Builtin.List.listExtendWith
  have there : (s.heap.push (seqObj "list" #[] 0)).get? l = some o := Heap.get?_push_of_some _ ho
  refine wpAny_bind (wpAny_typeOf (T := "tuple") ⟨o, there, hc⟩ ?_)
  have tt : (Value.type "tuple" == Value.type "tuple") = true := by rfl
  rw [if_pos (by rw [tt, Bool.or_true])]
  refine wpAny_bind (listItems_at there hd (wpAny_bind (listItems_at (xs := #[]) (n := 0) (Heap.get?_push_size _ rfl) rfl ?_)))
  rw [if_neg (by simp)]
  refine wpAny_bind (listUpdate_at (xs := #[]) (n := 0) (Heap.get?_push_size _ rfl) rfl ?_ (Nat.zero_le _)
    (by show (#[] ++ vs.toArray).size ≤ sizeLine + 1; simp only [Array.size_append, List.size_toArray, List.length_nil]; omega))
  refine wpAny_pure ?_
  show wpAny (model
        prog w) A (do
      let o ← load s.heap.objs.size
      match o.data with
      | .seq xs _ => pure xs.toList
      | _ => unsupported "internal:collect") Q E { s with heap := poured s.heap vs }
  refine wpAny_bind (wpAny_load (get?_update_seq
        (Heap.get?_push_size _ rfl) _) ?_)
  show wpAny _ _ (pure ((#[] : Array
        Value) ++ vs.toArray).toList) Q E _
  have e : ((#[] : Array Value) ++ vs.toArray).toList = vs := by simp
  rw [e]
  exact wpAny_pure h
theorem sorted_intsT {l : Addr} {vs : List Value} {ns : List Int} {Q : Value → Shared → Prop} (ht : s.heap.IsTuple l vs.toArray) (hI : IntsAre vs ns) (h64 : vs.length < 64)
    (h : ∀ (out : Array Value) (ns' : List Int), IntsAre out.toList ns' → ns'.Perm ns → ns'.Pairwise (· ≤ ·) →
      Q (.ref (s.heap.objs.size + 1)) { s with heap := sortedAll s.heap vs out }) :
    wpAny (model prog w) A (call (.builtin
          "sorted") [.ref l]) Q E s := by
  refine Calls.call_function_entry kind_sorted
        plain_sorted entry_sorted (args_sorted1 _) ?_
  unfold Builtin.«sorted»
  refine wpAny_bind (m := checkCount "sorted" 1 1 _) (wpAny_pure (wpAny_bind (collect_tuple ht (wpAny_bind (wpAny_newList ?_)))))
  have sz : (poured s.heap vs).objs.size = s.heap.objs.size + 1 := by
    rw [Heap.size_update,
          size_push']
  have at1 : ((poured s.heap vs).push (seqObj "list" vs.toArray 0)).get? (s.heap.objs.size + 1) =
      some (seqObj "list" vs.toArray 0) := by
    rw [← sz]
    exact Heap.get?_push_size
          _ rfl
  show wpAny _ _ _ _ _ { s with heap := (poured s.heap vs).push (seqObj "list" vs.toArray 0) }
  rw [sz]
  exact wpAny_bind (wpAny_holding (wpAny_call_entry slot_list_sort ⟨_, at1, rfl⟩ entry_list_sort
    (list_sort_tree at1 hI h64 fun out ns' a1 a2 a3 => ⟨_, rfl, wpAny_pure ⟨_, rfl, h out ns' a1 a2 a3⟩⟩) (args_list_sort _)))
end
open L2
/-- sorted of a tuple of ints -/
def rSortedTu (K : PySem.W.Frag) : List V → Hp → VK → Prop := fun vs H Q => ∃ (a : Addr) (ns : List Int), vs = [V.ref a] ∧ SqT K H a (ns.map V.int) ∧ ns.length < 64 ∧
  ∀ (ns' : List Int) (p : Addr), ns'.Perm ns → ns'.Pairwise (· ≤
        ·) → H p = none → Q (.ref p) (upd H p (.lst (ns'.map V.int)))
theorem cr_sortedTu {X : Cx} : CallR X (.builtin "sorted") (rSortedTu X.K) := by
  intro pins s σ
        H vs us Q I r h
  obtain ⟨a, ns, rfl,
        hs, h64, q⟩ := h
  obtain ⟨its, rv, hl, _⟩ := I.tuple hs
  rw [Vals.ref1 r]
  have hi := rv.ints
  refine sorted_intsT (show s.heap.IsTuple a its.toArray from hl) hi (by rw [hi.length]; exact h64) fun out ns' h1 h2 h3 => ?_
  obtain ⟨ep, he'⟩ :=
        PyProof.Rows.sortedAll_at s.heap its out
  have len : (ns'.map V.int).length ≤ sizeLine := by rw [List.length_map, h2.length_eq]; exact small64 h64
  exact ⟨.ref _, upd H (s.heap.objs.size + 1) (.lst (ns'.map V.int)),
    I.laid (t' := s.toks) (fun _ _ => PyProof.Rows.sortedAll_old) (Nat.le_succ _) ⟨len, out.toList, ep, vals_of_ints h1, he'⟩, rfl, q ns' _ h2 h3 (I.hok.fresh (Nat.le_succ _))⟩
theorem wSortedTu {K : PySem.W.Frag} {H : Hp} {L : List En} {a : Addr} {ns : List Int} {Q : VK} (s : SqT K H a (ns.map V.int)) (n : ns.length < 64) (F : Fx H L)
    (k : ∀ (ms : List Int) p H', ms.Perm ns → ms.Pairwise (· ≤ ·) → Fx H' (.ob p (.lst (ms.map V.int)) :: L) → Q (.ref p) H') : rSortedTu K [.ref a] H Q :=
  ⟨a, ns, rfl, s, n, fun ms p q r hp => k ms p _ q r (F.new hp)⟩
end Z
namespace Z
open PySem L2
section
variable {K : PySem.W.Frag} {H : Hp} {L : List En} {a b : Addr} {ns ms : List Int} {z : Int} {Q : VK}
theorem inV_ints (z : Int) : ∀ ns : List Int, inV (.int z) (ns.map V.int) = decide (z ∈ ns)
  | [] => rfl
  | a :: r => by
    have ih := inV_ints z r
    show (eqV (.int a) (.int z) || inV (.int z) (r.map V.int)) = decide (z ∈ a :: r)
    have e : eqV (.int a) (.int z) = decide (a = z) := by
      show (a == z) = decide (a = z)
      by_cases q : a = z <;> simp [q]
    rw [ih, e]
    by_cases h : a = z
    · subst h; simp
    · have h' : ¬ z = a := fun q => h q.symm
      simp [h, h']
theorem flat_ints (ns : List Int) : (ns.map V.int).all flatV = true := by
  rw [List.all_eq_true]
  intro x hx
  obtain ⟨z, _, rfl⟩ := List.mem_map.mp hx
  rfl
theorem wInTu (s : SqT K H a (ns.map V.int)) (h : Q (.bl (decide (z ∈ ns))) H) : rIn K false (.int z) (.ref a) H Q :=
  ⟨a, _, rfl, .inr s, rfl, flat_ints ns, by rw [← inV_ints] at h; exact h⟩
theorem wCatTu (s : SqT K H a (ns.map V.int)) (t : SqT K H b (ms.map V.int)) (n : ns ≠ []) (n' : ms ≠ []) (l : ns.length + ms.length ≤ 1000000) (F : Fx H L)
    (k : ∀ p H', Fx H' (.ob p (.tup ((ns ++ ms).map V.int)) :: L) → Q (.ref p) H') : rOr rAddI (rOr rAddS (rOr rCat (rCatT K))) (.ref a) (.ref b) H Q :=
  .inr (.inr (.inr ⟨a, b, _, _, rfl, rfl, s, t, by simpa using n, by rw [List.length_map, List.length_map]; exact Nat.le_trans l line_big, fun e => absurd e (by simpa using n'), fun _ p hp => by
    rw [← List.map_append]
    exact k p _ (F.new hp)⟩))
end
end Z
namespace Z
open PySem L2
section
variable {K : PySem.W.Frag} {H : Hp} {L : List En} {q q' p p' : Addr} {ns : List Int} {l r : Int} {Q : VK}
/-- a list of a row of ints and two ints -/
def nestD (ns : List Int) (l r : Int) : List PyData := [.tuple (iD ns), .int l, .int r]
theorem nest_dp (F : Fx H L) (n : En.ob p (.tup (ns.map V.int)) ∈ L) : DpAll K H [.ref p, .int l, .int r] (nestD ns l r) :=
  .cons (.tup (F.tup n) (dpAll_ints ns)) (.cons (.int l) (.cons (.int r) .nil))
theorem nest_shaped (ns : List Int) (l r : Int) : SeqAt.shaped (.list (nestD ns l r)) = true := by
  unfold SeqAt.shaped
  rw [Bool.and_eq_true]
  refine ⟨?_, decide_eq_true ?_⟩
  · show (PyData.canLayAll0 (iD ns) && (PyData.canLayAll0 [PyData.int l, PyData.int r])) = true
    rw [canLay_ints]
    rfl
  · show max (PyData.depthAll (iD ns) + 1) (PyData.depthAll [PyData.int l, PyData.int r]) + 1 ≤ 64
    rw [depth_ints]
    show max (0 + 1) (max 0 (max 0 0)) + 1 ≤ 64
    decide
theorem nest_eqv (ns : List Int) (l r : Int) : PyData.eqv (.list (nestD ns l r)) (.list (nestD ns l r)) = true := by
  show (PyData.eqvAll (iD ns) (iD ns) && ((l == l) && ((r == r) && true))) = true
  rw [eqvAll_ints, decide_eq_true rfl, beq_self_eq_true, beq_self_eq_true]
  rfl
theorem wNeNest (F : Fx H L) (m : En.ob q (.lst [.ref p, .int l, .int r]) ∈ L) (n : En.ob p (.tup (ns.map V.int)) ∈ L)
    (m' : En.ob q' (.lst [.ref p', .int l, .int r]) ∈ L) (n' : En.ob p' (.tup (ns.map V.int)) ∈ L) (h : Q (.bl false) H) :
    rOr rNe (rNeD K) (.ref q) (.ref q') H Q :=
  .inr ⟨_, _, .lst (F.lst m) (nest_dp F n), .lst (F.lst m') (nest_dp F n'), nest_shaped ns l r, nest_shaped ns l r, by
    rw [nest_eqv ns l r]
    exact h⟩
end
end Z
namespace Z
open PySem L2
section
variable {X : Cx} {CX : CXT} {k : Nat} {C : Addr} {ps : List Str} {sp : Sp} {E : XK} {m : Str} {pos apos : Pos} {e o : Expr} {es : List Expr} {ta : TE} {t : TA}
theorem pe_methO {pl : Sem Bool} (O : MethO CX X.prog X.w X.K X.mg X.base C m k ps [] sp) (c : Cls X.K C) (hr : Room k X.A)
    (hx : Passes CX X E) (he : PE X o ta) (ha : PA X (e :: es) t)
    (hst : starEach (e :: es) X.env = (false, eval e X.env) :: starEach es X.env := by rfl)
    (hpl : (backTo pos (starEach es X.env)).any (·.1) = false := by rfl)
    (ht : eval (.Call (.Attribute o m
          apos) (e :: es) [] pos) X.env = (do
      let ov ← eval o X.env
      standAt apos.atName
      let (f, first) ← holding
            [ov] (getMethod ov m pl)
      callWith pos f first (backTo pos (starEach (e :: es)
            X.env)) (backToKw pos (keywordEach [] X.env))) := by rfl) :
    PE X (.Call (.Attribute o m apos) (e :: es) [] pos) (tMeth C m sp [] E ta t) := by
  obtain ⟨f, fd, ds, hm, hb, v, F⟩ := O
  cases v
  exact pe_meth he c hm F hr hb .nil hx ha hst hpl ht
end
end Z

set_option Elab.async false
set_option linter.all false
set_option maxRecDepth 100000
set_option maxHeartbeats 2000500
namespace Z
open PySem L2 RZ
/-! ### a middle: what holds where two ways meet -/
section
variable {σ : L2.St} {H : Hp} {Q : VK} {ts tu : TS} {te tf : TE} {nx bk ct : L2.St → Hp → Prop} {rt : VK} {b : Bool}
theorem wMidS (C : L2.St → Hp → Prop) (h : ∀ N : L2.St → Hp → Prop, (∀ σ' H', C σ' H' → N σ' H') → ts ⟨N, rt, bk, ct⟩ σ H) (k : ∀ σ' H', C σ' H' → nx σ' H') : ts ⟨nx, rt, bk, ct⟩ σ H := h nx k
theorem wMidI (C : L2.St → Hp → Prop) (h : ∀ N : L2.St → Hp → Prop, (∀ σ' H', C σ' H' → N σ' H') → if b = true then ts ⟨N, rt, bk, ct⟩ σ H else tu ⟨N, rt, bk, ct⟩ σ H) (k : ∀ σ' H', C σ' H' → nx σ' H') :
    if b = true then ts ⟨nx, rt, bk, ct⟩ σ H else tu ⟨nx, rt, bk, ct⟩ σ H := h nx k
theorem wMidE (C : V → Hp → Prop) (h : ∀ R : VK, (∀ v H', C v H' → R v H') → te σ H R) (k : ∀ v H', C v H' → Q v H') : te σ H Q := h Q k
theorem wMidV (C : V → Hp → Prop) (h : ∀ R : VK, (∀ v H', C v H' → R v H') → if b = true then te σ H R else tf σ H R) (k : ∀ v H', C v H' → Q v H') :
    if b = true then te σ H Q else tf σ H Q := h Q k
end
end Z
/-! ### data by the ledger -/
namespace Z
open PySem L2 RZ
mutual
inductive Dt (L : List En) : V → PyData → Prop
  | non : Dt L .non .none
  | bl (b : Bool) : Dt L (.bl b) (.bool b)
  | int (i : Int) : Dt L (.int i) (.int i)
  | str (x : Str) : Dt L (.str x) (.str x)
  | lst {a : Addr} {xs : List V} {ds : List PyData} (m : En.ob a (.lst xs) ∈ L) (h : DtA L xs ds) : Dt L (.ref a) (.list ds)
  | tup {a : Addr} {xs : List V} {ds : List PyData} (m : En.ob a (.tup xs) ∈ L) (h : DtA L xs ds) : Dt L (.ref a) (.tuple ds)
inductive DtA (L : List En) : List V → List PyData → Prop
  | nil : DtA L [] []
  | cons {v : V} {vs : List V} {d : PyData} {ds : List PyData} (h : Dt L v d) (r : DtA L vs ds) : DtA L (v :: vs) (d :: ds)
end
section
variable {L L' : List En} {K : PySem.W.Frag} {H : Hp}
mutual
theorem Dt.mono' (s : ∀ e ∈ L, e ∈ L') : ∀ (d : PyData) (v : V), Dt L v d → Dt L' v d
  | .none, _, h => by cases h; exact .non
  | .bool b, _, h => by cases h; exact .bl b
  | .int i, _, h => by cases h; exact .int i
  | .str x, _, h => by cases h; exact .str x
  | .list ds, _, h => by
    cases h with
    | lst m a => exact .lst (s _ m) (DtA.mono' s ds _ a)
  | .tuple ds, _, h => by
    cases h with
    | tup m a => exact .tup (s _ m) (DtA.mono' s ds _ a)
  | .dict _, _, h => by cases h
theorem DtA.mono' (s : ∀ e ∈ L, e ∈ L') : ∀ (ds : List PyData) (vs : List V), DtA L vs ds → DtA L' vs ds
  | [], _, h => by cases h; exact .nil
  | d :: ds, _, h => by
    cases h with
    | cons a r => exact .cons (Dt.mono' s d _ a) (DtA.mono' s ds _ r)
end
mutual
theorem Dt.dp' (F : Fx H L) : ∀ (d : PyData) (v : V), Dt L v d → Dp K H v d
  | .none, _, h => by cases h; exact .non
  | .bool b, _, h => by cases h; exact .bl b
  | .int i, _, h => by cases h; exact .int i
  | .str x, _, h => by cases h; exact .str x
  | .list ds, _, h => by
    cases h with
    | lst m a => exact .lst (F.lst m) (DtA.dp' F ds _ a)
  | .tuple ds, _, h => by
    cases h with
    | tup m a => exact .tup (F.tup m) (DtA.dp' F ds _ a)
  | .dict _, _, h => by cases h
theorem DtA.dp' (F : Fx H L) : ∀ (ds : List PyData) (vs : List V), DtA L vs ds → DpAll K H vs ds
  | [], _, h => by cases h; exact .nil
  | d :: ds, _, h => by
    cases h with
    | cons a r => exact .cons (Dt.dp' F d _ a) (DtA.dp' F ds _ r)
end
variable {v : V} {d : PyData} {vs : List V} {ds : List PyData}
theorem Dt.mono (h : Dt L v d) (s : ∀ e ∈ L, e ∈ L') : Dt L' v d := Dt.mono' s d v h
theorem DtA.mono (h : DtA L vs ds) (s : ∀ e ∈ L, e ∈ L') : DtA L' vs ds := DtA.mono' s ds vs h
theorem Dt.sub (h : Dt L v d) (s : L.Sublist L') : Dt L' v d := h.mono fun _ m => s.subset m
theorem DtA.sub (h : DtA L vs ds) (s : L.Sublist L') : DtA L' vs ds := h.mono fun _ m => s.subset m
theorem Dt.dp (h : Dt L v d) (F : Fx H L) : Dp K H v d := Dt.dp' F d v h
theorem DtA.len : ∀ {vs : List V} {ds : List PyData}, DtA L vs ds → vs.length = ds.length
  | _, [], h => by cases h; rfl
  | _, _ :: _, h => by
    cases h with
    | cons a r => rw [List.length_cons, List.length_cons, r.len]
theorem DtA.get : ∀ {vs : List V} {ds : List PyData} {i : Nat} {d : PyData}, DtA L vs ds → ds[i]? = some d → ∃ v, vs[i]? = some v ∧ Dt L v d
  | _, [], i, d, h, e => by simp at e
  | _, x :: ds, 0, d, h, e => by
    cases h with
    | cons a r =>
      cases e
      exact ⟨_, rfl, a⟩
  | _, x :: ds, i + 1, d, h, e => by
    cases h with
    | cons a r => exact r.get e
theorem DtA.getV : ∀ {ds : List PyData} {vs : List V} {i : Nat} {v : V}, DtA L vs ds → vs[i]? = some v → ∃ d, ds[i]? = some d ∧ Dt L v d
  | [], _, i, d, h, e => by cases h; simp at e
  | x :: ds, _, 0, d, h, e => by
    cases h with
    | cons a r =>
      cases e
      exact ⟨_, rfl, a⟩
  | x :: ds, _, i + 1, d, h, e => by
    cases h with
    | cons a r => exact r.getV e
theorem DtA.app : ∀ {ds ds' : List PyData} {vs vs' : List V}, DtA L vs ds → DtA L vs' ds' → DtA L (vs ++ vs') (ds ++ ds')
  | [], _, _, _, h, h' => by cases h; exact h'
  | _ :: _, _, _, _, h, h' => by
    cases h with
    | cons a r => exact .cons a (r.app h')
theorem DtA.ints : ∀ ns : List Int, DtA L (ns.map V.int) (iD ns)
  | [] => .nil
  | n :: r => .cons (.int n) (DtA.ints r)
theorem DtA.ints_eq : ∀ {ns : List Int} {vs : List V}, DtA L vs (iD ns) → vs = ns.map V.int
  | [], _, h => by cases h; rfl
  | n :: r, _, h => by
    cases h with
    | cons a r =>
      cases a
      rw [r.ints_eq]
      rfl
theorem Dt.tupI {a : Addr} {ns : List Int} (m : En.ob a (.tup (ns.map V.int)) ∈ L) : Dt L (.ref a) (.tuple (iD ns)) := .tup m (DtA.ints ns)
theorem Dt.lstI {a : Addr} {ns : List Int} (m : En.ob a (.lst (ns.map V.int)) ∈ L) : Dt L (.ref a) (.list (iD ns)) := .lst m (DtA.ints ns)
theorem Dt.tupI_mem {v : V} {ns : List Int} (h : Dt L v (.tuple (iD ns))) : ∃ a, v = .ref a ∧ En.ob a (.tup (ns.map V.int)) ∈ L := by
  cases h with
  | tup m r =>
    have e := r.ints_eq
    subst e
    exact ⟨_, rfl, m⟩
theorem Dt.lstI_mem {v : V} {ns : List Int} (h : Dt L v (.list (iD ns))) : ∃ a, v = .ref a ∧ En.ob a (.lst (ns.map V.int)) ∈ L := by
  cases h with
  | lst m r =>
    have e := r.ints_eq
    subst e
    exact ⟨_, rfl, m⟩
/-! shapes -/
def ShA (ds : List PyData) (n : Nat) : Prop := PyData.canLayAll0 ds = true ∧ PyData.depthAll ds ≤ n
def Sh (d : PyData) (n : Nat) : Prop := PyData.canLay0 d = true ∧ PyData.depth d ≤ n
theorem Sh.ok {n : Nat} (h : Sh d n) (hn : n ≤ 64 := by decide) : SeqAt.shaped d = true := by
  unfold SeqAt.shaped
  rw [Bool.and_eq_true]
  exact ⟨h.1, decide_eq_true (Nat.le_trans h.2 hn)⟩
theorem Sh.int (i : Int) : Sh (.int i) 0 := ⟨rfl, Nat.le_refl _⟩
theorem Sh.tup {n : Nat} (h : ShA ds n) : Sh (.tuple ds) (n + 1) := ⟨h.1, Nat.succ_le_succ h.2⟩
theorem Sh.lst {n : Nat} (h : ShA ds n) : Sh (.list ds) (n + 1) := ⟨h.1, Nat.succ_le_succ h.2⟩
theorem ShA.ints (ns : List Int) : ShA (iD ns) 0 := ⟨canLay_ints ns, Nat.le_of_eq (depth_ints ns)⟩
theorem ShA.nil : ShA [] 0 := ⟨rfl, Nat.le_refl _⟩
theorem ShA.cons {n m : Nat} (h : Sh d n) (r : ShA ds m) : ShA (d :: ds) (max n m) := by
  refine ⟨?_, ?_⟩
  · show (PyData.canLay0 d && PyData.canLayAll0 ds) = true
    rw [h.1, r.1]
    rfl
  · show max (PyData.depth d) (PyData.depthAll ds) ≤ _
    have := h.2
    have := r.2
    omega
theorem ShA.map {α : Type} {f : α → PyData} {n : Nat} : ∀ {xs : List α}, (∀ x ∈ xs, Sh (f x) n) → ShA (xs.map f) n
  | [], _ => ⟨rfl, Nat.zero_le _⟩
  | x :: r, h => by
    have a := h x List.mem_cons_self
    have b := ShA.map (f := f) (n := n) (xs := r) fun y hy => h y (List.mem_cons_of_mem _ hy)
    have c := ShA.cons a b
    rw [Nat.max_self] at c
    exact c
end
/-! what == and != say -/
section
variable {L : List En} {K : PySem.W.Frag} {H : Hp} {x y : V} {d e : PyData} {Q : VK}
theorem wEqD (F : Fx H L) (a : Dt L x d) (b : Dt L y e) (sd : SeqAt.shaped d = true) (se : SeqAt.shaped e = true) (h : Q (.bl (PyData.eqv d e)) H) : rOr rEq (rEqD K) x y H Q :=
  .inr ⟨d, e, a.dp F, b.dp F, sd, se, h⟩
theorem wNeD (F : Fx H L) (a : Dt L x d) (b : Dt L y e) (sd : SeqAt.shaped d = true) (se : SeqAt.shaped e = true) (h : Q (.bl (!PyData.eqv d e)) H) : rOr rNe (rNeD K) x y H Q :=
  .inr ⟨d, e, a.dp F, b.dp F, sd, se, h⟩
theorem wNeSame (F : Fx H L) (a : Dt L x d) (b : Dt L y d) (sd : SeqAt.shaped d = true) (h : Q (.bl false) H) : rOr rNe (rNeD K) x y H Q :=
  wNeD F a b sd sd (by rw [SeqAt.eqv_refl _ (SeqAt.canLay_of_shaped sd)]; exact h)
theorem wEqSame (F : Fx H L) (a : Dt L x d) (b : Dt L y d) (sd : SeqAt.shaped d = true) (h : Q (.bl true) H) : rOr rEq (rEqD K) x y H Q :=
  wEqD F a b sd sd (by rw [SeqAt.eqv_refl _ (SeqAt.canLay_of_shaped sd)]; exact h)
end
end Z

set_option Elab.async false
set_option linter.all false
set_option maxRecDepth 100000
set_option maxHeartbeats 2000500
namespace Z
open PySem PySem.Spec PyProof.Rows Builtin Builtin.Str
open Sem (wp)
/-! ### enumerate over a tuple -/
theorem meets_enum1 {v : Value} {o : Obj} {H : Heap → Prop} (B : Begins v o H) :
    Meets (Builtin.«enumerate.__new__» ⟨[.type "enumerate", v], []⟩) (fun _ R s => H s.heap ∧
      R (.ok (.ret (.ref (s.heap.push o).objs.size))) { s with heap := (s.heap.push o).push { cls := .type "enumerate", data := .fields #[.none, .bool false, .ref s.heap.objs.size, rawInt 0, .none, .none] } }) :=
  .of_wp fun prog
        w A R s h => by
    obtain ⟨hp, g, d, tk, os⟩
          := s; obtain ⟨h1, h⟩ := h
    have hsub := sub_enumerate
    have q1 : ∀ {A' : Around} {E : Value → Shared → Prop} {Q : Value → Shared → Prop}, Q (.ref
          hp.objs.size) ⟨hp.push o, g, d, tk, os⟩ → wpAny (model prog w) A' (pyIter v) Q E ⟨hp, g, d, tk, os⟩ :=
      fun q => B.iter prog w _ _
            ⟨hp, g, d, tk, os⟩ _ h1 q
    wp_walk using q1
    refine wpAny_stack_any
          fun st => wpAny_pure ?_
    split
    · rename_i c _ _ _ _ _
      cases (c == Value.type
            "enumerate")
      · wp_walk using q1
        exact ⟨_, rfl, h⟩
      · wp_walk using q1
        exact ⟨_, rfl, h⟩
    · wp_walk using q1
      exact ⟨_, rfl, h⟩
section
variable {prog : Program} {w : World} {A :
      Around} {E : Value → Shared → Prop} {s : Shared}
theorem enum_begins1 {v : Value} {o : Obj} {H : Heap → Prop} {Q : Value → Shared → Prop} (B : Begins v o H) (h1 : H s.heap)
    (h : ∀ h', IsEnum h' (s.heap.objs.size + 1) s.heap.objs.size 0 .none → h'.get? s.heap.objs.size = some o →
      (∀ b o, s.heap.get? b = some o → h'.get? b = some o) →
            Q (.ref (s.heap.objs.size +
                  1)) { s with heap := h' }) :
    wpAny (model prog w) A (call (.type "enumerate") [v]) Q E s := by
  refine callType_new F.called_enumerate (by decide) (F.typeCall_enumerate_1 _)
        (F.newCall_enumerate_1 _) (fun obj => F.args_object_init_2 obj _) F.entry_enumerate_new
    (meets_enum1 B) ⟨h1, ?_⟩
  have hz : (s.heap.push o).objs.size =
        s.heap.objs.size + 1 := Heap.size_push ..
  show _ ∧ _
  rw [hz]
  have he : IsEnum ((s.heap.push o).push { cls := .type "enumerate", data := .fields #[.none, .bool false, .ref s.heap.objs.size, rawInt 0, .none, .none] }) (s.heap.objs.size + 1) s.heap.objs.size 0 .none := by
    have := Heap.get?_push_size (s.heap.push o) (o := { cls := .type "enumerate", data := .fields #[.none, .bool false, .ref s.heap.objs.size, rawInt 0, .none, .none] }) rfl
    rw [hz] at this; exact this
  exact ⟨⟨_, he, rfl⟩, h _ he (Heap.get?_push_of_some _ (Heap.get?_push_size _ B.free)) fun b o x => Heap.get?_push_of_some _ (Heap.get?_push_of_some _ x)⟩
end
end Z
namespace Z
open PySem PySem.Spec
      PyProof.Rows L2
def IteT (K : PySem.W.Frag) (a : Addr) : It :=
  ⟨fun i H => ∃ (xs : List V) (x : V), SqT K H a xs ∧ xs[i]? = some x, fun i H v H' => ∃ T x, v = .ref T ∧ H T = none ∧ H' = upd H T (.tup [.int (i : Nat), x]) ∧ ∀ xs, SqT K H a xs → xs[i]? = some x,
    fun i H => ∃ xs : List V, SqT K H a xs ∧ xs.length ≤ i⟩
theorem turn_enumT {P : Program} {w : World} {K : PySem.W.Frag} {elts : List Expr} {kk : Nat} {tpos : Pos} (a e it : Addr) :
    Turn P w K (.Tuple elts kk tpos) (IteT K a) [e, it] e (fun i h => (∃ old, IsEnum h e it ((i : Nat) : Int) old) ∧ h.IsTupleIter it a i ∧ e ≠ it) where
  mem := by simp
  obj := fun i h st b hb => by
    obtain ⟨⟨old, he⟩, ⟨o,
          ho, hc, hd⟩, _⟩ := st
    have e' : b = e ∨ b = it
          := by simpa using hb
    rcases e' with z | z
    · rw [z]; exact ⟨_, he,
          fun v q => nomatch q⟩
    · rw [z]; exact ⟨o, ho, fun v
          q => by rw [hd] at q; cases q⟩
  keep := fun i h h' st k => let ⟨⟨old, he⟩, hi, hne⟩ := st; ⟨⟨old,
        k e (by simp) _ he⟩, hi.at fun o q => k it (by simp) o q, hne⟩
  item := by
    intro X hP hw hK hc i
          pins s σ H E I hf st hg
    subst hP hw hK
    obtain ⟨⟨old, he⟩,
          hit, hne⟩ := st
    obtain ⟨xs, x, hq,
          hx⟩ := hg
    obtain ⟨its, rv, p,
          hz⟩ := I.tuple hq
    obtain ⟨u, hu, ru⟩
          := rv.get hx
    have hel : e < s.heap.objs.size
          := Heap.lt_size he
    have hil : it < s.heap.objs.size := by
          obtain ⟨_, q, _⟩ := hit; exact Heap.lt_size q
    have ht : s.heap.IsTuple a its.toArray := p
    have hai : a ≠ it
          := fun z => by
      obtain ⟨o1, e1, c1, _⟩ := hit
      obtain ⟨o2, e2, c2, _⟩ := id ht
      rw [z, e1] at e2
      cases e2
      rw [c1] at c2
      exact absurd c2 (by simp)
    have hae : e ∉ [it, a] := fun z => by
      rcases List.mem_cons.mp
            z with z | z
      · exact hne z
      · have z :=
            List.mem_singleton.mp z
        obtain ⟨o2, e2, c2, _⟩ := id ht
        have he' : s.heap.get? e = some _ := he
        rw [z, e2] at he'
        cases he'
        exact absurd c2 (by simp)
    have il : i < its.toArray.size := by
      have := (List.getElem?_eq_some_iff.mp hu).1
      simpa using this
    refine wpAny_pyNext_enum_itemD (Draws.tuple (by exact (I.ok.hd hc)) it a hai its.toArray) he ⟨hit, ht⟩ il hne hae fun x' h' tk hP ho hs' hT hsz hk => ?_
    have hxu : x' = u := by
      have e1 : its.toArray[i]? = some x' := hP
      have e2 : its.toArray[i]? = some u := by simpa using hu
      rw [e2] at e1
      exact (Option.some.inj e1).symm
    subst hxu
    refine ⟨_, rfl, wpAny_letOwnedTupleGo_enum (s := { s with heap := h', toks := tk + 1 }) ho fun h'' he' sb => ?_⟩
    have hT2 : h''.get? s.heap.objs.size = some { cls := .type "tuple", data := .seq #[.int i tk, x'] } := (sb.2 _ (Nat.ne_of_gt hel)).trans hT
    have new : ObjOk X.prog X.w (upd H s.heap.objs.size (.tup [.int (i
          : Nat), x])) h'' s.heap.objs.size (.tup [.int (i : Nat), x]) :=
      ⟨by show 2 ≤ sizeLine; decide, [.int i tk, x'], .cons ⟨_, rfl⟩ (.cons ru .nil), ⟨_, hT2, rfl, _, rfl⟩⟩
    have I1 : Inv X pins σ (upd H s.heap.objs.size (.tup [.int (i : Nat), x])) { s with heap := h'', toks := tk + 1 } :=
      I.turnedNew (ch := [e, it]) (fun b ob hb q => (sb.2 b (fun z => hb (by simp [z]))).trans
            (hk b ob (fun z => hb (by simp [z])) (fun z => hb (by simp [z])) q)) hf (Nat.le_refl _) new
    refine ⟨.ref s.heap.objs.size, _, I1, rfl, ⟨_, x, rfl, I.hok.fresh (Nat.le_refl _), rfl, fun ys hy => ?_⟩, ⟨⟨x', ?_⟩, hs'.1.at fun o q => (sb.2 it (Ne.symm hne)).trans q, hne⟩, fun b hb => ?_⟩
    · rw [I.tuple_inj hy hq]; exact hx
    · have e1 : ((i + 1 : Nat) :
          Int) = (i : Int) + 1 := by omega
      rw [e1]; exact he'
    · have hb' : b <
          s.heap.objs.size := by
        have e' : b = e ∨ b = it
              := by simpa using hb
        rcases e' with z | z
        · rw [z]; exact hel
        · rw [z]; exact hil
      rw [upd_ne
            (Nat.ne_of_lt hb')]
      exact (hf b hb).1
  done := by
    intro X hP hw hK hc i pins
          s σ H E I hf st hg
    subst hP hw hK
    obtain ⟨⟨old, he⟩,
          hit, hne⟩ := st
    obtain ⟨xs, hq, hx⟩
          := hg
    obtain ⟨its, rv, p,
          hz⟩ := I.tuple hq
    obtain ⟨f0, f1, f2, f3,
          f4, f5⟩ := hf it (by simp)
    have hl := rv.length
    have ht : s.heap.IsTuple a its.toArray := p
    have hT : s.TypeIs (.ref e)
          "enumerate" := ⟨_, he, rfl⟩
    unfold pyNext
    refine wpAny_bind (wpAny_attempt (wpAny_callSpecial?_slot
          (name := Str.ofString "__next__") hT F.slot_enumerate_next
      (wpAny_call_entry F.slot_enumerate_next hT
            F.entry_enumerate_next ?_ (F.args_enumerate_next_1 _))))
    show wpAny _ _ (field
          (.ref e) 2 >>= _) _ _ _
    refine wpAny_bind (wpAny_field
          he rfl (x := .ref it) rfl ?_)
    refine wpAny_bind (wpAny_nextOf_tuple_end (by exact (I.ok.hd hc)) hit ht (by simp; omega) fun h' x eb hx' => ?_)
    obtain ⟨o, ho, hc'⟩ := hx'
    refine wpAny_bind (wpAny_isInstance (T := "StopIteration") (b := true) ⟨o, ho, hc'⟩ isSubtype_stop ?_)
    exact wpAny_pure ⟨rfl, I.turned (t' := s.toks) (fun b o hb q => eb b o hb q) f0 f1 f3 f4 f5⟩
  self := fun A i s Q E st h => let ⟨⟨_,
        he⟩, _⟩ := st; wpAny_pyIter_enum he h
section
variable {X : Cx}
/-- a list or a tuple, counted along -/
def iEnumS (K : PySem.W.Frag) (ta : TA) : TI := fun σ H R => ta σ H fun vs H1 => ∃ a, vs = [.ref a] ∧ ((∃ xs, SqL K H1 a xs ∧ R (Ite K a) H1) ∨ ∃ xs, SqT K H1 a xs ∧ R (IteT K a) H1)
theorem pi_enumS {e : Expr} {ta : TA} {p pos tpos : Pos} {elts : List Expr} {kk : Nat} (hg : Gl X "enumerate") (hm : X.mg "enumerate" = none) (ha : PA X [e] ta) (hs : starEach [e] X.env = [(false, eval e X.env)] := by rfl) :
    PI X (.Tuple elts kk tpos) (.Call (.Name "enumerate" p) [e] [] pos) (iEnumS X.K ta) := by
  refine ⟨fun pins
        s σ H R I h => ?_⟩
  refine Call_ (ld_blt I hg hm boot_enumerate (PyProof.Rows.callWith_type1 (thn (ha.run
        pos pins s σ H _ I h) fun us s1 ⟨vs, H1, I1, r1, q1⟩ => ?_) hs rfl))
  obtain ⟨a, ex, q⟩ := q1
  subst ex
  cases r1 with
  | cons r rr =>
    cases rr
    cases r
    rcases q with ⟨xs, hq, q⟩ | ⟨xs, hq, q⟩
    · obtain ⟨its, rv,
          p', hz⟩ := I1.list hq
      refine call_enumerate_list p'.isList
            fun h' he hit hsz hk => wpAny_pyIter_enum he ?_
      have I2 : Inv X pins σ H1 { s1 with
            heap := h' } := I1.kept (t' := s1.toks) hk
      refine ⟨s1.heap.objs.size + 1, [s1.heap.objs.size + 1, s1.heap.objs.size], _, _, H1, rfl, I2, turn_enum a
            (s1.heap.objs.size + 1) s1.heap.objs.size, ⟨⟨.none, he⟩, hit, Nat.succ_ne_self _⟩, fun b hb => ?_, q⟩
      have e' : b = s1.heap.objs.size + 1 ∨
            b = s1.heap.objs.size := by simpa using hb
      have hle :
            s1.heap.objs.size ≤ b := by
        rcases e' with z | z
        · rw [z]; exact
              Nat.le_add_right _ _
        · rw [z]; exact Nat.le_refl _
      exact I1.fpOk hle
            (I1.hok.fresh hle)
    · obtain ⟨its, rv,
          p', hz⟩ := I1.tuple hq
      refine enum_begins1 (begins_tuple a its.toArray) p' fun h' he hit hk => wpAny_pyIter_enum he ?_
      have I2 : Inv X pins σ H1 { s1 with
            heap := h' } := I1.kept (t' := s1.toks) hk
      refine ⟨s1.heap.objs.size + 1, [s1.heap.objs.size + 1, s1.heap.objs.size], _, _, H1, rfl, I2, turn_enumT a
            (s1.heap.objs.size + 1) s1.heap.objs.size, ⟨⟨.none, he⟩, ⟨_, hit, rfl, rfl⟩, Nat.succ_ne_self _⟩, fun b hb => ?_, q⟩
      have e' : b = s1.heap.objs.size + 1 ∨
            b = s1.heap.objs.size := by simpa using hb
      have hle :
            s1.heap.objs.size ≤ b := by
        rcases e' with z | z
        · rw [z]; exact
              Nat.le_add_right _ _
        · rw [z]; exact Nat.le_refl _
      exact I1.fpOk hle
            (I1.hok.fresh hle)
end
theorem walk_enumT {K : PySem.W.Frag} {a : Addr} {xs : List V} : Walk (IteT K a) xs.length (fun H => SqT K H a xs) (YPair (fun i => some (.int (i : Nat))) (fun i => xs[i]?)) := by
  refine ⟨fun i _ hi q => ⟨xs, xs[i], q, by simp [hi]⟩, fun _ q
        => ⟨xs, q, Nat.le_refl _⟩, fun i H v H' _ q y => ?_⟩
  obtain ⟨T, x, h1,
        h2, h3, h4⟩ := y
  exact ⟨T, .int (i : Nat), x, h1,
        h2, h3, rfl, h4 xs q⟩
section
variable {K : PySem.W.Frag} {H : Hp} {L : List En} {a : V} {xs : List V} {RI : It → Hp → Prop} {σ : L2.St} {ta : TA} {g : TG} {tb : TS} {nx : L2.St → Hp → Prop} {rt : VK}
def GoE (K : PySem.W.Frag) (vs : List V) (H : Hp) (R : It → Hp → Prop) : Prop := ∃ a, vs = [.ref a] ∧ ((∃ xs, SqL K H a xs ∧ R (Ite K a) H) ∨ ∃ xs, SqT K H a xs ∧ R (IteT K a) H)
theorem wIE (h : ta σ H fun vs H1 => GoE K vs H1 RI) : iEnumS K ta σ H RI := h
/-- a for over enumerate(list or tuple) -/
theorem wForE (hq : SeqIs L a (some xs)) (F : Fx H L) (Pv : Nat → L2.St → Hp → Prop) (h0 : Pv 0 σ H) (keep : ∀ i σ H', Pv i σ H' → ∃ L', Fx H' L' ∧ ∀ p o, En.ob p o ∈ L → En.ob p o ∈ L')
    (hs : ∀ i x T σ H', xs[i]? = some x → Pv i σ H' → H' T = none → g (.ref T) σ (upd H' T (.tup [.int (i : Nat), x])) fun σ2 H2 => tb ⟨Pv (i + 1), rt, nx, Pv (i + 1)⟩ σ2 H2) (hd : ∀ σ H', Pv xs.length σ H' → nx σ H') :
    GoE K [a] H fun J H1 => ∃ W : Nat → Nat → L2.St → Hp → Prop, (∃ m, W 0 m σ H1) ∧ ∀ i m σ H, W i m σ H →
      (J.stop i H ∧ nx σ H) ∨ (J.go i H ∧ ∃ N : L2.St → Hp → Prop, (∀ σ' H', N σ' H' → ∃ m', m' < m ∧ W (i + 1) m' σ' H') ∧ ∀ x H', J.yld i H x H' → g x σ H' fun σ2 H2 => tb ⟨N, rt, nx, N⟩ σ2 H2) := by
  cases hq with
  | @lst p xs m =>
    refine ⟨p, rfl, .inl ⟨xs, F.lst m, wForW (walk_enum (K := K) (xs := xs)) Pv h0 (fun i σ H' _ q => ?_) ?_ hd⟩⟩
    · obtain ⟨L', F', k⟩ := keep i σ H' q
      exact F'.lst (k _ _ m)
    · rintro i x σ H' H'' _ q ⟨T, u, v, rfl, hT, rfl, e1, e2⟩
      cases e1
      exact hs i v T σ H' e2 q hT
  | @tup p xs m =>
    refine ⟨p, rfl, .inr ⟨xs, F.tup m, wForW (walk_enumT (K := K) (xs := xs)) Pv h0 (fun i σ H' _ q => ?_) ?_ hd⟩⟩
    · obtain ⟨L', F', k⟩ := keep i σ H' q
      exact F'.tup (k _ _ m)
    · rintro i x σ H' H'' _ q ⟨T, u, v, rfl, hT, rfl, e1, e2⟩
      cases e1
      exact hs i v T σ H' e2 q hT
end
/-! ### sum of a tuple -/
def rSumT (K : PySem.W.Frag) : List V → Hp → VK → Prop := fun vs H Q => ∃ (a : Addr) (ns : List Int), vs = [V.ref a] ∧ SqT K H a (ns.map V.int) ∧ Q (.int ns.sum) H
theorem cr_sumT {X : Cx} (hc : X.calm = true) : CallR X (.builtin "sum") (rSumT X.K) := by
  intro pins s σ
        H vs us Q I r h
  obtain ⟨a, ns,
        rfl, hs, q⟩ := h
  obtain ⟨its, rv, hl, _⟩ := I.tuple hs
  rw [Vals.ref1 r]
  have hi := rv.ints
  obtain ⟨xs, hx⟩ :=
        hi.allInts.items
  have hn : numsOf its.toArray.toList = ns := by rw [show its.toArray.toList = its from rfl, hi.numsOf]
  have ht : s.heap.IsTuple a its.toArray := hl
  rw [hx] at ht hn
  rw [nums_intItems] at hn
  refine PySem.W.ktm_sumG (I.ok.hd hc) ht fun h' tk t' hk => ?_
  refine ⟨.int ns.sum, H, I.kept hk, ?_, q⟩
  rw [preSum_eq, List.take_of_length_le
        (by simp), hn]
  exact ⟨_, rfl⟩
theorem cr_sumS {X : Cx} (hc : X.calm = true) : CallR X (.builtin "sum") (rOrC (rSum X.K) (rSumT X.K)) := CallR.or (cr_sum hc) (cr_sumT hc)
section
variable {K : PySem.W.Frag} {H : Hp} {L : List En} {a : Addr} {b : V} {ns : List Int} {Q : VK}
theorem wSumL (s : SqL K H a (ns.map V.int)) (h : Q (.int ns.sum) H) : rOrC (rSum K) (rSumT K) [.ref a] H Q := .inl ⟨a, ns, rfl, s, h⟩
theorem wSumT (s : SqT K H a (ns.map V.int)) (h : Q (.int ns.sum) H) : rOrC (rSum K) (rSumT K) [.ref a] H Q := .inr ⟨a, ns, rfl, s, h⟩
theorem wSumS (s : SeqIs L b (some (ns.map V.int))) (F : Fx H L) (h : Q (.int ns.sum) H) : rOrC (rSum K) (rSumT K) [b] H Q := by
  generalize e : ns.map V.int = xs at s
  cases s with
  | lst m => exact wSumL (F.lst (e ▸ m)) h
  | tup m => exact wSumT (F.tup (e ▸ m)) h
end
/-! ### while -/
section
variable {σ : L2.St} {H : Hp} {tc : TT} {tb : TS} {nx bk ct : L2.St → Hp → Prop} {rt : VK}
def WBody (tb : TS) (Pv : Nat → L2.St → Hp → Prop) (m : Nat) (nx : L2.St → Hp → Prop) (rt : VK) (σ : L2.St) (H : Hp) : Prop :=
  ∃ N : L2.St → Hp → Prop, (∀ σ' H', N σ' H' → ∃ m', m' < m ∧ Pv m' σ' H') ∧ tb ⟨N, rt, nx, N⟩ σ H
theorem wWhile (Pv : Nat → L2.St → Hp → Prop) (m : Nat) (h0 : Pv m σ H) (hs : ∀ m σ H, Pv m σ H → tc σ H fun b H1 => if b = true then WBody tb Pv m nx rt σ H1 else nx σ H1) :
    tWhile tc tb ⟨nx, rt, bk, ct⟩ σ H := ⟨Pv, ⟨m, h0⟩, hs⟩
theorem wBody {Pv : Nat → L2.St → Hp → Prop} {m : Nat} (h : tb ⟨fun σ' H' => ∃ m', m' < m ∧ Pv m' σ' H', rt, nx, fun σ' H' => ∃ m', m' < m ∧ Pv m' σ' H'⟩ σ H) : WBody tb Pv m nx rt σ H := ⟨_, fun _ _ h => h, h⟩
end
/-! ### range with a step, lists made of lists, order of tuples, min and max -/
section
variable {K : PySem.W.Frag} {H : Hp} {L : List En} {a b : Addr} {xs ys : List V} {RI : It → Hp → Prop} {σ : L2.St} {ta : TA} {Q : VK} {i j : Int} {ns ms : List Int}
def GoR3 (vs : List V) (H : Hp) (R : It → Hp → Prop) : Prop := ∃ (i j c : Int) (n : Nat), vs = [.int i, .int j, .int c] ∧ RgC i j c n ∧ R (Itc i c n) H
theorem wIR3 (h : ta σ H fun vs H1 => GoR3 vs H1 RI) : iRng3 ta σ H RI := h
theorem wGoDown (ha : -(2 ^ 62) ≤ i) (ha' : i < 2 ^ 62) (hb : -(2 ^ 62) ≤ j) (hb' : j < 2 ^ 62) (h : RI (Itc i (-1) (i - j).toNat) H) : GoR3 [.int i, .int j, .int (-1)] H RI := ⟨i, j, -1, _, rfl, RgC.neg ha ha' hb hb', h⟩
theorem wRepL {n : Int} (F : Fx H L) (m : En.ob a (.lst xs) ∈ L) (n1 : -(2 ^ 63) ≤ n) (n2 : n < 2 ^ 63) (n3 : xs.length * n.toNat ≤ 1000000)
    (k : ∀ p H', Fx H' (.ob p (.lst (List.replicate n.toNat xs).flatten) :: L) → Q (.ref p) H') : rOr rMulC (rOr rMulI (rOr rRep (rRepT K))) (.ref a) (.int n) H Q :=
  .inr (.inr (.inl ⟨a, n, xs, rfl, rfl, F.get m, n1, n2, Nat.le_trans n3 line_big, wNewF F k⟩))
theorem wCatL (F : Fx H L) (m : En.ob a (.lst xs) ∈ L) (m' : En.ob b (.lst ys) ∈ L) (l : xs.length + ys.length ≤ 1000000)
    (k : ∀ p H', Fx H' (.ob p (.lst (xs ++ ys)) :: L) → Q (.ref p) H') : rOr rAddI (rOr rAddS (rOr rCat (rCatT K))) (.ref a) (.ref b) H Q :=
  .inr (.inr (.inl ⟨a, b, xs, ys, rfl, rfl, F.get m, F.get m', Nat.le_trans l line_big, wNewF F k⟩))
theorem wLtT (s : SqT K H a (ns.map V.int)) (t : SqT K H b (ms.map V.int)) (h : Q (.bl (HT.lexLt ns ms)) H) : rOr rLtI (rLtT K) (.ref a) (.ref b) H Q := .inr ⟨a, b, ns, ms, rfl, rfl, s, t, h⟩
theorem flat_one (n : Nat) (x : V) : (List.replicate n [x]).flatten = List.replicate n x := by
  induction n with
  | zero => rfl
  | succ n ih => rw [List.replicate_succ, List.flatten_cons, ih]; rfl
end
theorem zLtS {X : Cx} (hu : X.A.units < cLine) : OpR X (compareOp .Lt) (rOr rLtI (rLtT X.K)) := opOr op_lt (op_ltT hu)
def rMin2 : List V → Hp → VK → Prop := fun xs H Q => ∃ i j, xs = [V.int i, V.int j] ∧ Q (.int (if j < i then j else i)) H
def rMax2 : List V → Hp → VK → Prop := fun xs H Q => ∃ i j, xs = [V.int i, V.int j] ∧ Q (.int (if j > i then j else i)) H
theorem zMin2 {X : Cx} (hc : X.calm = true) : CallR X (.builtin "min") rMin2 := call_min2 hc
theorem zMax2 {X : Cx} (hc : X.calm = true) : CallR X (.builtin "max") rMax2 := call_max2 hc
theorem wMin2 {H : Hp} {Q : VK} {i j : Int} (h : Q (.int (if j < i then j else i)) H) : rMin2 [.int i, .int j] H Q := ⟨i, j, rfl, h⟩
theorem wMax2 {H : Hp} {Q : VK} {i j : Int} (h : Q (.int (if j > i then j else i)) H) : rMax2 [.int i, .int j] H Q := ⟨i, j, rfl, h⟩
/-! ### comprehensions and loops over a tuple or a list of the ledger -/
section
variable {K : PySem.W.Frag} {H : Hp} {L : List En} {a : Addr} {xs : List V} {g : TG} {tt : TT} {te : TE} {vs : List Nat} {σ : L2.St} {QD : Addr → Hp → Prop}
theorem wLcT (m : En.ob a (.tup xs) ∈ L) (F : Fx H L) (R : Nat → List V → List En → Prop) (h0 : R 0 [] L) (keep : ∀ i acc L', R i acc L' → En.ob a (.tup xs) ∈ L')
    (hs : ∀ i x D H' acc L', xs[i]? = some x → R i acc L' → Fx H' (.ob D (.lst acc) :: L') → g x (wipe σ vs) H' fun σ2 H2 => wipe σ2 vs = wipe σ vs ∧ tt σ2 H2 fun b H3 =>
      if b = true then te σ2 H3 fun y H4 => LcPut D R i y H4 else LcP D R (i + 1) H3)
    (hd : ∀ D acc L' H', Fx H' (.ob D (.lst acc) :: L') → R xs.length acc L' → QD D H') :
    ∀ D, H D = none → ∃ W : Nat → Nat → Hp → Prop, (∃ m, W 0 m (upd H D (.lst []))) ∧ ∀ i m H, W i m H →
  ((Itt K a).stop i H ∧ QD D H) ∨ ((Itt K a).go i H ∧ ∃ Nx : Hp → Prop, (∀ H', Nx H' → ∃ m', m' < m ∧ W (i + 1) m' H') ∧ ∀ x H', (Itt K a).yld i H x H' → g x (wipe σ vs) H' fun σ2 H2 => wipe σ2 vs = wipe σ vs ∧ tt σ2 H2 fun b H3 =>
    if b = true then te σ2 H3 fun y H4 => ∃ acc, H4 D = some (.lst acc) ∧
          acc.length < sizeLine ∧ Nx (upd H4 D (.lst (acc ++ [y]))) else Nx H3) :=
  wLcW (walk_tup (K := K) (xs := xs)) F R h0 (fun i acc L' D H' r F' => F'.tup (List.mem_cons_of_mem _ (keep _ _ _ r))) (fun i x D H' H'' acc L' _ r F' y => by
    obtain ⟨rfl, e⟩ := y
    exact hs i x D H'' acc L' e r F') hd
theorem wLcL (m : En.ob a (.lst xs) ∈ L) (F : Fx H L) (R : Nat → List V → List En → Prop) (h0 : R 0 [] L) (keep : ∀ i acc L', R i acc L' → En.ob a (.lst xs) ∈ L')
    (hs : ∀ i x D H' acc L', xs[i]? = some x → R i acc L' → Fx H' (.ob D (.lst acc) :: L') → g x (wipe σ vs) H' fun σ2 H2 => wipe σ2 vs = wipe σ vs ∧ tt σ2 H2 fun b H3 =>
      if b = true then te σ2 H3 fun y H4 => LcPut D R i y H4 else LcP D R (i + 1) H3)
    (hd : ∀ D acc L' H', Fx H' (.ob D (.lst acc) :: L') → R xs.length acc L' → QD D H') :
    ∀ D, H D = none → ∃ W : Nat → Nat → Hp → Prop, (∃ m, W 0 m (upd H D (.lst []))) ∧ ∀ i m H, W i m H →
  ((Itl K a).stop i H ∧ QD D H) ∨ ((Itl K a).go i H ∧ ∃ Nx : Hp → Prop, (∀ H', Nx H' → ∃ m', m' < m ∧ W (i + 1) m' H') ∧ ∀ x H', (Itl K a).yld i H x H' → g x (wipe σ vs) H' fun σ2 H2 => wipe σ2 vs = wipe σ vs ∧ tt σ2 H2 fun b H3 =>
    if b = true then te σ2 H3 fun y H4 => ∃ acc, H4 D = some (.lst acc) ∧
          acc.length < sizeLine ∧ Nx (upd H4 D (.lst (acc ++ [y]))) else Nx H3) :=
  wLcW (walk_list (K := K) (xs := xs)) F R h0 (fun i acc L' D H' r F' => F'.lst (List.mem_cons_of_mem _ (keep _ _ _ r))) (fun i x D H' H'' acc L' _ r F' y => by
    obtain ⟨rfl, e⟩ := y
    exact hs i x D H'' acc L' e r F') hd
variable {tb : TS} {nx : L2.St → Hp → Prop} {rt : VK}
theorem wForT (F : Fx H L) (m : En.ob a (.tup xs) ∈ L) (Pv : Nat → L2.St → Hp → Prop) (h0 : Pv 0 σ H) (keep : ∀ i σ H', Pv i σ H' → ∃ L', Fx H' L' ∧ En.ob a (.tup xs) ∈ L')
    (hs : ∀ i x σ H', xs[i]? = some x → Pv i σ H' → g x σ H' fun σ2 H2 => tb ⟨Pv (i + 1), rt, nx, Pv (i + 1)⟩ σ2 H2) (hd : ∀ σ H', Pv xs.length σ H' → nx σ H') :
    ∃ W : Nat → Nat → L2.St → Hp → Prop, (∃
          m, W 0 m σ H) ∧ ∀ i m σ H, W i m σ H →
      ((Itt K a).stop i H ∧ nx σ H) ∨ ((Itt K a).go i H ∧ ∃ N : L2.St → Hp → Prop, (∀ σ' H', N σ' H' → ∃ m', m' < m ∧ W (i + 1) m' σ' H') ∧ ∀ x H', (Itt K a).yld i H x H' → g x σ H' fun σ2 H2 => tb ⟨N, rt, nx, N⟩ σ2 H2) :=
  wForW (walk_tup (K := K) (xs := xs)) Pv h0 (fun i σ H' _ q => let ⟨_, F', k⟩ := keep i σ H' q; F'.tup k) (fun i x σ H' H'' _ q y => by
    obtain ⟨rfl, e⟩ := y
    exact hs i x σ H'' e q) hd
theorem wForLi (F : Fx H L) (m : En.ob a (.lst xs) ∈ L) (Pv : Nat → L2.St → Hp → Prop) (h0 : Pv 0 σ H) (keep : ∀ i σ H', Pv i σ H' → ∃ L', Fx H' L' ∧ En.ob a (.lst xs) ∈ L')
    (hs : ∀ i x σ H', xs[i]? = some x → Pv i σ H' → g x σ H' fun σ2 H2 => tb ⟨Pv (i + 1), rt, nx, Pv (i + 1)⟩ σ2 H2) (hd : ∀ σ H', Pv xs.length σ H' → nx σ H') :
    ∃ W : Nat → Nat → L2.St → Hp → Prop, (∃
          m, W 0 m σ H) ∧ ∀ i m σ H, W i m σ H →
      ((Itl K a).stop i H ∧ nx σ H) ∨ ((Itl K a).go i H ∧ ∃ N : L2.St → Hp → Prop, (∀ σ' H', N σ' H' → ∃ m', m' < m ∧ W (i + 1) m' σ' H') ∧ ∀ x H', (Itl K a).yld i H x H' → g x σ H' fun σ2 H2 => tb ⟨N, rt, nx, N⟩ σ2 H2) :=
  wForW (walk_list (K := K) (xs := xs)) Pv h0 (fun i σ H' _ q => let ⟨_, F', k⟩ := keep i σ H' q; F'.lst k) (fun i x σ H' H'' _ q y => by
    obtain ⟨rfl, e⟩ := y
    exact hs i x σ H'' e q) hd
end
section
variable {σ : L2.St} {H : Hp} {te : TE} {ti : TIp} {nx bk ct : L2.St → Hp → Prop} {rt : VK} {i : Nat} {x : V} {f : Int → Int → Int} {a b : Int} {Q : VK}
theorem wAug (e : σ[i]? = some (some x)) (h : te σ H fun y H1 => ti x y H1 fun z H2 => nx (σ.set i (some z)) H2) : tAug i te ti ⟨nx, rt, bk, ct⟩ σ H := ⟨x, e, h⟩
theorem wIpI (h : Q (.int (f a b)) H) : ipI f (.int a) (.int b) H Q := ⟨a, b, rfl, rfl, h⟩
end
section
variable {K : PySem.W.Frag} {H : Hp} {a : Addr} {ns : List Int} {z : Int} {Q : VK}
theorem wNotInTu (s : SqT K H a (ns.map V.int)) (h : Q (.bl (!decide (z ∈ ns))) H) : rIn K true (.int z) (.ref a) H Q :=
  ⟨a, _, rfl, .inr s, rfl, flat_ints ns, by rw [← inV_ints] at h; exact h⟩
end
section
variable {sp : Sp} {v : V} {vs ds : List V} {H : Hp} {Q : VK} {E : XK}
theorem wSpC (h : sp (v :: (vs ++ ds)) H Q E) : sp ((v :: vs) ++ ds) H Q E := h
theorem wSpN (h : sp ds H Q E) : sp ([] ++ ds) H Q E := h
theorem wSpC1 {u : V} (h : sp (u :: v :: (vs ++ ds)) H Q E) : sp (u :: ((v :: vs) ++ ds)) H Q E := h
theorem wSpN1 {u : V} (h : sp (u :: ds) H Q E) : sp (u :: ([] ++ ds)) H Q E := h
theorem wSpC2 {u u' : V} (h : sp (u :: u' :: v :: (vs ++ ds)) H Q E) : sp (u :: u' :: ((v :: vs) ++ ds)) H Q E := h
theorem wSpN2 {u u' : V} (h : sp (u :: u' :: ds) H Q E) : sp (u :: u' :: ([] ++ ds)) H Q E := h
end
theorem wMkO {C : Addr} {sp : Sp} {dvs : List V} {ta : TA} {σ : L2.St} {H : Hp} {EK : XK} (h : ta σ H fun vs H1 => vs.length ≤ 1000 ∧ ∀ a, H1 a = none → sp (.ref a :: (vs ++ dvs)) (upd H1 a (exo a C none))
  (fun v H2 => v = .non ∧ ∃ (d : Addr) (fs : List (Str × V)), H2 a = some (exo a C (some d)) ∧ H2 d = some (exd d fs) ∧ H1 d = none ∧ EK (.ref C) (some d) (upd (del H2 a) d (.xd fs))) (fun _ _ _ => False)) : tMkO C sp dvs ta σ H EK := h
section
variable {x0 x1 x2 x3 x4 x5 x6 x7 x8 x9 x10 x11 x12 x13 x14 x15 x16 x17 x18 x19 x20 x21 x22 x23 x24 x25 x26 : Option V} {v : V} {ρ : L2.St} {H : Hp} {Q : VK} {N : L2.St → Hp → Prop}
theorem wV15 (h : Q v H) : tVar 15 (x0 :: x1 :: x2 :: x3 :: x4 :: x5 :: x6 :: x7 :: x8 :: x9 :: x10 :: x11 :: x12 :: x13 :: x14 :: some v :: ρ) H Q := ⟨v, rfl, h⟩
theorem wG15 (h : N (x0 :: x1 :: x2 :: x3 :: x4 :: x5 :: x6 :: x7 :: x8 :: x9 :: x10 :: x11 :: x12 :: x13 :: x14 :: some v :: ρ) H) : gName 15 v (x0 :: x1 :: x2 :: x3 :: x4 :: x5 :: x6 :: x7 :: x8 :: x9 :: x10 :: x11 :: x12 :: x13 :: x14 :: x15 :: ρ) H N := h
theorem wV16 (h : Q v H) : tVar 16 (x0 :: x1 :: x2 :: x3 :: x4 :: x5 :: x6 :: x7 :: x8 :: x9 :: x10 :: x11 :: x12 :: x13 :: x14 :: x15 :: some v :: ρ) H Q := ⟨v, rfl, h⟩
theorem wG16 (h : N (x0 :: x1 :: x2 :: x3 :: x4 :: x5 :: x6 :: x7 :: x8 :: x9 :: x10 :: x11 :: x12 :: x13 :: x14 :: x15 :: some v :: ρ) H) : gName 16 v (x0 :: x1 :: x2 :: x3 :: x4 :: x5 :: x6 :: x7 :: x8 :: x9 :: x10 :: x11 :: x12 :: x13 :: x14 :: x15 :: x16 :: ρ) H N := h
theorem wV17 (h : Q v H) : tVar 17 (x0 :: x1 :: x2 :: x3 :: x4 :: x5 :: x6 :: x7 :: x8 :: x9 :: x10 :: x11 :: x12 :: x13 :: x14 :: x15 :: x16 :: some v :: ρ) H Q := ⟨v, rfl, h⟩
theorem wG17 (h : N (x0 :: x1 :: x2 :: x3 :: x4 :: x5 :: x6 :: x7 :: x8 :: x9 :: x10 :: x11 :: x12 :: x13 :: x14 :: x15 :: x16 :: some v :: ρ) H) : gName 17 v (x0 :: x1 :: x2 :: x3 :: x4 :: x5 :: x6 :: x7 :: x8 :: x9 :: x10 :: x11 :: x12 :: x13 :: x14 :: x15 :: x16 :: x17 :: ρ) H N := h
theorem wV18 (h : Q v H) : tVar 18 (x0 :: x1 :: x2 :: x3 :: x4 :: x5 :: x6 :: x7 :: x8 :: x9 :: x10 :: x11 :: x12 :: x13 :: x14 :: x15 :: x16 :: x17 :: some v :: ρ) H Q := ⟨v, rfl, h⟩
theorem wG18 (h : N (x0 :: x1 :: x2 :: x3 :: x4 :: x5 :: x6 :: x7 :: x8 :: x9 :: x10 :: x11 :: x12 :: x13 :: x14 :: x15 :: x16 :: x17 :: some v :: ρ) H) : gName 18 v (x0 :: x1 :: x2 :: x3 :: x4 :: x5 :: x6 :: x7 :: x8 :: x9 :: x10 :: x11 :: x12 :: x13 :: x14 :: x15 :: x16 :: x17 :: x18 :: ρ) H N := h
theorem wV19 (h : Q v H) : tVar 19 (x0 :: x1 :: x2 :: x3 :: x4 :: x5 :: x6 :: x7 :: x8 :: x9 :: x10 :: x11 :: x12 :: x13 :: x14 :: x15 :: x16 :: x17 :: x18 :: some v :: ρ) H Q := ⟨v, rfl, h⟩
theorem wG19 (h : N (x0 :: x1 :: x2 :: x3 :: x4 :: x5 :: x6 :: x7 :: x8 :: x9 :: x10 :: x11 :: x12 :: x13 :: x14 :: x15 :: x16 :: x17 :: x18 :: some v :: ρ) H) : gName 19 v (x0 :: x1 :: x2 :: x3 :: x4 :: x5 :: x6 :: x7 :: x8 :: x9 :: x10 :: x11 :: x12 :: x13 :: x14 :: x15 :: x16 :: x17 :: x18 :: x19 :: ρ) H N := h
theorem wV20 (h : Q v H) : tVar 20 (x0 :: x1 :: x2 :: x3 :: x4 :: x5 :: x6 :: x7 :: x8 :: x9 :: x10 :: x11 :: x12 :: x13 :: x14 :: x15 :: x16 :: x17 :: x18 :: x19 :: some v :: ρ) H Q := ⟨v, rfl, h⟩
theorem wG20 (h : N (x0 :: x1 :: x2 :: x3 :: x4 :: x5 :: x6 :: x7 :: x8 :: x9 :: x10 :: x11 :: x12 :: x13 :: x14 :: x15 :: x16 :: x17 :: x18 :: x19 :: some v :: ρ) H) : gName 20 v (x0 :: x1 :: x2 :: x3 :: x4 :: x5 :: x6 :: x7 :: x8 :: x9 :: x10 :: x11 :: x12 :: x13 :: x14 :: x15 :: x16 :: x17 :: x18 :: x19 :: x20 :: ρ) H N := h
theorem wV21 (h : Q v H) : tVar 21 (x0 :: x1 :: x2 :: x3 :: x4 :: x5 :: x6 :: x7 :: x8 :: x9 :: x10 :: x11 :: x12 :: x13 :: x14 :: x15 :: x16 :: x17 :: x18 :: x19 :: x20 :: some v :: ρ) H Q := ⟨v, rfl, h⟩
theorem wG21 (h : N (x0 :: x1 :: x2 :: x3 :: x4 :: x5 :: x6 :: x7 :: x8 :: x9 :: x10 :: x11 :: x12 :: x13 :: x14 :: x15 :: x16 :: x17 :: x18 :: x19 :: x20 :: some v :: ρ) H) : gName 21 v (x0 :: x1 :: x2 :: x3 :: x4 :: x5 :: x6 :: x7 :: x8 :: x9 :: x10 :: x11 :: x12 :: x13 :: x14 :: x15 :: x16 :: x17 :: x18 :: x19 :: x20 :: x21 :: ρ) H N := h
theorem wV22 (h : Q v H) : tVar 22 (x0 :: x1 :: x2 :: x3 :: x4 :: x5 :: x6 :: x7 :: x8 :: x9 :: x10 :: x11 :: x12 :: x13 :: x14 :: x15 :: x16 :: x17 :: x18 :: x19 :: x20 :: x21 :: some v :: ρ) H Q := ⟨v, rfl, h⟩
theorem wG22 (h : N (x0 :: x1 :: x2 :: x3 :: x4 :: x5 :: x6 :: x7 :: x8 :: x9 :: x10 :: x11 :: x12 :: x13 :: x14 :: x15 :: x16 :: x17 :: x18 :: x19 :: x20 :: x21 :: some v :: ρ) H) : gName 22 v (x0 :: x1 :: x2 :: x3 :: x4 :: x5 :: x6 :: x7 :: x8 :: x9 :: x10 :: x11 :: x12 :: x13 :: x14 :: x15 :: x16 :: x17 :: x18 :: x19 :: x20 :: x21 :: x22 :: ρ) H N := h
theorem wV23 (h : Q v H) : tVar 23 (x0 :: x1 :: x2 :: x3 :: x4 :: x5 :: x6 :: x7 :: x8 :: x9 :: x10 :: x11 :: x12 :: x13 :: x14 :: x15 :: x16 :: x17 :: x18 :: x19 :: x20 :: x21 :: x22 :: some v :: ρ) H Q := ⟨v, rfl, h⟩
theorem wG23 (h : N (x0 :: x1 :: x2 :: x3 :: x4 :: x5 :: x6 :: x7 :: x8 :: x9 :: x10 :: x11 :: x12 :: x13 :: x14 :: x15 :: x16 :: x17 :: x18 :: x19 :: x20 :: x21 :: x22 :: some v :: ρ) H) : gName 23 v (x0 :: x1 :: x2 :: x3 :: x4 :: x5 :: x6 :: x7 :: x8 :: x9 :: x10 :: x11 :: x12 :: x13 :: x14 :: x15 :: x16 :: x17 :: x18 :: x19 :: x20 :: x21 :: x22 :: x23 :: ρ) H N := h
theorem wV24 (h : Q v H) : tVar 24 (x0 :: x1 :: x2 :: x3 :: x4 :: x5 :: x6 :: x7 :: x8 :: x9 :: x10 :: x11 :: x12 :: x13 :: x14 :: x15 :: x16 :: x17 :: x18 :: x19 :: x20 :: x21 :: x22 :: x23 :: some v :: ρ) H Q := ⟨v, rfl, h⟩
theorem wG24 (h : N (x0 :: x1 :: x2 :: x3 :: x4 :: x5 :: x6 :: x7 :: x8 :: x9 :: x10 :: x11 :: x12 :: x13 :: x14 :: x15 :: x16 :: x17 :: x18 :: x19 :: x20 :: x21 :: x22 :: x23 :: some v :: ρ) H) : gName 24 v (x0 :: x1 :: x2 :: x3 :: x4 :: x5 :: x6 :: x7 :: x8 :: x9 :: x10 :: x11 :: x12 :: x13 :: x14 :: x15 :: x16 :: x17 :: x18 :: x19 :: x20 :: x21 :: x22 :: x23 :: x24 :: ρ) H N := h
theorem wV25 (h : Q v H) : tVar 25 (x0 :: x1 :: x2 :: x3 :: x4 :: x5 :: x6 :: x7 :: x8 :: x9 :: x10 :: x11 :: x12 :: x13 :: x14 :: x15 :: x16 :: x17 :: x18 :: x19 :: x20 :: x21 :: x22 :: x23 :: x24 :: some v :: ρ) H Q := ⟨v, rfl, h⟩
theorem wG25 (h : N (x0 :: x1 :: x2 :: x3 :: x4 :: x5 :: x6 :: x7 :: x8 :: x9 :: x10 :: x11 :: x12 :: x13 :: x14 :: x15 :: x16 :: x17 :: x18 :: x19 :: x20 :: x21 :: x22 :: x23 :: x24 :: some v :: ρ) H) : gName 25 v (x0 :: x1 :: x2 :: x3 :: x4 :: x5 :: x6 :: x7 :: x8 :: x9 :: x10 :: x11 :: x12 :: x13 :: x14 :: x15 :: x16 :: x17 :: x18 :: x19 :: x20 :: x21 :: x22 :: x23 :: x24 :: x25 :: ρ) H N := h
theorem wV26 (h : Q v H) : tVar 26 (x0 :: x1 :: x2 :: x3 :: x4 :: x5 :: x6 :: x7 :: x8 :: x9 :: x10 :: x11 :: x12 :: x13 :: x14 :: x15 :: x16 :: x17 :: x18 :: x19 :: x20 :: x21 :: x22 :: x23 :: x24 :: x25 :: some v :: ρ) H Q := ⟨v, rfl, h⟩
theorem wG26 (h : N (x0 :: x1 :: x2 :: x3 :: x4 :: x5 :: x6 :: x7 :: x8 :: x9 :: x10 :: x11 :: x12 :: x13 :: x14 :: x15 :: x16 :: x17 :: x18 :: x19 :: x20 :: x21 :: x22 :: x23 :: x24 :: x25 :: some v :: ρ) H) : gName 26 v (x0 :: x1 :: x2 :: x3 :: x4 :: x5 :: x6 :: x7 :: x8 :: x9 :: x10 :: x11 :: x12 :: x13 :: x14 :: x15 :: x16 :: x17 :: x18 :: x19 :: x20 :: x21 :: x22 :: x23 :: x24 :: x25 :: x26 :: ρ) H N := h
end
theorem perm4 {A : Type} {a b c d r : A} {L : List A} : (a :: b :: c :: d :: r :: L).Perm (r :: a :: b :: c :: d :: L) := List.perm_middle (l₁ := [a, b, c, d])
end Z

set_option Elab.async false
set_option linter.all false
set_option maxRecDepth 100000
set_option maxHeartbeats 2000500
/-! ### t[::-1] of a tuple -/
namespace Z
open PySem PySem.Spec PyProof.Rows L2 HT
section
variable {prog : Program} {w : World} {A :
      Around} {E : Value → Shared → Prop} {s : Shared}
theorem adjust_rev (n : Nat) : Builtin.Slice.sliceAdjust none none (-1) (n : Int) = ((n : Int) - 1, -1) := by
  unfold
        Builtin.Slice.sliceAdjust
  simp
theorem places_rev (n : Nat) : Builtin.Slice.slicePlaces ((n : Int) - 1) (-1) (-1) = n := by
  unfold
        Builtin.Slice.slicePlaces
  have h1 : ¬ ((-1 : Int) > 0) := by omega
  simp only [h1, if_false, Int.neg_neg, Int.ediv_one]
  split <;> omega
theorem sliceApplied_rev {sl : Addr} {vs : Value} {n : Nat} {Q : Int × Int × Nat → Shared → Prop} (hs : s.heap.IsSliceOf sl .none .none vs) (ps : IsPart vs (some (-1)))
    (h : Q ((n : Int) - 1, -1, n) s) : wpAny (model prog w) A (Builtin.Slice.sliceApplied (.ref sl) (pure (n : Int))) Q E s := by
  obtain ⟨os, hos,
        hcs, hds⟩ := id hs
  unfold Builtin.Slice.sliceApplied
        Builtin.Slice.sliceFields
  refine wpAny_bind (wpAny_bind (wpAny_field hos hds (x := .none) rfl (wpAny_bind (wpAny_field hos hds (x := .none) rfl (wpAny_bind (wpAny_field hos hds (x := vs) rfl (wpAny_pure ?_)))))))
  refine wpAny_bind (slicePart_ ps ?_)
  show wpAny _ _ (if ((-1 : Int) == 0) = true then _ else _) _ _ s
  rw [if_neg (by decide)]
  refine wpAny_bind (slicePart_none (wpAny_bind (slicePart_none (wpAny_bind (wpAny_pure ?_)))))
  show wpAny _ _ (match Builtin.Slice.sliceAdjust none none (-1) (n : Int) with | (lo, hi) => pure (lo, (-1 : Int), Builtin.Slice.slicePlaces lo hi (-1))) _ _ s
  rw [adjust_rev]
  show wpAny _ _ (pure ((n : Int) - 1, (-1 : Int), Builtin.Slice.slicePlaces ((n : Int) - 1) (-1) (-1))) _ _ s
  rw [places_rev]
  exact wpAny_pure h
theorem fmap_map {α β : Type} {f : α → Option β} {g : α → β} : ∀ {l : List α}, (∀ x ∈ l, f x = some (g x)) → l.filterMap f = l.map g
  | [], _ => rfl
  | x :: r, h => by
    rw [List.filterMap_cons, h x List.mem_cons_self, List.map_cons]
    show _ :: _ = _ :: _
    rw [fmap_map fun y hy => h y (List.mem_cons_of_mem _ hy)]
theorem pick_rev (xs : Array Value) : ((List.range xs.size).filterMap fun (m : Nat) => xs[((xs.size : Int) - 1 + (m : Int) * -1).toNat]?).toArray = xs.toList.reverse.toArray := by
  congr 1
  apply List.ext_getElem?
  intro j
  have e : (List.range xs.size).filterMap (fun (m : Nat) => xs[((xs.size : Int) - 1 + (m : Int) * -1).toNat]?) = (List.range xs.size).map (fun m => xs.toList.reverse.getD m .none) := by
    refine fmap_map fun m hm => ?_
    have hm := List.mem_range.mp hm
    have e1 : ((xs.size : Int) - 1 + (m : Int) * -1).toNat = xs.size - 1 - m := by omega
    rw [e1]
    show xs[xs.size - 1 - m]? = some (xs.toList.reverse.getD m .none)
    rw [← Array.getElem?_toList, List.getD_eq_getElem?_getD, List.getElem?_reverse (by simpa using hm)]
    have hl : xs.toList.length - 1 - m < xs.toList.length := by rw [Array.length_toList]; omega
    rw [Array.length_toList, List.getElem?_eq_getElem (by rw [Array.length_toList]; omega)]
    rfl
  rw [e, List.getElem?_map]
  by_cases hj : j < xs.size
  · rw [List.getElem?_range hj]
    have hl : j < xs.toList.reverse.length := by rw [List.length_reverse, Array.length_toList]; exact hj
    rw [List.getElem?_eq_getElem hl]
    show some (xs.toList.reverse.getD j .none) = _
    rw [List.getD_eq_getElem?_getD, List.getElem?_eq_getElem hl]
    rfl
  · rw [List.getElem?_eq_none (by rw [List.length_range]; omega), List.getElem?_eq_none (by rw [List.length_reverse, Array.length_toList]; omega)]
    rfl
theorem getItem_tuple_rev {t sl : Addr} {items : Array Value} {vs : Value} {Q : Value → Shared → Prop} (ht : IsTup s.heap t items) (hs : s.heap.IsSliceOf sl .none .none vs) (ps : IsPart vs (some (-1)))
    (h : Q (.ref s.heap.objs.size) { s with heap := s.heap.push { cls := .type "tuple", data := .seq items.toList.reverse.toArray } })
    (hsz : items.size ≤ sizeLine) : wpAny (model prog
          w) A (getItem (.ref t) (.ref sl)) Q E s := by
  have htake : sizeOk (.seq items.toList.reverse.toArray) := by
    show items.toList.reverse.toArray.size ≤ sizeLine
    rw [List.size_toArray, List.length_reverse, Array.length_toList]
    exact hsz
  obtain ⟨os, hos,
        hcs, hds⟩ := id hs
  have hTs : s.TypeIs (.ref sl)
        "slice" := ⟨os, hos, hcs⟩
  unfold getItem
  try (with_reducible refine wpAny_holding ?_)
  first | (refine wpAny_bind (wpAny_pure ?_)) | skip
  refine wpAny_bind (wpAny_sequenceKey
        ht.typeIs (by decide) ?_)
  refine wpAny_bind (wpAny_callSpecial?_slot (name := Str.ofString
        "__getitem__") ht.typeIs PyProof.Rows.slot_tuple_getitem
    (wpAny_call_entry PyProof.Rows.slot_tuple_getitem
          ht.typeIs entry_tuple_getitem ?_ (args_tuple_getitem _ _)))
  show wpAny _ _ (Builtin.Tuple.tupleItemsOf
        (.ref t) >>= _) _ _ s
  refine wpAny_bind
        (tupleItemsOf_ ht ?_)
  refine wpAny_bind
        (wpAny_typeOf hTs ?_)
  rw [if_pos (by decide)]
  refine wpAny_bind (sliceApplied_rev hs ps ?_)
  show wpAny _ _ (if (((items.size : Int) - 1) == 0 && (-1 : Int) == 1 && items.size == items.size) = true then _ else _) _ _ s
  rw [if_neg (by simp), pick_rev]
  first
    | exact wpAny_bind (m := Builtin.Tuple.tupleExact _)
          (wpAny_newObj_type (wpAny_pure ⟨_, rfl, wpAny_pure h⟩) htake)
    | exact wpAny_bind (m := Builtin.Tuple.tupleExact _) (wpAny_newObj_type
          (wpAny_bind (wpAny_pure (wpAny_pure ⟨_, rfl, wpAny_pure h⟩))) htake)
    | exact wpAny_bind (wpAny_bind (m := Builtin.Tuple.tupleExact _)
          (wpAny_newObj_type (wpAny_pure (wpAny_pure ⟨_, rfl, wpAny_pure h⟩)) htake))
    | exact wpAny_bind (wpAny_bind (m := Builtin.Tuple.tupleExact _)
          (wpAny_newObj_type (wpAny_pure ⟨_, rfl, wpAny_pure h⟩) htake))
end
section
variable {X : Cx}
/-- x[::-1] of a list or of a tuple -/
def tRevS (K : PySem.W.Frag) (te : TE) : TE := fun σ H Q => te σ H fun x H1 => ∃ a xs, x = .ref a ∧ ((SqL K H1 a xs ∧ ∀ p, H1 p = none → Q (.ref p) (upd H1 p (.lst xs.reverse))) ∨ (SqT K H1 a xs ∧ ∀ p, H1 p = none → Q (.ref p) (upd H1 p (.tup xs.reverse))))
theorem pe_revS {e : Expr} {te : TE} {k : Nat} {p1 p2 p3 pos : Pos} (he : PE X e te) : PE X (.Subscript e (.Slice none none (some (.UnaryOp .USub (.Constant (.int 1) k p1) p2)) p3) pos) (tRevS X.K te) := by
  refine ⟨fun pins
        s σ H Q I h => ?_⟩
  refine Subscript_ (thn (he.run pins s σ H
        _ I h) fun v s1 ⟨x, H1, I1, r1, q1⟩ => ?_)
  obtain ⟨a, xs, ex, q⟩ := q1
  subst ex
  cases r1
  have hst : PO X (some (.UnaryOp .USub (.Constant (.int 1) k p1) p2)) (tPart
        (tUn (rU fun i => .int (-i)) (tC (.int 1)))) := po_some (pe_un un_neg pe_int)
  refine wpAny_Slice (thn (po_none.run pins s1 σ H1 (fun o H2 => o = none
        ∧ H2 = H1) I1 ⟨rfl, rfl⟩) fun vl s2 ⟨l, H2, I2, pl, el, e2⟩ => ?_)
  subst el e2
  refine thn (po_none.run pins s2 σ H2 (fun o H3 => o = none ∧ H3
        = H2) I2 ⟨rfl, rfl⟩) fun vu s3 ⟨u, H3, I3, pu, eu, e3⟩ => ?_
  subst eu e3
  refine thn (hst.run pins s3 σ H3 (fun o H4 => o = some (-1) ∧ H4 = H3)
        I3 ⟨1, rfl, -1, rfl, rfl, rfl⟩) fun vs s4 ⟨o, H4, I4, ps, eo, e4⟩ => ?_
  subst eo e4
  have I5 : Inv X pins σ H4 {
        s4 with heap := s4.heap.push { cls := .type "slice", data := .fields #[vl, vu, vs] } } := I4.kept (t' := s4.toks) fun b ob q => Heap.get?_push_of_some _ q
  rcases q with ⟨hx, q⟩ | ⟨hx, q⟩
  · obtain ⟨its, r, ht, hz⟩ := I5.list hx
    have hlen := r.length
    show wpAny (model X.prog X.w) X.A (subscriptTail e (.Slice none none (some (.UnaryOp .USub (.Constant (.int 1) k p1) p2)) p3) (.ref a)
          (.ref s4.heap.objs.size)) (EP X pins σ Q) X.xe { s4 with heap := s4.heap.push { cls := .type "slice", data := .fields #[vl, vu, vs] } }
    refine tail_any (ops := [.ref a, .ref s4.heap.objs.size]) ht.isList.typeIs
          (PySem.slot_list_getitem.lookup) ?_ (by with_unfolding_all rfl)
    refine wpAny_getItem_list_slice ht.isList (Heap.IsSliceOf.new _ vl
          vu vs) pl pu ps (by decide) ?_ (by rw [List.size_toArray]; omega)
    rw [PySem.W.krv_pick]
    refine ⟨.ref _, _, I5.laid (t' := s4.toks) (o := .lst xs.reverse) (fun b ob q =>
          Heap.get?_push_of_some _ q) (Nat.le_refl _) ?_, rfl, q _ (I5.hok.fresh (Nat.le_refl _))⟩
    exact ⟨by rw [List.length_reverse]; exact hz,
          _, 0, r.reverse, Heap.get?_push_size _ rfl⟩
  · obtain ⟨its, r, ht, hz⟩ := I5.tuple hx
    have hlen := r.length
    cases pl
    cases pu
    show wpAny (model X.prog X.w) X.A (subscriptTail e (.Slice none none (some (.UnaryOp .USub (.Constant (.int 1) k p1) p2)) p3) (.ref a) (.ref s4.heap.objs.size)) (EP X pins σ Q) X.xe { s4 with heap := s4.heap.push { cls := .type "slice", data := .fields #[.none, .none, vs] } }
    refine tail_any (ops := [.ref a, .ref s4.heap.objs.size]) ht.typeIs (PyProof.Rows.slot_tuple_getitem.lookup) ?_ (by with_unfolding_all rfl)
    refine getItem_tuple_rev ht (Heap.IsSliceOf.new _ .none .none vs) ps ?_ (by rw [List.size_toArray]; omega)
    refine ⟨.ref _, _, I5.laid (t' := s4.toks) (o := .tup xs.reverse) (fun b ob q => Heap.get?_push_of_some _ q) (Nat.le_refl _) ?_, rfl, q _ (I5.hok.fresh (Nat.le_refl _))⟩
    exact ⟨by rw [List.length_reverse]; exact hz, _, r.reverse, IsTup.new _ _⟩
end
end Z
/-! ### tuple(reversed(t)) of a tuple -/
namespace Z
open PySem PySem.Spec PyProof.Rows RT
theorem nolen_rt : typeLookup (.type "reversed") "__len__" = pure none := by rw [typeLookup_type, builtinLookup_eq_fast]; kernel_rfl
theorem hint_rt : typeLookup (.type "reversed") "__length_hint__" = pure (some (.builtin "reversed.__length_hint__")) := by rw [typeLookup_type, builtinLookup_eq_fast]; kernel_rfl
theorem slot_rt_hint : Slot "reversed" (Str.ofString "__length_hint__") "reversed.__length_hint__" := by
  refine Slot.of (owner := "reversed") (n := "__length_hint__") hint_rt ?_ ?_ ?_ (Or.inr ?_) ?_ ?_
  all_goals first | (rw [isSubtype_type]; kernel_rfl) | kernel_rfl | decide +kernel
theorem entry_rt_hint : entryFor table "reversed.__length_hint__" = some Builtin.«reversed.__length_hint__» := entryFor_of_tree (by kernel_rfl)
theorem args_rt_hint (a : Value) : argsOk "reversed.__length_hint__" { pos := [a] } := by
  show (match Manifest.signature? "reversed.__length_hint__" with | some sig => Bind.checkArgs "reversed.__length_hint__" sig { pos := [a] } | none => pure ()) = pure ()
  rw [signature?_of (n := "__length_hint__".toList.reverse) (o := "reversed".toList.reverse) (by kernel_rfl) RT.owner_rt]
  kernel_rfl
section
variable {prog : Program} {w : World} {A :
      Around} {E : Value → Shared → Prop} {s : Shared}
theorem call_hint_rt {it l : Addr} {items : Array Value} {Q : Value → Shared → Prop} (hit : IsRt s.heap it l ((items.size : Int) - 1)) (hl : IsTup s.heap l items) (hn : items.size ≤ sizeLine)
    (hQ : ∀ tk tk', Q (.int (items.size : Int) tk) { s with toks := tk' }) :
    wpAny (model prog w) A (call (.builtin "reversed.__length_hint__") [.ref it]) Q E s := by
  refine wpAny_call_entry slot_rt_hint hit.typeIs entry_rt_hint ?_ (args_rt_hint _)
  obtain ⟨o, ho,
        hc, hd⟩ := id hit
  unfold Builtin.«reversed.__length_hint__»
  have hz : ((items.size : Nat) : Int) < 2 ^ 63 := by
    have : sizeLine < 2 ^ 63 := by decide +kernel
    omega
  wp_walk using wpAny_field ho hd (i := 0) (x := .ref l) rfl, wpAny_field ho hd (i := 1) (x := rawInt ((items.size : Int) - 1)) rfl, len_tuple hl hz
  rw [hd]
  wp_walk
  rw [show ((items.size : Int) - 1) + 1 = items.size from by omega]
  exact ⟨_, rfl, hQ _ _⟩
end
theorem Walks.tupRev {prog : Program} {w : World} {A : Around} (hh : A.handled = none) (I l : Addr) (hne : l ≠ I) (items : Array Value) (hz : items.size ≤ sizeLine) :
    Walks prog w A I [I, l] [I] items.size (fun i v => items[items.size - 1 - i]? = some v) (fun i h => i ≤ items.size ∧ IsRt h I l ((items.size : Int) - 1 - (i : Int)) ∧ IsTup h l items) where
  sub := fun b hb => by
    simp at hb; simp [hb]
  frame := fun _ _ _ x hk => ⟨x.1, x.2.1.at fun o e => hk I (by simp) o e, by
    obtain ⟨o, ho, r⟩ := x.2.2
    exact ⟨o, hk l (by simp) o ho, r⟩⟩
  item := fun i s
        Q E hi x hQ => by
    have e : (items.size : Int) - 1 - (i : Int) =
          ((items.size - 1 - i : Nat) : Int) := by omega
    have hit := x.2.1
    rw [e] at hit
    have hx : items[items.size - 1 - i]? = some (items[items.size - 1 - i]'(by
          omega)) := Array.getElem?_eq_getElem (by omega)
    refine next_rt_item hit x.2.2 hx hz fun h' hit' hs' => ?_
    have e2 : ((items.size - 1 - i : Nat) : Int) - 1 = (items.size : Int) - 1 -
          ((i + 1 : Nat) : Int) := by omega
    rw [e2] at hit'
    refine hQ _ h' (s.toks + 1) hx ⟨hi, hit', ?_⟩ fun b o hb eo => hs'.extBut b o (fun h => hb (by simp [h])) eo
    obtain ⟨o, ho, r⟩ := x.2.2
    exact ⟨o, (hs'.2 l hne).trans ho, r⟩
  done := fun s Q E x hQ => by
    have e : (items.size : Int) - 1 -
          (items.size : Int) = -1 := by omega
    have hit := x.2.1
    rw [e] at hit
    exact next_rt_end hh hit fun h' he' => hQ h' s.toks fun b o hb eo => he' b o (fun h => hb (by simp [h])) eo
  self := fun _ _ _ _ x hQ => iter_rt x.2.1 hQ
section
variable {prog : Program} {w : World} {A :
      Around} {E : Value → Shared → Prop} {s : Shared}
theorem fits_size {n : Nat} (hn : n ≤ sizeLine) : Builtin.List.listFitsIndex (n : Int) = true := by
  have : sizeLine < 2 ^ 63 := by decide +kernel
  unfold
        Builtin.List.listFitsIndex
  rw [Bool.and_eq_true,
        decide_eq_true_eq, decide_eq_true_eq]
  omega
theorem notlong_size {n : Nat} (hn : n ≤ sizeLine) : Builtin.List.listTooLong (n : Int).toNat = false := by
  unfold
        Builtin.List.listTooLong
  rw [decide_eq_false_iff_not]
  omega
theorem hint_wp {it l : Addr} {items : Array Value} {Q : Bool → Shared → Prop} (hit : IsRt s.heap it l ((items.size : Int) - 1)) (hl : IsTup s.heap l items) (hn : items.size ≤ sizeLine)
    (hQ : ∀ b tk', Q b { s with toks := tk' }) :
    wpAny (model prog w) A (Builtin.List.listLengthHint (.ref it)) Q E s := by
  have hT : s.TypeIs (.ref it) "reversed" := hit.typeIs
  unfold
        Builtin.List.listLengthHint
  refine wpAny_bind (wpAny_specialOf hT nolen_rt ?_)
  show wpAny _ A (specialOf (Value.ref it) (Str.ofString "__length_hint__") >>= _) _ _ _
  refine wpAny_bind (wpAny_specialOf hT hint_rt ?_)
  generalize hid : ("reversed.__length_hint__" : String) = id0
  wp_delta
  rw [show splitId id0 = some ("reversed", "__length_hint__") from by subst hid; decide +kernel]
  subst hid
  refine wpAny_bind (wpAny_isInstance (b := true)
        hT (by rw [isSubtype_type]; kernel_rfl) ?_)
  rw [if_neg (by decide)]
  rw [if_neg (by
        decide +kernel)]
  refine wpAny_bind
        (wpAny_rule ?_)
  rw [slot_rt_hint.bind]
  refine wpAny_bind
        (wpAny_pure ?_)
  refine wpAny_bind (wpAny_attempt (call_hint_rt hit hl hn fun tk tk' => ?_))
  have hfit := fits_size hn
  have hlong := notlong_size hn
  have hneg : ¬ (items.size : Int) < 0 := by omega
  generalize (items.size : Int) = nn at hfit hlong hneg ⊢
  dsimp only
  rw [asInt?.eq_1]
  refine wpAny_bind
        (wpAny_pure ?_)
  dsimp only
  rw [hfit, hlong]
  rw [if_neg (by decide), if_neg hneg, if_neg (by decide)]
  exact wpAny_pure (hQ _ _)
theorem collect_revT {it l : Addr} {items : Array Value} {Q : List Value → Shared → Prop} (hh : A.handled = none) (hit : IsRt s.heap it l ((items.size : Int) - 1)) (hl : IsTup s.heap l items) (hne : l ≠ it) (hn : items.size ≤ sizeLine)
    (hQ : ∀ (h' : Heap) (tk : Nat) (acc : Array Value), (∀ b o, b ≠ it → s.heap.get? b = some o → h'.get? b = some o) →
          ItemsOf (fun i v => items[items.size - 1 - i]? = some v) acc items.size → Q acc.toList { s with heap := h', toks := tk }) :
    wpAny (model prog w) A (collect
          (.ref it)) Q E s := by
  have W := (Walks.tupRev (prog := prog) (w := w) (A := A.in1) hh it l hne items hn).toS
  obtain ⟨oi, hoi, _⟩ := id hit
  obtain ⟨ol, hol, hrl⟩ := id hl
  have hSi : s.heap.objs.size ≠ it :=
        Nat.ne_of_gt (Heap.lt_size hoi)
  have hSl : s.heap.objs.size ≠ l :=
        Nat.ne_of_gt (Heap.lt_size hol)
  have hSf : s.heap.objs.size ∉ [it, l] := by
    simp only [List.mem_cons, List.not_mem_nil, or_false, not_or]; exact ⟨hSi, hSl⟩
  unfold collect
  refine wpAny_bind (wpAny_runValue (codeAny_builtin
        F.entry_proto_collect ?_))
  rw [Around.under_plainId
        F.plain_proto_collect _]
  show wpAny _ A.in1 (newList [] >>= fun l' =>
    again (.builtin "list.__iadd__" ⟨[l', .ref it], []⟩)) _ _ s
  refine wpAny_bind
        (wpAny_newObj_type ?_)
  refine wpAny_pure ⟨plainId_quiet F.plain_list_iadd _,
        codeAny_builtin F.entry_list_iadd ?_⟩
  rw [Around.under_plainId
        F.plain_list_iadd _]
  have hS₁ : (s.heap.push { cls := .type "list", data := .seq ([] : List Value).toArray }).get? s.heap.objs.size =
      some { cls := .type "list", data := .seq ([] : List Value).toArray } := Heap.get?_push_size _ rfl
  have hit1 : IsRt (s.heap.push { cls := .type "list", data := .seq ([] : List Value).toArray }) it l ((items.size : Int) - 1) := hit.at fun o e => Heap.get?_push_of_some _ e
  have hl1 : IsTup (s.heap.push { cls := .type "list", data := .seq ([] : List Value).toArray }) l items := ⟨ol, Heap.get?_push_of_some _ hol, hrl⟩
  have hT : ({ s with heap := s.heap.push { cls := .type "list", data := .seq ([] : List Value).toArray } } : Shared).TypeIs (.ref it) "reversed" := IsRt.typeIs (s := { s with heap := s.heap.push { cls := .type "list", data := .seq ([] : List Value).toArray } }) hit1
  have h1 : Builtin.List.listSameRef (.ref s.heap.objs.size) (.ref it) = false := by
    simp [Builtin.List.listSameRef, hSi]
  show wpAny _ A.in1 (Builtin.List.listExtendWith (.ref s.heap.objs.size)
        (.ref it) (.ref s.heap.objs.size)) _ _ _
  unfold
        Builtin.List.listExtendWith
  refine wpAny_bind
        (wpAny_typeOf hT ?_)
  rw [if_neg (show ¬ _ = true by rw [h1]; decide)]
  refine wpAny_bind (iter_rt (s := { s with heap := s.heap.push { cls := .type "list", data := .seq ([] : List Value).toArray } }) hit1 ?_)
  refine wpAny_bind
        (wpAny_holding ?_)
  have e0 : ((items.size : Nat) : Int) - 1 - ((0 : Nat) : Int) =
        (items.size : Int) - 1 := by omega
  have key : ∀ (R : Result → Shared → Prop) (h2 : Heap) (c tk2 : Nat), h2.get? s.heap.objs.size = some { cls := .type "list", data := .seq #[] c } →
      (∀ b o, b ≠ s.heap.objs.size → s.heap.get? b = some o → h2.get? b = some o) →
      (∀ (h' : Heap) (tk3 c' : Nat) (acc : Array Value), h'.get? s.heap.objs.size = some { cls := .type "list", data := .seq acc c' } →
        (∀ b o, b ≠ it → s.heap.get? b = some o → h'.get? b = some o) → ItemsOf (fun i v => items[items.size - 1 - i]? = some v) acc items.size → R (Except.ok (Flow.ret (.ref s.heap.objs.size))) { s with heap := h', toks := tk3 }) →
      codeAny (model prog w) A (.builtin "list.extend.loop" { pos := [.ref s.heap.objs.size, .ref it, .ref s.heap.objs.size] }) R { s with heap := h2, toks := tk2 } := by
    intro R h2 c tk2 g2 f2 hR
    have g3 : ({ s with heap := h2, toks := tk2 } : Shared).heap.get? s.heap.objs.size = some { cls := .type "list", data := .seq #[] c } := g2
    refine codeAny_extend_loopS W hn _ hSf _ items.size 0 _ _ _ rfl (Nat.zero_le _) ⟨Nat.zero_le _, ?_, ?_⟩ g3 (ItemsOf.nil _) fun s' acc' c' hm hS' hacc => ?_
    · rw [e0]
      obtain ⟨o9, h9, r9⟩ := hit
      exact ⟨o9, f2 _ _ (Ne.symm hSi) h9, r9⟩
    · exact ⟨ol, f2 _ _ (Ne.symm hSl) hol, hrl⟩
    have em := Moved.eq_with hm
    have frame : ∀ b o, b ≠ it → s.heap.get? b = some o → s'.heap.get? b = some o := fun b o hb e => hm.heap b o (fun hmem => by
      rcases List.mem_cons.mp
            hmem with e' | hmem
      · exact absurd (Heap.lt_size e)
            (by rw [e']; exact Nat.lt_irrefl _)
      · exact hb (List.mem_singleton.mp hmem)) (f2 b o (fun e' => absurd (Heap.lt_size e) (by rw [e']; exact Nat.lt_irrefl _)) e)
    rw [em]
    exact hR s'.heap s'.toks c' acc' hS' frame hacc
  refine hint_wp hit1 hl1 hn fun b tk' => ?_
  have fin : ∀ (h2 : Heap) (c : Nat), h2.get? s.heap.objs.size = some { cls := .type "list", data := .seq #[] c } →
      (∀ b o, b ≠ s.heap.objs.size → s.heap.get? b = some o → h2.get? b = some o) →
      codeAny (model prog w) A (.builtin "list.extend.loop" { pos := [.ref s.heap.objs.size, .ref it, .ref s.heap.objs.size] })
        (fun r s' => match r with
          | Except.ok (Flow.ret v) => wpAny (model prog w) A (match v with
            | .ref a => load a >>= fun o => match o.data with
              | .seq xs _ => pure xs.toList
              | _ => unsupported
                    "internal:collect"
            | _ => unsupported "internal:collect") Q E s'
          | Except.ok _ => False
          | Except.error e => E e s') { s with heap := h2, toks := tk' } := by
    intro h2 c g2 f2
    refine key _ h2 c tk' g2 f2 fun h' tk3 c' acc g3 f3 hacc => ?_
    show wpAny (model prog w) A (load s.heap.objs.size >>= _) _ _ _
    refine wpAny_bind (wpAny_load g3 ?_)
    exact wpAny_pure (hQ h' tk3 acc f3 hacc)
  have f1 : ∀ b o, b ≠ s.heap.objs.size → s.heap.get? b = some o → (s.heap.push { cls := .type "list", data := .seq ([] : List Value).toArray }).get? b = some o := fun b o _ e => Heap.get?_push_of_some _ e
  rw [show (Bool.or b _) = b from ?hb]
  case hb => exact Bool.or_false b
  cases b
  · rw [if_neg (by decide)]
    exact wpAny_pure ⟨plainId_quiet F.plain_extend_loop _, fin _ _ hS₁ f1⟩
  · rw [if_pos rfl]
    refine wpAny_bind
          (wpAny_rule ?_)
    unfold Builtin.List.listTouch
    refine wpAny_bind (wpAny_bind (wpAny_updateSeq hS₁ rfl ?_))
    have g2 := Heap.get?_update_self (f := Obj.mapSeq fun x => x.push Value.none) hS₁ rfl
    refine wpAny_updateSeq g2 rfl ?_
    have g3 := Heap.get?_update_self (f := Obj.mapSeq fun x => x.pop) g2 rfl
    exact wpAny_pure ⟨plainId_quiet F.plain_extend_loop _, fin _ _ g3 fun b o hb e => Heap.get?_update_of_ne _ (Ne.symm hb) (Heap.get?_update_of_ne _ (Ne.symm hb) (f1 b o hb e))⟩
theorem code_tuple_new_revT {it l : Addr} {items : Array Value} {Q₁ : Value → Shared → Prop} (hh : A.handled = none) (hit : IsRt s.heap it l ((items.size : Int) - 1)) (hl : IsTup s.heap l items) (hne : l ≠ it) (hn : items.size ≤ sizeLine)
    (h : ∀ (h' : Heap) (tk : Nat) (acc : Array Value), (∀ b o, b ≠ it → s.heap.get? b = some o →
          h'.get? b = some o) → ItemsOf (fun i v => items[items.size - 1 - i]? = some v) acc items.size →
      Q₁ (.ref h'.objs.size) {
            s with heap := h'.push { cls := .type "tuple", data := .seq acc }, toks := tk }) :
    codeAny (model prog w) A (.call (.builtin "tuple.__new__")
          ⟨[.type "tuple", .ref it], []⟩) (wants Q₁ E) s := by
  refine codeAny_of_tree ?_
  show wpAny _ A.in1 (checkBuiltinCall "tuple.__new__" ⟨[.type "tuple", .ref it], []⟩ >>= fun _ =>
    again (.builtin "tuple.__new__" ⟨[.type "tuple", .ref it], []⟩)) _ _ s
  refine wpAny_bind (wpAny_of_eq (F.newCall_tuple_1 _) (wpAny_pure ⟨plainId_quiet
        F.plain_tuple_new _, codeAny_builtin F.entry_tuple_new ?_⟩))
  rw [Around.under_plainId
        F.plain_tuple_new _]
  have hsub := sub_tuple_self
  have hinit :=
        init_tuple_lookup
  have hmh := madeHere_tuple
  have hTI : s.TypeIs (.ref it) "reversed" := hit.typeIs
  have hh1 : A.in1.handled
        = none := hh
  wp_walk using wpAny_typeOf hTI, collect_revT (A := A.in1) hh1 hit hl hne hn
  intro h' tk acc hk hacc
  show wpAny _ _ (Builtin.Tuple.tupleExact acc.toList.toArray
        >>= fun v => ret v) _ _ _
  unfold
        Builtin.Tuple.tupleExact
  have hza : acc.toList.toArray.size ≤ sizeLine := by
    simp only [Array.toArray_toList]; rw [hacc.1]; exact hn
  refine wpAny_bind (wpAny_newObj_type ?_ hza)
  refine wpAny_pure ?_
  have e : acc.toList.toArray
        = acc := by simp
  rw [e]
  exact h h' tk acc
        hk hacc
theorem call_tuple_revT {it l : Addr} {items : Array Value} {Q : Value → Shared → Prop} (hh : A.handled = none) (hit : IsRt s.heap it l ((items.size : Int) - 1)) (hl : IsTup s.heap l items) (hne : l ≠ it) (hn : items.size ≤ sizeLine)
    (hQ : ∀ (h' : Heap) (tk : Nat) (acc : Array Value), (∀ b o, b ≠ it → s.heap.get? b = some o →
          h'.get? b = some o) → ItemsOf (fun i v => items[items.size - 1 - i]? = some v) acc items.size →
      Q (.ref h'.objs.size) {
            s with heap := h'.push { cls := .type "tuple", data := .seq acc }, toks := tk }) :
    wpAny (model prog w) A (call (.type
          "tuple") [.ref it]) Q E s := by
  refine callType_codes (Q₁ := fun obj s₁ => s₁.TypeIs obj "tuple" ∧ Q obj s₁)
        F.called_tuple (F.typeCall_tuple_1 _) F.entry_object_init
    (code_tuple_new_revT (A := A.in1) hh hit hl hne hn fun h' tk acc hk hacc => ⟨⟨_, Heap.get?_push_size _ rfl, rfl⟩, hQ h' tk acc hk hacc⟩) fun obj s₁ h₁ => ?_
  exact ⟨h₁.1, F.args_object_init_2 obj _, object_init_meets F.called_tuple.init.lookup F.called_tuple.made
        (by decide) prog w A.in1 _ s₁ ⟨h₁.1, rfl, h₁.2⟩⟩
end
end Z

set_option Elab.async false
set_option linter.all false
set_option maxRecDepth 100000
set_option maxHeartbeats 2000500
/-! ### t * 1 of a tuple: the same tuple -/
namespace Z
open PySem PySem.Spec PyProof.Rows L2 HT
theorem tuple_mul1 (l : Addr) (items : Array Value) (n : Nat) (dd : Option Addr) (sl : Array (Option Value)) (x : Int) (u : Tok)
    (c0 : (decide (x < -2 ^ 63) || decide (x ≥ 2 ^ 63)) = false) (c1 : (items.isEmpty || x == 1) = true) :
    Meets (Builtin.«tuple.__mul__» { pos := [Value.ref l, Value.int x u] }) fun _ R s =>
      s.heap.get? l = some { cls := Value.type "tuple", dict := dd, data := Data.seq items n, slots := sl } ∧ R (Except.ok (Flow.ret (Value.ref l))) s :=
  Meets.of_wp fun prog w A R s h => by
    obtain ⟨hp, g,
          d, tk, os⟩ := s
    obtain ⟨hl, h⟩ := h
    have f1 := AutoSeq1.idx_int
    have hT : (⟨hp, g, d, tk, os⟩ : Shared).TypeIs (.ref l) "tuple" := ⟨_, hl, rfl⟩
    wp_walk
    rw [if_neg (by rw [c0]; decide)]
    refine wpAny_bind (tupleItemsOf_ (items := items) ⟨_, hl, rfl, _, rfl⟩ ?_)
    rw [if_pos c1]
    unfold Builtin.Tuple.tupleIsExact
    wp_walk using wpAny_typeOf hT
    exact ⟨_, rfl, h⟩
/-- t * k of a tuple that is not empty, k at least 1 -/
def rRep1 (K : PySem.W.Frag) : R2 := fun x y H Q => ∃ l k xs, x = .ref l ∧ y = .int k ∧ SqT K H l xs ∧ xs ≠ [] ∧ 1 ≤ k ∧ k ≤ 1000 ∧ xs.length ≤ 1000 ∧
  (k = 1 → Q (.ref l) H) ∧ (k ≠ 1 → ∀ p, H p = none → Q (.ref p) (upd H p (.tup (List.replicate k.toNat xs).flatten)))
theorem op_rep1 {X : Cx} : OpR X (binaryOp Operator.Mult) (rRep1 X.K) := by
  intro pins s σ H x
        y v u Q I rx ry h
  obtain ⟨l, k, xs, ex, ey, hT, hne, h1, h2, hz, q1, q2⟩ := h
  by_cases hk : k = 1
  · subst ex ey
    cases rx
    obtain ⟨t, e⟩ := ry
    subst e hk
    obtain ⟨its, r, ht, hs⟩ := I.tuple hT
    obtain ⟨⟨cls, dd, data, sl⟩,
          ho, hc, n, hd⟩ := id ht
    dsimp only at hc hd
    subst hc hd
    refine wpAny_binaryOp_repeat_ref (by decide) ⟨_, ho, rfl⟩ (fun s' => typeIs_int s' 1 t) noFill_tuple_mul F.fills_int_mul F.slot_int_rmul repeat_tuple F.slot_int_index.lookup ?_
    refine call_meets F.slot_int_rmul (typeIs_int s 1 t) F.entry_int_rmul (F.args_int_rmul_2 (Value.int 1 t) (Value.ref l)) (int_rmul_tuple 1 t l its.toArray n dd sl) ⟨ho, rfl, ⟨_, ho, rfl⟩, ?_⟩
    refine call_meets F.slot_tuple_mul ⟨_, ho, rfl⟩ F.entry_tuple_mul (F.args_tuple_mul_2 (Value.ref l) (Value.int 1 t)) (tuple_mul1 l its.toArray n dd sl 1 t (by decide) (by simp)) ⟨ho, ?_⟩
    exact ⟨.ref l, H, I, rfl, q1 rfl⟩
  · exact op_repT pins s σ H x y v u Q I rx ry ⟨l, k, xs, ex, ey, hT, hne, by omega, h2, hz, q2 hk⟩
end Z
/-! ### tuple(reversed(t)) of a tuple as an expression -/
namespace Z
open PySem PySem.Spec PyProof.Rows L2 RT
def tTupRevT (K : PySem.W.Frag) (te : TE) : TE := fun σ H Q => te σ H fun v H1 => ∃ a xs, v = .ref a ∧ SqT K H1 a xs ∧ ∀ q, H1 q = none → Q (.ref q) (upd H1 q (.tup xs.reverse))
theorem pe_tupRevT {X : Cx} {e : Expr} {te : TE} {p p2 pos pos2 : Pos} (hc : X.calm = true) (hg : Gl X "tuple") (hm : X.mg "tuple" = none) (hg2 : Gl X "reversed") (hm2 : X.mg "reversed" = none) (he : PE X e te)
    (hs : starEach [e] X.env = (false, eval
          e X.env) :: starEach [] X.env := by rfl)
    (hs2 : starEach [.Call (.Name "reversed" p2) [e] [] pos2] X.env = (false, eval
          (.Call (.Name "reversed" p2) [e] [] pos2) X.env) :: starEach [] X.env := by rfl) :
    PE X (.Call (.Name "tuple" p) [.Call (.Name "reversed" p2) [e] [] pos2] [] pos) (tTupRevT X.K te) := by
  refine ⟨fun pins
        s σ H Q I h => ?_⟩
  refine Call_ (ld_blt I hg hm boot_tuple (PyProof.Rows.callWith_type1 (he := hs2) ?_))
  refine args_cons (he := hs2) (Call_ (ld_blt I hg2 hm2 boot_reversed (PyProof.Rows.callWith_type1 (he := hs) (args_cons (he := hs) ?_))))
  refine (thn (he.run pins s σ H _ I h) fun u s1 x => ?_)
  obtain ⟨v, H1, I1, r1, a, xs, ev, hq, q⟩ := x
  subst ev
  cases r1
  obtain ⟨its, r, ht, hz⟩ := I1.tuple hq
  have hlen := r.length
  have hne : a ≠ s1.heap.objs.size := by
    obtain ⟨o, ho, _⟩ := ht
    exact Nat.ne_of_lt
          (Heap.lt_size ho)
  have hsz : its.toArray.size ≤ sizeLine := by rw [List.size_toArray]; omega
  have hlt : ((its.toArray.size : Nat) : Int) < 2 ^ 63 := by
    have : sizeLine < 2 ^ 63 := by decide +kernel
    omega
  refine args_nil (call_reversed_tup ht (fun _ _ _ h9 => len_tuple ht hlt h9) (args_nil ?_))
  have I2 : L2.Inv X pins σ H1 { s1 with heap := s1.heap.push (rtObj a ((its.toArray.size : Int) - 1)), toks := s1.toks + 1 + 1 } := I1.kept fun b ob q9 => Heap.get?_push_of_some _ q9
  have hit : IsRt (s1.heap.push (rtObj a ((its.toArray.size : Int) - 1))) s1.heap.objs.size a ((its.toArray.size : Int) - 1) := ⟨_, Heap.get?_push_size _ rfl, rfl, rfl⟩
  obtain ⟨f0, f1, f2, f3, f4, f5⟩ := I1.fpOk (Nat.le_refl s1.heap.objs.size) (I1.hok.fresh (Nat.le_refl s1.heap.objs.size))
  have ht2 : IsTup (s1.heap.push (rtObj a ((its.toArray.size : Int) - 1))) a its.toArray := by
    obtain ⟨o, ho, r9⟩ := ht
    exact ⟨o, Heap.get?_push_of_some _ ho, r9⟩
  refine call_tuple_revT (s := { s1 with heap := s1.heap.push (rtObj a ((its.toArray.size : Int) - 1)), toks := s1.toks + 1 + 1 }) (items := its.toArray) (I1.ok.hd hc) hit ht2 hne hsz fun h' tk acc hk hacc => ?_
  have I3 := Inv.turned (t' := tk) I2 (fun b o hb e => hk b o hb e) f0 f1 f3 f4 f5
  refine ⟨.ref h'.objs.size, upd H1 h'.objs.size (.tup xs.reverse), I3.laid (t' := tk) (fun c o e => Heap.get?_push_of_some _ e) (Nat.le_refl _) ?_, rfl, q _ (I3.hok.fresh (Nat.le_refl _))⟩
  refine ⟨by rw [List.length_reverse]; exact hz, acc.toList, vals_rev r hacc, ?_⟩
  rw [Array.toArray_toList]
  exact IsTup.new h' acc
end Z
/-! ### readings of these over a ledger -/
namespace Z
open PySem PySem.Spec PyProof.Rows L2 HT
theorem zSlA {X : Cx} : SlR X (rOrS (rSlL X.K) (rSlA X.K)) := SlR.or sl_list sl_tupA
theorem cut_whole {xs : List V} {lo hi : Option Int} (h : HT.sIx xs.length 0 lo = 0 ∧ HT.sIx xs.length xs.length hi = xs.length) : cutV xs lo hi = xs := by
  unfold cutV
  rw [h.1, h.2]
  simp
def RevR (K : PySem.W.Frag) (x : V) (H1 : Hp) (Q : VK) : Prop := ∃ a xs, x = .ref a ∧ ((SqL K H1 a xs ∧ ∀ p, H1 p = none → Q (.ref p) (upd H1 p (.lst xs.reverse))) ∨ (SqT K H1 a xs ∧ ∀ p, H1 p = none → Q (.ref p) (upd H1 p (.tup xs.reverse))))
def TupRevR (K : PySem.W.Frag) (x : V) (H1 : Hp) (Q : VK) : Prop := ∃ a xs, x = .ref a ∧ SqT K H1 a xs ∧ ∀ q, H1 q = none → Q (.ref q) (upd H1 q (.tup xs.reverse))
def RevI (K : PySem.W.Frag) (vs : List V) (H1 : Hp) (R : It → Hp → Prop) : Prop := ∃ a xs, vs = [V.ref a] ∧ SqL K H1 a xs ∧ R (Itv K a xs.length) H1
section
variable {K : PySem.W.Frag} {σ : L2.St} {H : Hp} {te : TE} {ta : TA} {Q : VK} {L : List En} {a : Addr} {xs : List V} {RI : It → Hp → Prop} {k : Int} {b : V} {lo hi : Option Int}
theorem wRevS (h : te σ H fun x H1 => RevR K x H1 Q) : tRevS K te σ H Q := h
theorem wRevL (s : SqL K H a xs) (F : Fx H L) (k : ∀ p H', Fx H' (.ob p (.lst xs.reverse) :: L) → Q (.ref p) H') : RevR K (.ref a) H Q := ⟨a, xs, rfl, .inl ⟨s, wNewF F k⟩⟩
theorem wRevT (s : SqT K H a xs) (F : Fx H L) (k : ∀ p H', Fx H' (.ob p (.tup xs.reverse) :: L) → Q (.ref p) H') : RevR K (.ref a) H Q := ⟨a, xs, rfl, .inr ⟨s, wNewF F k⟩⟩
theorem wTupRev (h : te σ H fun x H1 => TupRevR K x H1 Q) : tTupRevT K te σ H Q := h
theorem wTupRevT (s : SqT K H a xs) (F : Fx H L) (k : ∀ p H', Fx H' (.ob p (.tup xs.reverse) :: L) → Q (.ref p) H') : TupRevR K (.ref a) H Q := ⟨a, xs, rfl, s, wNewF F k⟩
theorem wIRev (h : ta σ H fun vs H1 => RevI K vs H1 RI) : iRev K ta σ H RI := h
theorem wRevI (s : SqL K H a xs) (h : RI (Itv K a xs.length) H) : RevI K [.ref a] H RI := ⟨a, xs, rfl, s, h⟩
theorem wRep1 (F : Fx H L) (m : En.ob a (.tup xs) ∈ L) (n1 : 1 ≤ k) (n2 : k ≤ 1000) (n3 : xs.length ≤ 1000) (n4 : xs ≠ [])
    (q : ∀ p H' L1, En.ob p (.tup (List.replicate k.toNat xs).flatten) ∈ L1 → L.Sublist L1 → Fx H' L1 → Q (.ref p) H') : rRep1 K (.ref a) (.int k) H Q := by
  refine ⟨a, k, xs, rfl, rfl, F.tup m, n4, n1, n2, n3, fun e => ?_, fun _ => ?_⟩
  · subst e
    refine q a H L ?_ (.refl _) F
    rw [show (List.replicate (Int.toNat 1) xs).flatten = xs from by
      show (List.replicate 1 xs).flatten = xs
      simp]
    exact m
  · exact wNewF F fun p H' F' => q p H' _ List.mem_cons_self (List.sublist_cons_self _ _) F'
theorem wSlAS {L' : List En} (hq : SeqIs L b (some xs)) (sb : L.Sublist L') (F : Fx H L')
    (q : ∀ p H' N, Seq2 (N ++ L) b (.ref p) xs (cutV xs lo hi) → Fx H' (N ++ L') → Q (.ref p) H') : rOrS (rSlL K) (rSlA K) b lo hi H Q := by
  cases hq with
  | lst m => exact .inl ⟨_, xs, rfl, F.lst (sb.subset m), wNewF F fun p H' F' => q p H' [_] (.lst (.tail _ m) List.mem_cons_self) F'⟩
  | tup m =>
    refine .inr ⟨_, xs, rfl, F.tup (sb.subset m), fun e => ?_, fun _ => ?_⟩
    · refine q _ H [] (.tup m ?_) F
      rw [cut_whole e]
      exact m
    · exact wNewF F fun p H' F' => q p H' [_] (.tup (.tail _ m) List.mem_cons_self) F'
theorem wLenSq (hq : SeqIs L b (some xs)) (F : Fx H L) (h : Q (.int xs.length) H) : rLen K [b] H Q := by
  cases hq with
  | lst m => exact wLenL (F.lst m) h
  | tup m => exact wLenT (F.tup m) h
theorem wIxSq {i : Int} {v : V} (hq : SeqIs L b (some xs)) (F : Fx H L) (e : atI xs i = some v) (h : Q v H) : rIx K b (.int i) H Q := by
  cases hq with
  | lst m => exact wIxL (F.lst m) e h
  | tup m => exact wIxT (F.tup m) e h
theorem wMany_yes {c cls : Value} {ts : Addr → Value → Option Addr → TS} {r : List (Value × (Addr → Value → Option Addr → TS))} {Wout : WX} {D : Ends} {d : Option Addr} (e : PySem.W.exmOne K cls c = some true) (h : ∀ a, H a = none → ts a cls d D σ H) : WE (wMany K Wout D ((c, ts) :: r)) σ cls d H :=
  ⟨true, e, fun _ a ha => h a ha, fun q => Bool.noConfusion q⟩
theorem wMany_no {c cls : Value} {ts : Addr → Value → Option Addr → TS} {r : List (Value × (Addr → Value → Option Addr → TS))} {Wout : WX} {D : Ends} {d : Option Addr} (e : PySem.W.exmOne K cls c = some false) (h : WE (wMany K Wout D r) σ cls d H) : WE (wMany K Wout D ((c, ts) :: r)) σ cls d H :=
  ⟨false, e, fun q => Bool.noConfusion q, fun _ => h⟩
theorem starSq {R : List V → Prop} (hq : SeqIs L b (some xs)) (F : Fx H L) (h : R xs) : ∃ p xs, b = V.ref p ∧ (SqT K H p xs ∨ SqL K H p xs) ∧ R xs := by
  cases hq with
  | lst m => exact ⟨_, xs, rfl, .inr (F.lst m), h⟩
  | tup m => exact ⟨_, xs, rfl, .inl (F.tup m), h⟩
theorem wOnly_yes {c : Value} {ts : Addr → Value → Option Addr → TS} {Wout : WX} {D : Ends} {d : Option Addr} (e : PySem.W.exmOne K c c = some true) (h : ∀ a, H a = none → ts a c d D σ H) : WE (wOnly K c ts Wout D) σ c d H :=
  ⟨true, e, fun _ a ha => h a ha, fun q => Bool.noConfusion q⟩
theorem Seq2.isR {L : List En} {a c : V} {xs ys : List V} (h : Seq2 L a c xs ys) : SeqIs L c (some ys) := by
  cases h with
  | lst _ m => exact .lst m
  | tup _ m => exact .tup m
theorem wLcZL {a b : Addr} {xs ys : List V} {g : TG} {tt : TT} {te : TE} {vs : List Nat} {σ : L2.St} {QD : Addr → Hp → Prop} (m : En.ob a (.lst xs) ∈ L) (m' : En.ob b (.lst ys) ∈ L) (F : Fx H L) (R : Nat → List V → List En → Prop) (h0 : R 0 [] L) (keep : ∀ i acc L', R i acc L' → ∀ e ∈ L, e ∈ L')
    (hs : ∀ i x y T D H' acc L', xs[i]? = some x → ys[i]? = some y → R i acc L' → Fx H' (.ob T (.tup [x, y]) :: .ob D (.lst acc) :: L') → g (.ref T) (wipe σ vs) H' fun σ2 H2 => wipe σ2 vs = wipe σ vs ∧ tt σ2 H2 fun b H3 =>
      if b = true then te σ2 H3 fun y H4 => LcPut D R i y H4 else LcP D R (i + 1) H3)
    (hd : ∀ D acc L' H', Fx H' (.ob D (.lst acc) :: L') → R (min xs.length ys.length) acc L' → QD D H') :
    ∀ D, H D = none → ∃ W : Nat → Nat → Hp → Prop, (∃ m, W 0 m (upd H D (.lst []))) ∧ ∀ i m H, W i m H →
  ((Itz K a b).stop i H ∧ QD D H) ∨ ((Itz K a b).go i H ∧ ∃ Nx : Hp → Prop, (∀ H', Nx H' → ∃ m', m' < m ∧ W (i + 1) m' H') ∧ ∀ x H', (Itz K a b).yld i H x H' → g x (wipe σ vs) H' fun σ2 H2 => wipe σ2 vs = wipe σ vs ∧ tt σ2 H2 fun b H3 =>
    if b = true then te σ2 H3 fun y H4 => ∃ acc, H4 D = some (.lst acc) ∧
          acc.length < sizeLine ∧ Nx (upd H4 D (.lst (acc ++ [y]))) else Nx H3) := by
  refine wLcW (walk_zip (K := K) (xs := xs) (ys := ys) rfl) F R h0 (fun i acc L' D H' r F' => ⟨F'.lst (List.mem_cons_of_mem _ (keep _ _ _ r _ m)), F'.lst (List.mem_cons_of_mem _ (keep _ _ _ r _ m'))⟩) ?_ hd
  rintro i v D H' H'' acc L' _ r F' ⟨T, x, y, rfl, hT, rfl, e1, e2⟩
  exact hs i x y T D _ acc L' e1 e2 r (F'.new hT)
theorem wLcRev {a : Addr} {xs : List V} {g : TG} {tt : TT} {te : TE} {vs : List Nat} {σ : L2.St} {QD : Addr → Hp → Prop} (m : En.ob a (.lst xs) ∈ L) (F : Fx H L) (R : Nat → List V → List En → Prop) (h0 : R 0 [] L) (keep : ∀ i acc L', R i acc L' → ∀ e ∈ L, e ∈ L')
    (hs : ∀ i x D H' acc L', xs.reverse[i]? = some x → R i acc L' → Fx H' (.ob D (.lst acc) :: L') → g x (wipe σ vs) H' fun σ2 H2 => wipe σ2 vs = wipe σ vs ∧ tt σ2 H2 fun b H3 =>
      if b = true then te σ2 H3 fun y H4 => LcPut D R i y H4 else LcP D R (i + 1) H3)
    (hd : ∀ D acc L' H', Fx H' (.ob D (.lst acc) :: L') → R xs.length acc L' → QD D H') :
    ∀ D, H D = none → ∃ W : Nat → Nat → Hp → Prop, (∃ m, W 0 m (upd H D (.lst []))) ∧ ∀ i m H, W i m H →
  ((Itv K a xs.length).stop i H ∧ QD D H) ∨ ((Itv K a xs.length).go i H ∧ ∃ Nx : Hp → Prop, (∀ H', Nx H' → ∃ m', m' < m ∧ W (i + 1) m' H') ∧ ∀ x H', (Itv K a xs.length).yld i H x H' → g x (wipe σ vs) H' fun σ2 H2 => wipe σ2 vs = wipe σ vs ∧ tt σ2 H2 fun b H3 =>
    if b = true then te σ2 H3 fun y H4 => ∃ acc, H4 D = some (.lst acc) ∧
          acc.length < sizeLine ∧ Nx (upd H4 D (.lst (acc ++ [y]))) else Nx H3) := by
  refine wLcW (walk_rev (K := K) (a := a) (xs := xs)) F R h0 (fun i acc L' D H' r F' => F'.lst (List.mem_cons_of_mem _ (keep _ _ _ r _ m))) ?_ hd
  rintro i v D H' H'' acc L' hi r F' ⟨rfl, e⟩
  exact hs i v D _ acc L' (by rw [List.getElem?_reverse hi]; exact e) r F'
end
end Z

set_option Elab.async false
set_option linter.all false
set_option maxRecDepth 100000
/-! ### range of any bounds; math.lcm; min and max of a list -/
namespace Z
open PySem PySem.Spec
      PyProof.Rows L2
theorem turn_long {P : Program} {w : World} {K : PySem.W.Frag} {tg : Expr} (it : Addr) (lo : Int) (n : Nat) : Turn P w K tg (Itr lo n) [it] it (fun i h => IsLongIter h it (lo + (i : Nat) * 1) ((n : Int) - (i : Nat)) 1) where
  mem := by simp
  obj := fun i h st b hb => by
    have e : b = it :=
          by simpa using hb
    subst e
    exact ⟨_, st, fun v z => by
      have z' : Data.fields
            _ = Data.cell v := z
      cases z'⟩
  keep := fun i h h' st k
        => k it (by simp) _ st
  item := by
    intro X hP hw hK hc i
          pins s σ H E I hf st hg
    subst hP hw hK
    obtain ⟨f0, f1, f2, f3,
          f4, f5⟩ := hf it (by simp)
    have W := Walks.longrange (prog := X.prog) (w := X.w) (I.ok.hd hc) it lo 1 n
    refine W.item i s _ _ hg st
          fun v h' tk hv st' kk => ?_
    obtain ⟨t, rfl⟩ := hv
    have I1 : Inv X pins σ H {
          s with heap := h', toks := tk } := I.turned (fun b o hb e => kk b o (by simpa using hb) e) f0 f1 f3 f4 f5
    refine ⟨_, rfl, go_of (s := { s with heap := h', toks := tk }) (n := "longrange_iterator") st' rfl rfl (by decide) ⟨.int (lo + i), H, I1, ⟨t, ?_⟩, ⟨rfl, rfl⟩, st', fun b hb => (hf b hb).1⟩⟩
    rw [Int.mul_one]
  done := by
    intro X hP hw hK hc i
          pins s σ H E I hf st hg
    subst hP hw hK
    obtain ⟨f0, f1, f2, f3,
          f4, f5⟩ := hf it (by simp)
    exact wpAny_pyNext_long_end (I.ok.hd hc) st (by have : n ≤ i := hg; omega) fun h' eb => ⟨rfl, I.turned (t' := s.toks) (fun b o hb e => eb b o hb e) f0 f1 f3 f4 f5⟩
  self := fun _ _ _ _ _ st h => wpAny_pyIter_longiter st h
section
variable {X : Cx} {tg : Expr}
theorem range_itG {pins : List (Addr × Obj)} {σ : L2.St} {H : Hp} {s : Shared} {R : It → Hp → Prop} {E : Value → Shared → Prop} {lo hi : Int} {t u v : Tok} {tk : Nat} (I : Inv X pins σ H s)
    (q : R (Itr lo (hi - lo).toNat) H) : wpAny (model X.prog X.w) X.A (pyIter (.ref s.heap.objs.size)) (PIE X pins σ tg R) E {
          s with heap := s.heap.push { cls := .type "range", data := .fields #[.int lo t, .int hi u, .int 1 v] }, toks := tk } := by
  cases hs : Builtin.Range.small lo hi 1 with
  | true =>
    refine wpAny_pyIter_range (IsRange.new ..) hs ?_
    have I1 : Inv X pins σ H {
          s with heap := s.heap.push { cls := .type "range", data := .fields #[.int lo t, .int hi u, .int 1 v] }, toks := tk } := I.kept fun b o e => Heap.get?_push_of_some _ e
    refine pi_one (tk := tk) I1 _ (turn_range _ lo (hi - lo).toNat) ?_ q
    have e1 : lo + ((0 : Nat) : Int) * 1 = lo := by simp
    have e2 : (((hi - lo).toNat : Nat) : Int) - ((0 : Nat) : Int) =
          Builtin.Range.rangeSize lo hi 1 := by rw [rangeSize_one]; split <;> omega
    show IsRangeIter _ _ (lo + ((0 : Nat) : Int) * 1)
          ((((hi - lo).toNat : Nat) : Int) - ((0 : Nat) : Int)) 1
    rw [e1, e2]
    exact Heap.get?_push_size
          _ rfl
  | false =>
    refine wpAny_pyIter_longrange (IsRange.new ..) hs ?_
    have I1 : Inv X pins σ H {
          s with heap := s.heap.push { cls := .type "range", data := .fields #[.int lo t, .int hi u, .int 1 v] }, toks := tk } := I.kept fun b o e => Heap.get?_push_of_some _ e
    refine pi_one (tk := tk) I1 _ (turn_long _ lo (hi - lo).toNat) ?_ q
    have e1 : lo + ((0 : Nat) : Int) * 1 = lo := by simp
    have e2 : (((hi - lo).toNat : Nat) : Int) - ((0 : Nat) : Int) =
          Builtin.Range.rangeSize lo hi 1 := by rw [rangeSize_one]; split <;> omega
    show IsLongIter _ _ (lo + ((0 : Nat) : Int) * 1) ((((hi - lo).toNat : Nat) : Int) - ((0 : Nat) : Int)) 1
    rw [e1, e2]
    exact Heap.get?_push_size
          _ rfl
def iRngG (ta : TA) : TI := fun σ H R => ta σ H fun vs H1 => ∃ i j : Int, vs = [.int i, .int j] ∧ R (Itr i (j - i).toNat) H1
/-- for .. in range(a, b), numbers of any size -/
theorem pi_rangeG {a b : Expr} {ta : TA} {p pos : Pos} (hg : Gl X "range") (hm : X.mg "range" = none) (ha : PA X [a, b] ta) (hs : starEach [a, b] X.env = [(false, eval a X.env), (false, eval b X.env)] := by rfl) (hs2 : starEach [b] X.env = [(false, eval b X.env)] := by rfl) :
    PI X tg (.Call (.Name "range" p) [a, b] [] pos) (iRngG ta) := by
  refine ⟨fun pins
        s σ H R I h => ?_⟩
  refine Call_ (ld_blt I hg hm boot_range (PyProof.Rows.callWith_type1 (thn (ha.run pos pins
        s σ H _ I h) fun us s1 ⟨vs, H1, I1, r1, q1⟩ => ?_) (by rw [hs, hs2]) (by rw [hs2]; rfl)))
  obtain ⟨i, j, e, q⟩ := q1
  subst e
  cases r1 with
  | cons r rr =>
    cases rr with
    | cons r' rr =>
      cases rr
      obtain ⟨t, rfl⟩ := r
      obtain ⟨t', rfl⟩ := r'
      exact call_range_2 (range_itG I1 q)
def rLcm : List V → Hp → VK → Prop := fun vs H Q => ∃ a b : Int, vs = [.int a, .int b] ∧ a.natAbs < 2 ^ 64 ∧ b.natAbs < 2 ^ 64 ∧ Q (.int ((Nat.lcm a.natAbs b.natAbs : Nat) : Int)) H
theorem cr_lcm : CallR X (.builtin "math.lcm") rLcm := by
  intro pins s σ
        H vs us Q I r h
  obtain ⟨a, b, rfl, ha, hb, q⟩ := h
  obtain ⟨t, u, rfl⟩
        := Vals.int2 r
  exact PySem.W.mc_lcm ha hb fun _ => ⟨.int _, H, I.tok _, ⟨_, rfl⟩, q⟩
end
section
variable {K : PySem.W.Frag} {H : Hp} {Q : VK} {σ : L2.St} {ta : TA} {RI : It → Hp → Prop}
def GoRG (vs : List V) (H : Hp) (R : It → Hp → Prop) : Prop := ∃ i j : Int, vs = [.int i, .int j] ∧ R (Itr i (j - i).toNat) H
theorem wIRG (h : ta σ H fun vs H1 => GoRG vs H1 RI) : iRngG ta σ H RI := h
theorem wGoRG {i j : Int} (h : RI (Itr i (j - i).toNat) H) : GoRG [.int i, .int j] H RI := ⟨i, j, rfl, h⟩
theorem wLcm {a b : Int} (ha : a.natAbs < 2 ^ 64) (hb : b.natAbs < 2 ^ 64) (h : Q (.int ((Nat.lcm a.natAbs b.natAbs : Nat) : Int)) H) : rLcm [.int a, .int b] H Q := ⟨a, b, rfl, ha, hb, h⟩
theorem wMinL {a : Addr} {ns : List Int} (s : SqL K H a (ns.map V.int)) (n : 0 < ns.length) (h : ∀ m, m ∈ ns → (∀ y, y ∈ ns → m ≤ y) → Q (.int m) H) : rMin K [.ref a] H Q := ⟨a, ns, rfl, s, n, h⟩
theorem wMaxL {a : Addr} {ns : List Int} (s : SqL K H a (ns.map V.int)) (n : 0 < ns.length) (h : ∀ m, m ∈ ns → (∀ y, y ∈ ns → y ≤ m) → Q (.int m) H) : rMax K [.ref a] H Q := ⟨a, ns, rfl, s, n, h⟩
end
end Z

set_option Elab.async false
set_option linter.all false
set_option maxRecDepth 100000
set_option maxHeartbeats 2000500
/-! ### zip of a list or a tuple with a list or a tuple; len of an own instance -/
namespace Z
open PySem PySem.Spec
      PyProof.Rows L2
inductive Sd where | l | t
def Sd.seq : Sd → PySem.W.Frag → Hp → Addr → List V → Prop
  | .l => SqL
  | .t => SqT
def Sd.isIt : Sd → Heap → Addr → Addr → Nat → Prop
  | .l => fun h it a i => h.IsListIter it a i
  | .t => fun h it a i => h.IsTupleIter it a i
def Sd.holds : Sd → Heap → Addr → Array Value → Prop
  | .l => fun h a its => h.IsList a its
  | .t => fun h a its => h.IsTuple a its
def Sd.obj : Sd → Addr → Obj
  | .l => fun a => { cls := .type "list_iterator", data := .fields #[.ref a, .int 0 0] }
  | .t => fun a => { cls := .type "tuple_iterator", data := .fields #[.ref a, .int 0 0] }
theorem Sd.draws (k : Sd) {prog : Program} {w : World} {A : Around} (hh : A.handled = none) (it a : Addr) (n : a ≠ it) (its : Array Value) :
    Draws prog w A it [it, a] its.size (fun i v => its[i]? = some v) (fun i h => k.isIt h it a i ∧ k.holds h a its) := by
  cases k with
  | l => exact Draws.list hh it a n its
  | t => exact Draws.tuple hh it a n its
theorem Sd.begins (k : Sd) (a : Addr) (its : Array Value) : Begins (.ref a) (k.obj a) fun h => k.holds h a its := by
  cases k with
  | l => exact begins_list a its
  | t => exact begins_tuple a its
theorem Sd.isIt_at (k : Sd) {h h' : Heap} {it a : Addr} {i : Nat} (x : k.isIt h it a i) (e : ∀ o, h.get? it = some o → h'.get? it = some o) : k.isIt h' it a i := by
  cases k with
  | l => exact Heap.IsListIter.at x e
  | t => exact Heap.IsTupleIter.at x e
theorem Sd.isIt_new (k : Sd) {h : Heap} {it a : Addr} (e : h.get? it = some (k.obj a)) : k.isIt h it a 0 := by
  cases k with
  | l => exact ⟨_, e, rfl, rfl⟩
  | t => exact ⟨_, e, rfl, rfl⟩
theorem Sd.isIt_obj (k : Sd) {h : Heap} {it a : Addr} {i : Nat} (x : k.isIt h it a i) : ∃ o, h.get? it = some o ∧ ∀ v, o.data ≠ Data.cell v := by
  cases k with
  | l => obtain ⟨o, e, _, d⟩ := x; exact ⟨o, e, fun v q => by rw [d] at q; cases q⟩
  | t => obtain ⟨o, e, _, d⟩ := x; exact ⟨o, e, fun v q => by rw [d] at q; cases q⟩
section
variable {X : Cx} {pins : List (Addr ×
      Obj)} {σ : L2.St} {H : Hp} {s : Shared}
theorem Sd.have (k : Sd) {a : Addr} {xs : List V} (I : Inv X pins σ H s) (q : k.seq X.K H a xs) : ∃ its : List Value, Vals xs its ∧ k.holds s.heap a its.toArray ∧ a < s.heap.objs.size := by
  cases k with
  | l =>
    obtain ⟨its, rv, p, _⟩ := I.list q
    exact ⟨its, rv, p.isList, p.lt⟩
  | t =>
    obtain ⟨its, rv, p, _⟩ := I.tuple q
    obtain ⟨o1, ho1, _⟩ := id p
    exact ⟨its, rv, p, Heap.lt_size ho1⟩
theorem Sd.inj (k : Sd) {a : Addr} {xs ys : List V} (I : Inv X pins σ H s) (q : k.seq X.K H a xs) (q' : k.seq X.K H a ys) : xs = ys := by
  cases k with
  | l => exact I.list_inj q q'
  | t => exact I.tuple_inj q q'
end
/-- the two as they stand at each turn, the items in new pairs -/
def ItzG (K : PySem.W.Frag) (ka kb : Sd) (a b : Addr) : It :=
  ⟨fun i H => ∃ (xs ys : List V) (x y : V), ka.seq K H a xs ∧ kb.seq K H b ys ∧ xs[i]? = some x ∧ ys[i]? = some y,
    fun i H v H' => ∃ T x y, v = .ref T ∧ H T = none ∧ H' = upd H T (.tup [x, y]) ∧ (∀ xs, ka.seq K H a xs → xs[i]? = some x) ∧ ∀ ys, kb.seq K H b ys → ys[i]? = some y,
    fun i H => ∃ xs ys : List V, ka.seq K H a xs ∧ kb.seq K H b ys ∧ i ≤ xs.length ∧ i ≤ ys.length ∧ (i = xs.length ∨ i = ys.length)⟩
theorem turn_zipG {P : Program} {w : World} {K : PySem.W.Frag} {elts : List Expr} {kk : Nat} {tpos : Pos} {ka kb : Sd} {a b z TI TO i1 i2 : Addr} (S : ZipSep2 z TI TO i1 i2 [i1, a] [i2, b]) (n1 : a ≠ i1) (n2 : b ≠ i2) :
    Turn P w K (.Tuple elts kk tpos) (ItzG K ka kb a b) [z, TI, TO, i1, i2] z (fun i h => IsZip h z TI TO .none ∧ IsTupOf2 h TI (.ref i1) (.ref i2) ∧ (∃ x y, IsTupOf2 h TO x y) ∧ ka.isIt h i1 a i ∧ kb.isIt h i2 b i) where
  mem := by simp
  obj := fun i h st c hc => by
    obtain ⟨hz, hTI, ⟨x,
          y, hTO⟩, h1, h2⟩ := st
    simp only [List.mem_cons, List.not_mem_nil, or_false] at hc
    rcases hc with rfl | rfl | rfl | rfl | rfl
    · exact ⟨_, hz, fun v q => nomatch q⟩
    · exact ⟨_, hTI, fun v q => nomatch q⟩
    · exact ⟨_, hTO, fun v q => nomatch q⟩
    · exact ka.isIt_obj h1
    · exact kb.isIt_obj h2
  keep := fun i h h' st k => by
    obtain ⟨hz, hTI, ⟨x,
          y, hTO⟩, h1, h2⟩ := st
    exact ⟨k z (by simp) _ hz, k TI (by simp) _ hTI, ⟨x, y, k TO (by simp) _ hTO⟩, ka.isIt_at h1 fun o q => k i1 (by simp) o q, kb.isIt_at h2 fun o q => k i2 (by simp) o q⟩
  item := by
    intro X hP hw hK hc i
          pins s σ H E I hf st hg
    subst hP hw hK
    obtain ⟨hz, hTI, ⟨x0,
          y0, hTO⟩, h1, h2⟩ := st
    obtain ⟨xs, ys, x, y,
          hqx, hqy, hx, hy⟩ := hg
    obtain ⟨its, rv, p, la⟩ := ka.have I hqx
    obtain ⟨its2, rv2, p2, lb⟩ := kb.have I hqy
    obtain ⟨u, hu,
          ru⟩ := rv.get hx
    obtain ⟨u2, hu2,
          ru2⟩ := rv2.get hy
    have hzl : z < s.heap.objs.size
          := Heap.lt_size hz
    have il := (List.getElem?_eq_some_iff.mp hu).1
    have il2 := (List.getElem?_eq_some_iff.mp hu2).1
    refine wpAny_pyNext_zipD2_item S (ka.draws (by exact (I.ok.hd hc)) i1 a n1 its.toArray) (kb.draws (by exact (I.ok.hd hc)) i2 b n2 its2.toArray) hz hTI hTO ⟨h1, p⟩ ⟨h2, p2⟩ (by simpa using il) (by simpa using il2) fun v1 v2 h' tk e1 e2 z' TO' h1' h2' hT hsz hk => ?_
    obtain rfl : v1 = u := by
      have a1 : its.toArray[i]? = some u := by simpa using hu
      exact Option.some.inj (e1.symm.trans a1)
    obtain rfl : v2 = u2 := by
      have a1 : its2.toArray[i]? = some u2 := by simpa using hu2
      exact Option.some.inj (e2.symm.trans a1)
    refine ⟨_, rfl, wpAny_letOwnedTupleGo_zip (s := { s with heap := h', toks := tk }) z' fun h'' z'' sb => ?_⟩
    have hT2 : h''.get? s.heap.objs.size = some { cls := .type "tuple", data := .seq #[v1, v2] } := (sb.2 _ (Nat.ne_of_gt hzl)).trans hT
    have new : ObjOk X.prog X.w (upd H s.heap.objs.size
          (.tup [x, y])) h'' s.heap.objs.size (.tup [x, y]) :=
      ⟨by show 2 ≤ sizeLine; decide, [v1, v2], .cons ru (.cons ru2 .nil), ⟨_, hT2, rfl, _, rfl⟩⟩
    have I1 : Inv X pins σ (upd H s.heap.objs.size (.tup [x, y])) { s with heap := h'', toks := tk } :=
      I.turnedNew (t' := tk) (ch := [z, TI, TO, i1, i2]) (fun c o hb q => (sb.2 c (fun e => hb (by simp [e]))).trans (hk c o (fun e => hb (by simp [e])) (fun e => hb (by simp [e])) (fun e => hb (by simp [e])) (fun e => hb (by simp [e])) q)) hf (Nat.le_refl _) new
    refine ⟨.ref s.heap.objs.size, _, I1, rfl, ⟨_, x, y, rfl, I.hok.fresh (Nat.le_refl _), rfl, fun l hl => by rw [ka.inj I hl hqx]; exact hx, fun l hl => by rw [kb.inj I hl hqy]; exact hy⟩, ⟨z'', ?_, ⟨v1, v2, ?_⟩, ?_, ?_⟩, fun c hcm => ?_⟩
    · exact (sb.2 _ S.TIz).trans (hk _ _ S.TIz S.TITO S.TIi1 S.TIi2 hTI)
    · exact (sb.2 _ S.TOz).trans TO'
    · exact ka.isIt_at h1'.1 fun o q => (sb.2 _ (Ne.symm S.zi1)).trans q
    · exact kb.isIt_at h2'.1 fun o q => (sb.2 _ (Ne.symm S.zi2)).trans q
    · have hlt : c <
          s.heap.objs.size := by
        simp only [List.mem_cons, List.not_mem_nil, or_false] at hcm
        rcases hcm with rfl | rfl | rfl | rfl | rfl
        · exact hzl
        · exact Heap.lt_size hTI
        · exact Heap.lt_size hTO
        · obtain ⟨_, e1, _⟩ := ka.isIt_obj h1; exact Heap.lt_size e1
        · obtain ⟨_, e2, _⟩ := kb.isIt_obj h2; exact Heap.lt_size e2
      rw [upd_ne
            (Nat.ne_of_lt hlt)]
      exact (hf c hcm).1
  done := by
    intro X hP hw hK hc i
          pins s σ H E I hf st hg
    subst hP hw hK
    obtain ⟨hz, hTI, ⟨x0,
          y0, hTO⟩, h1, h2⟩ := st
    obtain ⟨xs, ys, hqx, hqy, g1, g2, g3⟩ := hg
    obtain ⟨its, rv, p, _⟩ := ka.have I hqx
    obtain ⟨its2, rv2, p2, _⟩ := kb.have I hqy
    have l1 := rv.length
    have l2 := rv2.length
    exact wpAny_pyNext_zipD2_end S (ka.draws (by exact (I.ok.hd hc)) i1 a n1 its.toArray) (kb.draws (by exact (I.ok.hd hc)) i2 b n2 its2.toArray) hz hTI hTO ⟨h1, p⟩ ⟨h2, p2⟩ (by simp; omega) (by simp; omega) (by simp; omega)
      fun h' tk hk => ⟨rfl, I.turnedL (t' := tk) (ch := [z, TI, TO, i1, i2]) (fun c o hb q => hk c o (fun e => hb (by simp [e])) (fun e => hb (by simp [e])) (fun e => hb (by simp [e])) (fun e => hb (by simp [e])) q) hf⟩
  self := fun A i s Q E st h
        => wpAny_pyIter_zip st.1 h
def iZipG (K : PySem.W.Frag) (ta : TA) : TI := fun σ H R => ta σ H fun vs H1 => ∃ a b ka kb xs ys, vs = [.ref a, .ref b] ∧ Sd.seq ka K H1 a xs ∧ Sd.seq kb K H1 b ys ∧ R (ItzG K ka kb a b) H1
theorem pi_zipG {X : Cx} {e e2 : Expr} {ta : TA} {p pos tpos : Pos} {elts : List Expr} {kk : Nat} (hg : Gl X "zip") (hm : X.mg "zip" = none) (ha : PA X [e, e2] ta)
    (hs : starEach [e, e2] X.env = (false, eval e X.env) :: starEach [e2] X.env :=
          by rfl) (hpl : (backTo pos (starEach [e2] X.env)).any (·.1) = false := by rfl) :
    PI X (.Tuple elts kk tpos) (.Call (.Name "zip" p) [e, e2] [] pos) (iZipG X.K ta) := by
  refine ⟨fun pins
        s σ H R I h => ?_⟩
  refine Call_ (ld_blt I hg hm PyProof.Rows.boot_zip (PyProof.Rows.callWith_type1
        (thn (ha.run pos pins s σ H _ I h) fun us s1 ⟨vs, H1, I1, r1, q1⟩ => ?_) hs hpl))
  obtain ⟨a, b, ka, kb, xs, ys, ex, hqx, hqy, q⟩ := q1
  subst ex
  cases r1 with
  | cons r rr =>
    cases rr with
    | cons r' rr =>
      cases rr
      cases r
      cases r'
      obtain ⟨its, rv, p1, la⟩ := ka.have I1 hqx
      obtain ⟨its2, rv2, p2, lb⟩ := kb.have I1 hqy
      refine zip_begins2 (ka.begins a its.toArray) (kb.begins b its2.toArray) p1 p2 fun h' hz hTI hTO h1 h2 hsz hk => wpAny_pyIter_zip hz ?_
      have I2 : Inv X pins σ H1 {
            s1 with heap := h' } := I1.kept (t' := s1.toks) hk
      refine ⟨s1.heap.objs.size + 4, [s1.heap.objs.size + 4, s1.heap.objs.size + 2, s1.heap.objs.size + 3, s1.heap.objs.size, s1.heap.objs.size + 1], _, _, H1, rfl, I2,
        turn_zipG (zip_sep2 (fp1 := [a]) (fp2 := [b]) (by simpa using la) (by simpa using lb)) (Nat.ne_of_lt la) (Nat.ne_of_lt (Nat.lt_succ_of_lt lb)), ⟨hz, hTI, ⟨_, _, hTO⟩, ka.isIt_new h1, kb.isIt_new h2⟩, fun c hcm => ?_, q⟩
      have hle :
            s1.heap.objs.size ≤ c := by
        simp only [List.mem_cons, List.not_mem_nil, or_false] at hcm
        rcases hcm with e | e | e | e | e
        · rw [e]; exact Nat.le_add_right _ _
        · rw [e]; exact Nat.le_add_right _ _
        · rw [e]; exact Nat.le_add_right _ _
        · rw [e]; exact Nat.le_refl _
        · rw [e]; exact Nat.le_add_right _ _
      exact I1.fpOk hle
            (I1.hok.fresh hle)
theorem walk_zipG {K : PySem.W.Frag} {ka kb : Sd} {a b : Addr} {xs ys : List V} {n : Nat} (hn : n = min xs.length ys.length) :
    Walk (ItzG K ka kb a b) n (fun H => ka.seq K H a xs ∧ kb.seq K H b ys) (YPair (fun i => xs[i]?) (fun i => ys[i]?)) := by
  refine ⟨fun i _ hi q => ⟨xs, ys, xs[i]'(by omega), ys[i]'(by omega), q.1, q.2, by simp, by simp⟩, fun _ q => ⟨xs, ys, q.1, q.2, by omega, by omega, by omega⟩, fun i H v H' _ q y => ?_⟩
  obtain ⟨T, x, y, h1, h2, h3, h4, h5⟩ := y
  exact ⟨T, x, y, h1, h2, h3, h4 xs q.1, h5 ys q.2⟩
theorem SeqIs.side {L : List En} {v : V} {xs : List V} (s : SeqIs L v (some xs)) : ∃ (k : Sd) (a : Addr), v = .ref a ∧ ∀ K H L', Fx H L' → (∀ p o, En.ob p o ∈ L → En.ob p o ∈ L') → Sd.seq k K H a xs := by
  cases s with
  | @lst a xs m => exact ⟨.l, a, rfl, fun K H L' F s => F.lst (s _ _ m)⟩
  | @tup a xs m => exact ⟨.t, a, rfl, fun K H L' F s => F.tup (s _ _ m)⟩
section
variable {K : PySem.W.Frag} {H : Hp} {L : List En} {a b : V} {xs ys : List V} {RI : It → Hp → Prop} {σ : L2.St} {ta : TA} {g : TG} {tb : TS} {nx : L2.St → Hp → Prop} {rt : VK}
def GoZG (K : PySem.W.Frag) (vs : List V) (H : Hp) (R : It → Hp → Prop) : Prop := ∃ a b ka kb xs ys, vs = [.ref a, .ref b] ∧ Sd.seq ka K H a xs ∧ Sd.seq kb K H b ys ∧ R (ItzG K ka kb a b) H
theorem wIZG (h : ta σ H fun vs H1 => GoZG K vs H1 RI) : iZipG K ta σ H RI := h
/-- a for over zip of two sequences of the ledger -/
theorem wForZ (ha : SeqIs L a (some xs)) (hb : SeqIs L b (some ys)) (F : Fx H L) (Pv : Nat → L2.St → Hp → Prop) (h0 : Pv 0 σ H) (keep : ∀ i σ H', Pv i σ H' → ∃ L', Fx H' L' ∧ ∀ p o, En.ob p o ∈ L → En.ob p o ∈ L')
    (hs : ∀ i x y T σ H', xs[i]? = some x → ys[i]? = some y → Pv i σ H' → H' T = none → g (.ref T) σ (upd H' T (.tup [x, y])) fun σ2 H2 => tb ⟨Pv (i + 1), rt, nx, Pv (i + 1)⟩ σ2 H2) (hd : ∀ σ H', Pv (min xs.length ys.length) σ H' → nx σ H') :
    GoZG K [a, b] H fun J H1 => ∃ W : Nat → Nat → L2.St → Hp → Prop, (∃ m, W 0 m σ H1) ∧ ∀ i m σ H, W i m σ H →
      (J.stop i H ∧ nx σ H) ∨ (J.go i H ∧ ∃ N : L2.St → Hp → Prop, (∀ σ' H', N σ' H' → ∃ m', m' < m ∧ W (i + 1) m' σ' H') ∧ ∀ x H', J.yld i H x H' → g x σ H' fun σ2 H2 => tb ⟨N, rt, nx, N⟩ σ2 H2) := by
  obtain ⟨ka, p, rfl, qa⟩ := ha.side
  obtain ⟨kb, q, rfl, qb⟩ := hb.side
  refine ⟨p, q, ka, kb, xs, ys, rfl, qa K H L F (fun _ _ h => h), qb K H L F (fun _ _ h => h), wForW (walk_zipG (K := K) (xs := xs) (ys := ys) rfl) Pv h0 (fun i σ H' _ pv => ?_) ?_ hd⟩
  · obtain ⟨L', F', k⟩ := keep i σ H' pv
    exact ⟨qa K H' L' F' k, qb K H' L' F' k⟩
  · rintro i x σ H' H'' _ pv ⟨T, u, v, rfl, hT, rfl, e1, e2⟩
    exact hs i u v T σ H' e1 e2 pv hT
/-- a comprehension over zip of two sequences of the ledger -/
theorem wLcZG {te : TE} {tt : TT} {vs : List Nat} {QD : Addr → Hp → Prop} (ha : SeqIs L a (some xs)) (hb : SeqIs L b (some ys)) (F : Fx H L) (R : Nat → List V → List En → Prop) (h0 : R 0 [] L)
    (keep : ∀ i acc L', R i acc L' → ∀ p o, En.ob p o ∈ L → En.ob p o ∈ L')
    (hs : ∀ i x y T D H' acc L', xs[i]? = some x → ys[i]? = some y → R i acc L' → Fx H' (.ob T (.tup [x, y]) :: .ob D (.lst acc) :: L') → g (.ref T) (wipe σ vs) H' fun σ2 H2 => wipe σ2 vs = wipe σ vs ∧ tt σ2 H2 fun b H3 =>
      if b = true then te σ2 H3 fun y H4 => LcPut D R i y H4 else LcP D R (i + 1) H3)
    (hd : ∀ D acc L' H', Fx H' (.ob D (.lst acc) :: L') → R (min xs.length ys.length) acc L' → QD D H') :
    GoZG K [a, b] H fun J H1 => ∀ D, H1 D = none → ∃ W : Nat → Nat → Hp → Prop, (∃ m, W 0 m (upd H1 D (.lst []))) ∧ ∀ i m H, W i m H →
  (J.stop i H ∧ QD D H) ∨ (J.go i H ∧ ∃ Nx : Hp → Prop, (∀ H', Nx H' → ∃ m', m' < m ∧ W (i + 1) m' H') ∧ ∀ x H', J.yld i H x H' → g x (wipe σ vs) H' fun σ2 H2 => wipe σ2 vs = wipe σ vs ∧ tt σ2 H2 fun b H3 =>
    if b = true then te σ2 H3 fun y H4 => ∃ acc, H4 D = some (.lst acc) ∧
          acc.length < sizeLine ∧ Nx (upd H4 D (.lst (acc ++ [y]))) else Nx H3) := by
  obtain ⟨ka, p, rfl, qa⟩ := ha.side
  obtain ⟨kb, q, rfl, qb⟩ := hb.side
  refine ⟨p, q, ka, kb, xs, ys, rfl, qa K H L F (fun _ _ h => h), qb K H L F (fun _ _ h => h), wLcW (walk_zipG (K := K) (xs := xs) (ys := ys) rfl) F R h0 (fun i acc L' D H' r F' => ?_) ?_ hd⟩
  · have k := keep i acc L' r
    exact ⟨qa K H' _ F' fun p o m => .tail _ (k p o m), qb K H' _ F' fun p o m => .tail _ (k p o m)⟩
  · rintro i x D H' H'' acc L' _ r F' ⟨T, u, v, rfl, hT, rfl, e1, e2⟩
    exact hs i u v T D _ acc L' e1 e2 r (F'.new hT)
end
/-! ### len(x), an own __len__ -/
structure OwnLenF (K : PySem.W.Frag) (C f : Addr) : Prop where
  len : PySem.W.findIn K (.ref C) "__len__" = some (some (.ref f))
  fn : PySem.W.typeIn K (.ref f) = some (.type "function")
def rLenOwn (K : PySem.W.Frag) (C : Addr) (sp : Sp) : List V → Hp → VK → Prop := fun vs H Q => ∃ a dx fs, vs = [.ref a] ∧ H a = some (.ins C dx fs) ∧ sp [.ref a] H (fun v H' => ∃ n : Int, v = .int n ∧ 0 ≤ n ∧ n < 2 ^ 63 ∧ Q (.int n) H') E0
section
variable {X : Cx} {k : Nat} {C f : Addr} {fd : FuncData} {ps : List Str} {sp : Sp}
theorem own_call1 {A : Around} {pins : List (Addr × Obj)} {σ : L2.St} {H : Hp} {s : Shared} {Q : VK} {x : V} {u : Value} (F : FnOk X.prog X.w X.K X.mg X.base CX0 k f fd ps sp) (hb : Binds X.K fd ps []) (hr : Room k A) (hf : A.frames = X.A.frames)
    (I : L2.Inv X pins σ H s) (rx : RelV x u) (h : sp [x] H Q E0) : wpAny (model X.prog X.w) A (call (.ref f) [u]) (EP X pins σ Q) X.xe s := by
  have e0 : Env0 X.prog X.w X.K
        X.mg X.base A X.stack s H := by
    have e := I.env0
    exact ⟨by rw [hf]; exact e.frames, e.mod, e.bs, e.bsz, e.funs, e.frf, e.hok, e.bare⟩
  have hl := F.len _ _ _ _ h
  have r2 : Vals [x] [u] := .cons rx .nil
  refine wpAny_call (codeAny_mono (F.run A X.stack s H ⟨[u], []⟩ [u] [x] _ E0 hr e0 (by
    have := hb s [u] I.kIn (by simpa using hl)
    simpa using this) r2 h) fun r s' hq => ?_)
  cases r with
  | error e => exact
        False.elim hq
  | ok fl =>
    cases fl with
    | ret w => exact I.after hq
    | next => exact False.elim hq
    | brk => exact False.elim hq
    | cont => exact False.elim hq
theorem cr_lenOwn (F : FnOk X.prog X.w X.K X.mg X.base CX0 k f fd ps sp) (q : OwnLenF X.K C f) (hb : Binds X.K fd ps []) (hr : Room (k + 1) X.A) : CallR X (.builtin "len") (rLenOwn X.K C sp) := by
  intro pins s σ
        H vs us Q I r h
  obtain ⟨a, dx, fs, rfl, ha, hsp⟩ := h
  obtain ⟨u, rfl,
        ru⟩ := vals1 r
  obtain rfl : u =
        Value.ref a := ru
  obtain ⟨mA, J, _⟩
        := ins_get I.hok ha
  obtain ⟨od, J, _⟩ := J.look
  refine PySem.Calls.call_function_entry PySem.kind_len PySem.plain_len PySem.entry_len (PySem.args_len1 _) ?_
  unfold Builtin.«len»
  refine wpAny_bind (m := oneArg
        "len" _) (wpAny_pure ?_)
  refine wpAny_bind (m := callSpecial? (.ref a) (Str.ofString "__len__")) (PySem.W.special_fn I.kIn J q.len q.fn (wpAny_mono (own_call1 F hb hr.in1 rfl I (show RelV (V.ref a) (Value.ref a) from rfl) hsp) (fun v s' z => ?_) fun _ _ e => e))
  obtain ⟨v', H', I', rv, n, en, h0, h1, hq⟩ := z
  subst en
  obtain ⟨t, rfl⟩ := rv
  refine wpAny_bind
        (wpAny_holding (wpAny_pure ?_))
  refine wpAny_bind
        (wpAny_letGo ?_)
  show wpAny _ _ (if n <
        0 then _ else _) _ _ _
  rw [if_neg (by omega)]
  show wpAny _ _ (if n ≥ 2
        ^ 63 then _ else _) _ _ _
  rw [if_neg (by omega)]
  exact wpAny_bind (wpAny_mkInt (wpAny_pure ⟨_, rfl, .int n, H', I'.tok _, ⟨_, rfl⟩, hq⟩))
def LenO (P : Program) (w : World) (K : PySem.W.Frag) (mg : Str → Option Value) (base : Heap) (C : Addr) (k : Nat) (ps : List Str) (sp : Sp) : Prop := ∃ (f : Addr) (fd : FuncData), OwnLenF K C f ∧ Binds K fd ps [] ∧ FnOk P w K mg base CX0 k f fd ps sp
theorem cr_lenO (O : LenO X.prog X.w X.K X.mg X.base C k ps sp) (hr : Room (k + 1) X.A) : CallR X (.builtin "len") (rLenOwn X.K C sp) := by
  obtain ⟨f, fd, q, b, F⟩ := O
  exact cr_lenOwn F q b hr
theorem wLenOwn {K : PySem.W.Frag} {H : Hp} {Q : VK} {a dx : Addr} {fs : List (Str × V)} (ha : H a = some (.ins C dx fs)) (h : sp [.ref a] H (fun v H' => ∃ n : Int, v = .int n ∧ 0 ≤ n ∧ n < 2 ^ 63 ∧ Q (.int n) H') E0) : rLenOwn K C sp [.ref a] H Q := ⟨a, dx, fs, rfl, ha, h⟩
end
/-! ### two lists, place by place -/
structure Al2 {α β : Type} (R : α → β → Prop) (xs : List α) (ys : List β) : Prop where
  len : xs.length = ys.length
  get : ∀ (i : Nat) (x : α) (y : β), xs[i]? = some x → ys[i]? = some y → R x y
section
variable {α β : Type} {R R' : α → β → Prop} {xs xs' : List α} {ys ys' : List β} {x : α} {y : β} {i : Nat}
theorem Al2.nil : Al2 R ([] : List α) ([] : List β) := ⟨rfl, fun i x y e => by simp at e⟩
theorem Al2.mono (h : Al2 R xs ys) (k : ∀ x y, R x y → R' x y) : Al2 R' xs ys := ⟨h.len, fun i x y e e' => k x y (h.get i x y e e')⟩
theorem Al2.getL (h : Al2 R xs ys) (e : xs[i]? = some x) : ∃ y, ys[i]? = some y ∧ R x y := by
  have hi := (List.getElem?_eq_some_iff.mp e).1
  have hy : ys[i]? = some (ys[i]'(by rw [← h.len]; exact hi)) := List.getElem?_eq_getElem _
  exact ⟨_, hy, h.get i x _ e hy⟩
theorem Al2.getR (h : Al2 R xs ys) (e : ys[i]? = some y) : ∃ x, xs[i]? = some x ∧ R x y := by
  have hi := (List.getElem?_eq_some_iff.mp e).1
  have hx : xs[i]? = some (xs[i]'(by rw [h.len]; exact hi)) := List.getElem?_eq_getElem _
  exact ⟨_, hx, h.get i _ y hx e⟩
theorem Al2.app (h : Al2 R xs ys) (h' : Al2 R xs' ys') : Al2 R (xs ++ xs') (ys ++ ys') := by
  refine ⟨by rw [List.length_append, List.length_append, h.len, h'.len], fun i x y e e' => ?_⟩
  by_cases hi : i < xs.length
  · rw [List.getElem?_append_left hi] at e
    rw [List.getElem?_append_left (by rw [← h.len]; exact hi)] at e'
    exact h.get i x y e e'
  · rw [List.getElem?_append_right (by omega)] at e
    rw [List.getElem?_append_right (by rw [← h.len]; omega), ← h.len] at e'
    exact h'.get _ x y e e'
theorem Al2.one (r : R x y) : Al2 R [x] [y] := ⟨rfl, fun i a b e e' => by
  cases i with
  | zero => cases e; cases e'; exact r
  | succ i => simp at e⟩
theorem Al2.snoc (h : Al2 R xs ys) (r : R x y) : Al2 R (xs ++ [x]) (ys ++ [y]) := h.app (.one r)
theorem Al2.cons (r : R x y) (h : Al2 R xs ys) : Al2 R (x :: xs) (y :: ys) := (Al2.one r).app h
theorem Al2.take (h : Al2 R xs ys) (n : Nat) : Al2 R (xs.take n) (ys.take n) := by
  refine ⟨by rw [List.length_take, List.length_take, h.len], fun i x y e e' => ?_⟩
  by_cases hi : i < n
  · rw [List.getElem?_take_of_lt hi] at e e'
    exact h.get i x y e e'
  · rw [List.getElem?_take_eq_none (by omega)] at e
    cases e
theorem Al2.drop (h : Al2 R xs ys) (n : Nat) : Al2 R (xs.drop n) (ys.drop n) := by
  refine ⟨by rw [List.length_drop, List.length_drop, h.len], fun i x y e e' => ?_⟩
  rw [List.getElem?_drop] at e e'
  exact h.get _ x y e e'
theorem Al2.set (h : Al2 R xs ys) (r : R x y) (n : Nat) : Al2 R (xs.set n x) (ys.set n y) := by
  refine ⟨by rw [List.length_set, List.length_set, h.len], fun i a b e e' => ?_⟩
  by_cases hi : n = i
  · subst hi
    have h1 := (List.getElem?_eq_some_iff.mp e).1
    have h2 := (List.getElem?_eq_some_iff.mp e').1
    rw [List.length_set] at h1 h2
    rw [List.getElem?_set_self h1] at e
    rw [List.getElem?_set_self h2] at e'
    cases e
    cases e'
    exact r
  · rw [List.getElem?_set_ne hi] at e e'
    exact h.get i a b e e'
theorem Al2.rep (r : R x y) (n : Nat) : Al2 R (List.replicate n x) (List.replicate n y) := by
  refine ⟨by rw [List.length_replicate, List.length_replicate], fun i a b e e' => ?_⟩
  obtain ⟨_, rfl⟩ := List.getElem?_eq_some_iff.mp e
  obtain ⟨_, rfl⟩ := List.getElem?_eq_some_iff.mp e'
  simpa using r
end
/-- an entry of a sublist, brought to the front -/
theorem sub_front {α : Type} {e : α} {r : List α} : ∀ {L : List α}, (e :: r).Sublist L → ∃ L2, L.Perm (e :: L2) ∧ r.Sublist L2
  | _, .cons a h => by
    obtain ⟨L2, p, s⟩ := sub_front h
    exact ⟨a :: L2, (p.cons a).trans (.swap _ _ _), s.cons a⟩
  | _, .cons_cons _ h => ⟨_, .refl _, h⟩
def Sp5 (f : V → V → V → V → V → Hp → VK → XK → Prop) : Sp := fun vs H Q E => ∃ a b c d e, vs = [a, b, c, d, e] ∧ f a b c d e H Q E
end Z

set_option Elab.async false
set_option linter.all false
set_option maxRecDepth 100000
set_option maxHeartbeats 2000500
/-! ### slices -/
namespace Z
open PySem L2 RZ
theorem cut_mem {xs : List V} {lo hi : Option Int} {x : V} (h : x ∈ cutV xs lo hi) : x ∈ xs := by
  unfold cutV at h
  exact List.mem_of_mem_drop (List.mem_of_mem_take h)
theorem cut_ints (cs : List Int) (lo hi : Option Int) : ∃ ds : List Int, cutV (cs.map V.int) lo hi = ds.map V.int ∧ ds.length ≤ cs.length ∧ ∀ d ∈ ds, d ∈ cs := by
  refine ⟨(cs.drop (HT.sIx cs.length 0 lo)).take (HT.sIx cs.length cs.length hi - HT.sIx cs.length 0 lo), ?_, ?_, fun d h => List.mem_of_mem_drop (List.mem_of_mem_take h)⟩
  · unfold cutV
    rw [List.length_map, ← List.map_drop, ← List.map_take]
  · rw [List.length_take, List.length_drop]; omega
theorem cut_take {xs : List V} {k : Int} (h : 0 ≤ k) : cutV xs none (some k) = xs.take k.toNat := by
  obtain ⟨n, rfl⟩ := Int.eq_ofNat_of_zero_le h
  unfold cutV
  rw [HT.sIx_nat, HT.sIx_none, List.drop_zero, Nat.sub_zero, Int.toNat_natCast]
  by_cases hn : n ≤ xs.length
  · rw [Nat.min_eq_left hn]
  · rw [Nat.min_eq_right (by omega), List.take_length, List.take_of_length_le (by omega)]
theorem cut_drop {xs : List V} {k : Int} (h : 0 ≤ k) : cutV xs (some k) none = xs.drop k.toNat := by
  obtain ⟨n, rfl⟩ := Int.eq_ofNat_of_zero_le h
  unfold cutV
  rw [HT.sIx_nat, HT.sIx_none, Int.toNat_natCast]
  by_cases hn : n ≤ xs.length
  · rw [Nat.min_eq_left hn, List.take_of_length_le (by rw [List.length_drop]; exact Nat.le_refl _)]
  · rw [Nat.min_eq_right (by omega), Nat.sub_self, List.take_zero, List.drop_eq_nil_of_le (by omega)]
theorem cut_but {xs : List V} : cutV xs none (some (-1)) = xs.dropLast := by
  unfold cutV HT.sIx
  show List.take ((-1 + (xs.length : Int)).toNat - 0) (List.drop 0 _) = _
  rw [List.drop_zero, List.dropLast_eq_take, show (-1 + (xs.length : Int)).toNat - 0 = xs.length - 1 from by omega]
end Z
namespace Z
open PySem PySem.Spec
      PyProof.Rows L2
/-! ### max and min of a tuple of whole numbers -/
theorem maxI : ∀ (xs : List Int) (x : Int), PySem.W.maxOf x xs ∈ x :: xs ∧ ∀ y ∈ x :: xs, y ≤ PySem.W.maxOf x xs
  | [], x => ⟨List.mem_cons_self, fun y h => by cases List.mem_singleton.mp h; exact Int.le_refl _⟩
  | z :: r, x => by
    have lt : PySem.W.DatumOrd.lt x z = decide (x < z) := rfl
    have e : PySem.W.maxOf x (z :: r) = PySem.W.maxOf (if PySem.W.DatumOrd.lt x z = true then z else x) r := rfl
    rw [e, lt]
    by_cases h : x < z
    · rw [if_pos (decide_eq_true h)]
      obtain ⟨a, b⟩ := maxI r z
      refine ⟨List.mem_cons_of_mem _ a, fun y hy => ?_⟩
      have hz := b z List.mem_cons_self
      rcases List.mem_cons.mp
            hy with rfl | hy
      · omega
      · exact b y hy
    · rw [if_neg (by simpa using h)]
      obtain ⟨a, b⟩ := maxI r x
      refine ⟨?_, fun y hy => ?_⟩
      · rcases List.mem_cons.mp a with a | a
        · rw [a]; exact List.mem_cons_self
        · exact List.mem_cons_of_mem _ (List.mem_cons_of_mem _ a)
      · have hx := b x List.mem_cons_self
        rcases List.mem_cons.mp
              hy with rfl | hy
        · exact hx
        · rcases List.mem_cons.mp
              hy with rfl | hy
          · omega
          · exact b y (List.mem_cons_of_mem _ hy)
def rMaxT (K : PySem.W.Frag) : List V → Hp → VK → Prop := fun vs H Q => ∃ (a : Addr) (ns : List Int), vs = [V.ref a] ∧ SqT K H a (ns.map V.int) ∧ 0 < ns.length ∧ ∀ m, m ∈ ns → (∀ y, y ∈ ns → y ≤ m) → Q (.int m) H
theorem cr_maxT {X : Cx} (hc : X.calm = true) (hu : X.A.units + 1 < cLine) : CallR X (.builtin "max") (rMaxT X.K) := by
  intro pins s σ
        H vs us Q I r h
  obtain ⟨a, ns, rfl,
        hs, hne, q⟩ := h
  obtain ⟨its, rv, hl, _⟩ := I.tuple hs
  rw [Vals.ref1 r]
  cases ns with
  | nil => simp at hne
  | cons n ms =>
    obtain ⟨m1, m2⟩ := maxI ms n
    refine PySem.W.max_tuple_datum (α := Int) (x := n) (xs := ms) (I.ok.hd hc) (show s.heap.IsTuple a its.toArray from hl) (by simpa using PySem.W.HoldAll.of_ints rv.ints) hu fun i v h' tk _ hv hk => ?_
    obtain ⟨as, hv⟩ := hv
    cases hv
    exact ⟨.int _, H, I.kept hk, ⟨_, rfl⟩, q _ m1 m2⟩
theorem wMaxT {K : PySem.W.Frag} {H : Hp} {Q : VK} {a : Addr} {ns : List Int} (s : SqT K H a (ns.map V.int)) (n : 0 < ns.length) (h : ∀ m, m ∈ ns → (∀ y, y ∈ ns → y ≤ m) → Q (.int m) H) : rMaxT K [.ref a] H Q := ⟨a, ns, rfl, s, n, h⟩
/-! ### slices and sums of tuples, any -/
theorem opCatA {X : Cx} : OpR X (binaryOp .Add) (rCatA X.K) := op_catA
section
variable {K : PySem.W.Frag} {H : Hp} {L : List En} {a b : Addr} {v : V} {xs ys : List V} {lo hi : Option Int} {Q : VK}
theorem wSlTu (m : En.ob a (.tup xs) ∈ L) (F : Fx H L) (k : ∀ p H' L1, L.Sublist L1 → En.ob p (.tup (cutV xs lo hi)) ∈ L1 → Fx H' L1 → Q (.ref p) H') : rOrS (rSlL K) (rSlA K) (.ref a) lo hi H Q := by
  refine .inr ⟨_, xs, rfl, F.tup m, fun e => ?_, fun _ => ?_⟩
  · refine k a H L (.refl _) ?_ F
    rw [cut_whole e]
    exact m
  · exact wNewF F fun p H' F' => k p H' _ (.cons _ (.refl _)) List.mem_cons_self F'
theorem wSlLi (m : En.ob a (.lst xs) ∈ L) (F : Fx H L) (k : ∀ p H', Fx H' (.ob p (.lst (cutV xs lo hi)) :: L) → Q (.ref p) H') : rOrS (rSlL K) (rSlA K) (.ref a) lo hi H Q :=
  .inl ⟨_, xs, rfl, F.lst m, wNewF F k⟩
theorem wCatA (m : En.ob a (.tup xs) ∈ L) (m' : En.ob b (.tup ys) ∈ L) (l : xs.length + ys.length ≤ 1000000) (F : Fx H L) (k : ∀ p H' L1, L.Sublist L1 → En.ob p (.tup (xs ++ ys)) ∈ L1 → Fx H' L1 → Q (.ref p) H') : rCatA K (.ref a) (.ref b) H Q := by
  refine ⟨a, b, xs, ys, rfl, rfl, F.tup m, F.tup m', Nat.le_trans l line_big, fun e => ?_, fun e e' => ?_, fun _ _ => ?_⟩
  · subst e
    exact k b H L (.refl _) m' F
  · subst e'
    exact k a H L (.refl _) (by rw [List.append_nil]; exact m) F
  · exact wNewF F fun p H' F' => k p H' _ (.cons _ (.refl _)) List.mem_cons_self F'
theorem wListSq (hq : SeqIs L v (some xs)) (F : Fx H L) (k : ∀ p H', Fx H' (.ob p (.lst xs) :: L) → Q (.ref p) H') : rList K [v] H Q := by
  cases hq with
  | lst m => exact wListL (F.lst m) F k
  | tup m => exact wListT (F.tup m) F k
end
theorem units1 {n : Nat} {A : Around} (hr : Room (n + 1) A) : A.units + 1 < cLine := by have := hr.units; omega
theorem sum_rep (b : Int) : ∀ n : Nat, (List.replicate n b).sum = n * b
  | 0 => by simp
  | n + 1 => by rw [List.replicate_succ, List.sum_cons, sum_rep b n, Int.natCast_add, Int.add_mul]; omega
/-- what is no list, past a list -/
theorem mem_skip {L : List En} {a b : Addr} {o : HO} {xs : List V} (h : En.ob a o ∈ (En.ob b (.lst xs) :: L)) (n : ∀ ys, o ≠ .lst ys) : En.ob a o ∈ L := by
  rcases List.mem_cons.mp h with h | h
  · injection h with _ h
    exact absurd h (n xs)
  · exact h
theorem nodup_le : ∀ {l m : List Int}, l.Nodup → (∀ x ∈ l, x ∈ m) → l.length ≤ m.length
  | [], _, _, _ =>
        Nat.zero_le _
  | a :: l, m, hn, h => by
    have hm := h a List.mem_cons_self
    have h1 := nodup_le (l := l) (m := m.erase a) (List.nodup_cons.mp hn).2 fun x hx => (List.mem_erase_of_ne (fun e : x = a => (List.nodup_cons.mp hn).1 (by rw [← e]; exact hx))).mpr (h x (List.mem_cons_of_mem _ hx))
    rw [List.length_erase_of_mem hm] at h1
    have := List.length_pos_of_mem hm
    rw [List.length_cons]
    omega
end Z

set_option Elab.async false
set_option linter.all false
set_option maxRecDepth 100000
set_option maxHeartbeats 2000500
/-! ### dicts with numbers as keys -/
namespace Z
open PySem PySem.Spec
      PyProof.Rows L2
section
variable {X : Cx} {K : PySem.W.Frag} {H : Hp} {L : List En} {a : Addr} {Q : VK} {kvs : List (Key × V)}
theorem hu1 {X : Cx} {k : Nat} (hr : Room k X.A) : X.A.units + 1 < cLine := by have := hr.un; omega
def rInD : R2 := fun x y H Q => ∃ a kvs k, y = .ref a ∧ x = kV k ∧ H a = some (.dK kvs) ∧ Q (.bl (valV kvs k).isSome) H
theorem op_inD (hu : X.A.units + 1 < cLine) : OpR X (compareOp .In) rInD := by
  intro pins s σ H x
        y v u Q I rx ry h
  obtain ⟨a, kvs, k, rfl, rfl, e, q⟩ := h
  obtain rfl : u =
        Value.ref a := ry
  exact d_in hu I (DGet.k e) rx fun s3 I3 => ⟨.bl _, H, I3, rfl, q⟩
theorem wInD {n : Int} (F : Fx H L) (m : En.ob a (.dK kvs) ∈ L) (h : Q (.bl (valV kvs (.inl n)).isSome) H) : rInD (.int n) (.ref a) H Q :=
  ⟨a, kvs, .inl n, rfl, rfl, F.get m, h⟩
/-- the dict of a comprehension, at its turn i -/
def DcP (D : Addr) (R : Nat → List (Key × V) → List En → Prop) (i : Nat) (H : Hp) : Prop := ∃ kvs L, Fx H (.ob D (.dK kvs) :: L) ∧ R i kvs L
def DcPut (D : Addr) (R : Nat → List (Key × V) → List En → Prop) (i : Nat) (y z : V) (H : Hp) : Prop :=
  ∃ kvs k, y = kV k ∧ H D = some (.dK kvs) ∧ kvs.length < sizeLine ∧ DcP D R (i + 1) (upd H D (.dK (putK kvs k z)))
theorem dcPut {D : Addr} {R : Nat → List (Key × V) → List En → Prop} {i : Nat} {n : Int} {z : V} (F : Fx H (.ob D (.dK kvs) :: L)) (l : kvs.length < sizeLine) (r : R (i + 1) (putK kvs (.inl n) z) L) : DcPut D R i (.int n) z H :=
  ⟨kvs, .inl n, rfl, F.get List.mem_cons_self, l, _, L, F.put .head, r⟩
variable {J : It} {n : Nat} {G : Hp → Prop} {Y : Nat → Hp → V → Hp → Prop} {g : TG} {tt : TT} {tk tv : TE} {vs : List Nat} {σ : L2.St}
theorem wDc {wi : TI} (h : wi σ H fun J H1 => ∀ D, H1 D = none → ∃ W : Nat → Nat → Hp → Prop, (∃ m, W 0 m (upd H1 D (.dK []))) ∧ ∀ i m H, W i m H →
  (J.stop i H ∧ Q (.ref D) H) ∨ (J.go i H ∧ ∃ Nx : Hp → Prop, (∀ H', Nx H' → ∃ m', m' < m ∧ W (i + 1) m' H')
        ∧ ∀ x H', J.yld i H x H' → g x (wipe σ vs) H' fun σ2 H2 => wipe σ2 vs = wipe σ vs ∧ tt σ2 H2 fun b H3 =>
    if b = true then tk σ2 H3 fun y H4 => tv σ2 H4 fun z H5 => ∃ kvs k, y = kV k ∧ H5 D = some (.dK kvs) ∧ kvs.length < sizeLine ∧ Nx (upd H5 D (.dK (putK kvs k z))) else Nx H3)) : tDc wi g tt tk tv vs σ H Q := h
theorem wDcW {QD : Addr → Hp → Prop} (w : Walk J n G Y) (F : Fx H L) (R : Nat → List (Key × V) → List En → Prop) (h0 : R 0 [] L) (hG : ∀ i kvs L' D H', R i kvs L' → Fx H' (.ob D (.dK kvs) :: L') → G H')
    (hs : ∀ i x D H' H'' kvs L', i < n → R i kvs L' → Fx H' (.ob D (.dK kvs) :: L') → Y i H' x H'' → g x (wipe σ vs) H'' fun σ2 H2 => wipe σ2 vs = wipe σ vs ∧ tt σ2 H2 fun b H3 =>
      if b = true then tk σ2 H3 fun y H4 => tv σ2 H4 fun z H5 => DcPut D R i y z H5 else DcP D R (i + 1) H3)
    (hd : ∀ D kvs L' H', Fx H' (.ob D (.dK kvs) :: L') → R n kvs L' → QD D H') :
    ∀ D, H D = none → ∃ W : Nat → Nat → Hp → Prop, (∃ m, W 0 m (upd H D (.dK []))) ∧ ∀ i m H, W i m H →
  (J.stop i H ∧ QD D H) ∨ (J.go i H ∧ ∃ Nx : Hp → Prop, (∀ H', Nx H' → ∃ m', m' < m ∧ W (i + 1) m' H') ∧ ∀ x H', J.yld i H x H' → g x (wipe σ vs) H' fun σ2 H2 => wipe σ2 vs = wipe σ vs ∧ tt σ2 H2 fun b H3 =>
    if b = true then tk σ2 H3 fun y H4 => tv σ2 H4 fun z H5 => ∃ kvs k, y = kV k ∧ H5 D = some
          (.dK kvs) ∧ kvs.length < sizeLine ∧ Nx (upd H5 D (.dK (putK kvs k z))) else Nx H3) := by
  intro D hD
  refine ⟨fun i m H => m = n - i ∧ i ≤ n ∧ DcP D R i H, ⟨n, by simp, Nat.zero_le _, [], L, F.new hD, h0⟩, ?_⟩
  rintro i m H ⟨rfl, hi, kvs, L', F', r⟩
  have q := hG i kvs L' D H r F'
  by_cases hlt : i < n
  · exact .inr ⟨w.goes i H hlt q, DcP D R (i + 1), fun H' p' => ⟨n - (i + 1), by omega, rfl, hlt, p'⟩, fun x H' y => hs i x D H H' kvs L' hlt r F' (w.yields i H x H' hlt q y)⟩
  · have e : i = n := by omega
    subst e
    exact .inl ⟨w.stops H q, hd D kvs L' H F' r⟩
end
/-! ### name = {..} on one line, the name a local -/
section
variable {X : Cx}
theorem ps_setDc {i : Nat} {y : Str} {py : Pos} {kx vx tg iter : Expr} {ifs : List Expr} {scope : Scope} {own : List (Str × Nat)} {pos spos : Pos} {wi : TI} {g : TG} {tt : TT} {tk tv : TE} (hc : X.calm = true) (hN : X.N.Nodup) (hy : X.N[i]? = some y) (hyl : X.env.scope.names.lookup y = some .local)
    (hsw : swapsWith (.DictComp kx vx [⟨tg, iter, ifs, 0⟩] scope pos) (some (.Name y py)) spos.line X.env = pure true) (hi : PI X tg iter wi) (ok : BlkOk X.N X.env.scope scope own)
    (hg : ∀ (s : Shared) (H : Hp) (C : Addr) (cl : List (Str × Addr)) (fp : List Addr), PG (X.blk s H scope (compEnvC scope cl C X.env) fp) tg g)
          (ht : ∀ (s : Shared) (H : Hp) (C : Addr) (cl : List (Str × Addr)) (fp : List Addr), PTs (X.blk s H scope (compEnvC scope cl C X.env) fp) ifs tt)
    (hk : ∀ (s : Shared) (H : Hp) (C : Addr) (cl : List (Str × Addr)) (fp :
          List Addr), PE (X.blk s H scope (compEnvC scope cl C X.env) fp) kx tk)
    (he : ∀ (s : Shared) (H : Hp) (C : Addr) (cl : List (Str × Addr)) (fp : List Addr), PE (X.blk s H scope
          (compEnvC scope cl C X.env) fp) vx tv) (hs : ∀ x, foldedSetIterable iter X.env x = pure x := by intro _; rfl) :
    PS X (.Assign [.Name y py] (.DictComp kx vx [⟨tg, iter, ifs, 0⟩] scope pos) spos) (tAsg (tDc wi g tt tk tv (own.map (·.2))) (gName i)) := by
  refine ⟨fun pins
        s σ H D I h => ?_⟩
  rw [exec_Assign_Name_used
        _ _ _ _ hsw]
  refine wpAny_bind
        (wpAny_standAt (wpAny_bind ?_))
  show wpAny _ X.A (do let _ ← comprehension (.DictComp kx vx [⟨tg, iter, ifs, 0⟩] scope pos) scope X.env (firstIterPos [⟨tg, iter, ifs, 0⟩] pos) newDict false (eval iter X.env) (some (assign (.Name y py) X.env))) _ _ s
  have h : tDc wi g tt tk tv (own.map (·.2)) σ H (fun x H1 => gName i x σ H1 D.nx) := h
  refine wpAny_bind (thn (dc_core (Qf := fun _ s' => SP X pins D .next s') hc hN I hi ok hg ht hk he hs h fun L C s' m H' I' q hn f => ?_) fun _ s' hq => wpAny_pure (wpAny_pure hq))
  show wpAny _ _ (assign (.Name
        y py) X.env (.ref L)) _ _ _
  refine wpAny_assign_Name (store_ok2 (v := V.ref L) I' hN hy
        (.inl hyl) rfl (fun s2 I2 ⟨a, sb, ha⟩ => ?_) (.inr hyl))
  obtain ⟨f0, f1, f2,
        f3, f4, f5⟩ := f
  have haC : C ≠ a := by
    rcases ha with z | z
    · rw [z]; exact f1
    · exact fun e =>
          f4 y a z e.symm
  refine ⟨m, hn.sameBut sb
        haC, fun h3 sb3 => ?_⟩
  exact ⟨_, H', I2.turned (t' := s2.toks) (fun b o
        hb e => (sb3.2 b hb).trans e) f0 f1 f3 f4 f5, q⟩
theorem sw_trueD {kx vx : Expr} {gs : List Comprehension} {scope : Scope} {pos py : Pos} {y : Str} {l : Nat} {env : Env} (hk : env.scope.kind = .function) (hy : env.scope.names.lookup y = some .local) (hl : (py.line == pos.line) = true)
    (ha : (scope.names.any fun (n, k) => n == y && (k == .local || k == .cell)) = false) : swapsWith (.DictComp kx vx gs scope pos) (some (.Name y py)) l env = pure true := by
  have ky : env.kindOf
        y = some .local := hy
  have hb : env.blockKind = .function :=
        by unfold Env.blockKind; rw [hk]; rfl
  unfold swapsWith
  simp only [hb, ky,
        ha, Expr.pos, hl]
  rfl
end
/-! ### the dict of the numbers of a row -/
/-- which numbers are keys -/
def KeysOf (kvs : List (Key × V)) (ns : List Int) : Prop := (∀ k : Int, (valV kvs (.inl k)).isSome = decide (k ∈ ns)) ∧ kvs.length ≤ ns.length
theorem KeysOf.nil : KeysOf [] [] := ⟨fun k => by simp [valV_nil], Nat.le_refl _⟩
theorem KeysOf.snoc {kvs : List (Key × V)} {ns : List Int} {n : Int} {z : V} (h : KeysOf kvs ns) : KeysOf (putK kvs (.inl n) z) (ns ++ [n]) := by
  refine ⟨fun k => ?_, ?_⟩
  · rw [valV_put]
    by_cases e : k = n
    · subst e; simp
    · have e' : ¬ (Sum.inl k : Key) = Sum.inl n := fun h => e (Sum.inl.inj h)
      rw [if_neg e', h.1 k]
      simp [e]
  · have := length_putK kvs (.inl n) z
    have := h.2
    simp only [List.length_append, List.length_cons, List.length_nil]
    omega
section
variable {K : PySem.W.Frag} {H : Hp} {L : List En} {a : V} {xs : List V} {Q : VK} {g : TG} {tt : TT} {tk tv : TE} {vs : List Nat} {σ : L2.St}
theorem wDcS {QD : Addr → Hp → Prop} (hq : SeqIs L a (some xs)) (F : Fx H L) (R : Nat → List (Key × V) → List En → Prop) (h0 : R 0 [] L) (keep : ∀ i kvs L', R i kvs L' → ∀ e ∈ L, e ∈ L')
    (hs : ∀ i x D H' kvs L', xs[i]? = some x → R i kvs L' → Fx H' (.ob D (.dK kvs) :: L') → g x (wipe σ vs) H' fun σ2 H2 => wipe σ2 vs = wipe σ vs ∧ tt σ2 H2 fun b H3 =>
      if b = true then tk σ2 H3 fun y H4 => tv σ2 H4 fun z H5 => DcPut D R i y z H5 else DcP D R (i + 1) H3)
    (hd : ∀ D kvs L' H', Fx H' (.ob D (.dK kvs) :: L') → R xs.length kvs L' → QD D H') :
    GoS K a H fun J H1 => ∀ D, H1 D = none → ∃ W : Nat → Nat → Hp → Prop, (∃ m, W 0 m (upd H1 D (.dK []))) ∧ ∀ i m H, W i m H →
  (J.stop i H ∧ QD D H) ∨ (J.go i H ∧ ∃ Nx : Hp → Prop, (∀ H', Nx H' → ∃ m', m' < m ∧ W (i + 1) m' H') ∧ ∀ x H', J.yld i H x H' → g x (wipe σ vs) H' fun σ2 H2 => wipe σ2 vs = wipe σ vs ∧ tt σ2 H2 fun b H3 =>
    if b = true then tk σ2 H3 fun y H4 => tv σ2 H4 fun z H5 => ∃ kvs k, y = kV k ∧ H5 D = some
          (.dK kvs) ∧ kvs.length < sizeLine ∧ Nx (upd H5 D (.dK (putK kvs k z))) else Nx H3) := by
  cases hq with
  | lst m =>
    refine wGoSL (F.lst m) (wDcW (walk_list (K := K) (xs := xs)) F R h0 (fun i kvs L' D H' r F' => F'.lst (List.mem_cons_of_mem _ (keep _ _ _ r _ m))) ?_ hd)
    rintro i x D H' H'' kvs L' _ r F' ⟨rfl, e⟩
    exact hs i x D H'' kvs L' e r F'
  | tup m =>
    refine wGoST (F.tup m) (wDcW (walk_tup (K := K) (xs := xs)) F R h0 (fun i kvs L' D H' r F' => F'.tup (List.mem_cons_of_mem _ (keep _ _ _ r _ m))) ?_ hd)
    rintro i x D H' H'' kvs L' _ r F' ⟨rfl, e⟩
    exact hs i x D H'' kvs L' e r F'
end
theorem KeysOf.snocT {kvs : List (Key × V)} {ns : List Int} {i : Nat} {n : Int} {z : V} (h : KeysOf kvs (ns.take i)) (e : ns[i]? = some n) : KeysOf (putK kvs (.inl n) z) (ns.take (i + 1)) := by
  have := h.snoc (n := n) (z := z)
  rw [List.take_add_one, e]
  exact this
theorem KeysOf.low {kvs : List (Key × V)} {ns : List Int} {i m : Nat} (h : KeysOf kvs (ns.take i)) (l : ns.length ≤ m) (hm : m < 1000000) : kvs.length < sizeLine := by
  have := h.2
  rw [List.length_take] at this
  have := line_big
  omega
theorem wEqBB {K : PySem.W.Frag} {H : Hp} {Q : VK} {x y : Bool} (h : Q (.bl (x == y)) H) : rOr rEq (rEqD K) (.bl x) (.bl y) H Q := .inl ⟨rfl, by rw [dec_bl]; exact h⟩
theorem wNeBB {K : PySem.W.Frag} {H : Hp} {Q : VK} {x y : Bool} (h : Q (.bl (!(x == y))) H) : rOr rNe (rNeD K) (.bl x) (.bl y) H Q := .inl ⟨rfl, by rw [dec_bl]; exact h⟩
theorem filt_take {ns : List Int} {i : Nat} {u : Int} (e : ns[i]? = some u) (q : Int → Bool) : (ns.take (i + 1)).filter q = (ns.take i).filter q ++ if q u = true then [u] else [] := by
  rw [List.take_add_one, e, List.filter_append]
  congr 1
  cases h : q u <;> simp [h]
section
variable {K : PySem.W.Frag} {H : Hp} {L : List En} {a : V} {xs : List V} {Q : VK} {g : TG} {tt : TT} {te : TE} {vs : List Nat} {σ : L2.St}
theorem wLcE {QD : Addr → Hp → Prop} (hq : SeqIs L a (some xs)) (F : Fx H L) (R : Nat → List V → List En → Prop) (h0 : R 0 [] L) (keep : ∀ i acc L', R i acc L' → ∀ e ∈ L, e ∈ L')
    (hs : ∀ i x T D H' acc L', xs[i]? = some x → R i acc L' → Fx H' (.ob T (.tup [.int (i : Nat), x]) :: .ob D (.lst acc) :: L') → g (.ref T) (wipe σ vs) H' fun σ2 H2 => wipe σ2 vs = wipe σ vs ∧ tt σ2 H2 fun b H3 =>
      if b = true then te σ2 H3 fun y H4 => LcPut D R i y H4 else LcP D R (i + 1) H3)
    (hd : ∀ D acc L' H', Fx H' (.ob D (.lst acc) :: L') → R xs.length acc L' → QD D H') :
    GoE K [a] H fun J H1 => ∀ D, H1 D = none → ∃ W : Nat → Nat → Hp → Prop, (∃ m, W 0 m (upd H1 D (.lst []))) ∧ ∀ i m H, W i m H →
  (J.stop i H ∧ QD D H) ∨ (J.go i H ∧ ∃ Nx : Hp → Prop, (∀ H', Nx H' → ∃ m', m' < m ∧ W (i + 1) m' H') ∧ ∀ x H', J.yld i H x H' → g x (wipe σ vs) H' fun σ2 H2 => wipe σ2 vs = wipe σ vs ∧ tt σ2 H2 fun b H3 =>
    if b = true then te σ2 H3 fun y H4 => ∃ acc, H4 D = some (.lst acc) ∧
          acc.length < sizeLine ∧ Nx (upd H4 D (.lst (acc ++ [y]))) else Nx H3) := by
  cases hq with
  | @lst p _ m =>
    refine ⟨p, rfl, .inl ⟨xs, F.lst m, wLcW (walk_enum (K := K) (xs := xs)) F R h0 (fun i acc L' D H' r F' => F'.lst (List.mem_cons_of_mem _ (keep _ _ _ r _ m))) ?_ hd⟩⟩
    rintro i x D H' H'' acc L' _ r F' ⟨T, u, v, rfl, hT, rfl, e1, e2⟩
    cases e1
    exact hs i v T D _ acc L' e2 r (F'.new hT)
  | @tup p _ m =>
    refine ⟨p, rfl, .inr ⟨xs, F.tup m, wLcW (walk_enumT (K := K) (xs := xs)) F R h0 (fun i acc L' D H' r F' => F'.tup (List.mem_cons_of_mem _ (keep _ _ _ r _ m))) ?_ hd⟩⟩
    rintro i x D H' H'' acc L' _ r F' ⟨T, u, v, rfl, hT, rfl, e1, e2⟩
    cases e1
    exact hs i v T D _ acc L' e2 r (F'.new hT)
end
/-! ### lists of truths, compared -/
section
variable {K : PySem.W.Frag} {H : Hp} {L : List En} {a b : Addr} {xs ys : List Bool} {Q : VK}
theorem DtA.bls : ∀ xs : List Bool, DtA L (xs.map V.bl) (xs.map PyData.bool)
  | [] => .nil
  | x :: r => .cons (.bl x) (DtA.bls r)
theorem ShA.bls (xs : List Bool) : ShA (xs.map PyData.bool) 0 := ShA.map fun x _ => ⟨rfl, Nat.le_refl _⟩
theorem eqv_bls : ∀ xs ys : List Bool, PyData.eqvAll (xs.map PyData.bool) (ys.map PyData.bool) = decide (xs = ys)
  | [], [] => rfl
  | [], _ :: _ => rfl
  | _ :: _, [] => rfl
  | x :: xs, y :: ys => by
    show (PyData.eqv (.bool x) (.bool y) && PyData.eqvAll (xs.map PyData.bool) (ys.map PyData.bool)) = _
    rw [eqv_bls xs ys]
    have e : PyData.eqv (.bool x) (.bool y) = (x == y) := by cases x <;> cases y <;> rfl
    rw [e]
    cases x <;> cases y <;> simp
theorem wEqBL (F : Fx H L) (m : En.ob a (.lst (xs.map V.bl)) ∈ L) (n : En.ob b (.lst (ys.map V.bl)) ∈ L) (h : Q (.bl (decide (xs = ys))) H) : rOr rEq (rEqD K) (.ref a) (.ref b) H Q := by
  refine wEqD F (.lst m (DtA.bls xs)) (.lst n (DtA.bls ys)) (Sh.lst (ShA.bls xs)).ok (Sh.lst (ShA.bls ys)).ok ?_
  have e : PyData.eqv (.list (xs.map PyData.bool)) (.list (ys.map PyData.bool)) = decide (xs = ys) := eqv_bls xs ys
  rw [e]
  exact h
end
/-! ### x in d, an own __contains__ -/
structure OwnInF (K : PySem.W.Frag) (C f : Addr) : Prop where
  con : PySem.W.findIn K (.ref C) "__contains__" = some (some (.ref f))
  fn : PySem.W.typeIn K (.ref f) = some (.type "function")
def rInOwn (K : PySem.W.Frag) (C : Addr) (sp : Sp) : R2 := fun x y H Q => ∃ a dx fs, y = .ref a ∧ H a = some (.ins C dx fs) ∧ sp [.ref a, x] H (fun v H' => ∃ b : Bool, v = .bl b ∧ Q (.bl b) H') E0
section
variable {prog : Program} {w : World} {A : Around} {E : Value → Shared → Prop} {s : Shared} {K : PySem.W.Frag} {x C f : Addr} {ox : Obj} {od : Option Obj} {u : Value}
theorem contains_fn {Q : Value → Shared → Prop} (X : K.In s.heap) (I : PySem.W.InstAt s.heap x ox C od) (hs : PySem.W.findIn K (.ref C) "__contains__" = some (some (.ref f))) (hf : PySem.W.typeIn K (.ref f) = some (.type "function"))
    (h : wpAny (model prog w) A (call (.ref f) [.ref x, u]) (fun v s' => ∃ b, v = .bool b ∧ Q (.bool b) s') E s) : wpAny (model prog w) A (compareOp .In u (.ref x)) Q E s := by
  show wpAny _ _ (do return .bool (← contains (.ref x) u)) Q E s
  refine wpAny_bind ?_
  unfold contains
  refine wpAny_holding ?_
  refine wpAny_bind (wpAny_bind (I.type.here ((PySem.W.looks_findIn X hs).here ?_)))
  show wpAny _ _ (if (some (Value.ref f) == some Value.none) = true then _ else _) _ E s
  rw [if_neg (show ¬ ((some (Value.ref f) == some Value.none) = true) from Bool.false_ne_true)]
  refine wpAny_bind ?_
  unfold callSpecialUnlessNone?
  refine wpAny_bind (wpAny_bind (I.type.here ((PySem.W.looks_findIn X hs).here (wpAny_holding (wpAny_bind ((PySem.W.bind_fn X _ hf).here ?_))))))
  show wpAny _ _ (if (Value.ref f == Value.none) = true then _ else _) _ E s
  rw [if_neg (show ¬ ((Value.ref f ==
        Value.none) = true) from Bool.false_ne_true)]
  refine wpAny_bind (wpAny_mono h (fun v s' z => ?_) fun _ _ e => e)
  obtain ⟨b, rfl, q⟩ := z
  exact wpAny_pure (wpAny_truthy_bool (wpAny_pure q))
end
section
variable {X : Cx} {k : Nat} {C f : Addr} {fd : FuncData} {ps : List Str} {sp : Sp}
theorem op_inOwn (F : FnOk X.prog X.w X.K X.mg X.base CX0 k f fd ps sp) (q : OwnInF X.K C f) (hb : Binds X.K fd ps []) (hr : Room k X.A) : OpR X (compareOp .In) (rInOwn X.K C sp) := by
  intro pins s σ H x
        y v u Q I rx ry h
  obtain ⟨a, dx, fs, rfl, ha, hsp⟩ := h
  obtain rfl : u =
        Value.ref a := ry
  obtain ⟨mA, J, _⟩
        := ins_get I.hok ha
  obtain ⟨od, J, _⟩ := J.look
  refine contains_fn I.kIn J q.con q.fn (wpAny_mono (own_call F hb hr rfl I (show RelV (V.ref a) (Value.ref a) from rfl) rx hsp) (fun v s' z => ?_) fun _ _ e => e)
  obtain ⟨v', H', I', rv, b, eb, hq⟩ := z
  subst eb
  obtain rfl : v = Value.bool b := rv
  exact ⟨b, rfl, .bl b, H', I', rfl, hq⟩
def InO (P : Program) (w : World) (K : PySem.W.Frag) (mg : Str → Option Value) (base : Heap) (C : Addr) (k : Nat) (ps : List Str) (sp : Sp) : Prop := ∃ (f : Addr) (fd : FuncData), OwnInF K C f ∧ Binds K fd ps [] ∧ FnOk P w K mg base CX0 k f fd ps sp
theorem op_inO (O : InO X.prog X.w X.K X.mg X.base C k ps sp) (hr : Room k X.A) : OpR X (compareOp .In) (rInOwn X.K C sp) := by
  obtain ⟨f, fd, q, b, F⟩ := O
  exact op_inOwn F q b hr
theorem wInOwn {K : PySem.W.Frag} {H : Hp} {Q : VK} {a dx : Addr} {x : V} {fs : List (Str × V)} (ha : H a = some (.ins C dx fs)) (h : sp [.ref a, x] H (fun v H' => ∃ b : Bool, v = .bl b ∧ Q (.bl b) H') E0) : rInOwn K C sp x (.ref a) H Q := ⟨a, dx, fs, rfl, ha, h⟩
/-! ### min of three, sorted of any number of numbers, a range from its end -/
def rMin3 : List V → Hp → VK → Prop := fun vs H Q => ∃ i j k : Int, vs = [.int i, .int j, .int k] ∧ Q (.int (min (min i j) k)) H
theorem cr_min3 (hc : X.calm = true) : CallR X (.builtin "min") rMin3 := by
  intro pins s σ
        H vs us Q I r h
  obtain ⟨i, j, k, rfl, q⟩ := h
  refine call_min3Nu hc pins s σ H _ us Q I r ⟨.int i, .int j, .int k, .int (min (min i j) k), rfl, ?_, q⟩
  have two : ∀ a b : Int, nuMin2 (.int a) (.int b) = some (.int (min a b)) := fun a b => by
    show some (if decide (b < a) = true then V.int b else V.int a) = _
    by_cases h : b < a
    · rw [if_pos (decide_eq_true h), Int.min_eq_right (by omega)]
    · rw [if_neg (by simpa using h), Int.min_eq_left (by omega)]
  show (nuMin2 (.int i) (.int j)).bind (fun m => nuMin2 m (.int k)) = _
  rw [two]
  exact two _ _
theorem wMin3 {i j k : Int} {H : Hp} {Q : VK} (h : Q (.int (min (min i j) k)) H) : rMin3 [.int i, .int j, .int k] H Q := ⟨i, j, k, rfl, h⟩
theorem wSortedI {K : PySem.W.Frag} {H : Hp} {L : List En} {Q : VK} {a : Addr} {ns : List Int} (s : SqL K H a (ns.map V.int)) (F : Fx H L)
    (k : ∀ (ns' : List Int) p H', ns'.Perm ns → ns'.Pairwise (· ≤ ·) → Fx H' (.ob p (.lst (ns'.map V.int)) :: L) → Q (.ref p) H') : rSortedI K [.ref a] H Q :=
  ⟨a, ns, rfl, s, fun ns' p hp hs hn => k ns' p _ hp hs (F.new hn)⟩
def GoRev (x : V) (H : Hp) (R : It → Hp → Prop) : Prop := ∃ n : Int, x = .int n ∧ -(2 ^ 62) ≤ (0 : Int) ∧ (0 : Int) < 2 ^ 62 ∧ -(2 ^ 62) ≤ n ∧ n < 2 ^ 62 ∧ R (Itc (0 + (((n - 0).toNat : Nat) : Int) - 1) (-1) (n - 0).toNat) H
theorem wIRevR {σ : L2.St} {H : Hp} {RI : It → Hp → Prop} {ta : TE} (h : ta σ H fun x H1 => GoRev x H1 RI) : iRevR (tRg1 ta) σ H RI := h
theorem wGoRev {n : Int} {H : Hp} {RI : It → Hp → Prop} (h0 : 0 ≤ n) (h1 : n < 2 ^ 62) (h : RI (Itc (n - 1) (-1) n.toNat) H) : GoRev (.int n) H RI := by
  refine ⟨n, rfl, by omega, by omega, by omega, h1, ?_⟩
  have e : (0 : Int) + (((n - 0).toNat : Nat) : Int) - 1 = n - 1 := by omega
  have e2 : (n - 0).toNat = n.toNat := by omega
  rw [e, e2]
  exact h
end
end Z
namespace RZ
open PySem L2
def intV (x : V) : Int := match x with | .int i => i | _ => 0
theorem intV_map (ns : List Int) : (ns.map V.int).map intV = ns := by
  rw [List.map_map]
  exact List.map_id'' (fun _ => rfl) ns
theorem putF_len (f : Str) (v : V) : ∀ l : List (Str × V), (putF f v l).length ≤ l.length + 1
  | [] => Nat.le_refl _
  | (g, u) :: r => by
    have ih := putF_len f v r
    unfold putF
    split
    · exact Nat.le_succ _
    · exact Nat.succ_le_succ ih
theorem putF_le {f : Str} {v : V} {l : List (Str × V)} {n : Nat} (h : l.length ≤ n) : (putF f v l).length ≤ n + 1 := Nat.le_trans (putF_len f v l) (Nat.succ_le_succ h)
end RZ

set_option Elab.async false
set_option linter.all false
set_option maxRecDepth 100000
set_option maxHeartbeats 2000500
/-! ### min of a list with default=None -/
namespace PySem
section
variable {prog : Program} {w : World} {A : Around} {R : Result → Shared → Prop} {E : Value → Shared → Prop} {s : Shared} {I S : Addr} {fp wr : List Addr} {n : Nat} {P : Nat → Value → Prop} {St : Nat → Heap → Prop} {d : Value}
theorem zf_args_minD (a v : Value) : argsOk "min" ⟨[a], [(Str.ofString "default", v)]⟩ := by unfold argsOk; kernel_rfl
theorem zcall_kw {id : String} {b : Builtin} {args : List Value} {kw : List (Str × Value)} {Q : Value → Shared → Prop} (hk : builtinKind id = none) (hp : plainId id = true) (hb : entryFor table id = some b) (ha : argsOk id ⟨args, kw⟩)
    (hc : wpAny (model prog w) A.in1 (b ⟨args, kw⟩) (fun fin s' => ∃ c', fin = .again c' ∧ c'.quiet = true ∧ codeAny (model prog w) A c' (fun r s' => ∃ v, r = .ok (.ret v) ∧ Q v s') s') E s) : wpAny (model prog w) A (call (.builtin id) args kw) Q E s := by
  refine wpAny_call
        (codeAny_call_builtin hp hb ?_)
  have fin := wpAny_mono hc (Q' := fun fin s' => match fin with
      | .done f => (match (Except.ok f : Result) with
        | .ok (.ret v) => Q v s'
        | .ok _ => False
        | .error e => E e s')
      | .again c' => c'.quiet = true ∧ codeAny (model prog w) A c' (fun r s' => match r with
        | .ok (.ret v) => Q v s'
        | .ok _ => False
        | .error e => E e s') s') (fun fin s' z => by
    obtain ⟨c', rfl, q, z⟩ := z
    exact ⟨q, codeAny_mono z fun r s2 y => by obtain ⟨v, rfl, y⟩ := y; exact y⟩) fun _ _ e => e
  simp only
        [checkBuiltinCall, hk]
  cases sg : Manifest.signature? id with
  | none => exact wpAny_pure fin
  | some g =>
    have h2 : Bind.checkArgs id g ⟨args, kw⟩ = pure () := by simpa only [argsOk, sg] using ha
    simp only [h2]
    exact wpAny_pure fin
/-- min's loop, at its turn j: nothing found yet, or the best of the first j -/
theorem zmin_loop (W : Walks prog w A.in1 I fp wr n P St) (bt : Nat → Nat → Bool) (hcmp : CmpOf prog w A.in1 .Lt P bt) (hSf : S ∉ fp) : ∀ (k j : Nat) (s : Shared) (its : Array Value) (c : Nat), n - j = k → j ≤ n → St j s.heap →
    ((its = #[] ∧ j = 0) ∨ ∃ vb, its = #[vb, vb] ∧ 0 < j ∧ P (argBest bt (j - 1)) vb) → s.heap.get? S = some { cls := .type "list", dict := none, data := .seq its c, slots := #[] } →
    (∀ v h' tk, (n = 0 ∧ v = d ∨ 0 < n ∧ P (argBest bt (n - 1)) v) → (∀ b o, b ∉ wr → b ≠ S → s.heap.get? b = some o → h'.get? b = some o) → R (.ok (.ret v)) { s with heap := h', toks := tk }) →
    codeAny (model prog w) A (.builtin "min.loop" ⟨[.ref I, .none, .ref S], [("default", d)]⟩) R s := by
  have hSw : S ∉ wr :=
        fun h => hSf (W.sub _ h)
  have nm : (toString "min" ++ toString ".loop" : String) = "min.loop" := by decide
  intro k
  induction k with
  | zero =>
    intro j s its c hk hj hst hits hS hR
    obtain rfl : j = n := by omega
    refine codeAny_builtin
          F.entry_min_loop ?_
    rw [Around.under_plainId
          F.plain_min_loop _]
    show wpAny _ A.in1 (seqItems?
          (.ref S) >>= _) _ _ s
    refine wpAny_bind
          (wpAny_seqItems hS rfl ?_)
    rcases hits with ⟨rfl, rfl⟩ | ⟨vb, rfl, j0, hP⟩
    · show wpAny _ A.in1 (tryCatch (pyNext (.ref I)) _ >>= _) _ _ s
      refine wpAny_bind (wpAny_tryCatch
            (W.done s _ _ hst fun h' tk hk' => ?_))
      show wpAny _ A.in1
            (rule _ >>= _) _ _ _
      refine wpAny_bind
            (wpAny_rule (wpAny_pure ?_))
      exact hR d _ tk (.inl ⟨rfl, rfl⟩) fun b o h1 _ e => hk' b o h1 e
    · show wpAny _ A.in1 (tryCatch (pyNext (.ref I)) _ >>= _) _ _ s
      refine wpAny_bind (wpAny_tryCatch
            (W.done s _ _ hst fun h' tk hk' => ?_))
      have hS' := hk' S _ hSw hS
      show wpAny _ A.in1 (updateSeq
            S (fun _ => #[]) >>= _) _ _ _
      refine wpAny_bind ?_
      refine wpAny_updateSeq hS' rfl
            (wpAny_bind (wpAny_letGo (wpAny_pure ?_)))
      exact hR vb _ tk (.inr ⟨j0, hP⟩) fun b o h1 h2 e => (Heap.get?_update_other _ _ (Ne.symm h2)).trans (hk' b o h1 e)
  | succ k ih =>
    intro j s its c hk hj hst hits hS hR
    have lt : j < n := by omega
    refine codeAny_builtin
          F.entry_min_loop ?_
    rw [Around.under_plainId
          F.plain_min_loop _]
    show wpAny _ A.in1 (seqItems?
          (.ref S) >>= _) _ _ s
    refine wpAny_bind
          (wpAny_seqItems hS rfl ?_)
    rcases hits with ⟨rfl, rfl⟩ | ⟨vb, rfl, j0, hP⟩
    · show wpAny _ A.in1 (tryCatch (pyNext (.ref I)) _ >>= _) _ _ s
      refine wpAny_bind (wpAny_tryCatch (W.item 0 s _ _ lt hst fun v h' tk hPv hst' hk' => ?_))
      have hS' := hk' S _ hSw hS
      show wpAny _ A.in1 (updateSeq S
            (fun _ => #[v, v]) >>= _) _ _ _
      refine wpAny_bind ?_
      refine wpAny_updateSeq
            hS' rfl ?_
      rw [nm]
      refine wpAny_pure ⟨plainId_quiet F.plain_min_loop _, ih 1 _ #[v, v] _ (by omega) (by omega) (W.frame _ _ _ hst' fun b hb o e => (Heap.get?_update_other _ _ (fun h : S = b => hSf (by rw [h]; exact hb))).trans e) (.inr ⟨v, rfl, by omega, hPv⟩) (Heap.get?_update_self _ hS' rfl) fun v2 h2 tk2 q2 f2 => ?_⟩
      exact hR v2 h2 tk2 q2 fun b o h1 h3 e => f2 b o h1 h3 ((Heap.get?_update_other _ _ (Ne.symm h3)).trans (hk' b o h1 e))
    · have ej : j - 1 + 1 = j := by omega
      show wpAny _ A.in1 (tryCatch
            (pyNext (.ref I)) _ >>= _) _ _ s
      refine wpAny_bind (wpAny_tryCatch (W.item j s _ _ lt hst fun v h' tk hPv hst' hk' => ?_))
      have hS' := hk' S _ hSw hS
      show wpAny _ A.in1 (tryCatch (holding [v, v]
            (richCompare .Lt v vb >>= _)) _ >>= _) _ _ _
      refine wpAny_bind (wpAny_tryCatch (wpAny_holding (wpAny_bind (hcmp j (argBest bt (j - 1)) v vb _ _ _ hPv hP ?_))))
      refine wpAny_bind (wpAny_holding
            (wpAny_truthy_bool ?_))
      refine wpAny_bind
            (wpAny_letGo (wpAny_pure ?_))
      have best : argBest bt j = if bt j (argBest bt (j - 1)) = true then j else argBest bt (j - 1) := by
        conv => lhs; rw [← ej]
        rw [argBest, ej]
      cases hb : bt j (argBest bt (j - 1)) with
      | true =>
        rw [hb, if_pos rfl] at best
        simp only [if_true]
        refine wpAny_bind ?_
        refine wpAny_updateSeq hS' rfl
              (wpAny_bind (wpAny_letGo ?_))
        rw [nm]
        refine wpAny_pure ⟨plainId_quiet F.plain_min_loop _, ih (j + 1) _ #[v, v] _ (by omega) (by omega) (W.frame _ _ _ hst' fun b hb o e => (Heap.get?_update_other _ _ (fun h : S = b => hSf (by rw [h]; exact hb))).trans e) (.inr ⟨v, rfl, by omega, by rw [Nat.add_sub_cancel, best]; exact hPv⟩) (Heap.get?_update_self _ hS' rfl) fun v2 h2 tk2 q2 f2 => ?_⟩
        exact hR v2 h2 tk2 q2 fun b o h1 h3 e => f2 b o h1 h3 ((Heap.get?_update_other _ _ (Ne.symm h3)).trans (hk' b o h1 e))
      | false =>
        rw [hb, if_neg Bool.false_ne_true] at best
        simp only [Bool.false_eq_true,
              if_false]
        refine wpAny_bind
              (wpAny_letGo ?_)
        rw [nm]
        refine wpAny_pure ⟨plainId_quiet F.plain_min_loop _, ih (j + 1) _ #[vb, vb] _ (by omega) (by omega) hst' (.inr ⟨vb, rfl, by omega, by rw [Nat.add_sub_cancel, best]; exact hP⟩) hS' fun v2 h2 tk2 q2 f2 => ?_⟩
        exact hR v2 h2 tk2 q2 fun b o h1 h3 e => f2 b o h1 h3 (hk' b o h1 e)
theorem zmin_list {l : Addr} {xs : Array (Int × Tok)} {Q : Value → Shared → Prop} (hh : A.handled = none) (hl : s.heap.IsList l (intItems xs))
    (h : ∀ v h' tk, (xs.size = 0 ∧ v = d ∨ 0 < xs.size ∧ (intItems xs)[argBest (fun i j => decide (numAt xs i < numAt xs j)) (xs.size - 1)]? = some v) → (∀ b o, s.heap.get? b = some o → h'.get? b = some o) → Q v { s with heap := h', toks := tk }) :
    wpAny (model prog w) A (call (.builtin "min")
          [.ref l] [(Str.ofString "default", d)]) Q E s := by
  have nm : (toString "min" ++ toString ".loop" : String) = "min.loop" := by decide
  refine zcall_kw F.kind_min F.plain_min F.entry_min (zf_args_minD _ _) ?_
  show wpAny _ A.in1 (Builtin.Builtins.bindParams "min" ["key",
        "default"] 0 ⟨[], [(Str.ofString "default", d)]⟩ >>= _) _ _ s
  refine wpAny_bind (wpAny_of_eq (show Builtin.Builtins.bindParams "min" ["key", "default"] 0 ⟨[], [(Str.ofString "default", d)]⟩ = pure [none, some d] from by first | rfl | kernel_rfl) ?_)
  refine wpAny_bind
        (wpAny_pure ?_)
  refine wpAny_bind (iter_intList hl fun s₂ e st hfp hlI => ?_)
  subst e
  refine wpAny_bind
        (wpAny_newObj_type ?_)
  have hSf : (s.heap.push { cls := .type "list_iterator", data := .fields #[.ref l, .int 0 0] }).objs.size ∉ [s.heap.objs.size, l] := fun hm => Nat.lt_irrefl _ (hfp _ hm)
  have W := Walks.list (prog := prog) (w := w) (A := A.in1) hh _ l hlI (intItems xs)
  rw [nm]
  refine wpAny_pure ⟨_, rfl, plainId_quiet F.plain_min_loop _, zmin_loop (d := d) W _ (CmpOf.ints_lt (numAt xs) (fun _ _ => intItems_at)) hSf _ 0 _ #[] _ rfl (Nat.zero_le _) (W.frame _ _ _ st fun b _ o e => Heap.get?_push_of_some _ e) (.inl ⟨rfl, rfl⟩) (Heap.get?_push_size _ rfl) fun v h' tk hP hk => ?_⟩
  refine ⟨v, rfl, h v h' tk (by simpa [intItems] using hP) (old_kept fun b o hb e => hk b o hb (Nat.ne_of_lt (Heap.lt_size e)) (Heap.get?_push_of_some _ e))⟩
end
end PySem
namespace Z
open PySem PySem.Spec
      PyProof.Rows L2
section
variable {X : Cx}
def rMinN (K : PySem.W.Frag) : List V → List V → Hp → VK → Prop := fun vs zs H Q => ∃ (a : Addr) (ns : List Int), vs = [V.ref a] ∧ zs = [.non] ∧ SqL K H a (ns.map V.int) ∧ (ns = [] → Q .non H) ∧ ∀ m, m ∈ ns → (∀ y, y ∈ ns → m ≤ y) → Q (.int m) H
theorem cr_minN (hc : X.calm = true) : CallRK X (.builtin "min") [Str.ofString "default"] (rMinN X.K) := by
  intro pins s σ H vs
        zs us ws Q I r rz h
  obtain ⟨a, ns, rfl, rfl, hs, q0, q⟩ := h
  obtain ⟨its, rv,
        hl, _⟩ := I.list hs
  obtain rfl := Vals.ref1 r
  obtain ⟨w1, rfl, e1⟩ : ∃ w1, ws = [w1] ∧ RelV .non w1 := by
    cases rz with
    | cons a b => cases b; exact ⟨_, rfl, a⟩
  obtain rfl : w1 =
        Value.none := e1
  have hi := rv.ints
  obtain ⟨xs, e⟩ :=
        hi.allInts.items
  have hn : numsOf (intItems xs).toList
        = ns := by rw [← e]; exact hi.numsOf
  rw [nums_intItems] at hn
  subst hn
  have hl' := hl.isList
  rw [e] at hl'
  refine zmin_list (I.ok.hd hc) hl' fun v h' tk hv hk => ?_
  rcases hv with ⟨h0, rfl⟩ | ⟨h0, hv⟩
  · refine ⟨.non, H, I.kept hk, rfl, q0 ?_⟩
    have : xs.toList = [] := by
      apply List.eq_nil_of_length_eq_zero
      rw [Array.length_toList]; exact h0
    rw [this]; rfl
  · obtain ⟨t, rfl⟩ := intItems_at hv
    obtain ⟨h1, h2⟩ := argBest_lt
          (numAt xs) (xs.size - 1)
    refine ⟨.int _, H, I.kept hk, ⟨_, rfl⟩, q _ ?_ fun y hy => ?_⟩
    · rw [numAt_eq]; exact PySem.getD_mem (by rw
          [List.length_map, Array.length_toList]; omega)
    · obtain ⟨j, hj, rfl⟩ := mem_getD hy
      rw [List.length_map,
            Array.length_toList] at hj
      rw [← numAt_eq];
            exact h2 j (by omega)
end
section
variable {K : PySem.W.Frag} {H : Hp} {Q : VK} {a : Addr} {ns : List Int} {σ : L2.St}
theorem wCKw {r : List V → List V → Hp → VK → Prop} {t tk : TA} (h : t σ H fun vs H1 => tk σ H1 fun zs H2 => r vs zs H2 Q) : tCKw r t tk σ H Q := h
theorem wMinN (s : SqL K H a (ns.map V.int)) (q0 : ns = [] → Q .non H) (q : ∀ m, m ∈ ns → (∀ y, y ∈ ns → m ≤ y) → Q (.int m) H) : rMinN K [.ref a] [.non] H Q := ⟨a, ns, rfl, rfl, s, q0, q⟩
end
end Z
namespace Z
open PySem PySem.Spec
      PyProof.Rows L2
section
variable {X : Cx}
/-! ### divmod of great numbers -/
def rDvm : List V → Hp → VK → Prop := fun xs H Q => ∃ i j, xs = [.int i, .int j] ∧ CDivP i j ∧ ∀ p, H p = none → Q (.ref p) (upd H p (.tup [.int (i / j), .int (i % j)]))
theorem cr_dvm : CallR X (.builtin "divmod") rDvm := call_divmodW
theorem divp_big {i j : Int} (i0 : 0 ≤ i) (i1 : i < 10 ^ 40) (hj : 0 < j) : CDivP i j := by
  refine divp_ok hj (Nat.le_trans ?_ (Nat.le_add_left _ _))
  have h2 : i.natAbs < 2 ^ 140 := by
    have : (10 : Int) ^ 40 < 2 ^ 140 := by decide
    omega
  unfold Builtin.Int.intBits
  have := PySem.Flt.log2_lt_of (n := i.natAbs) (k := 140) (by decide) h2
  split <;> omega
theorem wDvm {H : Hp} {L : List En} {Q : VK} {i j : Int} (i0 : 0 ≤ i) (i1 : i < 10 ^ 40) (hj : 0 < j) (F : Fx H L) (k : ∀ p H', Fx H' (.ob p (.tup [.int (i / j), .int (i % j)]) :: L) → Q (.ref p) H') : rDvm [.int i, .int j] H Q :=
  ⟨i, j, rfl, divp_big i0 i1 hj, fun p hp => k p _ (F.new hp)⟩
end
end Z
namespace Z
open PySem PySem.Spec
      PyProof.Rows L2
/-! ### x not in d, an own __contains__ -/
def rNotInOwn (K : PySem.W.Frag) (C : Addr) (sp : Sp) : R2 := fun x y H Q => ∃ a dx fs, y = .ref a ∧ H a = some (.ins C dx fs) ∧ sp [.ref a, x] H (fun v H' => ∃ b : Bool, v = .bl b ∧ Q (.bl (!b)) H') E0
section
variable {prog : Program} {w : World} {A : Around} {E : Value → Shared → Prop} {s : Shared} {K : PySem.W.Frag} {x C f : Addr} {ox : Obj} {od : Option Obj} {u : Value}
theorem contains_fnN {Q : Value → Shared → Prop} (X : K.In s.heap) (I : PySem.W.InstAt s.heap x ox C od) (hs : PySem.W.findIn K (.ref C) "__contains__" = some (some (.ref f))) (hf : PySem.W.typeIn K (.ref f) = some (.type "function"))
    (h : wpAny (model prog w) A (call (.ref f) [.ref x, u]) (fun v s' => ∃ b, v = .bool b ∧ Q (.bool (!b)) s') E s) : wpAny (model prog w) A (compareOp .NotIn u (.ref x)) Q E s := by
  show wpAny _ _ (do return .bool (!(← contains (.ref x) u))) Q E s
  refine wpAny_bind ?_
  unfold contains
  refine wpAny_holding ?_
  refine wpAny_bind (wpAny_bind (I.type.here ((PySem.W.looks_findIn X hs).here ?_)))
  show wpAny _ _ (if (some (Value.ref f) == some Value.none) = true then _ else _) _ E s
  rw [if_neg (show ¬ ((some (Value.ref f) == some Value.none) = true) from Bool.false_ne_true)]
  refine wpAny_bind ?_
  unfold callSpecialUnlessNone?
  refine wpAny_bind (wpAny_bind (I.type.here ((PySem.W.looks_findIn X hs).here (wpAny_holding (wpAny_bind ((PySem.W.bind_fn X _ hf).here ?_))))))
  show wpAny _ _ (if (Value.ref f == Value.none) = true then _ else _) _ E s
  rw [if_neg (show ¬ ((Value.ref f ==
        Value.none) = true) from Bool.false_ne_true)]
  refine wpAny_bind (wpAny_mono h (fun v s' z => ?_) fun _ _ e => e)
  obtain ⟨b, rfl, q⟩ := z
  exact wpAny_pure (wpAny_truthy_bool (wpAny_pure q))
end
section
variable {X : Cx} {k : Nat} {C : Addr} {ps : List Str} {sp : Sp}
theorem op_notInO (O : InO X.prog X.w X.K X.mg X.base C k ps sp) (hr : Room k X.A) : OpR X (compareOp .NotIn) (rNotInOwn X.K C sp) := by
  obtain ⟨f, fd, q, hb, F⟩ := O
  intro pins s σ H x
        y v u Q I rx ry h
  obtain ⟨a, dx, fs, rfl, ha, hsp⟩ := h
  obtain rfl : u =
        Value.ref a := ry
  obtain ⟨mA, J, _⟩
        := ins_get I.hok ha
  obtain ⟨od, J, _⟩ := J.look
  refine contains_fnN I.kIn J q.con q.fn (wpAny_mono (own_call F hb hr rfl I (show RelV (V.ref a) (Value.ref a) from rfl) rx hsp) (fun v s' z => ?_) fun _ _ e => e)
  obtain ⟨v', H', I', rv, b, eb, hq⟩ := z
  subst eb
  obtain rfl : v = Value.bool b := rv
  exact ⟨b, rfl, .bl (!b), H', I', rfl, hq⟩
theorem wNotInOwn {K : PySem.W.Frag} {H : Hp} {Q : VK} {a dx : Addr} {x : V} {fs : List (Str × V)} (ha : H a = some (.ins C dx fs)) (h : sp [.ref a, x] H (fun v H' => ∃ b : Bool, v = .bl b ∧ Q (.bl (!b)) H') E0) : rNotInOwn K C sp x (.ref a) H Q := ⟨a, dx, fs, rfl, ha, h⟩
end
end Z
namespace Z
open L2
theorem wIntB {b : Bool} {H : Hp} {Q : VK} (h : Q (.int (if b = true then 1 else 0)) H) : rInt [.bl b] H Q := .inr ⟨b, rfl, h⟩
end Z
namespace Z
open PySem PySem.Spec
      PyProof.Rows L2
/-! ### a try that stands alone in a loop: its reading by name -/
def tTryO (K : PySem.W.Frag) (c : Value) (ts : Addr → Value → Option Addr → TS) (Wout : WX) (tb : WX → TS) : TS := fun D σ H => tb (wOnly K c ts Wout D) D σ H
theorem wTryO {K : PySem.W.Frag} {c : Value} {ts : Addr → Value → Option Addr → TS} {Wout : WX} {tb : WX → TS} {D : Ends} {σ : L2.St} {H : Hp} (h : tb (wOnly K c ts Wout D) D σ H) : tTryO K c ts Wout tb D σ H := h
section
variable {X : Cx} {x : Str} {c : Value} {body suite : List Stmt} {b₀ : Stmt} {np
      pos pos' : Pos} {tb : WX → TS} {ts : Addr → Value → Option Addr → TS} {Wout : WX}
theorem ps_try_onlyN (hs : X.stack = X.env :: X.outer) (hf : X.env.frame = some X.env.locals) (hc : Names X x c) (tk : Takes X Wout)
    (hb : ∀ (W : WX) (pn : List (Addr × Obj)) (xe : Value → Shared → Prop), Takes (X.tr pn xe) W → PassesOwn (model X.prog X.w) X.A X.env xe →
      PSs (X.tr pn xe) body (tb W))
    (hsu : ∀ (a : Addr) (oe : Obj) (cls : Value) (d : Option Addr) (pn : List (Addr × Obj)), Zc cls d oe → (∃ vs, oe.data = .fields vs) →
      PSs (X.suite a ((a, oe) :: pn)) (b₀ :: suite) (ts a cls d)) :
    PS X (.Try body [.ExceptHandler (some (.Name x np)) none (b₀ :: suite) pos'] [] [] pos) (tTryO X.K c ts Wout tb) := ps_try_only hs hf hc tk hb hsu
end
end Z
namespace Z
open PySem PySem.Spec
      PyProof.Rows L2
/-! ### a, b = x, y -/
def tPar2 (i j : Nat) (D : Ends) (vs : List V) (σ : L2.St) (H : Hp) : Prop := ∃ v w, vs = [v, w] ∧ D.nx ((σ.set i (some v)).set j (some w)) H
theorem wPar {i j : Nat} {ta : TA} {D : Ends} {σ : L2.St} {H : Hp} (h : ta σ H fun vs H1 => tPar2 i j D vs σ H1) : tPar i j ta D σ H := h
theorem wPar2 {i j : Nat} {nx bk ct : L2.St → Hp → Prop} {rt : VK} {v w : V} {σ : L2.St} {H : Hp} (h : nx ((σ.set i (some v)).set j (some w)) H) : tPar2 i j ⟨nx, rt, bk, ct⟩ [v, w] σ H := ⟨v, w, rfl, h⟩
end Z

set_option Elab.async false
set_option linter.all false
set_option maxRecDepth 100000
set_option
      maxHeartbeats 4000000
namespace M
open PySem L2 RZ
local macro_rules | `(tactic| walk_at "zm") => `(tactic| with_reducible first | exact List.mem_cons_self | assumption | (refine List.mem_cons_of_mem _ ?_; walk_at "zm"))
local macro_rules | `(tactic| walk_at "zp") => `(tactic| with_reducible first | exact Z.Put.head | (refine Z.Put.tail ?_; walk_at "zp"))
local macro_rules | `(tactic| walk_at "zo") => `(tactic| first | omega | (simp only [List.length_map, List.length_cons, List.length_nil, List.length_append, List.length_range] at *; omega))
local macro_rules | `(tactic| walk_at "zF") => `(tactic| with_reducible assumption)
local macro_rules | `(tactic| walk_at "zsq") => `(tactic| first | exact Z.Fx.lst (by walk_at "zF") (by walk_at "zm") | exact Z.Fx.tup (by walk_at "zF") (by walk_at "zm") | with_reducible assumption | exact Z.Fx.frz (by walk_at "zF") (by walk_at "zm"))
local macro_rules | `(tactic| walk_at "zsL") => `(tactic| first | exact Z.Fx.lst (by walk_at "zF") (by walk_at "zm") | with_reducible assumption | exact Z.Fx.frz (by walk_at "zF") (by walk_at "zm"))
local macro_rules | `(tactic| walk_at "zsT") => `(tactic| first | exact Z.SqT.of (Z.Fx.get (by walk_at "zF") (by walk_at "zm")) | with_reducible assumption)
local macro_rules | `(tactic| walk_at "zcm") => `(tactic| first | exact Or.inr ⟨by decide, by decide⟩ | exact Or.inl ⟨by decide, by decide⟩ | exact Or.inl ⟨by omega, by omega⟩ | exact Or.inr ⟨by omega, by omega⟩)
local macro_rules | `(tactic| walk_at "zcd") => `(tactic| first | exact ⟨by decide, by decide +kernel⟩ | assumption | exact ⟨by omega, by assumption⟩)
local macro_rules | `(tactic| walk_at "zb1") => `(tactic| first | rfl | assumption | exact decide_eq_true (by omega) | exact decide_eq_true (by assumption) | (simp only [Bool.not_eq_true', decide_eq_false_iff_not, bne_iff_ne, ne_eq]; omega))
local macro_rules | `(tactic| walk_at "zb0") => `(tactic| first | rfl | assumption | exact decide_eq_false (by omega) | exact decide_eq_false (by assumption) | (simp only [Bool.not_eq_false', decide_eq_true_iff, bne_eq_false_iff_eq]; omega))
local macro_rules | `(tactic| walk_at "zv") => `(tactic| with_reducible first | refine Z.wV0 ?_ | refine Z.wV1 ?_ | refine Z.wV2 ?_ | refine Z.wV3 ?_ | refine Z.wV4 ?_ | refine Z.wV5 ?_ | refine Z.wV6 ?_ | refine Z.wV7 ?_ | refine Z.wV8 ?_ | refine Z.wV9 ?_ | refine Z.wV10 ?_ | refine Z.wV11 ?_ | refine Z.wV12 ?_ | refine Z.wV13 ?_ | refine Z.wV14 ?_)
local macro_rules | `(tactic| walk_at "zg") => `(tactic| with_reducible first | refine Z.wG0 ?_ | refine Z.wG1 ?_ | refine Z.wG2 ?_ | refine Z.wG3 ?_ | refine Z.wG4 ?_ | refine Z.wG5 ?_ | refine Z.wG6 ?_ | refine Z.wG7 ?_ | refine Z.wG8 ?_ | refine Z.wG9 ?_ | refine Z.wG10 ?_ | refine Z.wG11 ?_ | refine Z.wG12 ?_ | refine Z.wG13 ?_ | refine Z.wG14 ?_)
-- syntax nodes
local macro_rules | `(tactic| walk_at "zt") => `(tactic| with_reducible first | refine Z.wSeq ?_ | refine Z.wAsg ?_ | refine Z.wOp ?_ | refine Z.wC ?_ | refine Z.wCons ?_ | refine Z.wNil ?_ | refine Z.wCB ?_ | refine Z.wTest ?_ | refine Z.wRet ?_ | refine Z.wNext ?_ | refine Z.wDrop ?_ | refine Z.wTruN ?_ | refine Z.wNot ?_ | refine Z.wAnd ?_ | refine Z.wOrb ?_ | refine Z.wCall0 ?_ | refine Z.wAndT ?_ | refine Z.wOrT ?_ | refine Z.wNotT ?_ | refine Z.wUn ?_ | refine Z.wTIf ?_ | refine Z.wChain ?_ | refine Z.wBM ?_ | refine Z.wBM0 ?_ | refine Z.wGSub ?_ | refine Z.wTTup ?_ | refine Z.wTLst ?_ | refine Z.wRetN ?_ | refine Z.wBreak ?_ | refine Z.wCont ?_ | refine Z.wListI ?_)
-- values
local macro_rules | `(tactic| walk_at "zx") => `(tactic| first
  | with_reducible refine Z.wBl ?_ | with_reducible refine Z.wTbl ?_ | with_reducible refine Z.wTint ?_ | with_reducible refine Z.wTnon ?_ | with_reducible refine Z.wIntI ?_ | with_reducible refine Z.wNeg ?_
  | with_reducible refine Z.wI0 ?_ | with_reducible refine Z.wOr1 (Z.wI0 ?_)
  | with_reducible refine Z.wOr1 (Z.wEqII ?_) | with_reducible refine Z.wOr1 (Z.wNeII ?_)
  | with_reducible refine Z.wOr1 (Z.wIsN ?_) | with_reducible refine Z.wOr1 (Z.wNotN ?_) | with_reducible refine Z.wOr2 (Z.wIsB ?_) | with_reducible refine Z.wOr2 (Z.wNotB ?_)
  | ((with_reducible refine' Z.wI ?zc ?_); (case zc => first | omega | decide | (walk_at "zcd") | exact ⟨by decide, by decide, by decide +kernel⟩))
  | ((with_reducible refine' Z.wOr1 (Z.wI (C := L2.CMul) ?zc ?_)); (case zc => walk_at "zcm"))
  | ((with_reducible refine' Z.wSetL ?zf ?zm ?ze ?zp ?_); (case zf => walk_at "zF"); (case zm => walk_at "zm"); (case ze => first | rfl | exact Z.ixN_of (by walk_at "zo") (by walk_at "zo")); (case zp => walk_at "zp"); with_reducible intro _ _)
  | ((with_reducible refine' Z.wIxL ?zs ?ze ?_); (case zs => walk_at "zsL"); (case ze => first | rfl | assumption))
  | ((with_reducible refine' Z.wIxT ?zs ?ze ?_); (case zs => walk_at "zsT"); (case ze => first | rfl | assumption))
  | ((with_reducible refine' Z.wIxLi ?zs ?z0 ?z1 ?_); (case zs => walk_at "zsL"); (case z0 => walk_at "zo"); (case z1 => walk_at "zo"))
  | ((with_reducible refine' Z.wIxTi ?zs ?z0 ?z1 ?_); (case zs => walk_at "zsT"); (case z0 => walk_at "zo"); (case z1 => walk_at "zo"))
  | ((with_reducible refine' Z.wLenLi ?zs ?_); (case zs => walk_at "zsL"))
  | ((with_reducible refine' Z.wLenTi ?zs ?_); (case zs => walk_at "zsT"))
  | ((with_reducible refine' Z.wLenL ?zs ?_); (case zs => walk_at "zsL"))
  | ((with_reducible refine' Z.wLenT ?zs ?_); (case zs => walk_at "zsT"))
  | ((with_reducible refine' Z.wTyL ?zs ?_); (case zs => walk_at "zsL"))
  | ((with_reducible refine' Z.wApp ?zf ?zm ?zp ?zn ?_); (case zf => walk_at "zF"); (case zm => walk_at "zm"); (case zp => walk_at "zp"); (case zn => first | (have := Z.line_big; walk_at "zo") | assumption); with_reducible intro _ _)
  | ((with_reducible refine' Z.wTup ?zn ?zf ?_); (case zn => first | exact Nat.le_of_ble_eq_true rfl | walk_at "zo"); (case zf => walk_at "zF"); with_reducible intro _ _ _)
  | ((with_reducible refine' Z.wLst ?zn ?zf ?_); (case zn => first | exact Nat.le_of_ble_eq_true rfl | walk_at "zo"); (case zf => walk_at "zF"); with_reducible intro _ _ _)
  | ((with_reducible refine' Z.wListL ?zs ?zf ?_); (case zs => walk_at "zsL"); (case zf => walk_at "zF"); with_reducible intro _ _ _)
  | ((with_reducible refine' Z.wListT ?zs ?zf ?_); (case zs => walk_at "zsT"); (case zf => walk_at "zF"); with_reducible intro _ _ _)
  | ((with_reducible refine' Z.wTupleL ?zs ?zf ?_); (case zs => walk_at "zsL"); (case zf => walk_at "zF"); with_reducible intro _ _ _)
  | ((with_reducible refine' Z.wTupleT ?zs ?_); (case zs => walk_at "zsT"))
  | ((with_reducible refine' Z.wTlst ?zs ?_); (case zs => walk_at "zsL"))
  | ((with_reducible refine' Z.wTtup ?zs ?_); (case zs => walk_at "zsT"))
  | with_reducible refine Z.wAbs ?_)
-- branches that the facts decide
local macro_rules | `(tactic| walk_at "zi") => `(tactic| first | ((with_reducible refine' Z.wIfT ?zb ?_); (case zb => walk_at "zb1")) | ((with_reducible refine' Z.wIfF ?zb ?_); (case zb => walk_at "zb0")))
local macro_rules | `(tactic| walk_at "z") => `(tactic| repeat walk_at "z1")
local macro_rules | `(tactic| walk_at "zc") => `(tactic| fail)
local macro_rules | `(tactic| walk_at "zif") => `(tactic| with_reducible first | refine Z.wIfS ?_ | refine Z.wFor ?_)
local macro_rules | `(tactic| walk_at "z1") => `(tactic| first | walk_at "zt" | walk_at "zv" | walk_at "zg" | walk_at "zc" | walk_at "zif" | walk_at "zx" | walk_at "zi")
local macro_rules | `(tactic| walk_at "y1") => `(tactic| first | walk_at "zt" | walk_at "zv" | walk_at "zg" | walk_at "zc" | walk_at "zx" | walk_at "zi")
local macro_rules | `(tactic| walk_at "y") => `(tactic| repeat walk_at "y1")
local macro_rules | `(tactic| walk_at "zfs") => `(tactic| (refine Z.Fx.sub (by walk_at "zF") ?_; walk_at "zsub"))
local macro_rules | `(tactic| walk_at "zs") => `(tactic| first | refine Z.wIfD (fun _ => ?_) (fun _ => ?_) | refine Z.wIfND (fun _ => ?_) (fun _ => ?_) | refine Z.wIf (fun _ => ?_) (fun _ => ?_))
local macro_rules | `(tactic| walk_at "zz") => `(tactic| ((repeat walk_at "z1"); try (walk_at "zs" <;> walk_at "zz")))
local macro_rules | `(tactic| walk_at "zlog") => `(tactic| first | decide +kernel | assumption | exact Z.log_small (by walk_at "zo") (by walk_at "zo"))
local macro_rules | `(tactic| walk_at "zk") => `(tactic| first | with_reducible assumption | exact Z.HasK.int _ | exact Z.HasK.bl _ | exact Z.HasK.str _ | exact Z.HasK.non | exact Z.HasK.lst (by walk_at "zsL") | exact Z.HasK.tup (by walk_at "zsT"))
local macro_rules | `(tactic| walk_at "zsub") => `(tactic| ((try dsimp only [List.cons_append, List.nil_append, List.append_eq]); (with_reducible first | exact List.Sublist.refl _ | (refine List.Sublist.cons_cons _ ?_; walk_at "zsub") | (refine List.Sublist.cons _ ?_; walk_at "zsub"))))
local macro_rules | `(tactic| walk_at "zt") => `(tactic| with_reducible first | refine Z.wIS ?_ | refine Z.wIL ?_ | refine Z.wIT ?_ | refine Z.wIR1 ?_ | refine Z.wIR2 ?_ | refine Z.wIZ ?_ | refine Z.wLc ?_ | refine Z.wSl ?_ | refine Z.wNoPart ?_ | refine Z.wPart ?_ | refine Z.wPartV ?_ | refine Z.wGCons ?_ | refine Z.wGNil ?_ | refine Z.wYes ?_ | refine Z.wMake ?_ | refine Z.wMakeS ?_ | refine Z.wFld ?_ | refine Z.wSFld ?_ | refine Z.wCallS ?_)
local macro_rules | `(tactic| walk_at "zx") => `(tactic| first
  | ((with_reducible refine' Z.wGTup ?zs ?ze ?_); (case zs => walk_at "zsT"); (case ze => first | rfl | assumption))
  | ((with_reducible refine' Z.wGoSL ?zs ?_); (case zs => walk_at "zsL"))
  | ((with_reducible refine' Z.wGoST ?zs ?_); (case zs => walk_at "zsT"))
  | ((with_reducible refine' Z.wGoL ?zs ?_); (case zs => walk_at "zsL"))
  | ((with_reducible refine' Z.wGoT ?zs ?_); (case zs => walk_at "zsT"))
  | ((with_reducible refine' Z.wGoZL ?zs ?zt ?_); (case zs => walk_at "zsL"); (case zt => walk_at "zsL"))
  | ((with_reducible refine' Z.wGoZT ?zs ?zt ?_); (case zs => walk_at "zsT"); (case zt => walk_at "zsT"))
  | ((with_reducible refine' Z.wGoR1 ?za ?zb ?_); (case za => walk_at "zo"); (case zb => walk_at "zo"))
  | ((with_reducible refine' Z.wGoR2 ?za ?zb ?zc ?zd ?_); (case za => walk_at "zo"); (case zb => walk_at "zo"); (case zc => walk_at "zo"); (case zd => walk_at "zo"))
  | ((with_reducible refine' Z.wSlL ?zs ?zf ?_); (case zs => walk_at "zsL"); (case zf => walk_at "zF"); with_reducible intro _ _ _))
local macro_rules | `(tactic| walk_at "zis") => `(tactic| first | with_reducible assumption | exact Z.SeqIs.int _ | exact Z.SeqIs.bl _ | exact Z.SeqIs.str _ | exact Z.SeqIs.non | exact Z.SeqIs.lst (by walk_at "zm") | exact Z.SeqIs.tup (by walk_at "zm") | exact Z.SeqIs.dct (by walk_at "zm"))
local macro_rules | `(tactic| walk_at "zw") => `(tactic| (simp only [List.map_cons, List.map_nil, wipe, List.set_cons_zero, List.set_cons_succ]))
local macro_rules | `(tactic| walk_at "zt") => `(tactic| with_reducible first | refine Z.wListRg2 ?_)
local macro_rules | `(tactic| walk_at "zx") => `(tactic| first
  | ((with_reducible refine' Z.wRgV ?zo ?zf ?_); (case zo => exact L2.RgOk.of_le (by walk_at "zo") (by walk_at "zo") (by walk_at "zo") (by walk_at "zo")); (case zf => walk_at "zF"); with_reducible intro _ _ _))

local macro_rules | `(tactic| walk_at "zt") => `(tactic| with_reducible first | refine Z.wIE ?_ | refine Z.wIR3 ?_ | refine Z.wMin2 ?_ | refine Z.wMax2 ?_ | refine Z.wBody ?_ | refine Z.wAug rfl ?_)
local macro_rules | `(tactic| walk_at "zx") => `(tactic| first
  | ((with_reducible refine' Z.wGoDown ?za ?zb ?zc ?zd ?_); (case za => walk_at "zo"); (case zb => walk_at "zo"); (case zc => walk_at "zo"); (case zd => walk_at "zo"))
  | ((with_reducible refine' Z.wSumL ?zs ?_); (case zs => walk_at "zsL"))
  | ((with_reducible refine' Z.wSumT ?zs ?_); (case zs => walk_at "zsT"))
  | ((with_reducible refine' Z.wRepL ?zf ?zm ?z1 ?z2 ?z3 ?_); (case zf => walk_at "zF"); (case zm => walk_at "zm"); (case z1 => walk_at "zo"); (case z2 => walk_at "zo"); (case z3 => walk_at "zo"); with_reducible intro _ _ _)
  | ((with_reducible refine' Z.wCatL ?zf ?zm ?z1 ?z2 ?_); (case zf => walk_at "zF"); (case zm => walk_at "zm"); (case z1 => walk_at "zm"); (case z2 => walk_at "zo"); with_reducible intro _ _ _))
local macro_rules | `(tactic| walk_at "zx") => `(tactic| ((with_reducible refine Z.wIpI ?_); try simp only [List.set_cons_zero, List.set_cons_succ]))
local macro_rules | `(tactic| walk_at "zt") => `(tactic| with_reducible first | refine Z.wMkO ?_ | refine Z.wCallD ?_ | refine Z.wSpC ?_ | refine Z.wSpN ?_ | refine Z.wSpC1 ?_ | refine Z.wSpN1 ?_ | refine Z.wSpC2 ?_ | refine Z.wSpN2 ?_)
local macro_rules | `(tactic| walk_at "zv") => `(tactic| with_reducible first | refine Z.wV15 ?_ | refine Z.wV16 ?_ | refine Z.wV17 ?_ | refine Z.wV18 ?_ | refine Z.wV19 ?_ | refine Z.wV20 ?_ | refine Z.wV21 ?_ | refine Z.wV22 ?_ | refine Z.wV23 ?_ | refine Z.wV24 ?_ | refine Z.wV25 ?_ | refine Z.wV26 ?_)
local macro_rules | `(tactic| walk_at "zg") => `(tactic| with_reducible first | refine Z.wG15 ?_ | refine Z.wG16 ?_ | refine Z.wG17 ?_ | refine Z.wG18 ?_ | refine Z.wG19 ?_ | refine Z.wG20 ?_ | refine Z.wG21 ?_ | refine Z.wG22 ?_ | refine Z.wG23 ?_ | refine Z.wG24 ?_ | refine Z.wG25 ?_ | refine Z.wG26 ?_)
local macro_rules | `(tactic| walk_at "zt") => `(tactic| with_reducible first | refine Z.wRevS ?_ | refine Z.wTupRev ?_ | refine Z.wIRev ?_)
local macro_rules | `(tactic| walk_at "zx") => `(tactic| first
  | ((with_reducible refine' Z.wRevL ?zs ?zf ?_); (case zs => walk_at "zsL"); (case zf => walk_at "zF"); with_reducible intro _ _ _)
  | ((with_reducible refine' Z.wRevT ?zs ?zf ?_); (case zs => walk_at "zsT"); (case zf => walk_at "zF"); with_reducible intro _ _ _)
  | ((with_reducible refine' Z.wTupRevT ?zs ?zf ?_); (case zs => walk_at "zsT"); (case zf => walk_at "zF"); with_reducible intro _ _ _)
  | ((with_reducible refine' Z.wRevI ?zs ?_); (case zs => walk_at "zsL")))
local macro_rules | `(tactic| walk_at "zt") => `(tactic| with_reducible first | refine Z.wIRG ?_ | refine Z.wGoRG ?_)
local macro_rules | `(tactic| walk_at "zr") => `(tactic| ((walk_at "z"); (try ((first | ((refine' Z.wIfF ?zb ?_); (case zb => (simp; done))) | ((refine' Z.wIfT ?zb ?_); (case zb => (simp; done)))); (walk_at "z")))))
local macro_rules | `(tactic| walk_at "zt") => `(tactic| with_reducible first | refine Z.wDc ?_ | refine Z.wIRevR ?_)
local macro_rules | `(tactic| walk_at "zx") => `(tactic| first
  | ((with_reducible refine' Z.wInD ?zf ?zm ?_); (case zf => walk_at "zF"); (case zm => walk_at "zm"))
  | with_reducible refine Z.wMin3 ?_ | with_reducible refine Z.wEqBB ?_ | with_reducible refine Z.wNeBB ?_)
local macro_rules | `(tactic| walk_at "zt") => `(tactic| with_reducible first | refine Z.wCKw ?_)
local macro_rules | `(tactic| walk_at "zx") => `(tactic| first
  | ((with_reducible refine' Z.wDvm ?z1 ?z2 ?z3 ?zf ?_); (case z1 => omega); (case z2 => omega); (case z3 => omega); (case zf => walk_at "zF"); with_reducible intro _ _ _))
local macro_rules | `(tactic| walk_at "zx") => `(tactic| with_reducible refine Z.wIntB ?_)
local macro_rules | `(tactic| walk_at "zt") => `(tactic| with_reducible refine Z.wTryO ?_)
local macro_rules | `(tactic| walk_at "zt") => `(tactic| with_reducible first | refine Z.wPar ?_ | (refine Z.wPar2 ?_; simp only [List.set_cons_zero, List.set_cons_succ]))
def top (i : Nat) : Stmt := PySem.Challenge.pw_jointsapart_k27_whole_calendars_asked_an.main.body.getD i (.Pass ⟨0, 0, 0, 0⟩)

abbrev s__law_draw : Stmt := top 28
abbrev s_is_sequence : Stmt := top 7
abbrev s_is_whole : Stmt := top 6
abbrev s__are_numbers : Stmt := top 13
abbrev s_BadCalendar___init__ : Stmt := inClass (top 4) 0
abbrev s__check_parts : Stmt := top 12
abbrev s__law_yes : Stmt := top 32
abbrev s__law_bits : Stmt := top 31
abbrev s__law_world : Stmt := top 36
abbrev s__least_period : Stmt := top 14
abbrev s__least_before : Stmt := top 15
abbrev s_Calendar___init__ : Stmt := inClass (top 11) 0
abbrev s__law_whole : Stmt := top 30
abbrev s__law_row : Stmt := top 35
abbrev s__law_plain : Stmt := top 33
abbrev s__law_second : Stmt := top 38
abbrev s__law_one_rest : Stmt := top 37
abbrev s__law_listed : Stmt := top 34
abbrev s_Calendar___contains__ : Stmt := inClass (top 11) 1
abbrev s__law_made : Stmt := top 39
abbrev s_check_far : Stmt := top 9
abbrev s_first_served : Stmt := top 18
abbrev s__law_next : Stmt := top 40
abbrev s__law_count : Stmt := top 41
abbrev s_serves : Stmt := top 17
abbrev s__many_by_rests : Stmt := top 20
abbrev s_count_served : Stmt := top 19
abbrev s__law_asked : Stmt := top 42
abbrev s__calendar_of : Stmt := top 16
abbrev s__common_period : Stmt := top 23
abbrev s__law_multiple : Stmt := top 43
abbrev s__law_merged : Stmt := top 44
abbrev s_joined_calendars : Stmt := top 21
abbrev s_common_calendar : Stmt := top 22
abbrev s__law_put : Stmt := top 45
abbrev s_Calendar___eq__ : Stmt := inClass (top 11) 2
abbrev s__law_hand : Stmt := top 27
abbrev s__law_big : Stmt := top 29
abbrev s_first_difference : Stmt := top 25
abbrev s__law_difference : Stmt := top 46
abbrev s__law_refused : Stmt := top 47
abbrev s_opposite_calendar : Stmt := top 24
abbrev s_law : Stmt := top 48
structure Txt (K : PySem.W.Frag) (mg : Str → Option Value) (c_BadCalendar : Addr) (c_BadLength : Addr) (c_Calendar : Addr) : Prop where
  b_all : mg "all" = none
  b_bool : mg "bool" = none
  b_divmod : mg "divmod" = none
  b_int : mg "int" = none
  b_isinstance : mg "isinstance" = none
  b_len : mg "len" = none
  b_list : mg "list" = none
  b_max : mg "max" = none
  b_min : mg "min" = none
  b_range : mg "range" = none
  b_reversed : mg "reversed" = none
  b_sorted : mg "sorted" = none
  b_tuple : mg "tuple" = none
  b_zip : mg "zip" = none
  m_lcm : mg "lcm" = some (.builtin "math.lcm")
  g_BadCalendar : mg "BadCalendar" = some (.ref c_BadCalendar)
  g_BadLength : mg "BadLength" = some (.ref c_BadLength)
  g_Calendar : mg "Calendar" = some (.ref c_Calendar)
  x_BadCalendar : Z.ErrF K c_BadCalendar
  q_BadCalendar_BadLength : PySem.W.exmOne K (.ref c_BadCalendar) (.ref c_BadLength) = some false
  n_BadCalendar_what : PySem.W.findIn K (.ref c_BadCalendar) "what" = some none
  x_BadLength : Z.ErrF K c_BadLength
  y_BadLength : Z.ErrF0 K c_BadLength
  q_BadLength_BadCalendar : PySem.W.exmOne K (.ref c_BadLength) (.ref c_BadCalendar) = some false
  i_Calendar : Z.InsF K c_Calendar
  n_Calendar_before : NoAttr K c_Calendar "before"
  n_Calendar_lengths : NoAttr K c_Calendar "lengths"
  n_Calendar_period : NoAttr K c_Calendar "period"
  n_Calendar_rests : NoAttr K c_Calendar "rests"
  n_Calendar__early : NoAttr K c_Calendar "_early"
  n_Calendar__late : NoAttr K c_Calendar "_late"
  d__law_draw : ∃ f fd, Fun K "_law_draw" "_law_draw" s__law_draw f fd ∧ mg "_law_draw" = some (.ref f)
  d_is_sequence : ∃ f fd, Fun K "is_sequence" "is_sequence" s_is_sequence f fd ∧ mg "is_sequence" = some (.ref f)
  d_is_whole : ∃ f fd, FunD K "is_whole" "is_whole" (defArgs s_is_whole) (defBody s_is_whole) (defScope s_is_whole) [.non, .non] [] f fd ∧ mg "is_whole" = some (.ref f)
  d__are_numbers : ∃ f fd, Fun K "_are_numbers" "_are_numbers" s__are_numbers f fd ∧ mg "_are_numbers" = some (.ref f)
  d_BadCalendar___init__ : ∃ f fd, Fun K "__init__" "BadCalendar.__init__" s_BadCalendar___init__ f fd ∧ Z.ErrI K c_BadCalendar f
  d__check_parts : ∃ f fd, Fun K "_check_parts" "_check_parts" s__check_parts f fd ∧ mg "_check_parts" = some (.ref f)
  d__law_yes : ∃ f fd, Fun K "_law_yes" "_law_yes" s__law_yes f fd ∧ mg "_law_yes" = some (.ref f)
  d__law_bits : ∃ f fd, Fun K "_law_bits" "_law_bits" s__law_bits f fd ∧ mg "_law_bits" = some (.ref f)
  d__law_world : ∃ f fd, Fun K "_law_world" "_law_world" s__law_world f fd ∧ mg "_law_world" = some (.ref f)
  d__least_period : ∃ f fd, Fun K "_least_period" "_least_period" s__least_period f fd ∧ mg "_least_period" = some (.ref f)
  d__least_before : ∃ f fd, Fun K "_least_before" "_least_before" s__least_before f fd ∧ mg "_least_before" = some (.ref f)
  d_Calendar___init__ : ∃ f fd, Fun K "__init__" "Calendar.__init__" s_Calendar___init__ f fd ∧ Mk K c_Calendar f
  d__law_whole : ∃ f fd, Fun K "_law_whole" "_law_whole" s__law_whole f fd ∧ mg "_law_whole" = some (.ref f)
  d__law_row : ∃ f fd, Fun K "_law_row" "_law_row" s__law_row f fd ∧ mg "_law_row" = some (.ref f)
  d__law_plain : ∃ f fd, Fun K "_law_plain" "_law_plain" s__law_plain f fd ∧ mg "_law_plain" = some (.ref f)
  d__law_second : ∃ f fd, Fun K "_law_second" "_law_second" s__law_second f fd ∧ mg "_law_second" = some (.ref f)
  d__law_one_rest : ∃ f fd, Fun K "_law_one_rest" "_law_one_rest" s__law_one_rest f fd ∧ mg "_law_one_rest" = some (.ref f)
  d__law_listed : ∃ f fd, Fun K "_law_listed" "_law_listed" s__law_listed f fd ∧ mg "_law_listed" = some (.ref f)
  d_Calendar___contains__ : ∃ f fd, Fun K "__contains__" "Calendar.__contains__" s_Calendar___contains__ f fd ∧ Z.OwnInF K c_Calendar f
  d__law_made : ∃ f fd, Fun K "_law_made" "_law_made" s__law_made f fd ∧ mg "_law_made" = some (.ref f)
  d_check_far : ∃ f fd, Fun K "check_far" "check_far" s_check_far f fd ∧ mg "check_far" = some (.ref f)
  d_first_served : ∃ f fd, Fun K "first_served" "first_served" s_first_served f fd ∧ mg "first_served" = some (.ref f)
  d__law_next : ∃ f fd, Fun K "_law_next" "_law_next" s__law_next f fd ∧ mg "_law_next" = some (.ref f)
  d__law_count : ∃ f fd, Fun K "_law_count" "_law_count" s__law_count f fd ∧ mg "_law_count" = some (.ref f)
  d_serves : ∃ f fd, Fun K "serves" "serves" s_serves f fd ∧ mg "serves" = some (.ref f)
  d__many_by_rests : ∃ f fd, Fun K "_many_by_rests" "_many_by_rests" s__many_by_rests f fd ∧ mg "_many_by_rests" = some (.ref f)
  d_count_served : ∃ f fd, Fun K "count_served" "count_served" s_count_served f fd ∧ mg "count_served" = some (.ref f)
  d__law_asked : ∃ f fd, Fun K "_law_asked" "_law_asked" s__law_asked f fd ∧ mg "_law_asked" = some (.ref f)
  d__calendar_of : ∃ f fd, Fun K "_calendar_of" "_calendar_of" s__calendar_of f fd ∧ mg "_calendar_of" = some (.ref f)
  d__common_period : ∃ f fd, Fun K "_common_period" "_common_period" s__common_period f fd ∧ mg "_common_period" = some (.ref f)
  d__law_multiple : ∃ f fd, Fun K "_law_multiple" "_law_multiple" s__law_multiple f fd ∧ mg "_law_multiple" = some (.ref f)
  d__law_merged : ∃ f fd, Fun K "_law_merged" "_law_merged" s__law_merged f fd ∧ mg "_law_merged" = some (.ref f)
  d_joined_calendars : ∃ f fd, Fun K "joined_calendars" "joined_calendars" s_joined_calendars f fd ∧ mg "joined_calendars" = some (.ref f)
  d_common_calendar : ∃ f fd, Fun K "common_calendar" "common_calendar" s_common_calendar f fd ∧ mg "common_calendar" = some (.ref f)
  d__law_put : ∃ f fd, Fun K "_law_put" "_law_put" s__law_put f fd ∧ mg "_law_put" = some (.ref f)
  d_Calendar___eq__ : ∃ f fd, Fun K "__eq__" "Calendar.__eq__" s_Calendar___eq__ f fd ∧ Z.OwnEqF K c_Calendar f
  d__law_hand : ∃ f fd, Fun K "_law_hand" "_law_hand" s__law_hand f fd ∧ mg "_law_hand" = some (.ref f)
  d__law_big : ∃ f fd, Fun K "_law_big" "_law_big" s__law_big f fd ∧ mg "_law_big" = some (.ref f)
  d_first_difference : ∃ f fd, Fun K "first_difference" "first_difference" s_first_difference f fd ∧ mg "first_difference" = some (.ref f)
  d__law_difference : ∃ f fd, Fun K "_law_difference" "_law_difference" s__law_difference f fd ∧ mg "_law_difference" = some (.ref f)
  d__law_refused : ∃ f fd, Fun K "_law_refused" "_law_refused" s__law_refused f fd ∧ mg "_law_refused" = some (.ref f)
  d_opposite_calendar : ∃ f fd, Fun K "opposite_calendar" "opposite_calendar" s_opposite_calendar f fd ∧ mg "opposite_calendar" = some (.ref f)
  d_law : ∃ f fd, Fun K "law" "law" s_law f fd ∧ mg "law" = some (.ref f)
section
variable {P : Program} {w : World} {K : PySem.W.Frag} {mg : Str → Option Value} {base : Heap} {c_BadCalendar c_BadLength c_Calendar : Addr}
theorem sc__law_draw : FnScope ["_law_hand_here", "_law_many", "_law_rest", "_law_cell", "_law_once", "_law_twice"] ["_law_hand_here", "_law_many"] (defScope s__law_draw) := ⟨rfl, rfl, rfl, by decide +kernel, rfl, by decide +kernel, by decide +kernel⟩
/-- a draw below m -/
def sp__law_draw : Sp := Z.Sp2 fun a b H Q E => ∃ (L : List Z.En) (l c : Addr) (m : Int), a = .ref l ∧ b = .int m ∧ Z.Fx H L ∧ Z.En.hand5 l c ∈ L ∧ 0 < m ∧ m.natAbs.log2 < 9000 ∧ ∀ (v : Int) H', Z.Fx H' L → 0 ≤ v → v < m → Q (.int v) H'
theorem fn__law_draw (T : Txt K mg c_BadCalendar c_BadLength c_Calendar) {f : Addr} {fd : FuncData} (F : Fun K "_law_draw" "_law_draw" s__law_draw f fd) : FnOk P w K mg base CX0 1 f fd ["_law_hand_here", "_law_many"] sp__law_draw := by
  refine F.ok sc__law_draw (fun vs H Q E h => ?_) (fun cdv A outer s H vs Q E hr h => ?_)
  · obtain ⟨a, b, rfl, _⟩ := h; rfl
  · obtain ⟨a, b, rfl, h⟩ := h
    refine ⟨_, (pss_cons (ps_if (pt_cmpR Z.zGt (pe_ix ix_seq (pv 0) pe_int (fun _ _ => rfl)) pe_int (nomark _))
        (pss_cons (ps_set (i := 2) sc__law_draw.nd rfl (by first | exact Or.inl rfl | exact Or.inr rfl) (pe_ix ix_seq (pv 0) pe_int (fun _ _ => rfl)))
        (pss_cons (ps_asg (pe_op Z.zDiv (pv 2) (pv 1)) (pg_sub (pv 0) pe_int set_list))
        (pss_one (ps_ret (pe_op Z.zMod (pe_callTy Z.zInt (by rfl) T.b_int (by decide +kernel) (pa_cons (pv 2) pa_nil)) (pv 1))))))
        pss_nil)
      (pss_cons (ps_if (pt_cmpR Z.zLt (pe_ix ix_seq (pv 0) pe_int (fun _ _ => rfl)) (pe_callB Z.zLen (by rfl) T.b_len (by decide +kernel) (pa_cons (pe_ix ix_seq (pv 0) pe_int (fun _ _ => rfl)) pa_nil)) (nomark _))
        (pss_cons (ps_set (i := 3) sc__law_draw.nd rfl (by first | exact Or.inl rfl | exact Or.inr rfl) (pe_ix ix_seq (pe_ix ix_seq (pv 0) pe_int (fun _ _ => rfl)) (pe_ix ix_seq (pv 0) pe_int (fun _ _ => rfl)) (fun _ _ => rfl)))
        (pss_cons (ps_asg (pe_op Z.zAdd (pe_ix ix_seq (pv 0) pe_int (fun _ _ => rfl)) pe_int) (pg_sub (pv 0) pe_int set_list))
        (pss_cons (ps_if (pt_cmpR Z.zGe (pv 3) (pe_op Z.zPow pe_int pe_int) (nomark _))
          (pss_cons (ps_asg (pe_op Z.zDiv (pv 3) (pv 1)) (pg_sub (pv 0) pe_int set_list))
          (pss_one (ps_ret (pe_op Z.zMod (pe_callTy Z.zInt (by rfl) T.b_int (by decide +kernel) (pa_cons (pv 3) pa_nil)) (pv 1)))))
          pss_nil)
        (pss_one (ps_asg (pe_op Z.zMod (pe_callTy Z.zInt (by rfl) T.b_int (by decide +kernel) (pa_cons (pe_op Z.zAdd (pe_op Z.zAdd (pe_op Z.zMul (pe_ix ix_seq (pv 0) pe_int (fun _ _ => rfl)) pe_int) (pe_op Z.zMul (pe_callTy Z.zInt (by rfl) T.b_int (by decide +kernel) (pa_cons (pv 3) pa_nil)) pe_int)) pe_int) pa_nil)) pe_int) (pg_sub (pv 0) pe_int set_list))))))
        pss_nil)
      (pss_cons (ps_asg (pe_op Z.zAdd (pe_ix ix_seq (pv 0) pe_int (fun _ _ => rfl)) pe_int) (pg_sub (pv 0) pe_int set_list))
      (pss_cons (ps_set (i := 4) sc__law_draw.nd rfl (by first | exact Or.inl rfl | exact Or.inr rfl) (pe_op Z.zMod (pe_callTy Z.zInt (by rfl) T.b_int (by decide +kernel) (pa_cons (pe_op Z.zMul (pe_op Z.zAdd (pe_ix ix_seq (pv 0) pe_int (fun _ _ => rfl)) (pe_op Z.zMul (pe_ix ix_seq (pv 0) pe_int (fun _ _ => rfl)) pe_int)) pe_int) pa_nil)) pe_int))
      (pss_cons (ps_set (i := 5) sc__law_draw.nd rfl (by first | exact Or.inl rfl | exact Or.inr rfl) (pe_op Z.zMod (pe_callTy Z.zInt (by rfl) T.b_int (by decide +kernel) (pa_cons (pe_op Z.zAdd (pe_op Z.zAdd (pe_op Z.zMul (pv 4) (pv 4)) (pe_op Z.zMul (pe_ix ix_seq (pv 0) pe_int (fun _ _ => rfl)) pe_int)) (pe_ix ix_seq (pv 0) pe_int (fun _ _ => rfl))) pa_nil)) pe_int))
      (pss_one (ps_ret (pe_op Z.zMod (pe_op Z.zDiv (pe_op Z.zMod (pe_callTy Z.zInt (by rfl) T.b_int (by decide +kernel) (pa_cons (pe_op Z.zAdd (pe_op Z.zMul (pv 5) pe_int) (pv 4)) pa_nil)) pe_int) pe_int) (pv 1))))))))), ?_⟩
    try dsimp only [cxOf, Cx.nox, Cx.wish]
    refine Z.at_start (σ' := [some a, some b, none, none, none, none]) rfl ?_
    obtain ⟨L, l, c, m, rfl, rfl, F, hm, h0, h9, k⟩ := h
    obtain ⟨ns, i, j, t, u, L1, hi, G, back⟩ := F.open5 hm
    clear F hm
    walk_at "zz"
    all_goals (refine' k _ _ (back _ _ _ _ _ _ ?hiz ?fxz) (Int.emod_nonneg _ (by omega)) (Int.emod_lt_of_pos _ h0); (case fxz => assumption); (case hiz => omega))
theorem ok__law_draw (T : Txt K mg c_BadCalendar c_BadLength c_Calendar) : Z.Ok CX0 P w K mg base "_law_draw" 1 ["_law_hand_here", "_law_many"] [] sp__law_draw := by
  obtain ⟨f, fd, F, g⟩ := T.d__law_draw
  exact Z.mkOk F g (F.binds (ps := ["_law_hand_here", "_law_many"]) fun _ _ _ _ _ _ us hl => match us, hl with | [_, _], _ => rfl) (fn__law_draw T F)
theorem use__law_draw {H : Hp} {Q : VK} {E : XK} {L : List Z.En} {l c : Addr} {m : Int} (F : Z.Fx H L) (hm : Z.En.hand5 l c ∈ L) (h0 : 0 < m) (h9 : m.natAbs.log2 < 9000) (k : ∀ (v : Int) H', Z.Fx H' L → 0 ≤ v → v < m → Q (.int v) H') : sp__law_draw [.ref l, .int m] H Q E :=
  ⟨_, _, rfl, L, l, c, m, rfl, rfl, F, hm, h0, h9, k⟩
local macro_rules | `(tactic| walk_at "zc") => `(tactic| ((with_reducible refine' use__law_draw ?zf ?zm ?z0 ?z9 ?_); (case zf => walk_at "zF"); (case zm => walk_at "zm"); (case z0 => first | walk_at "zo" | decide); (case z9 => walk_at "zlog"); with_reducible intro _ _ _ _ _))
theorem sc_is_sequence : FnScope ["thing", "low", "high"] ["thing", "low", "high"] (defScope s_is_sequence) := ⟨rfl, rfl, rfl, by decide +kernel, rfl, by decide +kernel, by decide +kernel⟩
/-- the length within bounds, of a list or a tuple -/
def sp_is_sequence (K : PySem.W.Frag) : Sp := Z.Sp3 fun a b c H Q E => ∃ (L : List Z.En) (o : Option (List V)) (lo hi : Int), Z.Fx H L ∧ Z.SeqIs L a o ∧ b = .int lo ∧ c = .int hi ∧ ∀ H', Z.Fx H' L → Q (.bl (Z.inLen lo hi o)) H'
theorem fn_is_sequence (T : Txt K mg c_BadCalendar c_BadLength c_Calendar) {f : Addr} {fd : FuncData} (F : Fun K "is_sequence" "is_sequence" s_is_sequence f fd) : FnOk P w K mg base CX0 1 f fd ["thing", "low", "high"] (sp_is_sequence K) := by
  refine F.ok sc_is_sequence (fun vs H Q E h => ?_) (fun cdv A outer s H vs Q E hr h => ?_)
  · obtain ⟨a, b, c, rfl, _⟩ := h; rfl
  · obtain ⟨a, b, c, rfl, h⟩ := h
    refine ⟨_, (pss_one (ps_ret (pe_andT (pe_callB Z.zIsi (by rfl) T.b_isinstance (by decide +kernel) (pa_cons (pv 0) (pa_cons (pe_tup (pa_cons (pe_bltn (by rfl) T.b_list (by decide +kernel) (show RelV (.ty "list") _ from rfl)) (pa_cons (pe_bltn (by rfl) T.b_tuple (by decide +kernel) (show RelV (.ty "tuple") _ from rfl)) pa_nil))) pa_nil))) (pe_one (pe_chain Z.zLe Z.zLe (pv 1) (pe_callB Z.zLen (by rfl) T.b_len (by decide +kernel) (pa_cons (pv 0) pa_nil)) (pv 2)))))), ?_⟩
    try dsimp only [cxOf, Cx.nox, Cx.wish]
    refine Z.at_start (σ' := [some a, some b, some c]) rfl ?_
    obtain ⟨L, o, lo, hi, F, hs, rfl, rfl, k⟩ := h
    walk_at "z"
    rename_i p H1 F1
    have F2 := F1.sub (L' := L) (by walk_at "zsub")
    cases hs with
    | lst m =>
      refine Z.wIsiLT (Z.HasK.lst (F2.lst m)) F1 (by walk_at "zm") ?_
      walk_at "zz"
      all_goals (have e := k _ F2; simpa [Z.inLen, *] using e)
    | tup m =>
      refine Z.wIsiLT (Z.HasK.tup (F2.tup m)) F1 (by walk_at "zm") ?_
      walk_at "zz"
      all_goals (have e := k _ F2; simpa [Z.inLen, *] using e)
    | non => exact Z.wIsiLT .non F1 (by walk_at "zm") (by walk_at "z"; exact k _ F2)
    | bl b => exact Z.wIsiLT (.bl b) F1 (by walk_at "zm") (by walk_at "z"; exact k _ F2)
    | int i => exact Z.wIsiLT (.int i) F1 (by walk_at "zm") (by walk_at "z"; exact k _ F2)
    | str z => exact Z.wIsiLT (.str z) F1 (by walk_at "zm") (by walk_at "z"; exact k _ F2)
    | dct m => exact Z.wIsiLT (.dct (F2.get m)) F1 (by walk_at "zm") (by walk_at "z"; exact k _ F2)
theorem ok_is_sequence (T : Txt K mg c_BadCalendar c_BadLength c_Calendar) : Z.Ok CX0 P w K mg base "is_sequence" 1 ["thing", "low", "high"] [] (sp_is_sequence K) := by
  obtain ⟨f, fd, F, g⟩ := T.d_is_sequence
  exact Z.mkOk F g (F.binds (ps := ["thing", "low", "high"]) fun _ _ _ _ _ _ us hl => match us, hl with | [_, _, _], _ => rfl) (fn_is_sequence T F)
theorem use_is_sequence {H : Hp} {Q : VK} {E : XK} {L : List Z.En} {a : V} {o : Option (List V)} {lo hi : Int} (F : Z.Fx H L) (s : Z.SeqIs L a o) (k : ∀ H', Z.Fx H' L → Q (.bl (Z.inLen lo hi o)) H') : sp_is_sequence K [a, .int lo, .int hi] H Q E :=
  ⟨_, _, _, rfl, L, o, lo, hi, F, s, rfl, rfl, k⟩
local macro_rules | `(tactic| walk_at "zc") => `(tactic| ((with_reducible refine' use_is_sequence ?zf ?zs ?_); (case zf => walk_at "zF"); (case zs => walk_at "zis"); with_reducible intro _ _))
theorem sc_is_whole : FnScope ["thing", "low", "high"] ["thing", "low", "high"] (defScope s_is_whole) := ⟨rfl, rfl, rfl, by decide +kernel, rfl, by decide +kernel, by decide +kernel⟩
/-- what a bound may be -/
def isBd (v : V) : Prop := v = .non ∨ ∃ i, v = .int i
def sp_is_whole (K : PySem.W.Frag) : Sp := Z.Sp3 fun a b c H Q E => ∃ k, Z.HasK K H a k ∧ isBd b ∧ isBd c ∧ Q (.bl (Z.inB a b c)) H
theorem fn_is_whole (T : Txt K mg c_BadCalendar c_BadLength c_Calendar) {f : Addr} {fd : FuncData} (F : FunD K "is_whole" "is_whole" (defArgs s_is_whole) (defBody s_is_whole) (defScope s_is_whole) [.non, .non] [] f fd) : FnOk P w K mg base CX0 1 f fd ["thing", "low", "high"] (sp_is_whole K) := by
  refine F.ok (CX := CX0) sc_is_whole (fun vs H Q E h => ?_) (fun cdv A outer s H vs Q E hr h => ?_)
  · obtain ⟨a, b, c, rfl, _⟩ := h; rfl
  · obtain ⟨a, b, c, rfl, h⟩ := h
    refine ⟨_, (pss_cons (ps_if (PW.pt (pw_or (pt_not (Z.pt_truN (pe_callB Z.zIsi (by rfl) T.b_isinstance (by decide +kernel) (pa_cons (pv 0) (pa_cons (pe_bltn (by rfl) T.b_int (by decide +kernel) (show RelV (.ty "int") _ from rfl)) pa_nil))))) (pw_or1 (Z.pt_truN (pe_callB Z.zIsi (by rfl) T.b_isinstance (by decide +kernel) (pa_cons (pv 0) (pa_cons (pe_bltn (by rfl) T.b_bool (by decide +kernel) (show RelV (.ty "bool") _ from rfl)) pa_nil)))))))
        (pss_one (ps_ret pe_bl))
        pss_nil)
      (pss_one (ps_ret (pe_andT (pe_orT (pe_cmpR Z.zIs (pv 1) pe_non (nomark _)) (pe_one (pe_cmpR Z.zGe (pv 0) (pv 1) (nomark _)))) (pe_one (pe_orT (pe_cmpR Z.zIs (pv 2) pe_non (nomark _)) (pe_one (pe_cmpR Z.zLe (pv 0) (pv 2) (nomark _))))))))), ?_⟩
    try dsimp only [cxOf, Cx.nox, Cx.wish]
    refine Z.at_start (σ' := [some a, some b, some c]) rfl ?_
    obtain ⟨k, hk, hb, hc, q⟩ := h
    walk_at "z"
    refine Z.wIsiInt hk ?_
    cases hk with
    | int i =>
      walk_at "z"
      refine Z.wIsiBool (.int i) ?_
      rcases hb with rfl | ⟨lo, rfl⟩ <;> rcases hc with rfl | ⟨hi, rfl⟩ <;> walk_at "zz"
      all_goals simpa [Z.inB, *] using q
    | bl b =>
      walk_at "z"
      refine Z.wIsiBool (.bl b) ?_
      walk_at "z"
      exact q
    | _ =>
      walk_at "z"
      exact q
theorem ok_is_whole_1 (T : Txt K mg c_BadCalendar c_BadLength c_Calendar) : Z.Ok CX0 P w K mg base "is_whole" 1 ["thing", "low", "high"] [.non, .non] (sp_is_whole K) := by
  obtain ⟨f, fd, F, g⟩ := T.d_is_whole
  obtain ⟨ds, v, b⟩ := F.binds1 (ps := ["thing", "low", "high"]) 1 0 (by decide) rfl fun T kV doc pm an cdv ct us its h1 h2 => match us, h1, its, h2 with | [_], _, [_, _], _ => ⟨_, rfl, rfl⟩
  exact ⟨f, fd, ds, g, F.kp, b, v, fn_is_whole T F⟩
theorem ok_is_whole_2 (T : Txt K mg c_BadCalendar c_BadLength c_Calendar) : Z.Ok CX0 P w K mg base "is_whole" 1 ["thing", "low", "high"] [.non] (sp_is_whole K) := by
  obtain ⟨f, fd, F, g⟩ := T.d_is_whole
  obtain ⟨ds, v, b⟩ := F.binds1 (ps := ["thing", "low", "high"]) 2 1 (by decide) rfl fun T kV doc pm an cdv ct us its h1 h2 => match us, h1, its, h2 with | [_, _], _, [_, _], _ => ⟨_, rfl, rfl⟩
  exact ⟨f, fd, ds, g, F.kp, b, v, fn_is_whole T F⟩
theorem ok_is_whole_3 (T : Txt K mg c_BadCalendar c_BadLength c_Calendar) : Z.Ok CX0 P w K mg base "is_whole" 1 ["thing", "low", "high"] [] (sp_is_whole K) := by
  obtain ⟨f, fd, F, g⟩ := T.d_is_whole
  obtain ⟨ds, v, b⟩ := F.binds1 (ps := ["thing", "low", "high"]) 3 2 (by decide) rfl fun T kV doc pm an cdv ct us its h1 h2 => match us, h1, its, h2 with | [_, _, _], _, [_, _], _ => ⟨_, rfl, rfl⟩
  exact ⟨f, fd, ds, g, F.kp, b, v, fn_is_whole T F⟩
theorem use_is_whole {H : Hp} {Q : VK} {E : XK} {a b c : V} {k : Z.Kd} (hk : Z.HasK K H a k) (hb : isBd b) (hc : isBd c) (q : Q (.bl (Z.inB a b c)) H) : sp_is_whole K [a, b, c] H Q E := ⟨_, _, _, rfl, k, hk, hb, hc, q⟩
local macro_rules | `(tactic| walk_at "zc") => `(tactic| ((with_reducible refine' use_is_whole ?zk ?zb ?zc ?_); (case zk => walk_at "zk"); (case zb => first | exact Or.inl rfl | exact Or.inr ⟨_, rfl⟩); (case zc => first | exact Or.inl rfl | exact Or.inr ⟨_, rfl⟩)))
theorem sc__are_numbers : FnScope ["things", "many", "lesser", "greater", "thing"] ["things", "many"] (defScope s__are_numbers) := ⟨rfl, rfl, rfl, by decide +kernel, rfl, by decide +kernel, by decide +kernel⟩
/-- whole numbers from 0 to n - 1, ascending, at most n of them -/
def goodN (n : Int) : Option (List V) → Bool
  | none => false
  | some xs => Z.inLen 0 n (some xs) && xs.all (fun x => Z.inB x (.int 0) (.int (n - 1))) && Z.asc (xs.map intV)
def sp__are_numbers (K : PySem.W.Frag) : Sp := Z.Sp2 fun a b H Q E => ∃ (L : List Z.En) (o : Option (List V)) (n : Int), b = .int n ∧ 0 ≤ n ∧ n ≤ 20000 ∧ Z.Fx H L ∧ Z.SeqIs L a o ∧ (∀ xs, o = some xs → ∀ x ∈ xs, ∃ k, Z.Thing L x k) ∧ ∀ H', Z.Fx H' L → Q (.bl (goodN n o)) H'
theorem fn__are_numbers (T : Txt K mg c_BadCalendar c_BadLength c_Calendar) {f : Addr} {fd : FuncData} (F : Fun K "_are_numbers" "_are_numbers" s__are_numbers f fd) : FnOk P w K mg base CX0 2 f fd ["things", "many"] (sp__are_numbers K) := by
  have O_is_sequence := ok_is_sequence (P := P) (w := w) (base := base) T
  have O_is_whole_1 := ok_is_whole_1 (P := P) (w := w) (base := base) T
  have O_is_whole_2 := ok_is_whole_2 (P := P) (w := w) (base := base) T
  have O_is_whole_3 := ok_is_whole_3 (P := P) (w := w) (base := base) T
  refine F.ok sc__are_numbers (fun vs H Q E h => ?_) (fun cdv A outer s H vs Q E hr h => ?_)
  · obtain ⟨a, b, rfl, _⟩ := h; rfl
  · obtain ⟨a, b, rfl, h⟩ := h
    refine ⟨_, (pss_cons (ps_if (PW.pt (pw_or (pt_not (Z.pt_truN (Z.pe_callO O_is_sequence (by rfl) (hr.mono (by decide)) pass0 (pa_cons (pv 0) (pa_cons pe_int (pa_cons (pv 1) pa_nil)))))) (pw_or1 (pt_not (Z.pt_truN (pe_callB (cr_all rfl) (by rfl) T.b_all (by decide +kernel) (pa_cons (by exact (pe_lc (own := [("thing", 4)]) (g := (gName 4)) (by rfl) sc__are_numbers.nd (Z.pi_seq (pv 0)) (blkOk_by (own := [("thing", 4)]) (N := ["things", "many", "lesser", "greater", "thing"]) (sc := defScope s__are_numbers) (by decide +kernel)) (fun _ _ _ _ _ => (by exact (pg_name (i := 4) sc__are_numbers.nd rfl (by first | exact Or.inl rfl | exact Or.inr rfl)))) (fun _ _ _ _ _ => (by exact pts_nil)) (fun _ _ _ _ _ => (by exact (Z.pe_callO O_is_whole_3 (by rfl) (hr.mono (by decide)) pass0 (pa_cons (pv 4) (pa_cons pe_int (pa_cons (pe_op op_sub (pv 1) pe_int) pa_nil)))))))) pa_nil)))))))
        (pss_one (ps_ret pe_bl))
        pss_nil)
      (pss_one (ps_ret (pe_callB (cr_all rfl) (by rfl) T.b_all (by decide +kernel) (pa_cons (by exact (pe_lc (own := [("lesser", 2), ("greater", 3)]) (g := (gTup K 2 (gCons (gName 2) (gCons (gName 3) gNil)))) (by rfl) sc__are_numbers.nd (pi_zipA (by rfl) T.b_zip (pa_cons (pv 0) (pa_cons (pe_slice Z.zSlA (pv 0) (po_some pe_int) po_none) pa_nil))) (blkOk_by (own := [("lesser", 2), ("greater", 3)]) (N := ["things", "many", "lesser", "greater", "thing"]) (sc := defScope s__are_numbers) (by decide +kernel)) (fun _ _ _ _ _ => (by exact (pg_tup (by rfl) (pgs_cons (pg_name (i := 2) sc__are_numbers.nd rfl (by first | exact Or.inl rfl | exact Or.inr rfl)) (pgs_cons (pg_name (i := 3) sc__are_numbers.nd rfl (by first | exact Or.inl rfl | exact Or.inr rfl)) pgs_nil))))) (fun _ _ _ _ _ => (by exact pts_nil)) (fun _ _ _ _ _ => (by exact (pe_cmpR Z.zLt (pv 2) (pv 3) (nomark _)))))) pa_nil))))), ?_⟩
    try dsimp only [cxOf, Cx.nox, Cx.wish]
    refine Z.at_start (σ' := [some a, some b, none, none, none]) rfl ?_
    obtain ⟨L, o, n, rfl, n1, n4, F, hs, ht, k⟩ := h
    cases o with
    | none =>
      walk_at "z"
      rename_i H1 F1
      exact k _ F1
    | some xs =>
      have ht := ht xs rfl
      walk_at "z"
      rename_i H1 F1
      refine Z.wIf (fun hl => ?_) (fun hl => ?_)
      · walk_at "z"
        have e := k _ F1
        have hl' : Z.inLen 0 n (some xs) = false := by simpa using hl
        simpa [goodN, hl'] using e
      have hl' : Z.inLen 0 n (some xs) = true := by simpa using hl
      walk_at "z"
      refine Z.wLcS hs F1 (fun i acc L' => L' = L ∧ acc = (xs.take i).map fun x => V.bl (Z.inB x (.int 0) (.int (n - 1)))) ⟨rfl, rfl⟩ (fun i acc L' r e he => r.1 ▸ he) ?_ ?_
      · rintro i x D H2 acc L' hx ⟨rfl, rfl⟩ F2
        obtain ⟨kd, tx⟩ := ht x (List.mem_of_getElem? hx)
        have hkx := (tx.cons (e := .ob D (.lst ((xs.take i).map fun x => V.bl (Z.inB x (.int 0) (.int (n - 1))))))).has (K := K) F2
        walk_at "zw"
        walk_at "z"
        refine ⟨rfl, ?_⟩
        walk_at "z"
        refine Z.lcPut F2 (by rw [List.length_map, List.length_take]; have := Z.line_big; have e : decide ((xs.length : Int) ≤ n) = true := by simp only [Z.inLen, Bool.and_eq_true] at hl'; exact hl'.2
                              have e := of_decide_eq_true e; omega) ⟨rfl, (Z.take_succ_map hx).symm⟩
      rintro D acc L' H2 F2 ⟨rfl, rfl⟩
      rw [List.take_length] at F2
      have e0 : (xs.map fun x => V.bl (Z.inB x (.int 0) (.int (n - 1)))) = (xs.map fun x => Z.inB x (.int 0) (.int (n - 1))).map V.bl := by rw [List.map_map]; rfl
      rw [e0] at F2
      walk_at "z"
      refine Z.wAll (F2.lst List.mem_cons_self) ?_
      walk_at "z"
      have ea : (xs.map fun x => Z.inB x (.int 0) (.int (n - 1))).all id = xs.all fun x => Z.inB x (.int 0) (.int (n - 1)) := by rw [List.all_map]; rfl
      rw [ea]
      refine Z.wIf (fun hb => ?_) (fun hb => ?_)
      · walk_at "z"
        have e := k _ (F2.sub (by walk_at "zsub"))
        have hb' : (xs.all fun x => Z.inB x (.int 0) (.int (n - 1))) = false := by simpa using hb
        simpa [goodN, hl', hb'] using e
      have hb' : (xs.all fun x => Z.inB x (.int 0) (.int (n - 1))) = true := by simpa using hb
      have F3 := F2.sub (L' := L') (by walk_at "zsub")
      clear F2
      obtain ⟨ns, rfl⟩ := Z.ints_of hb'
      walk_at "z"
      refine Z.wSlAS hs (.refl _) F3 fun p H3 N hq F4 => ?_
      rw [Z.cut_tail] at hq
      walk_at "z"
      refine Z.wLcZ hq F4 (fun i acc L2 => (∀ x ∈ N ++ L', x ∈ L2) ∧ (N ++ L').Sublist L2 ∧ acc = ((ns.zip ns.tail).take i).map fun p => V.bl (decide (p.1 < p.2))) ⟨fun _ h => h, .refl _, rfl⟩ (fun i acc L' r => r.1) ?_ ?_
      · rintro i x y T D H5 acc L2 hx hy ⟨hk, hsub, rfl⟩ F5
        obtain ⟨u, rfl, hu⟩ := Z.int_of_map' hx
        rw [← List.map_tail] at hy
        obtain ⟨v, rfl, hv⟩ := Z.int_of_map' hy
        walk_at "zw"
        walk_at "z"
        refine ⟨rfl, ?_⟩
        walk_at "z"
        have hz : (ns.zip ns.tail)[i]? = some (u, v) := by
          rw [List.getElem?_zip_eq_some]
          exact ⟨hu, hv⟩
        have F6 := F5.perm (List.Perm.swap _ _ _)
        have hlen : ns.length ≤ 20000 := by
          simp only [Z.inLen, Bool.and_eq_true, List.length_map] at hl'
          have e := of_decide_eq_true hl'.2
          omega
        refine Z.lcPut F6 (by rw [List.length_map, List.length_take, List.length_zip]; have := Z.line_big; omega) ⟨fun x hx => List.mem_cons_of_mem _ (hk x hx), hsub.cons _, (Z.take_succ_map hz).symm⟩
      · rintro D acc L2 H5 F5 ⟨hk, hsub, rfl⟩
        have en : min (ns.map V.int).length (ns.map V.int).tail.length = (ns.zip ns.tail).length := by rw [List.length_zip, List.length_tail, List.length_tail, List.length_map]
        rw [en, List.take_length] at F5
        have e1 : ((ns.zip ns.tail).map fun p => V.bl (decide (p.1 < p.2))) = ((ns.zip ns.tail).map fun p => decide (p.1 < p.2)).map V.bl := by rw [List.map_map]; rfl
        rw [e1] at F5
        walk_at "z"
        refine Z.wAll (F5.lst List.mem_cons_self) ?_
        have e2 : ((ns.zip ns.tail).map fun p => decide (p.1 < p.2)).all id = Z.asc ns := by rw [List.all_map, ← Z.asc_zip]; rfl
        rw [e2]
        have F6 := (F5.sub (L' := L2) (by walk_at "zsub")).sub hsub
        have e3 := k _ (F6.sub (L' := L') (List.sublist_append_right _ _))
        have e4 : goodN n (some (ns.map V.int)) = Z.asc ns := by
          show (Z.inLen 0 n (some (ns.map V.int)) && (ns.map V.int).all (fun x => Z.inB x (.int 0) (.int (n - 1))) && Z.asc ((ns.map V.int).map intV)) = _
          rw [hl', hb', intV_map]
          rfl
        rw [e4] at e3
        exact e3
theorem ok__are_numbers (T : Txt K mg c_BadCalendar c_BadLength c_Calendar) : Z.Ok CX0 P w K mg base "_are_numbers" 2 ["things", "many"] [] (sp__are_numbers K) := by
  obtain ⟨f, fd, F, g⟩ := T.d__are_numbers
  exact Z.mkOk F g (F.binds (ps := ["things", "many"]) fun _ _ _ _ _ _ us hl => match us, hl with | [_, _], _ => rfl) (fn__are_numbers T F)
theorem use__are_numbers {H : Hp} {Q : VK} {E : XK} {L : List Z.En} {a : V} {o : Option (List V)} {n : Int} (F : Z.Fx H L) (h1 : 0 ≤ n) (h4 : n ≤ 20000) (s : Z.SeqIs L a o) (ht : ∀ xs, o = some xs → ∀ x ∈ xs, ∃ k, Z.Thing L x k) (k : ∀ H', Z.Fx H' L → Q (.bl (goodN n o)) H') : sp__are_numbers K [a, .int n] H Q E := ⟨_, _, rfl, L, o, n, rfl, h1, h4, F, s, ht, k⟩
theorem sc_BadCalendar___init__ : FnScope ["self", "what"] ["self", "what"] (defScope s_BadCalendar___init__) := ⟨rfl, rfl, rfl, by decide +kernel, rfl, by decide +kernel, by decide +kernel⟩

theorem fn_BadCalendar___init__ (T : Txt K mg c_BadCalendar c_BadLength c_Calendar) {f : Addr} {fd : FuncData} (F : Fun K "__init__" "BadCalendar.__init__" s_BadCalendar___init__ f fd) : FnOk P w K mg base CX0 1 f fd ["self", "what"] (Z.spErr1 K "what") := by
  refine F.ok sc_BadCalendar___init__ (fun vs H Q E h => ?_) (fun cdv A outer s H vs Q E hr h => ?_)
  · obtain ⟨a, b, rfl, _⟩ := h; rfl
  · obtain ⟨a, b, rfl, h⟩ := h
    refine ⟨_, (pss_one (ps_ost (pv 0) (pv 1))), ?_⟩
    try dsimp only [cxOf, Cx.nox, Cx.wish]
    refine Z.at_start (σ' := [some a, some b]) rfl ?_
    exact Z.init1_run h
theorem ok_BadCalendar___init__ (T : Txt K mg c_BadCalendar c_BadLength c_Calendar) : Z.ErrO P w K mg base c_BadCalendar 1 ["self", "what"] (Z.spErr1 K "what") := by
  obtain ⟨f, fd, F, i⟩ := T.d_BadCalendar___init__
  exact ⟨f, fd, i, (F.binds (ps := ["self", "what"]) fun _ _ _ _ _ _ us hl => match us, hl with | [_, _], _ => rfl), fn_BadCalendar___init__ T F⟩
theorem sc__check_parts : FnScope ["before", "lengths", "period", "rests"] ["before", "lengths", "period", "rests"] (defScope s__check_parts) := ⟨rfl, rfl, rfl, by decide +kernel, rfl, by decide +kernel, by decide +kernel⟩
/-- the first word that is due of a calendar's parts -/
def calW (a : V) (ol : Option (List V)) (b : V) (om : Option (List V)) : Option Str := if Z.inB a (.int 0) (.int 20000) = false then some "before" else if goodN (intV a) ol = false then some "lengths" else if Z.inB b (.int 1) (.int 5000) = false then some "period" else if goodN (intV b) om = false then some "rests" else none
/-- ascending numbers below n -/
def Below (n : Int) (ls : List Int) : Prop := ls.Pairwise (· < ·) ∧ ∀ l ∈ ls, 0 ≤ l ∧ l < n
def CalOk (b p : Int) (ls rs : List Int) : Prop := 0 ≤ b ∧ b ≤ 20000 ∧ 1 ≤ p ∧ p ≤ 5000 ∧ Below b ls ∧ Below p rs
theorem inB_get {x : V} {lo hi : Int} (h : Z.inB x (.int lo) (.int hi) = true) : ∃ z, x = .int z ∧ lo ≤ z ∧ z ≤ hi := by
  cases x with
  | int z =>
    simp only [Z.inB, Bool.and_eq_true, decide_eq_true_eq] at h
    exact ⟨z, rfl, h.1, h.2⟩
  | _ => exact absurd h (by simp [Z.inB])
theorem goodN_get {n : Int} {o : Option (List V)} (h : goodN n o = true) : ∃ ls : List Int, o = some (ls.map V.int) ∧ Below n ls := by
  cases o with
  | none => exact absurd h (by simp [goodN])
  | some xs =>
    simp only [goodN, Bool.and_eq_true] at h
    obtain ⟨⟨h1, h2⟩, h3⟩ := h
    obtain ⟨ls, rfl⟩ := Z.ints_of h2
    rw [intV_map] at h3
    refine ⟨ls, rfl, Z.asc_pw.mp h3, fun l hl => ?_⟩
    have e := List.all_eq_true.mp h2 _ (List.mem_map_of_mem hl)
    simp only [Z.inB, Bool.and_eq_true, decide_eq_true_eq] at e
    omega
theorem Below.len {n : Int} {ls : List Int} (h : Below n ls) (h0 : 0 ≤ n) : (ls.length : Int) ≤ n := by
  have key : ∀ (ls : List Int) (lo : Int), ls.Pairwise (· < ·) → (∀ l ∈ ls, lo ≤ l ∧ l < n) → lo ≤ n → (ls.length : Int) ≤ n - lo := by
    intro ls
    induction ls with
    | nil => intro lo _ _ h; simp; omega
    | cons x r ih =>
      intro lo hp hb hn
      have hx := hb x List.mem_cons_self
      have hp' :=
            List.pairwise_cons.mp hp
      have := ih (x + 1) hp'.2 (fun l hl => ⟨by have := hp'.1 l hl; omega, (hb l (List.mem_cons_of_mem _ hl)).2⟩) (by omega)
      rw [List.length_cons]
      omega
  have := key ls 0 h.1 h.2 h0
  omega
theorem goodN_of {n : Int} {ls : List Int} (h : Below n ls) (h0 : 0 ≤ n) : goodN n (some (ls.map V.int)) = true := by
  have hl := h.len h0
  simp only [goodN, Bool.and_eq_true]
  refine ⟨⟨by simp only [Z.inLen, Bool.and_eq_true, decide_eq_true_eq, List.length_map]; omega, List.all_eq_true.mpr fun y hy => ?_⟩, by rw [intV_map]; exact Z.asc_pw.mpr h.1⟩
  obtain ⟨l, hm, rfl⟩ := List.mem_map.mp hy
  have := h.2 l hm
  simp only [Z.inB, Bool.and_eq_true, decide_eq_true_eq]
  omega
theorem calW_data {a b : V} {ol om : Option (List V)} (h : calW a ol b om = none) : ∃ bz pz ls rs, a = .int bz ∧ b = .int pz ∧ ol = some (ls.map V.int) ∧ om = some (rs.map V.int) ∧ CalOk bz pz ls rs := by
  unfold calW at h
  by_cases h1 : Z.inB a (.int 0) (.int 20000) = false
  · rw [if_pos h1] at h; cases h
  rw [if_neg h1] at h
  by_cases h2 : goodN (intV a) ol = false
  · rw [if_pos h2] at h; cases h
  rw [if_neg h2] at h
  by_cases h3 : Z.inB b (.int 1) (.int 5000) = false
  · rw [if_pos h3] at h; cases h
  rw [if_neg h3] at h
  by_cases h4 : goodN (intV b) om = false
  · rw [if_pos h4] at h; cases h
  obtain ⟨bz, rfl, b0, b1⟩ := inB_get (by simpa using h1)
  obtain ⟨pz, rfl, p0, p1⟩ := inB_get (by simpa using h3)
  obtain ⟨ls, rfl, e1⟩ := goodN_get (by simpa using h2)
  obtain ⟨rs, rfl, e2⟩ := goodN_get (by simpa using h4)
  exact ⟨bz, pz, ls, rs, rfl, rfl, rfl, rfl, b0, b1, p0, p1, e1, e2⟩
theorem calW_good {b p : Int} {ls rs : List Int} (h : CalOk b p ls rs) : calW (.int b) (some (ls.map V.int)) (.int p) (some (rs.map V.int)) = none := by
  obtain ⟨b0, b1, p0, p1, e1, e2⟩ := h
  unfold calW
  have i1 : Z.inB (.int b) (.int 0) (.int 20000) = true := by simp only [Z.inB, Bool.and_eq_true, decide_eq_true_eq]; omega
  have i2 : Z.inB (.int p) (.int 1) (.int 5000) = true := by simp only [Z.inB, Bool.and_eq_true, decide_eq_true_eq]; omega
  rw [if_neg (by rw [i1]; decide), if_neg (by rw [show intV (.int b) = b from rfl, goodN_of e1 b0]; decide), if_neg (by rw [i2]; decide), if_neg (by rw [show intV (.int p) = p from rfl, goodN_of e2 (by omega)]; decide)]
def sp__check_parts (K : PySem.W.Frag) (cB : Addr) : Sp := Z.Sp4 fun a b c d H Q E => ∃ (L : List Z.En) (ol om : Option (List V)) (k1 k2 : Z.Kd), Z.Fx H L ∧ Z.Thing L a k1 ∧ Z.Thing L c k2 ∧ Z.SeqIs L b ol ∧ (∀ xs, ol = some xs → ∀ x ∈ xs, ∃ k, Z.Thing L x k) ∧ Z.SeqIs L d om ∧ (∀ xs, om = some xs → ∀ x ∈ xs, ∃ k, Z.Thing L x k) ∧
  (∀ w, calW a ol c om = some w → ∀ e H', Z.Fx H' (.ob e (.xd [("what", .str w)]) :: L) → E (.ref cB) (some e) H') ∧ (calW a ol c om = none → ∀ H', Z.Fx H' L → Q .non H')
theorem fn__check_parts (T : Txt K mg c_BadCalendar c_BadLength c_Calendar) {f : Addr} {fd : FuncData} (F : Fun K "_check_parts" "_check_parts" s__check_parts f fd) : FnOk P w K mg base (L2.CX P w) 3 f fd ["before", "lengths", "period", "rests"] (sp__check_parts K c_BadCalendar) := by
  have O_BadCalendar___init__ := ok_BadCalendar___init__ (P := P) (w := w) (base := base) T
  have O__are_numbers := ok__are_numbers (P := P) (w := w) (base := base) T
  have O_is_whole_1 := ok_is_whole_1 (P := P) (w := w) (base := base) T
  have O_is_whole_2 := ok_is_whole_2 (P := P) (w := w) (base := base) T
  have O_is_whole_3 := ok_is_whole_3 (P := P) (w := w) (base := base) T
  refine F.okX sc__check_parts (fun vs H Q E h => ?_) (fun cdv A outer s H vs Q E hr h => ?_)
  · obtain ⟨a, b, c, d, rfl, _⟩ := h; rfl
  · obtain ⟨a, b, c, d, rfl, h⟩ := h
    have TK := takes_of (X := cxOf (L2.CX P w) P w K mg base ["before", "lengths", "period", "rests"] "_check_parts" (defScope s__check_parts) f cdv A outer s H E) rfl rfl rfl rfl
    refine ⟨_, (pss_cons (ps_if (pt_not (Z.pt_truN (Z.pe_callO O_is_whole_3 (by rfl) (hr.mono (by decide)) pass0 (pa_cons (pv 0) (pa_cons pe_int (pa_cons pe_int pa_nil))))))
        (pss_one (ps_raise (by rfl) TK (Z.pmk_errO T.x_BadCalendar O_BadCalendar___init__ (hr.mono (by decide)) T.g_BadCalendar (by rfl) (pa_cons pe_str pa_nil))))
        pss_nil)
      (pss_cons (ps_if (pt_not (Z.pt_truN (Z.pe_callO O__are_numbers (by rfl) (hr.mono (by decide)) pass0 (pa_cons (pv 1) (pa_cons (pv 0) pa_nil)))))
        (pss_one (ps_raise (by rfl) TK (Z.pmk_errO T.x_BadCalendar O_BadCalendar___init__ (hr.mono (by decide)) T.g_BadCalendar (by rfl) (pa_cons pe_str pa_nil))))
        pss_nil)
      (pss_cons (ps_if (pt_not (Z.pt_truN (Z.pe_callO O_is_whole_3 (by rfl) (hr.mono (by decide)) pass0 (pa_cons (pv 2) (pa_cons pe_int (pa_cons pe_int pa_nil))))))
        (pss_one (ps_raise (by rfl) TK (Z.pmk_errO T.x_BadCalendar O_BadCalendar___init__ (hr.mono (by decide)) T.g_BadCalendar (by rfl) (pa_cons pe_str pa_nil))))
        pss_nil)
      (pss_one (ps_if (pt_not (Z.pt_truN (Z.pe_callO O__are_numbers (by rfl) (hr.mono (by decide)) pass0 (pa_cons (pv 3) (pa_cons (pv 2) pa_nil)))))
        (pss_one (ps_raise (by rfl) TK (Z.pmk_errO T.x_BadCalendar O_BadCalendar___init__ (hr.mono (by decide)) T.g_BadCalendar (by rfl) (pa_cons pe_str pa_nil))))
        pss_nil))))), ?_⟩
    try dsimp only [cxOf, Cx.nox, Cx.wish]
    refine Z.at_start (σ' := [some a, some b, some c, some d]) rfl ?_
    obtain ⟨L, ol, om, k1, k2, F, ha, hc, hb, tb, hd, td, kE, kQ⟩ := h
    walk_at "z"
    refine use_is_whole (ha.has F) (.inr ⟨_, rfl⟩) (.inr ⟨_, rfl⟩) ?_
    walk_at "z"
    refine Z.wIf (fun h1 => ?_) (fun h1 => ?_)
    · have h1' : Z.inB a (.int 0) (.int 20000) = false := by simpa using h1
      walk_at "z"
      refine Z.wMk1 T.x_BadCalendar.oex T.n_BadCalendar_what F fun e H2 F2 => kE _ (by unfold calW; rw [if_pos h1']) _ _ F2
    have h1' : Z.inB a (.int 0) (.int 20000) = true := by simpa using h1
    have n1 : ¬ Z.inB a (.int 0) (.int 20000) = false := by rw [h1']; decide
    obtain ⟨bz, rfl, b0, b1⟩ := inB_get h1'
    walk_at "z"
    refine use__are_numbers F b0 b1 hb tb fun H1 F1 => ?_
    walk_at "z"
    refine Z.wIf (fun h2 => ?_) (fun h2 => ?_)
    · have h2' : goodN (intV (V.int bz)) ol = false := (show goodN bz ol = false by simpa using h2)
      walk_at "z"
      refine Z.wMk1 T.x_BadCalendar.oex T.n_BadCalendar_what F1 fun e H2 F2 => kE _ (by unfold calW; rw [if_neg n1, if_pos h2']) _ _ F2
    have n2 : ¬ goodN (intV (.int bz)) ol = false := (show ¬ goodN bz ol = false by simpa using h2)
    walk_at "z"
    refine use_is_whole (hc.has F1) (.inr ⟨_, rfl⟩) (.inr ⟨_, rfl⟩) ?_
    walk_at "z"
    refine Z.wIf (fun h3 => ?_) (fun h3 => ?_)
    · have h3' : Z.inB c (.int 1) (.int 5000) = false := by simpa using h3
      walk_at "z"
      refine Z.wMk1 T.x_BadCalendar.oex T.n_BadCalendar_what F1 fun e H2 F2 => kE _ (by unfold calW; rw [if_neg n1, if_neg n2, if_pos h3']) _ _ F2
    have h3' : Z.inB c (.int 1) (.int 5000) = true := by simpa using h3
    have n3 : ¬ Z.inB c (.int 1) (.int 5000) = false := by rw [h3']; decide
    obtain ⟨pz, rfl, p0, p1⟩ := inB_get h3'
    walk_at "z"
    refine use__are_numbers F1 (by omega) (by omega) hd td fun H3 F3 => ?_
    walk_at "z"
    refine Z.wIf (fun h4 => ?_) (fun h4 => ?_)
    · have h4' : goodN (intV (V.int pz)) om = false := (show goodN pz om = false by simpa using h4)
      walk_at "z"
      refine Z.wMk1 T.x_BadCalendar.oex T.n_BadCalendar_what F3 fun e H2 F2 => kE _ (by unfold calW; rw [if_neg n1, if_neg n2, if_neg n3, if_pos h4']) _ _ F2
    have n4 : ¬ goodN (intV (.int pz)) om = false := (show ¬ goodN pz om = false by simpa using h4)
    walk_at "z"
    exact kQ (by unfold calW; rw [if_neg n1, if_neg n2, if_neg n3, if_neg n4]) _ F3
theorem ok__check_parts (T : Txt K mg c_BadCalendar c_BadLength c_Calendar) : Z.Ok (L2.CX P w) P w K mg base "_check_parts" 3 ["before", "lengths", "period", "rests"] [] (sp__check_parts K c_BadCalendar) := by
  obtain ⟨f, fd, F, g⟩ := T.d__check_parts
  exact Z.mkOk F g (F.binds (ps := ["before", "lengths", "period", "rests"]) fun _ _ _ _ _ _ us hl => match us, hl with | [_, _, _, _], _ => rfl) (fn__check_parts T F)
theorem use__check_parts {cB : Addr} {H : Hp} {Q : VK} {E : XK} {L : List Z.En} {a b c d : V} {ol om : Option (List V)} {k1 k2 : Z.Kd} (F : Z.Fx H L) (ha : Z.Thing L a k1) (hc : Z.Thing L c k2) (hb : Z.SeqIs L b ol) (tb : ∀ xs, ol = some xs → ∀ x ∈ xs, ∃ k, Z.Thing L x k) (hd : Z.SeqIs L d om) (td : ∀ xs, om = some xs → ∀ x ∈ xs, ∃ k, Z.Thing L x k)
  (kE : ∀ w, calW a ol c om = some w → ∀ e H', Z.Fx H' (.ob e (.xd [("what", .str w)]) :: L) → E (.ref cB) (some e) H') (kQ : calW a ol c om = none → ∀ H', Z.Fx H' L → Q .non H') : sp__check_parts K cB [a, b, c, d] H Q E :=
  ⟨_, _, _, _, rfl, L, ol, om, k1, k2, F, ha, hc, hb, tb, hd, td, kE, kQ⟩
theorem sc__law_yes : FnScope ["_law_world_here", "_law_number", "_law_early", "_law_wheel"] ["_law_world_here", "_law_number"] (defScope s__law_yes) := ⟨rfl, rfl, rfl, by decide +kernel, rfl, by decide +kernel, by decide +kernel⟩
/-- the numbers of the places with a yes -/
def idxAt (k : Nat) : List Bool → List Int
  | [] => []
  | b :: r => if b then (k : Int) :: idxAt (k + 1) r else idxAt (k + 1) r
def idx (bs : List Bool) : List Int := idxAt 0 bs
theorem mem_idxAt {bs : List Bool} : ∀ {k : Nat} {z : Int}, z ∈ idxAt k bs ↔ ∃ i : Nat, z = ((k + i : Nat) : Int) ∧ bs[i]? = some true := by
  induction bs with
  | nil => intro k z; simp [idxAt]
  | cons b r ih =>
    intro k z
    have e : z ∈ idxAt (k + 1) r ↔ ∃ i : Nat, z = ((k + (i + 1) : Nat) : Int) ∧ (b :: r)[i + 1]? = some true := by
      rw [ih]
      constructor
      · rintro ⟨i, h1, h2⟩; exact ⟨i, by omega, by simpa using h2⟩
      · rintro ⟨i, h1, h2⟩; exact ⟨i, by omega, by simpa using h2⟩
    cases b with
    | true =>
      rw [idxAt, if_pos rfl, List.mem_cons, e]
      constructor
      · rintro (h | ⟨i, h1, h2⟩)
        · exact ⟨0, h, rfl⟩
        · exact ⟨i + 1, h1, h2⟩
      · rintro ⟨i, h1, h2⟩
        cases i with
        | zero => exact .inl h1
        | succ i => exact .inr ⟨i, h1, h2⟩
    | false =>
      rw [idxAt, if_neg (by decide), e]
      constructor
      · rintro ⟨i, h1, h2⟩; exact ⟨i + 1, h1, h2⟩
      · rintro ⟨i, h1, h2⟩
        cases i with
        | zero => simp at h2
        | succ i => exact ⟨i, h1, h2⟩
theorem mem_idx {bs : List Bool} {z : Int} : z ∈ idx bs ↔ ∃ i : Nat, z = (i : Int) ∧ bs[i]? = some true := by
  unfold idx
  rw [mem_idxAt]
  simp only [Nat.zero_add]
theorem idxAt_snoc (bs : List Bool) (b : Bool) : ∀ k, idxAt k (bs ++ [b]) = idxAt k bs ++ if b then [((k + bs.length : Nat) : Int)] else [] := by
  induction bs with
  | nil => intro k; cases b <;> simp [idxAt]
  | cons x r ih =>
    intro k
    have e : k + 1 + r.length = k + (r.length + 1) := by omega
    cases x <;> simp [idxAt, ih, e]
theorem idx_take {bs : List Bool} {i : Nat} {b : Bool} (h : bs[i]? = some b) : idx (bs.take (i + 1)) = idx (bs.take i) ++ if b then [(i : Int)] else [] := by
  have hl := (List.getElem?_eq_some_iff.mp h).1
  have e : bs.take (i + 1) = bs.take i ++ [b] := by rw [List.take_add_one, h]; rfl
  unfold idx
  rw [e, idxAt_snoc, List.length_take, Nat.min_eq_left (by omega), Nat.zero_add]
theorem idx_below (bs : List Bool) : Below bs.length (idx bs) := by
  refine ⟨?_, fun l hl => ?_⟩
  · unfold idx
    have : ∀ (bs : List Bool) (k : Nat), (idxAt k bs).Pairwise (· < ·) := by
      intro bs
      induction bs with
      | nil => intro k; exact .nil
      | cons b r ih =>
        intro k
        cases b with
        | true =>
          rw [idxAt, if_pos rfl]
          refine .cons (fun z hz => ?_) (ih (k + 1))
          obtain ⟨i, h1, _⟩ := mem_idxAt.mp hz
          omega
        | false => rw [idxAt, if_neg (by decide)]; exact ih (k + 1)
    exact this bs 0
  · obtain ⟨i, rfl, h⟩ := mem_idx.mp hl
    have := (List.getElem?_eq_some_iff.mp h).1
    omega
theorem idxAt_append (a b : List Bool) : ∀ k, idxAt k (a ++ b) = idxAt k a ++ idxAt (k + a.length) b := by
  induction a with
  | nil => intro k; simp [idxAt]
  | cons x r ih =>
    intro k
    have e : k + 1 + r.length = k + (r.length + 1) := by omega
    cases x <;> simp [idxAt, ih, e]
theorem idx_take_filter (e : List Bool) (n : Nat) : idx (e.take n) = (idx e).filter fun z => decide (z < (n : Int)) := by
  have h := idxAt_append (e.take n) (e.drop n) 0
  rw [List.take_append_drop]
        at h
  have e0 : idx e = idxAt 0 e := rfl
  have e1 : idx (e.take n) = idxAt 0 (e.take n) := rfl
  rw [e0, h, List.filter_append, e1, List.filter_eq_self.mpr, List.filter_eq_nil_iff.mpr, List.append_nil]
  · intro z hz
    obtain ⟨i, rfl, hi⟩ := mem_idxAt.mp hz
    rw [List.getElem?_drop] at hi
    have :=
          (List.getElem?_eq_some_iff.mp hi).1
    rw [decide_eq_true_iff, List.length_take]
    omega
  · intro z hz
    obtain ⟨i, rfl, hi⟩ := mem_idxAt.mp hz
    have :=
          (List.getElem?_eq_some_iff.mp hi).1
    rw [List.length_take] at this
    rw [decide_eq_true_iff]
    omega
/-- at a the pair of the lists of the early answers and of the wheel -/
def WorldAt (L : List Z.En) (a : Addr) (e w : List Bool) : Prop := ∃ p q, Z.En.ob a (.tup [.ref p, .ref q]) ∈ L ∧ Z.En.ob p (.lst (e.map V.bl)) ∈ L ∧ Z.En.ob q (.lst (w.map V.bl)) ∈ L
theorem WorldAt.le {L L2 : List Z.En} {a : Addr} {e w : List Bool} (h : WorldAt L a e w) (s : L.Sublist L2) : WorldAt L2 a e w := let ⟨p, q, h1, h2, h3⟩ := h; ⟨p, q, s.subset h1, s.subset h2, s.subset h3⟩
/-- the answer for z -/
def yesI (e w : List Bool) (z : Int) : Bool := if z < e.length then e.getD z.toNat false else w.getD (z % w.length).toNat false
theorem atB {e : List Bool} {z : Int} (h0 : 0 ≤ z) (h1 : z < e.length) : atI (e.map V.bl) z = some (V.bl (e.getD z.toNat false)) := by
  have h2 : z.toNat < e.length := by omega
  have e1 : (e.map V.bl)[z.toNat]? = some (V.bl (e.getD z.toNat false)) := by
    rw [List.getElem?_map, List.getElem?_eq_getElem h2, List.getD_eq_getElem?_getD, List.getElem?_eq_getElem h2]
    rfl
  have e2 := atI_nat e1
  rwa [Int.toNat_of_nonneg h0] at e2
def sp__law_yes (K : PySem.W.Frag) : Sp := Z.Sp2 fun a b H Q E => ∃ (L : List Z.En) (x : Addr) (e w : List Bool) (z : Int), a = .ref x ∧ b = .int z ∧ Z.Fx H L ∧ WorldAt L x e w ∧ 0 ≤ z ∧ 0 < w.length ∧ Q (.bl (yesI e w z)) H
theorem fn__law_yes (T : Txt K mg c_BadCalendar c_BadLength c_Calendar) {f : Addr} {fd : FuncData} (F : Fun K "_law_yes" "_law_yes" s__law_yes f fd) : FnOk P w K mg base CX0 1 f fd ["_law_world_here", "_law_number"] (sp__law_yes K) := by
  refine F.ok sc__law_yes (fun vs H Q E h => ?_) (fun cdv A outer s H vs Q E hr h => ?_)
  · obtain ⟨a, b, rfl, _⟩ := h; rfl
  · obtain ⟨a, b, rfl, h⟩ := h
    refine ⟨_, (pss_cons (ps_asg (pv 0) (pg_tup (by rfl) (pgs_cons (pg_name (i := 2) sc__law_yes.nd rfl (by first | exact Or.inl rfl | exact Or.inr rfl)) (pgs_cons (pg_name (i := 3) sc__law_yes.nd rfl (by first | exact Or.inl rfl | exact Or.inr rfl)) pgs_nil))))
      (pss_one (ps_ret (pe_ifExp (pt_cmpR Z.zLt (pv 1) (pe_callB Z.zLen (by rfl) T.b_len (by decide +kernel) (pa_cons (pv 2) pa_nil)) (nomark _)) (pe_ix ix_seq (pv 2) (pv 1) (fun _ _ => rfl)) (pe_ix ix_seq (pv 3) (pe_op Z.zMod (pe_callTy Z.zInt (by rfl) T.b_int (by decide +kernel) (pa_cons (pv 1) pa_nil)) (pe_callB Z.zLen (by rfl) T.b_len (by decide +kernel) (pa_cons (pv 3) pa_nil))) (fun _ _ => rfl)))))), ?_⟩
    try dsimp only [cxOf, Cx.nox, Cx.wish]
    refine Z.at_start (σ' := [some a, some b, none, none]) rfl ?_
    obtain ⟨L, x, e, w, z, rfl, rfl, F, ⟨p, q, h1, h2, h3⟩, z0, w0, k⟩ := h
    walk_at "z"
    refine Z.wIfD (fun h => ?_) (fun h => ?_)
    · rw [List.length_map] at h
      have ea := atB z0 h
      walk_at "z"
      unfold yesI at k
      rw [if_pos h] at k
      exact k
    · rw [List.length_map] at h
      have m0 : 0 ≤ z % (w.length : Int) := Int.emod_nonneg _ (by omega)
      have m1 : z % (w.length : Int) < w.length := Int.emod_lt_of_pos _ (by omega)
      have ea := atB m0 m1
      walk_at "z"
      rw [List.length_map]
      walk_at "z"
      unfold yesI at k
      rw [if_neg h] at k
      exact k
theorem ok__law_yes (T : Txt K mg c_BadCalendar c_BadLength c_Calendar) : Z.Ok CX0 P w K mg base "_law_yes" 1 ["_law_world_here", "_law_number"] [] (sp__law_yes K) := by
  obtain ⟨f, fd, F, g⟩ := T.d__law_yes
  exact Z.mkOk F g (F.binds (ps := ["_law_world_here", "_law_number"]) fun _ _ _ _ _ _ us hl => match us, hl with | [_, _], _ => rfl) (fn__law_yes T F)
theorem use__law_yes {H : Hp} {Q : VK} {E : XK} {L : List Z.En} {x : Addr} {e w : List Bool} {z : Int} (F : Z.Fx H L) (hw : WorldAt L x e w) (z0 : 0 ≤ z) (w0 : 0 < w.length) (k : Q (.bl (yesI e w z)) H) : sp__law_yes K [.ref x, .int z] H Q E := ⟨_, _, rfl, L, x, e, w, z, rfl, rfl, F, hw, z0, w0, k⟩
theorem sc__law_bits : FnScope ["_law_hand_here", "_law_many", "_law_size", "_law_dense", "_law_short", "_law_number"] ["_law_hand_here", "_law_many"] (defScope s__law_bits) := ⟨rfl, rfl, rfl, by decide +kernel, rfl, by decide +kernel, by decide +kernel⟩
def sp__law_bits (K : PySem.W.Frag) : Sp := Z.Sp2 fun a b H Q E => ∃ (L : List Z.En) (l c : Addr) (n : Int), a = .ref l ∧ b = .int n ∧ Z.Fx H L ∧ Z.En.hand5 l c ∈ L ∧ 0 ≤ n ∧ n ≤ 20000 ∧ ∀ (bs : List Bool) p H', (bs.length : Int) = n → Z.Fx H' (.ob p (.lst (bs.map V.bl)) :: L) → Q (.ref p) H'
theorem fn__law_bits (T : Txt K mg c_BadCalendar c_BadLength c_Calendar) {f : Addr} {fd : FuncData} (F : Fun K "_law_bits" "_law_bits" s__law_bits f fd) : FnOk P w K mg base CX0 2 f fd ["_law_hand_here", "_law_many"] (sp__law_bits K) := by
  have O__law_draw := ok__law_draw (P := P) (w := w) (base := base) T
  refine F.ok sc__law_bits (fun vs H Q E h => ?_) (fun cdv A outer s H vs Q E hr h => ?_)
  · obtain ⟨a, b, rfl, _⟩ := h; rfl
  · obtain ⟨a, b, rfl, h⟩ := h
    refine ⟨_, (pss_cons (ps_if (pt_cmpR (Z.zEq (Z.hu0 hr)) (pv 1) pe_int (nomark _))
        (pss_one (ps_ret (pe_lst pa_nil)))
        pss_nil)
      (pss_cons (ps_set (i := 2) sc__law_bits.nd rfl (by first | exact Or.inl rfl | exact Or.inr rfl) (pe_callB (Z.cr_min3 rfl) (by rfl) T.b_min (by decide +kernel) (pa_cons (pv 1) (pa_cons (pe_ix ix_seq (pe_lst (pa_cons (pv 1) (pa_cons pe_int (pa_cons pe_int (pa_cons pe_int (pa_cons pe_int (pa_cons (pv 1) pa_nil))))))) (Z.pe_callO O__law_draw (by rfl) (hr.mono (by decide)) pass0 (pa_cons (pv 0) (pa_cons pe_int pa_nil))) (fun _ _ => rfl)) (pa_cons pe_int pa_nil)))))
      (pss_cons (ps_set (i := 3) sc__law_bits.nd rfl (by first | exact Or.inl rfl | exact Or.inr rfl) (pe_ix ix_seq (pe_lst (pa_cons pe_int (pa_cons pe_int (pa_cons pe_int (pa_cons (pe_op Z.zAdd pe_int (pv 1)) pa_nil))))) (Z.pe_callO O__law_draw (by rfl) (hr.mono (by decide)) pass0 (pa_cons (pv 0) (pa_cons pe_int pa_nil))) (fun _ _ => rfl)))
      (pss_cons (ps_set (i := 4) sc__law_bits.nd rfl (by first | exact Or.inl rfl | exact Or.inr rfl) (by exact (pe_lc (own := [("_law_number", 5)]) (g := (gName 5)) (by rfl) sc__law_bits.nd (pi_range1 (by rfl) T.b_range (pa_cons (pv 2) pa_nil)) (blkOk_by (own := [("_law_number", 5)]) (N := ["_law_hand_here", "_law_many", "_law_size", "_law_dense", "_law_short", "_law_number"]) (sc := defScope s__law_bits) (by decide +kernel)) (fun _ _ _ _ _ => (by exact (pg_name (i := 5) sc__law_bits.nd rfl (by first | exact Or.inl rfl | exact Or.inr rfl)))) (fun _ _ _ _ _ => (by exact pts_nil)) (fun _ _ _ _ _ => (by exact (pe_cmpR (show OpR _ _ (Z.rOr rEq (rEqD K)) from (Z.zEq (Z.hu0 hr))) (Z.pe_callO O__law_draw (by rfl) (hr.mono (by decide)) pass0 (pa_cons (pv 0) (pa_cons (pv 3) pa_nil))) pe_int (nomark _)))))))
      (pss_one (ps_ret (by exact (pe_lc (own := [("_law_number", 5)]) (g := (gName 5)) (by rfl) sc__law_bits.nd (pi_range1 (by rfl) T.b_range (pa_cons (pv 1) pa_nil)) (blkOk_by (own := [("_law_number", 5)]) (N := ["_law_hand_here", "_law_many", "_law_size", "_law_dense", "_law_short", "_law_number"]) (sc := defScope s__law_bits) (by decide +kernel)) (fun _ _ _ _ _ => (by exact (pg_name (i := 5) sc__law_bits.nd rfl (by first | exact Or.inl rfl | exact Or.inr rfl)))) (fun _ _ _ _ _ => (by exact pts_nil)) (fun _ _ _ _ _ => (by exact (pe_ix (show IxR _ (rIx K) from ix_seq) (pv 4) (pe_op Z.zMod (pe_callTy Z.zInt (by rfl) T.b_int (by decide +kernel) (pa_cons (pv 5) pa_nil)) (pv 2)) (fun _ _ => rfl)))))))))))), ?_⟩
    try dsimp only [cxOf, Cx.nox, Cx.wish]
    refine Z.at_start (σ' := [some a, some b, none, none, none, none]) rfl ?_
    obtain ⟨L, l, c, n, rfl, rfl, F, mh, n0, n2, k⟩ := h
    walk_at "y"
    refine Z.wMidS (fun σ' H' => n ≠ 0 ∧ σ' = [some (.ref l), some (.int n), none, none, none, none] ∧ Z.Fx H' L) (fun N hk => ?_) ?_
    · walk_at "z"
      refine Z.wIfD (fun h => ?_) (fun h => ?_)
      · walk_at "z"
        rename_i p H1 F1
        subst h
        exact k [] p _ rfl F1
      · walk_at "z"
        exact hk _ _ ⟨h, rfl, F⟩
    rintro _ H0 ⟨hn, rfl, F0⟩
    walk_at "z"
    rename_i q1 H1 F1 v1 H2 F2 v10 v11
    obtain ⟨x, ea, x1, x2⟩ : ∃ x, atI [V.int n, V.int 1, V.int 2, V.int 3, V.int 4, V.int n] v1 = some (V.int x) ∧ 1 ≤ x ∧ x ≤ 20000 := by
      have : v1 = 0 ∨ v1 = 1 ∨ v1 = 2 ∨ v1 = 3 ∨ v1 = 4 ∨ v1 = 5 := by omega
      rcases this with rfl | rfl | rfl | rfl | rfl | rfl
      · exact ⟨n, rfl, by omega, by omega⟩
      · exact ⟨1, rfl, by omega, by omega⟩
      · exact ⟨2, rfl, by omega, by omega⟩
      · exact ⟨3, rfl, by omega, by omega⟩
      · exact ⟨4, rfl, by omega, by omega⟩
      · exact ⟨n, rfl, by omega, by omega⟩
    walk_at "z"
    generalize hs : min (min n x) 40 = s
    have s1 : 1 ≤ s := by omega
    have s2 : s ≤ 40 := by omega
    clear hs
    walk_at "z"
    rename_i q2 H4 F4 v2 H5 F5 v20 v21
    obtain ⟨y, eb, y1, y2⟩ : ∃ y, atI [V.int 2, V.int 2, V.int 2, V.int (2 + n)] v2 = some (V.int y) ∧ 2 ≤ y ∧ y ≤ 20002 := by
      have : v2 = 0 ∨ v2 = 1 ∨ v2 = 2 ∨ v2 = 3 := by omega
      rcases this with rfl | rfl | rfl | rfl
      · exact ⟨2, rfl, by omega, by omega⟩
      · exact ⟨2, rfl, by omega, by omega⟩
      · exact ⟨2, rfl, by omega, by omega⟩
      · exact ⟨2 + n, rfl, by omega, by omega⟩
    walk_at "z"
    have F6 := F5.sub (L' := L) (.cons _ (.cons _ (.refl _)))
    clear F4 F5 F1 F2
    refine Z.wLcW walk_range F6 (fun i acc L' => L' = L ∧ ∃ bs : List Bool, acc = bs.map V.bl ∧ bs.length = i) ⟨rfl, [], rfl, rfl⟩ (fun _ _ _ _ _ _ _ => trivial) ?_ ?_
    · rintro i v D H7 H8 acc L' hi ⟨rfl, bs, rfl, hb⟩ F7 ⟨rfl, rfl⟩
      walk_at "zw"
      walk_at "z"
      refine ⟨rfl, ?_⟩
      walk_at "z"
      rename_i d H9 F9 d0 d1
      exact Z.lcPut F9 (by rw [List.length_map, hb]; have := Z.line_big; omega) ⟨rfl, bs ++ [decide (d = 1)], by rw [List.map_append]; rfl, by rw [List.length_append, hb]; rfl⟩
    rintro D acc L' H7 F7 ⟨rfl, bs, rfl, hb⟩
    walk_at "z"
    refine Z.wLcW walk_range F7 (fun i acc L2 => L2 = _ ∧ ∃ cs : List Bool, acc = cs.map V.bl ∧ cs.length = i) ⟨rfl, [], rfl, rfl⟩ (fun _ _ _ _ _ _ _ => trivial) ?_ ?_
    · rintro i v D2 H8 H9 acc L2 hi ⟨rfl, cs, rfl, hc⟩ F8 ⟨rfl, rfl⟩
      have m0 : 0 ≤ (0 + (i : Int)) % s := Int.emod_nonneg _ (by omega)
      have m1 : (0 + (i : Int)) % s < s := Int.emod_lt_of_pos _ (by omega)
      have ea := atB (e := bs) m0 (by omega)
      walk_at "zw"
      walk_at "z"
      refine ⟨rfl, ?_⟩
      walk_at "z"
      exact Z.lcPut F8 (by rw [List.length_map, hc]; have := Z.line_big; omega) ⟨rfl, cs ++ [_], by rw [List.map_append]; rfl, by rw [List.length_append, hc]; rfl⟩
    rintro D2 acc L2 H8 F8 ⟨rfl, cs, rfl, hc⟩
    walk_at "z"
    exact k cs D2 _ (by omega) (F8.sub (.cons_cons _ (.cons _ (.refl _))))
theorem ok__law_bits (T : Txt K mg c_BadCalendar c_BadLength c_Calendar) : Z.Ok CX0 P w K mg base "_law_bits" 2 ["_law_hand_here", "_law_many"] [] (sp__law_bits K) := by
  obtain ⟨f, fd, F, g⟩ := T.d__law_bits
  exact Z.mkOk F g (F.binds (ps := ["_law_hand_here", "_law_many"]) fun _ _ _ _ _ _ us hl => match us, hl with | [_, _], _ => rfl) (fn__law_bits T F)
theorem use__law_bits {H : Hp} {Q : VK} {E : XK} {L : List Z.En} {l c : Addr} {n : Int} (F : Z.Fx H L) (mh : Z.En.hand5 l c ∈ L) (n0 : 0 ≤ n) (n2 : n ≤ 20000) (k : ∀ (bs : List Bool) p H', (bs.length : Int) = n → Z.Fx H' (.ob p (.lst (bs.map V.bl)) :: L) → Q (.ref p) H') : sp__law_bits K [.ref l, .int n] H Q E := ⟨_, _, rfl, L, l, c, n, rfl, rfl, F, mh, n0, n2, k⟩
theorem sc__law_world : FnScope ["_law_hand_here", "_law_before", "_law_period", "_law_wheel"] ["_law_hand_here"] (defScope s__law_world) := ⟨rfl, rfl, rfl, by decide +kernel, rfl, by decide +kernel, by decide +kernel⟩
/-- a world's answers come from a wheel that is not empty -/
def WOk (e w : List Bool) : Prop := 0 < w.length ∧ w.length ≤ 1000 ∧ e.length ≤ 500
def sp__law_world (K : PySem.W.Frag) : Sp := Z.Sp1 fun a H Q E => ∃ (L : List Z.En) (l c : Addr), a = .ref l ∧ Z.Fx H L ∧ Z.En.hand5 l c ∈ L ∧ ∀ (e w : List Bool) p L1 H', 0 < w.length → w.length ≤ 400 → e.length ≤ 400 → L.Sublist L1 → WorldAt L1 p e w → Z.Fx H' L1 → Q (.ref p) H'
theorem fn__law_world (T : Txt K mg c_BadCalendar c_BadLength c_Calendar) {f : Addr} {fd : FuncData} (F : Fun K "_law_world" "_law_world" s__law_world f fd) : FnOk P w K mg base CX0 3 f fd ["_law_hand_here"] (sp__law_world K) := by
  have O__law_bits := ok__law_bits (P := P) (w := w) (base := base) T
  have O__law_draw := ok__law_draw (P := P) (w := w) (base := base) T
  refine F.ok sc__law_world (fun vs H Q E h => ?_) (fun cdv A outer s H vs Q E hr h => ?_)
  · obtain ⟨a, rfl, _⟩ := h; rfl
  · obtain ⟨a, rfl, h⟩ := h
    refine ⟨_, (pss_cons (ps_set (i := 1) sc__law_world.nd rfl (by first | exact Or.inl rfl | exact Or.inr rfl) (Z.pe_callO O__law_draw (by rfl) (hr.mono (by decide)) pass0 (pa_cons (pv 0) (pa_cons pe_int pa_nil))))
      (pss_cons (ps_set (i := 2) sc__law_world.nd rfl (by first | exact Or.inl rfl | exact Or.inr rfl) (pe_op Z.zAdd pe_int (Z.pe_callO O__law_draw (by rfl) (hr.mono (by decide)) pass0 (pa_cons (pv 0) (pa_cons pe_int pa_nil)))))
      (pss_cons (ps_if (pt_cmpR (Z.zEq (Z.hu0 hr)) (Z.pe_callO O__law_draw (by rfl) (hr.mono (by decide)) pass0 (pa_cons (pv 0) (pa_cons pe_int pa_nil))) pe_int (nomark _))
        (pss_one (ps_set (i := 1) sc__law_world.nd rfl (by first | exact Or.inl rfl | exact Or.inr rfl) (Z.pe_callO O__law_draw (by rfl) (hr.mono (by decide)) pass0 (pa_cons (pv 0) (pa_cons pe_int pa_nil)))))
        pss_nil)
      (pss_cons (ps_if (pt_cmpR (Z.zEq (Z.hu0 hr)) (Z.pe_callO O__law_draw (by rfl) (hr.mono (by decide)) pass0 (pa_cons (pv 0) (pa_cons pe_int pa_nil))) pe_int (nomark _))
        (pss_one (ps_set (i := 2) sc__law_world.nd rfl (by first | exact Or.inl rfl | exact Or.inr rfl) (pe_op Z.zAdd pe_int (Z.pe_callO O__law_draw (by rfl) (hr.mono (by decide)) pass0 (pa_cons (pv 0) (pa_cons pe_int pa_nil))))))
        pss_nil)
      (pss_cons (ps_set (i := 3) sc__law_world.nd rfl (by first | exact Or.inl rfl | exact Or.inr rfl) (Z.pe_callO O__law_bits (by rfl) (hr.mono (by decide)) pass0 (pa_cons (pv 0) (pa_cons (pv 2) pa_nil))))
      (pss_one (ps_ret (pe_tup (pa_cons (Z.pe_callO O__law_bits (by rfl) (hr.mono (by decide)) pass0 (pa_cons (pv 0) (pa_cons (pv 1) pa_nil))) (pa_cons (pv 3) pa_nil)))))))))), ?_⟩
    try dsimp only [cxOf, Cx.nox, Cx.wish]
    refine Z.at_start (σ' := [some a, none, none, none]) rfl ?_
    obtain ⟨L, l, c, rfl, F, mh, k⟩ := h
    walk_at "y"
    rename_i b H1 F1 b0 b1 pr H2 F2 p0 p1
    refine Z.wMidS (fun σ' H' => ∃ bz, 0 ≤ bz ∧ bz ≤ 400 ∧ σ' = [some (.ref l), some (.int bz), some (.int (1 + pr)), none] ∧ Z.Fx H' L) (fun N hk => ?_) ?_
    · walk_at "z"
      rename_i v H3 F3 v0 v1
      refine Z.wIfD (fun h => ?_) (fun h => ?_)
      · walk_at "z"
        rename_i u H4 F4 u0 u1
        exact hk _ _ ⟨u, u0, by omega, rfl, F4⟩
      · walk_at "z"
        exact hk _ _ ⟨b, b0, by omega, rfl, F3⟩
    rintro _ H3 ⟨bz, bz0, bz2, rfl, F3⟩
    walk_at "y"
    refine Z.wMidS (fun σ' H' => ∃ pz, 1 ≤ pz ∧ pz ≤ 400 ∧ σ' = [some (.ref l), some (.int bz), some (.int pz), none] ∧ Z.Fx H' L) (fun N hk => ?_) ?_
    · walk_at "z"
      rename_i v H3 F3 v0 v1
      refine Z.wIfD (fun h => ?_) (fun h => ?_)
      · walk_at "z"
        rename_i u H4 F4 u0 u1
        exact hk _ _ ⟨1 + u, by omega, by omega, rfl, F4⟩
      · walk_at "z"
        exact hk _ _ ⟨_, by omega, by omega, rfl, F3⟩
    rintro _ H4 ⟨pz, pz0, pz2, rfl, F4⟩
    walk_at "y"
    refine use__law_bits F4 mh (by omega) (by omega) fun w q H5 hw F5 => ?_
    walk_at "y"
    refine use__law_bits F5 (.tail _ mh) (by omega) (by omega) fun e p H6 he F6 => ?_
    walk_at "y"
    rename_i r H8 F8
    exact k e w r _ _ (by omega) (by omega) (by omega) (.cons _ (.cons _ (.cons _ (.refl _)))) ⟨p, q, .head _, .tail _ (.head _), .tail _ (.tail _ (.head _))⟩ F8
theorem ok__law_world (T : Txt K mg c_BadCalendar c_BadLength c_Calendar) : Z.Ok CX0 P w K mg base "_law_world" 3 ["_law_hand_here"] [] (sp__law_world K) := by
  obtain ⟨f, fd, F, g⟩ := T.d__law_world
  exact Z.mkOk F g (F.binds (ps := ["_law_hand_here"]) fun _ _ _ _ _ _ us hl => match us, hl with | [_], _ => rfl) (fn__law_world T F)
theorem use__law_world {H : Hp} {Q : VK} {E : XK} {L : List Z.En} {l c : Addr} (F : Z.Fx H L) (mh : Z.En.hand5 l c ∈ L) (k : ∀ (e w : List Bool) p L1 H', 0 < w.length → w.length ≤ 400 → e.length ≤ 400 → L.Sublist L1 → WorldAt L1 p e w → Z.Fx H' L1 → Q (.ref p) H') : sp__law_world K [.ref l] H Q E := ⟨_, rfl, L, l, c, rfl, F, mh, k⟩
theorem sc__least_period : FnScope ["period", "rests", "serves_so", "lesser", "rest"] ["period", "rests"] (defScope s__least_period) := ⟨rfl, rfl, rfl, by decide +kernel, rfl, by decide +kernel, by decide +kernel⟩
/-- the rests rs come round after l -/
def Clo (p : Int) (rs : List Int) (l : Int) : Prop := p % l = 0 ∧ ∀ r ∈ rs, (r + l) % p ∈ rs
def LeastP (p : Int) (rs : List Int) (m : Int) : Prop := 1 ≤ m ∧ m ≤ p ∧ Clo p rs m ∧ ∀ j, 1 ≤ j → j < m → ¬ Clo p rs j
def sp__least_period (K : PySem.W.Frag) : Sp := Z.Sp2 fun a b H Q E => ∃ (L : List Z.En) (p : Int) (rs : List Int), a = .int p ∧ 1 ≤ p ∧ p ≤ 5000 ∧ Below p rs ∧ Z.Fx H L ∧ Z.SeqIs L b (some (rs.map V.int)) ∧ ∀ m H', LeastP p rs m → Z.Fx H' L → Q (.int m) H'
theorem fn__least_period (T : Txt K mg c_BadCalendar c_BadLength c_Calendar) {f : Addr} {fd : FuncData} (F : Fun K "_least_period" "_least_period" s__least_period f fd) : FnOk P w K mg base CX0 1 f fd ["period", "rests"] (sp__least_period K) := by
  refine F.ok sc__least_period (fun vs H Q E h => ?_) (fun cdv A outer s H vs Q E hr h => ?_)
  · obtain ⟨a, b, rfl, _⟩ := h; rfl
  · obtain ⟨a, b, rfl, h⟩ := h
    refine ⟨_, (pss_cons (ps_set (i := 2) sc__least_period.nd rfl (by first | exact Or.inl rfl | exact Or.inr rfl) (by exact (pe_dc (own := [("rest", 4)]) (g := (gName 4)) (by rfl) sc__least_period.nd (Z.pi_seq (pv 1)) (blkOk_by (own := [("rest", 4)]) (N := ["period", "rests", "serves_so", "lesser", "rest"]) (sc := defScope s__least_period) (by decide +kernel)) (fun _ _ _ _ _ => (by exact (pg_name (i := 4) sc__least_period.nd rfl (by first | exact Or.inl rfl | exact Or.inr rfl)))) (fun _ _ _ _ _ => (by exact pts_nil)) (fun _ _ _ _ _ => (by exact (pv 4))) (fun _ _ _ _ _ => (by exact pe_bl)))))
      (pss_cons (ps_for PassesOwn.never (by rfl) (pi_range2 (by rfl) T.b_range (pa_cons pe_int (pa_cons (pv 0) pa_nil))) (pg_name (i := 3) sc__least_period.nd rfl (by first | exact Or.inl rfl | exact Or.inr rfl))
        (pss_one (ps_if (PW.pt (pw_and (pt_cmpR (Z.zEq (Z.hu0 hr)) (pe_op Z.zMod (pv 0) (pv 3)) pe_int (nomark _)) (pw_and1 (Z.pt_truN (pe_callB (cr_all rfl) (by rfl) T.b_all (by decide +kernel) (pa_cons (by exact (pe_lc (own := [("rest", 4)]) (g := (gName 4)) (by rfl) sc__least_period.nd (Z.pi_seq (pv 1)) (blkOk_by (own := [("rest", 4)]) (N := ["period", "rests", "serves_so", "lesser", "rest"]) (sc := defScope s__least_period) (by decide +kernel)) (fun _ _ _ _ _ => (by exact (pg_name (i := 4) sc__least_period.nd rfl (by first | exact Or.inl rfl | exact Or.inr rfl)))) (fun _ _ _ _ _ => (by exact pts_nil)) (fun _ _ _ _ _ => (by exact (pe_cmpR (Z.op_inD (Z.hu1 hr)) (pe_op Z.zMod (pe_op (show OpR _ _ (Z.rOr Z.rAddI (Z.rOr Z.rAddS (Z.rOr rCat (rCatT K)))) from Z.zAdd) (pv 4) (pv 3)) (pv 0)) (pv 2) (by rfl)))))) pa_nil))))))
          (pss_one (ps_ret (pv 3)))
          pss_nil)))
      (pss_one (ps_ret (pv 0))))), ?_⟩
    try dsimp only [cxOf, Cx.nox, Cx.wish]
    refine Z.at_start (σ' := [some a, some b, none, none, none]) rfl ?_
    obtain ⟨L, p, rs, rfl, p1, p5, hB, F, hs, k⟩ := h
    have hl := hB.len (by omega)
    walk_at "z"
    refine Z.wDcS hs F (fun i kvs L' => L' = L ∧ Z.KeysOf kvs (rs.take i)) ⟨rfl, Z.KeysOf.nil⟩ (fun i kvs L' r e he => r.1 ▸ he) ?_ ?_
    · rintro i x D H2 kvs L' hx ⟨rfl, hk⟩ F2
      obtain ⟨u, rfl, hu⟩ := Z.int_of_map' hx
      walk_at "zw"
      walk_at "z"
      refine ⟨rfl, ?_⟩
      walk_at "z"
      exact Z.dcPut F2 (hk.low (m := 5000) (by omega) (by decide)) ⟨rfl, hk.snocT hu⟩
    rintro D kvs L' H2 F2 ⟨rfl, hk⟩
    rw [List.length_map, List.take_length] at hk
    walk_at "z"
    refine Z.wForW walk_range (fun i σ H' => ∃ v3 v4, σ = [some (.int p), some b, some (.ref D), v3, v4] ∧ Z.Fx H' (.ob D (.dK kvs) :: L') ∧ ∀ j, 1 ≤ j → j < 1 + (i : Int) → ¬ Clo p rs j) ?_ (fun _ _ _ _ _ => trivial) ?_ ?_
    · exact ⟨_, _, rfl, F2, fun j h1 h2 => by omega⟩
    · rintro i x σ H3 H4 hi ⟨v3, v4, rfl, F3, hno⟩ ⟨rfl, rfl⟩
      walk_at "z"
      have step : ¬ Clo p rs (1 + (i : Int)) → ∀ j, 1 ≤ j → j < 1 + ((i + 1 : Nat) : Int) → ¬ Clo p rs j := fun h j h1 h2 => by
        by_cases e : j = 1 + (i : Int)
        · rw [e]; exact h
        · exact hno j h1 (by omega)
      refine Z.wIfD (fun hd => ?_) (fun hd => ?_)
      · walk_at "z"
        refine Z.wLcS (hs.mono fun _ h => .tail _ h) F3 (fun m acc L3 => L3 = (.ob D (.dK kvs) :: L') ∧ acc = (rs.take m).map fun r => V.bl (decide ((r + (1 + (i : Int))) % p ∈ rs))) ⟨rfl, rfl⟩ (fun i acc L' r e he => r.1 ▸ he) ?_ ?_
        · rintro m x D3 H5 acc L3 hx ⟨rfl, rfl⟩ F5
          obtain ⟨u, rfl, hu⟩ := Z.int_of_map' hx
          walk_at "zw"
          walk_at "z"
          refine ⟨rfl, ?_⟩
          walk_at "z"
          rw [hk.1]
          exact Z.lcPut F5 (by rw [List.length_map, List.length_take]; have := Z.line_big; omega) ⟨rfl, (Z.take_succ_map hu).symm⟩
        rintro D3 acc L3 H5 F5 ⟨rfl, rfl⟩
        rw [List.length_map, List.take_length] at F5
        have e0 : (rs.map fun r => V.bl (decide ((r + (1 + (i : Int))) % p ∈ rs))) = (rs.map fun r => decide ((r + (1 + (i : Int))) % p ∈ rs)).map V.bl := by rw [List.map_map]; rfl
        rw [e0] at F5
        walk_at "z"
        refine Z.wAll (F5.lst List.mem_cons_self) ?_
        have ea : ((rs.map fun r => decide ((r + (1 + (i : Int))) % p ∈ rs)).all id = true) ↔ ∀ r ∈ rs, (r + (1 + (i : Int))) % p ∈ rs := by
          rw [List.all_map, List.all_eq_true]
          exact ⟨fun h r hr => of_decide_eq_true (h r hr), fun h r hr => decide_eq_true (h r hr)⟩
        walk_at "z"
        refine Z.wIf (fun hb => ?_) (fun hb => ?_)
        · walk_at "z"
          exact k _ _ ⟨by omega, by omega, ⟨hd, ea.mp hb⟩, fun j h1 h2 => hno j h1 h2⟩ (F5.sub (by walk_at "zsub"))
        · walk_at "z"
          exact ⟨_, _, rfl, F5.sub (by walk_at "zsub"), step fun c => by rw [ea.mpr c.2] at hb; cases hb⟩
      · walk_at "z"
        exact ⟨_, _, rfl, F3, step fun c => hd c.1⟩
    · rintro σ H3 ⟨v3, v4, rfl, F3, hno⟩
      walk_at "z"
      refine k _ _ ⟨p1, by omega, ⟨Int.emod_self, fun r hr => ?_⟩, fun j h1 h2 => hno j h1 (by omega)⟩ (F3.sub (by walk_at "zsub"))
      obtain ⟨r0, r1⟩ := hB.2 r hr
      rw [Int.add_emod_right, Int.emod_eq_of_lt r0 r1]
      exact hr
theorem ok__least_period (T : Txt K mg c_BadCalendar c_BadLength c_Calendar) : Z.Ok CX0 P w K mg base "_least_period" 1 ["period", "rests"] [] (sp__least_period K) := by
  obtain ⟨f, fd, F, g⟩ := T.d__least_period
  exact Z.mkOk F g (F.binds (ps := ["period", "rests"]) fun _ _ _ _ _ _ us hl => match us, hl with | [_, _], _ => rfl) (fn__least_period T F)
theorem use__least_period {H : Hp} {Q : VK} {E : XK} {L : List Z.En} {p : Int} {b : V} {rs : List Int} (F : Z.Fx H L) (p1 : 1 ≤ p) (p5 : p ≤ 5000) (hB : Below p rs) (hs : Z.SeqIs L b (some (rs.map V.int))) (k : ∀ m H', LeastP p rs m → Z.Fx H' L → Q (.int m) H') : sp__least_period K [.int p, b] H Q E :=
  ⟨_, _, rfl, L, p, rs, rfl, p1, p5, hB, F, hs, k⟩
theorem sc__least_before : FnScope ["before", "lengths", "period", "rests", "early", "late", "length", "rest"] ["before", "lengths", "period", "rests"] (defScope s__least_before) := ⟨rfl, rfl, rfl, by decide +kernel, rfl, by decide +kernel, by decide +kernel⟩
/-- from m on the lengths below b are as the rests tell -/
def Agree (b p : Int) (ls ks : List Int) (m : Int) : Prop := ∀ j, m ≤ j → j < b → (j ∈ ls ↔ j % p ∈ ks)
def LeastB (b p : Int) (ls ks : List Int) (m : Int) : Prop := 0 ≤ m ∧ m ≤ b ∧ Agree b p ls ks m ∧ (0 < m → ¬ ((m - 1) ∈ ls ↔ (m - 1) % p ∈ ks))
def sp__least_before (K : PySem.W.Frag) : Sp := Z.Sp4 fun a b c d H Q E => ∃ (L : List Z.En) (bz p : Int) (ls ks : List Int), a = .int bz ∧ c = .int p ∧ 0 ≤ bz ∧ bz ≤ 20000 ∧ 1 ≤ p ∧ p ≤ 5000 ∧ ls.length ≤ 20000 ∧ ks.length ≤ 20000 ∧ Z.Fx H L ∧ Z.SeqIs L b (some (ls.map V.int)) ∧ Z.SeqIs L d (some (ks.map V.int)) ∧ ∀ m H', LeastB bz p ls ks m → Z.Fx H' L → Q (.int m) H'
theorem fn__least_before (T : Txt K mg c_BadCalendar c_BadLength c_Calendar) {f : Addr} {fd : FuncData} (F : Fun K "_least_before" "_least_before" s__least_before f fd) : FnOk P w K mg base CX0 1 f fd ["before", "lengths", "period", "rests"] (sp__least_before K) := by
  refine F.ok sc__least_before (fun vs H Q E h => ?_) (fun cdv A outer s H vs Q E hr h => ?_)
  · obtain ⟨a, b, c, d, rfl, _⟩ := h; rfl
  · obtain ⟨a, b, c, d, rfl, h⟩ := h
    refine ⟨_, (pss_cons (by exact (Z.ps_setDc (i := 4) (own := [("length", 6)]) (g := (gName 6)) (by rfl) sc__least_before.nd rfl rfl (Z.sw_trueD rfl rfl rfl (by decide +kernel)) (Z.pi_seq (pv 1)) (blkOk_by (own := [("length", 6)]) (N := ["before", "lengths", "period", "rests", "early", "late", "length", "rest"]) (sc := defScope s__least_before) (by decide +kernel)) (fun _ _ _ _ _ => (by exact (pg_name (i := 6) sc__least_before.nd rfl (by first | exact Or.inl rfl | exact Or.inr rfl)))) (fun _ _ _ _ _ => (by exact pts_nil)) (fun _ _ _ _ _ => (by exact (pv 6))) (fun _ _ _ _ _ => (by exact pe_bl))))
      (pss_cons (by exact (Z.ps_setDc (i := 5) (own := [("rest", 7)]) (g := (gName 7)) (by rfl) sc__least_before.nd rfl rfl (Z.sw_trueD rfl rfl rfl (by decide +kernel)) (Z.pi_seq (pv 3)) (blkOk_by (own := [("rest", 7)]) (N := ["before", "lengths", "period", "rests", "early", "late", "length", "rest"]) (sc := defScope s__least_before) (by decide +kernel)) (fun _ _ _ _ _ => (by exact (pg_name (i := 7) sc__least_before.nd rfl (by first | exact Or.inl rfl | exact Or.inr rfl)))) (fun _ _ _ _ _ => (by exact pts_nil)) (fun _ _ _ _ _ => (by exact (pv 7))) (fun _ _ _ _ _ => (by exact pe_bl))))
      (pss_cons (ps_while PassesOwn.never (PW.pt (pw_and (pt_cmpR Z.zGt (pv 0) pe_int (nomark _)) (pw_and1 (pt_cmpR (Z.zEq (Z.hu0 hr)) (pe_cmpR (Z.op_inD (Z.hu1 hr)) (pe_op op_sub (pv 0) pe_int) (pv 4) (by rfl)) (pe_cmpR (Z.op_inD (Z.hu1 hr)) (pe_op Z.zMod (pe_op op_sub (pv 0) pe_int) (pv 2)) (pv 5) (by rfl)) (nomark _)))))
        (pss_one (ps_aug (i := 0) sc__least_before.nd rfl (by first | exact Or.inl rfl | exact Or.inr rfl) pe_int ip_sub)))
      (pss_one (ps_ret (pv 0)))))), ?_⟩
    try dsimp only [cxOf, Cx.nox, Cx.wish]
    refine Z.at_start (σ' := [some a, some b, some c, some d, none, none, none, none]) rfl ?_
    obtain ⟨L, bz, p, ls, ks, rfl, rfl, b0, b2, p1, p5, hl, hk, F, hs, ht, k⟩ := h
    walk_at "z"
    refine Z.wDcS hs F (fun i kvs L' => L' = L ∧ Z.KeysOf kvs (ls.take i)) ⟨rfl, Z.KeysOf.nil⟩ (fun i kvs L' r e he => r.1 ▸ he) ?_ ?_
    · rintro i x D H2 kvs L' hx ⟨rfl, hk⟩ F2
      obtain ⟨u, rfl, hu⟩ := Z.int_of_map' hx
      walk_at "zw"
      walk_at "z"
      refine ⟨rfl, ?_⟩
      walk_at "z"
      exact Z.dcPut F2 (hk.low (m := 20000) (by omega) (by decide)) ⟨rfl, hk.snocT hu⟩
    rintro D kvs L' H2 F2 ⟨rfl, hk1⟩
    rw [List.length_map, List.take_length] at hk1
    walk_at "z"
    refine Z.wDcS (ht.mono fun _ h => .tail _ h) F2 (fun i kvs2 L2 => L2 = (.ob D (.dK kvs) :: L') ∧ Z.KeysOf kvs2 (ks.take i)) ⟨rfl, Z.KeysOf.nil⟩ (fun i kvs L' r e he => r.1 ▸ he) ?_ ?_
    · rintro i x D H2 kvs L' hx ⟨rfl, hk⟩ F2
      obtain ⟨u, rfl, hu⟩ := Z.int_of_map' hx
      walk_at "zw"
      walk_at "z"
      refine ⟨rfl, ?_⟩
      walk_at "z"
      exact Z.dcPut F2 (hk.low (m := 20000) (by omega) (by decide)) ⟨rfl, hk.snocT hu⟩
    rintro D2 kvs2 L2 H3 F3 ⟨rfl, hk2⟩
    rw [List.length_map, List.take_length] at hk2
    walk_at "z"
    refine Z.wWhile (fun m σ H' => ∃ z : Int, σ = [some (.int z), some b, some (.int p), some d, some (.ref D), some (.ref D2), none, none] ∧ m = z.toNat ∧ 0 ≤ z ∧ z ≤ bz ∧ Z.Fx H' (.ob D2 (.dK kvs2) :: .ob D (.dK kvs) :: L') ∧ Agree bz p ls ks z) bz.toNat ⟨bz, rfl, rfl, b0, by omega, F3, fun j h1 h2 => by omega⟩ ?_
    rintro m σ H4 ⟨z, rfl, rfl, z0, zb, F4, ag⟩
    walk_at "y"
    refine Z.wIfD (fun hz => ?_) (fun hz => ?_)
    · walk_at "y"
      rw [hk1.1, hk2.1]
      refine Z.wIf (fun hb => ?_) (fun hb => ?_)
      · walk_at "z"
        have e : (z - 1 ∈ ls) ↔ ((z - 1) % p ∈ ks) := by simpa using hb
        refine ⟨_, ?_, z - 1, rfl, rfl, by omega, by omega, F4, fun j h1 h2 => ?_⟩
        · omega
        · by_cases ej : j = z - 1
          · subst ej; exact e
          · exact ag j (by omega) h2
      · walk_at "z"
        have e : ¬ ((z - 1 ∈ ls) ↔ ((z - 1) % p ∈ ks)) := by simpa using hb
        exact k _ _ ⟨z0, zb, ag, fun _ => e⟩ (F4.sub (by walk_at "zsub"))
    · walk_at "z"
      have e : z = 0 := by omega
      subst e
      exact k _ _ ⟨by omega, b0, ag, fun h => absurd h (by omega)⟩ (F4.sub (by walk_at "zsub"))
theorem ok__least_before (T : Txt K mg c_BadCalendar c_BadLength c_Calendar) : Z.Ok CX0 P w K mg base "_least_before" 1 ["before", "lengths", "period", "rests"] [] (sp__least_before K) := by
  obtain ⟨f, fd, F, g⟩ := T.d__least_before
  exact Z.mkOk F g (F.binds (ps := ["before", "lengths", "period", "rests"]) fun _ _ _ _ _ _ us hl => match us, hl with | [_, _, _, _], _ => rfl) (fn__least_before T F)
theorem use__least_before {H : Hp} {Q : VK} {E : XK} {L : List Z.En} {bz p : Int} {b d : V} {ls ks : List Int} (F : Z.Fx H L) (b0 : 0 ≤ bz) (b2 : bz ≤ 20000) (p1 : 1 ≤ p) (p5 : p ≤ 5000) (hl : ls.length ≤ 20000) (hk : ks.length ≤ 20000) (hs : Z.SeqIs L b (some (ls.map V.int))) (ht : Z.SeqIs L d (some (ks.map V.int))) (k : ∀ m H', LeastB bz p ls ks m → Z.Fx H' L → Q (.int m) H') : sp__least_before K [.int bz, b, .int p, d] H Q E :=
  ⟨_, _, _, _, rfl, L, bz, p, ls, ks, rfl, rfl, b0, b2, p1, p5, hl, hk, F, hs, ht, k⟩
theorem sc_Calendar___init__ : FnScope ["self", "before", "lengths", "period", "rests", "least", "kept", "rest", "length"] ["self", "before", "lengths", "period", "rests"] (defScope s_Calendar___init__) := ⟨rfl, rfl, rfl, by decide +kernel, rfl, by decide +kernel, by decide +kernel⟩
def calF (b l p r e t : V) : List (Str × V) := putF "_late" t (putF "_early" e (putF "rests" r (putF "period" p (putF "lengths" l (putF "before" b [])))))
theorem cal_before (b l p r e t : V) : (calF b l p r e t).lookup ("before" : Str) = some b := by
  unfold calF
  rw [lookup_putF, if_neg (by decide +kernel), lookup_putF, if_neg (by decide +kernel), lookup_putF, if_neg (by decide +kernel), lookup_putF, if_neg (by decide +kernel), lookup_putF, if_neg (by decide +kernel), lookup_putF, if_pos rfl]
theorem cal_lengths (b l p r e t : V) : (calF b l p r e t).lookup ("lengths" : Str) = some l := by
  unfold calF
  rw [lookup_putF, if_neg (by decide +kernel), lookup_putF, if_neg (by decide +kernel), lookup_putF, if_neg (by decide +kernel), lookup_putF, if_neg (by decide +kernel), lookup_putF, if_pos rfl]
theorem cal_period (b l p r e t : V) : (calF b l p r e t).lookup ("period" : Str) = some p := by
  unfold calF
  rw [lookup_putF, if_neg (by decide +kernel), lookup_putF, if_neg (by decide +kernel), lookup_putF, if_neg (by decide +kernel), lookup_putF, if_pos rfl]
theorem cal_rests (b l p r e t : V) : (calF b l p r e t).lookup ("rests" : Str) = some r := by
  unfold calF
  rw [lookup_putF, if_neg (by decide +kernel), lookup_putF, if_neg (by decide +kernel), lookup_putF, if_pos rfl]
theorem cal_early (b l p r e t : V) : (calF b l p r e t).lookup ("_early" : Str) = some e := by
  unfold calF
  rw [lookup_putF, if_neg (by decide +kernel), lookup_putF, if_pos rfl]
theorem cal_late (b l p r e t : V) : (calF b l p r e t).lookup ("_late" : Str) = some t := by
  unfold calF
  rw [lookup_putF, if_pos rfl]
/-- at y a calendar -/
def CalAt (cC : Addr) (L : List Z.En) (y : Addr) (b p : Int) (ls ks : List Int) : Prop := ∃ dx pl pr d1 d2 k1 k2, Z.En.ob y (.ins cC dx (calF (.int b) (.ref pl) (.int p) (.ref pr) (.ref d1) (.ref d2))) ∈ L ∧ Z.En.ob pl (.tup (ls.map V.int)) ∈ L ∧ Z.En.ob pr (.tup (ks.map V.int)) ∈ L ∧ Z.En.ob d1 (.dK k1) ∈ L ∧ Z.KeysOf k1 ls ∧ Z.En.ob d2 (.dK k2) ∈ L ∧ Z.KeysOf k2 ks
theorem CalAt.le {cC : Addr} {L L2 : List Z.En} {y : Addr} {b p : Int} {ls ks : List Int} (h : CalAt cC L y b p ls ks) (s : L.Sublist L2) : CalAt cC L2 y b p ls ks :=
  let ⟨dx, pl, pr, d1, d2, k1, k2, m1, m2, m3, m4, a1, m5, a2⟩ := h; ⟨dx, pl, pr, d1, d2, k1, k2, s.subset m1, s.subset m2, s.subset m3, s.subset m4, a1, s.subset m5, a2⟩
/-- what a calendar of these parts is in plain form -/
def PlainOf (bz pz : Int) (ls rs : List Int) (b m : Int) (ls' ks : List Int) : Prop := LeastP pz rs m ∧ ks = rs.filter (fun r => decide (r < m)) ∧ LeastB bz m ls ks b ∧ ls' = ls.filter (fun l => decide (l < b))
def sp_Calendar___init__ (K : PySem.W.Frag) (cC cB : Addr) : Sp := Z.Sp5 fun a b c d e H Q E => ∃ (L : List Z.En) (y dx : Addr) (ol om : Option (List V)) (k1 k2 : Z.Kd), a = .ref y ∧ Z.Fx H (.ob y (.ins cC dx []) :: .ob dx (.own y) :: L) ∧ Z.Thing L b k1 ∧ Z.Thing L d k2 ∧ Z.SeqIs L c ol ∧ (∀ xs, ol = some xs → ∀ x ∈ xs, ∃ k, Z.Thing L x k) ∧ Z.SeqIs L e om ∧ (∀ xs, om = some xs → ∀ x ∈ xs, ∃ k, Z.Thing L x k) ∧
  (∀ w, calW b ol d om = some w → ∀ e H', Z.Fx H' (.ob e (.xd [("what", .str w)]) :: L) → E (.ref cB) (some e) H') ∧
  (∀ bz pz ls rs bm m ls' ks, b = .int bz → d = .int pz → ol = some (ls.map V.int) → om = some (rs.map V.int) → CalOk bz pz ls rs → PlainOf bz pz ls rs bm m ls' ks → ∀ L1 H', L.Sublist L1 → CalAt cC L1 y bm m ls' ks → Z.Fx H' L1 → Q .non H')
theorem fn_Calendar___init__ (T : Txt K mg c_BadCalendar c_BadLength c_Calendar) {f : Addr} {fd : FuncData} (F : Fun K "__init__" "Calendar.__init__" s_Calendar___init__ f fd) : FnOk P w K mg base (L2.CX P w) 4 f fd ["self", "before", "lengths", "period", "rests"] (sp_Calendar___init__ K c_Calendar c_BadCalendar) := by
  have O__check_parts := ok__check_parts (P := P) (w := w) (base := base) T
  have O__least_before := ok__least_before (P := P) (w := w) (base := base) T
  have O__least_period := ok__least_period (P := P) (w := w) (base := base) T
  refine F.okX sc_Calendar___init__ (fun vs H Q E h => ?_) (fun cdv A outer s H vs Q E hr h => ?_)
  · obtain ⟨a, b, c, d, e, rfl, _⟩ := h; rfl
  · obtain ⟨a, b, c, d, e, rfl, h⟩ := h
    have TK := takes_of (X := cxOf (L2.CX P w) P w K mg base ["self", "before", "lengths", "period", "rests", "least", "kept", "rest", "length"] "Calendar.__init__" (defScope s_Calendar___init__) f cdv A outer s H E) rfl rfl rfl rfl
    refine ⟨_, (pss_cons (ps_expr (Z.pe_callO O__check_parts (by rfl) (hr.mono (by decide)) (Z.passE TK) (pa_cons (pv 1) (pa_cons (pv 2) (pa_cons (pv 3) (pa_cons (pv 4) pa_nil))))))
      (pss_cons (ps_set (i := 5) sc_Calendar___init__.nd rfl (by first | exact Or.inl rfl | exact Or.inr rfl) (Z.pe_callO O__least_period (by rfl) (hr.mono (by decide)) pass0 (pa_cons (pv 3) (pa_cons (pv 4) pa_nil))))
      (pss_cons (by exact (ps_setLc (i := 6) (own := [("rest", 7)]) (g := (gName 7)) (by rfl) sc_Calendar___init__.nd rfl rfl (sw_true rfl rfl rfl (by decide +kernel)) (Z.pi_seq (pv 4)) (blkOk_by (own := [("rest", 7)]) (N := ["self", "before", "lengths", "period", "rests", "least", "kept", "rest", "length"]) (sc := defScope s_Calendar___init__) (by decide +kernel)) (fun _ _ _ _ _ => (by exact (pg_name (i := 7) sc_Calendar___init__.nd rfl (by first | exact Or.inl rfl | exact Or.inr rfl)))) (fun _ _ _ _ _ => (by exact (pts_one (pt_cmpR Z.zLt (pv 7) (pv 5) (nomark _))))) (fun _ _ _ _ _ => (by exact (pv 7)))))
      (pss_cons (ps_fld (pv 0) (Z.pe_callO O__least_before (by rfl) (hr.mono (by decide)) pass0 (pa_cons (pv 1) (pa_cons (pv 2) (pa_cons (pv 5) (pa_cons (pv 6) pa_nil))))) rfl)
      (pss_cons (ps_fld (pv 0) (pe_callTy Z.zTuple (by rfl) T.b_tuple (by decide +kernel) (pa_cons (by exact (pe_lc (own := [("length", 8)]) (g := (gName 8)) (by rfl) sc_Calendar___init__.nd (Z.pi_seq (pv 2)) (blkOk_by (own := [("length", 8)]) (N := ["self", "before", "lengths", "period", "rests", "least", "kept", "rest", "length"]) (sc := defScope s_Calendar___init__) (by decide +kernel)) (fun _ _ _ _ _ => (by exact (pg_name (i := 8) sc_Calendar___init__.nd rfl (by first | exact Or.inl rfl | exact Or.inr rfl)))) (fun _ _ _ _ _ => (by exact (pts_one (pt_cmpR Z.zLt (pv 8) (show PE _ _ (tFld K (tVar 0) "before") from pe_fld (pv 0) rfl) (nomark _))))) (fun _ _ _ _ _ => (by exact (pv 8))))) pa_nil)) rfl)
      (pss_cons (ps_fld (pv 0) (pv 5) rfl)
      (pss_cons (ps_fld (pv 0) (pe_callTy Z.zTuple (by rfl) T.b_tuple (by decide +kernel) (pa_cons (pv 6) pa_nil)) rfl)
      (pss_cons (ps_fld (pv 0) (by exact (pe_dc (own := [("length", 8)]) (g := (gName 8)) (by rfl) sc_Calendar___init__.nd (Z.pi_seq (pe_fld (pv 0) rfl)) (blkOk_by (own := [("length", 8)]) (N := ["self", "before", "lengths", "period", "rests", "least", "kept", "rest", "length"]) (sc := defScope s_Calendar___init__) (by decide +kernel)) (fun _ _ _ _ _ => (by exact (pg_name (i := 8) sc_Calendar___init__.nd rfl (by first | exact Or.inl rfl | exact Or.inr rfl)))) (fun _ _ _ _ _ => (by exact pts_nil)) (fun _ _ _ _ _ => (by exact (pv 8))) (fun _ _ _ _ _ => (by exact pe_bl)))) rfl)
      (pss_one (ps_fld (pv 0) (by exact (pe_dc (own := [("rest", 7)]) (g := (gName 7)) (by rfl) sc_Calendar___init__.nd (Z.pi_seq (pv 6)) (blkOk_by (own := [("rest", 7)]) (N := ["self", "before", "lengths", "period", "rests", "least", "kept", "rest", "length"]) (sc := defScope s_Calendar___init__) (by decide +kernel)) (fun _ _ _ _ _ => (by exact (pg_name (i := 7) sc_Calendar___init__.nd rfl (by first | exact Or.inl rfl | exact Or.inr rfl)))) (fun _ _ _ _ _ => (by exact pts_nil)) (fun _ _ _ _ _ => (by exact (pv 7))) (fun _ _ _ _ _ => (by exact pe_bl)))) rfl)))))))))), ?_⟩
    try dsimp only [cxOf, Cx.nox, Cx.wish]
    refine Z.at_start (σ' := [some a, some b, some c, some d, some e, none, none, none, none]) rfl ?_
    obtain ⟨L, y, dx, ol, om, k1, k2, rfl, F, hb, hd, hc, tc, he, te, kE, kQ⟩ := h
    have hcl := T.i_Calendar.cl
    have sub : ∀ e ∈ L, e ∈ (Z.En.ob y (.ins c_Calendar dx []) :: Z.En.ob dx (.own y) :: L) := fun e h => .tail _ (.tail _ h)
    walk_at "z"
    refine use__check_parts F (hb.mono sub) (hd.mono sub) (hc.mono sub) (fun xs e x hx => let ⟨k, t⟩ := tc xs e x hx; ⟨k, t.mono sub⟩) (he.mono sub) (fun xs e x hx => let ⟨k, t⟩ := te xs e x hx; ⟨k, t.mono sub⟩) (fun w hw e H' F' => kE w hw e H' (F'.sub (.cons_cons _ (.cons _ (.cons _ (.refl _)))))) fun hw H1 F1 => ?_
    obtain ⟨bz, pz, ls, rs, rfl, rfl, rfl, rfl, ok⟩ := calW_data hw
    obtain ⟨b0, b1, p0, p1, e1, e2⟩ := id ok
    have l1 := e1.len b0
    have l2 := e2.len (by omega)
    walk_at "z"
    refine use__least_period F1 p0 p1 e2 (he.mono sub) fun m H2 lp F2 => ?_
    obtain ⟨m1, m2, _⟩ := id lp
    walk_at "z"
    refine Z.wLcS (he.mono sub) F2 (fun i acc L' => L' = (Z.En.ob y (.ins c_Calendar dx []) :: Z.En.ob dx (.own y) :: L) ∧ acc = ((rs.take i).filter (fun r => decide (r < m))).map V.int) ⟨rfl, rfl⟩ (fun i acc L' r e he => r.1 ▸ he) ?_ ?_
    · rintro i x D H3 acc L' hx ⟨rfl, rfl⟩ F3
      obtain ⟨u, rfl, hu⟩ := Z.int_of_map' hx
      walk_at "zw"
      walk_at "z"
      refine ⟨rfl, ?_⟩
      walk_at "z"
      have hlen : (((rs.take i).filter fun r => decide (r < m)).map V.int).length < sizeLine := by
        have a := List.length_filter_le (fun r => decide (r < m)) (rs.take i)
        have := Z.line_big
        rw [List.length_map]
        rw [List.length_take] at a
        omega
      refine Z.wIfD (fun h => ?_) (fun h => ?_)
      · walk_at "z"
        exact Z.lcPut F3 hlen ⟨rfl, by rw [Z.filt_take hu, if_pos (decide_eq_true h), List.map_append]; rfl⟩
      · exact ⟨_, _, F3, rfl, by rw [Z.filt_take hu, if_neg (by simpa using h), List.append_nil]⟩
    rintro D acc L' H3 F3 ⟨rfl, rfl⟩
    rw [List.length_map, List.take_length] at F3
    walk_at "z"
    refine use__least_before (ls := ls) (ks := rs.filter (fun r => decide (r < m))) F3 b0 b1 m1 (by omega) (by omega) (by have := List.length_filter_le (fun r => decide (r < m)) rs; omega) (hc.mono fun e h => .tail _ (sub e h)) (.lst List.mem_cons_self) fun b H4 lb F4 => ?_
    walk_at "z"
    refine Z.wStoreF F4 (.tail _ (.head _)) hcl T.n_Calendar_before (by decide) (.tail .head) fun H5 F5 => ?_
    walk_at "z"
    refine Z.wLcS (hc.mono fun e h => .tail _ (.tail _ (.tail _ h))) F5 (fun i acc L' => L' = (Z.En.ob D (.lst ((rs.filter fun r => decide (r < m)).map V.int)) :: Z.En.ob y (.ins c_Calendar dx (putF "before" (.int b) [])) :: Z.En.ob dx (.own y) :: L) ∧ acc = ((ls.take i).filter (fun l => decide (l < b))).map V.int) ⟨rfl, rfl⟩ (fun i acc L' r e he => r.1 ▸ he) ?_ ?_
    · rintro i x D2 H6 acc L' hx ⟨rfl, rfl⟩ F6
      obtain ⟨u, rfl, hu⟩ := Z.int_of_map' hx
      walk_at "zw"
      walk_at "z"
      refine ⟨rfl, ?_⟩
      walk_at "z"
      refine Z.wFldAt F6 (.tail _ (.tail _ (.head _))) hcl T.n_Calendar_before (by rw [lookup_putF, if_pos rfl]) ?_
      walk_at "z"
      have hlen : (((ls.take i).filter fun r => decide (r < b)).map V.int).length < sizeLine := by
        have a := List.length_filter_le (fun r => decide (r < b)) (ls.take i)
        have := Z.line_big
        rw [List.length_map]
        rw [List.length_take] at a
        omega
      refine Z.wIfD (fun h => ?_) (fun h => ?_)
      · walk_at "z"
        exact Z.lcPut F6 hlen ⟨rfl, by rw [Z.filt_take hu, if_pos (decide_eq_true h), List.map_append]; rfl⟩
      · exact ⟨_, _, F6, rfl, by rw [Z.filt_take hu, if_neg (by simpa using h), List.append_nil]⟩
    rintro D2 acc L' H6 F6 ⟨rfl, rfl⟩
    rw [List.length_map, List.take_length] at F6
    walk_at "z"
    rename_i p H7 F7
    refine Z.wStoreF F7 (.tail _ (.tail _ (.tail _ (.head _)))) hcl T.n_Calendar_lengths (Nat.lt_of_le_of_lt (putF_le (Nat.le_refl 0)) (by decide)) (.tail (.tail (.tail .head))) fun H8 F8 => ?_
    walk_at "z"
    refine Z.wStoreF F8 (.tail _ (.tail _ (.tail _ (.head _)))) hcl T.n_Calendar_period (Nat.lt_of_le_of_lt (putF_le (putF_le (Nat.le_refl 0))) (by decide)) (.tail (.tail (.tail .head))) fun H9 F9 => ?_
    walk_at "z"
    rename_i p2 H10 F10
    refine Z.wStoreF F10 (.tail _ (.tail _ (.tail _ (.tail _ (.head _))))) hcl T.n_Calendar_rests (Nat.lt_of_le_of_lt (putF_le (putF_le (putF_le (Nat.le_refl 0)))) (by decide)) (.tail (.tail (.tail (.tail .head)))) fun H11 F11 => ?_
    walk_at "z"
    refine Z.wFldAt F11 (.tail _ (.tail _ (.tail _ (.tail _ (.head _))))) hcl T.n_Calendar_lengths (by rw [lookup_putF, if_neg (by decide +kernel), lookup_putF, if_neg (by decide +kernel), lookup_putF, if_pos rfl]) ?_
    have fl1 := List.length_filter_le (fun l => decide (l < b)) ls
    have fl2 := List.length_filter_le (fun r => decide (r < m)) rs
    refine Z.wDcS (xs := (ls.filter fun l => decide (l < b)).map V.int) (.tup (.tail _ (.head _))) F11 (fun i kvs L' => L' = _ ∧ Z.KeysOf kvs ((ls.filter fun l => decide (l < b)).take i)) ⟨rfl, Z.KeysOf.nil⟩ (fun i kvs L' r e he => r.1 ▸ he) ?_ ?_
    · rintro i x D4 H2 kvs L' hx ⟨rfl, hk⟩ F2
      obtain ⟨u, rfl, hu⟩ := Z.int_of_map' hx
      walk_at "zw"
      walk_at "z"
      refine ⟨rfl, ?_⟩
      walk_at "z"
      exact Z.dcPut F2 (hk.low (m := 20000) (by omega) (by decide)) ⟨rfl, hk.snocT hu⟩
    rintro D4 kvs4 L' H12 F12 ⟨rfl, hk4⟩
    rw [List.length_map, List.take_length] at hk4
    walk_at "z"
    refine Z.wStoreF F12 (.tail _ (.tail _ (.tail _ (.tail _ (.tail _ (.head _)))))) hcl T.n_Calendar__early (Nat.lt_of_le_of_lt (putF_le (putF_le (putF_le (putF_le (Nat.le_refl 0))))) (by decide)) (.tail (.tail (.tail (.tail (.tail .head))))) fun H13 F13 => ?_
    walk_at "z"
    refine Z.wDcW (walk_list (K := K) (xs := (rs.filter fun r => decide (r < m)).map V.int)) F13 (fun i kvs L' => L' = _ ∧ Z.KeysOf kvs ((rs.filter fun r => decide (r < m)).take i)) ⟨rfl, Z.KeysOf.nil⟩ (fun i kvs L' D' H' r F' => F'.lst (.tail _ (r.1 ▸ .tail _ (.tail _ (.tail _ (.tail _ (.head _))))))) ?_ ?_
    · rintro i x D5 H1 H2 kvs L' hi ⟨rfl, hk⟩ F2 ⟨rfl, hx⟩
      obtain ⟨u, rfl, hu⟩ := Z.int_of_map' hx
      walk_at "zw"
      walk_at "z"
      refine ⟨rfl, ?_⟩
      walk_at "z"
      exact Z.dcPut F2 (hk.low (m := 20000) (by omega) (by decide)) ⟨rfl, hk.snocT hu⟩
    rintro D5 kvs5 L' H14 F14 ⟨rfl, hk5⟩
    rw [List.length_map, List.take_length] at hk5
    walk_at "z"
    refine Z.wStoreF F14 (.tail _ (.tail _ (.tail _ (.tail _ (.tail _ (.tail _ (.head _))))))) hcl T.n_Calendar__late (Nat.lt_of_le_of_lt (putF_le (putF_le (putF_le (putF_le (putF_le (Nat.le_refl 0)))))) (by decide)) (.tail (.tail (.tail (.tail (.tail (.tail .head)))))) fun H15 F15 => ?_
    walk_at "z"
    refine kQ bz pz ls rs b m _ _ rfl rfl rfl rfl ok ⟨lp, rfl, lb, rfl⟩ _ _ ?_ ⟨dx, p, p2, D4, D5, kvs4, kvs5, .tail _ (.tail _ (.tail _ (.tail _ (.tail _ (.tail _ (.head _)))))), .tail _ (.tail _ (.tail _ (.head _))), .tail _ (.tail _ (.head _)), .tail _ (.head _), hk4, .head _, hk5⟩ F15
    exact .cons _ (.cons _ (.cons _ (.cons _ (.cons _ (.cons _ (.cons _ (.cons _ (.refl _))))))))
theorem ok_Calendar___init___4 (T : Txt K mg c_BadCalendar c_BadLength c_Calendar) : Z.MkO (L2.CX P w) P w K mg base c_Calendar 4 ["self", "before", "lengths", "period", "rests"] [] (sp_Calendar___init__ K c_Calendar c_BadCalendar) := by
  obtain ⟨f, fd, F, i⟩ := T.d_Calendar___init__
  exact ⟨f, fd, [], i, (F.binds (ps := ["self", "before", "lengths", "period", "rests"]) fun _ _ _ _ _ _ us hl => match us, hl with | [_, _, _, _, _], _ => rfl), .nil, fn_Calendar___init__ T F⟩
theorem num_inj {a b : List Int} (h : some (a.map V.int) = some (b.map V.int)) : a = b := by
  have e := Option.some.inj h
  have e2 := congrArg (List.map intV) e
  rw [intV_map, intV_map] at e2
  exact e2
theorem num_things {L : List Z.En} {ls : List Int} : ∀ xs, some (ls.map V.int) = some xs → ∀ x ∈ xs, ∃ k, Z.Thing L x k := fun xs e x hx => by
  cases e
  obtain ⟨z, _, rfl⟩ := List.mem_map.mp hx
  exact ⟨_, .int z⟩
theorem use_Calendar {cC cB : Addr} {H : Hp} {QX : Addr → Hp → Prop} {E : XK} {L : List Z.En} {b c d e : V} {ol om : Option (List V)} {k1 k2 : Z.Kd} (F : Z.Fx H L) (hb : Z.Thing L b k1) (hd : Z.Thing L d k2) (hc : Z.SeqIs L c ol) (tc : ∀ xs, ol = some xs → ∀ x ∈ xs, ∃ k, Z.Thing L x k) (he : Z.SeqIs L e om) (te : ∀ xs, om = some xs → ∀ x ∈ xs, ∃ k, Z.Thing L x k)
    (kE : ∀ w, calW b ol d om = some w → ∀ e H', Z.Fx H' (.ob e (.xd [("what", .str w)]) :: L) → E (.ref cB) (some e) H')
    (kQ : ∀ bz pz ls rs bm m ls' ks, b = .int bz → d = .int pz → ol = some (ls.map V.int) → om = some (rs.map V.int) → CalOk bz pz ls rs → PlainOf bz pz ls rs bm m ls' ks → ∀ y L1 H', L.Sublist L1 → CalAt cC L1 y bm m ls' ks → Z.Fx H' L1 → QX y H') :
    ∀ y dx, H y = none → H dx = none → dx ≠ y → sp_Calendar___init__ K cC cB [.ref y, b, c, d, e] (upd (upd H dx (.own y)) y (.ins cC dx [])) (fun v H2 => v = .non ∧ QX y H2) E := fun y dx hy hdx ne =>
  ⟨_, _, _, _, _, rfl, L, y, dx, ol, om, k1, k2, rfl, F.inst hy hdx ne, hb, hd, hc, tc, he, te, kE, fun bz pz ls rs bm m ls' ks h1 h2 h3 h4 h5 h6 L1 H' s ca F' => ⟨rfl, kQ bz pz ls rs bm m ls' ks h1 h2 h3 h4 h5 h6 y L1 H' s ca F'⟩⟩
theorem use_CalendarG {cC cB : Addr} {H : Hp} {QX : Addr → Hp → Prop} {E : XK} {L : List Z.En} {c e : V} {b p : Int} {ls rs : List Int} (F : Z.Fx H L) (ok : CalOk b p ls rs) (hc : Z.SeqIs L c (some (ls.map V.int))) (he : Z.SeqIs L e (some (rs.map V.int)))
    (kQ : ∀ bm m ls' ks, PlainOf b p ls rs bm m ls' ks → ∀ y L1 H', L.Sublist L1 → CalAt cC L1 y bm m ls' ks → Z.Fx H' L1 → QX y H') :
    ∀ y dx, H y = none → H dx = none → dx ≠ y → sp_Calendar___init__ K cC cB [.ref y, .int b, c, .int p, e] (upd (upd H dx (.own y)) y (.ins cC dx [])) (fun v H2 => v = .non ∧ QX y H2) E :=
  use_Calendar F (.int _) (.int _) hc num_things he num_things (fun w hw => by rw [calW_good ok] at hw; cases hw) fun bz pz l2 r2 bm m ls' ks e1 e2 e3 e4 _ pl y L1 H' s ca F' => by
    injection e1 with e1
    injection e2 with e2
    subst e1 e2
    obtain rfl := num_inj e3
    obtain rfl := num_inj e4
    exact kQ bm m ls' ks pl y L1 H' s ca F'
theorem sc__law_whole : FnScope ["_law_thing"] ["_law_thing"] (defScope s__law_whole) := ⟨rfl, rfl, rfl, by decide +kernel, rfl, by decide +kernel, by decide +kernel⟩
def isI (v : V) : Bool := match v with | .int _ => true | _ => false
def sp__law_whole (K : PySem.W.Frag) : Sp := Z.Sp1 fun a H Q E => ∃ k, Z.HasK K H a k ∧ Q (.bl (isI a)) H
theorem fn__law_whole (T : Txt K mg c_BadCalendar c_BadLength c_Calendar) {f : Addr} {fd : FuncData} (F : Fun K "_law_whole" "_law_whole" s__law_whole f fd) : FnOk P w K mg base CX0 1 f fd ["_law_thing"] (sp__law_whole K) := by
  refine F.ok sc__law_whole (fun vs H Q E h => ?_) (fun cdv A outer s H vs Q E hr h => ?_)
  · obtain ⟨a, rfl, _⟩ := h; rfl
  · obtain ⟨a, rfl, h⟩ := h
    refine ⟨_, (pss_one (ps_ret (pe_andT (pe_callB Z.zIsi (by rfl) T.b_isinstance (by decide +kernel) (pa_cons (pv 0) (pa_cons (pe_bltn (by rfl) T.b_int (by decide +kernel) (show RelV (.ty "int") _ from rfl)) pa_nil))) (pe_one (pe_notT (pe_callB Z.zIsi (by rfl) T.b_isinstance (by decide +kernel) (pa_cons (pv 0) (pa_cons (pe_bltn (by rfl) T.b_bool (by decide +kernel) (show RelV (.ty "bool") _ from rfl)) pa_nil)))))))), ?_⟩
    try dsimp only [cxOf, Cx.nox, Cx.wish]
    refine Z.at_start (σ' := [some a]) rfl ?_
    obtain ⟨k, hk, q⟩ := h
    walk_at "z"
    refine Z.wIsiInt hk ?_
    cases hk with
    | int i =>
      walk_at "z"
      refine Z.wIsiBool (.int i) ?_
      walk_at "z"
      exact q
    | bl b =>
      walk_at "z"
      refine Z.wIsiBool (.bl b) ?_
      walk_at "z"
      exact q
    | _ =>
      walk_at "z"
      exact q
theorem ok__law_whole (T : Txt K mg c_BadCalendar c_BadLength c_Calendar) : Z.Ok CX0 P w K mg base "_law_whole" 1 ["_law_thing"] [] (sp__law_whole K) := by
  obtain ⟨f, fd, F, g⟩ := T.d__law_whole
  exact Z.mkOk F g (F.binds (ps := ["_law_thing"]) fun _ _ _ _ _ _ us hl => match us, hl with | [_], _ => rfl) (fn__law_whole T F)
theorem use__law_whole {H : Hp} {Q : VK} {E : XK} {a : V} {k : Z.Kd} (hk : Z.HasK K H a k) (q : Q (.bl (isI a)) H) : sp__law_whole K [a] H Q E := ⟨_, rfl, k, hk, q⟩
local macro_rules | `(tactic| walk_at "zc") => `(tactic| ((with_reducible refine' use__law_whole ?zk ?_); (case zk => walk_at "zk")))
theorem sc__law_row : FnScope ["_law_told", "_law_parts", "_law_part"] ["_law_told"] (defScope s__law_row) := ⟨rfl, rfl, rfl, by decide +kernel, rfl, by decide +kernel, by decide +kernel⟩
/-- at a the row of a plain form -/
def RowAt (L : List Z.En) (a : Addr) (b m : Int) (ls ks : List Int) : Prop := ∃ p q, Z.En.ob a (.tup [.int b, .ref p, .int m, .ref q]) ∈ L ∧ Z.En.ob p (.tup (ls.map V.int)) ∈ L ∧ Z.En.ob q (.tup (ks.map V.int)) ∈ L
theorem RowAt.le {L L2 : List Z.En} {a : Addr} {b m : Int} {ls ks : List Int} (h : RowAt L a b m ls ks) (s : L.Sublist L2) : RowAt L2 a b m ls ks := let ⟨p, q, h1, h2, h3⟩ := h; ⟨p, q, s.subset h1, s.subset h2, s.subset h3⟩
def sp__law_row (K : PySem.W.Frag) (cC : Addr) : Sp := Z.Sp1 fun a H Q E => ∃ (L : List Z.En) (y : Addr) (b m : Int) (ls ks : List Int), a = .ref y ∧ Z.Fx H L ∧ CalAt cC L y b m ls ks ∧ ls.length ≤ 20000 ∧ ks.length ≤ 20000 ∧ ∀ p L1 H', L.Sublist L1 → RowAt L1 p b m ls ks → Z.Fx H' L1 → Q (.ref p) H'
theorem fn__law_row (T : Txt K mg c_BadCalendar c_BadLength c_Calendar) {f : Addr} {fd : FuncData} (F : Fun K "_law_row" "_law_row" s__law_row f fd) : FnOk P w K mg base CX0 2 f fd ["_law_told"] (sp__law_row K c_Calendar) := by
  have O__law_whole := ok__law_whole (P := P) (w := w) (base := base) T
  refine F.ok sc__law_row (fun vs H Q E h => ?_) (fun cdv A outer s H vs Q E hr h => ?_)
  · obtain ⟨a, rfl, _⟩ := h; rfl
  · obtain ⟨a, rfl, h⟩ := h
    refine ⟨_, (pss_cons (ps_if (PW.pt (pw_or (pt_not (Z.pt_truN (pe_callB Z.zIsi (by rfl) T.b_isinstance (by decide +kernel) (pa_cons (pv 0) (pa_cons (pe_glob (v := V.ref c_Calendar) (by rfl) T.g_Calendar (show RelV (V.ref _) _ from rfl)) pa_nil))))) (pw_or (pt_not (Z.pt_truN (pe_callB Z.zIsi (by rfl) T.b_isinstance (by decide +kernel) (pa_cons (pe_fld (pv 0) rfl) (pa_cons (pe_bltn (by rfl) T.b_tuple (by decide +kernel) (show RelV (.ty "tuple") _ from rfl)) pa_nil))))) (pw_or1 (pt_not (Z.pt_truN (pe_callB Z.zIsi (by rfl) T.b_isinstance (by decide +kernel) (pa_cons (pe_fld (pv 0) rfl) (pa_cons (pe_bltn (by rfl) T.b_tuple (by decide +kernel) (show RelV (.ty "tuple") _ from rfl)) pa_nil)))))))))
        (pss_one (ps_ret pe_non))
        pss_nil)
      (pss_cons (ps_set (i := 1) sc__law_row.nd rfl (by first | exact Or.inl rfl | exact Or.inr rfl) (pe_op Z.zAdd (pe_op Z.zAdd (pe_lst (pa_cons (pe_fld (pv 0) rfl) (pa_cons (pe_fld (pv 0) rfl) pa_nil))) (pe_callTy Z.zList (by rfl) T.b_list (by decide +kernel) (pa_cons (pe_fld (pv 0) rfl) pa_nil))) (pe_callTy Z.zList (by rfl) T.b_list (by decide +kernel) (pa_cons (pe_fld (pv 0) rfl) pa_nil))))
      (pss_cons (ps_if (Z.pt_truN (by exact (pe_lc (own := [("_law_part", 2)]) (g := (gName 2)) (by rfl) sc__law_row.nd (Z.pi_seq (pv 1)) (blkOk_by (own := [("_law_part", 2)]) (N := ["_law_told", "_law_parts", "_law_part"]) (sc := defScope s__law_row) (by decide +kernel)) (fun _ _ _ _ _ => (by exact (pg_name (i := 2) sc__law_row.nd rfl (by first | exact Or.inl rfl | exact Or.inr rfl)))) (fun _ _ _ _ _ => (by exact (pts_one (pt_not (show PT _ _ (Z.rTru K _) from Z.pt_truN (Z.pe_callO O__law_whole (by rfl) (hr.mono (by decide)) pass0 (pa_cons (pv 2) pa_nil))))))) (fun _ _ _ _ _ => (by exact (pv 2))))))
        (pss_one (ps_ret pe_non))
        pss_nil)
      (pss_one (ps_ret (pe_tup (pa_cons (pe_fld (pv 0) rfl) (pa_cons (pe_fld (pv 0) rfl) (pa_cons (pe_fld (pv 0) rfl) (pa_cons (pe_fld (pv 0) rfl) pa_nil)))))))))), ?_⟩
    try dsimp only [cxOf, Cx.nox, Cx.wish]
    refine Z.at_start (σ' := [some a, none, none]) rfl ?_
    obtain ⟨L, y, b, m, ls, ks, rfl, F, ⟨dx, pl, pr, d1, d2, k1, k2, m1, m2, m3, m4, a1, m5, a2⟩, hl, hk, k⟩ := h
    have hcl := T.i_Calendar.cl
    walk_at "z"
    refine Z.wIsiOwn T.i_Calendar (F.get m1) ?_
    walk_at "z"
    refine Z.wFldAt F m1 hcl T.n_Calendar_lengths (cal_lengths _ _ _ _ _ _) ?_
    walk_at "z"
    refine Z.wIsiTuple (.tup (F.tup m2)) ?_
    walk_at "z"
    refine Z.wFldAt F m1 hcl T.n_Calendar_rests (cal_rests _ _ _ _ _ _) ?_
    walk_at "z"
    refine Z.wIsiTuple (.tup (F.tup m3)) ?_
    walk_at "z"
    refine Z.wFldAt F m1 hcl T.n_Calendar_before (cal_before _ _ _ _ _ _) ?_
    walk_at "z"
    refine Z.wFldAt F m1 hcl T.n_Calendar_period (cal_period _ _ _ _ _ _) ?_
    walk_at "z"
    rename_i p0 H0 F0
    refine Z.wFldAt F0 (.tail _ m1) hcl T.n_Calendar_lengths (cal_lengths _ _ _ _ _ _) ?_
    walk_at "z"
    rename_i q1 H1 F1 q2 H2 F2
    refine Z.wFldAt F2 (.tail _ (.tail _ (.tail _ m1))) hcl T.n_Calendar_rests (cal_rests _ _ _ _ _ _) ?_
    walk_at "z"
    rename_i q3 H3 F3 q4 H4 F4
    have el : [V.int b, V.int m] ++ ls.map V.int ++ ks.map V.int = (b :: m :: (ls ++ ks)).map V.int := by simp
    rw [el] at F4
    refine Z.wLcW (walk_list (K := K) (xs := (b :: m :: (ls ++ ks)).map V.int)) F4 (fun i acc L' => L' = _ ∧ acc = []) ⟨rfl, rfl⟩ (fun i acc L' D H' r F' => F'.lst (.tail _ (r.1 ▸ .head _))) ?_ ?_
    · rintro i x D H1 H2 acc L' hi ⟨rfl, rfl⟩ F5 ⟨rfl, hx⟩
      obtain ⟨u, rfl, hu⟩ := Z.int_of_map' hx
      walk_at "zw"
      walk_at "z"
      refine ⟨rfl, ?_⟩
      walk_at "z"
      exact ⟨_, _, F5, rfl, rfl⟩
    rintro D acc L' H5 F5 ⟨rfl, rfl⟩
    walk_at "z"
    have M : ∀ e, e ∈ L → e ∈ (Z.En.ob D (.lst []) :: Z.En.ob q4 (.lst ((b :: m :: (ls ++ ks)).map V.int)) :: Z.En.ob q3 (.lst (ks.map V.int)) :: Z.En.ob q2 (.lst ([V.int b, V.int m] ++ ls.map V.int)) :: Z.En.ob q1 (.lst (ls.map V.int)) :: Z.En.ob p0 (.lst [.int b, .int m]) :: L) := fun e h => .tail _ (.tail _ (.tail _ (.tail _ (.tail _ (.tail _ h)))))
    refine Z.wFldAt F5 (M _ m1) hcl T.n_Calendar_before (cal_before _ _ _ _ _ _) ?_
    walk_at "z"
    refine Z.wFldAt F5 (M _ m1) hcl T.n_Calendar_lengths (cal_lengths _ _ _ _ _ _) ?_
    walk_at "z"
    refine Z.wFldAt F5 (M _ m1) hcl T.n_Calendar_period (cal_period _ _ _ _ _ _) ?_
    walk_at "z"
    refine Z.wFldAt F5 (M _ m1) hcl T.n_Calendar_rests (cal_rests _ _ _ _ _ _) ?_
    walk_at "z"
    rename_i p9 H9 F9
    exact k p9 _ H9 (.cons _ (.cons _ (.cons _ (.cons _ (.cons _ (.cons _ (.cons _ (.refl _)))))))) ⟨pl, pr, .head _, .tail _ (M _ m2), .tail _ (M _ m3)⟩ F9
theorem ok__law_row (T : Txt K mg c_BadCalendar c_BadLength c_Calendar) : Z.Ok CX0 P w K mg base "_law_row" 2 ["_law_told"] [] (sp__law_row K c_Calendar) := by
  obtain ⟨f, fd, F, g⟩ := T.d__law_row
  exact Z.mkOk F g (F.binds (ps := ["_law_told"]) fun _ _ _ _ _ _ us hl => match us, hl with | [_], _ => rfl) (fn__law_row T F)
theorem use__law_row {cC : Addr} {H : Hp} {Q : VK} {E : XK} {L : List Z.En} {y : Addr} {b m : Int} {ls ks : List Int} (F : Z.Fx H L) (hc : CalAt cC L y b m ls ks) (hl : ls.length ≤ 20000) (hk : ks.length ≤ 20000) (k : ∀ p L1 H', L.Sublist L1 → RowAt L1 p b m ls ks → Z.Fx H' L1 → Q (.ref p) H') : sp__law_row K cC [.ref y] H Q E :=
  ⟨_, rfl, L, y, b, m, ls, ks, rfl, F, hc, hl, hk, k⟩
theorem sc__law_plain : FnScope ["_law_world_here", "_law_early", "_law_wheel", "_law_before", "_law_period", "_law_size", "_law_number", "_law_lengths", "_law_rests", "_law_rest"] ["_law_world_here"] (defScope s__law_plain) := ⟨rfl, rfl, rfl, by decide +kernel, rfl, by decide +kernel, by decide +kernel⟩
/-- the wheel w comes round after l -/
def Per (w : List Bool) (l : Nat) : Prop := ∀ z : Nat, w.getD (z % w.length) false = w.getD ((z + l) % w.length) false
theorem in_idx {w : List Bool} {i : Nat} : ((i : Nat) : Int) ∈ idx w ↔ w.getD i false = true := by
  rw [mem_idx]
  constructor
  · rintro ⟨j, e, h⟩
    have e2 : i = j := by omega
    subst e2
    rw [List.getD_eq_getElem?_getD, h]
    rfl
  · intro h
    refine ⟨i, rfl, ?_⟩
    rw [List.getD_eq_getElem?_getD] at h
    cases e : w[i]? with
    | none => rw [e]
          at h; cases h
    | some b => rw [e] at h; rw [show b = true from h]
theorem per_clo {w : List Bool} {l : Nat} (w0 : 0 < w.length) (hl : w.length % l = 0) : Per w l ↔ Clo w.length (idx w) l := by
  have cast : ∀ z : Nat, (((z % w.length : Nat) : Int) + (l : Int)) % (w.length : Int) = (((z + l) % w.length : Nat) : Int) := fun z => by
    rw [← Int.natCast_add, ← Int.natCast_emod, Nat.mod_add_mod]
  constructor
  · intro h
    refine ⟨by rw [← Int.natCast_emod, hl]; rfl, fun r hr => ?_⟩
    obtain ⟨i, rfl, hi⟩ := mem_idx.mp hr
    have il := (List.getElem?_eq_some_iff.mp hi).1
    have c := cast i
    rw [Nat.mod_eq_of_lt il] at c
    rw [c, in_idx, ← h i, Nat.mod_eq_of_lt il]
    exact in_idx.mp hr
  · rintro ⟨_, h⟩ z
    have up : ∀ z : Nat, w.getD (z % w.length) false = true → w.getD ((z + l) % w.length) false = true := fun z hz => by
      have := h _ (in_idx.mpr hz)
      rwa [cast z, in_idx] at this
    have ups : ∀ (k z : Nat), w.getD (z % w.length) false = true → w.getD ((z + k * l) % w.length) false = true := by
      intro k
      induction k with
      | zero => intro z hz; simpa using hz
      | succ k ih =>
        intro z hz
        have := up _ (ih z hz)
        rwa [show z + k * l + l = z + (k + 1) * l by rw [Nat.add_mul, Nat.one_mul]; omega] at this
    have down : w.getD ((z + l) % w.length) false = true → w.getD (z % w.length) false = true := fun hz => by
      obtain ⟨q, hq⟩ := Nat.dvd_of_mod_eq_zero hl
      have q0 : 0 < q := Nat.pos_of_ne_zero fun e => by subst e; omega
      have := ups (q - 1) _ hz
      rw [show z + l + (q - 1) * l = z + w.length by
        rw [hq, Nat.mul_comm l q]
        have e : q = (q - 1) + 1 := by omega
        have e2 : q * l = (q - 1) * l + l := by
          conv => lhs; rw [e, Nat.add_mul, Nat.one_mul]
        omega, Nat.add_mod_right] at this
      exact this
    cases e1 : w.getD (z % w.length) false with
    | true => exact (up z e1).symm
    | false =>
      cases e2 : w.getD ((z + l) % w.length) false with
      | true => rw [down e2] at e1; cases e1
      | false => rfl
theorem rep_at {t : List Bool} {l : Nat} (ht : t.length = l) (l0 : 0 < l) : ∀ (q i : Nat), i < q * l → (List.replicate q t).flatten[i]? = t[i % l]? := by
  intro q
  induction q with
  | zero => intro i h; omega
  | succ q ih =>
    intro i h
    rw [List.replicate_succ,
          List.flatten_cons]
    by_cases hi : i < l
    · rw [List.getElem?_append_left (by omega), Nat.mod_eq_of_lt hi]
    · rw [List.getElem?_append_right (by omega), ht, ih (i - l) (by rw [Nat.add_mul, Nat.one_mul] at h; omega), ← Nat.mod_eq_sub_mod (by omega)]
theorem rep_len {t : List Bool} {l : Nat} (ht : t.length = l) : ∀ q : Nat, (List.replicate q t).flatten.length = q * l := by
  intro q
  induction q with
  | zero => simp
  | succ q ih => rw [List.replicate_succ, List.flatten_cons, List.length_append, ih, ht, Nat.add_mul, Nat.one_mul, Nat.add_comm]
theorem getD_lt {w : List Bool} {i j : Nat} (hi : i < w.length) (hj : j < w.length) : w[i]? = w[j]? ↔ w.getD i false = w.getD j false := by
  rw [List.getD_eq_getElem?_getD, List.getD_eq_getElem?_getD,
        List.getElem?_eq_getElem hi, List.getElem?_eq_getElem hj]
  simp
theorem per_rep {w : List Bool} {l : Nat} (w0 : 0 < w.length) (l0 : 0 < l) (hl : w.length % l = 0) : Per w l ↔ w = (List.replicate (w.length / l) (w.take l)).flatten := by
  have hd := Nat.dvd_of_mod_eq_zero hl
  have hle := Nat.le_of_dvd w0 hd
  have hq : w.length / l * l = w.length := Nat.div_mul_cancel hd
  have ht : (w.take l).length = l := by rw [List.length_take]; omega
  have at' : ∀ i, i < w.length → (List.replicate (w.length / l) (w.take l)).flatten[i]? = w[i % l]? := fun i hi => by
    rw [rep_at ht l0 _ _ (by omega), List.getElem?_take, if_pos (Nat.mod_lt _ l0)]
  constructor
  · intro h
    have pers : ∀ k z : Nat, w.getD (z % w.length) false = w.getD ((z + k * l) % w.length) false := by
      intro k
      induction k with
      | zero => intro z; simp
      | succ k ih =>
        intro z
        rw [ih z, h (z + k * l), show z + k * l + l = z + (k + 1) * l by rw [Nat.add_mul, Nat.one_mul]; omega]
    refine List.ext_getElem? fun i => ?_
    by_cases hi : i < w.length
    · rw [at' i hi]
      have hm : i % l < w.length := Nat.lt_of_lt_of_le (Nat.mod_lt _ l0) hle
      rw [getD_lt hi hm]
      have := pers (i / l) (i % l)
      rw [show i % l + i / l * l = i from Nat.mod_add_div' i l, Nat.mod_eq_of_lt hi, Nat.mod_eq_of_lt hm] at this
      exact this.symm
    · rw [List.getElem?_eq_none (by omega), List.getElem?_eq_none (by rw [rep_len ht, hq]; omega)]
  · intro h z
    have hi : z % w.length < w.length := Nat.mod_lt _ w0
    have hj : (z + l) % w.length < w.length := Nat.mod_lt _ w0
    have key : ∀ i, i < w.length → w[i]? = w[i % l]? := fun i hi => (congrArg (fun x : List Bool => x[i]?) h).trans (at' i hi)
    rw [← getD_lt hi hj, key _ hi, key _ hj, Nat.mod_mod_of_dvd _ hd, Nat.mod_mod_of_dvd _ hd, Nat.add_mod_right]
theorem per_mod {w : List Bool} {l : Nat} (w0 : 0 < w.length) (l0 : 0 < l) (hl : w.length % l = 0) (h : Per w l) (y : Nat) : w.getD (y % w.length) false = w.getD (y % l) false := by
  have hd := Nat.dvd_of_mod_eq_zero hl
  have hle := Nat.le_of_dvd w0 hd
  have pers : ∀ k z : Nat, w.getD (z % w.length) false = w.getD ((z + k * l) % w.length) false := by
    intro k
    induction k with
    | zero => intro z; simp
    | succ k ih =>
      intro z
      rw [ih z, h (z + k * l), show z + k * l + l = z + (k + 1) * l by rw [Nat.add_mul, Nat.one_mul]; omega]
  have := pers (y / l) (y % l)
  rw [show y % l + y / l * l = y from Nat.mod_add_div' y l, Nat.mod_eq_of_lt (Nat.lt_of_lt_of_le (Nat.mod_lt _ l0) hle)] at this
  exact this.symm
/-- an answer one period on, where all behind agrees -/
theorem yes_next {e w : List Bool} {m z : Int} (w0 : 0 < w.length) (m1 : 1 ≤ m) (mc : Clo w.length (idx w) m) (z0 : 0 ≤ z) (ag : Agree e.length m (idx e) ((idx w).filter fun r => decide (r < m)) (z + 1)) :
    yesI e w (z + m) = decide (z % m ∈ (idx w).filter fun r => decide (r < m)) := by
  obtain ⟨l, rfl⟩ := Int.eq_ofNat_of_zero_le (show 0 ≤ m by omega)
  obtain ⟨y, hy⟩ := Int.eq_ofNat_of_zero_le (show 0 ≤ z + (l : Int) by omega)
  have em : (z + (l : Int)) % (l : Int) = z % (l : Int) := Int.add_emod_right _ _
  have hm := Int.emod_lt_of_pos z (show (0 : Int) < l by omega)
  unfold yesI
  by_cases h : z + (l : Int) < e.length
  · rw [if_pos h, Bool.eq_iff_iff, decide_eq_true_iff, ← em, ← ag (z + l) (by omega) h, hy, Int.toNat_natCast]
    exact in_idx.symm
  · have hl : w.length % l = 0 := by
      have := mc.1
      rw [← Int.natCast_emod] at this
      exact Int.ofNat.inj this
    have hp := per_mod w0 (by omega) hl ((per_clo w0 hl).mpr mc) y
    rw [if_neg h, Bool.eq_iff_iff, decide_eq_true_iff, List.mem_filter, decide_eq_true_iff, ← em, hy, ← Int.natCast_emod, ← Int.natCast_emod, Int.toNat_natCast, hp, ← in_idx]
    have : ((y % l : Nat) : Int) < (l : Int) := by have := Nat.mod_lt y (show 0 < l by omega); omega
    exact ⟨fun a => ⟨a, this⟩, fun a => a.1⟩
def sp__law_plain (K : PySem.W.Frag) : Sp := Z.Sp1 fun a H Q E => ∃ (L : List Z.En) (x : Addr) (e w : List Bool), a = .ref x ∧ Z.Fx H L ∧ WorldAt L x e w ∧ 0 < w.length ∧ w.length ≤ 5000 ∧ e.length ≤ 20000 ∧ ∀ b m ls ks, PlainOf e.length w.length (idx e) (idx w) b m ls ks → ∀ p L1 H', L.Sublist L1 → RowAt L1 p b m ls ks → Z.Fx H' L1 → Q (.ref p) H'
theorem fn__law_plain (T : Txt K mg c_BadCalendar c_BadLength c_Calendar) {f : Addr} {fd : FuncData} (F : Fun K "_law_plain" "_law_plain" s__law_plain f fd) : FnOk P w K mg base CX0 2 f fd ["_law_world_here"] (sp__law_plain K) := by
  have O__law_yes := ok__law_yes (P := P) (w := w) (base := base) T
  refine F.ok sc__law_plain (fun vs H Q E h => ?_) (fun cdv A outer s H vs Q E hr h => ?_)
  · obtain ⟨a, rfl, _⟩ := h; rfl
  · obtain ⟨a, rfl, h⟩ := h
    refine ⟨_, (pss_cons (ps_asg (pv 0) (pg_tup (by rfl) (pgs_cons (pg_name (i := 1) sc__law_plain.nd rfl (by first | exact Or.inl rfl | exact Or.inr rfl)) (pgs_cons (pg_name (i := 2) sc__law_plain.nd rfl (by first | exact Or.inl rfl | exact Or.inr rfl)) pgs_nil))))
      (pss_cons (ps_set (i := 3) sc__law_plain.nd rfl (by first | exact Or.inl rfl | exact Or.inr rfl) (pe_callB Z.zLen (by rfl) T.b_len (by decide +kernel) (pa_cons (pv 1) pa_nil)))
      (pss_cons (ps_set (i := 4) sc__law_plain.nd rfl (by first | exact Or.inl rfl | exact Or.inr rfl) (pe_callB Z.zLen (by rfl) T.b_len (by decide +kernel) (pa_cons (pv 2) pa_nil)))
      (pss_cons (ps_for PassesOwn.never (by rfl) (pi_range2 (by rfl) T.b_range (pa_cons pe_int (pa_cons (pe_op Z.zAdd (pe_callB Z.zLen (by rfl) T.b_len (by decide +kernel) (pa_cons (pv 2) pa_nil)) pe_int) pa_nil))) (pg_name (i := 5) sc__law_plain.nd rfl (by first | exact Or.inl rfl | exact Or.inr rfl))
        (pss_one (ps_if (PW.pt (pw_and (pt_cmpR (Z.zEq (Z.hu0 hr)) (pe_op Z.zMod (pe_callTy Z.zInt (by rfl) T.b_int (by decide +kernel) (pa_cons (pe_callB Z.zLen (by rfl) T.b_len (by decide +kernel) (pa_cons (pv 2) pa_nil)) pa_nil)) (pv 5)) pe_int (nomark _)) (pw_and1 (pt_cmpR (Z.zEq (Z.hu0 hr)) (pv 2) (pe_op Z.zMul (pe_slice Z.zSl (pv 2) po_none (po_some (pv 5))) (pe_op Z.zDiv (pe_callB Z.zLen (by rfl) T.b_len (by decide +kernel) (pa_cons (pv 2) pa_nil)) (pv 5))) (nomark _)))))
          (pss_cons (ps_set (i := 4) sc__law_plain.nd rfl (by first | exact Or.inl rfl | exact Or.inr rfl) (pv 5))
          (pss_one ps_break))
          pss_nil)))
      (pss_cons (ps_for PassesOwn.never (by rfl) (pi_revR (by rfl) T.b_reversed (prg_1 (by rfl) T.b_range (pe_callB Z.zLen (by rfl) T.b_len (by decide +kernel) (pa_cons (pv 1) pa_nil)))) (pg_name (i := 6) sc__law_plain.nd rfl (by first | exact Or.inl rfl | exact Or.inr rfl))
        (pss_cons (ps_if (pt_cmpR (Z.zNe (Z.hu0 hr)) (pe_ix ix_seq (pv 1) (pv 6) (fun _ _ => rfl)) (Z.pe_callO O__law_yes (by rfl) (hr.mono (by decide)) pass0 (pa_cons (pv 0) (pa_cons (pe_op Z.zAdd (pv 6) (pv 4)) pa_nil))) (nomark _))
          (pss_one ps_break)
          pss_nil)
        (pss_one (ps_set (i := 3) sc__law_plain.nd rfl (by first | exact Or.inl rfl | exact Or.inr rfl) (pv 6)))))
      (pss_cons (ps_set (i := 7) sc__law_plain.nd rfl (by first | exact Or.inl rfl | exact Or.inr rfl) (pe_callTy Z.zTuple (by rfl) T.b_tuple (by decide +kernel) (pa_cons (by exact (pe_lc (own := [("_law_number", 6)]) (g := (gName 6)) (by rfl) sc__law_plain.nd (pi_range1 (by rfl) T.b_range (pa_cons (pv 3) pa_nil)) (blkOk_by (own := [("_law_number", 6)]) (N := ["_law_world_here", "_law_early", "_law_wheel", "_law_before", "_law_period", "_law_size", "_law_number", "_law_lengths", "_law_rests", "_law_rest"]) (sc := defScope s__law_plain) (by decide +kernel)) (fun _ _ _ _ _ => (by exact (pg_name (i := 6) sc__law_plain.nd rfl (by first | exact Or.inl rfl | exact Or.inr rfl)))) (fun _ _ _ _ _ => (by exact (pts_one (show PT _ _ (Z.rTru K _) from Z.pt_truN (pe_ix (show IxR _ (rIx K) from ix_seq) (pv 1) (pv 6) (fun _ _ => rfl)))))) (fun _ _ _ _ _ => (by exact (pv 6))))) pa_nil)))
      (pss_cons (ps_set (i := 8) sc__law_plain.nd rfl (by first | exact Or.inl rfl | exact Or.inr rfl) (pe_callTy Z.zTuple (by rfl) T.b_tuple (by decide +kernel) (pa_cons (by exact (pe_lc (own := [("_law_rest", 9)]) (g := (gName 9)) (by rfl) sc__law_plain.nd (pi_range1 (by rfl) T.b_range (pa_cons (pv 4) pa_nil)) (blkOk_by (own := [("_law_rest", 9)]) (N := ["_law_world_here", "_law_early", "_law_wheel", "_law_before", "_law_period", "_law_size", "_law_number", "_law_lengths", "_law_rests", "_law_rest"]) (sc := defScope s__law_plain) (by decide +kernel)) (fun _ _ _ _ _ => (by exact (pg_name (i := 9) sc__law_plain.nd rfl (by first | exact Or.inl rfl | exact Or.inr rfl)))) (fun _ _ _ _ _ => (by exact (pts_one (show PT _ _ (Z.rTru K _) from Z.pt_truN (pe_ix (show IxR _ (rIx K) from ix_seq) (pv 2) (pv 9) (fun _ _ => rfl)))))) (fun _ _ _ _ _ => (by exact (pv 9))))) pa_nil)))
      (pss_one (ps_ret (pe_tup (pa_cons (pv 3) (pa_cons (pv 7) (pa_cons (pv 4) (pa_cons (pv 8) pa_nil)))))))))))))), ?_⟩
    try dsimp only [cxOf, Cx.nox, Cx.wish]
    refine Z.at_start (σ' := [some a, none, none, none, none, none, none, none, none, none]) rfl ?_
    obtain ⟨L, x, e, w, rfl, F, ⟨p, q, h1, h2, h3⟩, w0, w5, e2, k⟩ := h
    walk_at "y"
    refine Z.wMidS (fun σ' H' => ∃ (m : Int) (v5 : Option V), σ' = [some (.ref x), some (.ref p), some (.ref q), some (.int e.length), some (.int m), v5, none, none, none, none] ∧ LeastP w.length (idx w) m ∧ Z.Fx H' L) (fun N hk => ?_) ?_
    · walk_at "z"
      rw [List.length_map, List.length_map]
      refine Z.wForW walk_range (fun i σ H' => ∃ v5, σ = [some (.ref x), some (.ref p), some (.ref q), some (.int e.length), some (.int w.length), v5, none, none, none, none] ∧ Z.Fx H' L ∧ ∀ j, 1 ≤ j → j < 1 + (i : Int) → ¬ Clo w.length (idx w) j) ?_ (fun _ _ _ _ _ => trivial) ?_ ?_
      · exact ⟨_, rfl, F, fun j h1 h2 => by omega⟩
      · rintro i x σ H3 H4 hi ⟨v5, rfl, F3, hno⟩ ⟨rfl, rfl⟩
        have hi' : i < w.length := by omega
        have step : ¬ Clo w.length (idx w) (1 + (i : Int)) → ∀ j, 1 ≤ j → j < 1 + ((i + 1 : Nat) : Int) → ¬ Clo w.length (idx w) j := fun h j h1 h2 => by
          by_cases e : j = 1 + (i : Int)
          · rw [e]; exact h
          · exact hno j h1 (by omega)
        walk_at "z"
        rw [List.length_map]
        walk_at "z"
        refine Z.wIfD (fun hd => ?_) (fun hd => ?_)
        · walk_at "z"
          rename_i c Hc Fc
          rw [Z.cut_take (by omega), show (1 + (i : Int)).toNat = i + 1 by omega, ← List.map_take] at Fc
          rw [List.length_map]
          have dq : (w.length : Int) / (1 + (i : Int)) = ((w.length / (i + 1) : Nat) : Int) := by rw [show (1 + (i : Int)) = ((i + 1 : Nat) : Int) by omega, Int.natCast_ediv]
          have dle := Nat.div_le_self w.length (i + 1)
          have dml := Nat.mul_div_le w.length (i + 1)
          have hdN : w.length % (i + 1) = 0 := by
            have := hd
            rw [show (1 + (i : Int)) = ((i + 1 : Nat) : Int) by omega, ← Int.natCast_emod] at this
            exact Int.ofNat.inj this
          have e0 : (1 + (i : Int)) ≠ 0 := by omega
          refine Z.wI ⟨by omega, Z.log_small (by omega) (by omega)⟩ ?_
          rw [dq]
          refine Z.wRepL Fc (.head _) (Int.le_trans (by decide) (Int.natCast_nonneg _)) (Int.lt_of_le_of_lt (Int.ofNat_le.mpr dle) (by omega)) (by rw [List.length_map, List.length_take, Int.toNat_natCast, Nat.min_eq_left (by omega)]; omega) fun r Hr Fr => ?_
          rw [Int.toNat_natCast, show (List.replicate (w.length / (i + 1)) ((w.take (i + 1)).map V.bl)).flatten = ((List.replicate (w.length / (i + 1)) (w.take (i + 1))).flatten).map V.bl by rw [List.map_flatten, List.map_replicate]] at Fr
          refine Z.wEqBL Fr (.tail _ (.tail _ h3)) (.head _) ?_
          have key := (per_rep w0 (Nat.succ_pos i) hdN).symm.trans (per_clo w0 hdN)
          walk_at "z"
          have key2 : w = (List.replicate (w.length / (i + 1)) (w.take (i + 1))).flatten ↔ Clo w.length (idx w) (1 + (i : Int)) := by
            rw [show (1 + (i : Int)) = ((i + 1 : Nat) : Int) by omega]
            exact key
          refine Z.wIfD (fun he => ?_) (fun he => ?_)
          · walk_at "z"
            exact hk _ _ ⟨_, _, rfl, ⟨by omega, by omega, key2.mp he, fun j h1 h2 => hno j h1 h2⟩, Fr.sub (by walk_at "zsub")⟩
          · walk_at "z"
            exact ⟨_, rfl, Fr.sub (by walk_at "zsub"), step fun c => he (key2.mpr c)⟩
        · walk_at "z"
          exact ⟨_, rfl, F3, step fun c => hd c.1⟩
      · rintro σ H3 ⟨v5, rfl, F3, hno⟩
        refine absurd ?_ (hno w.length (by omega) (by omega))
        refine ⟨Int.emod_self, fun r hr => ?_⟩
        obtain ⟨r0, r1⟩ := (idx_below w).2 r hr
        rw [Int.add_emod_right, Int.emod_eq_of_lt r0 r1]
        exact hr
    rintro _ H1 ⟨m, v5, rfl, lp, F1⟩
    obtain ⟨m1, m2, mc, _⟩ := id lp
    walk_at "y"
    refine Z.wMidS (fun σ' H' => ∃ (b : Int) (v6 : Option V), σ' = [some (.ref x), some (.ref p), some (.ref q), some (.int b), some (.int m), v5, v6, none, none, none] ∧ LeastB e.length m (idx e) ((idx w).filter fun r => decide (r < m)) b ∧ Z.Fx H' L) (fun N hk => ?_) ?_
    · walk_at "z"
      rw [List.length_map]
      refine Z.wGoRev (by omega) (by omega) ?_
      refine Z.wForW walk_rangeC (fun i σ H' => ∃ v6, σ = [some (.ref x), some (.ref p), some (.ref q), some (.int ((e.length : Int) - i)), some (.int m), v5, v6, none, none, none] ∧ Z.Fx H' L ∧ (i : Int) ≤ e.length ∧ Agree e.length m (idx e) ((idx w).filter fun r => decide (r < m)) ((e.length : Int) - i)) ?_ (fun _ _ _ _ _ => trivial) ?_ ?_
      · exact ⟨_, by rw [show ((e.length : Int) - ((0 : Nat) : Int)) = e.length by omega], F1, by omega, fun j h1 h2 => by omega⟩
      · rintro i x σ H3 H4 hi ⟨v6, rfl, F3, hie, ag⟩ ⟨rfl, rfl⟩
        have hi' : i < e.length := by omega
        obtain ⟨z, ez⟩ : ∃ z : Int, z = (e.length : Int) - 1 + (i : Int) * (-1) := ⟨_, rfl⟩
        have z0 : 0 ≤ z := by omega
        have z1 : z < e.length := by omega
        have ea := atB z0 z1
        have en := yes_next w0 m1 mc z0 (by rw [show z + 1 = (e.length : Int) - i by omega]; exact ag)
        dsimp only
        rw [← ez]
        walk_at "z"
        refine use__law_yes F3 ⟨p, q, h1, h2, h3⟩ (by omega) w0 ?_
        rw [en]
        walk_at "z"
        have hin : (z ∈ idx e) ↔ e.getD z.toNat false = true := by
          obtain ⟨j, rfl⟩ := Int.eq_ofNat_of_zero_le z0
          exact in_idx
        refine Z.wIf (fun hb => ?_) (fun hb => ?_)
        · walk_at "z"
          refine hk _ _ ⟨_, _, rfl, ⟨by omega, by omega, ag, fun _ => ?_⟩, F3⟩
          rw [show (e.length : Int) - i - 1 = z by omega, hin]
          intro hc
          cases hg : e.getD z.toNat false <;> simp_all
        · walk_at "z"
          refine ⟨_, by rw [show (e.length : Int) - ((i + 1 : Nat) : Int) = z by omega], F3, by omega, fun j h1 h2 => ?_⟩
          by_cases ej : j = z
          · subst ej
            rw [hin]
            cases hg : e.getD j.toNat false <;> simp_all
          · exact ag j (by omega) h2
      · rintro σ H3 ⟨v6, rfl, F3, hie, ag⟩
        refine hk _ _ ⟨_, _, rfl, ⟨by omega, by omega, ag, fun h => absurd h (by omega)⟩, F3⟩
    rintro _ H2 ⟨b, v6, rfl, lb, F2⟩
    obtain ⟨b0, b1, _, _⟩ := id lb
    walk_at "z"
    refine Z.wLcW walk_range F2 (fun i acc L' => L' = L ∧ acc = (idx (e.take i)).map V.int) ⟨rfl, rfl⟩ (fun _ _ _ _ _ _ _ => trivial) ?_ ?_
    · rintro i v D H3 H4 acc L' hi ⟨rfl, rfl⟩ F3 ⟨rfl, rfl⟩
      have hi' : i < e.length := by omega
      have ea : atI (e.map V.bl) (0 + (i : Int)) = some (V.bl (e.getD i false)) := by
        have := atB (e := e) (z := 0 + (i : Int)) (by omega) (by omega)
        rwa [show (0 + (i : Int)).toNat = i by omega] at this
      have hv : e[i]? = some (e.getD i false) := by rw [List.getElem?_eq_getElem hi', List.getD_eq_getElem?_getD, List.getElem?_eq_getElem hi']; rfl
      generalize e.getD i false = v at ea hv
      have hlen : ((idx (e.take i)).map V.int).length < sizeLine := by
        have a := (idx_below (e.take i)).len (by omega)
        have := Z.line_big
        rw [List.length_map]
        rw [List.length_take] at a
        omega
      walk_at "zw"
      walk_at "z"
      refine ⟨rfl, ?_⟩
      walk_at "z"
      cases v with
      | true =>
        walk_at "z"
        exact Z.lcPut F3 hlen ⟨rfl, by rw [idx_take hv, if_pos rfl, List.map_append, Int.zero_add]; rfl⟩
      | false =>
        walk_at "z"
        exact ⟨_, _, F3, rfl, by rw [idx_take hv, if_neg (by decide), List.append_nil]⟩
    rintro D acc L' H3 F3 ⟨rfl, rfl⟩
    rw [idx_take_filter, Int.toNat_of_nonneg (by omega)] at F3
    walk_at "z"
    rename_i pl H4 F4
    refine Z.wLcW walk_range F4 (fun i acc L2 => L2 = _ ∧ acc = (idx (w.take i)).map V.int) ⟨rfl, rfl⟩ (fun _ _ _ _ _ _ _ => trivial) ?_ ?_
    · rintro i v D2 H5 H6 acc L2 hi ⟨rfl, rfl⟩ F5 ⟨rfl, rfl⟩
      have hi' : i < w.length := by omega
      have ea : atI (w.map V.bl) (0 + (i : Int)) = some (V.bl (w.getD i false)) := by
        have := atB (e := w) (z := 0 + (i : Int)) (by omega) (by omega)
        rwa [show (0 + (i : Int)).toNat = i by omega] at this
      have hv : w[i]? = some (w.getD i false) := by rw [List.getElem?_eq_getElem hi', List.getD_eq_getElem?_getD, List.getElem?_eq_getElem hi']; rfl
      generalize w.getD i false = v at ea hv
      have hlen : ((idx (w.take i)).map V.int).length < sizeLine := by
        have a := (idx_below (w.take i)).len (by omega)
        have := Z.line_big
        rw [List.length_map]
        rw [List.length_take] at a
        omega
      walk_at "zw"
      walk_at "z"
      refine ⟨rfl, ?_⟩
      walk_at "z"
      cases v with
      | true =>
        walk_at "z"
        exact Z.lcPut F5 hlen ⟨rfl, by rw [idx_take hv, if_pos rfl, List.map_append, Int.zero_add]; rfl⟩
      | false =>
        walk_at "z"
        exact ⟨_, _, F5, rfl, by rw [idx_take hv, if_neg (by decide), List.append_nil]⟩
    rintro D2 acc L2 H5 F5 ⟨rfl, rfl⟩
    rw [idx_take_filter, Int.toNat_of_nonneg (by omega)] at F5
    walk_at "z"
    rename_i pr H6 F6 pt H7 F7
    exact k _ _ _ _ ⟨lp, rfl, lb, rfl⟩ pt _ _ (.cons _ (.cons _ (.cons _ (.cons _ (.cons _ (.refl _)))))) ⟨pl, pr, .head _, .tail _ (.tail _ (.tail _ (.head _))), .tail _ (.head _)⟩ F7
theorem ok__law_plain (T : Txt K mg c_BadCalendar c_BadLength c_Calendar) : Z.Ok CX0 P w K mg base "_law_plain" 2 ["_law_world_here"] [] (sp__law_plain K) := by
  obtain ⟨f, fd, F, g⟩ := T.d__law_plain
  exact Z.mkOk F g (F.binds (ps := ["_law_world_here"]) fun _ _ _ _ _ _ us hl => match us, hl with | [_], _ => rfl) (fn__law_plain T F)
theorem use__law_plain {H : Hp} {Q : VK} {E : XK} {L : List Z.En} {x : Addr} {e w : List Bool} (F : Z.Fx H L) (wa : WorldAt L x e w) (w0 : 0 < w.length) (w5 : w.length ≤ 5000) (e2 : e.length ≤ 20000) (k : ∀ b m ls ks, PlainOf e.length w.length (idx e) (idx w) b m ls ks → ∀ p L1 H', L.Sublist L1 → RowAt L1 p b m ls ks → Z.Fx H' L1 → Q (.ref p) H') : sp__law_plain K [.ref x] H Q E := ⟨_, rfl, L, x, e, w, rfl, F, wa, w0, w5, e2, k⟩
theorem sc__law_second : FnScope ["_law_hand_here", "_law_world_here", "_law_early", "_law_wheel", "_law_kind", "_law_at", "_law_turned"] ["_law_hand_here", "_law_world_here"] (defScope s__law_second) := ⟨rfl, rfl, rfl, by decide +kernel, rfl, by decide +kernel, by decide +kernel⟩
theorem flat_two (w : List V) : (List.replicate (Int.toNat 2) w).flatten = w ++ w := by
  rw [show Int.toNat 2 = 2 from rfl, List.replicate_succ, List.replicate_one, List.flatten_cons, List.flatten_singleton]
def sp__law_second (K : PySem.W.Frag) : Sp := Z.Sp2 fun a b H Q E => ∃ (L : List Z.En) (l c x : Addr) (e w : List Bool), a = .ref l ∧ b = .ref x ∧ Z.Fx H L ∧ Z.En.hand5 l c ∈ L ∧ WorldAt L x e w ∧ 0 < w.length ∧ w.length ≤ 400 ∧ e.length ≤ 400 ∧ ∀ (e2 w2 : List Bool) p L1 H', WOk e2 w2 → L.Sublist L1 → WorldAt L1 p e2 w2 → Z.Fx H' L1 → Q (.ref p) H'
theorem fn__law_second (T : Txt K mg c_BadCalendar c_BadLength c_Calendar) {f : Addr} {fd : FuncData} (F : Fun K "_law_second" "_law_second" s__law_second f fd) : FnOk P w K mg base CX0 4 f fd ["_law_hand_here", "_law_world_here"] (sp__law_second K) := by
  have O__law_draw := ok__law_draw (P := P) (w := w) (base := base) T
  have O__law_world := ok__law_world (P := P) (w := w) (base := base) T
  have O__law_yes := ok__law_yes (P := P) (w := w) (base := base) T
  refine F.ok sc__law_second (fun vs H Q E h => ?_) (fun cdv A outer s H vs Q E hr h => ?_)
  · obtain ⟨a, b, rfl, _⟩ := h; rfl
  · obtain ⟨a, b, rfl, h⟩ := h
    refine ⟨_, (pss_cons (ps_asg (pv 1) (pg_tup (by rfl) (pgs_cons (pg_name (i := 2) sc__law_second.nd rfl (by first | exact Or.inl rfl | exact Or.inr rfl)) (pgs_cons (pg_name (i := 3) sc__law_second.nd rfl (by first | exact Or.inl rfl | exact Or.inr rfl)) pgs_nil))))
      (pss_cons (ps_set (i := 4) sc__law_second.nd rfl (by first | exact Or.inl rfl | exact Or.inr rfl) (Z.pe_callO O__law_draw (by rfl) (hr.mono (by decide)) pass0 (pa_cons (pv 0) (pa_cons pe_int pa_nil))))
      (pss_cons (ps_if (pt_cmpR (Z.zEq (Z.hu0 hr)) (pv 4) pe_int (nomark _))
        (pss_one (ps_ret (pe_tup (pa_cons (pe_op Z.zAdd (pv 2) (pe_lst (pa_cons (Z.pe_callO O__law_yes (by rfl) (hr.mono (by decide)) pass0 (pa_cons (pv 1) (pa_cons (pe_callB Z.zLen (by rfl) T.b_len (by decide +kernel) (pa_cons (pv 2) pa_nil)) pa_nil))) pa_nil))) (pa_cons (pe_op Z.zMul (pv 3) pe_int) pa_nil)))))
        pss_nil)
      (pss_cons (ps_if (PW.pt (pw_and (pt_cmpR (Z.zEq (Z.hu0 hr)) (pv 4) pe_int (nomark _)) (pw_and1 (Z.pt_truN (pv 2)))))
        (pss_cons (ps_set (i := 5) sc__law_second.nd rfl (by first | exact Or.inl rfl | exact Or.inr rfl) (Z.pe_callO O__law_draw (by rfl) (hr.mono (by decide)) pass0 (pa_cons (pv 0) (pa_cons (pe_callB Z.zLen (by rfl) T.b_len (by decide +kernel) (pa_cons (pv 2) pa_nil)) pa_nil))))
        (pss_one (ps_ret (pe_tup (pa_cons (pe_op Z.zAdd (pe_op Z.zAdd (pe_slice Z.zSl (pv 2) po_none (po_some (pv 5))) (pe_lst (pa_cons (pe_notT (pe_ix ix_seq (pv 2) (pv 5) (fun _ _ => rfl))) pa_nil))) (pe_slice Z.zSl (pv 2) (po_some (pe_op Z.zAdd (pv 5) pe_int)) po_none)) (pa_cons (pv 3) pa_nil))))))
        pss_nil)
      (pss_cons (ps_if (pt_cmpR (Z.zEq (Z.hu0 hr)) (pv 4) pe_int (nomark _))
        (pss_cons (ps_set (i := 5) sc__law_second.nd rfl (by first | exact Or.inl rfl | exact Or.inr rfl) (Z.pe_callO O__law_draw (by rfl) (hr.mono (by decide)) pass0 (pa_cons (pv 0) (pa_cons (pe_op Z.zMul pe_int (pe_callB Z.zLen (by rfl) T.b_len (by decide +kernel) (pa_cons (pv 3) pa_nil))) pa_nil))))
        (pss_cons (ps_set (i := 6) sc__law_second.nd rfl (by first | exact Or.inl rfl | exact Or.inr rfl) (pe_op Z.zMul (pv 3) pe_int))
        (pss_cons (ps_asg (pe_notT (pe_ix ix_seq (pv 6) (pv 5) (fun _ _ => rfl))) (pg_sub (pv 6) (pv 5) set_list))
        (pss_one (ps_ret (pe_tup (pa_cons (pv 2) (pa_cons (pv 6) pa_nil))))))))
        pss_nil)
      (pss_one (ps_ret (Z.pe_callO O__law_world (by rfl) (hr.mono (by decide)) pass0 (pa_cons (pv 0) pa_nil))))))))), ?_⟩
    try dsimp only [cxOf, Cx.nox, Cx.wish]
    refine Z.at_start (σ' := [some a, some b, none, none, none, none, none]) rfl ?_
    obtain ⟨L, l, c, x, e, w, rfl, rfl, F, mh, wa, w0, w5, e2, k⟩ := h
    obtain ⟨p, q, h1, h2, h3⟩ := id wa
    walk_at "y"
    rename_i kd H1 F1 k0 k1
    refine Z.wMidS (fun σ' H' => σ' = [some (.ref l), some (.ref x), some (.ref p), some (.ref q), some (.int kd), none, none] ∧ Z.Fx H' L) (fun N hk => ?_) ?_
    · walk_at "z"
      refine Z.wIfD (fun h => ?_) (fun h => ?_)
      · walk_at "z"
        rw [List.length_map]
        refine use__law_yes F1 wa (by omega) w0 ?_
        walk_at "z"
        rename_i q1 H2 F2 q2 H3 F3
        refine Z.wRepL F3 (.tail _ (.tail _ h3)) (by decide) (by decide) (by rw [List.length_map, show Int.toNat 2 = 2 from rfl]; omega) fun q3 H4 F4 => ?_
        rw [flat_two, ← List.map_append] at F4
        walk_at "z"
        rename_i q4 H5 F5
        rw [show e.map V.bl ++ [V.bl (yesI e w e.length)] = (e ++ [yesI e w e.length]).map V.bl by rw [List.map_append]; rfl] at F5
        exact k _ _ q4 _ _ ⟨by rw [List.length_append]; omega, by rw [List.length_append]; omega, by rw [List.length_append, List.length_singleton]; omega⟩ (.cons _ (.cons _ (.cons _ (.cons _ (.refl _))))) ⟨q2, q3, .head _, .tail _ (.tail _ (.head _)), .tail _ (.head _)⟩ F5
      · walk_at "z"
        exact hk _ _ ⟨rfl, F1⟩
    clear F1
    rintro _ H1 ⟨rfl, F1⟩
    walk_at "y"
    refine Z.wMidS (fun σ' H' => ∃ H1, σ' = [some (.ref l), some (.ref x), some (.ref p), some (.ref q), some (.int kd), none, none] ∧ H' = H1 ∧ Z.Fx H1 L) (fun N hk => ?_) ?_
    · walk_at "z"
      refine Z.wIfD (fun h => ?_) (fun h => ?_)
      · walk_at "z"
        refine Z.wIf (fun hb => ?_) (fun hb => ?_)
        · have he : 0 < e.length := by
            cases e with
            | nil => simp at hb
            | cons => simp
          walk_at "z"
          rename_i at' H2 F2 a0 a1 r1 A1 X1
          rw [List.length_map] at a1
          have ea := atB a0 a1
          walk_at "z"
          rename_i r2 A2 X2
          rw [Z.cut_take a0, ← List.map_take] at X2
          refine Z.wCatL X2 (.tail _ (.head _)) (.head _) (by rw [List.length_map, List.length_take, List.length_singleton]; omega) fun r3 A3 X3 => ?_
          walk_at "z"
          rename_i r4 A4 X4
          rw [Z.cut_drop (by omega), ← List.map_drop] at X4
          refine Z.wCatL X4 (.tail _ (.head _)) (.head _) (by rw [List.length_append, List.length_map, List.length_map, List.length_take, List.length_drop, List.length_singleton]; omega) fun r5 A5 X5 => ?_
          walk_at "z"
          rename_i r6 A6 X6
          rw [show (e.take at'.toNat).map V.bl ++ [V.bl (!e.getD at'.toNat false)] ++ (e.drop (at' + 1).toNat).map V.bl = (e.take at'.toNat ++ [!e.getD at'.toNat false] ++ e.drop (at' + 1).toNat).map V.bl by
            rw [List.map_append, List.map_append]; rfl] at X6
          exact k _ w r6 _ _ ⟨w0, by omega, by rw [List.length_append, List.length_append, List.length_take, List.length_drop, List.length_singleton]; omega⟩ (.cons _ (.cons _ (.cons _ (.cons _ (.cons _ (.cons _ (.refl _))))))) ⟨r5, q, .head _, .tail _ (.head _), .tail _ (.tail _ (.tail _ (.tail _ (.tail _ (.tail _ h3)))))⟩ X6
        · walk_at "z"
          exact hk _ _ ⟨_, rfl, rfl, F1⟩
      · walk_at "z"
        exact hk _ _ ⟨_, rfl, rfl, F1⟩
    rintro _ _ ⟨H2, rfl, rfl, F2⟩
    walk_at "y"
    refine Z.wMidS (fun σ' H' => ∃ H1, σ' = [some (.ref l), some (.ref x), some (.ref p), some (.ref q), some (.int kd), none, none] ∧ H' = H1 ∧ Z.Fx H1 L) (fun N hk => ?_) ?_
    · walk_at "z"
      refine Z.wIfD (fun h => ?_) (fun h => ?_)
      · walk_at "z"
        rename_i at' H4 F4 a0 a1
        rw [List.length_map] at a1
        refine Z.wRepL F4 h3 (by decide) (by decide) (by rw [List.length_map, show Int.toNat 2 = 2 from rfl]; omega) fun q3 H5 F5 => ?_
        rw [flat_two, ← List.map_append] at F5
        have ea := atB (e := w ++ w) a0 (by rw [List.length_append]; omega)
        walk_at "z"
        rename_i H6 F6 q4 H7 F7
        rw [show ((w ++ w).map V.bl).set at'.toNat (V.bl (!(w ++ w).getD at'.toNat false)) = ((w ++ w).set at'.toNat (!(w ++ w).getD at'.toNat false)).map V.bl by rw [List.map_set]] at F7
        exact k e _ q4 _ _ ⟨by rw [List.length_set, List.length_append]; omega, by rw [List.length_set, List.length_append]; omega, by omega⟩ (.cons _ (.cons _ (.refl _))) ⟨p, q3, .head _, .tail _ (.tail _ h2), .tail _ (.head _)⟩ F7
      · walk_at "z"
        exact hk _ _ ⟨_, rfl, rfl, F2⟩
    rintro _ _ ⟨H3, rfl, rfl, F3⟩
    walk_at "z"
    exact use__law_world F3 mh fun e3 w3 r L1 H4 w30 w34 e34 s wa3 F4 => k e3 w3 r L1 H4 ⟨w30, by omega, by omega⟩ s wa3 F4
theorem ok__law_second (T : Txt K mg c_BadCalendar c_BadLength c_Calendar) : Z.Ok CX0 P w K mg base "_law_second" 4 ["_law_hand_here", "_law_world_here"] [] (sp__law_second K) := by
  obtain ⟨f, fd, F, g⟩ := T.d__law_second
  exact Z.mkOk F g (F.binds (ps := ["_law_hand_here", "_law_world_here"]) fun _ _ _ _ _ _ us hl => match us, hl with | [_, _], _ => rfl) (fn__law_second T F)
theorem use__law_second {H : Hp} {Q : VK} {E : XK} {L : List Z.En} {l c x : Addr} {e w : List Bool} (F : Z.Fx H L) (mh : Z.En.hand5 l c ∈ L) (wa : WorldAt L x e w) (w0 : 0 < w.length) (w5 : w.length ≤ 400) (e2 : e.length ≤ 400) (k : ∀ (e2 w2 : List Bool) p L1 H', WOk e2 w2 → L.Sublist L1 → WorldAt L1 p e2 w2 → Z.Fx H' L1 → Q (.ref p) H') : sp__law_second K [.ref l, .ref x] H Q E := ⟨_, _, rfl, L, l, c, x, e, w, rfl, rfl, F, mh, wa, w0, w5, e2, k⟩
theorem sc__law_one_rest : FnScope ["_law_hand_here", "_law_period", "_law_rest", "_law_number"] ["_law_hand_here"] (defScope s__law_one_rest) := ⟨rfl, rfl, rfl, by decide +kernel, rfl, by decide +kernel, by decide +kernel⟩
def sp__law_one_rest (K : PySem.W.Frag) : Sp := Z.Sp1 fun a H Q E => ∃ (L : List Z.En) (l c : Addr), a = .ref l ∧ Z.Fx H L ∧ Z.En.hand5 l c ∈ L ∧ ∀ (e w : List Bool) p L1 H', WOk e w → L.Sublist L1 → WorldAt L1 p e w → Z.Fx H' L1 → Q (.ref p) H'
theorem fn__law_one_rest (T : Txt K mg c_BadCalendar c_BadLength c_Calendar) {f : Addr} {fd : FuncData} (F : Fun K "_law_one_rest" "_law_one_rest" s__law_one_rest f fd) : FnOk P w K mg base CX0 2 f fd ["_law_hand_here"] (sp__law_one_rest K) := by
  have O__law_draw := ok__law_draw (P := P) (w := w) (base := base) T
  refine F.ok sc__law_one_rest (fun vs H Q E h => ?_) (fun cdv A outer s H vs Q E hr h => ?_)
  · obtain ⟨a, rfl, _⟩ := h; rfl
  · obtain ⟨a, rfl, h⟩ := h
    refine ⟨_, (pss_cons (ps_set (i := 1) sc__law_one_rest.nd rfl (by first | exact Or.inl rfl | exact Or.inr rfl) (pe_ix ix_seq (pe_lst (pa_cons pe_int (pa_cons pe_int (pa_cons pe_int (pa_cons pe_int (pa_cons pe_int (pa_cons pe_int (pa_cons pe_int (pa_cons pe_int pa_nil))))))))) (Z.pe_callO O__law_draw (by rfl) (hr.mono (by decide)) pass0 (pa_cons (pv 0) (pa_cons pe_int pa_nil))) (fun _ _ => rfl)))
      (pss_cons (ps_set (i := 2) sc__law_one_rest.nd rfl (by first | exact Or.inl rfl | exact Or.inr rfl) (Z.pe_callO O__law_draw (by rfl) (hr.mono (by decide)) pass0 (pa_cons (pv 0) (pa_cons (pv 1) pa_nil))))
      (pss_one (ps_ret (pe_tup (pa_cons (pe_lst pa_nil) (pa_cons (by exact (pe_lc (own := [("_law_number", 3)]) (g := (gName 3)) (by rfl) sc__law_one_rest.nd (pi_range1 (by rfl) T.b_range (pa_cons (pv 1) pa_nil)) (blkOk_by (own := [("_law_number", 3)]) (N := ["_law_hand_here", "_law_period", "_law_rest", "_law_number"]) (sc := defScope s__law_one_rest) (by decide +kernel)) (fun _ _ _ _ _ => (by exact (pg_name (i := 3) sc__law_one_rest.nd rfl (by first | exact Or.inl rfl | exact Or.inr rfl)))) (fun _ _ _ _ _ => (by exact pts_nil)) (fun _ _ _ _ _ => (by exact (pe_cmpR (show OpR _ _ (Z.rOr rEq (rEqD K)) from (Z.zEq (Z.hu0 hr))) (pv 3) (pv 2) (nomark _)))))) pa_nil))))))), ?_⟩
    try dsimp only [cxOf, Cx.nox, Cx.wish]
    refine Z.at_start (σ' := [some a, none, none, none]) rfl ?_
    obtain ⟨L, l, c, rfl, F, mh, k⟩ := h
    walk_at "z"
    rename_i q1 H1 F1 v1 H2 F2 v10 v11
    obtain ⟨x, ea, x1, x2⟩ : ∃ x, atI [V.int 71, V.int 73, V.int 70, V.int 72, V.int 61, V.int 64, V.int 83, V.int 60] v1 = some (V.int x) ∧ 1 ≤ x ∧ x ≤ 100 := by
      have : v1 = 0 ∨ v1 = 1 ∨ v1 = 2 ∨ v1 = 3 ∨ v1 = 4 ∨ v1 = 5 ∨ v1 = 6 ∨ v1 = 7 := by omega
      rcases this with rfl | rfl | rfl | rfl | rfl | rfl | rfl | rfl <;> exact ⟨_, rfl, by omega, by omega⟩
    walk_at "z"
    rename_i rr H3 F3 r0 r1 q2 H4 F4
    refine Z.wLcW walk_range F4 (fun i acc L' => L' = _ ∧ ∃ bs : List Bool, acc = bs.map V.bl ∧ bs.length = i) ⟨rfl, [], rfl, rfl⟩ (fun _ _ _ _ _ _ _ => trivial) ?_ ?_
    · rintro i v D H7 H8 acc L' hi ⟨rfl, bs, rfl, hb⟩ F7 ⟨rfl, rfl⟩
      walk_at "zw"
      walk_at "z"
      refine ⟨rfl, ?_⟩
      walk_at "z"
      exact Z.lcPut F7 (by rw [List.length_map, hb]; have := Z.line_big; omega) ⟨rfl, bs ++ [_], by rw [List.map_append]; rfl, by rw [List.length_append, hb]; rfl⟩
    rintro D acc L' H7 F7 ⟨rfl, bs, rfl, hb⟩
    walk_at "z"
    rename_i r H8 F8
    exact k [] bs r _ _ ⟨by omega, by omega, by simp⟩ (.cons _ (.cons _ (.cons _ (.cons _ (.refl _))))) ⟨q2, D, .head _, .tail _ (.tail _ (.head _)), .tail _ (.head _)⟩ F8
theorem ok__law_one_rest (T : Txt K mg c_BadCalendar c_BadLength c_Calendar) : Z.Ok CX0 P w K mg base "_law_one_rest" 2 ["_law_hand_here"] [] (sp__law_one_rest K) := by
  obtain ⟨f, fd, F, g⟩ := T.d__law_one_rest
  exact Z.mkOk F g (F.binds (ps := ["_law_hand_here"]) fun _ _ _ _ _ _ us hl => match us, hl with | [_], _ => rfl) (fn__law_one_rest T F)
theorem use__law_one_rest {H : Hp} {Q : VK} {E : XK} {L : List Z.En} {l c : Addr} (F : Z.Fx H L) (mh : Z.En.hand5 l c ∈ L) (k : ∀ (e w : List Bool) p L1 H', WOk e w → L.Sublist L1 → WorldAt L1 p e w → Z.Fx H' L1 → Q (.ref p) H') : sp__law_one_rest K [.ref l] H Q E := ⟨_, rfl, L, l, c, rfl, F, mh, k⟩
theorem sc__law_listed : FnScope ["_law_truths", "_law_number"] ["_law_truths"] (defScope s__law_listed) := ⟨rfl, rfl, rfl, by decide +kernel, rfl, by decide +kernel, by decide +kernel⟩
def sp__law_listed (K : PySem.W.Frag) : Sp := Z.Sp1 fun a H Q E => ∃ (L : List Z.En) (x : Addr) (bs : List Bool), a = .ref x ∧ Z.Fx H L ∧ Z.En.ob x (.lst (bs.map V.bl)) ∈ L ∧ bs.length ≤ 100000 ∧ ∀ p H', Z.Fx H' (.ob p (.lst ((idx bs).map V.int)) :: L) → Q (.ref p) H'
theorem fn__law_listed (T : Txt K mg c_BadCalendar c_BadLength c_Calendar) {f : Addr} {fd : FuncData} (F : Fun K "_law_listed" "_law_listed" s__law_listed f fd) : FnOk P w K mg base CX0 1 f fd ["_law_truths"] (sp__law_listed K) := by
  refine F.ok sc__law_listed (fun vs H Q E h => ?_) (fun cdv A outer s H vs Q E hr h => ?_)
  · obtain ⟨a, rfl, _⟩ := h; rfl
  · obtain ⟨a, rfl, h⟩ := h
    refine ⟨_, (pss_one (ps_ret (by exact (pe_lc (own := [("_law_number", 1)]) (g := (gName 1)) (by rfl) sc__law_listed.nd (pi_range1 (by rfl) T.b_range (pa_cons (pe_callB Z.zLen (by rfl) T.b_len (by decide +kernel) (pa_cons (pv 0) pa_nil)) pa_nil)) (blkOk_by (own := [("_law_number", 1)]) (N := ["_law_truths", "_law_number"]) (sc := defScope s__law_listed) (by decide +kernel)) (fun _ _ _ _ _ => (by exact (pg_name (i := 1) sc__law_listed.nd rfl (by first | exact Or.inl rfl | exact Or.inr rfl)))) (fun _ _ _ _ _ => (by exact (pts_one (show PT _ _ (Z.rTru K _) from Z.pt_truN (pe_ix (show IxR _ (rIx K) from ix_seq) (pv 0) (pv 1) (fun _ _ => rfl)))))) (fun _ _ _ _ _ => (by exact (pv 1))))))), ?_⟩
    try dsimp only [cxOf, Cx.nox, Cx.wish]
    refine Z.at_start (σ' := [some a, none]) rfl ?_
    obtain ⟨L, x, bs, rfl, F, hx, hl, k⟩ := h
    walk_at "z"
    rw [List.length_map]
    walk_at "z"
    refine Z.wLcW walk_range F (fun i acc L' => L' = L ∧ acc = (idx (bs.take i)).map V.int) ⟨rfl, rfl⟩ (fun _ _ _ _ _ _ _ => trivial) ?_ ?_
    · rintro i v D H1 H2 acc L' hi ⟨rfl, rfl⟩ F2 ⟨rfl, rfl⟩
      have hi' : i < bs.length := by omega
      have ea : atI (bs.map V.bl) (0 + (i : Int)) = some (V.bl (bs.getD i false)) := by
        have := atB (e := bs) (z := 0 + (i : Int)) (by omega) (by omega)
        rwa [show (0 + (i : Int)).toNat = i by omega] at this
      have hv : bs[i]? = some (bs.getD i false) := by rw [List.getElem?_eq_getElem hi', List.getD_eq_getElem?_getD, List.getElem?_eq_getElem hi']; rfl
      generalize bs.getD i false = v at ea hv
      have hlen : ((idx (bs.take i)).map V.int).length < sizeLine := by
        have a := (idx_below (bs.take i)).len (by omega)
        have := Z.line_big
        rw [List.length_map]
        rw [List.length_take] at a
        omega
      walk_at "zw"
      walk_at "z"
      refine ⟨rfl, ?_⟩
      walk_at "z"
      cases v with
      | true =>
        walk_at "z"
        exact Z.lcPut F2 hlen ⟨rfl, by rw [idx_take hv, if_pos rfl, List.map_append, Int.zero_add]; rfl⟩
      | false =>
        walk_at "z"
        exact ⟨_, _, F2, rfl, by rw [idx_take hv, if_neg (by decide), List.append_nil]⟩
    rintro D acc L' H2 F2 ⟨rfl, rfl⟩
    rw [Int.toNat_natCast, List.take_length] at F2
    exact k _ _ F2
theorem ok__law_listed (T : Txt K mg c_BadCalendar c_BadLength c_Calendar) : Z.Ok CX0 P w K mg base "_law_listed" 1 ["_law_truths"] [] (sp__law_listed K) := by
  obtain ⟨f, fd, F, g⟩ := T.d__law_listed
  exact Z.mkOk F g (F.binds (ps := ["_law_truths"]) fun _ _ _ _ _ _ us hl => match us, hl with | [_], _ => rfl) (fn__law_listed T F)
theorem use__law_listed {H : Hp} {Q : VK} {E : XK} {L : List Z.En} {x : Addr} {bs : List Bool} (F : Z.Fx H L) (hx : Z.En.ob x (.lst (bs.map V.bl)) ∈ L) (hl : bs.length ≤ 100000) (k : ∀ p H', Z.Fx H' (.ob p (.lst ((idx bs).map V.int)) :: L) → Q (.ref p) H') : sp__law_listed K [.ref x] H Q E := ⟨_, rfl, L, x, bs, rfl, F, hx, hl, k⟩
theorem sc_Calendar___contains__ : FnScope ["self", "number"] ["self", "number"] (defScope s_Calendar___contains__) := ⟨rfl, rfl, rfl, by decide +kernel, rfl, by decide +kernel, by decide +kernel⟩
/-- whether a calendar has it -/
def calIn (b m : Int) (ls ks : List Int) (z : Int) : Bool := if z < b then decide (z ∈ ls) else decide (z % m ∈ ks)
def calInV (b m : Int) (ls ks : List Int) (v : V) : Bool := match v with | .int z => decide (0 ≤ z) && calIn b m ls ks z | _ => false
theorem clo_iff {p l : Int} {rs : List Int} (p0 : 1 ≤ p) (hb : ∀ r ∈ rs, 0 ≤ r ∧ r < p) (c : ∀ r ∈ rs, (r + l) % p ∈ rs) : ∀ (k : Nat) (z : Int), z % p ∈ rs ↔ (z + k * l) % p ∈ rs := by
  have up : ∀ (k : Nat) (z : Int), z % p ∈ rs → (z + k * l) % p ∈ rs := by
    intro k
    induction k with
    | zero => intro z h; simpa using h
    | succ k ih =>
      intro z h
      have := c _ (ih z h)
      rwa [Int.emod_add_emod, show z + (k : Int) * l + l = z + ((k + 1 : Nat) : Int) * l by rw [Int.natCast_add, Int.add_mul]; omega] at this
  intro k z
  refine ⟨up k z, fun h => ?_⟩
  -- (p - 1) * k more steps: back by a multiple of p
  obtain ⟨P, rfl⟩ := Int.eq_ofNat_of_zero_le (show 0 ≤ p by omega)
  have := up ((P - 1) * k) _ h
  have e : z + (k : Int) * l + (((P - 1) * k : Nat) : Int) * l = z + (P : Int) * ((k : Int) * l) := by
    have e1 : ((P - 1 : Nat) : Int) = (P : Int) - 1 := by omega
    rw [Int.natCast_mul, e1, Int.sub_mul, Int.one_mul, Int.sub_mul, Int.mul_assoc]
    omega
  rw [e, Int.add_mul_emod_self_left] at this
  exact this
/-- the same for whole steps of either sign -/
theorem clo_iffZ {p l : Int} {rs : List Int} (p0 : 1 ≤ p) (hb : ∀ r ∈ rs, 0 ≤ r ∧ r < p) (c : ∀ r ∈ rs, (r + l) % p ∈ rs) (k z : Int) : z % p ∈ rs ↔ (z + k * l) % p ∈ rs := by
  by_cases hk : 0 ≤ k
  · obtain ⟨n, rfl⟩ := Int.eq_ofNat_of_zero_le hk
    exact clo_iff p0 hb c n z
  · obtain ⟨n, hn⟩ := Int.eq_ofNat_of_zero_le (show 0 ≤ -k by omega)
    have := clo_iff p0 hb c n (z + k * l)
    rw [← hn, Int.neg_mul, Int.add_assoc, Int.add_right_neg, Int.add_zero] at this
    exact this.symm
theorem clo_mod {p l : Int} {rs : List Int} (p0 : 1 ≤ p) (hb : ∀ r ∈ rs, 0 ≤ r ∧ r < p) (c : Clo p rs l) (z : Int) : z % p ∈ rs ↔ (z % l) % p ∈ rs := by
  have := clo_iffZ p0 hb c.2 (z / l) (z % l)
  rw [show z % l + z / l * l = z by rw [Int.mul_comm]; exact Int.emod_add_mul_ediv z l] at this
  exact this.symm
theorem kept_mem {p m : Int} {rs ks : List Int} (p0 : 1 ≤ p) (hb : ∀ r ∈ rs, 0 ≤ r ∧ r < p) (lp : LeastP p rs m) (hk : ks = rs.filter (fun r => decide (r < m))) (z : Int) : z % m ∈ ks ↔ z % p ∈ rs := by
  obtain ⟨m1, m2, c, _⟩ := lp
  have h0 := Int.emod_nonneg z (show m ≠ 0 by omega)
  have h1 := Int.emod_lt_of_pos z (show 0 < m by omega)
  rw [hk, List.mem_filter, decide_eq_true_iff, clo_mod p0 hb c z, Int.emod_eq_of_lt h0 (by omega)]
  exact ⟨fun h => h.1, fun h => ⟨h, h1⟩⟩
theorem plain_in {bz pz b m : Int} {ls rs ls' ks : List Int} (p0 : 1 ≤ pz) (hl : Below bz ls) (hr : Below pz rs) (p : PlainOf bz pz ls rs b m ls' ks) (z : Int) : calIn b m ls' ks z = calIn bz pz ls rs z := by
  obtain ⟨lp, hk, ⟨b0, b1, ag, _⟩, rfl⟩ := p
  have km := kept_mem p0 hr.2 lp hk z
  unfold calIn
  by_cases h : z < b
  · rw [if_pos h, if_pos (by omega), Bool.eq_iff_iff, decide_eq_true_iff, decide_eq_true_iff, List.mem_filter, decide_eq_true_iff]
    exact ⟨fun h => h.1, fun g => ⟨g, h⟩⟩
  · rw [if_neg h]
    by_cases h2 : z < bz
    · rw [if_pos h2, Bool.eq_iff_iff, decide_eq_true_iff, decide_eq_true_iff]
      exact (ag z (by omega) h2).symm
    · rw [if_neg h2, Bool.eq_iff_iff, decide_eq_true_iff, decide_eq_true_iff]
      exact km
/-- a far number with a rest -/
theorem far_rest (N r m : Int) (m0 : 1 ≤ m) : ∃ z, N ≤ z ∧ 0 ≤ z ∧ z % m = r % m := by
  obtain ⟨K, hK⟩ : ∃ K : Nat, N ≤ (K : Int) ∧ -r ≤ (K : Int) - r.natAbs - r.natAbs := ⟨N.natAbs + r.natAbs + r.natAbs + r.natAbs, by omega, by omega⟩
  refine ⟨r + m * ((K : Int) + r.natAbs), ?_, ?_, by rw [Int.add_mul_emod_self_left]⟩
  · have : (K : Int) + r.natAbs ≤ m * ((K : Int) + r.natAbs) := by
      have := Int.mul_le_mul_of_nonneg_right m0 (show (0 : Int) ≤ (K : Int) + r.natAbs by omega)
      omega
    omega
  · have : (K : Int) + r.natAbs ≤ m * ((K : Int) + r.natAbs) := by
      have := Int.mul_le_mul_of_nonneg_right m0 (show (0 : Int) ≤ (K : Int) + r.natAbs by omega)
      omega
    omega
/-- a period of all far answers is no less than the least one -/
theorem least_le {p m l N : Int} {rs : List Int} (p0 : 1 ≤ p) (hb : ∀ r ∈ rs, 0 ≤ r ∧ r < p) (lp : LeastP p rs m) (l0 : 1 ≤ l) (h : ∀ z, N ≤ z → 0 ≤ z → (z % p ∈ rs ↔ (z + l) % p ∈ rs)) : m ≤ l := by
  have c : ∀ r ∈ rs, (r + l) % p ∈ rs := fun r hr => by
    obtain ⟨r0, r1⟩ := hb r hr
    obtain ⟨z, z1, z0, e⟩ := far_rest N r p p0
    have e2 : (z + l) % p = (r + l) % p := by rw [← Int.emod_add_emod z, e, Int.emod_add_emod]
    rw [← e2]
    refine (h z z1 z0).mp ?_
    rw [e, Int.emod_eq_of_lt r0 r1]
    exact hr
  -- the greatest common measure
  obtain ⟨L, rfl⟩ := Int.eq_ofNat_of_zero_le (show 0 ≤ l by omega)
  obtain ⟨P, rfl⟩ := Int.eq_ofNat_of_zero_le (show 0 ≤ p by omega)
  have g0 : 0 < Nat.gcd L P := Nat.gcd_pos_of_pos_left _ (by omega)
  have gl : Nat.gcd L P ≤ L := Nat.le_of_dvd (by omega) (Nat.gcd_dvd_left _ _)
  have cl : ∀ a b : Nat, (∀ z : Int, z % (P : Int) ∈ rs ↔ (z + (a : Int)) % (P : Int) ∈ rs) → (∀ z : Int, z % (P : Int) ∈ rs ↔ (z + (b : Int)) % (P : Int) ∈ rs) → ∀ z : Int, z % (P : Int) ∈ rs ↔ (z + ((Nat.gcd a b : Nat) : Int)) % (P : Int) ∈ rs := by
    intro a b
    induction a, b using Nat.gcd.induction with
    | H0 n => intro _ h; rw [Nat.gcd_zero_left]; exact h
    | H1 a b a0 ih =>
      intro ha hb
      rw [Nat.gcd_rec]
      refine ih (fun z => ?_) ha
      have mul : ∀ (k : Nat) (z : Int), z % (P : Int) ∈ rs ↔ (z + ((a * k : Nat) : Int)) % (P : Int) ∈ rs := by
        intro k
        induction k with
        | zero => intro z; rw [Nat.mul_zero]; simp
        | succ k ih => intro z; rw [ih z, ha, Nat.mul_succ, Int.natCast_add, Int.add_assoc]
      rw [hb z, mul (b / a) (z + ((b % a : Nat) : Int)), Int.add_assoc, ← Int.natCast_add, Nat.mod_add_div]
  have cg : Clo (P : Int) rs ((Nat.gcd L P : Nat) : Int) := by
    refine ⟨?_, fun r hr => ?_⟩
    · rw [← Int.natCast_emod, Nat.mod_eq_zero_of_dvd (Nat.gcd_dvd_right _ _)]; rfl
    · refine (cl L P (fun z => ?_) (fun z => ?_) r).mp ?_
      · have := clo_iffZ p0 hb c 1 z
        rwa [Int.one_mul] at this
      · rw [Int.add_emod_right]
      · obtain ⟨r0, r1⟩ := hb r hr
        rw [Int.emod_eq_of_lt r0 r1]
        exact hr
  by_cases h2 : m ≤ ((Nat.gcd L P : Nat) : Int)
  · omega
  · exact absurd cg (lp.2.2.2 _ (by omega) (by omega))
theorem asc_ext {a b : List Int} (ha : a.Pairwise (· < ·)) (hb : b.Pairwise (· < ·)) (h : ∀ z, z ∈ a ↔ z ∈ b) : a = b := by
  induction a generalizing b with
  | nil =>
    cases b with
    | nil => rfl
    | cons y s => exact absurd ((h y).mpr List.mem_cons_self) (by simp)
  | cons x r ih =>
    cases b with
    | nil => exact absurd ((h x).mp List.mem_cons_self) (by simp)
    | cons y s =>
      have pa := List.pairwise_cons.mp ha
      have pb := List.pairwise_cons.mp hb
      have e : x = y := by
        rcases List.mem_cons.mp ((h x).mp List.mem_cons_self) with e | e
        · exact e
        · rcases List.mem_cons.mp ((h y).mpr List.mem_cons_self) with e2 | e2
          · exact e2.symm
          · have := pb.1 x e; have := pa.1 y e2; omega
      subst e
      rw [ih pa.2 pb.2 fun z => ?_]
      constructor
      · intro hz
        rcases List.mem_cons.mp ((h z).mp (List.mem_cons_of_mem _ hz)) with e | e
        · have := pa.1 z hz; omega
        · exact e
      · intro hz
        rcases List.mem_cons.mp ((h z).mpr (List.mem_cons_of_mem _ hz)) with e | e
        · have := pb.1 z hz; omega
        · exact e
/-- equal answers, one plain form -/
theorem plain_same {bz pz bz2 pz2 b m b2 m2 : Int} {ls rs ls2 rs2 l1 k1 l2 k2 : List Int} (p0 : 1 ≤ pz) (p2 : 1 ≤ pz2) (hl : Below bz ls) (hr : Below pz rs) (hl2 : Below bz2 ls2) (hr2 : Below pz2 rs2)
    (h : ∀ z, 0 ≤ z → calIn bz pz ls rs z = calIn bz2 pz2 ls2 rs2 z) (P : PlainOf bz pz ls rs b m l1 k1) (P2 : PlainOf bz2 pz2 ls2 rs2 b2 m2 l2 k2) : b = b2 ∧ m = m2 ∧ l1 = l2 ∧ k1 = k2 := by
  have e1 := plain_in p0 hl hr P
  have e2 := plain_in p2 hl2 hr2 P2
  have he : ∀ z, 0 ≤ z → calIn b m l1 k1 z = calIn b2 m2 l2 k2 z := fun z z0 => by rw [e1, e2, h z z0]
  obtain ⟨lp, hk, ⟨b0, b1, ag, nb⟩, hl'⟩ := P
  obtain ⟨lp2, hk2, ⟨b20, b21, ag2, nb2⟩, hl2'⟩ := P2
  have far : ∀ z, bz ≤ z → bz2 ≤ z → 0 ≤ z → (z % pz ∈ rs ↔ z % pz2 ∈ rs2) := fun z h1 h2 z0 => by
    have := h z z0
    unfold calIn at this
    rwa [if_neg (by omega), if_neg (by omega), Bool.eq_iff_iff, decide_eq_true_iff, decide_eq_true_iff] at this
  have own : ∀ {p m : Int} {rs : List Int}, 1 ≤ p → (∀ r ∈ rs, 0 ≤ r ∧ r < p) → LeastP p rs m → ∀ z, (z % p ∈ rs ↔ (z + m) % p ∈ rs) := fun p0 hb lp z => by
    have := clo_iffZ p0 hb lp.2.2.1.2 1 z
    rwa [Int.one_mul] at this
  have m0 := lp.1
  have m20 := lp2.1
  have em : m = m2 := by
    refine Int.le_antisymm ?_ ?_
    · refine least_le (N := max bz bz2) p0 hr.2 lp m20 fun z hz z0 => ?_
      rw [far z (by omega) (by omega) z0, far (z + m2) (by omega) (by omega) (by omega)]
      exact own p2 hr2.2 lp2 z
    · refine least_le (N := max bz bz2) p2 hr2.2 lp2 m0 fun z hz z0 => ?_
      rw [← far z (by omega) (by omega) z0, ← far (z + m) (by omega) (by omega) (by omega)]
      exact own p0 hr.2 lp z
  subst em
  have ek : k1 = k2 := by
    refine asc_ext (hk ▸ hr.1.filter _) (hk2 ▸ hr2.1.filter _) fun r => ?_
    have key : ∀ r, 0 ≤ r → r < m → (r ∈ k1 ↔ r ∈ k2) := fun r r0 r1 => by
      obtain ⟨z, z1, z0, e⟩ := far_rest (max bz bz2) r m m0
      rw [Int.emod_eq_of_lt r0 r1] at e
      rw [← e, kept_mem p0 hr.2 lp hk z, kept_mem p2 hr2.2 lp2 hk2 z]
      exact far z (by omega) (by omega) z0
    have in1 : ∀ {p : Int} {rs ks : List Int}, (∀ r ∈ rs, 0 ≤ r ∧ r < p) → ks = rs.filter (fun r => decide (r < m)) → r ∈ ks → 0 ≤ r ∧ r < m := fun hb hk h => by
      rw [hk] at h
      have e := List.mem_filter.mp h
      exact ⟨(hb r e.1).1, of_decide_eq_true e.2⟩
    constructor
    · intro hq
      obtain ⟨a, c⟩ := in1 hr.2 hk hq
      exact (key r a c).mp hq
    · intro hq
      obtain ⟨a, c⟩ := in1 hr2.2 hk2 hq
      exact (key r a c).mpr hq
  subst ek
  have eb : b = b2 := by
    have step : ∀ {b b2 : Int} {bz pz : Int} {ls rs l1 l2 : List Int}, 1 ≤ pz → Below bz ls → Below pz rs → 0 ≤ b → b2 ≤ bz → (∀ z, 0 ≤ z → calIn b m l1 k1 z = calIn bz pz ls rs z) → (0 < b2 → ¬ ((b2 - 1) ∈ ls ↔ (b2 - 1) % m ∈ k1)) → b2 ≤ b := fun {b b2 bz pz ls rs l1 l2} p0 hl hr b0 h1 h2 h3 => by
      by_cases hc : b2 ≤ b
      · exact hc
      · exfalso
        refine h3 (by omega) ?_
        have := h2 (b2 - 1) (by omega)
        unfold calIn at this
        rw [if_neg (by omega), if_pos (by omega), Bool.eq_iff_iff, decide_eq_true_iff, decide_eq_true_iff] at this
        exact this.symm
    refine Int.le_antisymm ?_ ?_
    · exact step (l1 := l2) (l2 := l2) p0 hl hr b20 b1 (fun z z0 => by rw [← he z z0, e1 z]) nb
    · exact step (l1 := l1) (l2 := l1) p2 hl2 hr2 b0 b21 (fun z z0 => by rw [he z z0, e2 z]) nb2
  subst eb
  refine ⟨rfl, rfl, ?_, rfl⟩
  refine asc_ext (hl' ▸ hl.1.filter _) (hl2' ▸ hl2.1.filter _) fun z => ?_
  have key : 0 ≤ z → z < b → (z ∈ l1 ↔ z ∈ l2) := fun z0 z1 => by
    have := he z z0
    unfold calIn at this
    rwa [if_pos z1, if_pos z1, Bool.eq_iff_iff, decide_eq_true_iff, decide_eq_true_iff] at this
  have in1 : ∀ {bz : Int} {ls l1 : List Int}, Below bz ls → l1 = ls.filter (fun r => decide (r < b)) → z ∈ l1 → 0 ≤ z ∧ z < b := fun hb hk h => by
    rw [hk] at h
    have e := List.mem_filter.mp h
    exact ⟨(hb.2 z e.1).1, of_decide_eq_true e.2⟩
  constructor
  · intro hq
    obtain ⟨a, c⟩ := in1 hl hl' hq
    exact (key a c).mp hq
  · intro hq
    obtain ⟨a, c⟩ := in1 hl2 hl2' hq
    exact (key a c).mpr hq
theorem below_filter {n : Int} {ls : List Int} (h : Below n ls) (m : Int) : Below m (ls.filter fun z => decide (z < m)) := ⟨h.1.filter _, fun l hl => by
  have e := List.mem_filter.mp hl
  exact ⟨(h.2 l e.1).1, of_decide_eq_true e.2⟩⟩
/-- a calendar's plain form, by what it answers -/
def IsPlain (f : Int → Bool) (b m : Int) (ls ks : List Int) : Prop := ∃ bz pz l0 r0, 0 ≤ bz ∧ bz ≤ 20000 ∧ 1 ≤ pz ∧ pz ≤ 5000 ∧ Below bz l0 ∧ Below pz r0 ∧ PlainOf bz pz l0 r0 b m ls ks ∧ ∀ z, 0 ≤ z → calIn bz pz l0 r0 z = f z
theorem IsPlain.uniq {f g : Int → Bool} {b m b2 m2 : Int} {ls ks ls2 ks2 : List Int} (h : ∀ z, 0 ≤ z → f z = g z) (p : IsPlain f b m ls ks) (q : IsPlain g b2 m2 ls2 ks2) : b = b2 ∧ m = m2 ∧ ls = ls2 ∧ ks = ks2 := by
  obtain ⟨bz, pz, l0, r0, _, _, p1, _, o1, o2, P, e⟩ := p
  obtain ⟨bz2, pz2, l2, r2, _, _, q1, _, u1, u2, P2, e2⟩ := q
  exact plain_same p1 q1 o1 o2 u1 u2 (fun z z0 => by rw [e z z0, e2 z z0, h z z0]) P P2
theorem IsPlain.ans {f : Int → Bool} {b m : Int} {ls ks : List Int} (p : IsPlain f b m ls ks) {z : Int} (z0 : 0 ≤ z) : calIn b m ls ks z = f z := by
  obtain ⟨bz, pz, l0, r0, _, _, p1, _, o1, o2, P, e⟩ := p
  rw [plain_in p1 o1 o2 P, e z z0]
theorem IsPlain.congr {f g : Int → Bool} {b m : Int} {ls ks : List Int} (h : ∀ z, 0 ≤ z → f z = g z) (p : IsPlain f b m ls ks) : IsPlain g b m ls ks := by
  obtain ⟨bz, pz, l0, r0, a, b', c, d, o1, o2, P, e⟩ := p
  exact ⟨bz, pz, l0, r0, a, b', c, d, o1, o2, P, fun z z0 => by rw [e z z0, h z z0]⟩
theorem IsPlain.facts {f : Int → Bool} {b m : Int} {ls ks : List Int} (p : IsPlain f b m ls ks) : 0 ≤ b ∧ b ≤ 20000 ∧ 1 ≤ m ∧ m ≤ 5000 ∧ Below b ls ∧ Below m ks := by
  obtain ⟨bz, pz, l0, r0, _, _, p1, _, o1, o2, ⟨⟨m1, m2, _⟩, rfl, ⟨b0, b1, _⟩, rfl⟩, e⟩ := p
  exact ⟨b0, by omega, m1, by omega, below_filter o1 _, below_filter o2 _⟩
theorem isPlain_of {b p bm m : Int} {ls rs l k : List Int} (b0 : 0 ≤ b) (b2 : b ≤ 20000) (p1 : 1 ≤ p) (p5 : p ≤ 5000) (o1 : Below b ls) (o2 : Below p rs) (P : PlainOf b p ls rs bm m l k) : IsPlain (calIn b p ls rs) bm m l k := ⟨b, p, ls, rs, b0, b2, p1, p5, o1, o2, P, fun _ _ => rfl⟩
/-- f comes round after p, from s on -/
def Round (f : Int → Bool) (s p : Int) : Prop := ∀ z, s ≤ z → f (z + p) = f z
theorem cal_round {b m : Int} {ls ks : List Int} (m0 : 0 ≤ m) : Round (calIn b m ls ks) b m := fun z hz => by
  unfold calIn
  by_cases h : z + m < b
  · by_cases h2 : z < b
    · omega
    · rw [if_pos h, if_neg h2]; omega
  · rw [if_neg h, if_neg (by omega), Int.add_emod_right]
theorem Round.mul {f : Int → Bool} {s p : Int} (p0 : 0 ≤ p) (h : Round f s p) (k : Nat) : Round f s (k * p) := by
  induction k with
  | zero => intro z _; simp
  | succ k ih =>
    intro z hz
    have hk : 0 ≤ (k : Int) * p := Int.mul_nonneg (by omega) p0
    have e : z + ((k + 1 : Nat) : Int) * p = (z + (k : Int) * p) + p := by rw [Int.natCast_add, Int.add_mul]; omega
    rw [e, h _ (by omega), ih z hz]
/-- the first number from n on that serves -/
def IsFirst (f : Int → Bool) (n : Int) : Option Int → Prop
  | some z => n ≤ z ∧ f z = true ∧ ∀ j, n ≤ j → j < z → f j = false
  | none => ∀ j, n ≤ j → f j = false
theorem first_uniq {f g : Int → Bool} {n : Int} {o o' : Option Int} (h : ∀ z, n ≤ z → f z = g z) (p : IsFirst f n o) (q : IsFirst g n o') : o = o' := by
  cases o with
  | none =>
    cases o' with
    | none => rfl
    | some y => exact absurd ((h y q.1).trans q.2.1) (by rw [p y q.1]; decide)
  | some x =>
    cases o' with
    | none => exact absurd ((h x p.1).symm.trans p.2.1) (by rw [q x p.1]; decide)
    | some y =>
      have a : ¬ x < y := fun c => by have := q.2.2 x p.1 c; rw [← h x p.1, p.2.1] at this; cases this
      have b : ¬ y < x := fun c => by have := p.2.2 y q.1 c; rw [h y q.1, q.2.1] at this; cases this
      have : x = y := by omega
      rw [this]
/-- two that come round and agree on a stretch as long as both periods agree for ever -/
theorem rounds_agree {f g : Int → Bool} {s p q : Int} (p1 : 1 ≤ p) (q1 : 1 ≤ q) (hf : Round f s p) (hg : Round g s q) (h : ∀ z, s ≤ z → z < s + p + q → f z = g z) (z : Int) (hz : s ≤ z) : f z = g z := by
  obtain ⟨n, hn⟩ := Int.eq_ofNat_of_zero_le (show 0 ≤ z - s by omega)
  induction n using Nat.strongRecOn generalizing z with
  | ind n ih =>
    by_cases hc : z < s + p + q
    · exact h z hz hc
    · have e1 := hf (z - p) (by omega)
      have e2 := ih (n - p.toNat) (by omega) (z - p) (by omega) (by omega)
      have e3 := hg (z - p - q) (by omega)
      have e4 := ih (n - p.toNat - q.toNat) (by omega) (z - p - q) (by omega) (by omega)
      have e5 := hf (z - q - p) (by omega)
      have e6 := ih (n - q.toNat) (by omega) (z - q) (by omega) (by omega)
      have e7 := hg (z - q) (by omega)
      rw [show z - p + p = z by omega] at e1
      rw [show z - p - q + q = z - p by omega] at e3
      rw [show z - q - p + p = z - q by omega] at e5
      rw [show z - q + q = z by omega] at e7
      rw [show z - q - p = z - p - q by omega] at e5
      rw [e1, e2, e3, ← e4, ← e5, e6, e7]
/-- how many numbers below k serve -/
def Cnt (f : Int → Bool) : Nat → Nat
  | 0 => 0
  | k + 1 => Cnt f k + if f k = true then 1 else 0
theorem cnt_congr {f g : Int → Bool} {k : Nat} (h : ∀ z : Int, 0 ≤ z → z < k → f z = g z) : Cnt f k = Cnt g k := by
  induction k with
  | zero => rfl
  | succ k ih => rw [Cnt, Cnt, ih fun z a b => h z a (by omega), h k (by omega) (by omega)]
theorem filt_step {ls : List Int} (h : ls.Pairwise (· < ·)) (k : Int) : (ls.filter fun z => decide (z < k + 1)).length = (ls.filter fun z => decide (z < k)).length + if k ∈ ls then 1 else 0 := by
  induction ls with
  | nil => rfl
  | cons x r ih =>
    have p := List.pairwise_cons.mp h
    have ih := ih p.2
    by_cases hx : x = k
    · subst hx
      have hn : x ∉ r := fun c => absurd (p.1 x c) (by omega)
      rw [if_neg hn] at ih
      rw [List.filter_cons_of_pos (by simp; omega), List.filter_cons_of_neg (by simp), if_pos List.mem_cons_self, List.length_cons, ih]
    · have hm : (k ∈ x :: r) ↔ k ∈ r := ⟨fun c => (List.mem_cons.mp c).resolve_left (Ne.symm hx), List.mem_cons_of_mem _⟩
      by_cases hl : x < k
      · rw [List.filter_cons_of_pos (by simp; omega), List.filter_cons_of_pos (by simp; omega), List.length_cons, List.length_cons, ih]
        simp only [hm]
        omega
      · rw [List.filter_cons_of_neg (by simp; omega), List.filter_cons_of_neg (by simp; omega), ih]
        simp only [hm]
theorem cnt_list {n : Int} {ls : List Int} (h : Below n ls) (k : Nat) : Cnt (fun z => decide (z ∈ ls)) k = (ls.filter fun z => decide (z < (k : Int))).length := by
  induction k with
  | zero =>
    have : (ls.filter fun z => decide (z < ((0 : Nat) : Int))) = [] := List.filter_eq_nil_iff.mpr fun z hz => by have := (h.2 z hz).1; simp; omega
    rw [this]; rfl
  | succ k ih =>
    rw [Cnt, ih, show (((k + 1 : Nat) : Int)) = (k : Int) + 1 by omega, filt_step h.1]
    simp only [decide_eq_true_eq]
def manyI (m : Int) (ks : List Int) (k : Int) : Int := k / m * ks.length + (ks.filter fun r => decide (r < k % m)).length
theorem filt_all {m : Int} {ks : List Int} (h : Below m ks) : (ks.filter fun z => decide (z < m)) = ks := List.filter_eq_self.mpr fun z hz => decide_eq_true (h.2 z hz).2
theorem cnt_many {m : Int} {ks : List Int} (m1 : 1 ≤ m) (h : Below m ks) (k : Nat) : ((Cnt (fun z => decide (z % m ∈ ks)) k : Nat) : Int) = manyI m ks k := by
  induction k with
  | zero =>
    have e : (ks.filter fun z => decide (z < ((0 : Nat) : Int) % m)) = [] := List.filter_eq_nil_iff.mpr fun z hz => by
      have := (h.2 z hz).1
      rw [decide_eq_true_iff, show ((0 : Nat) : Int) % m = 0 from Int.zero_emod m]
      omega
    unfold manyI
    rw [e]; simp [Cnt]
  | succ k ih =>
    have r0 := Int.emod_nonneg (k : Int) (show m ≠ 0 by omega)
    have r1 := Int.emod_lt_of_pos (k : Int) (show 0 < m by omega)
    have hd := Int.emod_add_mul_ediv (k : Int) m
    have st := filt_step h.1 ((k : Int) % m)
    rw [Cnt, Int.natCast_add, ih]
    unfold manyI
    have ec : (((if decide ((k : Int) % m ∈ ks) = true then 1 else 0 : Nat)) : Int) = ((if (k : Int) % m ∈ ks then 1 else 0 : Nat) : Int) := by simp only [decide_eq_true_eq]
    rw [ec]
    by_cases hc : (k : Int) % m + 1 < m
    · have e1 : (((k + 1 : Nat) : Int)) % m = (k : Int) % m + 1 := by
        rw [show ((k + 1 : Nat) : Int) = ((k : Int) % m + 1) + m * ((k : Int) / m) by omega, Int.add_mul_emod_self_left, Int.emod_eq_of_lt (by omega) hc]
      have e2 : (((k + 1 : Nat) : Int)) / m = (k : Int) / m := by
        rw [show ((k + 1 : Nat) : Int) = ((k : Int) % m + 1) + m * ((k : Int) / m) by omega, Int.add_mul_ediv_left _ _ (by omega), Int.ediv_eq_zero_of_lt (by omega) hc]
        omega
      rw [e1, e2, st]
      omega
    · have e0 : (k : Int) % m + 1 = m := by omega
      have e1 : (((k + 1 : Nat) : Int)) % m = 0 := by
        rw [show ((k + 1 : Nat) : Int) = m * ((k : Int) / m + 1) by rw [Int.mul_add]; omega, Int.mul_emod_right]
      have e2 : (((k + 1 : Nat) : Int)) / m = (k : Int) / m + 1 := by
        rw [show ((k + 1 : Nat) : Int) = m * ((k : Int) / m + 1) by rw [Int.mul_add]; omega, Int.mul_ediv_cancel_left _ (by omega)]
      have ez : (ks.filter fun r => decide (r < 0)) = [] := List.filter_eq_nil_iff.mpr fun z hz => by have := (h.2 z hz).1; simp; omega
      rw [e0, filt_all h] at st
      rw [e1, e2, ez, Int.add_mul, st]
      simp
      omega
theorem many_add {m : Int} {ks : List Int} (m1 : 1 ≤ m) (k q : Int) : manyI m ks (k + q * m) = manyI m ks k + q * ks.length := by
  unfold manyI
  rw [Int.add_mul_ediv_right _ _ (by omega), Int.add_mul_emod_self_right, Int.add_mul]
  omega
/-- the count of a calendar -/
theorem cnt_cal {b m : Int} {ls ks : List Int} (b0 : 0 ≤ b) (m1 : 1 ≤ m) (h1 : Below b ls) (h2 : Below m ks) (k : Nat) : ((Cnt (calIn b m ls ks) k : Nat) : Int) = if (k : Int) ≤ b then ((ls.filter fun z => decide (z < (k : Int))).length : Int) else ls.length + manyI m ks k - manyI m ks b := by
  have low : ∀ k : Nat, (k : Int) ≤ b → Cnt (calIn b m ls ks) k = (ls.filter fun z => decide (z < (k : Int))).length := fun k hk => by
    rw [← cnt_list h1]
    refine cnt_congr fun z z0 z1 => ?_
    unfold calIn
    rw [if_pos (by omega)]
  by_cases hk : (k : Int) ≤ b
  · rw [if_pos hk, low k hk]
  · rw [if_neg hk]
    obtain ⟨B, rfl⟩ := Int.eq_ofNat_of_zero_le b0
    obtain ⟨d, rfl⟩ : ∃ d : Nat, k = B + d := ⟨k - B, by omega⟩
    have key : ∀ d : Nat, ((Cnt (calIn B m ls ks) (B + d) : Nat) : Int) = ls.length + Cnt (fun z => decide (z % m ∈ ks)) (B + d) - Cnt (fun z => decide (z % m ∈ ks)) B := by
      intro d
      induction d with
      | zero =>
        have := low B (Int.le_refl _)
        rw [filt_all h1] at this
        rw [Nat.add_zero, this]
        omega
      | succ d ih =>
        have e : calIn B m ls ks ((B + d : Nat) : Int) = decide (((B + d : Nat) : Int) % m ∈ ks) := by
          unfold calIn
          rw [if_neg (by omega)]
        rw [← Nat.add_assoc, Cnt, Cnt, e, Int.natCast_add, ih]
        omega
    rw [key, cnt_many m1 h2, cnt_many m1 h2]
/-- the count by rounds -/
theorem cnt_rounds {b p q l : Int} {ls ks : List Int} (b0 : 0 ≤ b) (p1 : 1 ≤ p) (h1 : Below b ls) (h2 : Below p ks) (q0 : 0 ≤ q) (l0 : 0 ≤ l) (hs : 0 < q ∨ 0 < l) : ((Cnt (calIn b p ls ks) (b + q * p + l).toNat : Nat) : Int) = ls.length + q * ks.length + (Cnt (calIn b p ls ks) (b + l).toNat - Cnt (calIn b p ls ks) b.toNat) := by
  have qp : 0 ≤ q * p := Int.mul_nonneg q0 (by omega)
  have hb := cnt_cal b0 p1 h1 h2 b.toNat
  rw [Int.toNat_of_nonneg b0, if_pos (Int.le_refl _), filt_all h1] at hb
  have hn := cnt_cal b0 p1 h1 h2 (b + q * p + l).toNat
  have hpos : 0 < q * p + l := by
    rcases hs with h | h
    · have := Int.mul_pos h (show 0 < p by omega); omega
    · omega
  rw [Int.toNat_of_nonneg (by omega), if_neg (by omega), show b + q * p + l = b + l + q * p by omega, many_add p1] at hn
  have hl := cnt_cal b0 p1 h1 h2 (b + l).toNat
  rw [Int.toNat_of_nonneg (by omega)] at hl
  by_cases hz : l = 0
  · subst hz
    rw [show b + q * p + 0 = b + 0 + q * p by omega]
    rw [hn, Int.add_zero, hb]
    omega
  · rw [if_neg (by omega)] at hl
    rw [show b + q * p + l = b + l + q * p by omega, hn, hl, hb]
    omega
def sp_Calendar___contains__ (K : PySem.W.Frag) (cC : Addr) : Sp := Z.Sp2 fun a v H Q E => ∃ (L : List Z.En) (y : Addr) (b m : Int) (ls ks : List Int) (k : Z.Kd), a = .ref y ∧ Z.Fx H L ∧ CalAt cC L y b m ls ks ∧ Z.HasK K H v k ∧ 1 ≤ m ∧ m ≤ 5000 ∧ Q (.bl (calInV b m ls ks v)) H
theorem fn_Calendar___contains__ (T : Txt K mg c_BadCalendar c_BadLength c_Calendar) {f : Addr} {fd : FuncData} (F : Fun K "__contains__" "Calendar.__contains__" s_Calendar___contains__ f fd) : FnOk P w K mg base CX0 2 f fd ["self", "number"] (sp_Calendar___contains__ K c_Calendar) := by
  have O_is_whole_1 := ok_is_whole_1 (P := P) (w := w) (base := base) T
  have O_is_whole_2 := ok_is_whole_2 (P := P) (w := w) (base := base) T
  have O_is_whole_3 := ok_is_whole_3 (P := P) (w := w) (base := base) T
  refine F.ok sc_Calendar___contains__ (fun vs H Q E h => ?_) (fun cdv A outer s H vs Q E hr h => ?_)
  · obtain ⟨a, b, rfl, _⟩ := h; rfl
  · obtain ⟨a, b, rfl, h⟩ := h
    refine ⟨_, (pss_cons (ps_if (pt_not (Z.pt_truN (Z.pe_callO O_is_whole_2 (by rfl) (hr.mono (by decide)) pass0 (pa_cons (pv 1) (pa_cons pe_int pa_nil)))))
        (pss_one (ps_ret pe_bl))
        pss_nil)
      (pss_cons (ps_if (pt_cmpR Z.zLt (pv 1) (pe_fld (pv 0) rfl) (nomark _))
        (pss_one (ps_ret (pe_cmpR (Z.op_inD (Z.hu1 hr)) (pv 1) (pe_fld (pv 0) rfl) (by rfl))))
        pss_nil)
      (pss_one (ps_ret (pe_cmpR (Z.op_inD (Z.hu1 hr)) (pe_op Z.zMod (pv 1) (pe_fld (pv 0) rfl)) (pe_fld (pv 0) rfl) (by rfl)))))), ?_⟩
    try dsimp only [cxOf, Cx.nox, Cx.wish]
    refine Z.at_start (σ' := [some a, some b]) rfl ?_
    obtain ⟨L, y, bm, m, ls, ks, k, rfl, F, ⟨dx, pl, pr, d1, d2, k1, k2, m1, m2, m3, m4, a1, m5, a2⟩, hk, p1, p5, q⟩ := h
    have hcl := T.i_Calendar.cl
    walk_at "z"
    refine Z.wIf (fun hb => ?_) (fun hb => ?_)
    · have hb' : Z.inB b (.int 0) .non = false := by simpa using hb
      walk_at "z"
      have e : calInV bm m ls ks b = false := by
        cases b with
        | int z =>
          simp only [Z.inB, Bool.and_eq_false_iff, decide_eq_false_iff_not] at hb'
          rcases hb' with h | h
          · simp [calInV, h]
          · cases h
        | _ => rfl
      rw [e] at q
      exact q
    have hb' : Z.inB b (.int 0) .non = true := by simpa using hb
    obtain ⟨z, rfl, z0⟩ : ∃ z, b = V.int z ∧ 0 ≤ z := by
      cases b with
      | int z =>
        simp only [Z.inB, Bool.and_eq_true, decide_eq_true_eq] at hb'
        exact ⟨z, rfl, hb'.1⟩
      | _ => exact absurd hb' (by simp [Z.inB])
    have e : calInV bm m ls ks (V.int z) = calIn bm m ls ks z := by simp [calInV, z0]
    rw [e] at q
    walk_at "z"
    refine Z.wFldAt F m1 hcl T.n_Calendar_before (cal_before _ _ _ _ _ _) ?_
    walk_at "z"
    refine Z.wIfD (fun h => ?_) (fun h => ?_)
    · walk_at "z"
      refine Z.wFldAt F m1 hcl T.n_Calendar__early (cal_early _ _ _ _ _ _) ?_
      refine Z.wInD F m4 ?_
      walk_at "z"
      rw [a1.1]
      unfold calIn at q
      rw [if_pos h] at q
      exact q
    · walk_at "z"
      refine Z.wFldAt F m1 hcl T.n_Calendar_period (cal_period _ _ _ _ _ _) ?_
      walk_at "z"
      refine Z.wFldAt F m1 hcl T.n_Calendar__late (cal_late _ _ _ _ _ _) ?_
      refine Z.wInD F m5 ?_
      walk_at "z"
      rw [a2.1]
      unfold calIn at q
      rw [if_neg h] at q
      exact q
theorem ok_Calendar___contains__ (T : Txt K mg c_BadCalendar c_BadLength c_Calendar) : Z.InO P w K mg base c_Calendar 2 ["self", "number"] (sp_Calendar___contains__ K c_Calendar) := by
  obtain ⟨f, fd, F, i⟩ := T.d_Calendar___contains__
  exact ⟨f, fd, i, (F.binds (ps := ["self", "number"]) fun _ _ _ _ _ _ us hl => match us, hl with | [_, _], _ => rfl), fn_Calendar___contains__ T F⟩
theorem in_cal {cC : Addr} {H : Hp} {L : List Z.En} {y : Addr} {b m : Int} {ls ks : List Int} {v : V} {k : Z.Kd} {QB : V → Hp → Prop} (F : Z.Fx H L) (ca : CalAt cC L y b m ls ks) (hk : Z.HasK K H v k) (m1 : 1 ≤ m) (m5 : m ≤ 5000) (h : QB (.bl (calInV b m ls ks v)) H) : Z.rInOwn K cC (sp_Calendar___contains__ K cC) v (.ref y) H QB := by
  obtain ⟨dx, pl, pr, d1, d2, k1, k2, n1, _⟩ := id ca
  exact Z.wInOwn (F.get n1) ⟨_, _, rfl, L, y, b, m, ls, ks, k, rfl, F, ca, hk, m1, m5, _, rfl, h⟩
theorem notin_cal {cC : Addr} {H : Hp} {L : List Z.En} {y : Addr} {b m : Int} {ls ks : List Int} {v : V} {k : Z.Kd} {QB : V → Hp → Prop} (F : Z.Fx H L) (ca : CalAt cC L y b m ls ks) (hk : Z.HasK K H v k) (m1 : 1 ≤ m) (m5 : m ≤ 5000) (h : QB (.bl (!calInV b m ls ks v)) H) : Z.rNotInOwn K cC (sp_Calendar___contains__ K cC) v (.ref y) H QB := by
  obtain ⟨dx, pl, pr, d1, d2, k1, k2, n1, _⟩ := id ca
  exact Z.wNotInOwn (F.get n1) ⟨_, _, rfl, L, y, b, m, ls, ks, k, rfl, F, ca, hk, m1, m5, _, rfl, h⟩
theorem sc__law_made : FnScope ["_law_world_here"] ["_law_world_here"] (defScope s__law_made) := ⟨rfl, rfl, rfl, by decide +kernel, rfl, by decide +kernel, by decide +kernel⟩
theorem yes_nat {e w : List Bool} {z : Nat} : yesI e w (z : Int) = if z < e.length then e.getD z false else w.getD (z % w.length) false := by
  unfold yesI
  by_cases h : z < e.length
  · rw [if_pos (by omega), if_pos h, Int.toNat_natCast]
  · rw [if_neg (by omega), if_neg h, ← Int.natCast_emod, Int.toNat_natCast]
/-- the answers as a calendar's -/
theorem yes_cal {e w : List Bool} {z : Int} (z0 : 0 ≤ z) : yesI e w z = calIn e.length w.length (idx e) (idx w) z := by
  obtain ⟨n, rfl⟩ := Int.eq_ofNat_of_zero_le z0
  rw [yes_nat]
  unfold calIn
  by_cases h : n < e.length
  · rw [if_pos h, if_pos (by omega), Bool.eq_iff_iff, decide_eq_true_iff]
    exact in_idx.symm
  · rw [if_neg h, if_neg (by omega), Bool.eq_iff_iff, decide_eq_true_iff, ← Int.natCast_emod]
    exact in_idx.symm
theorem plain_yes {e w : List Bool} {b m : Int} {ls ks : List Int} (w0 : 0 < w.length) (w5 : w.length ≤ 5000) (e2 : e.length ≤ 20000) (P : PlainOf e.length w.length (idx e) (idx w) b m ls ks) : IsPlain (yesI e w) b m ls ks :=
  ⟨e.length, w.length, idx e, idx w, by omega, by omega, by omega, by omega, idx_below e, idx_below w, P, fun z z0 => (yes_cal z0).symm⟩
def sp__law_made (K : PySem.W.Frag) (cC : Addr) : Sp := Z.Sp1 fun a H Q E => ∃ (L : List Z.En) (x : Addr) (e w : List Bool), a = .ref x ∧ Z.Fx H L ∧ WorldAt L x e w ∧ WOk e w ∧ ∀ b m ls ks, IsPlain (yesI e w) b m ls ks → ∀ y L1 H', L.Sublist L1 → CalAt cC L1 y b m ls ks → Z.Fx H' L1 → Q (.ref y) H'
theorem fn__law_made (T : Txt K mg c_BadCalendar c_BadLength c_Calendar) {f : Addr} {fd : FuncData} (F : Fun K "_law_made" "_law_made" s__law_made f fd) : FnOk P w K mg base CX0 6 f fd ["_law_world_here"] (sp__law_made K c_Calendar) := by
  have O__law_listed := ok__law_listed (P := P) (w := w) (base := base) T
  have O_Calendar_4 := ok_Calendar___init___4 (P := P) (w := w) (base := base) T
  refine F.ok sc__law_made (fun vs H Q E h => ?_) (fun cdv A outer s H vs Q E hr h => ?_)
  · obtain ⟨a, rfl, _⟩ := h; rfl
  · obtain ⟨a, rfl, h⟩ := h
    refine ⟨_, (pss_one (ps_ret (Z.pe_makeO O_Calendar_4 (hr.mono (by decide)) T.g_Calendar (by rfl) passL (pa_cons (pe_callB Z.zLen (by rfl) T.b_len (by decide +kernel) (pa_cons (pe_ix ix_seq (pv 0) pe_int (fun _ _ => rfl)) pa_nil)) (pa_cons (Z.pe_callO O__law_listed (by rfl) (hr.mono (by decide)) pass0 (pa_cons (pe_ix ix_seq (pv 0) pe_int (fun _ _ => rfl)) pa_nil)) (pa_cons (pe_callB Z.zLen (by rfl) T.b_len (by decide +kernel) (pa_cons (pe_ix ix_seq (pv 0) pe_int (fun _ _ => rfl)) pa_nil)) (pa_cons (Z.pe_callO O__law_listed (by rfl) (hr.mono (by decide)) pass0 (pa_cons (pe_ix ix_seq (pv 0) pe_int (fun _ _ => rfl)) pa_nil)) pa_nil))))))), ?_⟩
    try dsimp only [cxOf, Cx.nox, Cx.wish]
    refine Z.at_start (σ' := [some a]) rfl ?_
    obtain ⟨L, x, e, w, rfl, F, wa, ⟨w0, w5, e2⟩, k⟩ := h
    obtain ⟨p, q, h1, h2, h3⟩ := id wa
    walk_at "z"
    rw [List.length_map]
    refine use__law_listed F h2 (by omega) fun o1 H1 F1 => ?_
    walk_at "z"
    refine use__law_listed F1 (.tail _ h3) (by omega) fun o2 H2 F2 => ?_
    walk_at "z"
    rw [List.length_map]
    refine use_CalendarG F2 (ls := idx e) (rs := idx w) ⟨by omega, by omega, by omega, by omega, idx_below e, idx_below w⟩ (.lst (.tail _ (.head _))) (.lst (.head _)) fun bm m l' k' P y L1 H' s ca F' => ?_
    exact k bm m l' k' (plain_yes w0 (by omega) (by omega) P) y L1 H' ((List.Sublist.cons _ (.cons _ (.refl _))).trans s) ca F'
theorem ok__law_made (T : Txt K mg c_BadCalendar c_BadLength c_Calendar) : Z.Ok CX0 P w K mg base "_law_made" 6 ["_law_world_here"] [] (sp__law_made K c_Calendar) := by
  obtain ⟨f, fd, F, g⟩ := T.d__law_made
  exact Z.mkOk F g (F.binds (ps := ["_law_world_here"]) fun _ _ _ _ _ _ us hl => match us, hl with | [_], _ => rfl) (fn__law_made T F)
theorem use__law_made {cC : Addr} {H : Hp} {Q : VK} {E : XK} {L : List Z.En} {x : Addr} {e w : List Bool} (F : Z.Fx H L) (wa : WorldAt L x e w) (wo : WOk e w) (k : ∀ b m ls ks, IsPlain (yesI e w) b m ls ks → ∀ y L1 H', L.Sublist L1 → CalAt cC L1 y b m ls ks → Z.Fx H' L1 → Q (.ref y) H') : sp__law_made K cC [.ref x] H Q E := ⟨_, rfl, L, x, e, w, rfl, F, wa, wo, k⟩
theorem sc_check_far : FnScope ["number"] ["number"] (defScope s_check_far) := ⟨rfl, rfl, rfl, by decide +kernel, rfl, by decide +kernel, by decide +kernel⟩
def sp_check_far (K : PySem.W.Frag) (cL : Addr) : Sp := Z.Sp1 fun a H Q E => ∃ (k : Z.Kd), Z.HasK K H a k ∧ (Z.inB a (.int 0) (.int (10 ^ Int.toNat 30)) = false → E (.ref cL) none H) ∧ (Z.inB a (.int 0) (.int (10 ^ Int.toNat 30)) = true → Q a H)
theorem fn_check_far (T : Txt K mg c_BadCalendar c_BadLength c_Calendar) {f : Addr} {fd : FuncData} (F : Fun K "check_far" "check_far" s_check_far f fd) : FnOk P w K mg base (L2.CX P w) 2 f fd ["number"] (sp_check_far K c_BadLength) := by
  have O_is_whole_1 := ok_is_whole_1 (P := P) (w := w) (base := base) T
  have O_is_whole_2 := ok_is_whole_2 (P := P) (w := w) (base := base) T
  have O_is_whole_3 := ok_is_whole_3 (P := P) (w := w) (base := base) T
  refine F.okX sc_check_far (fun vs H Q E h => ?_) (fun cdv A outer s H vs Q E hr h => ?_)
  · obtain ⟨a, rfl, _⟩ := h; rfl
  · obtain ⟨a, rfl, h⟩ := h
    have TK := takes_of (X := cxOf (L2.CX P w) P w K mg base ["number"] "check_far" (defScope s_check_far) f cdv A outer s H E) rfl rfl rfl rfl
    refine ⟨_, (pss_cons (ps_if (pt_not (Z.pt_truN (Z.pe_callO O_is_whole_3 (by rfl) (hr.mono (by decide)) pass0 (pa_cons (pv 0) (pa_cons pe_int (pa_cons (pe_op Z.zPow pe_int pe_int) pa_nil))))))
        (pss_one (ps_raise (by rfl) TK (Z.pmk_err00 T.y_BadLength T.g_BadLength (by rfl))))
        pss_nil)
      (pss_one (ps_ret (pv 0)))), ?_⟩
    try dsimp only [cxOf, Cx.nox, Cx.wish]
    refine Z.at_start (σ' := [some a]) rfl ?_
    obtain ⟨k, hk, kE, kQ⟩ := h
    walk_at "z"
    refine Z.wIf (fun hb => ?_) (fun hb => ?_)
    · walk_at "z"
      exact kE (by simpa using hb)
    · walk_at "z"
      exact kQ (by simpa using hb)
theorem ok_check_far (T : Txt K mg c_BadCalendar c_BadLength c_Calendar) : Z.Ok (L2.CX P w) P w K mg base "check_far" 2 ["number"] [] (sp_check_far K c_BadLength) := by
  obtain ⟨f, fd, F, g⟩ := T.d_check_far
  exact Z.mkOk F g (F.binds (ps := ["number"]) fun _ _ _ _ _ _ us hl => match us, hl with | [_], _ => rfl) (fn_check_far T F)
theorem use_check_far {cL : Addr} {H : Hp} {Q : VK} {E : XK} {a : V} {k : Z.Kd} (hk : Z.HasK K H a k) (kE : Z.inB a (.int 0) (.int (10 ^ Int.toNat 30)) = false → E (.ref cL) none H) (kQ : Z.inB a (.int 0) (.int (10 ^ Int.toNat 30)) = true → Q a H) : sp_check_far K cL [a] H Q E := ⟨_, rfl, k, hk, kE, kQ⟩
theorem far_get {x : V} (h : Z.inB x (.int 0) (.int (10 ^ Int.toNat 30)) = true) : ∃ z, x = .int z ∧ 0 ≤ z ∧ z ≤ 1000000000000000000000000000000 := by
  cases x with
  | int z =>
    simp only [Z.inB, Bool.and_eq_true, decide_eq_true_eq] at h
    have e : (10 : Int) ^ Int.toNat 30 = 1000000000000000000000000000000 := by decide
    rw [e] at h
    exact ⟨z, rfl, h.1, h.2⟩
  | _ => exact absurd h (by simp [Z.inB])
theorem sc_first_served : FnScope ["calendar", "length", "served", "start", "rest"] ["calendar", "length"] (defScope s_first_served) := ⟨rfl, rfl, rfl, by decide +kernel, rfl, by decide +kernel, by decide +kernel⟩
def ofO : Option Int → V
  | some z => .int z
  | none => .non
theorem asc_before {ls : List Int} (h : ls.Pairwise (· < ·)) {i : Nat} {u j : Int} (hu : ls[i]? = some u) (hj : j ∈ ls) (hlt : j < u) : j ∈ ls.take i := by
  rw [← List.take_append_drop i ls] at hj
  rcases List.mem_append.mp hj with h1 | h1
  · exact h1
  · exfalso
    obtain ⟨hi, rfl⟩ := List.getElem?_eq_some_iff.mp hu
    have e := List.drop_eq_getElem_cons hi
    have hp := h.sublist (List.drop_sublist i ls)
    rw [e] at hp h1
    rcases List.mem_cons.mp h1 with h2 | h2
    · omega
    · have := (List.pairwise_cons.mp hp).1 j h2
      omega
theorem mod_at {z m : Int} (m1 : 1 ≤ m) (r : Int) : (z + (r - z) % m) % m = r % m := by rw [Int.add_comm, Int.emod_add_emod, show r - z + z = r by omega]
def sp_first_served (K : PySem.W.Frag) (cC cL : Addr) : Sp := Z.Sp2 fun a v H Q E => ∃ (L : List Z.En) (y : Addr) (b m : Int) (ls ks : List Int) (k : Z.Kd), a = .ref y ∧ Z.Fx H L ∧ CalAt cC L y b m ls ks ∧ 0 ≤ b ∧ b ≤ 20000 ∧ 1 ≤ m ∧ m ≤ 5000 ∧ Below b ls ∧ Below m ks ∧ Z.HasK K H v k ∧ (Z.inB v (.int 0) (.int (10 ^ Int.toNat 30)) = false → E (.ref cL) none H) ∧ ∀ z o H', v = .int z → 0 ≤ z → z ≤ 1000000000000000000000000000000 → IsFirst (calIn b m ls ks) z o → Z.Fx H' L → Q (ofO o) H'
theorem fn_first_served (T : Txt K mg c_BadCalendar c_BadLength c_Calendar) {f : Addr} {fd : FuncData} (F : Fun K "first_served" "first_served" s_first_served f fd) : FnOk P w K mg base (L2.CX P w) 3 f fd ["calendar", "length"] (sp_first_served K c_Calendar c_BadLength) := by
  have O_check_far := ok_check_far (P := P) (w := w) (base := base) T
  refine F.okX sc_first_served (fun vs H Q E h => ?_) (fun cdv A outer s H vs Q E hr h => ?_)
  · obtain ⟨a, b, rfl, _⟩ := h; rfl
  · obtain ⟨a, b, rfl, h⟩ := h
    have TK := takes_of (X := cxOf (L2.CX P w) P w K mg base ["calendar", "length", "served", "start", "rest"] "first_served" (defScope s_first_served) f cdv A outer s H E) rfl rfl rfl rfl
    refine ⟨_, (pss_cons (ps_expr (Z.pe_callO O_check_far (by rfl) (hr.mono (by decide)) (Z.passE TK) (pa_cons (pv 1) pa_nil)))
      (pss_cons (ps_for (Z.owns rfl) (by rfl) (Z.pi_seq (pe_fld (pv 0) rfl)) (pg_name (i := 2) sc_first_served.nd rfl (by first | exact Or.inl rfl | exact Or.inr rfl))
        (pss_one (ps_if (pt_cmpR Z.zGe (pv 2) (pv 1) (nomark _))
          (pss_one (ps_ret (pv 2)))
          pss_nil)))
      (pss_cons (ps_set (i := 3) sc_first_served.nd rfl (by first | exact Or.inl rfl | exact Or.inr rfl) (pe_callB (Z.zMax2 rfl) (by rfl) T.b_max (by decide +kernel) (pa_cons (pv 1) (pa_cons (pe_fld (pv 0) rfl) pa_nil))))
      (pss_one (ps_ret (pe_callBK (show CallRK _ (Value.builtin "min") _ (Z.rMinN K) from Z.cr_minN rfl) (by rfl) T.b_min (by decide +kernel) (pa_cons (by exact (pe_lc (own := [("rest", 4)]) (g := (gName 4)) (by rfl) sc_first_served.nd (Z.pi_seq (pe_fld (pv 0) rfl)) (blkOk_by (own := [("rest", 4)]) (N := ["calendar", "length", "served", "start", "rest"]) (sc := defScope s_first_served) (by decide +kernel)) (fun _ _ _ _ _ => (by exact (pg_name (i := 4) sc_first_served.nd rfl (by first | exact Or.inl rfl | exact Or.inr rfl)))) (fun _ _ _ _ _ => (by exact pts_nil)) (fun _ _ _ _ _ => (by exact (pe_op (show OpR _ _ (Z.rOr Z.rAddI (Z.rOr Z.rAddS (Z.rOr rCat (rCatT K)))) from Z.zAdd) (pv 3) (pe_op Z.zMod (pe_op op_sub (pv 4) (pv 3)) (show PE _ _ (tFld K (tVar 0) "period") from pe_fld (pv 0) rfl))))))) pa_nil) (pk_cons pe_non pk_nil))))))), ?_⟩
    try dsimp only [cxOf, Cx.nox, Cx.wish]
    refine Z.at_start (σ' := [some a, some b, none, none, none]) rfl ?_
    obtain ⟨L, y, bm, m, ls, ks, k, rfl, F, ca, b0, b2, m1, m5, o1, o2, hk, kE, kQ⟩ := h
    have hcl := T.i_Calendar.cl
    obtain ⟨dx, pl, pr, d1, d2, k1, k2, n1, n2, n3, n4, a1, n5, a2⟩ := id ca
    walk_at "z"
    refine use_check_far hk kE fun hb => ?_
    obtain ⟨z, rfl, z0, z1⟩ := far_get hb
    walk_at "z"
    refine Z.wFldAt F n1 hcl T.n_Calendar_lengths (cal_lengths _ _ _ _ _ _) ?_
    walk_at "z"
    refine Z.wForW (walk_tup (K := K) (xs := ls.map V.int)) (fun i σ H' => ∃ v2, σ = [some (.ref y), some (.int z), v2, none, none] ∧ Z.Fx H' L ∧ ∀ u ∈ ls.take i, u < z) ⟨_, rfl, F, by simp⟩ (fun i σ H' _ ⟨v2, _, F', _⟩ => F'.tup n2) ?_ ?_
    · rintro i x σ H1 H2 hi ⟨v2, rfl, F1, hlo⟩ ⟨rfl, hx⟩
      obtain ⟨u, rfl, hu⟩ := Z.int_of_map' hx
      have hm := List.mem_of_getElem? hu
      walk_at "z"
      refine Z.wIfD (fun h => ?_) (fun h => ?_)
      · walk_at "z"
        refine kQ z (some u) _ rfl z0 z1 ⟨by omega, ?_, fun j j0 j1 => ?_⟩ F1
        · unfold calIn
          rw [if_pos (o1.2 u hm).2]
          exact decide_eq_true hm
        · unfold calIn
          have := (o1.2 u hm).2
          rw [if_pos (by omega)]
          exact decide_eq_false fun c => by have := hlo j (asc_before o1.1 hu c j1); omega
      · walk_at "z"
        refine ⟨_, rfl, F1, fun w hw => ?_⟩
        rw [List.take_add_one, hu] at hw
        rcases List.mem_append.mp hw with h1 | h1
        · exact hlo w h1
        · have := List.mem_singleton.mp h1
          omega
    rintro σ H1 ⟨v2, rfl, F1, hlo⟩
    rw [List.length_map, List.take_length] at hlo
    walk_at "z"
    refine Z.wFldAt F1 n1 hcl T.n_Calendar_before (cal_before _ _ _ _ _ _) ?_
    walk_at "z"
    obtain ⟨st, hst, s1, s2, s3⟩ : ∃ st, (if bm > z then bm else z) = st ∧ z ≤ st ∧ bm ≤ st ∧ (st = z ∨ st = bm) := ⟨_, rfl, by split <;> omega, by split <;> omega, by split <;> omega⟩
    rw [hst]
    refine Z.wFldAt F1 n1 hcl T.n_Calendar_rests (cal_rests _ _ _ _ _ _) ?_
    walk_at "z"
    have l2 := o2.len (by omega)
    refine Z.wLcW (walk_tup (K := K) (xs := ks.map V.int)) F1 (fun i acc L' => L' = L ∧ acc = ((ks.take i).map fun r => st + (r - st) % m).map V.int) ⟨rfl, rfl⟩ (fun i acc L' D H' r F' => F'.tup (.tail _ (r.1 ▸ n3))) ?_ ?_
    · rintro i x D H2 H3 acc L' hi ⟨rfl, rfl⟩ F2 ⟨rfl, hx⟩
      obtain ⟨u, rfl, hu⟩ := Z.int_of_map' hx
      walk_at "zw"
      walk_at "z"
      refine ⟨rfl, ?_⟩
      walk_at "z"
      refine Z.wFldAt F2 (.tail _ n1) hcl T.n_Calendar_period (cal_period _ _ _ _ _ _) ?_
      walk_at "z"
      refine Z.lcPut F2 (by rw [List.length_map, List.length_map, List.length_take]; have := Z.line_big; omega) ⟨rfl, ?_⟩
      rw [List.map_map, List.map_map, List.take_add_one, hu, List.map_append]
      rfl
    rintro D acc L' H2 F2 ⟨rfl, rfl⟩
    rw [List.length_map, List.take_length] at F2
    walk_at "z"
    have nol : ∀ j, z ≤ j → j < st → calIn bm m ls ks j = false := fun j j0 j1 => by
      unfold calIn
      rw [if_pos (by omega)]
      exact decide_eq_false fun c => by have := hlo j c; omega
    refine Z.wMinN (F2.lst (.head _)) (fun hnil => ?_) (fun M hM hle => ?_)
    · have hk0 : ks = [] := by
        cases ks with
        | nil => rfl
        | cons a b => cases hnil
      subst hk0
      refine kQ z none _ rfl z0 z1 (fun j j0 => ?_) (F2.sub (.cons _ (.refl _)))
      by_cases hj : j < st
      · exact nol j j0 hj
      · unfold calIn
        rw [if_neg (by omega)]
        exact decide_eq_false (by simp)
    · obtain ⟨r, hr, rfl⟩ := List.mem_map.mp hM
      obtain ⟨r0, r1⟩ := o2.2 r hr
      have e0 := Int.emod_nonneg (r - st) (show m ≠ 0 by omega)
      refine kQ z (some (st + (r - st) % m)) _ rfl z0 z1 ⟨by omega, ?_, fun j j0 j1 => ?_⟩ (F2.sub (.cons _ (.refl _)))
      · unfold calIn
        rw [if_neg (by omega), mod_at m1, Int.emod_eq_of_lt r0 r1]
        exact decide_eq_true hr
      · by_cases hj : j < st
        · exact nol j j0 hj
        · unfold calIn
          rw [if_neg (by omega)]
          refine decide_eq_false fun c => ?_
          have h1 := hle _ (List.mem_map_of_mem (f := fun r => st + (r - st) % m) c)
          have h2 : (j % m - st) % m = (j - st) % m := by rw [Int.sub_emod, Int.emod_emod, ← Int.sub_emod]
          have h3 : (j - st) % m ≤ j - st := by
            have := Int.emod_add_mul_ediv (j - st) m
            have := Int.mul_nonneg (show 0 ≤ m by omega) (Int.ediv_nonneg (show 0 ≤ j - st by omega) (show 0 ≤ m by omega))
            omega
          try dsimp only at h1
          rw [h2] at h1
          omega
theorem ok_first_served (T : Txt K mg c_BadCalendar c_BadLength c_Calendar) : Z.Ok (L2.CX P w) P w K mg base "first_served" 3 ["calendar", "length"] [] (sp_first_served K c_Calendar c_BadLength) := by
  obtain ⟨f, fd, F, g⟩ := T.d_first_served
  exact Z.mkOk F g (F.binds (ps := ["calendar", "length"]) fun _ _ _ _ _ _ us hl => match us, hl with | [_, _], _ => rfl) (fn_first_served T F)
theorem use_first_served {cC cL : Addr} {H : Hp} {Q : VK} {E : XK} {L : List Z.En} {y : Addr} {b m : Int} {ls ks : List Int} {v : V} {k : Z.Kd} (F : Z.Fx H L) (ca : CalAt cC L y b m ls ks) (b0 : 0 ≤ b) (b2 : b ≤ 20000) (m1 : 1 ≤ m) (m5 : m ≤ 5000) (o1 : Below b ls) (o2 : Below m ks) (hk : Z.HasK K H v k) (kE : Z.inB v (.int 0) (.int (10 ^ Int.toNat 30)) = false → E (.ref cL) none H)
  (kQ : ∀ z o H', v = .int z → 0 ≤ z → z ≤ 1000000000000000000000000000000 → IsFirst (calIn b m ls ks) z o → Z.Fx H' L → Q (ofO o) H') : sp_first_served K cC cL [.ref y, v] H Q E := ⟨_, _, rfl, L, y, b, m, ls, ks, k, rfl, F, ca, b0, b2, m1, m5, o1, o2, hk, kE, kQ⟩
theorem sc__law_next : FnScope ["_law_world_here", "_law_number", "_law_k"] ["_law_world_here", "_law_number"] (defScope s__law_next) := ⟨rfl, rfl, rfl, by decide +kernel, rfl, by decide +kernel, by decide +kernel⟩
theorem yes_round {e w : List Bool} (st : Int) (h0 : 0 ≤ st) (h : e.length ≤ st) (z : Int) (hz : st ≤ z) : yesI e w (z + w.length) = yesI e w z := by
  rw [yes_cal (by omega), yes_cal (by omega)]
  exact cal_round (by omega) z (by omega)
theorem none_on {f : Int → Bool} {n st p : Int} (p1 : 1 ≤ p) (hs : n ≤ st) (hr : ∀ z, st ≤ z → f (z + p) = f z) (h : ∀ j, n ≤ j → j < st + p → f j = false) (j : Int) (hj : n ≤ j) : f j = false := by
  by_cases hc : j < st + p
  · exact h j hj hc
  · obtain ⟨k, hk⟩ := Int.eq_ofNat_of_zero_le (show 0 ≤ j - st by omega)
    induction k using Nat.strongRecOn generalizing j with
    | ind k ih =>
      have e := hr (j - p) (by omega)
      rw [show j - p + p = j by omega] at e
      rw [e]
      by_cases hc2 : j - p < st + p
      · exact h _ (by omega) hc2
      · exact ih (k - p.toNat) (by omega) (j - p) (by omega) hc2 (by omega)
def sp__law_next (K : PySem.W.Frag) : Sp := Z.Sp2 fun a b H Q E => ∃ (L : List Z.En) (x : Addr) (e w : List Bool) (n : Int), a = .ref x ∧ b = .int n ∧ Z.Fx H L ∧ WorldAt L x e w ∧ WOk e w ∧ 0 ≤ n ∧ ∀ o, IsFirst (yesI e w) n o → Q (ofO o) H
theorem fn__law_next (T : Txt K mg c_BadCalendar c_BadLength c_Calendar) {f : Addr} {fd : FuncData} (F : Fun K "_law_next" "_law_next" s__law_next f fd) : FnOk P w K mg base CX0 2 f fd ["_law_world_here", "_law_number"] (sp__law_next K) := by
  have O__law_yes := ok__law_yes (P := P) (w := w) (base := base) T
  refine F.ok sc__law_next (fun vs H Q E h => ?_) (fun cdv A outer s H vs Q E hr h => ?_)
  · obtain ⟨a, b, rfl, _⟩ := h; rfl
  · obtain ⟨a, b, rfl, h⟩ := h
    refine ⟨_, (pss_cons (ps_for PassesOwn.never (by rfl) (Z.pi_rangeG (by rfl) T.b_range (pa_cons (pv 1) (pa_cons (pe_op Z.zAdd (pe_callB (Z.zMax2 rfl) (by rfl) T.b_max (by decide +kernel) (pa_cons (pv 1) (pa_cons (pe_callB Z.zLen (by rfl) T.b_len (by decide +kernel) (pa_cons (pe_ix ix_seq (pv 0) pe_int (fun _ _ => rfl)) pa_nil)) pa_nil))) (pe_callB Z.zLen (by rfl) T.b_len (by decide +kernel) (pa_cons (pe_ix ix_seq (pv 0) pe_int (fun _ _ => rfl)) pa_nil))) pa_nil))) (pg_name (i := 2) sc__law_next.nd rfl (by first | exact Or.inl rfl | exact Or.inr rfl))
        (pss_one (ps_if (Z.pt_truN (Z.pe_callO O__law_yes (by rfl) (hr.mono (by decide)) pass0 (pa_cons (pv 0) (pa_cons (pv 2) pa_nil))))
          (pss_one (ps_ret (pv 2)))
          pss_nil)))
      (pss_one (ps_ret pe_non))), ?_⟩
    try dsimp only [cxOf, Cx.nox, Cx.wish]
    refine Z.at_start (σ' := [some a, some b, none]) rfl ?_
    obtain ⟨L, x, e, w, n, rfl, rfl, F, wa, ⟨w0, w5, e2⟩, n0, k⟩ := h
    obtain ⟨p, q, h1, h2, h3⟩ := id wa
    walk_at "z"
    rw [List.length_map, List.length_map]
    obtain ⟨st, hst, s1, s2, s3⟩ : ∃ st, (if (e.length : Int) > n then (e.length : Int) else n) = st ∧ n ≤ st ∧ (e.length : Int) ≤ st ∧ (st = n ∨ st = e.length) := ⟨_, rfl, by split <;> omega, by split <;> omega, by split <;> omega⟩
    rw [hst]
    refine Z.wForW walk_range (fun i σ H' => ∃ v2, σ = [some (.ref x), some (.int n), v2] ∧ H' = H ∧ ∀ j, n ≤ j → j < n + (i : Int) → yesI e w j = false) ⟨_, rfl, rfl, fun j h1 h2 => by omega⟩ (fun _ _ _ _ _ => trivial) ?_ ?_
    · rintro i u σ H1 H2 hi ⟨v2, rfl, rfl, hno⟩ ⟨rfl, rfl⟩
      dsimp only
      walk_at "z"
      refine use__law_yes F wa (by omega) w0 ?_
      walk_at "z"
      refine Z.wIf (fun hb => ?_) (fun hb => ?_)
      · walk_at "z"
        exact k (some (n + i)) ⟨by omega, hb, fun j j0 j1 => hno j j0 j1⟩
      · walk_at "z"
        refine ⟨_, rfl, rfl, fun j j0 j1 => ?_⟩
        by_cases e : j = n + i
        · rw [e]; exact hb
        · exact hno j j0 (by omega)
    · rintro σ H1 ⟨v2, rfl, rfl, hno⟩
      walk_at "z"
      refine k none fun j j0 => ?_
      refine none_on (p := w.length) (st := st) (by omega) s1 (fun z hz => yes_round st (by omega) s2 z hz) (fun j a b => hno j a (by omega)) j j0
theorem ok__law_next (T : Txt K mg c_BadCalendar c_BadLength c_Calendar) : Z.Ok CX0 P w K mg base "_law_next" 2 ["_law_world_here", "_law_number"] [] (sp__law_next K) := by
  obtain ⟨f, fd, F, g⟩ := T.d__law_next
  exact Z.mkOk F g (F.binds (ps := ["_law_world_here", "_law_number"]) fun _ _ _ _ _ _ us hl => match us, hl with | [_, _], _ => rfl) (fn__law_next T F)
theorem use__law_next {H : Hp} {Q : VK} {E : XK} {L : List Z.En} {x : Addr} {e w : List Bool} {n : Int} (F : Z.Fx H L) (wa : WorldAt L x e w) (wo : WOk e w) (n0 : 0 ≤ n) (k : ∀ o, IsFirst (yesI e w) n o → Q (ofO o) H) : sp__law_next K [.ref x, .int n] H Q E := ⟨_, _, rfl, L, x, e, w, n, rfl, rfl, F, wa, wo, n0, k⟩
theorem sc__law_count : FnScope ["_law_world_here", "_law_number", "_law_early", "_law_wheel", "_law_rounds", "_law_left", "_law_total", "_law_k"] ["_law_world_here", "_law_number"] (defScope s__law_count) := ⟨rfl, rfl, rfl, by decide +kernel, rfl, by decide +kernel, by decide +kernel⟩
theorem cnt_le (f : Int → Bool) (k : Nat) : Cnt f k ≤ k := by
  induction k with
  | zero => exact Nat.le_refl _
  | succ k ih => rw [Cnt]; split <;> omega
def sp__law_count (K : PySem.W.Frag) : Sp := Z.Sp2 fun a b H Q E => ∃ (L : List Z.En) (x : Addr) (e w : List Bool) (n : Int), a = .ref x ∧ b = .int n ∧ Z.Fx H L ∧ WorldAt L x e w ∧ WOk e w ∧ 0 ≤ n ∧ n ≤ 1000000000000000000000000000000 ∧ ∀ H', Z.Fx H' L → Q (.int ((Cnt (yesI e w) (n + 1).toNat : Nat) : Int)) H'
theorem fn__law_count (T : Txt K mg c_BadCalendar c_BadLength c_Calendar) {f : Addr} {fd : FuncData} (F : Fun K "_law_count" "_law_count" s__law_count f fd) : FnOk P w K mg base CX0 2 f fd ["_law_world_here", "_law_number"] (sp__law_count K) := by
  have O__law_listed := ok__law_listed (P := P) (w := w) (base := base) T
  have O__law_yes := ok__law_yes (P := P) (w := w) (base := base) T
  refine F.ok sc__law_count (fun vs H Q E h => ?_) (fun cdv A outer s H vs Q E hr h => ?_)
  · obtain ⟨a, b, rfl, _⟩ := h; rfl
  · obtain ⟨a, b, rfl, h⟩ := h
    refine ⟨_, (pss_cons (ps_asg (pv 0) (pg_tup (by rfl) (pgs_cons (pg_name (i := 2) sc__law_count.nd rfl (by first | exact Or.inl rfl | exact Or.inr rfl)) (pgs_cons (pg_name (i := 3) sc__law_count.nd rfl (by first | exact Or.inl rfl | exact Or.inr rfl)) pgs_nil))))
      (pss_cons (ps_if (pt_cmpR Z.zLt (pv 1) (pe_callB Z.zLen (by rfl) T.b_len (by decide +kernel) (pa_cons (pv 2) pa_nil)) (nomark _))
        (pss_one (ps_ret (pe_callB Z.zLen (by rfl) T.b_len (by decide +kernel) (pa_cons (by exact (pe_lc (own := [("_law_k", 7)]) (g := (gName 7)) (by rfl) sc__law_count.nd (pi_range1 (by rfl) T.b_range (pa_cons (pe_op Z.zAdd (pv 1) pe_int) pa_nil)) (blkOk_by (own := [("_law_k", 7)]) (N := ["_law_world_here", "_law_number", "_law_early", "_law_wheel", "_law_rounds", "_law_left", "_law_total", "_law_k"]) (sc := defScope s__law_count) (by decide +kernel)) (fun _ _ _ _ _ => (by exact (pg_name (i := 7) sc__law_count.nd rfl (by first | exact Or.inl rfl | exact Or.inr rfl)))) (fun _ _ _ _ _ => (by exact (pts_one (show PT _ _ (Z.rTru K _) from Z.pt_truN (pe_ix (show IxR _ (rIx K) from ix_seq) (pv 2) (pv 7) (fun _ _ => rfl)))))) (fun _ _ _ _ _ => (by exact (pv 7))))) pa_nil))))
        pss_nil)
      (pss_cons (ps_asg (pe_callB Z.cr_dvm (by rfl) T.b_divmod (by decide +kernel) (pa_cons (pe_op op_sub (pe_op Z.zAdd (pv 1) pe_int) (pe_callB Z.zLen (by rfl) T.b_len (by decide +kernel) (pa_cons (pv 2) pa_nil))) (pa_cons (pe_callB Z.zLen (by rfl) T.b_len (by decide +kernel) (pa_cons (pv 3) pa_nil)) pa_nil))) (pg_tup (by rfl) (pgs_cons (pg_name (i := 4) sc__law_count.nd rfl (by first | exact Or.inl rfl | exact Or.inr rfl)) (pgs_cons (pg_name (i := 5) sc__law_count.nd rfl (by first | exact Or.inl rfl | exact Or.inr rfl)) pgs_nil))))
      (pss_cons (ps_set (i := 6) sc__law_count.nd rfl (by first | exact Or.inl rfl | exact Or.inr rfl) (pe_op Z.zAdd (pe_callB Z.zLen (by rfl) T.b_len (by decide +kernel) (pa_cons (Z.pe_callO O__law_listed (by rfl) (hr.mono (by decide)) pass0 (pa_cons (pv 2) pa_nil)) pa_nil)) (pe_op Z.zMul (pv 4) (pe_callB Z.zLen (by rfl) T.b_len (by decide +kernel) (pa_cons (Z.pe_callO O__law_listed (by rfl) (hr.mono (by decide)) pass0 (pa_cons (pv 3) pa_nil)) pa_nil)))))
      (pss_one (ps_ret (pe_op Z.zAdd (pv 6) (pe_callB Z.zLen (by rfl) T.b_len (by decide +kernel) (pa_cons (by exact (pe_lc (own := [("_law_k", 7)]) (g := (gName 7)) (by rfl) sc__law_count.nd (pi_range2 (by rfl) T.b_range (pa_cons (pe_callB Z.zLen (by rfl) T.b_len (by decide +kernel) (pa_cons (pv 2) pa_nil)) (pa_cons (pe_op Z.zAdd (pe_callB Z.zLen (by rfl) T.b_len (by decide +kernel) (pa_cons (pv 2) pa_nil)) (pv 5)) pa_nil))) (blkOk_by (own := [("_law_k", 7)]) (N := ["_law_world_here", "_law_number", "_law_early", "_law_wheel", "_law_rounds", "_law_left", "_law_total", "_law_k"]) (sc := defScope s__law_count) (by decide +kernel)) (fun _ _ _ _ _ => (by exact (pg_name (i := 7) sc__law_count.nd rfl (by first | exact Or.inl rfl | exact Or.inr rfl)))) (fun _ _ _ _ _ => (by exact (pts_one (show PT _ _ (Z.rTru K _) from Z.pt_truN (Z.pe_callO O__law_yes (by rfl) (hr.mono (by decide)) pass0 (pa_cons (pv 0) (pa_cons (pv 7) pa_nil))))))) (fun _ _ _ _ _ => (by exact (pv 7))))) pa_nil))))))))), ?_⟩
    try dsimp only [cxOf, Cx.nox, Cx.wish]
    refine Z.at_start (σ' := [some a, some b, none, none, none, none, none, none]) rfl ?_
    obtain ⟨L, x, e, w, n, rfl, rfl, F, wa, ⟨w0, w5, e2⟩, n0, n9, k⟩ := h
    obtain ⟨p, q, h1, h2, h3⟩ := id wa
    have ye : ∀ k : Nat, Cnt (yesI e w) k = Cnt (calIn e.length w.length (idx e) (idx w)) k := fun k => cnt_congr fun z z0 _ => yes_cal z0
    walk_at "z"
    rw [List.length_map]
    refine Z.wIfD (fun hlt => ?_) (fun hlt => ?_)
    · walk_at "z"
      refine Z.wLcW walk_range F (fun i acc L' => L' = L ∧ acc = (idx (e.take i)).map V.int) ⟨rfl, rfl⟩ (fun _ _ _ _ _ _ _ => trivial) ?_ ?_
      · rintro i v D H3 H4 acc L' hi ⟨rfl, rfl⟩ F3 ⟨rfl, rfl⟩
        have hi' : i < e.length := by omega
        have ea : atI (e.map V.bl) (0 + (i : Int)) = some (V.bl (e.getD i false)) := by
          have := atB (e := e) (z := 0 + (i : Int)) (by omega) (by omega)
          rwa [show (0 + (i : Int)).toNat = i by omega] at this
        have hv : e[i]? = some (e.getD i false) := by rw [List.getElem?_eq_getElem hi', List.getD_eq_getElem?_getD, List.getElem?_eq_getElem hi']; rfl
        generalize e.getD i false = v at ea hv
        have hlen : ((idx (e.take i)).map V.int).length < sizeLine := by
          have a := (idx_below (e.take i)).len (by omega)
          have := Z.line_big
          rw [List.length_map]
          rw [List.length_take] at a
          omega
        walk_at "zw"
        walk_at "z"
        refine ⟨rfl, ?_⟩
        walk_at "z"
        cases v with
        | true =>
          walk_at "z"
          exact Z.lcPut F3 hlen ⟨rfl, by rw [idx_take hv, if_pos rfl, List.map_append, Int.zero_add]; rfl⟩
        | false =>
          walk_at "z"
          exact ⟨_, _, F3, rfl, by rw [idx_take hv, if_neg (by decide), List.append_nil]⟩
      rintro D acc L' H3 F3 ⟨rfl, rfl⟩
      walk_at "z"
      have := k H3 (F3.sub (.cons _ (.refl _)))
      have cc := cnt_cal (ls := idx e) (ks := idx w) (show (0 : Int) ≤ e.length by omega) (show (1 : Int) ≤ w.length by omega) (idx_below e) (idx_below w) (n + 1).toNat
      rw [if_pos (by omega), ← idx_take_filter, ← ye] at cc
      rw [cc] at this
      exact this
    walk_at "z"
    rw [List.length_map, List.length_map]
    refine Z.wDvm (by omega) (by omega) (by omega) F fun d H1 F1 => ?_
    have r0 := Int.emod_nonneg (n + 1 - e.length) (show (w.length : Int) ≠ 0 by omega)
    have r1 := Int.emod_lt_of_pos (n + 1 - e.length) (show (0 : Int) < w.length by omega)
    have d0 := Int.ediv_nonneg (show 0 ≤ n + 1 - e.length by omega) (show (0 : Int) ≤ w.length by omega)
    have d1 : (n + 1 - e.length) / (w.length : Int) ≤ n + 1 - e.length := Int.ediv_le_self _ (by omega)
    have hd := Int.emod_add_mul_ediv (n + 1 - e.length) (w.length : Int)
    generalize (n + 1 - e.length) / (w.length : Int) = rr at *
    generalize (n + 1 - e.length) % (w.length : Int) = lf at *
    have le := (idx_below e).len (by omega)
    have lw := (idx_below w).len (by omega)
    walk_at "z"
    refine use__law_listed F1 (.tail _ h2) (by omega) fun o1 H2 F2 => ?_
    walk_at "z"
    refine use__law_listed F2 (.tail _ (.tail _ h3)) (by omega) fun o2 H3 F3 => ?_
    walk_at "z"
    rw [List.length_map, show ((e.length : Int) + lf - e.length) = lf by omega]
    refine Z.wLcW walk_range F3 (fun i acc L' => L' = _ ∧ acc.length + Cnt (yesI e w) e.length = Cnt (yesI e w) (e.length + i)) ⟨rfl, by simp⟩ (fun _ _ _ _ _ _ _ => trivial) ?_ ?_
    · rintro i v D H4 H5 acc L' hi ⟨rfl, hc⟩ F4 ⟨rfl, rfl⟩
      have hcl := cnt_le (yesI e w) (e.length + i)
      have hlen : acc.length < sizeLine := by
        have := Z.line_big
        omega
      have stp : Cnt (yesI e w) (e.length + (i + 1)) = Cnt (yesI e w) (e.length + i) + if yesI e w ((e.length : Int) + (i : Int)) = true then 1 else 0 := rfl
      dsimp only
      walk_at "zw"
      walk_at "z"
      refine ⟨rfl, ?_⟩
      walk_at "z"
      refine use__law_yes F4 (wa.le (.cons _ (.cons _ (.cons _ (.cons _ (.refl _)))))) (by omega) w0 ?_
      walk_at "z"
      generalize yesI e w ((e.length : Int) + (i : Int)) = v at stp ⊢
      cases v with
      | true =>
        walk_at "z"
        exact Z.lcPut F4 hlen ⟨rfl, by rw [stp, if_pos rfl, List.length_append, List.length_singleton, ← hc]; omega⟩
      | false =>
        walk_at "z"
        exact ⟨_, _, F4, rfl, by rw [stp, if_neg (by decide), ← hc]; omega⟩
    rintro D acc L' H4 F4 ⟨rfl, hc⟩
    walk_at "z"
    have hs : 0 < rr ∨ 0 < lf := by
      by_cases c : rr = 0
      · subst c
        rw [Int.mul_zero] at hd
        omega
      · omega
    have cr := cnt_rounds (ls := idx e) (ks := idx w) (b := e.length) (p := w.length) (by omega) (by omega) (idx_below e) (idx_below w) d0 r0 hs
    rw [show (e.length : Int) + rr * w.length + lf = n + 1 by rw [Int.mul_comm]; omega, ← ye, ← ye, ← ye, show ((e.length : Int) + lf).toNat = e.length + lf.toNat by omega, Int.toNat_natCast] at cr
    have fin := k H4 (F4.sub (.cons _ (.cons _ (.cons _ (.cons _ (.refl _))))))
    rw [cr] at fin
    rw [show ((idx e).length : Int) + rr * (idx w).length + (acc.length : Int) = (idx e).length + rr * (idx w).length + ((Cnt (yesI e w) (e.length + lf.toNat) : Nat) - (Cnt (yesI e w) e.length : Nat)) by omega]
    exact fin
theorem ok__law_count (T : Txt K mg c_BadCalendar c_BadLength c_Calendar) : Z.Ok CX0 P w K mg base "_law_count" 2 ["_law_world_here", "_law_number"] [] (sp__law_count K) := by
  obtain ⟨f, fd, F, g⟩ := T.d__law_count
  exact Z.mkOk F g (F.binds (ps := ["_law_world_here", "_law_number"]) fun _ _ _ _ _ _ us hl => match us, hl with | [_, _], _ => rfl) (fn__law_count T F)
theorem use__law_count {H : Hp} {Q : VK} {E : XK} {L : List Z.En} {x : Addr} {e w : List Bool} {n : Int} (F : Z.Fx H L) (wa : WorldAt L x e w) (wo : WOk e w) (n0 : 0 ≤ n) (n9 : n ≤ 1000000000000000000000000000000) (k : ∀ H', Z.Fx H' L → Q (.int ((Cnt (yesI e w) (n + 1).toNat : Nat) : Int)) H') : sp__law_count K [.ref x, .int n] H Q E := ⟨_, _, rfl, L, x, e, w, n, rfl, rfl, F, wa, wo, n0, n9, k⟩
theorem sc_serves : FnScope ["calendar", "length"] ["calendar", "length"] (defScope s_serves) := ⟨rfl, rfl, rfl, by decide +kernel, rfl, by decide +kernel, by decide +kernel⟩
def sp_serves (K : PySem.W.Frag) (cC cL : Addr) : Sp := Z.Sp2 fun a v H Q E => ∃ (L : List Z.En) (y : Addr) (b m : Int) (ls ks : List Int) (k : Z.Kd), a = .ref y ∧ Z.Fx H L ∧ CalAt cC L y b m ls ks ∧ 1 ≤ m ∧ m ≤ 5000 ∧ Z.HasK K H v k ∧ (Z.inB v (.int 0) (.int (10 ^ Int.toNat 30)) = false → E (.ref cL) none H) ∧ ∀ z, v = .int z → 0 ≤ z → z ≤ 1000000000000000000000000000000 → Q (.bl (calIn b m ls ks z)) H
theorem fn_serves (T : Txt K mg c_BadCalendar c_BadLength c_Calendar) {f : Addr} {fd : FuncData} (F : Fun K "serves" "serves" s_serves f fd) : FnOk P w K mg base (L2.CX P w) 4 f fd ["calendar", "length"] (sp_serves K c_Calendar c_BadLength) := by
  have O_check_far := ok_check_far (P := P) (w := w) (base := base) T
  have O_Calendar___contains__ := ok_Calendar___contains__ (P := P) (w := w) (base := base) T
  refine F.okX sc_serves (fun vs H Q E h => ?_) (fun cdv A outer s H vs Q E hr h => ?_)
  · obtain ⟨a, b, rfl, _⟩ := h; rfl
  · obtain ⟨a, b, rfl, h⟩ := h
    have TK := takes_of (X := cxOf (L2.CX P w) P w K mg base ["calendar", "length"] "serves" (defScope s_serves) f cdv A outer s H E) rfl rfl rfl rfl
    refine ⟨_, (pss_cons (ps_expr (Z.pe_callO O_check_far (by rfl) (hr.mono (by decide)) (Z.passE TK) (pa_cons (pv 1) pa_nil)))
      (pss_one (ps_ret (pe_cmpR (Z.op_inO O_Calendar___contains__ (hr.mono (by decide))) (pv 1) (pv 0) (by rfl))))), ?_⟩
    try dsimp only [cxOf, Cx.nox, Cx.wish]
    refine Z.at_start (σ' := [some a, some b]) rfl ?_
    obtain ⟨L, y, bm, m, ls, ks, k, rfl, F, ca, m1, m5, hk, kE, kQ⟩ := h
    walk_at "z"
    refine use_check_far hk kE fun hb => ?_
    obtain ⟨z, rfl, z0, z1⟩ := far_get hb
    walk_at "z"
    refine in_cal F ca hk m1 m5 ?_
    have e : calInV bm m ls ks (.int z) = calIn bm m ls ks z := by simp [calInV, z0]
    rw [e]
    exact kQ z rfl z0 z1
theorem ok_serves (T : Txt K mg c_BadCalendar c_BadLength c_Calendar) : Z.Ok (L2.CX P w) P w K mg base "serves" 4 ["calendar", "length"] [] (sp_serves K c_Calendar c_BadLength) := by
  obtain ⟨f, fd, F, g⟩ := T.d_serves
  exact Z.mkOk F g (F.binds (ps := ["calendar", "length"]) fun _ _ _ _ _ _ us hl => match us, hl with | [_, _], _ => rfl) (fn_serves T F)
theorem use_serves {cC cL : Addr} {H : Hp} {Q : VK} {E : XK} {L : List Z.En} {y : Addr} {b m : Int} {ls ks : List Int} {v : V} {k : Z.Kd} (F : Z.Fx H L) (ca : CalAt cC L y b m ls ks) (m1 : 1 ≤ m) (m5 : m ≤ 5000) (hk : Z.HasK K H v k) (kE : Z.inB v (.int 0) (.int (10 ^ Int.toNat 30)) = false → E (.ref cL) none H)
  (kQ : ∀ z, v = .int z → 0 ≤ z → z ≤ 1000000000000000000000000000000 → Q (.bl (calIn b m ls ks z)) H) : sp_serves K cC cL [.ref y, v] H Q E := ⟨_, _, rfl, L, y, b, m, ls, ks, k, rfl, F, ca, m1, m5, hk, kE, kQ⟩
theorem sc__many_by_rests : FnScope ["calendar", "many", "whole", "left", "rest"] ["calendar", "many"] (defScope s__many_by_rests) := ⟨rfl, rfl, rfl, by decide +kernel, rfl, by decide +kernel, by decide +kernel⟩
def sp__many_by_rests (K : PySem.W.Frag) (cC : Addr) : Sp := Z.Sp2 fun a v H Q E => ∃ (L : List Z.En) (y : Addr) (b m : Int) (ls ks : List Int) (n : Int), a = .ref y ∧ v = .int n ∧ Z.Fx H L ∧ CalAt cC L y b m ls ks ∧ 1 ≤ m ∧ m ≤ 5000 ∧ Below m ks ∧ 0 ≤ n ∧ n ≤ 10000000000000000000000000000000 ∧ ∀ H', Z.Fx H' L → Q (.int (manyI m ks n)) H'
theorem fn__many_by_rests (T : Txt K mg c_BadCalendar c_BadLength c_Calendar) {f : Addr} {fd : FuncData} (F : Fun K "_many_by_rests" "_many_by_rests" s__many_by_rests f fd) : FnOk P w K mg base CX0 1 f fd ["calendar", "many"] (sp__many_by_rests K c_Calendar) := by
  refine F.ok sc__many_by_rests (fun vs H Q E h => ?_) (fun cdv A outer s H vs Q E hr h => ?_)
  · obtain ⟨a, b, rfl, _⟩ := h; rfl
  · obtain ⟨a, b, rfl, h⟩ := h
    refine ⟨_, (pss_cons (ps_asg (pe_callB Z.cr_dvm (by rfl) T.b_divmod (by decide +kernel) (pa_cons (pv 1) (pa_cons (pe_fld (pv 0) rfl) pa_nil))) (pg_tup (by rfl) (pgs_cons (pg_name (i := 2) sc__many_by_rests.nd rfl (by first | exact Or.inl rfl | exact Or.inr rfl)) (pgs_cons (pg_name (i := 3) sc__many_by_rests.nd rfl (by first | exact Or.inl rfl | exact Or.inr rfl)) pgs_nil))))
      (pss_one (ps_ret (pe_op Z.zAdd (pe_op Z.zMul (pv 2) (pe_callB Z.zLen (by rfl) T.b_len (by decide +kernel) (pa_cons (pe_fld (pv 0) rfl) pa_nil))) (pe_callB Z.zLen (by rfl) T.b_len (by decide +kernel) (pa_cons (by exact (pe_lc (own := [("rest", 4)]) (g := (gName 4)) (by rfl) sc__many_by_rests.nd (Z.pi_seq (pe_fld (pv 0) rfl)) (blkOk_by (own := [("rest", 4)]) (N := ["calendar", "many", "whole", "left", "rest"]) (sc := defScope s__many_by_rests) (by decide +kernel)) (fun _ _ _ _ _ => (by exact (pg_name (i := 4) sc__many_by_rests.nd rfl (by first | exact Or.inl rfl | exact Or.inr rfl)))) (fun _ _ _ _ _ => (by exact (pts_one (pt_cmpR Z.zLt (pv 4) (pv 3) (nomark _))))) (fun _ _ _ _ _ => (by exact (pv 4))))) pa_nil)))))), ?_⟩
    try dsimp only [cxOf, Cx.nox, Cx.wish]
    refine Z.at_start (σ' := [some a, some b, none, none, none]) rfl ?_
    obtain ⟨L, y, bm, m, ls, ks, n, rfl, rfl, F, ca, m1, m5, o2, n0, n9, k⟩ := h
    have hcl := T.i_Calendar.cl
    have l2 := o2.len (by omega)
    obtain ⟨dx, pl, pr, d1, d2, k1, k2, n1, n2, n3, n4, a1, n5, a2⟩ := id ca
    walk_at "z"
    refine Z.wFldAt F n1 hcl T.n_Calendar_period (cal_period _ _ _ _ _ _) ?_
    walk_at "z"
    rename_i q H1 F1
    refine Z.wFldAt F1 (.tail _ n1) hcl T.n_Calendar_rests (cal_rests _ _ _ _ _ _) ?_
    walk_at "z"
    refine Z.wFldAt F1 (.tail _ n1) hcl T.n_Calendar_rests (cal_rests _ _ _ _ _ _) ?_
    walk_at "z"
    refine Z.wLcW (walk_tup (K := K) (xs := ks.map V.int)) F1 (fun i acc L' => L' = _ ∧ acc = ((ks.take i).filter fun r => decide (r < n % m)).map V.int) ⟨rfl, rfl⟩ (fun i acc L' D H' r F' => F'.tup (.tail _ (r.1 ▸ .tail _ n3))) ?_ ?_
    · rintro i x D H2 H3 acc L' hi ⟨rfl, rfl⟩ F2 ⟨rfl, hx⟩
      obtain ⟨u, rfl, hu⟩ := Z.int_of_map' hx
      walk_at "zw"
      walk_at "z"
      refine ⟨rfl, ?_⟩
      walk_at "z"
      have hlen : (((ks.take i).filter fun r => decide (r < n % m)).map V.int).length < sizeLine := by
        have a := List.length_filter_le (fun r => decide (r < n % m)) (ks.take i)
        have := Z.line_big
        rw [List.length_map]
        rw [List.length_take] at a
        omega
      refine Z.wIfD (fun h => ?_) (fun h => ?_)
      · walk_at "z"
        exact Z.lcPut F2 hlen ⟨rfl, by rw [Z.filt_take hu, if_pos (decide_eq_true h), List.map_append]; rfl⟩
      · exact ⟨_, _, F2, rfl, by rw [Z.filt_take hu, if_neg (by simpa using h), List.append_nil]⟩
    rintro D acc L' H2 F2 ⟨rfl, rfl⟩
    rw [List.length_map, List.take_length] at F2
    walk_at "z"
    exact k _ (F2.sub (.cons _ (.cons _ (.refl _))))
theorem ok__many_by_rests (T : Txt K mg c_BadCalendar c_BadLength c_Calendar) : Z.Ok CX0 P w K mg base "_many_by_rests" 1 ["calendar", "many"] [] (sp__many_by_rests K c_Calendar) := by
  obtain ⟨f, fd, F, g⟩ := T.d__many_by_rests
  exact Z.mkOk F g (F.binds (ps := ["calendar", "many"]) fun _ _ _ _ _ _ us hl => match us, hl with | [_, _], _ => rfl) (fn__many_by_rests T F)
theorem use__many_by_rests {cC : Addr} {H : Hp} {Q : VK} {E : XK} {L : List Z.En} {y : Addr} {b m : Int} {ls ks : List Int} {n : Int} (F : Z.Fx H L) (ca : CalAt cC L y b m ls ks) (m1 : 1 ≤ m) (m5 : m ≤ 5000) (o2 : Below m ks) (n0 : 0 ≤ n) (n9 : n ≤ 10000000000000000000000000000000) (k : ∀ H', Z.Fx H' L → Q (.int (manyI m ks n)) H') : sp__many_by_rests K cC [.ref y, .int n] H Q E := ⟨_, _, rfl, L, y, b, m, ls, ks, n, rfl, rfl, F, ca, m1, m5, o2, n0, n9, k⟩
theorem sc_count_served : FnScope ["calendar", "length", "early", "served"] ["calendar", "length"] (defScope s_count_served) := ⟨rfl, rfl, rfl, by decide +kernel, rfl, by decide +kernel, by decide +kernel⟩
def sp_count_served (K : PySem.W.Frag) (cC cL : Addr) : Sp := Z.Sp2 fun a v H Q E => ∃ (L : List Z.En) (y : Addr) (b m : Int) (ls ks : List Int) (k : Z.Kd), a = .ref y ∧ Z.Fx H L ∧ CalAt cC L y b m ls ks ∧ 0 ≤ b ∧ b ≤ 20000 ∧ 1 ≤ m ∧ m ≤ 5000 ∧ Below b ls ∧ Below m ks ∧ Z.HasK K H v k ∧ (Z.inB v (.int 0) (.int (10 ^ Int.toNat 30)) = false → E (.ref cL) none H) ∧ ∀ z H', v = .int z → 0 ≤ z → z ≤ 1000000000000000000000000000000 → Z.Fx H' L → Q (.int ((Cnt (calIn b m ls ks) (z + 1).toNat : Nat) : Int)) H'
theorem fn_count_served (T : Txt K mg c_BadCalendar c_BadLength c_Calendar) {f : Addr} {fd : FuncData} (F : Fun K "count_served" "count_served" s_count_served f fd) : FnOk P w K mg base (L2.CX P w) 3 f fd ["calendar", "length"] (sp_count_served K c_Calendar c_BadLength) := by
  have O__many_by_rests := ok__many_by_rests (P := P) (w := w) (base := base) T
  have O_check_far := ok_check_far (P := P) (w := w) (base := base) T
  refine F.okX sc_count_served (fun vs H Q E h => ?_) (fun cdv A outer s H vs Q E hr h => ?_)
  · obtain ⟨a, b, rfl, _⟩ := h; rfl
  · obtain ⟨a, b, rfl, h⟩ := h
    have TK := takes_of (X := cxOf (L2.CX P w) P w K mg base ["calendar", "length", "early", "served"] "count_served" (defScope s_count_served) f cdv A outer s H E) rfl rfl rfl rfl
    refine ⟨_, (pss_cons (ps_expr (Z.pe_callO O_check_far (by rfl) (hr.mono (by decide)) (Z.passE TK) (pa_cons (pv 1) pa_nil)))
      (pss_cons (ps_set (i := 2) sc_count_served.nd rfl (by first | exact Or.inl rfl | exact Or.inr rfl) (pe_callB Z.zLen (by rfl) T.b_len (by decide +kernel) (pa_cons (by exact (pe_lc (own := [("served", 3)]) (g := (gName 3)) (by rfl) sc_count_served.nd (Z.pi_seq (pe_fld (pv 0) rfl)) (blkOk_by (own := [("served", 3)]) (N := ["calendar", "length", "early", "served"]) (sc := defScope s_count_served) (by decide +kernel)) (fun _ _ _ _ _ => (by exact (pg_name (i := 3) sc_count_served.nd rfl (by first | exact Or.inl rfl | exact Or.inr rfl)))) (fun _ _ _ _ _ => (by exact (pts_one (pt_cmpR Z.zLe (pv 3) (pv 1) (nomark _))))) (fun _ _ _ _ _ => (by exact (pv 3))))) pa_nil)))
      (pss_cons (ps_if (pt_cmpR Z.zLt (pv 1) (pe_fld (pv 0) rfl) (nomark _))
        (pss_one (ps_ret (pv 2)))
        pss_nil)
      (pss_one (ps_ret (pe_op op_sub (pe_op Z.zAdd (pv 2) (Z.pe_callO O__many_by_rests (by rfl) (hr.mono (by decide)) pass0 (pa_cons (pv 0) (pa_cons (pe_op Z.zAdd (pv 1) pe_int) pa_nil)))) (Z.pe_callO O__many_by_rests (by rfl) (hr.mono (by decide)) pass0 (pa_cons (pv 0) (pa_cons (pe_fld (pv 0) rfl) pa_nil))))))))), ?_⟩
    try dsimp only [cxOf, Cx.nox, Cx.wish]
    refine Z.at_start (σ' := [some a, some b, none, none]) rfl ?_
    obtain ⟨L, y, bm, m, ls, ks, k, rfl, F, ca, b0, b2, m1, m5, o1, o2, hk, kE, kQ⟩ := h
    have hcl := T.i_Calendar.cl
    have l1 := o1.len b0
    have l2 := o2.len (by omega)
    obtain ⟨dx, pl, pr, d1, d2, k1, k2, n1, n2, n3, n4, a1, n5, a2⟩ := id ca
    walk_at "z"
    refine use_check_far hk kE fun hb => ?_
    obtain ⟨z, rfl, z0, z1⟩ := far_get hb
    walk_at "z"
    refine Z.wFldAt F n1 hcl T.n_Calendar_lengths (cal_lengths _ _ _ _ _ _) ?_
    walk_at "z"
    refine Z.wLcW (walk_tup (K := K) (xs := ls.map V.int)) F (fun i acc L' => L' = _ ∧ acc = ((ls.take i).filter fun r => decide (r ≤ z)).map V.int) ⟨rfl, rfl⟩ (fun i acc L' D H' r F' => F'.tup (.tail _ (r.1 ▸ n2))) ?_ ?_
    · rintro i x D H2 H3 acc L' hi ⟨rfl, rfl⟩ F2 ⟨rfl, hx⟩
      obtain ⟨u, rfl, hu⟩ := Z.int_of_map' hx
      walk_at "zw"
      walk_at "z"
      refine ⟨rfl, ?_⟩
      walk_at "z"
      have hlen : (((ls.take i).filter fun r => decide (r ≤ z)).map V.int).length < sizeLine := by
        have a := List.length_filter_le (fun r => decide (r ≤ z)) (ls.take i)
        have := Z.line_big
        rw [List.length_map]
        rw [List.length_take] at a
        omega
      refine Z.wIfD (fun h => ?_) (fun h => ?_)
      · walk_at "z"
        exact Z.lcPut F2 hlen ⟨rfl, by rw [Z.filt_take hu, if_pos (decide_eq_true h), List.map_append]; rfl⟩
      · exact ⟨_, _, F2, rfl, by rw [Z.filt_take hu, if_neg (by simpa using h), List.append_nil]⟩
    rintro D acc L' H2 F2 ⟨rfl, rfl⟩
    rw [List.length_map, List.take_length] at F2
    have cc := cnt_cal b0 m1 o1 o2 (z + 1).toNat
    rw [Int.toNat_of_nonneg (by omega)] at cc
    have ef : (ls.filter fun r => decide (r ≤ z)) = ls.filter fun r => decide (r < z + 1) := by
      refine List.filter_congr fun r _ => ?_
      rw [Bool.eq_iff_iff, decide_eq_true_iff, decide_eq_true_iff]; omega
    walk_at "z"
    refine Z.wFldAt F2 (.tail _ n1) hcl T.n_Calendar_before (cal_before _ _ _ _ _ _) ?_
    walk_at "z"
    refine Z.wIfD (fun h => ?_) (fun h => ?_)
    · walk_at "z"
      rw [ef]
      have := kQ z H2 rfl z0 z1 (F2.sub (.cons _ (.refl _)))
      rw [cc, if_pos (by omega)] at this
      exact this
    · walk_at "z"
      refine use__many_by_rests F2 (ca.le (.cons _ (.refl _))) m1 m5 o2 (by omega) (by omega) fun H3 F3 => ?_
      walk_at "z"
      refine Z.wFldAt F3 (.tail _ n1) hcl T.n_Calendar_before (cal_before _ _ _ _ _ _) ?_
      walk_at "z"
      refine use__many_by_rests F3 (ca.le (.cons _ (.refl _))) m1 m5 o2 b0 (by omega) fun H4 F4 => ?_
      walk_at "z"
      have := kQ z H4 rfl z0 z1 (F4.sub (.cons _ (.refl _)))
      rw [cc, if_neg (by omega)] at this
      rw [ef, show (ls.filter fun r => decide (r < z + 1)) = ls from List.filter_eq_self.mpr fun u hu => decide_eq_true (by have := (o1.2 u hu).2; omega)]
      exact this
theorem ok_count_served (T : Txt K mg c_BadCalendar c_BadLength c_Calendar) : Z.Ok (L2.CX P w) P w K mg base "count_served" 3 ["calendar", "length"] [] (sp_count_served K c_Calendar c_BadLength) := by
  obtain ⟨f, fd, F, g⟩ := T.d_count_served
  exact Z.mkOk F g (F.binds (ps := ["calendar", "length"]) fun _ _ _ _ _ _ us hl => match us, hl with | [_, _], _ => rfl) (fn_count_served T F)
theorem use_count_served {cC cL : Addr} {H : Hp} {Q : VK} {E : XK} {L : List Z.En} {y : Addr} {b m : Int} {ls ks : List Int} {v : V} {k : Z.Kd} (F : Z.Fx H L) (ca : CalAt cC L y b m ls ks) (b0 : 0 ≤ b) (b2 : b ≤ 20000) (m1 : 1 ≤ m) (m5 : m ≤ 5000) (o1 : Below b ls) (o2 : Below m ks) (hk : Z.HasK K H v k) (kE : Z.inB v (.int 0) (.int (10 ^ Int.toNat 30)) = false → E (.ref cL) none H)
  (kQ : ∀ z H', v = .int z → 0 ≤ z → z ≤ 1000000000000000000000000000000 → Z.Fx H' L → Q (.int ((Cnt (calIn b m ls ks) (z + 1).toNat : Nat) : Int)) H') : sp_count_served K cC cL [.ref y, v] H Q E := ⟨_, _, rfl, L, y, b, m, ls, ks, k, rfl, F, ca, b0, b2, m1, m5, o1, o2, hk, kE, kQ⟩
theorem sc__law_asked : FnScope ["_law_world_here", "_law_calendar", "_law_number", "_law_answer", "_law_count_here", "_law_found"] ["_law_world_here", "_law_calendar", "_law_number"] (defScope s__law_asked) := ⟨rfl, rfl, rfl, by decide +kernel, rfl, by decide +kernel, by decide +kernel⟩
def sp__law_asked (K : PySem.W.Frag) (cC : Addr) : Sp := Z.Sp3 fun a b c H Q E => ∃ (L : List Z.En) (x y : Addr) (e w : List Bool) (bm m : Int) (ls ks : List Int) (n : Int), a = .ref x ∧ b = .ref y ∧ c = .int n ∧ Z.Fx H L ∧ WorldAt L x e w ∧ WOk e w ∧ CalAt cC L y bm m ls ks ∧ IsPlain (yesI e w) bm m ls ks ∧ 0 ≤ n ∧ n ≤ 1000000000000000000000000000000 ∧ ∀ H', Z.Fx H' L → Q (.bl true) H'
theorem fn__law_asked (T : Txt K mg c_BadCalendar c_BadLength c_Calendar) {f : Addr} {fd : FuncData} (F : Fun K "_law_asked" "_law_asked" s__law_asked f fd) : FnOk P w K mg base CX0 5 f fd ["_law_world_here", "_law_calendar", "_law_number"] (sp__law_asked K c_Calendar) := by
  have O__law_count := ok__law_count (P := P) (w := w) (base := base) T
  have O__law_next := ok__law_next (P := P) (w := w) (base := base) T
  have O__law_whole := ok__law_whole (P := P) (w := w) (base := base) T
  have O__law_yes := ok__law_yes (P := P) (w := w) (base := base) T
  have O_count_served := ok_count_served (P := P) (w := w) (base := base) T
  have O_first_served := ok_first_served (P := P) (w := w) (base := base) T
  have O_serves := ok_serves (P := P) (w := w) (base := base) T
  have O_Calendar___contains__ := ok_Calendar___contains__ (P := P) (w := w) (base := base) T
  refine F.ok sc__law_asked (fun vs H Q E h => ?_) (fun cdv A outer s H vs Q E hr h => ?_)
  · obtain ⟨a, b, c, rfl, _⟩ := h; rfl
  · obtain ⟨a, b, c, rfl, h⟩ := h
    refine ⟨_, (pss_cons (ps_set (i := 3) sc__law_asked.nd rfl (by first | exact Or.inl rfl | exact Or.inr rfl) (Z.pe_callO O_serves (by rfl) (hr.mono (by decide)) passL (pa_cons (pv 1) (pa_cons (pv 2) pa_nil))))
      (pss_cons (ps_if (PW.pt (pw_or (pt_not (Z.pt_truN (pe_callB Z.zIsi (by rfl) T.b_isinstance (by decide +kernel) (pa_cons (pv 3) (pa_cons (pe_bltn (by rfl) T.b_bool (by decide +kernel) (show RelV (.ty "bool") _ from rfl)) pa_nil))))) (pw_or (pt_cmpR (Z.zNe (Z.hu0 hr)) (pv 3) (Z.pe_callO O__law_yes (by rfl) (hr.mono (by decide)) pass0 (pa_cons (pv 0) (pa_cons (pv 2) pa_nil))) (nomark _)) (pw_or1 (pt_cmpR (Z.zNe (Z.hu0 hr)) (pe_cmpR (Z.op_inO O_Calendar___contains__ (hr.mono (by decide))) (pv 2) (pv 1) (by rfl)) (pv 3) (nomark _))))))
        (pss_one (ps_ret pe_bl))
        pss_nil)
      (pss_cons (ps_set (i := 4) sc__law_asked.nd rfl (by first | exact Or.inl rfl | exact Or.inr rfl) (Z.pe_callO O_count_served (by rfl) (hr.mono (by decide)) passL (pa_cons (pv 1) (pa_cons (pv 2) pa_nil))))
      (pss_cons (ps_if (PW.pt (pw_or (pt_not (Z.pt_truN (Z.pe_callO O__law_whole (by rfl) (hr.mono (by decide)) pass0 (pa_cons (pv 4) pa_nil)))) (pw_or1 (pt_cmpR (Z.zNe (Z.hu0 hr)) (pv 4) (Z.pe_callO O__law_count (by rfl) (hr.mono (by decide)) pass0 (pa_cons (pv 0) (pa_cons (pv 2) pa_nil))) (nomark _)))))
        (pss_one (ps_ret pe_bl))
        pss_nil)
      (pss_cons (ps_set (i := 5) sc__law_asked.nd rfl (by first | exact Or.inl rfl | exact Or.inr rfl) (Z.pe_callO O_first_served (by rfl) (hr.mono (by decide)) passL (pa_cons (pv 1) (pa_cons (pv 2) pa_nil))))
      (pss_one (ps_ret (pe_andT (pe_cmpR (Z.zEq (Z.hu0 hr)) (pv 5) (Z.pe_callO O__law_next (by rfl) (hr.mono (by decide)) pass0 (pa_cons (pv 0) (pa_cons (pv 2) pa_nil))) (nomark _)) (pe_one (pe_orT (pe_cmpR Z.zIs (pv 5) pe_non (nomark _)) (pe_one (Z.pe_callO O__law_whole (by rfl) (hr.mono (by decide)) pass0 (pa_cons (pv 5) pa_nil))))))))))))), ?_⟩
    try dsimp only [cxOf, Cx.nox, Cx.wish]
    refine Z.at_start (σ' := [some a, some b, some c, none, none, none]) rfl ?_
    obtain ⟨L, x, y, e, w, bm, m, ls, ks, n, rfl, rfl, rfl, F, wa, wo, ca, P, n0, n9, k⟩ := h
    obtain ⟨b0, b2, m1, m5, o1, o2⟩ := P.facts
    have far : Z.inB (.int n) (.int 0) (.int (10 ^ Int.toNat 30)) = true := by
      simp only [Z.inB, Bool.and_eq_true, decide_eq_true_eq]
      have e : (10 : Int) ^ Int.toNat 30 = 1000000000000000000000000000000 := by decide
      rw [e]
      omega
    walk_at "z"
    refine use_serves F ca m1 m5 (.int _) (fun h => absurd (far.symm.trans h) (by decide)) fun z ez z0 z1 => ?_
    cases ez
    rw [P.ans n0]
    walk_at "z"
    refine Z.wIsiBool (.bl _) ?_
    walk_at "z"
    refine use__law_yes F wa n0 wo.1 ?_
    walk_at "z"
    have nb : (!(yesI e w n == yesI e w n)) = false := by simp
    rw [nb]
    walk_at "z"
    refine in_cal F ca (.int _) m1 m5 ?_
    rw [show calInV bm m ls ks (.int n) = yesI e w n by rw [← P.ans n0]; simp [calInV, n0]]
    walk_at "z"
    refine use_count_served F ca b0 b2 m1 m5 o1 o2 (.int _) (fun h => absurd (far.symm.trans h) (by decide)) fun z H1 ez z0 z1 F1 => ?_
    cases ez
    rw [show Cnt (calIn bm m ls ks) (n + 1).toNat = Cnt (yesI e w) (n + 1).toNat from cnt_congr fun z z0 _ => P.ans z0]
    walk_at "z"
    refine use__law_count F1 wa wo n0 n9 fun H2 F2 => ?_
    walk_at "z"
    rw [decide_eq_true rfl]
    walk_at "z"
    refine use_first_served F2 ca b0 b2 m1 m5 o1 o2 (.int _) (fun h => absurd (far.symm.trans h) (by decide)) fun z o H3 ez z0 z1 ho F3 => ?_
    cases ez
    walk_at "z"
    refine use__law_next F3 wa wo n0 fun o' ho' => ?_
    obtain rfl := first_uniq (fun z hz => P.ans (by omega)) ho ho'
    cases o with
    | some z =>
      dsimp only [ofO]
      walk_at "z"
      exact k _ F3
    | none =>
      dsimp only [ofO]
      refine .inl (Z.wEqS rfl ?_)
      rw [decide_eq_true rfl]
      walk_at "z"
      exact k _ F3
theorem ok__law_asked (T : Txt K mg c_BadCalendar c_BadLength c_Calendar) : Z.Ok CX0 P w K mg base "_law_asked" 5 ["_law_world_here", "_law_calendar", "_law_number"] [] (sp__law_asked K c_Calendar) := by
  obtain ⟨f, fd, F, g⟩ := T.d__law_asked
  exact Z.mkOk F g (F.binds (ps := ["_law_world_here", "_law_calendar", "_law_number"]) fun _ _ _ _ _ _ us hl => match us, hl with | [_, _, _], _ => rfl) (fn__law_asked T F)
theorem use__law_asked {cC : Addr} {H : Hp} {Q : VK} {E : XK} {L : List Z.En} {x y : Addr} {e w : List Bool} {bm m : Int} {ls ks : List Int} {n : Int} (F : Z.Fx H L) (wa : WorldAt L x e w) (wo : WOk e w) (ca : CalAt cC L y bm m ls ks) (P : IsPlain (yesI e w) bm m ls ks) (n0 : 0 ≤ n) (n9 : n ≤ 1000000000000000000000000000000) (k : ∀ H', Z.Fx H' L → Q (.bl true) H') : sp__law_asked K cC [.ref x, .ref y, .int n] H Q E := ⟨_, _, _, rfl, L, x, y, e, w, bm, m, ls, ks, n, rfl, rfl, rfl, F, wa, wo, ca, P, n0, n9, k⟩
theorem sc__calendar_of : FnScope ["served", "before", "period", "lengths", "number"] ["served", "before", "period"] (defScope s__calendar_of) := ⟨rfl, rfl, rfl, by decide +kernel, rfl, by decide +kernel, by decide +kernel⟩
/-- the rests of the numbers from b on -/
def RestsOf (b p : Int) (ns rs : List Int) : Prop := Below p rs ∧ ∀ r, r ∈ rs ↔ ∃ n ∈ ns, b ≤ n ∧ n % p = r
theorem rests_sorted {b p : Int} {ns rs : List Int} (p0 : 1 ≤ p) (h : ns.Pairwise (· < ·)) (hb : ∀ n ∈ ns, n < b + p) (hp : rs.Perm ((ns.filter fun n => decide (n ≥ b)).map fun n => n % p)) (hs : rs.Pairwise (· ≤ ·)) : RestsOf b p ns rs := by
  have nd : ((ns.filter fun n => decide (n ≥ b)).map fun n => n % p).Nodup := by
    rw [List.nodup_iff_pairwise_ne, List.pairwise_map]
    have h2 := (h.filter fun n => decide (n ≥ b))
    refine List.Pairwise.imp_of_mem (fun {x y} hx hy hxy he => ?_) h2
    have x1 := List.mem_filter.mp hx
    have y1 := List.mem_filter.mp hy
    have x2 := of_decide_eq_true x1.2
    have y2 := of_decide_eq_true y1.2
    have y3 := hb y y1.1
    have e1 := Int.emod_emod_of_dvd (y - x) (Int.dvd_refl p)
    have e2 : (y - x) % p = 0 := by
      rw [Int.sub_emod, he, Int.sub_self, Int.zero_emod]
    have e3 : (y - x) % p = y - x := Int.emod_eq_of_lt (by omega) (by omega)
    omega
  have nd2 : rs.Nodup := hp.nodup_iff.mpr nd
  have hm : ∀ r, r ∈ rs ↔ ∃ n ∈ ns, b ≤ n ∧ n % p = r := fun r => by
    rw [hp.mem_iff, List.mem_map]
    constructor
    · rintro ⟨n, hn, rfl⟩
      have q := List.mem_filter.mp hn
      exact ⟨n, q.1, of_decide_eq_true q.2, rfl⟩
    · rintro ⟨n, hn, h1, rfl⟩
      exact ⟨n, List.mem_filter.mpr ⟨hn, decide_eq_true h1⟩, rfl⟩
  refine ⟨⟨?_, fun r hr => ?_⟩, hm⟩
  · have := List.pairwise_and_iff.mpr ⟨hs, List.nodup_iff_pairwise_ne.mp nd2⟩
    exact this.imp fun {x y} h => by have := h.1; have := h.2; omega
  · obtain ⟨n, _, _, rfl⟩ := (hm r).mp hr
    exact ⟨Int.emod_nonneg _ (by omega), Int.emod_lt_of_pos _ (by omega)⟩
def sp__calendar_of (K : PySem.W.Frag) (cC : Addr) : Sp := Z.Sp3 fun a c d H Q E => ∃ (L : List Z.En) (s : Addr) (ns : List Int) (b p : Int), a = .ref s ∧ c = .int b ∧ d = .int p ∧ Z.Fx H L ∧ Z.En.ob s (.lst (ns.map V.int)) ∈ L ∧ Below (b + p) ns ∧ 0 ≤ b ∧ b ≤ 20000 ∧ 1 ≤ p ∧ p ≤ 5000 ∧
  ∀ rs bm m ls' ks, RestsOf b p ns rs → PlainOf b p (ns.filter fun n => decide (n < b)) rs bm m ls' ks → ∀ y L1 H', L.Sublist L1 → CalAt cC L1 y bm m ls' ks → Z.Fx H' L1 → Q (.ref y) H'
theorem fn__calendar_of (T : Txt K mg c_BadCalendar c_BadLength c_Calendar) {f : Addr} {fd : FuncData} (F : Fun K "_calendar_of" "_calendar_of" s__calendar_of f fd) : FnOk P w K mg base (L2.CX P w) 6 f fd ["served", "before", "period"] (sp__calendar_of K c_Calendar) := by
  have O_Calendar_4 := ok_Calendar___init___4 (P := P) (w := w) (base := base) T
  refine F.okX sc__calendar_of (fun vs H Q E h => ?_) (fun cdv A outer s H vs Q E hr h => ?_)
  · obtain ⟨a, b, c, rfl, _⟩ := h; rfl
  · obtain ⟨a, b, c, rfl, h⟩ := h
    have TK := takes_of (X := cxOf (L2.CX P w) P w K mg base ["served", "before", "period", "lengths", "number"] "_calendar_of" (defScope s__calendar_of) f cdv A outer s H E) rfl rfl rfl rfl
    refine ⟨_, (pss_cons (by exact (ps_setLc (i := 3) (own := [("number", 4)]) (g := (gName 4)) (by rfl) sc__calendar_of.nd rfl rfl (sw_true rfl rfl rfl (by decide +kernel)) (Z.pi_seq (pv 0)) (blkOk_by (own := [("number", 4)]) (N := ["served", "before", "period", "lengths", "number"]) (sc := defScope s__calendar_of) (by decide +kernel)) (fun _ _ _ _ _ => (by exact (pg_name (i := 4) sc__calendar_of.nd rfl (by first | exact Or.inl rfl | exact Or.inr rfl)))) (fun _ _ _ _ _ => (by exact (pts_one (pt_cmpR Z.zLt (pv 4) (pv 1) (nomark _))))) (fun _ _ _ _ _ => (by exact (pv 4)))))
      (pss_one (ps_ret (Z.pe_makeO O_Calendar_4 (hr.mono (by decide)) T.g_Calendar (by rfl) (Z.passE TK) (pa_cons (pv 1) (pa_cons (pv 3) (pa_cons (pv 2) (pa_cons (pe_callB (show CallR _ (Value.builtin "sorted") (rSortedI K) from cr_sortedI) (by rfl) T.b_sorted (by decide +kernel) (pa_cons (by exact (pe_lc (own := [("number", 4)]) (g := (gName 4)) (by rfl) sc__calendar_of.nd (Z.pi_seq (pv 0)) (blkOk_by (own := [("number", 4)]) (N := ["served", "before", "period", "lengths", "number"]) (sc := defScope s__calendar_of) (by decide +kernel)) (fun _ _ _ _ _ => (by exact (pg_name (i := 4) sc__calendar_of.nd rfl (by first | exact Or.inl rfl | exact Or.inr rfl)))) (fun _ _ _ _ _ => (by exact (pts_one (pt_cmpR Z.zGe (pv 4) (pv 1) (nomark _))))) (fun _ _ _ _ _ => (by exact (pe_op Z.zMod (pv 4) (pv 2)))))) pa_nil)) pa_nil)))))))), ?_⟩
    try dsimp only [cxOf, Cx.nox, Cx.wish]
    refine Z.at_start (σ' := [some a, some b, some c, none, none]) rfl ?_
    obtain ⟨L, s, ns, bz, p, rfl, rfl, rfl, F, ms, hB, b0, b2, p1, p5, k⟩ := h
    have hl := hB.len (by omega)
    walk_at "z"
    refine Z.wLcW (walk_list (K := K) (xs := ns.map V.int)) F (fun i acc L' => L' = L ∧ acc = ((ns.take i).filter fun n => decide (n < bz)).map V.int) ⟨rfl, rfl⟩ (fun i acc L' D H' r F' => F'.lst (.tail _ (r.1 ▸ ms))) ?_ ?_
    · rintro i x D H1 H2 acc L' hi ⟨rfl, rfl⟩ F2 ⟨rfl, hx⟩
      obtain ⟨u, rfl, hu⟩ := Z.int_of_map' hx
      walk_at "zw"
      walk_at "z"
      refine ⟨rfl, ?_⟩
      walk_at "z"
      have hlen : (((ns.take i).filter fun n => decide (n < bz)).map V.int).length < sizeLine := by
        have a := List.length_filter_le (fun n => decide (n < bz)) (ns.take i)
        have := Z.line_big
        rw [List.length_map]
        rw [List.length_take] at a
        omega
      refine Z.wIfD (fun h => ?_) (fun h => ?_)
      · walk_at "z"
        exact Z.lcPut F2 hlen ⟨rfl, by rw [Z.filt_take hu, if_pos (decide_eq_true h), List.map_append]; rfl⟩
      · exact ⟨_, _, F2, rfl, by rw [Z.filt_take hu, if_neg (by simpa using h), List.append_nil]⟩
    rintro D acc L' H1 F1 ⟨rfl, rfl⟩
    rw [List.length_map, List.take_length] at F1
    walk_at "z"
    refine Z.wLcW (walk_list (K := K) (xs := ns.map V.int)) F1 (fun i acc L2 => L2 = _ ∧ acc = (((ns.take i).filter fun n => decide (n ≥ bz)).map fun n => n % p).map V.int) ⟨rfl, rfl⟩ (fun i acc L' D H' r F' => F'.lst (.tail _ (r.1 ▸ .tail _ ms))) ?_ ?_
    · rintro i x D3 H2 H3 acc L2 hi ⟨rfl, rfl⟩ F2 ⟨rfl, hx⟩
      obtain ⟨u, rfl, hu⟩ := Z.int_of_map' hx
      walk_at "zw"
      walk_at "z"
      refine ⟨rfl, ?_⟩
      walk_at "z"
      have hlen : ((((ns.take i).filter fun n => decide (n ≥ bz)).map fun n => n % p).map V.int).length < sizeLine := by
        have a := List.length_filter_le (fun n => decide (n ≥ bz)) (ns.take i)
        have := Z.line_big
        rw [List.length_map, List.length_map]
        rw [List.length_take] at a
        omega
      refine Z.wIfD (fun h => ?_) (fun h => ?_)
      · walk_at "z"
        exact Z.lcPut F2 hlen ⟨rfl, by rw [Z.filt_take hu, if_pos (decide_eq_true h), List.map_append, List.map_append]; rfl⟩
      · exact ⟨_, _, F2, rfl, by rw [Z.filt_take hu, if_neg (by simpa using h), List.append_nil]⟩
    rintro D3 acc L2 H2 F2 ⟨rfl, rfl⟩
    rw [List.length_map, List.take_length] at F2
    walk_at "z"
    refine Z.wSortedI (F2.lst (.head _)) F2 fun rs q H3 hp hs F3 => ?_
    walk_at "z"
    have hr := rests_sorted p1 hB.1 (fun n hn => (hB.2 n hn).2) hp hs
    have hls : Below bz (ns.filter fun n => decide (n < bz)) := ⟨hB.1.filter _, fun l hl => by
      have e := List.mem_filter.mp hl
      exact ⟨(hB.2 l e.1).1, of_decide_eq_true e.2⟩⟩
    refine use_CalendarG F3 ⟨b0, b2, p1, p5, hls, hr.1⟩ (.lst (.tail _ (.tail _ (.head _)))) (.lst (.head _)) fun bm m ls' ks pl y L1 H' s ca F' => ?_
    exact k rs bm m ls' ks hr pl y L1 H' ((List.Sublist.cons _ (.cons _ (.cons _ (.refl _)))).trans s) ca F'
theorem ok__calendar_of (T : Txt K mg c_BadCalendar c_BadLength c_Calendar) : Z.Ok (L2.CX P w) P w K mg base "_calendar_of" 6 ["served", "before", "period"] [] (sp__calendar_of K c_Calendar) := by
  obtain ⟨f, fd, F, g⟩ := T.d__calendar_of
  exact Z.mkOk F g (F.binds (ps := ["served", "before", "period"]) fun _ _ _ _ _ _ us hl => match us, hl with | [_, _, _], _ => rfl) (fn__calendar_of T F)
theorem use__calendar_of {cC : Addr} {H : Hp} {Q : VK} {E : XK} {L : List Z.En} {s : Addr} {ns : List Int} {b p : Int} (F : Z.Fx H L) (ms : Z.En.ob s (.lst (ns.map V.int)) ∈ L) (hB : Below (b + p) ns) (b0 : 0 ≤ b) (b2 : b ≤ 20000) (p1 : 1 ≤ p) (p5 : p ≤ 5000)
  (k : ∀ rs bm m ls' ks, RestsOf b p ns rs → PlainOf b p (ns.filter fun n => decide (n < b)) rs bm m ls' ks → ∀ y L1 H', L.Sublist L1 → CalAt cC L1 y bm m ls' ks → Z.Fx H' L1 → Q (.ref y) H') : sp__calendar_of K cC [.ref s, .int b, .int p] H Q E :=
  ⟨_, _, _, rfl, L, s, ns, b, p, rfl, rfl, rfl, F, ms, hB, b0, b2, p1, p5, k⟩
theorem sc__common_period : FnScope ["one", "other", "period"] ["one", "other"] (defScope s__common_period) := ⟨rfl, rfl, rfl, by decide +kernel, rfl, by decide +kernel, by decide +kernel⟩
def lcmZ (a b : Int) : Int := ((Nat.lcm a.natAbs b.natAbs : Nat) : Int)
theorem lcmZ_pos {a b : Int} (h : 1 ≤ a) (h2 : 1 ≤ b) : 1 ≤ lcmZ a b := by
  have := Nat.lcm_pos (m := a.natAbs) (n := b.natAbs) (by omega) (by omega)
  unfold lcmZ
  omega
theorem lcmZ_comm (a b : Int) : lcmZ a b = lcmZ b a := by unfold lcmZ; rw [Nat.lcm_comm]
theorem lcmZ_mul {a : Int} (b : Int) (h : 1 ≤ a) : ∃ k : Nat, lcmZ a b = k * a := by
  obtain ⟨k, hk⟩ := Nat.dvd_lcm_left a.natAbs b.natAbs
  refine ⟨k, ?_⟩
  unfold lcmZ
  rw [hk, Int.natCast_mul, Int.natAbs_of_nonneg (by omega), Int.mul_comm]
theorem lcm_round {f : Int → Bool} {b m m' st p : Int} {ls ks : List Int} (hs : b ≤ st) (m1 : 1 ≤ m) (q1 : 1 ≤ m') (P : IsPlain f b m ls ks) (hp : lcmZ m m' = p) : ∀ t, st ≤ t → f (t + p) = f t := fun t ht => by
  obtain ⟨b0, _⟩ := P.facts
  have lp := lcmZ_pos m1 q1
  obtain ⟨k, hk⟩ := lcmZ_mul m' m1
  rw [← P.ans (by omega), ← P.ans (by omega), ← hp, hk]
  exact (cal_round (by omega)).mul (by omega) k t (by omega)
/-- the numbers below n that serve -/
def served (f : Int → Bool) : Nat → List Int
  | 0 => []
  | n + 1 => served f n ++ if f n = true then [(n : Int)] else []
theorem served_mem {f : Int → Bool} {n : Nat} {z : Int} : z ∈ served f n ↔ 0 ≤ z ∧ z < n ∧ f z = true := by
  induction n with
  | zero => simp [served]; omega
  | succ n ih =>
    rw [served, List.mem_append, ih]
    by_cases h : f n = true
    · rw [if_pos h, List.mem_singleton]
      constructor
      · rintro (⟨a, b, c⟩ | rfl)
        · exact ⟨a, by omega, c⟩
        · exact ⟨by omega, by omega, h⟩
      · rintro ⟨a, b, c⟩
        by_cases e : z = n
        · exact .inr e
        · exact .inl ⟨a, by omega, c⟩
    · rw [if_neg h]
      constructor
      · rintro (⟨a, b, c⟩ | h)
        · exact ⟨a, by omega, c⟩
        · cases h
      · rintro ⟨a, b, c⟩
        refine .inl ⟨a, ?_, c⟩
        by_cases e : z = n
        · subst e; exact absurd c h
        · omega
theorem served_len (f : Int → Bool) (n : Nat) : (served f n).length ≤ n := by
  induction n with
  | zero => exact Nat.le_refl _
  | succ n ih =>
    rw [served, List.length_append]
    split
    · rw [List.length_singleton]; omega
    · rw [List.length_nil]; omega
theorem served_below (f : Int → Bool) (n : Nat) : Below n (served f n) := by
  refine ⟨?_, fun l hl => ?_⟩
  · induction n with
    | zero => exact .nil
    | succ n ih =>
      rw [served, List.pairwise_append]
      refine ⟨ih, ?_, fun a ha b hb => ?_⟩
      · split
        · exact List.pairwise_singleton _ _
        · exact .nil
      · have := (served_mem.mp ha).2.1
        split at hb
        · have := List.mem_singleton.mp hb; omega
        · cases hb
  · have := served_mem.mp hl
    exact ⟨this.1, this.2.1⟩
/-- a calendar of the served numbers below b + p answers as f does -/
theorem served_cal (f : Int → Bool) {b p : Int} {rs : List Int} (b0 : 0 ≤ b) (p1 : 1 ≤ p) (hr : RestsOf b p (served f (b + p).toNat) rs) (hf : ∀ t, b ≤ t → f (t + p) = f t) (z : Int) (z0 : 0 ≤ z) : calIn b p ((served f (b + p).toNat).filter fun n => decide (n < b)) rs z = f z := by
  have mem : ∀ z, z ∈ served f (b + p).toNat ↔ 0 ≤ z ∧ z < b + p ∧ f z = true := fun z => by
    rw [served_mem, Int.toNat_of_nonneg (by omega)]
  unfold calIn
  by_cases h : z < b
  · rw [if_pos h, Bool.eq_iff_iff, decide_eq_true_iff, List.mem_filter, decide_eq_true_iff, mem]
    exact ⟨fun h => h.1.2.2, fun g => ⟨⟨z0, by omega, g⟩, h⟩⟩
  · have r0 := Int.emod_nonneg (z - b) (show p ≠ 0 by omega)
    have r1 := Int.emod_lt_of_pos (z - b) (show 0 < p by omega)
    have em : (b + (z - b) % p) % p = z % p := by rw [Int.add_comm, Int.emod_add_emod, show z - b + b = z by omega]
    have ef : f z = f (b + (z - b) % p) := by
      have hd := Int.emod_add_mul_ediv (z - b) p
      have d0 := Int.ediv_nonneg (show 0 ≤ z - b by omega) (show 0 ≤ p by omega)
      obtain ⟨k, hk⟩ := Int.eq_ofNat_of_zero_le d0
      have := (Round.mul (f := f) (s := b) (p := p) (by omega) hf k) (b + (z - b) % p) (by omega)
      rw [← this, ← hk, Int.mul_comm]
      congr 1
      omega
    rw [if_neg h, Bool.eq_iff_iff, decide_eq_true_iff, hr.2, ef]
    constructor
    · rintro ⟨n, hn, h1, h2⟩
      have hb := (mem n).mp hn
      have e : n = b + (z - b) % p := by
        by_cases hc : b + (z - b) % p ≤ n
        · have e1 : (n - (b + (z - b) % p)) % p = 0 := by rw [Int.sub_emod, h2, em, Int.sub_self, Int.zero_emod]
          rw [Int.emod_eq_of_lt (by omega) (by omega)] at e1
          omega
        · have e2 : ((b + (z - b) % p) - n) % p = 0 := by rw [Int.sub_emod, h2, em, Int.sub_self, Int.zero_emod]
          rw [Int.emod_eq_of_lt (by omega) (by omega)] at e2
          omega
      rw [← e]
      exact hb.2.2
    · intro hn
      exact ⟨_, (mem _).mpr ⟨by omega, by omega, hn⟩, by omega, em⟩
def sp__common_period (K : PySem.W.Frag) (cC cB : Addr) : Sp := Z.Sp2 fun a c H Q E => ∃ (L : List Z.En) (y z : Addr) (b m b' m' : Int) (ls ks ls' ks' : List Int), a = .ref y ∧ c = .ref z ∧ Z.Fx H L ∧ CalAt cC L y b m ls ks ∧ CalAt cC L z b' m' ls' ks' ∧ 1 ≤ m ∧ m ≤ 5000 ∧ 1 ≤ m' ∧ m' ≤ 5000 ∧
  (5000 < lcmZ m m' → ∀ e H', Z.Fx H' (.ob e (.xd [("what", .str ("period" : Str))]) :: L) → E (.ref cB) (some e) H') ∧ (lcmZ m m' ≤ 5000 → Q (.int (lcmZ m m')) H)
theorem fn__common_period (T : Txt K mg c_BadCalendar c_BadLength c_Calendar) {f : Addr} {fd : FuncData} (F : Fun K "_common_period" "_common_period" s__common_period f fd) : FnOk P w K mg base (L2.CX P w) 3 f fd ["one", "other"] (sp__common_period K c_Calendar c_BadCalendar) := by
  have O_BadCalendar___init__ := ok_BadCalendar___init__ (P := P) (w := w) (base := base) T
  refine F.okX sc__common_period (fun vs H Q E h => ?_) (fun cdv A outer s H vs Q E hr h => ?_)
  · obtain ⟨a, b, rfl, _⟩ := h; rfl
  · obtain ⟨a, b, rfl, h⟩ := h
    have TK := takes_of (X := cxOf (L2.CX P w) P w K mg base ["one", "other", "period"] "_common_period" (defScope s__common_period) f cdv A outer s H E) rfl rfl rfl rfl
    refine ⟨_, (pss_cons (ps_set (i := 2) sc__common_period.nd rfl (by first | exact Or.inl rfl | exact Or.inr rfl) (pe_callBfun Z.cr_lcm (by rfl) T.m_lcm (pa_cons (pe_fld (pv 0) rfl) (pa_cons (pe_fld (pv 1) rfl) pa_nil))))
      (pss_cons (ps_if (pt_cmpR Z.zGt (pv 2) pe_int (nomark _))
        (pss_one (ps_raise (by rfl) TK (Z.pmk_errO T.x_BadCalendar O_BadCalendar___init__ (hr.mono (by decide)) T.g_BadCalendar (by rfl) (pa_cons pe_str pa_nil))))
        pss_nil)
      (pss_one (ps_ret (pv 2))))), ?_⟩
    try dsimp only [cxOf, Cx.nox, Cx.wish]
    refine Z.at_start (σ' := [some a, some b, none]) rfl ?_
    obtain ⟨L, y, z, b1, m, b', m', ls, ks, ls', ks', rfl, rfl, F, ca, cb, m1, m5, q1, q5, kE, kQ⟩ := h
    have hcl := T.i_Calendar.cl
    obtain ⟨dx, pl, pr, d1, d2, k1, k2, n1, _⟩ := id ca
    obtain ⟨dx', pl', pr', d1', d2', k1', k2', n1', _⟩ := id cb
    walk_at "z"
    refine Z.wFldAt F n1 hcl T.n_Calendar_period (cal_period _ _ _ _ _ _) ?_
    walk_at "z"
    refine Z.wFldAt F n1' hcl T.n_Calendar_period (cal_period _ _ _ _ _ _) ?_
    walk_at "z"
    refine Z.wLcm (by omega) (by omega) ?_
    show _
    walk_at "z"
    refine Z.wIfD (fun h => ?_) (fun h => ?_)
    · walk_at "z"
      refine Z.wMk1 T.x_BadCalendar.oex T.n_BadCalendar_what F fun e H2 F2 => kE h _ _ F2
    · walk_at "z"
      exact kQ (by unfold lcmZ; omega)
theorem ok__common_period (T : Txt K mg c_BadCalendar c_BadLength c_Calendar) : Z.Ok (L2.CX P w) P w K mg base "_common_period" 3 ["one", "other"] [] (sp__common_period K c_Calendar c_BadCalendar) := by
  obtain ⟨f, fd, F, g⟩ := T.d__common_period
  exact Z.mkOk F g (F.binds (ps := ["one", "other"]) fun _ _ _ _ _ _ us hl => match us, hl with | [_, _], _ => rfl) (fn__common_period T F)
theorem use__common_period {cC cB : Addr} {H : Hp} {Q : VK} {E : XK} {L : List Z.En} {y z : Addr} {b m b' m' : Int} {ls ks ls' ks' : List Int} (F : Z.Fx H L) (ca : CalAt cC L y b m ls ks) (cb : CalAt cC L z b' m' ls' ks') (m1 : 1 ≤ m) (m5 : m ≤ 5000) (q1 : 1 ≤ m') (q5 : m' ≤ 5000)
  (kE : 5000 < lcmZ m m' → ∀ e H', Z.Fx H' (.ob e (.xd [("what", .str ("period" : Str))]) :: L) → E (.ref cB) (some e) H') (kQ : lcmZ m m' ≤ 5000 → Q (.int (lcmZ m m')) H) : sp__common_period K cC cB [.ref y, .ref z] H Q E := ⟨_, _, rfl, L, y, z, b, m, b', m', ls, ks, ls', ks', rfl, rfl, F, ca, cb, m1, m5, q1, q5, kE, kQ⟩
theorem sc__law_multiple : FnScope ["_law_one", "_law_other", "_law_k"] ["_law_one", "_law_other"] (defScope s__law_multiple) := ⟨rfl, rfl, rfl, by decide +kernel, rfl, by decide +kernel, by decide +kernel⟩
theorem lcm_first {a b : Int} (ha : 1 ≤ a) (hb : 1 ≤ b) {k : Int} (k1 : 1 ≤ k) (h : a * k % b = 0) (hno : ∀ j, 1 ≤ j → j < k → a * j % b ≠ 0) : a * k = lcmZ a b := by
  have lp := lcmZ_pos ha hb
  obtain ⟨j, hj⟩ := lcmZ_mul b ha
  have hj1 : 1 ≤ (j : Int) := by
    by_cases c : (1 : Int) ≤ j
    · exact c
    · have : (j : Int) = 0 := by omega
      rw [this] at hj
      omega
  have d2 : lcmZ a b % b = 0 := by
    obtain ⟨q, hq⟩ := Nat.dvd_lcm_right a.natAbs b.natAbs
    unfold lcmZ
    rw [hq, Int.natCast_mul, Int.natAbs_of_nonneg (by omega), Int.mul_emod_right]
  have le : lcmZ a b ≤ a * k := by
    have h1 : a.natAbs ∣ (a * k).natAbs := Int.natAbs_dvd_natAbs.mpr ⟨k, rfl⟩
    have h2 : b.natAbs ∣ (a * k).natAbs := Int.natAbs_dvd_natAbs.mpr (Int.dvd_of_emod_eq_zero h)
    have h0 : 0 < a * k := Int.mul_pos (by omega) (by omega)
    have h3 := Nat.le_of_dvd (by omega) (Nat.lcm_dvd h1 h2)
    unfold lcmZ
    omega
  by_cases c : (j : Int) < k
  · exact absurd (by rw [Int.mul_comm, ← hj]; exact d2) (hno j hj1 c)
  · have : a * k ≤ a * j := Int.mul_le_mul_of_nonneg_left (by omega) (by omega)
    rw [Int.mul_comm a (j : Int), ← hj] at this
    omega
def sp__law_multiple : Sp := Z.Sp2 fun a b H Q E => ∃ m m' : Int, a = .int m ∧ b = .int m' ∧ 1 ≤ m ∧ m ≤ 5000 ∧ 1 ≤ m' ∧ m' ≤ 5000 ∧ Q (.int (lcmZ m m')) H
theorem fn__law_multiple (T : Txt K mg c_BadCalendar c_BadLength c_Calendar) {f : Addr} {fd : FuncData} (F : Fun K "_law_multiple" "_law_multiple" s__law_multiple f fd) : FnOk P w K mg base CX0 1 f fd ["_law_one", "_law_other"] (sp__law_multiple) := by
  refine F.ok sc__law_multiple (fun vs H Q E h => ?_) (fun cdv A outer s H vs Q E hr h => ?_)
  · obtain ⟨a, b, rfl, _⟩ := h; rfl
  · obtain ⟨a, b, rfl, h⟩ := h
    refine ⟨_, (pss_cons (ps_for PassesOwn.never (by rfl) (pi_range2 (by rfl) T.b_range (pa_cons pe_int (pa_cons (pe_op Z.zAdd (pv 1) pe_int) pa_nil))) (pg_name (i := 2) sc__law_multiple.nd rfl (by first | exact Or.inl rfl | exact Or.inr rfl))
        (pss_one (ps_if (pt_cmpR (Z.zEq (Z.hu0 hr)) (pe_op Z.zMod (pe_callTy Z.zInt (by rfl) T.b_int (by decide +kernel) (pa_cons (pe_op Z.zMul (pv 0) (pv 2)) pa_nil)) (pv 1)) pe_int (nomark _))
          (pss_one (ps_ret (pe_op Z.zMul (pv 0) (pv 2))))
          pss_nil)))
      (pss_one (ps_ret (pe_op Z.zMul (pv 0) (pv 1))))), ?_⟩
    try dsimp only [cxOf, Cx.nox, Cx.wish]
    refine Z.at_start (σ' := [some a, some b, none]) rfl ?_
    obtain ⟨m, m', rfl, rfl, m1, m5, q1, q5, k⟩ := h
    walk_at "z"
    refine Z.wForW walk_range (fun i σ H' => ∃ v2, σ = [some (.int m), some (.int m'), v2] ∧ H' = H ∧ ∀ j, 1 ≤ j → j < 1 + (i : Int) → m * j % m' ≠ 0) ⟨_, rfl, rfl, fun j h1 h2 => by omega⟩ (fun _ _ _ _ _ => trivial) ?_ ?_
    · rintro i x σ H1 H2 hi ⟨v2, rfl, rfl, hno⟩ ⟨rfl, rfl⟩
      dsimp only
      have hb : m * (1 + (i : Int)) ≤ 25000000 := by
        have := Int.mul_le_mul (show m ≤ 5000 by omega) (show 1 + (i : Int) ≤ 5000 by omega) (by omega) (by omega)
        omega
      have hb0 : 0 ≤ m * (1 + (i : Int)) := Int.mul_nonneg (by omega) (by omega)
      walk_at "z"
      refine Z.wIfD (fun h => ?_) (fun h => ?_)
      · walk_at "z"
        rw [lcm_first m1 q1 (by omega) h hno]
        exact k
      · walk_at "z"
        refine ⟨_, rfl, rfl, fun j j1 j2 => ?_⟩
        by_cases e : j = 1 + (i : Int)
        · rw [e]; exact h
        · exact hno j j1 (by omega)
    · rintro σ H1 ⟨v2, rfl, rfl, hno⟩
      exact absurd (Int.mul_emod_left m m') (hno m' q1 (by omega))
theorem ok__law_multiple (T : Txt K mg c_BadCalendar c_BadLength c_Calendar) : Z.Ok CX0 P w K mg base "_law_multiple" 1 ["_law_one", "_law_other"] [] (sp__law_multiple) := by
  obtain ⟨f, fd, F, g⟩ := T.d__law_multiple
  exact Z.mkOk F g (F.binds (ps := ["_law_one", "_law_other"]) fun _ _ _ _ _ _ us hl => match us, hl with | [_, _], _ => rfl) (fn__law_multiple T F)
theorem use__law_multiple {H : Hp} {Q : VK} {E : XK} {m m' : Int} (m1 : 1 ≤ m) (m5 : m ≤ 5000) (q1 : 1 ≤ m') (q5 : m' ≤ 5000) (k : Q (.int (lcmZ m m')) H) : sp__law_multiple [.int m, .int m'] H Q E := ⟨_, _, rfl, m, m', rfl, rfl, m1, m5, q1, q5, k⟩
theorem sc__law_merged : FnScope ["_law_one", "_law_other", "_law_wanted", "_law_first", "_law_second_here", "_law_period", "_law_start", "_law_early", "_law_wheel", "_law_rest", "_law_number", "_law_k"] ["_law_one", "_law_other", "_law_wanted"] (defScope s__law_merged) := ⟨rfl, rfl, rfl, by decide +kernel, rfl, by decide +kernel, by decide +kernel⟩
/-- what is wanted of two answers: one of them, or both -/
def wantI (k : Int) (f g : Int → Bool) (t : Int) : Bool := decide ((if f t then (1 : Int) else 0) + (if g t then 1 else 0) ≥ k)
theorem round_fold {f : Int → Bool} {st p : Int} (p1 : 1 ≤ p) (hf : Round f st p) (z : Int) (hz : st ≤ z) : f (st + (z - st) % p) = f z := by
  have r0 := Int.emod_nonneg (z - st) (show p ≠ 0 by omega)
  have hd := Int.emod_add_mul_ediv (z - st) p
  obtain ⟨k, hk⟩ := Int.eq_ofNat_of_zero_le (Int.ediv_nonneg (show 0 ≤ z - st by omega) (show 0 ≤ p by omega))
  have := (Round.mul (by omega) hf k) (st + (z - st) % p) (by omega)
  rw [← this, ← hk, Int.mul_comm]
  congr 1
  omega
theorem want_round {k : Int} {f g : Int → Bool} {st p : Int} (h1 : Round f st p) (h2 : Round g st p) : Round (wantI k f g) st p := fun z hz => by
  unfold wantI
  rw [h1 z hz, h2 z hz]
/-- a world whose answers are f's -/
theorem yes_of {f : Int → Bool} {es ws : List Bool} {p : Int} (p1 : 1 ≤ p) (hw : (ws.length : Int) = p) (he : ∀ i : Nat, i < es.length → es.getD i false = f i) (hws : ∀ i : Nat, i < ws.length → ws.getD i false = f (es.length + ((i : Int) - es.length) % p)) (hf : Round f es.length p) (z : Int) (z0 : 0 ≤ z) : yesI es ws z = f z := by
  obtain ⟨n, rfl⟩ := Int.eq_ofNat_of_zero_le z0
  rw [yes_nat]
  by_cases h : n < es.length
  · rw [if_pos h, he n h]
  · have hm : n % ws.length < ws.length := Nat.mod_lt _ (by omega)
    rw [if_neg h, hws _ hm, ← round_fold p1 hf n (by omega)]
    congr 2
    rw [Int.natCast_emod, hw, Int.emod_sub_emod]
def sp__law_merged (K : PySem.W.Frag) : Sp := Z.Sp3 fun a b c H Q E => ∃ (L : List Z.En) (x x' : Addr) (e w e' w' : List Bool) (k : Int) (b1 m b2 m' : Int) (ls ks ls' ks' : List Int), a = .ref x ∧ b = .ref x' ∧ c = .int k ∧ Z.Fx H L ∧ WorldAt L x e w ∧ WOk e w ∧ WorldAt L x' e' w' ∧ WOk e' w' ∧ IsPlain (yesI e w) b1 m ls ks ∧ IsPlain (yesI e' w') b2 m' ls' ks' ∧
  (5000 < lcmZ m m' → ∀ H', Z.Fx H' L → Q (.str ("period" : Str)) H') ∧ (lcmZ m m' ≤ 5000 → ∀ bm mm l' k', IsPlain (wantI k (yesI e w) (yesI e' w')) bm mm l' k' → ∀ r L1 H', L.Sublist L1 → RowAt L1 r bm mm l' k' → Z.Fx H' L1 → Q (.ref r) H')
theorem fn__law_merged (T : Txt K mg c_BadCalendar c_BadLength c_Calendar) {f : Addr} {fd : FuncData} (F : Fun K "_law_merged" "_law_merged" s__law_merged f fd) : FnOk P w K mg base CX0 3 f fd ["_law_one", "_law_other", "_law_wanted"] (sp__law_merged K) := by
  have O__law_multiple := ok__law_multiple (P := P) (w := w) (base := base) T
  have O__law_plain := ok__law_plain (P := P) (w := w) (base := base) T
  have O__law_yes := ok__law_yes (P := P) (w := w) (base := base) T
  refine F.ok sc__law_merged (fun vs H Q E h => ?_) (fun cdv A outer s H vs Q E hr h => ?_)
  · obtain ⟨a, b, c, rfl, _⟩ := h; rfl
  · obtain ⟨a, b, c, rfl, h⟩ := h
    refine ⟨_, (pss_cons (ps_set (i := 3) sc__law_merged.nd rfl (by first | exact Or.inl rfl | exact Or.inr rfl) (Z.pe_callO O__law_plain (by rfl) (hr.mono (by decide)) pass0 (pa_cons (pv 0) pa_nil)))
      (pss_cons (ps_set (i := 4) sc__law_merged.nd rfl (by first | exact Or.inl rfl | exact Or.inr rfl) (Z.pe_callO O__law_plain (by rfl) (hr.mono (by decide)) pass0 (pa_cons (pv 1) pa_nil)))
      (pss_cons (ps_set (i := 5) sc__law_merged.nd rfl (by first | exact Or.inl rfl | exact Or.inr rfl) (Z.pe_callO O__law_multiple (by rfl) (hr.mono (by decide)) pass0 (pa_cons (pe_ix ix_seq (pv 3) pe_int (fun _ _ => rfl)) (pa_cons (pe_ix ix_seq (pv 4) pe_int (fun _ _ => rfl)) pa_nil))))
      (pss_cons (ps_if (pt_cmpR Z.zGt (pv 5) pe_int (nomark _))
        (pss_one (ps_ret pe_str))
        pss_nil)
      (pss_cons (ps_set (i := 6) sc__law_merged.nd rfl (by first | exact Or.inl rfl | exact Or.inr rfl) (pe_callB (Z.zMax2 rfl) (by rfl) T.b_max (by decide +kernel) (pa_cons (pe_callB Z.zLen (by rfl) T.b_len (by decide +kernel) (pa_cons (pe_ix ix_seq (pv 0) pe_int (fun _ _ => rfl)) pa_nil)) (pa_cons (pe_callB Z.zLen (by rfl) T.b_len (by decide +kernel) (pa_cons (pe_ix ix_seq (pv 1) pe_int (fun _ _ => rfl)) pa_nil)) pa_nil))))
      (pss_cons (by exact (ps_setLc (i := 7) (own := [("_law_k", 11)]) (g := (gName 11)) (by rfl) sc__law_merged.nd rfl rfl (sw_true rfl rfl rfl (by decide +kernel)) (pi_range1 (by rfl) T.b_range (pa_cons (pv 6) pa_nil)) (blkOk_by (own := [("_law_k", 11)]) (N := ["_law_one", "_law_other", "_law_wanted", "_law_first", "_law_second_here", "_law_period", "_law_start", "_law_early", "_law_wheel", "_law_rest", "_law_number", "_law_k"]) (sc := defScope s__law_merged) (by decide +kernel)) (fun _ _ _ _ _ => (by exact (pg_name (i := 11) sc__law_merged.nd rfl (by first | exact Or.inl rfl | exact Or.inr rfl)))) (fun _ _ _ _ _ => (by exact pts_nil)) (fun _ _ _ _ _ => (by exact (pe_cmpR Z.zGe (pe_op (show OpR _ _ (Z.rOr Z.rAddI (Z.rOr Z.rAddS (Z.rOr rCat (rCatT K)))) from Z.zAdd) (pe_callTy Z.zInt (by rfl) T.b_int (by decide +kernel) (pa_cons (Z.pe_callO O__law_yes (by rfl) (hr.mono (by decide)) pass0 (pa_cons (pv 0) (pa_cons (pv 11) pa_nil))) pa_nil)) (pe_callTy Z.zInt (by rfl) T.b_int (by decide +kernel) (pa_cons (Z.pe_callO O__law_yes (by rfl) (hr.mono (by decide)) pass0 (pa_cons (pv 1) (pa_cons (pv 11) pa_nil))) pa_nil))) (pv 2) (nomark _))))))
      (pss_cons (ps_set (i := 8) sc__law_merged.nd rfl (by first | exact Or.inl rfl | exact Or.inr rfl) (pe_lst pa_nil))
      (pss_cons (ps_for PassesOwn.never (by rfl) (pi_range1 (by rfl) T.b_range (pa_cons (pv 5) pa_nil)) (pg_name (i := 9) sc__law_merged.nd rfl (by first | exact Or.inl rfl | exact Or.inr rfl))
        (pss_cons (ps_set (i := 10) sc__law_merged.nd rfl (by first | exact Or.inl rfl | exact Or.inr rfl) (pe_op Z.zAdd (pv 6) (pe_op Z.zMod (pe_callTy Z.zInt (by rfl) T.b_int (by decide +kernel) (pa_cons (pe_op op_sub (pv 9) (pv 6)) pa_nil)) (pv 5))))
        (pss_one (ps_expr (pe_bm PySem.F.plainAttrs_list PySem.F.slot_list_append PySem.F.type_list_append mt_append (pv 8) (pa_cons (pe_cmpR Z.zGe (pe_op Z.zAdd (pe_callTy Z.zInt (by rfl) T.b_int (by decide +kernel) (pa_cons (Z.pe_callO O__law_yes (by rfl) (hr.mono (by decide)) pass0 (pa_cons (pv 0) (pa_cons (pv 10) pa_nil))) pa_nil)) (pe_callTy Z.zInt (by rfl) T.b_int (by decide +kernel) (pa_cons (Z.pe_callO O__law_yes (by rfl) (hr.mono (by decide)) pass0 (pa_cons (pv 1) (pa_cons (pv 10) pa_nil))) pa_nil))) (pv 2) (nomark _)) pa_nil))))))
      (pss_one (ps_ret (Z.pe_callO O__law_plain (by rfl) (hr.mono (by decide)) pass0 (pa_cons (pe_tup (pa_cons (pv 7) (pa_cons (pv 8) pa_nil))) pa_nil)))))))))))), ?_⟩
    try dsimp only [cxOf, Cx.nox, Cx.wish]
    refine Z.at_start (σ' := [some a, some b, some c, none, none, none, none, none, none, none, none, none]) rfl ?_
    obtain ⟨L, x, x', e, w, e', w', k, b1, m, b2, m', ls, ks, ls', ks', rfl, rfl, rfl, F, wa, wo, wa', wo', P, P', kE, kQ⟩ := h
    obtain ⟨b0, b20, m1, m5, o1, o2⟩ := P.facts
    obtain ⟨c0, c20, q1, q5, u1, u2⟩ := P'.facts
    obtain ⟨w0, w5, e2⟩ := id wo
    obtain ⟨w0', w5', e2'⟩ := id wo'
    have lp := lcmZ_pos m1 q1
    obtain ⟨p, q, h1, h2, h3⟩ := id wa
    obtain ⟨p', q', h1', h2', h3'⟩ := id wa'
    walk_at "y"
    refine use__law_plain F wa w0 (by omega) (by omega) fun a1 a2 a3 a4 PP r1 L1 H1 s1 ra F1 => ?_
    obtain ⟨rfl, rfl, rfl, rfl⟩ := P.uniq (fun _ _ => rfl) (plain_yes w0 (by omega) (by omega) PP)
    have le1 : b1 ≤ e.length := PP.2.2.1.2.1
    walk_at "y"
    refine use__law_plain F1 (wa'.le s1) w0' (by omega) (by omega) fun a1 a2 a3 a4 PP' r2 L2 H2 s2 rb F2 => ?_
    obtain ⟨rfl, rfl, rfl, rfl⟩ := P'.uniq (fun _ _ => rfl) (plain_yes w0' (by omega) (by omega) PP')
    have le2 : b2 ≤ e'.length := PP'.2.2.1.2.1
    obtain ⟨t1, t2, rm, _, _⟩ := ra.le s2
    obtain ⟨t3, t4, rn, _, _⟩ := id rb
    have s12 := s1.trans s2
    walk_at "y"
    refine use__law_multiple m1 m5 q1 q5 ?_
    generalize hp : lcmZ m m' = pz at lp kE kQ ⊢
    walk_at "y"
    refine Z.wMidS (fun σ' H' => pz ≤ 5000 ∧ σ' = [some (.ref x), some (.ref x'), some (.int k), some (.ref r1), some (.ref r2), some (.int pz), none, none, none, none, none, none] ∧ H' = H2) (fun N hk => ?_) ?_
    · walk_at "z"
      refine Z.wIfD (fun h => ?_) (fun h => ?_)
      · walk_at "z"
        exact kE h _ (F2.sub s12)
      · walk_at "z"
        exact hk _ _ ⟨by omega, rfl, rfl⟩
    rintro _ _ ⟨p5, rfl, rfl⟩
    have g1 := s12.subset h1
    have g2 := s12.subset h2
    have g1' := s12.subset h1'
    have g2' := s12.subset h2'
    have wb := wa.le s12
    have wb' := wa'.le s12
    walk_at "z"
    rw [List.length_map, List.length_map]
    obtain ⟨st, hst, j0, j1, j2, j3⟩ : ∃ st : Nat, (if (e'.length : Int) > e.length then (e'.length : Int) else e.length) = st ∧ e.length ≤ st ∧ e'.length ≤ st ∧ st ≤ 500 ∧ 0 ≤ st := ⟨max e.length e'.length, by split <;> omega, by omega, by omega, by omega, by omega⟩
    rw [hst]
    have wr : Round (wantI k (yesI e w) (yesI e' w')) st pz := want_round (lcm_round (by omega) m1 q1 P hp) (lcm_round (by omega) q1 m1 P' ((lcmZ_comm _ _).trans hp))
    refine Z.wLcW walk_range F2 (fun i acc L' => L' = _ ∧ ∃ es : List Bool, acc = es.map V.bl ∧ es.length = i ∧ ∀ j : Nat, j < es.length → es.getD j false = wantI k (yesI e w) (yesI e' w') j) ⟨rfl, [], rfl, rfl, by simp⟩ (fun _ _ _ _ _ _ _ => trivial) ?_ ?_
    · rintro i v D H4 H5 acc L' hi ⟨rfl, es, rfl, hc, hes⟩ F4 ⟨rfl, rfl⟩
      dsimp only
      rw [Int.zero_add]
      walk_at "zw"
      walk_at "z"
      refine ⟨rfl, ?_⟩
      walk_at "z"
      refine use__law_yes F4 (wb.le (.cons _ (.refl _))) (by omega) w0 ?_
      walk_at "z"
      refine use__law_yes F4 (wb'.le (.cons _ (.refl _))) (by omega) w0' ?_
      walk_at "z"
      refine Z.lcPut F4 (by rw [List.length_map, hc]; have := Z.line_big; omega) ⟨rfl, es ++ [wantI k (yesI e w) (yesI e' w') i], by rw [List.map_append]; rfl, by rw [List.length_append, hc]; rfl, fun j hj => ?_⟩
      rw [List.length_append, hc] at hj
      by_cases h : j < i
      · rw [List.getD_eq_getElem?_getD, List.getElem?_append_left (by omega), ← List.getD_eq_getElem?_getD]
        exact hes j (by omega)
      · have hj2 : j = i := by simp at hj; omega
        subst hj2
        rw [List.getD_eq_getElem?_getD, List.getElem?_append_right (by omega), hc, Nat.sub_self]
        rfl
    rintro D acc L' H4 F4 ⟨rfl, es, rfl, hc, hes⟩
    rw [Int.toNat_natCast] at hc
    walk_at "z"
    rename_i wq H5 F5
    refine Z.wForW walk_range (fun i σ H' => ∃ (v9 v10 : Option V) (ws : List Bool), σ = [some (.ref x), some (.ref x'), some (.int k), some (.ref r1), some (.ref r2), some (.int pz), some (.int st), some (.ref D), some (.ref wq), v9, v10, none] ∧ Z.Fx H' (.ob wq (.lst (ws.map V.bl)) :: .ob D (.lst (es.map V.bl)) :: L') ∧ ws.length = i ∧ ∀ j : Nat, j < ws.length → ws.getD j false = wantI k (yesI e w) (yesI e' w') (st + ((j : Int) - st) % pz)) ⟨_, _, [], rfl, F5, rfl, by simp⟩ (fun _ _ _ _ _ => trivial) ?_ ?_
    · rintro i u σ H6 H7 hi ⟨v9, v10, ws, rfl, F6, hl, hws⟩ ⟨rfl, rfl⟩
      have m0 := Int.emod_nonneg ((i : Int) - st) (show pz ≠ 0 by omega)
      have m1' := Int.emod_lt_of_pos ((i : Int) - st) (show 0 < pz by omega)
      dsimp only
      rw [Int.zero_add]
      walk_at "z"
      refine use__law_yes F6 (wb.le (.cons _ (.cons _ (.refl _)))) (by omega) w0 ?_
      walk_at "z"
      refine use__law_yes F6 (wb'.le (.cons _ (.cons _ (.refl _)))) (by omega) w0' ?_
      walk_at "z"
      first
      | refine Z.wApp F6 (.head _) .head (by rw [List.length_map]; have := Z.line_big; omega) fun H8 F8 => ?_
      | skip
      walk_at "z"
      refine ⟨_, _, ws ++ [wantI k (yesI e w) (yesI e' w') (st + ((i : Int) - st) % pz)], rfl, by rw [List.map_append]; assumption, by rw [List.length_append, hl]; rfl, fun j hj => ?_⟩
      rw [List.length_append, hl] at hj
      by_cases h : j < i
      · rw [List.getD_eq_getElem?_getD, List.getElem?_append_left (by omega), ← List.getD_eq_getElem?_getD]
        exact hws j (by omega)
      · have hj2 : j = i := by simp at hj; omega
        subst hj2
        rw [List.getD_eq_getElem?_getD, List.getElem?_append_right (by omega), hl, Nat.sub_self]
        rfl
    rintro σ H6 ⟨v9, v10, ws, rfl, F6, hl, hws⟩
    walk_at "z"
    rename_i q9 H8 F8
    subst hc
    refine use__law_plain F8 ⟨D, wq, .head _, .tail _ (.tail _ (.head _)), .tail _ (.head _)⟩ (by omega) (by omega) (by omega) fun bm mm l' k' PW r L3 H9 s3 rc F9 => ?_
    refine kQ p5 bm mm l' k' ((plain_yes (by omega) (by omega) (by omega) PW).congr fun z z0 => ?_) r L3 H9 (s12.trans ((List.Sublist.cons _ (.cons _ (.cons _ (.refl _)))).trans s3)) rc F9
    exact yes_of (f := wantI k (yesI e w) (yesI e' w')) lp (by omega) hes (fun i hi => hws i hi) wr z z0
theorem ok__law_merged (T : Txt K mg c_BadCalendar c_BadLength c_Calendar) : Z.Ok CX0 P w K mg base "_law_merged" 3 ["_law_one", "_law_other", "_law_wanted"] [] (sp__law_merged K) := by
  obtain ⟨f, fd, F, g⟩ := T.d__law_merged
  exact Z.mkOk F g (F.binds (ps := ["_law_one", "_law_other", "_law_wanted"]) fun _ _ _ _ _ _ us hl => match us, hl with | [_, _, _], _ => rfl) (fn__law_merged T F)
theorem use__law_merged {H : Hp} {Q : VK} {E : XK} {L : List Z.En} {x x' : Addr} {e w e' w' : List Bool} {k : Int} {b1 m b2 m' : Int} {ls ks ls' ks' : List Int} (F : Z.Fx H L) (wa : WorldAt L x e w) (wo : WOk e w) (wa' : WorldAt L x' e' w') (wo' : WOk e' w') (P : IsPlain (yesI e w) b1 m ls ks) (P' : IsPlain (yesI e' w') b2 m' ls' ks')
  (kE : 5000 < lcmZ m m' → ∀ H', Z.Fx H' L → Q (.str ("period" : Str)) H') (kQ : lcmZ m m' ≤ 5000 → ∀ bm mm l' k', IsPlain (wantI k (yesI e w) (yesI e' w')) bm mm l' k' → ∀ r L1 H', L.Sublist L1 → RowAt L1 r bm mm l' k' → Z.Fx H' L1 → Q (.ref r) H') : sp__law_merged K [.ref x, .ref x', .int k] H Q E :=
  ⟨_, _, _, rfl, L, x, x', e, w, e', w', k, b1, m, b2, m', ls, ks, ls', ks', rfl, rfl, rfl, F, wa, wo, wa', wo', P, P', kE, kQ⟩
theorem sc_joined_calendars : FnScope ["one", "other", "period", "before", "number"] ["one", "other"] (defScope s_joined_calendars) := ⟨rfl, rfl, rfl, by decide +kernel, rfl, by decide +kernel, by decide +kernel⟩
def sp_joined_calendars (K : PySem.W.Frag) (cC cB : Addr) : Sp := Z.Sp2 fun a c H Q E => ∃ (L : List Z.En) (y z : Addr) (b m b' m' : Int) (ls ks ls' ks' : List Int) (f g : Int → Bool), a = .ref y ∧ c = .ref z ∧ Z.Fx H L ∧ CalAt cC L y b m ls ks ∧ CalAt cC L z b' m' ls' ks' ∧ IsPlain f b m ls ks ∧ IsPlain g b' m' ls' ks' ∧
  (5000 < lcmZ m m' → ∀ e H', Z.Fx H' (.ob e (.xd [("what", .str ("period" : Str))]) :: L) → E (.ref cB) (some e) H') ∧
  (lcmZ m m' ≤ 5000 → ∀ bm mm l' k', IsPlain (fun t => f t || g t) bm mm l' k' → ∀ y L1 H', L.Sublist L1 → CalAt cC L1 y bm mm l' k' → Z.Fx H' L1 → Q (.ref y) H')
theorem fn_joined_calendars (T : Txt K mg c_BadCalendar c_BadLength c_Calendar) {f : Addr} {fd : FuncData} (F : Fun K "joined_calendars" "joined_calendars" s_joined_calendars f fd) : FnOk P w K mg base (L2.CX P w) 7 f fd ["one", "other"] (sp_joined_calendars K c_Calendar c_BadCalendar) := by
  have O__calendar_of := ok__calendar_of (P := P) (w := w) (base := base) T
  have O__common_period := ok__common_period (P := P) (w := w) (base := base) T
  have O_Calendar___contains__ := ok_Calendar___contains__ (P := P) (w := w) (base := base) T
  refine F.okX sc_joined_calendars (fun vs H Q E h => ?_) (fun cdv A outer s H vs Q E hr h => ?_)
  · obtain ⟨a, b, rfl, _⟩ := h; rfl
  · obtain ⟨a, b, rfl, h⟩ := h
    have TK := takes_of (X := cxOf (L2.CX P w) P w K mg base ["one", "other", "period", "before", "number"] "joined_calendars" (defScope s_joined_calendars) f cdv A outer s H E) rfl rfl rfl rfl
    refine ⟨_, (pss_cons (ps_set (i := 2) sc_joined_calendars.nd rfl (by first | exact Or.inl rfl | exact Or.inr rfl) (Z.pe_callO O__common_period (by rfl) (hr.mono (by decide)) (Z.passE TK) (pa_cons (pv 0) (pa_cons (pv 1) pa_nil))))
      (pss_cons (ps_set (i := 3) sc_joined_calendars.nd rfl (by first | exact Or.inl rfl | exact Or.inr rfl) (pe_callB (Z.zMax2 rfl) (by rfl) T.b_max (by decide +kernel) (pa_cons (pe_fld (pv 0) rfl) (pa_cons (pe_fld (pv 1) rfl) pa_nil))))
      (pss_one (ps_ret (Z.pe_callO O__calendar_of (by rfl) (hr.mono (by decide)) (Z.passE TK) (pa_cons (by exact (pe_lc (own := [("number", 4)]) (g := (gName 4)) (by rfl) sc_joined_calendars.nd (pi_range1 (by rfl) T.b_range (pa_cons (pe_op Z.zAdd (pv 3) (pv 2)) pa_nil)) (blkOk_by (own := [("number", 4)]) (N := ["one", "other", "period", "before", "number"]) (sc := defScope s_joined_calendars) (by decide +kernel)) (fun _ _ _ _ _ => (by exact (pg_name (i := 4) sc_joined_calendars.nd rfl (by first | exact Or.inl rfl | exact Or.inr rfl)))) (fun _ _ _ _ _ => (by exact (pts_one (PW.pt (pw_or (pt_cmpR (show OpR _ _ (Z.rInOwn K c_Calendar (sp_Calendar___contains__ K c_Calendar)) from Z.op_inO O_Calendar___contains__ (hr.mono (by decide))) (pv 4) (pv 0) (by rfl)) (pw_or1 (pt_cmpR (show OpR _ _ (Z.rInOwn K c_Calendar (sp_Calendar___contains__ K c_Calendar)) from Z.op_inO O_Calendar___contains__ (hr.mono (by decide))) (pv 4) (pv 1) (by rfl)))))))) (fun _ _ _ _ _ => (by exact (pv 4))))) (pa_cons (pv 3) (pa_cons (pv 2) pa_nil)))))))), ?_⟩
    try dsimp only [cxOf, Cx.nox, Cx.wish]
    refine Z.at_start (σ' := [some a, some b, none, none, none]) rfl ?_
    obtain ⟨L, y, z, b1, m, b', m', ls, ks, ls', ks', f', g', rfl, rfl, F, ca, cb, P, P', kE, kQ⟩ := h
    have hcl := T.i_Calendar.cl
    obtain ⟨b0, b2, m1, m5, o1, o2⟩ := P.facts
    obtain ⟨c0, c2, q1, q5, u1, u2⟩ := P'.facts
    have lp := lcmZ_pos m1 q1
    obtain ⟨dx, pl, pr, d1, d2, k1, k2, n1, _⟩ := id ca
    obtain ⟨dx', pl', pr', d1', d2', k1', k2', n1', _⟩ := id cb
    walk_at "z"
    refine use__common_period F ca cb m1 m5 q1 q5 kE fun hle => ?_
    generalize hp : lcmZ m m' = p at hle lp kE kQ
    walk_at "z"
    refine Z.wFldAt F n1 hcl T.n_Calendar_before (cal_before _ _ _ _ _ _) ?_
    walk_at "z"
    refine Z.wFldAt F n1' hcl T.n_Calendar_before (cal_before _ _ _ _ _ _) ?_
    walk_at "z"
    obtain ⟨st, hst, s0, s1, s2, s3⟩ : ∃ st, (if b' > b1 then b' else b1) = st ∧ 0 ≤ st ∧ b1 ≤ st ∧ b' ≤ st ∧ st ≤ 20000 := ⟨_, rfl, by split <;> omega, by split <;> omega, by split <;> omega, by split <;> omega⟩
    rw [hst]
    refine Z.wLcW walk_range F (fun i acc L' => L' = L ∧ acc = (served (fun t => f' t || g' t) i).map V.int) ⟨rfl, rfl⟩ (fun _ _ _ _ _ _ _ => trivial) ?_ ?_
    · rintro i x D H2 H3 acc L' hi ⟨rfl, rfl⟩ F2 ⟨rfl, rfl⟩
      have hlen : ((served (fun t => f' t || g' t) i).map V.int).length < sizeLine := by
        have := served_len (fun t => f' t || g' t) i
        have := Z.line_big
        rw [List.length_map]
        omega
      have z0 : 0 ≤ (i : Int) := by omega
      dsimp only
      rw [Int.zero_add]
      have stp : ∀ v, (f' i || g' i) = v → served (fun t => f' t || g' t) (i + 1) = served (fun t => f' t || g' t) i ++ if v = true then [(i : Int)] else [] := fun v e => by subst e; rfl
      walk_at "zw"
      walk_at "z"
      refine ⟨rfl, ?_⟩
      walk_at "z"
      refine in_cal F2 (ca.le (.cons _ (.refl _))) (.int _) m1 m5 ?_
      rw [show calInV b1 m ls ks (.int (i : Int)) = f' i by rw [← P.ans z0]; simp [calInV, z0]]
      cases hf : f' i with
      | true =>
        walk_at "z"
        exact Z.lcPut F2 hlen ⟨rfl, by rw [stp true (by simp [hf]), if_pos rfl, List.map_append]; rfl⟩
      | false =>
        walk_at "z"
        refine in_cal F2 (cb.le (.cons _ (.refl _))) (.int _) q1 q5 ?_
        rw [show calInV b' m' ls' ks' (.int (i : Int)) = g' i by rw [← P'.ans z0]; simp [calInV, z0]]
        cases hg : g' i with
        | true =>
          walk_at "z"
          exact Z.lcPut F2 hlen ⟨rfl, by rw [stp true (by simp [hf, hg]), if_pos rfl, List.map_append]; rfl⟩
        | false =>
          walk_at "z"
          exact ⟨_, _, F2, rfl, by rw [stp false (by simp [hf, hg]), if_neg (by decide), List.append_nil]⟩
    rintro D acc L' H2 F2 ⟨rfl, rfl⟩
    walk_at "z"
    refine use__calendar_of (ns := served (fun t => f' t || g' t) (st + p).toNat) F2 (.head _) (by have := served_below (fun t => f' t || g' t) (st + p).toNat; rwa [Int.toNat_of_nonneg (by omega)] at this) s0 s3 lp hle fun rs bm mm l' k' hr pl y L1 H' s ca' F' => ?_
    refine kQ hle bm mm l' k' ⟨st, p, _, rs, s0, s3, lp, hle, ?_, hr.1, pl, fun t t0 => ?_⟩ y L1 H' ((List.Sublist.cons _ (.refl _)).trans s) ca' F'
    · exact ⟨(served_below _ _).1.filter _, fun l hl => by
        have e := List.mem_filter.mp hl
        exact ⟨((served_below _ _).2 l e.1).1, of_decide_eq_true e.2⟩⟩
    · refine served_cal (fun t => f' t || g' t) s0 lp hr ?_ t t0
      have r1 := lcm_round s1 m1 q1 P hp
      have r2 := lcm_round s2 q1 m1 P' ((lcmZ_comm _ _).trans hp)
      intro t ht
      have a := r1 t ht
      have b := r2 t ht
      try dsimp only
      rw [a, b]
theorem ok_joined_calendars (T : Txt K mg c_BadCalendar c_BadLength c_Calendar) : Z.Ok (L2.CX P w) P w K mg base "joined_calendars" 7 ["one", "other"] [] (sp_joined_calendars K c_Calendar c_BadCalendar) := by
  obtain ⟨f, fd, F, g⟩ := T.d_joined_calendars
  exact Z.mkOk F g (F.binds (ps := ["one", "other"]) fun _ _ _ _ _ _ us hl => match us, hl with | [_, _], _ => rfl) (fn_joined_calendars T F)
theorem use_joined_calendars {cC cB : Addr} {H : Hp} {Q : VK} {E : XK} {L : List Z.En} {y z : Addr} {b m b' m' : Int} {ls ks ls' ks' : List Int} {f g : Int → Bool} (F : Z.Fx H L) (ca : CalAt cC L y b m ls ks) (cb : CalAt cC L z b' m' ls' ks') (P : IsPlain f b m ls ks) (P' : IsPlain g b' m' ls' ks')
  (kE : 5000 < lcmZ m m' → ∀ e H', Z.Fx H' (.ob e (.xd [("what", .str ("period" : Str))]) :: L) → E (.ref cB) (some e) H')
  (kQ : lcmZ m m' ≤ 5000 → ∀ bm mm l' k', IsPlain (fun t => f t || g t) bm mm l' k' → ∀ y L1 H', L.Sublist L1 → CalAt cC L1 y bm mm l' k' → Z.Fx H' L1 → Q (.ref y) H') : sp_joined_calendars K cC cB [.ref y, .ref z] H Q E := ⟨_, _, rfl, L, y, z, b, m, b', m', ls, ks, ls', ks', f, g, rfl, rfl, F, ca, cb, P, P', kE, kQ⟩
theorem sc_common_calendar : FnScope ["one", "other", "period", "before", "number"] ["one", "other"] (defScope s_common_calendar) := ⟨rfl, rfl, rfl, by decide +kernel, rfl, by decide +kernel, by decide +kernel⟩
def sp_common_calendar (K : PySem.W.Frag) (cC cB : Addr) : Sp := Z.Sp2 fun a c H Q E => ∃ (L : List Z.En) (y z : Addr) (b m b' m' : Int) (ls ks ls' ks' : List Int) (f g : Int → Bool), a = .ref y ∧ c = .ref z ∧ Z.Fx H L ∧ CalAt cC L y b m ls ks ∧ CalAt cC L z b' m' ls' ks' ∧ IsPlain f b m ls ks ∧ IsPlain g b' m' ls' ks' ∧
  (5000 < lcmZ m m' → ∀ e H', Z.Fx H' (.ob e (.xd [("what", .str ("period" : Str))]) :: L) → E (.ref cB) (some e) H') ∧
  (lcmZ m m' ≤ 5000 → ∀ bm mm l' k', IsPlain (fun t => f t && g t) bm mm l' k' → ∀ y L1 H', L.Sublist L1 → CalAt cC L1 y bm mm l' k' → Z.Fx H' L1 → Q (.ref y) H')
theorem fn_common_calendar (T : Txt K mg c_BadCalendar c_BadLength c_Calendar) {f : Addr} {fd : FuncData} (F : Fun K "common_calendar" "common_calendar" s_common_calendar f fd) : FnOk P w K mg base (L2.CX P w) 7 f fd ["one", "other"] (sp_common_calendar K c_Calendar c_BadCalendar) := by
  have O__calendar_of := ok__calendar_of (P := P) (w := w) (base := base) T
  have O__common_period := ok__common_period (P := P) (w := w) (base := base) T
  have O_Calendar___contains__ := ok_Calendar___contains__ (P := P) (w := w) (base := base) T
  refine F.okX sc_common_calendar (fun vs H Q E h => ?_) (fun cdv A outer s H vs Q E hr h => ?_)
  · obtain ⟨a, b, rfl, _⟩ := h; rfl
  · obtain ⟨a, b, rfl, h⟩ := h
    have TK := takes_of (X := cxOf (L2.CX P w) P w K mg base ["one", "other", "period", "before", "number"] "common_calendar" (defScope s_common_calendar) f cdv A outer s H E) rfl rfl rfl rfl
    refine ⟨_, (pss_cons (ps_set (i := 2) sc_common_calendar.nd rfl (by first | exact Or.inl rfl | exact Or.inr rfl) (Z.pe_callO O__common_period (by rfl) (hr.mono (by decide)) (Z.passE TK) (pa_cons (pv 0) (pa_cons (pv 1) pa_nil))))
      (pss_cons (ps_set (i := 3) sc_common_calendar.nd rfl (by first | exact Or.inl rfl | exact Or.inr rfl) (pe_callB (Z.zMax2 rfl) (by rfl) T.b_max (by decide +kernel) (pa_cons (pe_fld (pv 0) rfl) (pa_cons (pe_fld (pv 1) rfl) pa_nil))))
      (pss_one (ps_ret (Z.pe_callO O__calendar_of (by rfl) (hr.mono (by decide)) (Z.passE TK) (pa_cons (by exact (pe_lc (own := [("number", 4)]) (g := (gName 4)) (by rfl) sc_common_calendar.nd (pi_range1 (by rfl) T.b_range (pa_cons (pe_op Z.zAdd (pv 3) (pv 2)) pa_nil)) (blkOk_by (own := [("number", 4)]) (N := ["one", "other", "period", "before", "number"]) (sc := defScope s_common_calendar) (by decide +kernel)) (fun _ _ _ _ _ => (by exact (pg_name (i := 4) sc_common_calendar.nd rfl (by first | exact Or.inl rfl | exact Or.inr rfl)))) (fun _ _ _ _ _ => (by exact (pts_one (PW.pt (pw_and (pt_cmpR (show OpR _ _ (Z.rInOwn K c_Calendar (sp_Calendar___contains__ K c_Calendar)) from Z.op_inO O_Calendar___contains__ (hr.mono (by decide))) (pv 4) (pv 0) (by rfl)) (pw_and1 (pt_cmpR (show OpR _ _ (Z.rInOwn K c_Calendar (sp_Calendar___contains__ K c_Calendar)) from Z.op_inO O_Calendar___contains__ (hr.mono (by decide))) (pv 4) (pv 1) (by rfl)))))))) (fun _ _ _ _ _ => (by exact (pv 4))))) (pa_cons (pv 3) (pa_cons (pv 2) pa_nil)))))))), ?_⟩
    try dsimp only [cxOf, Cx.nox, Cx.wish]
    refine Z.at_start (σ' := [some a, some b, none, none, none]) rfl ?_
    obtain ⟨L, y, z, b1, m, b', m', ls, ks, ls', ks', f', g', rfl, rfl, F, ca, cb, P, P', kE, kQ⟩ := h
    have hcl := T.i_Calendar.cl
    obtain ⟨b0, b2, m1, m5, o1, o2⟩ := P.facts
    obtain ⟨c0, c2, q1, q5, u1, u2⟩ := P'.facts
    have lp := lcmZ_pos m1 q1
    obtain ⟨dx, pl, pr, d1, d2, k1, k2, n1, _⟩ := id ca
    obtain ⟨dx', pl', pr', d1', d2', k1', k2', n1', _⟩ := id cb
    walk_at "z"
    refine use__common_period F ca cb m1 m5 q1 q5 kE fun hle => ?_
    generalize hp : lcmZ m m' = p at hle lp kE kQ
    walk_at "z"
    refine Z.wFldAt F n1 hcl T.n_Calendar_before (cal_before _ _ _ _ _ _) ?_
    walk_at "z"
    refine Z.wFldAt F n1' hcl T.n_Calendar_before (cal_before _ _ _ _ _ _) ?_
    walk_at "z"
    obtain ⟨st, hst, s0, s1, s2, s3⟩ : ∃ st, (if b' > b1 then b' else b1) = st ∧ 0 ≤ st ∧ b1 ≤ st ∧ b' ≤ st ∧ st ≤ 20000 := ⟨_, rfl, by split <;> omega, by split <;> omega, by split <;> omega, by split <;> omega⟩
    rw [hst]
    refine Z.wLcW walk_range F (fun i acc L' => L' = L ∧ acc = (served (fun t => f' t && g' t) i).map V.int) ⟨rfl, rfl⟩ (fun _ _ _ _ _ _ _ => trivial) ?_ ?_
    · rintro i x D H2 H3 acc L' hi ⟨rfl, rfl⟩ F2 ⟨rfl, rfl⟩
      have hlen : ((served (fun t => f' t && g' t) i).map V.int).length < sizeLine := by
        have := served_len (fun t => f' t && g' t) i
        have := Z.line_big
        rw [List.length_map]
        omega
      have z0 : 0 ≤ (i : Int) := by omega
      dsimp only
      rw [Int.zero_add]
      have stp : ∀ v, (f' i && g' i) = v → served (fun t => f' t && g' t) (i + 1) = served (fun t => f' t && g' t) i ++ if v = true then [(i : Int)] else [] := fun v e => by subst e; rfl
      walk_at "zw"
      walk_at "z"
      refine ⟨rfl, ?_⟩
      walk_at "z"
      refine in_cal F2 (ca.le (.cons _ (.refl _))) (.int _) m1 m5 ?_
      rw [show calInV b1 m ls ks (.int (i : Int)) = f' i by rw [← P.ans z0]; simp [calInV, z0]]
      cases hf : f' i with
      | false =>
        walk_at "z"
        exact ⟨_, _, F2, rfl, by rw [stp false (by simp [hf]), if_neg (by decide), List.append_nil]⟩
      | true =>
        walk_at "z"
        refine in_cal F2 (cb.le (.cons _ (.refl _))) (.int _) q1 q5 ?_
        rw [show calInV b' m' ls' ks' (.int (i : Int)) = g' i by rw [← P'.ans z0]; simp [calInV, z0]]
        cases hg : g' i with
        | true =>
          walk_at "z"
          exact Z.lcPut F2 hlen ⟨rfl, by rw [stp true (by simp [hf, hg]), if_pos rfl, List.map_append]; rfl⟩
        | false =>
          walk_at "z"
          exact ⟨_, _, F2, rfl, by rw [stp false (by simp [hf, hg]), if_neg (by decide), List.append_nil]⟩
    rintro D acc L' H2 F2 ⟨rfl, rfl⟩
    walk_at "z"
    refine use__calendar_of (ns := served (fun t => f' t && g' t) (st + p).toNat) F2 (.head _) (by have := served_below (fun t => f' t && g' t) (st + p).toNat; rwa [Int.toNat_of_nonneg (by omega)] at this) s0 s3 lp hle fun rs bm mm l' k' hr pl y L1 H' s ca' F' => ?_
    refine kQ hle bm mm l' k' ⟨st, p, _, rs, s0, s3, lp, hle, ?_, hr.1, pl, fun t t0 => ?_⟩ y L1 H' ((List.Sublist.cons _ (.refl _)).trans s) ca' F'
    · exact ⟨(served_below _ _).1.filter _, fun l hl => by
        have e := List.mem_filter.mp hl
        exact ⟨((served_below _ _).2 l e.1).1, of_decide_eq_true e.2⟩⟩
    · refine served_cal (fun t => f' t && g' t) s0 lp hr ?_ t t0
      have r1 := lcm_round s1 m1 q1 P hp
      have r2 := lcm_round s2 q1 m1 P' ((lcmZ_comm _ _).trans hp)
      intro t ht
      have a := r1 t ht
      have b := r2 t ht
      try dsimp only
      rw [a, b]
theorem ok_common_calendar (T : Txt K mg c_BadCalendar c_BadLength c_Calendar) : Z.Ok (L2.CX P w) P w K mg base "common_calendar" 7 ["one", "other"] [] (sp_common_calendar K c_Calendar c_BadCalendar) := by
  obtain ⟨f, fd, F, g⟩ := T.d_common_calendar
  exact Z.mkOk F g (F.binds (ps := ["one", "other"]) fun _ _ _ _ _ _ us hl => match us, hl with | [_, _], _ => rfl) (fn_common_calendar T F)
theorem use_common_calendar {cC cB : Addr} {H : Hp} {Q : VK} {E : XK} {L : List Z.En} {y z : Addr} {b m b' m' : Int} {ls ks ls' ks' : List Int} {f g : Int → Bool} (F : Z.Fx H L) (ca : CalAt cC L y b m ls ks) (cb : CalAt cC L z b' m' ls' ks') (P : IsPlain f b m ls ks) (P' : IsPlain g b' m' ls' ks')
  (kE : 5000 < lcmZ m m' → ∀ e H', Z.Fx H' (.ob e (.xd [("what", .str ("period" : Str))]) :: L) → E (.ref cB) (some e) H')
  (kQ : lcmZ m m' ≤ 5000 → ∀ bm mm l' k', IsPlain (fun t => f t && g t) bm mm l' k' → ∀ y L1 H', L.Sublist L1 → CalAt cC L1 y bm mm l' k' → Z.Fx H' L1 → Q (.ref y) H') : sp_common_calendar K cC cB [.ref y, .ref z] H Q E := ⟨_, _, rfl, L, y, z, b, m, b', m', ls, ks, ls', ks', f, g, rfl, rfl, F, ca, cb, P, P', kE, kQ⟩
theorem sc__law_put : FnScope ["_law_one", "_law_other", "_law_wanted", "e"] ["_law_one", "_law_other", "_law_wanted"] (defScope s__law_put) := ⟨rfl, rfl, rfl, by decide +kernel, rfl, by decide +kernel, by decide +kernel⟩
theorem want_one (f g : Int → Bool) (z : Int) : wantI 1 f g z = (f z || g z) := by unfold wantI; cases f z <;> cases g z <;> rfl
theorem want_both (f g : Int → Bool) (z : Int) : wantI 2 f g z = (f z && g z) := by unfold wantI; cases f z <;> cases g z <;> rfl
def sp__law_put (K : PySem.W.Frag) (cC : Addr) : Sp := Z.Sp3 fun a b c H Q E => ∃ (L : List Z.En) (y z : Addr) (k : Int) (b1 m b2 m' : Int) (ls ks ls' ks' : List Int) (f g : Int → Bool), a = .ref y ∧ b = .ref z ∧ c = .int k ∧ (k = 1 ∨ k = 2) ∧ Z.Fx H L ∧ CalAt cC L y b1 m ls ks ∧ CalAt cC L z b2 m' ls' ks' ∧ IsPlain f b1 m ls ks ∧ IsPlain g b2 m' ls' ks' ∧
  (5000 < lcmZ m m' → ∀ H', Z.Fx H' L → Q (.str ("period" : Str)) H') ∧ (lcmZ m m' ≤ 5000 → ∀ bm mm l' k', IsPlain (wantI k f g) bm mm l' k' → ∀ r L1 H', L.Sublist L1 → RowAt L1 r bm mm l' k' → Z.Fx H' L1 → Q (.ref r) H')
theorem fn__law_put (T : Txt K mg c_BadCalendar c_BadLength c_Calendar) {f : Addr} {fd : FuncData} (F : Fun K "_law_put" "_law_put" s__law_put f fd) : FnOk P w K mg base CX0 8 f fd ["_law_one", "_law_other", "_law_wanted"] (sp__law_put K c_Calendar) := by
  have O__law_row := ok__law_row (P := P) (w := w) (base := base) T
  have O_common_calendar := ok_common_calendar (P := P) (w := w) (base := base) T
  have O_joined_calendars := ok_joined_calendars (P := P) (w := w) (base := base) T
  refine F.ok sc__law_put (fun vs H Q E h => ?_) (fun cdv A outer s H vs Q E hr h => ?_)
  · obtain ⟨a, b, c, rfl, _⟩ := h; rfl
  · obtain ⟨a, b, c, rfl, h⟩ := h
    refine ⟨_, (pss_one (ps_try_as (i := 3) rfl rfl sc__law_put.nd rfl rfl ⟨rfl, by decide, Or.inl T.g_BadCalendar⟩ takes0 (fun W pn xe tk _ => (by exact (pss_one (ps_ret (Z.pe_callO O__law_row (by rfl) (hr.mono (by decide)) pass0 (pa_cons (pe_ifExp (pt_cmpR (show OpR _ _ (Z.rOr rEq (rEqD K)) from (Z.zEq (Z.hu0 hr))) (pv 2) pe_int (nomark _)) (Z.pe_callSO O_joined_calendars (by rfl) (hr.mono (by decide)) (fun σ => passAt tk σ) (pa_cons (pv 0) (pa_cons (pv 1) pa_nil))) (Z.pe_callSO O_common_calendar (by rfl) (hr.mono (by decide)) (fun σ => passAt tk σ) (pa_cons (pv 0) (pa_cons (pv 1) pa_nil)))) pa_nil))))))
        (fun a oe cls d pn hz hf => (by exact (pss_one (ps_ret (pe_xf T.x_BadCalendar.xf T.n_BadCalendar_what hz hf (pv 3)))))))), ?_⟩
    try dsimp only [cxOf, Cx.nox, Cx.wish]
    refine Z.at_start (σ' := [some a, some b, some c, none]) rfl ?_
    obtain ⟨L, y, z, k, b1, m, b2, m', ls, ks, ls', ks', f', g', rfl, rfl, rfl, hk, F, ca, cb, P, P', kE, kQ⟩ := h
    rcases hk with rfl | rfl
    · walk_at "z"
      refine use_joined_calendars F ca cb P P' (fun hl e H1 F1 => ?_) (fun hl bm mm l' k' PW y L1 H1 s ca' F1 => ?_)
      · refine Z.wAs_yes T.x_BadCalendar.me fun q hq => ?_
        simp only [List.set_cons_zero, List.set_cons_succ]
        walk_at "z"
        refine Z.wXf ?_
        walk_at "z"
        exact ⟨rfl, rfl, e, _, _, rfl, F1.get List.mem_cons_self, by simp [List.lookup], kE hl _ (F1.sub (by walk_at "zsub"))⟩
      · walk_at "z"
        obtain ⟨c0, c2, q1, q5, u1, u2⟩ := PW.facts
        have l1 := u1.len c0
        have l2 := u2.len (by omega)
        refine use__law_row F1 ca' (by omega) (by omega) fun r L2 H2 s2 ra F2 => ?_
        exact kQ hl bm mm l' k' (PW.congr fun z _ => (want_one f' g' z).symm) r L2 H2 (s.trans s2) ra F2
    · walk_at "z"
      refine use_common_calendar F ca cb P P' (fun hl e H1 F1 => ?_) (fun hl bm mm l' k' PW y L1 H1 s ca' F1 => ?_)
      · refine Z.wAs_yes T.x_BadCalendar.me fun q hq => ?_
        simp only [List.set_cons_zero, List.set_cons_succ]
        walk_at "z"
        refine Z.wXf ?_
        walk_at "z"
        exact ⟨rfl, rfl, e, _, _, rfl, F1.get List.mem_cons_self, by simp [List.lookup], kE hl _ (F1.sub (by walk_at "zsub"))⟩
      · walk_at "z"
        obtain ⟨c0, c2, q1, q5, u1, u2⟩ := PW.facts
        have l1 := u1.len c0
        have l2 := u2.len (by omega)
        refine use__law_row F1 ca' (by omega) (by omega) fun r L2 H2 s2 ra F2 => ?_
        exact kQ hl bm mm l' k' (PW.congr fun z _ => (want_both f' g' z).symm) r L2 H2 (s.trans s2) ra F2
theorem ok__law_put (T : Txt K mg c_BadCalendar c_BadLength c_Calendar) : Z.Ok CX0 P w K mg base "_law_put" 8 ["_law_one", "_law_other", "_law_wanted"] [] (sp__law_put K c_Calendar) := by
  obtain ⟨f, fd, F, g⟩ := T.d__law_put
  exact Z.mkOk F g (F.binds (ps := ["_law_one", "_law_other", "_law_wanted"]) fun _ _ _ _ _ _ us hl => match us, hl with | [_, _, _], _ => rfl) (fn__law_put T F)
theorem use__law_put {cC : Addr} {H : Hp} {Q : VK} {E : XK} {L : List Z.En} {y z : Addr} {k : Int} {b1 m b2 m' : Int} {ls ks ls' ks' : List Int} {f g : Int → Bool} (hk : k = 1 ∨ k = 2) (F : Z.Fx H L) (ca : CalAt cC L y b1 m ls ks) (cb : CalAt cC L z b2 m' ls' ks') (P : IsPlain f b1 m ls ks) (P' : IsPlain g b2 m' ls' ks')
  (kE : 5000 < lcmZ m m' → ∀ H', Z.Fx H' L → Q (.str ("period" : Str)) H') (kQ : lcmZ m m' ≤ 5000 → ∀ bm mm l' k', IsPlain (wantI k f g) bm mm l' k' → ∀ r L1 H', L.Sublist L1 → RowAt L1 r bm mm l' k' → Z.Fx H' L1 → Q (.ref r) H') : sp__law_put K cC [.ref y, .ref z, .int k] H Q E :=
  ⟨_, _, _, rfl, L, y, z, k, b1, m, b2, m', ls, ks, ls', ks', f, g, rfl, rfl, rfl, hk, F, ca, cb, P, P', kE, kQ⟩
theorem sc_Calendar___eq__ : FnScope ["self", "other"] ["self", "other"] (defScope s_Calendar___eq__) := ⟨rfl, rfl, rfl, by decide +kernel, rfl, by decide +kernel, by decide +kernel⟩
/-- whether two calendars are told alike -/
def calEq (b m : Int) (ls ks : List Int) (b' m' : Int) (ls' ks' : List Int) : Bool := decide (b = b') && (decide (ls = ls') && (decide (m = m') && decide (ks = ks')))
def sp_Calendar___eq__ (K : PySem.W.Frag) (cC : Addr) : Sp := Z.Sp2 fun a c H Q E => ∃ (L : List Z.En) (y : Addr) (b m : Int) (ls ks : List Int), a = .ref y ∧ Z.Fx H L ∧ CalAt cC L y b m ls ks ∧
  ((∃ y' b' m' ls' ks', c = .ref y' ∧ CalAt cC L y' b' m' ls' ks' ∧ Q (.bl (calEq b m ls ks b' m' ls' ks')) H) ∨ ∃ p xs, c = .ref p ∧ Z.En.ob p (.tup xs) ∈ L ∧ Q (.bl false) H)
theorem fn_Calendar___eq__ (T : Txt K mg c_BadCalendar c_BadLength c_Calendar) {f : Addr} {fd : FuncData} (F : Fun K "__eq__" "Calendar.__eq__" s_Calendar___eq__ f fd) : FnOk P w K mg base CX0 1 f fd ["self", "other"] (sp_Calendar___eq__ K c_Calendar) := by
  refine F.ok sc_Calendar___eq__ (fun vs H Q E h => ?_) (fun cdv A outer s H vs Q E hr h => ?_)
  · obtain ⟨a, b, rfl, _⟩ := h; rfl
  · obtain ⟨a, b, rfl, h⟩ := h
    refine ⟨_, (pss_one (ps_ret (pe_andT (pe_callB Z.zIsi (by rfl) T.b_isinstance (by decide +kernel) (pa_cons (pv 1) (pa_cons (pe_glob (v := V.ref c_Calendar) (by rfl) T.g_Calendar (show RelV (V.ref _) _ from rfl)) pa_nil))) (pe_andT (pe_cmpR (Z.zEq (Z.hu0 hr)) (pe_fld (pv 0) rfl) (pe_fld (pv 1) rfl) (nomark _)) (pe_andT (pe_cmpR (Z.zEq (Z.hu0 hr)) (pe_fld (pv 0) rfl) (pe_fld (pv 1) rfl) (nomark _)) (pe_andT (pe_cmpR (Z.zEq (Z.hu0 hr)) (pe_fld (pv 0) rfl) (pe_fld (pv 1) rfl) (nomark _)) (pe_one (pe_cmpR (Z.zEq (Z.hu0 hr)) (pe_fld (pv 0) rfl) (pe_fld (pv 1) rfl) (nomark _))))))))), ?_⟩
    try dsimp only [cxOf, Cx.nox, Cx.wish]
    refine Z.at_start (σ' := [some a, some b]) rfl ?_
    obtain ⟨L, y, b, m, ls, ks, rfl, F, ⟨dx, pl, pr, d1, d2, k1, k2, m1, m2, m3, m4, a1, m5, a2⟩, h⟩ := h
    have hcl := T.i_Calendar.cl
    rcases h with ⟨y', b', m', ls', ks', rfl, ⟨dx', pl', pr', d1', d2', k1', k2', n1, n2, n3, n4, a1', n5, a2'⟩, q⟩ | ⟨p, xs, rfl, mp, q⟩
    · walk_at "z"
      refine Z.wIsiOwn T.i_Calendar (F.get n1) ?_
      walk_at "z"
      refine Z.wFldAt F m1 hcl T.n_Calendar_before (cal_before _ _ _ _ _ _) ?_
      walk_at "z"
      refine Z.wFldAt F n1 hcl T.n_Calendar_before (cal_before _ _ _ _ _ _) ?_
      walk_at "z"
      unfold calEq at q
      refine Z.wIf (fun h1 => ?_) (fun h1 => ?_)
      · rw [h1, Bool.true_and] at q
        walk_at "z"
        refine Z.wFldAt F m1 hcl T.n_Calendar_lengths (cal_lengths _ _ _ _ _ _) ?_
        walk_at "z"
        refine Z.wFldAt F n1 hcl T.n_Calendar_lengths (cal_lengths _ _ _ _ _ _) ?_
        refine Z.wEqTT (F.tup m2) (F.tup n2) ?_
        walk_at "z"
        refine Z.wIf (fun h2 => ?_) (fun h2 => ?_)
        · rw [h2, Bool.true_and] at q
          walk_at "z"
          refine Z.wFldAt F m1 hcl T.n_Calendar_period (cal_period _ _ _ _ _ _) ?_
          walk_at "z"
          refine Z.wFldAt F n1 hcl T.n_Calendar_period (cal_period _ _ _ _ _ _) ?_
          walk_at "z"
          refine Z.wIf (fun h3 => ?_) (fun h3 => ?_)
          · rw [h3, Bool.true_and] at q
            walk_at "z"
            refine Z.wFldAt F m1 hcl T.n_Calendar_rests (cal_rests _ _ _ _ _ _) ?_
            walk_at "z"
            refine Z.wFldAt F n1 hcl T.n_Calendar_rests (cal_rests _ _ _ _ _ _) ?_
            refine Z.wEqTT (F.tup m3) (F.tup n3) ?_
            exact q
          · rw [h3, Bool.false_and] at q
            rw [h3]
            exact q
        · rw [h2, Bool.false_and] at q
          rw [h2]
          exact q
      · rw [h1, Bool.false_and] at q
        rw [h1]
        exact q
    · walk_at "z"
      refine Z.wIsiTupOwn T.i_Calendar (F.tup mp) ?_
      walk_at "z"
      exact q
theorem ok_Calendar___eq__ (T : Txt K mg c_BadCalendar c_BadLength c_Calendar) : Z.EqO P w K mg base c_Calendar 1 ["self", "other"] (sp_Calendar___eq__ K c_Calendar) := by
  obtain ⟨f, fd, F, i⟩ := T.d_Calendar___eq__
  exact ⟨f, fd, i, (F.binds (ps := ["self", "other"]) fun _ _ _ _ _ _ us hl => match us, hl with | [_, _], _ => rfl), fn_Calendar___eq__ T F⟩
theorem eq_cal {cC : Addr} {H : Hp} {L : List Z.En} {x y : Addr} {b m b' m' : Int} {ls ks ls' ks' : List Int} {g : Bool → Bool} {QB : V → Hp → Prop} (c : Z.InsF K cC) (F : Z.Fx H L) (ca : CalAt cC L x b m ls ks) (cb : CalAt cC L y b' m' ls' ks') (h : QB (.bl (g (calEq b m ls ks b' m' ls' ks'))) H) : Z.rOwn K cC (sp_Calendar___eq__ K cC) g (.ref x) (.ref y) H QB := by
  obtain ⟨dx, pl, pr, d1, d2, k1, k2, m1, _⟩ := id ca
  obtain ⟨dx', pl', pr', d1', d2', k1', k2', n1, _⟩ := id cb
  exact ⟨x, dx, _, .ref cC, rfl, F.get m1, c.ty (F.get n1), c.nf, _, _, rfl, L, x, b, m, ls, ks, rfl, F, ca, .inl ⟨y, b', m', ls', ks', rfl, cb, _, rfl, h⟩⟩
theorem eq_calT {cC : Addr} {H : Hp} {L : List Z.En} {x p : Addr} {b m : Int} {ls ks : List Int} {xs : List V} {g : Bool → Bool} {QB : V → Hp → Prop} (c : Z.InsF K cC) (F : Z.Fx H L) (ca : CalAt cC L x b m ls ks) (mp : Z.En.ob p (.tup xs) ∈ L) (h : QB (.bl (g false)) H) : Z.rOwn K cC (sp_Calendar___eq__ K cC) g (.ref x) (.ref p) H QB := by
  obtain ⟨dx, pl, pr, d1, d2, k1, k2, m1, _⟩ := id ca
  exact ⟨x, dx, _, .type "tuple", rfl, F.get m1, (Z.HasK.tup (F.tup mp)).tyx, c.nft, _, _, rfl, L, x, b, m, ls, ks, rfl, F, ca, .inr ⟨p, xs, rfl, mp, _, rfl, h⟩⟩
theorem CalAt.skip {cC : Addr} {L : List Z.En} {y a : Addr} {b m : Int} {ls ks : List Int} {xs : List V} (h : CalAt cC (.ob a (.lst xs) :: L) y b m ls ks) : CalAt cC L y b m ls ks :=
  let ⟨dx, pl, pr, d1, d2, k1, k2, m1, m2, m3, m4, a1, m5, a2⟩ := h; ⟨dx, pl, pr, d1, d2, k1, k2, Z.mem_skip m1 nofun, Z.mem_skip m2 nofun, Z.mem_skip m3 nofun, Z.mem_skip m4 nofun, a1, Z.mem_skip m5 nofun, a2⟩
theorem CalAt.mem {cC : Addr} {L L2 : List Z.En} {y : Addr} {b m : Int} {ls ks : List Int} (h : CalAt cC L y b m ls ks) (s : ∀ e ∈ L, e ∈ L2) : CalAt cC L2 y b m ls ks :=
  let ⟨dx, pl, pr, d1, d2, k1, k2, m1, m2, m3, m4, a1, m5, a2⟩ := h; ⟨dx, pl, pr, d1, d2, k1, k2, s _ m1, s _ m2, s _ m3, s _ m4, a1, s _ m5, a2⟩
theorem sc__law_hand : FnScope ["_law_script", "_law_state", "_law_cell"] ["_law_script"] (defScope s__law_hand) := ⟨rfl, rfl, rfl, by decide +kernel, rfl, by decide +kernel, by decide +kernel⟩
def sp__law_hand (K : PySem.W.Frag) : Sp := Z.Sp1 fun a H Q E => ∃ (l : Addr) (ns : List Int), a = .ref l ∧ SqL K H l (ns.map V.int) ∧ ns.length ≤ 63 ∧ ∀ p c H', Z.Fx H' [.hand5 p c] → Q (.ref p) H'
theorem fn__law_hand (T : Txt K mg c_BadCalendar c_BadLength c_Calendar) {f : Addr} {fd : FuncData} (F : Fun K "_law_hand" "_law_hand" s__law_hand f fd) : FnOk P w K mg base CX0 1 f fd ["_law_script"] (sp__law_hand K) := by
  refine F.ok sc__law_hand (fun vs H Q E h => ?_) (fun cdv A outer s H vs Q E hr h => ?_)
  · obtain ⟨a, rfl, _⟩ := h; rfl
  · obtain ⟨a, rfl, h⟩ := h
    refine ⟨_, (pss_cons (ps_set (i := 1) sc__law_hand.nd rfl (by first | exact Or.inl rfl | exact Or.inr rfl) pe_int)
      (pss_cons (ps_for PassesOwn.never (by rfl) (Z.pi_seq (pv 0)) (pg_name (i := 2) sc__law_hand.nd rfl (by first | exact Or.inl rfl | exact Or.inr rfl))
        (pss_one (ps_set (i := 1) sc__law_hand.nd rfl (by first | exact Or.inl rfl | exact Or.inr rfl) (pe_op Z.zMod (pe_callTy Z.zInt (by rfl) T.b_int (by decide +kernel) (pa_cons (pe_op Z.zAdd (pe_op Z.zAdd (pe_op Z.zMul (pv 1) pe_int) (pe_op Z.zMul (pe_callTy Z.zInt (by rfl) T.b_int (by decide +kernel) (pa_cons (pv 2) pa_nil)) pe_int)) pe_int) pa_nil)) pe_int))))
      (pss_one (ps_ret (pe_lst (pa_cons (by exact (pe_lc (own := [("_law_cell", 2)]) (g := (gName 2)) (by rfl) sc__law_hand.nd (Z.pi_seq (pv 0)) (blkOk_by (own := [("_law_cell", 2)]) (N := ["_law_script", "_law_state", "_law_cell"]) (sc := defScope s__law_hand) (by decide +kernel)) (fun _ _ _ _ _ => (by exact (pg_name (i := 2) sc__law_hand.nd rfl (by first | exact Or.inl rfl | exact Or.inr rfl)))) (fun _ _ _ _ _ => (by exact pts_nil)) (fun _ _ _ _ _ => (by exact (pe_callTy Z.zInt (by rfl) T.b_int (by decide +kernel) (pa_cons (pv 2) pa_nil)))))) (pa_cons pe_int (pa_cons pe_int (pa_cons (pv 1) (pa_cons pe_int pa_nil)))))))))), ?_⟩
    try dsimp only [cxOf, Cx.nox, Cx.wish]
    refine Z.at_start (σ' := [some a, none, none]) rfl ?_
    obtain ⟨l, ns, rfl, hS, hl, k⟩ := h
    obtain ⟨L0, F, keep⟩ := Z.seq_keep hS [] Z.Fx.nil (by simp)
    walk_at "z"
    refine Z.wForW (walk_list (xs := ns.map V.int)) (fun i σ H2 => ∃ (t : Int) (v : Option V), σ = [some (.ref l), some (.int t), v] ∧ Z.Fx H2 (L0 ++ [])) ?_ ?_ ?_ ?_
    · exact ⟨_, _, rfl, F⟩
    · rintro i σ H2 _ ⟨t, v, rfl, F2⟩
      exact keep _ [] F2
    · rintro i x σ H2 H3 _ ⟨t, v, rfl, F2⟩ ⟨rfl, hi⟩
      obtain ⟨z, rfl⟩ := Z.int_of_map hi
      walk_at "zz"
      all_goals exact ⟨_, _, rfl, F2⟩
    · rintro σ H2 ⟨t, v, rfl, F2⟩
      walk_at "z"
      refine Z.wGoSL (keep _ [] F2) ?_
      refine Z.wLcW (walk_list (xs := ns.map V.int)) F2 (fun i acc L' => L' = L0 ++ [] ∧ ∃ cs : List Int, acc = cs.map V.int ∧ cs.length = i) ⟨rfl, [], rfl, rfl⟩ (fun i acc L' D H' r F' => keep _ [_] (by rw [r.1] at F'; exact F')) ?_ ?_
      · rintro i x D H4 H5 acc L' hi ⟨rfl, cs, rfl, hc⟩ F4 ⟨rfl, hx⟩
        obtain ⟨z, rfl⟩ := Z.int_of_map hx
        rw [List.length_map] at hi
        walk_at "zw"
        walk_at "z"
        refine ⟨rfl, ?_⟩
        walk_at "z"
        refine Z.lcPut F4 (by rw [List.length_map]; have := Z.line_big; omega) ⟨rfl, cs ++ [z], by rw [List.map_append]; rfl, by rw [List.length_append, hc]; rfl⟩
      rintro D acc L' H4 F4 ⟨rfl, cs, rfl, hc⟩
      walk_at "z"
      refine k _ D _ ?_
      rename_i p H3 F3
      have F5 := F3.sub (L' := [Z.En.ob p (.lst [.ref D, .int 0, .int 0, .int t, .int 0]), Z.En.ob D (.lst (cs.map V.int))]) (by simp)
      refine ⟨fun e he => ?_, F5.2⟩
      cases List.mem_singleton.mp he
      exact ⟨cs, 0, 0, t, 0, by omega, F5.get List.mem_cons_self, F5.get (List.mem_cons_of_mem _ List.mem_cons_self)⟩
theorem ok__law_hand (T : Txt K mg c_BadCalendar c_BadLength c_Calendar) : Z.Ok CX0 P w K mg base "_law_hand" 1 ["_law_script"] [] (sp__law_hand K) := by
  obtain ⟨f, fd, F, g⟩ := T.d__law_hand
  exact Z.mkOk F g (F.binds (ps := ["_law_script"]) fun _ _ _ _ _ _ us hl => match us, hl with | [_], _ => rfl) (fn__law_hand T F)
theorem use__law_hand {H : Hp} {Q : VK} {E : XK} {l : Addr} {ns : List Int} (hS : SqL K H l (ns.map V.int)) (hl : ns.length ≤ 63) (k : ∀ p c H', Z.Fx H' [.hand5 p c] → Q (.ref p) H') : sp__law_hand K [.ref l] H Q E := ⟨_, rfl, l, ns, rfl, hS, hl, k⟩
theorem sc__law_big : FnScope ["_law_hand_here", "_law_total", "_law_turn"] ["_law_hand_here"] (defScope s__law_big) := ⟨rfl, rfl, rfl, by decide +kernel, rfl, by decide +kernel, by decide +kernel⟩
def sp__law_big (K : PySem.W.Frag) : Sp := Z.Sp1 fun a H Q E => ∃ (L : List Z.En) (l c : Addr), a = .ref l ∧ Z.Fx H L ∧ Z.En.hand5 l c ∈ L ∧ ∀ (v : Int) H', 0 ≤ v → v ≤ 10 ^ 30 → Z.Fx H' L → Q (.int v) H'
theorem fn__law_big (T : Txt K mg c_BadCalendar c_BadLength c_Calendar) {f : Addr} {fd : FuncData} (F : Fun K "_law_big" "_law_big" s__law_big f fd) : FnOk P w K mg base CX0 2 f fd ["_law_hand_here"] (sp__law_big K) := by
  have O__law_draw := ok__law_draw (P := P) (w := w) (base := base) T
  refine F.ok sc__law_big (fun vs H Q E h => ?_) (fun cdv A outer s H vs Q E hr h => ?_)
  · obtain ⟨a, rfl, _⟩ := h; rfl
  · obtain ⟨a, rfl, h⟩ := h
    refine ⟨_, (pss_cons (ps_set (i := 1) sc__law_big.nd rfl (by first | exact Or.inl rfl | exact Or.inr rfl) pe_int)
      (pss_cons (ps_for PassesOwn.never (by rfl) (pi_range1 (by rfl) T.b_range (pa_cons pe_int pa_nil)) (pg_name (i := 2) sc__law_big.nd rfl (by first | exact Or.inl rfl | exact Or.inr rfl))
        (pss_one (ps_set (i := 1) sc__law_big.nd rfl (by first | exact Or.inl rfl | exact Or.inr rfl) (pe_op Z.zAdd (pe_op Z.zMul (pv 1) (pe_op Z.zPow pe_int pe_int)) (Z.pe_callO O__law_draw (by rfl) (hr.mono (by decide)) pass0 (pa_cons (pv 0) (pa_cons (pe_op Z.zPow pe_int pe_int) pa_nil)))))))
      (pss_one (ps_ret (pe_op Z.zMod (pe_callTy Z.zInt (by rfl) T.b_int (by decide +kernel) (pa_cons (pv 1) pa_nil)) (pe_op Z.zAdd (pe_op Z.zPow pe_int pe_int) pe_int)))))), ?_⟩
    try dsimp only [cxOf, Cx.nox, Cx.wish]
    refine Z.at_start (σ' := [some a, none, none]) rfl ?_
    obtain ⟨L, l, c, rfl, F, mh, k⟩ := h
    walk_at "z"
    refine Z.wForW walk_range (fun i σ H' => ∃ (t : Int) (v : Option V), σ = [some (.ref l), some (.int t), v] ∧ Z.Fx H' L ∧ 0 ≤ t ∧ t < 10 ^ (8 * i)) ?_ (fun _ _ _ _ _ => trivial) ?_ ?_
    · exact ⟨0, _, rfl, F, by omega, by decide⟩
    · rintro i x σ H3 H4 hi ⟨t, v, rfl, F3, t0, t1⟩ ⟨rfl, rfl⟩
      have hi' : i < 4 := by omega
      have tb : t < 10 ^ 32 := Int.lt_of_lt_of_le t1 (by
        rcases i with _ | _ | _ | _ | i <;> first | decide | omega)
      walk_at "z"
      rename_i dv H5 F5 d0 d1
      have e8 : (10 : Int) ^ Int.toNat 8 = 100000000 := by decide
      rw [e8] at d1 ⊢
      refine ⟨_, _, rfl, F5, by omega, ?_⟩
      rcases i with _ | _ | _ | _ | i
      · rw [show (10 : Int) ^ (8 * 0) = 1 from by decide] at t1
        rw [show (10 : Int) ^ (8 * (0 + 1)) = 100000000 from by decide]
        omega
      · rw [show (10 : Int) ^ (8 * (0 + 1)) = 100000000 from by decide] at t1
        rw [show (10 : Int) ^ (8 * (0 + 1 + 1)) = 10000000000000000 from by decide]
        omega
      · rw [show (10 : Int) ^ (8 * (0 + 1 + 1)) = 10000000000000000 from by decide] at t1
        rw [show (10 : Int) ^ (8 * (0 + 1 + 1 + 1)) = 1000000000000000000000000 from by decide]
        omega
      · rw [show (10 : Int) ^ (8 * (0 + 1 + 1 + 1)) = 1000000000000000000000000 from by decide] at t1
        rw [show (10 : Int) ^ (8 * (0 + 1 + 1 + 1 + 1)) = 100000000000000000000000000000000 from by decide]
        omega
      · omega
    · rintro σ H3 ⟨t, v, rfl, F3, t0, t1⟩
      walk_at "z"
      exact k _ _ (Int.emod_nonneg _ (by decide)) (Int.le_of_lt_add_one (Int.emod_lt_of_pos t (show (0 : Int) < 10 ^ Int.toNat 30 + 1 by decide))) F3
theorem ok__law_big (T : Txt K mg c_BadCalendar c_BadLength c_Calendar) : Z.Ok CX0 P w K mg base "_law_big" 2 ["_law_hand_here"] [] (sp__law_big K) := by
  obtain ⟨f, fd, F, g⟩ := T.d__law_big
  exact Z.mkOk F g (F.binds (ps := ["_law_hand_here"]) fun _ _ _ _ _ _ us hl => match us, hl with | [_], _ => rfl) (fn__law_big T F)
theorem use__law_big {H : Hp} {Q : VK} {E : XK} {L : List Z.En} {l c : Addr} (F : Z.Fx H L) (hm : Z.En.hand5 l c ∈ L) (k : ∀ (v : Int) H', 0 ≤ v → v ≤ 10 ^ 30 → Z.Fx H' L → Q (.int v) H') : sp__law_big K [.ref l] H Q E := ⟨_, rfl, L, l, c, rfl, F, hm, k⟩
local macro_rules | `(tactic| walk_at "zc") => `(tactic| ((with_reducible refine' use__law_big ?zf ?zm ?_); (case zf => walk_at "zF"); (case zm => walk_at "zm"); with_reducible intro _ _ _ _ _))
theorem sc_first_difference : FnScope ["one", "other", "many", "number"] ["one", "other"] (defScope s_first_difference) := ⟨rfl, rfl, rfl, by decide +kernel, rfl, by decide +kernel, by decide +kernel⟩
def sp_first_difference (K : PySem.W.Frag) (cC : Addr) : Sp := Z.Sp2 fun a c H Q E => ∃ (L : List Z.En) (y z : Addr) (b m b' m' : Int) (ls ks ls' ks' : List Int) (f g : Int → Bool), a = .ref y ∧ c = .ref z ∧ Z.Fx H L ∧ CalAt cC L y b m ls ks ∧ CalAt cC L z b' m' ls' ks' ∧ IsPlain f b m ls ks ∧ IsPlain g b' m' ls' ks' ∧
  ∀ o, IsFirst (fun t => !(f t == g t)) 0 o → Q (ofO o) H
theorem ne_round {f g : Int → Bool} {b m b' m' : Int} {ls ks ls' ks' : List Int} {st : Int} (P : IsPlain f b m ls ks) (P' : IsPlain g b' m' ls' ks') (s1 : b ≤ st) (s2 : b' ≤ st) (h : ∀ j, 0 ≤ j → j < st + m + m' → f j = g j) (j : Int) (j0 : 0 ≤ j) : f j = g j := by
  obtain ⟨b0, b2, m1, m5, o1, o2⟩ := P.facts
  obtain ⟨c0, c2, q1, q5, u1, u2⟩ := P'.facts
  by_cases hj : j < st
  · exact h j j0 (by omega)
  · have := rounds_agree (f := calIn b m ls ks) (g := calIn b' m' ls' ks') (s := st) m1 q1 (fun z hz => cal_round (by omega) z (by omega)) (fun z hz => cal_round (by omega) z (by omega)) (fun z z0 z1 => by rw [P.ans (by omega), P'.ans (by omega)]; exact h z (by omega) z1) j (by omega)
    rwa [P.ans j0, P'.ans j0] at this
theorem fn_first_difference (T : Txt K mg c_BadCalendar c_BadLength c_Calendar) {f : Addr} {fd : FuncData} (F : Fun K "first_difference" "first_difference" s_first_difference f fd) : FnOk P w K mg base CX0 4 f fd ["one", "other"] (sp_first_difference K c_Calendar) := by
  have O_Calendar___contains__ := ok_Calendar___contains__ (P := P) (w := w) (base := base) T
  refine F.ok sc_first_difference (fun vs H Q E h => ?_) (fun cdv A outer s H vs Q E hr h => ?_)
  · obtain ⟨a, b, rfl, _⟩ := h; rfl
  · obtain ⟨a, b, rfl, h⟩ := h
    refine ⟨_, (pss_cons (ps_set (i := 2) sc_first_difference.nd rfl (by first | exact Or.inl rfl | exact Or.inr rfl) (pe_op Z.zAdd (pe_op Z.zAdd (pe_callB (Z.zMax2 rfl) (by rfl) T.b_max (by decide +kernel) (pa_cons (pe_fld (pv 0) rfl) (pa_cons (pe_fld (pv 1) rfl) pa_nil))) (pe_fld (pv 0) rfl)) (pe_fld (pv 1) rfl)))
      (pss_cons (ps_for PassesOwn.never (by rfl) (pi_range1 (by rfl) T.b_range (pa_cons (pv 2) pa_nil)) (pg_name (i := 3) sc_first_difference.nd rfl (by first | exact Or.inl rfl | exact Or.inr rfl))
        (pss_one (ps_if (pt_cmpR (Z.zNe (Z.hu0 hr)) (pe_cmpR (show OpR _ _ (Z.rInOwn K c_Calendar (sp_Calendar___contains__ K c_Calendar)) from Z.op_inO O_Calendar___contains__ (hr.mono (by decide))) (pv 3) (pv 0) (by rfl)) (pe_cmpR (show OpR _ _ (Z.rInOwn K c_Calendar (sp_Calendar___contains__ K c_Calendar)) from Z.op_inO O_Calendar___contains__ (hr.mono (by decide))) (pv 3) (pv 1) (by rfl)) (nomark _))
          (pss_one (ps_ret (pv 3)))
          pss_nil)))
      (pss_one (ps_ret pe_non)))), ?_⟩
    try dsimp only [cxOf, Cx.nox, Cx.wish]
    refine Z.at_start (σ' := [some a, some b, none, none]) rfl ?_
    obtain ⟨L, y, z, b1, m, b', m', ls, ks, ls', ks', f', g', rfl, rfl, F, ca, cb, P, P', kQ⟩ := h
    have hcl := T.i_Calendar.cl
    obtain ⟨b0, b2, m1, m5, o1, o2⟩ := P.facts
    obtain ⟨c0, c2, q1, q5, u1, u2⟩ := P'.facts
    obtain ⟨dx, pl, pr, d1, d2, k1, k2, n1, _⟩ := id ca
    obtain ⟨dx', pl', pr', d1', d2', k1', k2', n1', _⟩ := id cb
    walk_at "z"
    refine Z.wFldAt F n1 hcl T.n_Calendar_before (cal_before _ _ _ _ _ _) ?_
    walk_at "z"
    refine Z.wFldAt F n1' hcl T.n_Calendar_before (cal_before _ _ _ _ _ _) ?_
    walk_at "z"
    obtain ⟨st, hst, s0, s1, s2, s3⟩ : ∃ st, (if b' > b1 then b' else b1) = st ∧ 0 ≤ st ∧ b1 ≤ st ∧ b' ≤ st ∧ st ≤ 20000 := ⟨_, rfl, by split <;> omega, by split <;> omega, by split <;> omega, by split <;> omega⟩
    rw [hst]
    refine Z.wFldAt F n1 hcl T.n_Calendar_period (cal_period _ _ _ _ _ _) ?_
    walk_at "z"
    refine Z.wFldAt F n1' hcl T.n_Calendar_period (cal_period _ _ _ _ _ _) ?_
    walk_at "z"
    refine Z.wForW walk_range (fun i σ H' => ∃ v3, σ = [some (.ref y), some (.ref z), some (.int (st + m + m')), v3] ∧ H' = H ∧ ∀ j : Int, 0 ≤ j → j < i → f' j = g' j) ⟨_, rfl, rfl, fun j h1 h2 => by omega⟩ (fun _ _ _ _ _ => trivial) ?_ ?_
    · rintro i x σ H1 H2 hi ⟨v3, rfl, rfl, hag⟩ ⟨rfl, rfl⟩
      have z0 : 0 ≤ (i : Int) := by omega
      dsimp only
      rw [Int.zero_add]
      walk_at "z"
      refine in_cal F ca (.int _) m1 m5 ?_
      rw [show calInV b1 m ls ks (.int (i : Int)) = f' i by rw [← P.ans z0]; simp [calInV, z0]]
      walk_at "z"
      refine in_cal F cb (.int _) q1 q5 ?_
      rw [show calInV b' m' ls' ks' (.int (i : Int)) = g' i by rw [← P'.ans z0]; simp [calInV, z0]]
      walk_at "z"
      refine Z.wIf (fun hb => ?_) (fun hb => ?_)
      · walk_at "z"
        exact kQ (some i) ⟨z0, hb, fun j j0 j1 => by show (!(f' j == g' j)) = false; rw [hag j j0 j1]; simp⟩
      · walk_at "z"
        refine ⟨_, rfl, rfl, fun j j0 j1 => ?_⟩
        by_cases e : j = i
        · subst e
          simpa using hb
        · exact hag j j0 (by omega)
    · rintro σ H1 ⟨v3, rfl, rfl, hag⟩
      walk_at "z"
      refine kQ none fun j j0 => ?_
      show (!(f' j == g' j)) = false
      rw [ne_round P P' s1 s2 (fun j a b => hag j a (by omega)) j j0]
      simp
theorem ok_first_difference (T : Txt K mg c_BadCalendar c_BadLength c_Calendar) : Z.Ok CX0 P w K mg base "first_difference" 4 ["one", "other"] [] (sp_first_difference K c_Calendar) := by
  obtain ⟨f, fd, F, g⟩ := T.d_first_difference
  exact Z.mkOk F g (F.binds (ps := ["one", "other"]) fun _ _ _ _ _ _ us hl => match us, hl with | [_, _], _ => rfl) (fn_first_difference T F)
theorem use_first_difference {cC : Addr} {H : Hp} {Q : VK} {E : XK} {L : List Z.En} {y z : Addr} {b m b' m' : Int} {ls ks ls' ks' : List Int} {f g : Int → Bool} (F : Z.Fx H L) (ca : CalAt cC L y b m ls ks) (cb : CalAt cC L z b' m' ls' ks') (P : IsPlain f b m ls ks) (P' : IsPlain g b' m' ls' ks')
  (kQ : ∀ o, IsFirst (fun t => !(f t == g t)) 0 o → Q (ofO o) H) : sp_first_difference K cC [.ref y, .ref z] H Q E := ⟨_, _, rfl, L, y, z, b, m, b', m', ls, ks, ls', ks', f, g, rfl, rfl, F, ca, cb, P, P', kQ⟩
theorem sc__law_difference : FnScope ["_law_one", "_law_other", "_law_number"] ["_law_one", "_law_other"] (defScope s__law_difference) := ⟨rfl, rfl, rfl, by decide +kernel, rfl, by decide +kernel, by decide +kernel⟩
def rowD (b m : Int) (ls ks : List Int) : PyData := .tuple [.int b, .tuple (Z.iD ls), .int m, .tuple (Z.iD ks)]
theorem RowAt.dt {L : List Z.En} {a : Addr} {b m : Int} {ls ks : List Int} (h : RowAt L a b m ls ks) : Z.Dt L (.ref a) (rowD b m ls ks) := let ⟨_, _, h1, h2, h3⟩ := h; .tup h1 (.cons (.int _) (.cons (.tupI h2) (.cons (.int _) (.cons (.tupI h3) .nil))))
theorem rowD_ok (b m : Int) (ls ks : List Int) : SeqAt.shaped (rowD b m ls ks) = true := (Z.Sh.tup (.cons (.int _) (.cons (.tup (.ints _)) (.cons (.int _) (.cons (.tup (.ints _)) .nil))))).ok
theorem rowD_eq {b m b' m' : Int} {ls ks ls' ks' : List Int} (h : PyData.eqv (rowD b m ls ks) (rowD b' m' ls' ks') = true) : b = b' ∧ m = m' ∧ ls = ls' ∧ ks = ks' := by
  have h : ((b == b') && (PyData.eqvAll (Z.iD ls) (Z.iD ls') && ((m == m') && (PyData.eqvAll (Z.iD ks) (Z.iD ks') && true)))) = true := h
  rw [Z.eqvAll_ints, Z.eqvAll_ints] at h
  simp only [Bool.and_eq_true, decide_eq_true_eq, beq_iff_eq, and_true] at h
  exact ⟨h.1, h.2.2.1, h.2.1, h.2.2.2⟩
def sp__law_difference (K : PySem.W.Frag) : Sp := Z.Sp2 fun a b H Q E => ∃ (L : List Z.En) (x x' : Addr) (e w e' w' : List Bool), a = .ref x ∧ b = .ref x' ∧ Z.Fx H L ∧ WorldAt L x e w ∧ WOk e w ∧ WorldAt L x' e' w' ∧ WOk e' w' ∧ ∀ o, IsFirst (fun t => !(yesI e w t == yesI e' w' t)) 0 o → ∀ H', Z.Fx H' L → Q (ofO o) H'
theorem fn__law_difference (T : Txt K mg c_BadCalendar c_BadLength c_Calendar) {f : Addr} {fd : FuncData} (F : Fun K "_law_difference" "_law_difference" s__law_difference f fd) : FnOk P w K mg base CX0 3 f fd ["_law_one", "_law_other"] (sp__law_difference K) := by
  have O__law_plain := ok__law_plain (P := P) (w := w) (base := base) T
  have O__law_yes := ok__law_yes (P := P) (w := w) (base := base) T
  refine F.ok sc__law_difference (fun vs H Q E h => ?_) (fun cdv A outer s H vs Q E hr h => ?_)
  · obtain ⟨a, b, rfl, _⟩ := h; rfl
  · obtain ⟨a, b, rfl, h⟩ := h
    refine ⟨_, (pss_cons (ps_if (pt_cmpR (Z.zEq (Z.hu0 hr)) (Z.pe_callO O__law_plain (by rfl) (hr.mono (by decide)) pass0 (pa_cons (pv 0) pa_nil)) (Z.pe_callO O__law_plain (by rfl) (hr.mono (by decide)) pass0 (pa_cons (pv 1) pa_nil)) (nomark _))
        (pss_one (ps_ret pe_non))
        pss_nil)
      (pss_cons (ps_for PassesOwn.never (by rfl) (pi_range1 (by rfl) T.b_range (pa_cons (pe_op Z.zAdd (pe_op Z.zAdd (pe_callB (Z.zMax2 rfl) (by rfl) T.b_max (by decide +kernel) (pa_cons (pe_callB Z.zLen (by rfl) T.b_len (by decide +kernel) (pa_cons (pe_ix ix_seq (pv 0) pe_int (fun _ _ => rfl)) pa_nil)) (pa_cons (pe_callB Z.zLen (by rfl) T.b_len (by decide +kernel) (pa_cons (pe_ix ix_seq (pv 1) pe_int (fun _ _ => rfl)) pa_nil)) pa_nil))) (pe_callB Z.zLen (by rfl) T.b_len (by decide +kernel) (pa_cons (pe_ix ix_seq (pv 0) pe_int (fun _ _ => rfl)) pa_nil))) (pe_callB Z.zLen (by rfl) T.b_len (by decide +kernel) (pa_cons (pe_ix ix_seq (pv 1) pe_int (fun _ _ => rfl)) pa_nil))) pa_nil)) (pg_name (i := 2) sc__law_difference.nd rfl (by first | exact Or.inl rfl | exact Or.inr rfl))
        (pss_one (ps_if (pt_cmpR (Z.zNe (Z.hu0 hr)) (Z.pe_callO O__law_yes (by rfl) (hr.mono (by decide)) pass0 (pa_cons (pv 0) (pa_cons (pv 2) pa_nil))) (Z.pe_callO O__law_yes (by rfl) (hr.mono (by decide)) pass0 (pa_cons (pv 1) (pa_cons (pv 2) pa_nil))) (nomark _))
          (pss_one (ps_ret (pv 2)))
          pss_nil)))
      (pss_one (ps_ret pe_non)))), ?_⟩
    try dsimp only [cxOf, Cx.nox, Cx.wish]
    refine Z.at_start (σ' := [some a, some b, none]) rfl ?_
    obtain ⟨L, x, x', e, w, e', w', rfl, rfl, F, wa, wo, wa', wo', kQ⟩ := h
    obtain ⟨w0, w5, e2⟩ := id wo
    obtain ⟨w0', w5', e2'⟩ := id wo'
    obtain ⟨p, q, h1, h2, h3⟩ := id wa
    obtain ⟨p', q', h1', h2', h3'⟩ := id wa'
    walk_at "y"
    refine Z.wMidS (fun σ' H' => ∃ L3, σ' = [some (.ref x), some (.ref x'), none] ∧ L.Sublist L3 ∧ Z.Fx H' L3) (fun N hk => ?_) ?_
    · walk_at "z"
      refine use__law_plain F wa w0 (by omega) (by omega) fun a1 a2 a3 a4 PP r1 L1 H1 s1 ra F1 => ?_
      walk_at "z"
      refine use__law_plain F1 (wa'.le s1) w0' (by omega) (by omega) fun b1 b2 b3 b4 PP' r2 L2 H2 s2 rb F2 => ?_
      refine Z.wEqD F2 (ra.le s2).dt rb.dt (rowD_ok _ _ _ _) (rowD_ok _ _ _ _) ?_
      walk_at "z"
      refine Z.wIf (fun hb => ?_) (fun hb => ?_)
      · obtain ⟨rfl, rfl, rfl, rfl⟩ := rowD_eq hb
        walk_at "z"
        refine kQ none (fun j j0 => ?_) _ (F2.sub (s1.trans s2))
        have e1 := (plain_yes w0 (by omega) (by omega) PP).ans j0
        have e2 := (plain_yes w0' (by omega) (by omega) PP').ans j0
        show (!(yesI e w j == yesI e' w' j)) = false
        rw [← e1, ← e2]
        simp
      · walk_at "z"
        exact hk _ _ ⟨_, rfl, s1.trans s2, F2⟩
    rintro _ H3 ⟨L3, rfl, s3, F3⟩
    have g1 := s3.subset h1
    have g2 := s3.subset h2
    have g3 := s3.subset h3
    have g1' := s3.subset h1'
    have g2' := s3.subset h2'
    have g3' := s3.subset h3'
    walk_at "z"
    rw [List.length_map, List.length_map, List.length_map, List.length_map]
    obtain ⟨st, hst, j1, j2, j3⟩ : ∃ st : Int, (if (e'.length : Int) > e.length then (e'.length : Int) else e.length) = st ∧ (e.length : Int) ≤ st ∧ (e'.length : Int) ≤ st ∧ st ≤ 500 := ⟨_, rfl, by split <;> omega, by split <;> omega, by split <;> omega⟩
    rw [hst]
    refine Z.wForW walk_range (fun i σ H' => ∃ v2, σ = [some (.ref x), some (.ref x'), v2] ∧ H' = H3 ∧ ∀ j : Int, 0 ≤ j → j < i → yesI e w j = yesI e' w' j) ⟨_, rfl, rfl, fun j h1 h2 => by omega⟩ (fun _ _ _ _ _ => trivial) ?_ ?_
    · rintro i u σ H1 H2 hi ⟨v2, rfl, rfl, hag⟩ ⟨rfl, rfl⟩
      dsimp only
      rw [Int.zero_add]
      walk_at "z"
      refine use__law_yes F3 (wa.le s3) (by omega) w0 ?_
      walk_at "z"
      refine use__law_yes F3 (wa'.le s3) (by omega) w0' ?_
      walk_at "z"
      refine Z.wIf (fun hb => ?_) (fun hb => ?_)
      · walk_at "z"
        exact kQ (some i) ⟨by omega, hb, fun j j0 j1 => by show (!(yesI e w j == yesI e' w' j)) = false; rw [hag j j0 j1]; simp⟩ _ (F3.sub s3)
      · walk_at "z"
        refine ⟨_, rfl, rfl, fun j j0 j1 => ?_⟩
        by_cases e : j = i
        · subst e
          simpa using hb
        · exact hag j j0 (by omega)
    · rintro σ H1 ⟨v2, rfl, rfl, hag⟩
      walk_at "z"
      refine kQ none (fun j j0 => ?_) _ (F3.sub s3)
      show (!(yesI e w j == yesI e' w' j)) = false
      have key : yesI e w j = yesI e' w' j := by
        by_cases hj : j < st + w.length + w'.length
        · exact hag j j0 (by omega)
        · exact rounds_agree (s := st) (p := w.length) (q := w'.length) (by omega) (by omega) (fun z hz => yes_round st (by omega) (by omega) z hz) (fun z hz => yes_round st (by omega) (by omega) z hz) (fun z z0 z1 => hag z (by omega) (by omega)) j (by omega)
      rw [key]
      simp
theorem ok__law_difference (T : Txt K mg c_BadCalendar c_BadLength c_Calendar) : Z.Ok CX0 P w K mg base "_law_difference" 3 ["_law_one", "_law_other"] [] (sp__law_difference K) := by
  obtain ⟨f, fd, F, g⟩ := T.d__law_difference
  exact Z.mkOk F g (F.binds (ps := ["_law_one", "_law_other"]) fun _ _ _ _ _ _ us hl => match us, hl with | [_, _], _ => rfl) (fn__law_difference T F)
theorem use__law_difference {H : Hp} {Q : VK} {E : XK} {L : List Z.En} {x x' : Addr} {e w e' w' : List Bool} (F : Z.Fx H L) (wa : WorldAt L x e w) (wo : WOk e w) (wa' : WorldAt L x' e' w') (wo' : WOk e' w') (kQ : ∀ o, IsFirst (fun t => !(yesI e w t == yesI e' w' t)) 0 o → ∀ H', Z.Fx H' L → Q (ofO o) H') : sp__law_difference K [.ref x, .ref x'] H Q E := ⟨_, _, rfl, L, x, x', e, w, e', w', rfl, rfl, F, wa, wo, wa', wo', kQ⟩
theorem sc__law_refused : FnScope ["_law_calendar", "_law_number", "_law_refused_here", "_law_which"] ["_law_calendar", "_law_number"] (defScope s__law_refused) := ⟨rfl, rfl, rfl, by decide +kernel, rfl, by decide +kernel, by decide +kernel⟩
theorem far_is {z : Int} (z0 : 0 ≤ z) (z1 : z ≤ 1000000000000000000000000000000) : Z.inB (.int z) (.int 0) (.int (10 ^ Int.toNat 30)) = true := by
  simp only [Z.inB, Bool.and_eq_true, decide_eq_true_eq]
  have e : (10 : Int) ^ Int.toNat 30 = 1000000000000000000000000000000 := by decide
  rw [e]
  exact ⟨z0, z1⟩
def sp__law_refused (K : PySem.W.Frag) (cC : Addr) : Sp := Z.Sp2 fun a v H Q E => ∃ (L : List Z.En) (y : Addr) (b m : Int) (ls ks : List Int) (f : Int → Bool) (k : Z.Kd), a = .ref y ∧ Z.Fx H L ∧ CalAt cC L y b m ls ks ∧ IsPlain f b m ls ks ∧ Z.Thing L v k ∧ ∀ H', Z.Fx H' L → Q (.int (if Z.inB v (.int 0) (.int (10 ^ Int.toNat 30)) = true then 0 else 3)) H'
theorem fn__law_refused (T : Txt K mg c_BadCalendar c_BadLength c_Calendar) {f : Addr} {fd : FuncData} (F : Fun K "_law_refused" "_law_refused" s__law_refused f fd) : FnOk P w K mg base CX0 5 f fd ["_law_calendar", "_law_number"] (sp__law_refused K c_Calendar) := by
  have O_count_served := ok_count_served (P := P) (w := w) (base := base) T
  have O_first_served := ok_first_served (P := P) (w := w) (base := base) T
  have O_serves := ok_serves (P := P) (w := w) (base := base) T
  refine F.ok sc__law_refused (fun vs H Q E h => ?_) (fun cdv A outer s H vs Q E hr h => ?_)
  · obtain ⟨a, b, rfl, _⟩ := h; rfl
  · obtain ⟨a, b, rfl, h⟩ := h
    refine ⟨_, (pss_cons (ps_set (i := 2) sc__law_refused.nd rfl (by first | exact Or.inl rfl | exact Or.inr rfl) pe_int)
      (pss_cons (ps_for PassesOwn.never (by rfl) (pi_range1 (by rfl) T.b_range (pa_cons pe_int pa_nil)) (pg_name (i := 3) sc__law_refused.nd rfl (by first | exact Or.inl rfl | exact Or.inr rfl))
        (pss_one (Z.ps_try_onlyN rfl rfl ⟨rfl, by decide, Or.inl T.g_BadLength⟩ takes0 (fun W pn xe tk _ => (by exact (pss_one (ps_if (pt_cmpR (show OpR _ _ (Z.rOr rEq (rEqD K)) from (Z.zEq (Z.hu0 hr))) (pv 3) pe_int (nomark _))
              (pss_one (ps_expr (Z.pe_callSO O_serves (by rfl) (hr.mono (by decide)) (fun σ => passAt tk σ) (pa_cons (pv 0) (pa_cons (pv 1) pa_nil)))))
              (pss_one (ps_if (pt_cmpR (show OpR _ _ (Z.rOr rEq (rEqD K)) from (Z.zEq (Z.hu0 hr))) (pv 3) pe_int (nomark _))
                (pss_one (ps_expr (Z.pe_callSO O_first_served (by rfl) (hr.mono (by decide)) (fun σ => passAt tk σ) (pa_cons (pv 0) (pa_cons (pv 1) pa_nil)))))
                (pss_one (ps_expr (Z.pe_callSO O_count_served (by rfl) (hr.mono (by decide)) (fun σ => passAt tk σ) (pa_cons (pv 0) (pa_cons (pv 1) pa_nil)))))))))))
          (fun a oe cls d pn hz hf => (by exact (pss_one (ps_set (i := 2) sc__law_refused.nd rfl (by first | exact Or.inl rfl | exact Or.inr rfl) (pe_op (show OpR _ _ (Z.rOr Z.rAddI (Z.rOr Z.rAddS (Z.rOr rCat (rCatT K)))) from Z.zAdd) (pv 2) pe_int))))))))
      (pss_one (ps_ret (pv 2))))), ?_⟩
    try dsimp only [cxOf, Cx.nox, Cx.wish]
    refine Z.at_start (σ' := [some a, some b, none, none]) rfl ?_
    obtain ⟨L, y, bm, m, ls, ks, f', k, rfl, F, ca, P, hv, kQ⟩ := h
    obtain ⟨b0, b2, m1, m5, o1, o2⟩ := P.facts
    walk_at "z"
    cases far : Z.inB b (.int 0) (.int (10 ^ Int.toNat 30)) with
    | false =>
      rw [far, if_neg (by decide)] at kQ
      refine Z.wForW walk_range (fun i σ H' => ∃ t : Int, t = (i : Int) ∧ ∃ v3, σ = [some (.ref y), some b, some (.int t), v3] ∧ Z.Fx H' L) ⟨0, rfl, none, rfl, F⟩ (fun _ _ _ _ _ => trivial) ?_ ?_
      · rintro i u σ H6 H7 hi ⟨t, ht, v3, rfl, F6⟩ ⟨rfl, rfl⟩
        have i3 : i < 3 := hi
        have hk := hv.has (K := K) F6
        dsimp only
        rw [Int.zero_add]
        have step : (i = 0 ∨ i = 1 ∨ i = 2) := by omega
        rcases step with rfl | rfl | rfl
        · walk_at "z"
          refine use_serves F6 ca m1 m5 hk (fun _ => ?_) fun z ez z0 z1 => ?_
          · refine Z.wOnly_yes T.x_BadLength.me fun a9 ha => ?_
            walk_at "z"
            exact ⟨_, by omega, _, rfl, F6⟩
          · subst ez
            exact absurd (far.symm.trans (far_is z0 z1)) (by decide)
        · walk_at "z"
          refine use_first_served F6 ca b0 b2 m1 m5 o1 o2 hk (fun _ => ?_) fun z o H7 ez z0 z1 _ _ => ?_
          · refine Z.wOnly_yes T.x_BadLength.me fun a9 ha => ?_
            walk_at "z"
            exact ⟨_, by omega, _, rfl, F6⟩
          · subst ez
            exact absurd (far.symm.trans (far_is z0 z1)) (by decide)
        · walk_at "z"
          refine use_count_served F6 ca b0 b2 m1 m5 o1 o2 hk (fun _ => ?_) fun z H7 ez z0 z1 _ => ?_
          · refine Z.wOnly_yes T.x_BadLength.me fun a9 ha => ?_
            walk_at "z"
            exact ⟨_, by omega, _, rfl, F6⟩
          · subst ez
            exact absurd (far.symm.trans (far_is z0 z1)) (by decide)
      · rintro σ H6 ⟨t, rfl, v3, rfl, F6⟩
        walk_at "z"
        exact kQ _ F6
    | true =>
      rw [far, if_pos rfl] at kQ
      refine Z.wForW walk_range (fun i σ H' => ∃ t : Int, t = 0 ∧ ∃ v3, σ = [some (.ref y), some b, some (.int t), v3] ∧ Z.Fx H' L) ⟨0, rfl, none, rfl, F⟩ (fun _ _ _ _ _ => trivial) ?_ ?_
      · rintro i u σ H6 H7 hi ⟨t, ht, v3, rfl, F6⟩ ⟨rfl, rfl⟩
        have i3 : i < 3 := hi
        have hk := hv.has (K := K) F6
        dsimp only
        rw [Int.zero_add]
        have step : (i = 0 ∨ i = 1 ∨ i = 2) := by omega
        rcases step with rfl | rfl | rfl
        · walk_at "z"
          refine use_serves F6 ca m1 m5 hk (fun h => absurd (far.symm.trans h) (by decide)) fun z ez z0 z1 => ?_
          walk_at "z"
          exact ⟨_, ht, _, rfl, F6⟩
        · walk_at "z"
          refine use_first_served F6 ca b0 b2 m1 m5 o1 o2 hk (fun h => absurd (far.symm.trans h) (by decide)) fun z o H7 ez z0 z1 _ F7 => ?_
          walk_at "z"
          exact ⟨_, ht, _, rfl, F7⟩
        · walk_at "z"
          refine use_count_served F6 ca b0 b2 m1 m5 o1 o2 hk (fun h => absurd (far.symm.trans h) (by decide)) fun z H7 ez z0 z1 F7 => ?_
          walk_at "z"
          exact ⟨_, ht, _, rfl, F7⟩
      · rintro σ H6 ⟨t, rfl, v3, rfl, F6⟩
        walk_at "z"
        exact kQ _ F6
theorem ok__law_refused (T : Txt K mg c_BadCalendar c_BadLength c_Calendar) : Z.Ok CX0 P w K mg base "_law_refused" 5 ["_law_calendar", "_law_number"] [] (sp__law_refused K c_Calendar) := by
  obtain ⟨f, fd, F, g⟩ := T.d__law_refused
  exact Z.mkOk F g (F.binds (ps := ["_law_calendar", "_law_number"]) fun _ _ _ _ _ _ us hl => match us, hl with | [_, _], _ => rfl) (fn__law_refused T F)
theorem use__law_refused {cC : Addr} {H : Hp} {Q : VK} {E : XK} {L : List Z.En} {y : Addr} {b m : Int} {ls ks : List Int} {f : Int → Bool} {v : V} {k : Z.Kd} (F : Z.Fx H L) (ca : CalAt cC L y b m ls ks) (P : IsPlain f b m ls ks) (hv : Z.Thing L v k) (kQ : ∀ H', Z.Fx H' L → Q (.int (if Z.inB v (.int 0) (.int (10 ^ Int.toNat 30)) = true then 0 else 3)) H') : sp__law_refused K cC [.ref y, v] H Q E := ⟨_, _, rfl, L, y, b, m, ls, ks, f, k, rfl, F, ca, P, hv, kQ⟩
theorem sc_opposite_calendar : FnScope ["calendar", "many", "number"] ["calendar"] (defScope s_opposite_calendar) := ⟨rfl, rfl, rfl, by decide +kernel, rfl, by decide +kernel, by decide +kernel⟩
def sp_opposite_calendar (K : PySem.W.Frag) (cC : Addr) : Sp := Z.Sp1 fun a H Q E => ∃ (L : List Z.En) (y : Addr) (b m : Int) (ls ks : List Int) (f : Int → Bool), a = .ref y ∧ Z.Fx H L ∧ CalAt cC L y b m ls ks ∧ IsPlain f b m ls ks ∧
  (∀ bm mm l' k', IsPlain (fun t => !f t) bm mm l' k' → ∀ y L1 H', L.Sublist L1 → CalAt cC L1 y bm mm l' k' → Z.Fx H' L1 → Q (.ref y) H')
theorem fn_opposite_calendar (T : Txt K mg c_BadCalendar c_BadLength c_Calendar) {f : Addr} {fd : FuncData} (F : Fun K "opposite_calendar" "opposite_calendar" s_opposite_calendar f fd) : FnOk P w K mg base CX0 7 f fd ["calendar"] (sp_opposite_calendar K c_Calendar) := by
  have O__calendar_of := ok__calendar_of (P := P) (w := w) (base := base) T
  have O_Calendar___contains__ := ok_Calendar___contains__ (P := P) (w := w) (base := base) T
  refine F.ok sc_opposite_calendar (fun vs H Q E h => ?_) (fun cdv A outer s H vs Q E hr h => ?_)
  · obtain ⟨a, rfl, _⟩ := h; rfl
  · obtain ⟨a, rfl, h⟩ := h
    refine ⟨_, (pss_cons (ps_set (i := 1) sc_opposite_calendar.nd rfl (by first | exact Or.inl rfl | exact Or.inr rfl) (pe_op Z.zAdd (pe_fld (pv 0) rfl) (pe_fld (pv 0) rfl)))
      (pss_one (ps_ret (Z.pe_callO O__calendar_of (by rfl) (hr.mono (by decide)) passL (pa_cons (by exact (pe_lc (own := [("number", 2)]) (g := (gName 2)) (by rfl) sc_opposite_calendar.nd (pi_range1 (by rfl) T.b_range (pa_cons (pv 1) pa_nil)) (blkOk_by (own := [("number", 2)]) (N := ["calendar", "many", "number"]) (sc := defScope s_opposite_calendar) (by decide +kernel)) (fun _ _ _ _ _ => (by exact (pg_name (i := 2) sc_opposite_calendar.nd rfl (by first | exact Or.inl rfl | exact Or.inr rfl)))) (fun _ _ _ _ _ => (by exact (pts_one (pt_cmpR (show OpR _ _ (Z.rNotInOwn K c_Calendar (sp_Calendar___contains__ K c_Calendar)) from Z.op_notInO O_Calendar___contains__ (hr.mono (by decide))) (pv 2) (pv 0) (by rfl))))) (fun _ _ _ _ _ => (by exact (pv 2))))) (pa_cons (pe_fld (pv 0) rfl) (pa_cons (pe_fld (pv 0) rfl) pa_nil))))))), ?_⟩
    try dsimp only [cxOf, Cx.nox, Cx.wish]
    refine Z.at_start (σ' := [some a, none, none]) rfl ?_
    obtain ⟨L, y, b1, m, ls, ks, f', rfl, F, ca, P, kQ⟩ := h
    have hcl := T.i_Calendar.cl
    obtain ⟨b0, b2, m1, m5, o1, o2⟩ := P.facts
    obtain ⟨dx, pl, pr, d1, d2, k1, k2, n1, _⟩ := id ca
    walk_at "z"
    refine Z.wFldAt F n1 hcl T.n_Calendar_before (cal_before _ _ _ _ _ _) ?_
    walk_at "z"
    refine Z.wFldAt F n1 hcl T.n_Calendar_period (cal_period _ _ _ _ _ _) ?_
    walk_at "z"
    refine Z.wLcW walk_range F (fun i acc L' => L' = L ∧ acc = (served (fun t => !f' t) i).map V.int) ⟨rfl, rfl⟩ (fun _ _ _ _ _ _ _ => trivial) ?_ ?_
    · rintro i x D H2 H3 acc L' hi ⟨rfl, rfl⟩ F2 ⟨rfl, rfl⟩
      have hlen : ((served (fun t => !f' t) i).map V.int).length < sizeLine := by
        have := served_len (fun t => !f' t) i
        have := Z.line_big
        rw [List.length_map]
        omega
      have z0 : 0 ≤ (i : Int) := by omega
      dsimp only
      rw [Int.zero_add]
      have stp : ∀ v, (!f' i) = v → served (fun t => !f' t) (i + 1) = served (fun t => !f' t) i ++ if v = true then [(i : Int)] else [] := fun v e => by subst e; rfl
      walk_at "zw"
      walk_at "z"
      refine ⟨rfl, ?_⟩
      walk_at "z"
      refine notin_cal F2 (ca.le (.cons _ (.refl _))) (.int _) m1 m5 ?_
      rw [show calInV b1 m ls ks (.int (i : Int)) = f' i by rw [← P.ans z0]; simp [calInV, z0]]
      cases hf : f' i with
      | false =>
        walk_at "z"
        exact Z.lcPut F2 hlen ⟨rfl, by rw [stp true (by simp [hf]), if_pos rfl, List.map_append]; rfl⟩
      | true =>
        walk_at "z"
        exact ⟨_, _, F2, rfl, by rw [stp false (by simp [hf]), if_neg (by decide), List.append_nil]⟩
    rintro D acc L' H2 F2 ⟨rfl, rfl⟩
    walk_at "z"
    refine Z.wFldAt F2 (.tail _ n1) hcl T.n_Calendar_before (cal_before _ _ _ _ _ _) ?_
    walk_at "z"
    refine Z.wFldAt F2 (.tail _ n1) hcl T.n_Calendar_period (cal_period _ _ _ _ _ _) ?_
    walk_at "z"
    refine use__calendar_of (ns := served (fun t => !f' t) (b1 + m).toNat) F2 (.head _) (by have := served_below (fun t => !f' t) (b1 + m).toNat; rwa [Int.toNat_of_nonneg (by omega)] at this) b0 b2 m1 m5 fun rs bm mm l' k' hr pl y L1 H' s ca' F' => ?_
    refine kQ bm mm l' k' ⟨b1, m, _, rs, b0, b2, m1, m5, ?_, hr.1, pl, fun t t0 => ?_⟩ y L1 H' ((List.Sublist.cons _ (.refl _)).trans s) ca' F'
    · exact ⟨(served_below _ _).1.filter _, fun l hl => by
        have e := List.mem_filter.mp hl
        exact ⟨((served_below _ _).2 l e.1).1, of_decide_eq_true e.2⟩⟩
    · refine served_cal (fun t => !f' t) b0 m1 hr (fun t ht => ?_) t t0
      have r1 := cal_round (b := b1) (m := m) (ls := ls) (ks := ks) (by omega) t ht
      rw [P.ans (by omega), P.ans (by omega)] at r1
      try dsimp only
      rw [r1]
theorem ok_opposite_calendar (T : Txt K mg c_BadCalendar c_BadLength c_Calendar) : Z.Ok CX0 P w K mg base "opposite_calendar" 7 ["calendar"] [] (sp_opposite_calendar K c_Calendar) := by
  obtain ⟨f, fd, F, g⟩ := T.d_opposite_calendar
  exact Z.mkOk F g (F.binds (ps := ["calendar"]) fun _ _ _ _ _ _ us hl => match us, hl with | [_], _ => rfl) (fn_opposite_calendar T F)
theorem use_opposite_calendar {cC : Addr} {H : Hp} {Q : VK} {E : XK} {L : List Z.En} {y : Addr} {b m : Int} {ls ks : List Int} {f : Int → Bool} (F : Z.Fx H L) (ca : CalAt cC L y b m ls ks) (P : IsPlain f b m ls ks)
  (kQ : ∀ bm mm l' k', IsPlain (fun t => !f t) bm mm l' k' → ∀ y L1 H', L.Sublist L1 → CalAt cC L1 y bm mm l' k' → Z.Fx H' L1 → Q (.ref y) H') : sp_opposite_calendar K cC [.ref y] H Q E := ⟨_, rfl, L, y, b, m, ls, ks, f, rfl, F, ca, P, kQ⟩
theorem sc_law : FnScope ["_law_script", "_law_hand_here", "_law_first", "_law_second_here", "_law_one", "_law_other", "_law_number", "_law_wanted", "_law_due", "_law_turned", "_law_found", "_law_odd", "_law_answer"] ["_law_script"] (defScope s_law) := ⟨rfl, rfl, rfl, by decide +kernel, rfl, by decide +kernel, by decide +kernel⟩
def sp_law (K : PySem.W.Frag) : Sp := Z.Sp1 fun a H Q E => ∃ (l : Addr) (ns : List Int), a = .ref l ∧ SqL K H l (ns.map V.int) ∧ ns.length ≤ 63 ∧ ∀ H', Q (.bl true) H'
theorem calEq_self (b m : Int) (ls ks : List Int) : calEq b m ls ks b m ls ks = true := by
  unfold calEq
  simp
theorem want_comm (k : Int) (f g : Int → Bool) (z : Int) : wantI k f g z = wantI k g f z := by unfold wantI; rw [Int.add_comm]
theorem IsPlain.least {f : Int → Bool} {b m : Int} {ls ks : List Int} (p : IsPlain f b m ls ks) {l N : Int} (l1 : 1 ≤ l) (h : ∀ z, N ≤ z → 0 ≤ z → f (z + l) = f z) : m ≤ l := by
  obtain ⟨bz, pz, l0, r0, _, _, p1, _, o1, o2, P, e⟩ := p
  refine least_le (N := max N bz) p1 o2.2 P.1 l1 fun z hz z0 => ?_
  have a := e z z0
  have c := e (z + l) (by omega)
  have d := h z (by omega) z0
  unfold calIn at a c
  rw [if_neg (by omega)] at a c
  rw [← a, ← c] at d
  exact (Bool.eq_iff_iff.mp d.symm).symm.symm |> fun q => by simpa using q
theorem IsPlain.roundB {f : Int → Bool} {b m : Int} {ls ks : List Int} (p : IsPlain f b m ls ks) (z : Int) (hz : b ≤ z) : f (z + m) = f z := by
  obtain ⟨b0, b2, m1, m5, o1, o2⟩ := p.facts
  rw [← p.ans (by omega), ← p.ans (by omega)]
  exact cal_round (by omega) z hz
theorem opp_period {f : Int → Bool} {b m b' m' : Int} {ls ks ls' ks' : List Int} (p : IsPlain f b m ls ks) (q : IsPlain (fun t => !f t) b' m' ls' ks') : m = m' := by
  refine Int.le_antisymm (p.least (N := b') q.facts.2.2.1 fun z h1 _ => ?_) (q.least (N := b) p.facts.2.2.1 fun z h1 _ => ?_)
  · have := q.roundB z h1
    simpa using this
  · rw [p.roundB z h1]
theorem lcmZ_self {m : Int} (m0 : 0 ≤ m) : lcmZ m m = m := by unfold lcmZ; rw [Nat.lcm_self]; omega
theorem plain_true : IsPlain (fun _ => true) 0 1 [] [0] := ⟨0, 1, [], [0], by decide, by decide, by decide, by decide, ⟨.nil, by simp⟩, ⟨List.pairwise_singleton _ _, by simp⟩, ⟨⟨by decide, by decide, ⟨by decide, by decide⟩, fun j h1 h2 => by omega⟩, by decide, ⟨by decide, by decide, fun j h1 h2 => by omega, fun h => absurd h (by decide)⟩, rfl⟩, fun z z0 => by
  unfold calIn
  rw [if_neg (by omega), Int.emod_one]
  rfl⟩
theorem plain_false : IsPlain (fun _ => false) 0 1 [] [] := ⟨0, 1, [], [], by decide, by decide, by decide, by decide, ⟨.nil, by simp⟩, ⟨.nil, by simp⟩, ⟨⟨by decide, by decide, ⟨by decide, by decide⟩, fun j h1 h2 => by omega⟩, by decide, ⟨by decide, by decide, fun j h1 h2 => by omega, fun h => absurd h (by decide)⟩, rfl⟩, fun z z0 => by
  unfold calIn
  rw [if_neg (by omega)]
  rfl⟩
theorem yes_not {e w : List Bool} (w0 : 0 < w.length) (z : Int) (z0 : 0 ≤ z) : yesI (e.map not) (w.map not) z = !yesI e w z := by
  obtain ⟨n, rfl⟩ := Int.eq_ofNat_of_zero_le z0
  rw [yes_nat, yes_nat, List.length_map, List.length_map]
  by_cases h : n < e.length
  · rw [if_pos h, if_pos h, List.getD_eq_getElem?_getD, List.getElem?_map, List.getD_eq_getElem?_getD, List.getElem?_eq_getElem h]
    rfl
  · have hm : n % w.length < w.length := Nat.mod_lt _ w0
    rw [if_neg h, if_neg h, List.getD_eq_getElem?_getD, List.getElem?_map, List.getD_eq_getElem?_getD, List.getElem?_eq_getElem hm]
    rfl
theorem fn_law (T : Txt K mg c_BadCalendar c_BadLength c_Calendar) {f : Addr} {fd : FuncData} (F : Fun K "law" "law" s_law f fd) : FnOk P w K mg base CX0 9 f fd ["_law_script"] (sp_law K) := by
  have O__law_asked := ok__law_asked (P := P) (w := w) (base := base) T
  have O__law_big := ok__law_big (P := P) (w := w) (base := base) T
  have O__law_difference := ok__law_difference (P := P) (w := w) (base := base) T
  have O__law_draw := ok__law_draw (P := P) (w := w) (base := base) T
  have O__law_hand := ok__law_hand (P := P) (w := w) (base := base) T
  have O__law_made := ok__law_made (P := P) (w := w) (base := base) T
  have O__law_merged := ok__law_merged (P := P) (w := w) (base := base) T
  have O__law_one_rest := ok__law_one_rest (P := P) (w := w) (base := base) T
  have O__law_plain := ok__law_plain (P := P) (w := w) (base := base) T
  have O__law_put := ok__law_put (P := P) (w := w) (base := base) T
  have O__law_refused := ok__law_refused (P := P) (w := w) (base := base) T
  have O__law_row := ok__law_row (P := P) (w := w) (base := base) T
  have O__law_second := ok__law_second (P := P) (w := w) (base := base) T
  have O__law_whole := ok__law_whole (P := P) (w := w) (base := base) T
  have O__law_world := ok__law_world (P := P) (w := w) (base := base) T
  have O_common_calendar := ok_common_calendar (P := P) (w := w) (base := base) T
  have O_first_difference := ok_first_difference (P := P) (w := w) (base := base) T
  have O_joined_calendars := ok_joined_calendars (P := P) (w := w) (base := base) T
  have O_opposite_calendar := ok_opposite_calendar (P := P) (w := w) (base := base) T
  have O_Calendar___eq__ := ok_Calendar___eq__ (P := P) (w := w) (base := base) T
  refine F.ok sc_law (fun vs H Q E h => ?_) (fun cdv A outer s H vs Q E hr h => ?_)
  · obtain ⟨a, rfl, _⟩ := h; rfl
  · obtain ⟨a, rfl, h⟩ := h
    refine ⟨_, (pss_cons (ps_set (i := 1) sc_law.nd rfl (by first | exact Or.inl rfl | exact Or.inr rfl) (Z.pe_callO O__law_hand (by rfl) (hr.mono (by decide)) pass0 (pa_cons (pv 0) pa_nil)))
      (pss_cons (ps_set (i := 2) sc_law.nd rfl (by first | exact Or.inl rfl | exact Or.inr rfl) (Z.pe_callO O__law_world (by rfl) (hr.mono (by decide)) pass0 (pa_cons (pv 1) pa_nil)))
      (pss_cons (ps_set (i := 3) sc_law.nd rfl (by first | exact Or.inl rfl | exact Or.inr rfl) (Z.pe_callO O__law_second (by rfl) (hr.mono (by decide)) pass0 (pa_cons (pv 1) (pa_cons (pv 2) pa_nil))))
      (pss_cons (ps_if (pt_cmpR (Z.zEq (Z.hu0 hr)) (Z.pe_callO O__law_draw (by rfl) (hr.mono (by decide)) pass0 (pa_cons (pv 1) (pa_cons pe_int pa_nil))) pe_int (nomark _))
        (pss_one (ps_par (i := 2) (j := 3) (by rfl) sc_law.nd rfl rfl (by decide) rfl rfl (pa_cons (Z.pe_callO O__law_one_rest (by rfl) (hr.mono (by decide)) pass0 (pa_cons (pv 1) pa_nil)) (pa_cons (Z.pe_callO O__law_one_rest (by rfl) (hr.mono (by decide)) pass0 (pa_cons (pv 1) pa_nil)) pa_nil)) (by rfl)))
        pss_nil)
      (pss_cons (ps_set (i := 4) sc_law.nd rfl (by first | exact Or.inl rfl | exact Or.inr rfl) (Z.pe_callO O__law_made (by rfl) (hr.mono (by decide)) pass0 (pa_cons (pv 2) pa_nil)))
      (pss_cons (ps_set (i := 5) sc_law.nd rfl (by first | exact Or.inl rfl | exact Or.inr rfl) (Z.pe_callO O__law_made (by rfl) (hr.mono (by decide)) pass0 (pa_cons (pv 3) pa_nil)))
      (pss_cons (ps_for PassesOwn.never (by rfl) (Z.pi_seq (pe_lst (pa_cons pe_int (pa_cons (pe_callB Z.zLen (by rfl) T.b_len (by decide +kernel) (pa_cons (pe_ix ix_seq (pv 2) pe_int (fun _ _ => rfl)) pa_nil)) (pa_cons (Z.pe_callO O__law_draw (by rfl) (hr.mono (by decide)) pass0 (pa_cons (pv 1) (pa_cons pe_int pa_nil))) (pa_cons (Z.pe_callO O__law_draw (by rfl) (hr.mono (by decide)) pass0 (pa_cons (pv 1) (pa_cons pe_int pa_nil))) (pa_cons (Z.pe_callO O__law_big (by rfl) (hr.mono (by decide)) pass0 (pa_cons (pv 1) pa_nil)) (pa_cons (pe_op Z.zPow pe_int pe_int) pa_nil)))))))) (pg_name (i := 6) sc_law.nd rfl (by first | exact Or.inl rfl | exact Or.inr rfl))
        (pss_one (ps_if (PW.pt (pw_or (pt_not (Z.pt_truN (Z.pe_callO O__law_asked (by rfl) (hr.mono (by decide)) pass0 (pa_cons (pv 2) (pa_cons (pv 4) (pa_cons (pv 6) pa_nil)))))) (pw_or1 (pt_not (Z.pt_truN (Z.pe_callO O__law_asked (by rfl) (hr.mono (by decide)) pass0 (pa_cons (pv 3) (pa_cons (pv 5) (pa_cons (pv 6) pa_nil)))))))))
          (pss_one (ps_ret pe_bl))
          pss_nil)))
      (pss_cons (ps_for PassesOwn.never (by rfl) (Z.pi_seq (pe_lst (pa_cons pe_int (pa_cons pe_int pa_nil)))) (pg_name (i := 7) sc_law.nd rfl (by first | exact Or.inl rfl | exact Or.inr rfl))
        (pss_cons (ps_set (i := 8) sc_law.nd rfl (by first | exact Or.inl rfl | exact Or.inr rfl) (Z.pe_callO O__law_merged (by rfl) (hr.mono (by decide)) pass0 (pa_cons (pv 2) (pa_cons (pv 3) (pa_cons (pv 7) pa_nil)))))
        (pss_one (ps_if (PW.pt (pw_or (pt_cmpR (Z.zNe (Z.hu0 hr)) (Z.pe_callO O__law_put (by rfl) (hr.mono (by decide)) pass0 (pa_cons (pv 4) (pa_cons (pv 5) (pa_cons (pv 7) pa_nil)))) (pv 8) (nomark _)) (pw_or1 (pt_cmpR (Z.zNe (Z.hu0 hr)) (Z.pe_callO O__law_put (by rfl) (hr.mono (by decide)) pass0 (pa_cons (pv 5) (pa_cons (pv 4) (pa_cons (pv 7) pa_nil)))) (pv 8) (nomark _)))))
          (pss_one (ps_ret pe_bl))
          pss_nil))))
      (pss_cons (ps_set (i := 9) sc_law.nd rfl (by first | exact Or.inl rfl | exact Or.inr rfl) (Z.pe_callO O_opposite_calendar (by rfl) (hr.mono (by decide)) pass0 (pa_cons (pv 4) pa_nil)))
      (pss_cons (ps_if (pt_cmpR (Z.zNe (Z.hu0 hr)) (Z.pe_callO O__law_row (by rfl) (hr.mono (by decide)) pass0 (pa_cons (pv 9) pa_nil)) (Z.pe_callO O__law_plain (by rfl) (hr.mono (by decide)) pass0 (pa_cons (pe_tup (pa_cons (by exact (pe_lc (own := [("_law_answer", 12)]) (g := (gName 12)) (by rfl) sc_law.nd (Z.pi_seq (pe_ix ix_seq (pv 2) pe_int (fun _ _ => rfl))) (blkOk_by (own := [("_law_answer", 12)]) (N := ["_law_script", "_law_hand_here", "_law_first", "_law_second_here", "_law_one", "_law_other", "_law_number", "_law_wanted", "_law_due", "_law_turned", "_law_found", "_law_odd", "_law_answer"]) (sc := defScope s_law) (by decide +kernel)) (fun _ _ _ _ _ => (by exact (pg_name (i := 12) sc_law.nd rfl (by first | exact Or.inl rfl | exact Or.inr rfl)))) (fun _ _ _ _ _ => (by exact pts_nil)) (fun _ _ _ _ _ => (by exact (show PE _ _ (tNotT K _) from pe_notT (pv 12)))))) (pa_cons (by exact (pe_lc (own := [("_law_answer", 12)]) (g := (gName 12)) (by rfl) sc_law.nd (Z.pi_seq (pe_ix ix_seq (pv 2) pe_int (fun _ _ => rfl))) (blkOk_by (own := [("_law_answer", 12)]) (N := ["_law_script", "_law_hand_here", "_law_first", "_law_second_here", "_law_one", "_law_other", "_law_number", "_law_wanted", "_law_due", "_law_turned", "_law_found", "_law_odd", "_law_answer"]) (sc := defScope s_law) (by decide +kernel)) (fun _ _ _ _ _ => (by exact (pg_name (i := 12) sc_law.nd rfl (by first | exact Or.inl rfl | exact Or.inr rfl)))) (fun _ _ _ _ _ => (by exact pts_nil)) (fun _ _ _ _ _ => (by exact (show PE _ _ (tNotT K _) from pe_notT (pv 12)))))) pa_nil))) pa_nil)) (nomark _))
        (pss_one (ps_ret pe_bl))
        pss_nil)
      (pss_cons (ps_if (PW.pt (pw_or (pt_not (pt_cmpR (Z.op_eqOwnO O_Calendar___eq__ (hr.mono (by decide))) (Z.pe_callO O_opposite_calendar (by rfl) (hr.mono (by decide)) pass0 (pa_cons (pv 9) pa_nil)) (pv 4) (nomark _))) (pw_or1 (pt_cmpR (Z.zNe (Z.hu0 hr)) (Z.pe_callO O__law_row (by rfl) (hr.mono (by decide)) pass0 (pa_cons (Z.pe_callO O_joined_calendars (by rfl) (hr.mono (by decide)) passL (pa_cons (pv 4) (pa_cons (pv 9) pa_nil))) pa_nil)) (pe_tup (pa_cons pe_int (pa_cons (pe_tup pa_nil) (pa_cons pe_int (pa_cons (pe_tup (pa_cons pe_int pa_nil)) pa_nil))))) (nomark _)))))
        (pss_one (ps_ret pe_bl))
        pss_nil)
      (pss_cons (ps_if (PW.pt (pw_or (pt_cmpR (Z.zNe (Z.hu0 hr)) (Z.pe_callO O__law_row (by rfl) (hr.mono (by decide)) pass0 (pa_cons (Z.pe_callO O_common_calendar (by rfl) (hr.mono (by decide)) passL (pa_cons (pv 4) (pa_cons (pv 9) pa_nil))) pa_nil)) (pe_tup (pa_cons pe_int (pa_cons (pe_tup pa_nil) (pa_cons pe_int (pa_cons (pe_tup pa_nil) pa_nil))))) (nomark _)) (pw_or1 (pt_cmpR (Z.zNe (Z.hu0 hr)) (Z.pe_callO O__law_row (by rfl) (hr.mono (by decide)) pass0 (pa_cons (pv 4) pa_nil)) (Z.pe_callO O__law_plain (by rfl) (hr.mono (by decide)) pass0 (pa_cons (pv 2) pa_nil)) (nomark _)))))
        (pss_one (ps_ret pe_bl))
        pss_nil)
      (pss_cons (ps_set (i := 8) sc_law.nd rfl (by first | exact Or.inl rfl | exact Or.inr rfl) (Z.pe_callO O__law_difference (by rfl) (hr.mono (by decide)) pass0 (pa_cons (pv 2) (pa_cons (pv 3) pa_nil))))
      (pss_cons (ps_for PassesOwn.never (by rfl) (Z.pi_seq (pe_lst (pa_cons (Z.pe_callO O_first_difference (by rfl) (hr.mono (by decide)) pass0 (pa_cons (pv 4) (pa_cons (pv 5) pa_nil))) (pa_cons (Z.pe_callO O_first_difference (by rfl) (hr.mono (by decide)) pass0 (pa_cons (pv 5) (pa_cons (pv 4) pa_nil))) pa_nil)))) (pg_name (i := 10) sc_law.nd rfl (by first | exact Or.inl rfl | exact Or.inr rfl))
        (pss_one (ps_if (PW.pt (pw_or (pt_cmpR (Z.zNe (Z.hu0 hr)) (pv 10) (pv 8) (nomark _)) (pw_or1 (pt_not (PW.pt (pw_or (pt_cmpR Z.zIs (pv 10) pe_non (nomark _)) (pw_or1 (Z.pt_truN (Z.pe_callO O__law_whole (by rfl) (hr.mono (by decide)) pass0 (pa_cons (pv 10) pa_nil))))))))))
          (pss_one (ps_ret pe_bl))
          pss_nil)))
      (pss_cons (ps_set (i := 11) sc_law.nd rfl (by first | exact Or.inl rfl | exact Or.inr rfl) (pe_ix ix_seq (pe_lst (pa_cons (pe_un un_neg pe_int) (pa_cons (pe_op Z.zAdd (pe_op Z.zPow pe_int pe_int) pe_int) (pa_cons pe_bl (pa_cons pe_non (pa_cons pe_str (pa_cons (pe_un un_neg (pe_op Z.zPow pe_int pe_int)) pa_nil))))))) (Z.pe_callO O__law_draw (by rfl) (hr.mono (by decide)) pass0 (pa_cons (pv 1) (pa_cons pe_int pa_nil))) (fun _ _ => rfl)))
      (pss_one (ps_ret (pe_andT (pe_cmpR (Z.zEq (Z.hu0 hr)) (Z.pe_callO O__law_refused (by rfl) (hr.mono (by decide)) pass0 (pa_cons (pv 4) (pa_cons (pv 11) pa_nil))) pe_int (nomark _)) (pe_andT (pe_cmpR (Z.zEq (Z.hu0 hr)) (Z.pe_callO O__law_refused (by rfl) (hr.mono (by decide)) pass0 (pa_cons (pv 4) (pa_cons pe_int pa_nil))) pe_int (nomark _)) (pe_one (pe_cmpR Z.zIs (Z.pe_callO O_first_difference (by rfl) (hr.mono (by decide)) pass0 (pa_cons (pv 4) (pa_cons (pv 4) pa_nil))) pe_non (nomark _)))))))))))))))))))))), ?_⟩
    try dsimp only [cxOf, Cx.nox, Cx.wish]
    refine Z.at_start (σ' := [some a, none, none, none, none, none, none, none, none, none, none, none, none]) rfl ?_
    obtain ⟨l, ns0, rfl, hS, hl, q⟩ := h
    have hC := T.i_Calendar
    walk_at "z"
    refine ⟨_, rfl, l, ns0, rfl, hS, hl, fun hp cp H1 F1 => ?_⟩
    walk_at "z"
    refine use__law_world F1 (.head _) fun e0 w0 x0 L1 H2 w00 w04 e04 s1 wa0 F2 => ?_
    walk_at "z"
    refine use__law_second F2 (s1.subset (.head _)) wa0 w00 w04 e04 fun e1 w1 x1 L2 H3 wo1 s2 wb0 F3 => ?_
    have mh2 := s2.subset (s1.subset (.head _))
    have wa1 := wa0.le s2
    clear F1 F2 hS
    walk_at "y"
    refine Z.wMidS (fun σ' H' => ∃ (L3 : List Z.En) (x x' : Addr) (e w e' w' : List Bool), σ' = [some (.ref l), some (.ref hp), some (.ref x), some (.ref x'), none, none, none, none, none, none, none, none, none] ∧ Z.En.hand5 hp cp ∈ L3 ∧ WorldAt L3 x e w ∧ WOk e w ∧ WorldAt L3 x' e' w' ∧ WOk e' w' ∧ Z.Fx H' L3) (fun N hk => ?_) ?_
    · walk_at "z"
      rename_i v H4 F4 v0 v1
      refine Z.wIfD (fun h => ?_) (fun h => ?_)
      · walk_at "z"
        refine use__law_one_rest F4 mh2 fun e2 w2 x2 L4 H5 wo2 s4 wc F5 => ?_
        walk_at "z"
        refine use__law_one_rest F5 (s4.subset mh2) fun e3 w3 x3 L5 H6 wo3 s5 wd F6 => ?_
        walk_at "z"
        exact hk _ _ ⟨L5, x2, x3, e2, w2, e3, w3, rfl, s5.subset (s4.subset mh2), wc.le s5, wo2, wd, wo3, F6⟩
      · walk_at "z"
        exact hk _ _ ⟨L2, x0, x1, e0, w0, e1, w1, rfl, mh2, wa1, ⟨w00, by omega, by omega⟩, wb0, wo1, F4⟩
    rintro _ H4 ⟨L3, x, x', e, w, e', w', rfl, mh3, wa3, wo, wb3, wo', F4⟩
    clear F3 wa0 wa1 wb0 mh2
    walk_at "y"
    refine use__law_made F4 wa3 wo fun b m ls ks P y L4 H5 s4 ca F5 => ?_
    walk_at "y"
    refine use__law_made F5 (wb3.le s4) wo' fun b' m' ls' ks' P' y' L5 H6 s5 cb5 F6 => ?_
    have ca5 := ca.le s5
    have s45 := s4.trans s5
    have wa5 := wa3.le s45
    have wb5 := wb3.le s45
    have mh5 := s45.subset mh3
    clear F5 F4 s4 s5 ca wa3 wb3 mh3
    obtain ⟨b0, b2, m1, m5, o1, o2⟩ := P.facts
    obtain ⟨c0, c2, n1, n5, u1, u2⟩ := P'.facts
    have la := o1.len b0
    have lb := o2.len (by omega)
    obtain ⟨p, q', h1, h2, h3⟩ := id wa5
    obtain ⟨p', q2', h1', h2', h3'⟩ := id wb5
    walk_at "y"
    refine Z.wFor ?_
    walk_at "y"
    have p30 : (10 : Int) ^ Int.toNat 30 = 1000000000000000000000000000000 := by decide
    rename_i d1 G1 J1 d10 d11 d2 G2 J2 d20 d21 d3 G3 d30 d31 J3 q7 G4 J4
    rw [List.length_map] at J4
    obtain ⟨items, hit, hge⟩ : ∃ ns : List Int, [V.int 0, V.int e.length, V.int d1, V.int d2, V.int d3, V.int (10 ^ Int.toNat 30)] = ns.map V.int ∧ ∀ z ∈ ns, 0 ≤ z ∧ z ≤ 1000000000000000000000000000000 :=
      ⟨[0, e.length, d1, d2, d3, 10 ^ Int.toNat 30], rfl, fun z hz => by
        have p30' : (10 : Int) ^ 30 = 1000000000000000000000000000000 := by decide
        obtain ⟨_, _, _⟩ := wo
        simp only [List.mem_cons, List.not_mem_nil, or_false] at hz
        rw [p30'] at d31
        rcases hz with rfl | rfl | rfl | rfl | rfl | rfl
        · omega
        · omega
        · omega
        · omega
        · omega
        · rw [p30]; omega⟩
    rw [hit] at J4
    refine Z.wForLi J4 (.head _) (fun i σ H' => ∃ v6, σ = [some (.ref l), some (.ref hp), some (.ref x), some (.ref x'), some (.ref y), some (.ref y'), v6, none, none, none, none, none, none] ∧ Z.Fx H' (.ob q7 (.lst (items.map V.int)) :: L5)) ⟨_, rfl, J4⟩ ?_ ?_ ?_
    · rintro i σ H' ⟨v6, rfl, F'⟩
      exact ⟨_, F', .head _⟩
    · rintro i u σ H' hu ⟨v6, rfl, F'⟩
      obtain ⟨z, rfl, hz⟩ := Z.int_of_map' hu
      obtain ⟨z0, z1⟩ := hge z (List.mem_of_getElem? hz)
      walk_at "z"
      refine use__law_asked F' (wa5.le (.cons _ (.refl _))) wo (ca5.le (.cons _ (.refl _))) P z0 z1 fun H2 F2 => ?_
      walk_at "z"
      refine use__law_asked F2 (wb5.le (.cons _ (.refl _))) wo' (cb5.le (.cons _ (.refl _))) P' z0 z1 fun H3 F3 => ?_
      walk_at "z"
      exact ⟨_, rfl, F3⟩
    rintro σ H7 ⟨v6, rfl, F'⟩
    have F7 := F'.sub (L' := L5) (.cons _ (.refl _))
    clear F' J4 J3 J2 J1
    walk_at "y"
    refine Z.wFor ?_
    walk_at "y"
    rename_i q8 G5 J5
    refine Z.wForLi J5 (.head _) (fun i σ H' => ∃ (v7 v8 : Option V) (L6 : List Z.En), σ = [some (.ref l), some (.ref hp), some (.ref x), some (.ref x'), some (.ref y), some (.ref y'), v6, v7, v8, none, none, none, none] ∧ (Z.En.ob q8 (.lst [.int 1, .int 2]) :: L5).Sublist L6 ∧ Z.Fx H' L6) ⟨_, _, _, rfl, .refl _, J5⟩ ?_ ?_ ?_
    · rintro i σ H' ⟨v7, v8, L6, rfl, s6, F'⟩
      exact ⟨_, F', s6.subset (.head _)⟩
    · rintro i u σ H' hu ⟨v7, v8, L6, rfl, s6, F'⟩
      obtain ⟨k, rfl, hk⟩ : ∃ k : Int, u = .int k ∧ (k = 1 ∨ k = 2) := by
        rcases i with _ | _ | i
        · cases hu; exact ⟨1, rfl, .inl rfl⟩
        · cases hu; exact ⟨2, rfl, .inr rfl⟩
        · simp at hu
      have s56 : L5.Sublist L6 := (List.Sublist.cons _ (.refl _)).trans s6
      walk_at "z"
      refine use__law_merged F' (wa5.le s56) wo (wb5.le s56) wo' P P' (fun hl H2 F2 => ?_) (fun hl bm mm l' k' PW r L7 H2 s7 ra F2 => ?_)
      · walk_at "z"
        refine use__law_put hk F2 (ca5.le s56) (cb5.le s56) P P' (fun _ H3 F3 => ?_) (fun h => absurd h (by omega))
        walk_at "z"
        refine Z.wNeStr ?_
        rw [decide_eq_true rfl]
        walk_at "z"
        refine use__law_put hk F3 (cb5.le s56) (ca5.le s56) P' P (fun _ H3 F3 => ?_) (fun h => absurd h (by rw [lcmZ_comm]; omega))
        walk_at "z"
        refine Z.wNeStr ?_
        rw [decide_eq_true rfl]
        walk_at "z"
        exact ⟨_, _, L6, rfl, s6, F3⟩
      · have s57 := s56.trans s7
        walk_at "z"
        refine use__law_put hk F2 (ca5.le s57) (cb5.le s57) P P' (fun h => absurd h (by omega)) (fun _ bm2 mm2 l2 k2 PW2 r2 L8 H3 s8 rb F3 => ?_)
        obtain ⟨rfl, rfl, rfl, rfl⟩ := PW.uniq (fun _ _ => rfl) PW2
        walk_at "z"
        refine Z.wNeSame F3 rb.dt (ra.le s8).dt (rowD_ok _ _ _ _) ?_
        walk_at "z"
        have s58 := s57.trans s8
        refine use__law_put hk F3 (cb5.le s58) (ca5.le s58) P' P (fun h => absurd h (by rw [lcmZ_comm]; omega)) (fun _ bm2 mm2 l2 k2 PW3 r3 L9 H4 s9 rc F4 => ?_)
        obtain ⟨rfl, rfl, rfl, rfl⟩ := PW.uniq (fun z _ => want_comm k _ _ z) PW3
        walk_at "z"
        refine Z.wNeSame F4 rc.dt (ra.le (s8.trans s9)).dt (rowD_ok _ _ _ _) ?_
        walk_at "z"
        exact ⟨_, _, L9, rfl, s6.trans (s7.trans (s8.trans s9)), F4⟩
    rintro σ H8 ⟨v7, v8, L6, rfl, s6, F8⟩
    have s56 : L5.Sublist L6 := (List.Sublist.cons _ (.refl _)).trans s6
    have ca6 := ca5.le s56
    have cb6 := cb5.le s56
    have wa6 := wa5.le s56
    have wb6 := wb5.le s56
    have mh6 := s56.subset mh5
    clear J5 F7
    walk_at "y"
    refine use_opposite_calendar F8 ca6 P fun bt mt lt kt Pt yt L7 H9 s7 ct F9 => ?_
    walk_at "y"
    have wa7 := wa6.le s7
    have ca7 := ca6.le s7
    have cb7 := cb6.le s7
    have wb7 := wb6.le s7
    have mh7 := s7.subset mh6
    obtain ⟨t0, t2, t1, t5, ot1, ot2⟩ := Pt.facts
    have lta := ot1.len t0
    have ltb := ot2.len (by omega)
    obtain ⟨wo0, wo5, woe⟩ := id wo
    have g1 := s7.subset (s56.subset h1)
    have g2 := s7.subset (s56.subset h2)
    have g3 := s7.subset (s56.subset h3)
    clear F8
    have meq := opp_period P Pt
    refine Z.wMidS (fun σ' H' => ∃ L8, σ' = [some (.ref l), some (.ref hp), some (.ref x), some (.ref x'), some (.ref y), some (.ref y'), v6, v7, v8, some (.ref yt), none, none, none] ∧ L7.Sublist L8 ∧ Z.Fx H' L8) (fun N hk => ?_) ?_
    · walk_at "z"
      refine use__law_row F9 ct (by omega) (by omega) fun r L8 H10 s8 ra F10 => ?_
      have g1' := s8.subset g1
      have g2' := s8.subset g2
      have g3' := s8.subset g3
      walk_at "z"
      refine Z.wLcW (walk_list (K := K) (xs := e.map V.bl)) F10 (fun i acc L' => L' = L8 ∧ acc = ((e.map not).take i).map V.bl) ⟨rfl, rfl⟩ (fun i acc L' D H' r F' => F'.lst (.tail _ (r.1 ▸ g2'))) ?_ ?_
      · rintro i v D K1 K2 acc L' hi ⟨rfl, rfl⟩ F2 ⟨rfl, hx⟩
        rw [List.length_map] at hi
        obtain ⟨bv, hbv, rfl⟩ : ∃ bv, e[i]? = some bv ∧ v = V.bl bv := by
          rw [List.getElem?_map] at hx
          cases h : e[i]? with
          | none => rw [h] at hx; cases hx
          | some c => rw [h] at hx; exact ⟨c, rfl, (Option.some.inj hx).symm⟩
        have hcl : (((e.map not).take i).map V.bl).length < sizeLine := by
          rw [List.length_map, List.length_take]
          have := Z.line_big
          omega
        walk_at "zw"
        walk_at "z"
        refine ⟨rfl, ?_⟩
        walk_at "z"
        exact Z.lcPut F2 hcl ⟨rfl, by rw [List.take_add_one, List.getElem?_map, hbv, List.map_append]; rfl⟩
      rintro D acc L' K1 F11 ⟨rfl, rfl⟩
      rw [List.length_map, show (e.map not).take e.length = e.map not from List.take_of_length_le (by rw [List.length_map]; exact Nat.le_refl _)] at F11
      walk_at "z"
      refine Z.wLcW (walk_list (K := K) (xs := w.map V.bl)) F11 (fun i acc L' => L' = _ ∧ acc = ((w.map not).take i).map V.bl) ⟨rfl, rfl⟩ (fun i acc L' D H' r F' => F'.lst (.tail _ (r.1 ▸ (.tail _ g3')))) ?_ ?_
      · rintro i v D K1 K2 acc L' hi ⟨rfl, rfl⟩ F2 ⟨rfl, hx⟩
        rw [List.length_map] at hi
        obtain ⟨bv, hbv, rfl⟩ : ∃ bv, w[i]? = some bv ∧ v = V.bl bv := by
          rw [List.getElem?_map] at hx
          cases h : w[i]? with
          | none => rw [h] at hx; cases hx
          | some c => rw [h] at hx; exact ⟨c, rfl, (Option.some.inj hx).symm⟩
        have hcl : (((w.map not).take i).map V.bl).length < sizeLine := by
          rw [List.length_map, List.length_take]
          have := Z.line_big
          omega
        walk_at "zw"
        walk_at "z"
        refine ⟨rfl, ?_⟩
        walk_at "z"
        exact Z.lcPut F2 hcl ⟨rfl, by rw [List.take_add_one, List.getElem?_map, hbv, List.map_append]; rfl⟩
      rintro D2 acc L2 K2 F12 ⟨rfl, rfl⟩
      rw [List.length_map, show (w.map not).take w.length = w.map not from List.take_of_length_le (by rw [List.length_map]; exact Nat.le_refl _)] at F12
      walk_at "z"
      rename_i q9 K3 F13
      refine use__law_plain F13 (e := e.map not) (w := w.map not) ⟨D, D2, .head _, .tail _ (.tail _ (.head _)), .tail _ (.head _)⟩ (by rw [List.length_map]; omega) (by rw [List.length_map]; omega) (by rw [List.length_map]; omega) fun b9 m9 l9 k9 P9 r9 L9 K4 s9 rd F14 => ?_
      obtain ⟨rfl, rfl, rfl, rfl⟩ := Pt.uniq (fun z z0 => (yes_not wo0 z z0).symm) (plain_yes (by rw [List.length_map]; omega) (by rw [List.length_map]; omega) (by rw [List.length_map]; omega) P9)
      have s89 := (List.Sublist.cons _ (.cons _ (.cons _ (.refl _)))).trans s9
      refine Z.wNeSame F14 (ra.le s89).dt rd.dt (rowD_ok _ _ _ _) ?_
      walk_at "z"
      exact hk _ _ ⟨_, rfl, s8.trans s89, F14⟩
    rintro _ H10 ⟨L8, rfl, s8, F10⟩
    have ca8 := ca7.le s8
    have ct8 := ct.le s8
    walk_at "y"
    refine Z.wMidS (fun σ' H' => ∃ L9, σ' = [some (.ref l), some (.ref hp), some (.ref x), some (.ref x'), some (.ref y), some (.ref y'), v6, v7, v8, some (.ref yt), none, none, none] ∧ L8.Sublist L9 ∧ Z.Fx H' L9) (fun N hk => ?_) ?_
    · walk_at "z"
      refine use_opposite_calendar F10 ct8 Pt fun b9 m9 l9 k9 P9 y9 L9 K1 s9 c9 F11 => ?_
      obtain ⟨rfl, rfl, rfl, rfl⟩ := P.uniq (fun z z0 => by simp) P9
      walk_at "z"
      refine eq_cal hC F11 c9 (ca8.le s9) ?_
      rw [calEq_self]
      walk_at "z"
      refine use_joined_calendars F11 (ca8.le s9) (ct8.le s9) P Pt (fun h => absurd h (by rw [← meq, lcmZ_self (by omega)]; omega)) (fun _ b10 m10 l10 k10 PW y10 L10 K2 s10 c10 F12 => ?_)
      obtain ⟨rfl, rfl, rfl, rfl⟩ := plain_true.uniq (fun z _ => by simp) PW
      walk_at "z"
      refine use__law_row F12 c10 (by simp) (by simp) fun r11 L11 K3 s11 r11a F13 => ?_
      walk_at "z"
      rename_i pe He Fe pz Hz Fz po Ho Fo
      refine Z.wNeSame Fo (d := rowD 0 1 [] [0]) ((r11a.le (by walk_at "zsub")).dt) (RowAt.dt ⟨pe, pz, .head _, .tail _ (.tail _ (.head _)), .tail _ (.head _)⟩) (rowD_ok _ _ _ _) ?_
      walk_at "z"
      exact hk _ _ ⟨_, rfl, s9.trans (s10.trans (s11.trans (.cons _ (.cons _ (.cons _ (.refl _)))))), Fo⟩
    rintro _ H11 ⟨L9, rfl, s9, F11⟩
    have ca9 := ca8.le s9
    have ct9 := ct8.le s9
    have wa9 := wa7.le (s8.trans s9)
    walk_at "y"
    refine Z.wMidS (fun σ' H' => ∃ L10, σ' = [some (.ref l), some (.ref hp), some (.ref x), some (.ref x'), some (.ref y), some (.ref y'), v6, v7, v8, some (.ref yt), none, none, none] ∧ L9.Sublist L10 ∧ Z.Fx H' L10) (fun N hk => ?_) ?_
    · walk_at "z"
      refine use_common_calendar F11 ca9 ct9 P Pt (fun h => absurd h (by rw [← meq, lcmZ_self (by omega)]; omega)) (fun _ b10 m10 l10 k10 PW y10 L10 K2 s10 c10 F12 => ?_)
      obtain ⟨rfl, rfl, rfl, rfl⟩ := plain_false.uniq (fun z _ => by simp) PW
      walk_at "z"
      refine use__law_row F12 c10 (by simp) (by simp) fun r11 L11 K3 s11 r11a F13 => ?_
      walk_at "z"
      rename_i pe He Fe pz Hz Fz po Ho Fo
      refine Z.wNeSame Fo (d := rowD 0 1 [] []) ((r11a.le (by walk_at "zsub")).dt) (RowAt.dt ⟨pe, pz, .head _, .tail _ (.tail _ (.head _)), .tail _ (.head _)⟩) (rowD_ok _ _ _ _) ?_
      obtain ⟨LF, s12, FF⟩ : ∃ LF, L9.Sublist LF ∧ Z.Fx Ho LF := ⟨_, s10.trans (s11.trans (.cons _ (.cons _ (.cons _ (.refl _))))), Fo⟩
      walk_at "z"
      refine use__law_row FF (ca9.le s12) (by omega) (by omega) fun r13 L13 K4 s13 r13a F14 => ?_
      walk_at "z"
      refine use__law_plain F14 (wa9.le (s12.trans s13)) wo0 (by omega) (by omega) fun b14 m14 l14 k14 P14 r14 L14 K5 s14 r14a F15 => ?_
      obtain ⟨rfl, rfl, rfl, rfl⟩ := P.uniq (fun _ _ => rfl) (plain_yes wo0 (by omega) (by omega) P14)
      refine Z.wNeSame F15 (r13a.le s14).dt r14a.dt (rowD_ok _ _ _ _) ?_
      walk_at "z"
      exact hk _ _ ⟨_, rfl, s12.trans (s13.trans s14), F15⟩
    rintro _ H12 ⟨L10, rfl, s10, F12⟩
    have s7t := s8.trans (s9.trans s10)
    have caA := ca7.le s7t
    have cbA := cb7.le s7t
    have waA := wa7.le s7t
    have wbA := wb7.le s7t
    have mhA := s7t.subset mh7
    clear F9 F10 F11
    walk_at "y"
    refine use__law_difference F12 waA wo wbA wo' fun o ho H13 F13 => ?_
    walk_at "y"
    refine Z.wFor ?_
    walk_at "y"
    refine use_first_difference F13 caA cbA P P' fun o2 ho2 => ?_
    obtain rfl := first_uniq (fun _ _ => rfl) ho ho2
    walk_at "y"
    refine use_first_difference F13 cbA caA P' P fun o3 ho3 => ?_
    obtain rfl := first_uniq (fun z _ => by show (!(yesI e w z == yesI e' w' z)) = (!(yesI e' w' z == yesI e w z)); rw [Bool.beq_comm]) ho ho3
    walk_at "y"
    rename_i q9 H14 F14
    refine Z.wForLi F14 (.head _) (fun i σ H' => ∃ v10, σ = [some (.ref l), some (.ref hp), some (.ref x), some (.ref x'), some (.ref y), some (.ref y'), v6, v7, some (ofO o), some (.ref yt), v10, none, none] ∧ Z.Fx H' (.ob q9 (.lst [ofO o, ofO o]) :: L10)) ⟨_, rfl, F14⟩ ?_ ?_ ?_
    · rintro i σ H' ⟨v10, rfl, F'⟩
      exact ⟨_, F', .head _⟩
    · rintro i u σ H' hu ⟨v10, rfl, F'⟩
      obtain rfl : u = ofO o := by
        rcases i with _ | _ | i
        · cases hu; rfl
        · cases hu; rfl
        · simp at hu
      cases o with
      | some z =>
        dsimp only [ofO] at *
        walk_at "z"
        rw [decide_eq_true rfl]
        walk_at "z"
        exact ⟨_, rfl, F'⟩
      | none =>
        dsimp only [ofO] at *
        walk_at "z"
        refine .inl (Z.wNeS rfl ?_)
        rw [decide_eq_true rfl]
        walk_at "z"
        exact ⟨_, rfl, F'⟩
    rintro σ H15 ⟨v10, rfl, F'⟩
    have F15 := F'.sub (L' := L10) (.cons _ (.refl _))
    clear F' F14
    walk_at "y"
    rename_i q10 H16 F16 v5 H17 F17 v50 v51
    have hbig : (0 : Int) ≤ 10 ^ Int.toNat 30 := by decide
    obtain ⟨xo, ko, ex, tx, hx⟩ : ∃ x k, atI [V.int (-1), V.int (10 ^ Int.toNat 30 + 1), V.bl true, V.non, V.str ("4" : Str), V.int (-10 ^ Int.toNat 30)] v5 = some x ∧ Z.Thing L10 x k ∧ Z.inB x (.int 0) (.int (10 ^ Int.toNat 30)) = false := by
      have : v5 = 0 ∨ v5 = 1 ∨ v5 = 2 ∨ v5 = 3 ∨ v5 = 4 ∨ v5 = 5 := by omega
      rcases this with rfl | rfl | rfl | rfl | rfl | rfl
      · exact ⟨_, _, rfl, .int _, by simp only [Z.inB, Bool.and_eq_false_iff, decide_eq_false_iff_not]; left; omega⟩
      · exact ⟨_, _, rfl, .int _, by simp only [Z.inB, Bool.and_eq_false_iff, decide_eq_false_iff_not]; right; omega⟩
      · exact ⟨_, _, rfl, .bl _, rfl⟩
      · exact ⟨_, _, rfl, .non, rfl⟩
      · exact ⟨_, _, rfl, .str _, rfl⟩
      · exact ⟨_, _, rfl, .int _, by simp only [Z.inB, Bool.and_eq_false_iff, decide_eq_false_iff_not]; left; rw [p30]; decide⟩
    refine Z.wIxL (F17.lst (.head _)) ex ?_
    have F18 := F17.sub (L' := L10) (.cons _ (.refl _))
    clear F17 F16 F15
    walk_at "z"
    refine use__law_refused F18 caA P tx fun H19 F19 => ?_
    rw [hx, if_neg (by decide)]
    walk_at "z"
    refine use__law_refused F19 caA P (.int 0) fun H20 F20 => ?_
    rw [far_is (by decide) (by decide), if_pos rfl]
    walk_at "z"
    refine use_first_difference F20 caA caA P P fun o4 ho4 => ?_
    have hno : IsFirst (fun t => !(yesI e w t == yesI e w t)) 0 none := fun j _ => by simp
    obtain rfl := first_uniq (fun _ _ => rfl) hno ho4
    walk_at "z"
    exact q _
theorem ok_law (T : Txt K mg c_BadCalendar c_BadLength c_Calendar) : Z.Ok CX0 P w K mg base "law" 9 ["_law_script"] [] (sp_law K) := by
  obtain ⟨f, fd, F, g⟩ := T.d_law
  exact Z.mkOk F g (F.binds (ps := ["_law_script"]) fun _ _ _ _ _ _ us hl => match us, hl with | [_], _ => rfl) (fn_law T F)
end
section
open PyProof.Rows
theorem all_facts {l : PySem.W.OpenLaw} {w : World} {K : PySem.W.Frag} {h : Heap} {mg : Str → Option Value} {fa : Addr} (X : K.In h) (G : h.Ns mainGlobals mg)
    (hfa : mg "law" = some (.ref fa))
    {c_BadCalendar N_BadCalendar c_BadLength N_BadLength c_Calendar f0 f1 f2 f3 f4 f5 f6 f7 f8 f9 f10 f11 f12 f13 f14 f15 f16 f17 f18 f19 f20 f21 f22 f23 f24 f25 f26 f27 f28 f29 f30 f31 f32 f33 f34 f35 f36 f37 f38 f39 f40 f41 f42 : Addr} {od0 an0 od1 an1 od2 an2 od3 an3 od4 an4 od5 an5 od6 an6 od7 an7 od8 an8 od9 an9 od10 an10 od11 an11 od12 an12 od13 an13 od14 an14 od15 an15 od16 an16 od17 an17 od18 an18 od19 an19 od20 an20 od21 an21 od22 an22 od23 an23 od24 an24 od25 an25 od26 an26 od27 an27 od28 an28 od29 an29 od30 an30 od31 an31 od32 an32 od33 an33 od34 an34 od35 an35 od36 an36 od37 an37 od38 an38 od39 an39 od40 an40 od41 an41 od42 an42 : Option Addr} {sl0 sl1 sl2 sl3 sl4 sl5 sl6 sl7 sl8 sl9 sl10 sl11 sl12 sl13 sl14 sl15 sl16 sl17 sl18 sl19 sl20 sl21 sl22 sl23 sl24 sl25 sl26 sl27 sl28 sl29 sl30 sl31 sl32 sl33 sl34 sl35 sl36 sl37 sl38 sl39 sl40 sl41 sl42 : Array (Option Value)}
    {oc0 kV0 dc0 pm0 cd0 ct0 oc1 kV1 dc1 pm1 cd1 ct1 oc2 kV2 dc2 pm2 cd2 ct2 dV2 oc3 kV3 dc3 pm3 cd3 ct3 oc4 kV4 dc4 pm4 cd4 ct4 oc5 kV5 dc5 pm5 cd5 ct5 oc6 kV6 dc6 pm6 cd6 ct6 oc7 kV7 dc7 pm7 cd7 ct7 oc8 kV8 dc8 pm8 cd8 ct8 oc9 kV9 dc9 pm9 cd9 ct9 oc10 kV10 dc10 pm10 cd10 ct10 oc11 kV11 dc11 pm11 cd11 ct11 oc12 kV12 dc12 pm12 cd12 ct12 oc13 kV13 dc13 pm13 cd13 ct13 oc14 kV14 dc14 pm14 cd14 ct14 oc15 kV15 dc15 pm15 cd15 ct15 oc16 kV16 dc16 pm16 cd16 ct16 oc17 kV17 dc17 pm17 cd17 ct17 oc18 kV18 dc18 pm18 cd18 ct18 oc19 kV19 dc19 pm19 cd19 ct19 oc20 kV20 dc20 pm20 cd20 ct20 oc21 kV21 dc21 pm21 cd21 ct21 oc22 kV22 dc22 pm22 cd22 ct22 oc23 kV23 dc23 pm23 cd23 ct23 oc24 kV24 dc24 pm24 cd24 ct24 oc25 kV25 dc25 pm25 cd25 ct25 oc26 kV26 dc26 pm26 cd26 ct26 oc27 kV27 dc27 pm27 cd27 ct27 oc28 kV28 dc28 pm28 cd28 ct28 oc29 kV29 dc29 pm29 cd29 ct29 oc30 kV30 dc30 pm30 cd30 ct30 oc31 kV31 dc31 pm31 cd31 ct31 oc32 kV32 dc32 pm32 cd32 ct32 oc33 kV33 dc33 pm33 cd33 ct33 oc34 kV34 dc34 pm34 cd34 ct34 oc35 kV35 dc35 pm35 cd35 ct35 oc36 kV36 dc36 pm36 cd36 ct36 oc37 kV37 dc37 pm37 cd37 ct37 oc38 kV38 dc38 pm38 cd38 ct38 oc39 kV39 dc39 pm39 cd39 ct39 oc40 kV40 dc40 pm40 cd40 ct40 oc41 kV41 dc41 pm41 cd41 ct41 oc42 kV42 dc42 pm42 cd42 ct42 : Value}
    {nm_BadCalendar : Str} {qq_BadCalendar : Str} {bs_BadCalendar : List Value} {bm_BadCalendar : List Value} {sn_BadCalendar : List Str} {sub_BadCalendar : List Value} {ab_BadCalendar : Bool} {col_BadCalendar : Option Bool} {dd_BadCalendar : Option Addr} {m0_BadCalendar : Option Value} {m1_BadCalendar : Option Value} {m2_BadCalendar : Option Value} {m3_BadCalendar : Option Value} {m5_BadCalendar : Option Value} {nm_BadLength : Str} {qq_BadLength : Str} {bs_BadLength : List Value} {bm_BadLength : List Value} {sn_BadLength : List Str} {sub_BadLength : List Value} {ab_BadLength : Bool} {col_BadLength : Option Bool} {dd_BadLength : Option Addr} {m0_BadLength : Option Value} {m1_BadLength : Option Value} {m2_BadLength : Option Value} {m3_BadLength : Option Value} {m5_BadLength : Option Value}
    (g_BadCalendar : PySem.W.nsIn K mainGlobals "BadCalendar" = some (some (.ref c_BadCalendar)))
    (xL_BadCalendar : K.lookup c_BadCalendar = some (excClassObj nm_BadCalendar qq_BadCalendar c_BadCalendar N_BadCalendar bs_BadCalendar bm_BadCalendar true sn_BadCalendar sub_BadCalendar ab_BadCalendar col_BadCalendar dd_BadCalendar m0_BadCalendar m1_BadCalendar m2_BadCalendar m3_BadCalendar m5_BadCalendar "ValueError.__new__"))
    (rv_BadCalendar : PySem.HandSPX.refsVE bm_BadCalendar = true)
    (sa_BadCalendar : PySem.W.findIn K (.ref c_BadCalendar) "__setattr__" = some (some (.builtin "object.__setattr__")))
    (ex_BadCalendar : PySem.W.subIn K (.ref c_BadCalendar) (.type "BaseException") = some true)
    (ty_BadCalendar : PySem.W.typeIn K (.ref c_BadCalendar) = some (.type "type"))
    (kc_BadCalendar : PySem.W.keepIn K (.ref c_BadCalendar) = true)
    (ga_BadCalendar : PySem.W.findIn K (.ref c_BadCalendar) "__getattribute__" = some (some (.builtin "BaseException.__getattribute__")))
    (gg_BadCalendar : PySem.W.findIn K (.ref c_BadCalendar) "__getattr__" = some none)
    (hd_BadCalendar : PySem.W.hasDictIn K c_BadCalendar = true)
    (ic_BadCalendar : PySem.W.isClsIn K c_BadCalendar = true)
    (ss_BadCalendar : PySem.W.subIn K (.ref c_BadCalendar) (.ref c_BadCalendar) = some true)
    (n_BadCalendar_what : PySem.W.findIn K (.ref c_BadCalendar) "what" = some none)
    (g_BadLength : PySem.W.nsIn K mainGlobals "BadLength" = some (some (.ref c_BadLength)))
    (xL_BadLength : K.lookup c_BadLength = some (excClassObj nm_BadLength qq_BadLength c_BadLength N_BadLength bs_BadLength bm_BadLength true sn_BadLength sub_BadLength ab_BadLength col_BadLength dd_BadLength m0_BadLength m1_BadLength m2_BadLength m3_BadLength m5_BadLength "ValueError.__new__"))
    (rv_BadLength : PySem.HandSPX.refsVE bm_BadLength = true)
    (sa_BadLength : PySem.W.findIn K (.ref c_BadLength) "__setattr__" = some (some (.builtin "object.__setattr__")))
    (ex_BadLength : PySem.W.subIn K (.ref c_BadLength) (.type "BaseException") = some true)
    (ty_BadLength : PySem.W.typeIn K (.ref c_BadLength) = some (.type "type"))
    (kc_BadLength : PySem.W.keepIn K (.ref c_BadLength) = true)
    (ga_BadLength : PySem.W.findIn K (.ref c_BadLength) "__getattribute__" = some (some (.builtin "BaseException.__getattribute__")))
    (gg_BadLength : PySem.W.findIn K (.ref c_BadLength) "__getattr__" = some none)
    (hd_BadLength : PySem.W.hasDictIn K c_BadLength = true)
    (ic_BadLength : PySem.W.isClsIn K c_BadLength = true)
    (ss_BadLength : PySem.W.subIn K (.ref c_BadLength) (.ref c_BadLength) = some true)
    (e0_BadLength : PySem.W.excIn K c_BadLength [.type "ValueError", .type "Exception", .type "BaseException", .type "object"] "ValueError.__new__" = true)
    (g_Calendar : PySem.W.nsIn K mainGlobals "Calendar" = some (some (.ref c_Calendar)))
    (pg_Calendar : PySem.W.plainGet K c_Calendar Str.empty = true)
    (hd_Calendar : PySem.W.hasDictIn K c_Calendar = true)
    (po_Calendar : PySem.W.plainOver K c_Calendar = true)
    (sa_Calendar : PySem.W.findIn K (.ref c_Calendar) "__setattr__" = some (some (.builtin "object.__setattr__")))
    (ha_Calendar : PySem.W.findIn K (.ref c_Calendar) "__class__" = some (some (.builtin "object.__class__")))
    (hn_Calendar : PySem.W.specialIn K (.builtin "object.__class__") "__get__" = some (some (.builtin "getset_descriptor.__get__")))
    (tk_Calendar : PySem.W.takesIn K (.builtin "object.__class__") = some true)
    (hm_Calendar : PySem.W.mroIn K c_Calendar (.type "object") = some true)
    (me_Calendar : PySem.W.kitOne K (.ref c_Calendar) (.ref c_Calendar) = some true)
    (nt_Calendar : PySem.W.kitOne K (.type "tuple") (.ref c_Calendar) = some false)
    (nl_Calendar : PySem.W.kitOne K (.type "list") (.ref c_Calendar) = some false)
    (ns_Calendar : PySem.W.kitOne K (.type "str") (.ref c_Calendar) = some false)
    (nf_Calendar : PySem.W.notFirst K c_Calendar (.type "tuple") = true)
    (n_Calendar_before : PySem.W.findIn K (.ref c_Calendar) "before" = some none)
    (n_Calendar_lengths : PySem.W.findIn K (.ref c_Calendar) "lengths" = some none)
    (n_Calendar_period : PySem.W.findIn K (.ref c_Calendar) "period" = some none)
    (n_Calendar_rests : PySem.W.findIn K (.ref c_Calendar) "rests" = some none)
    (n_Calendar__early : PySem.W.findIn K (.ref c_Calendar) "_early" = some none)
    (n_Calendar__late : PySem.W.findIn K (.ref c_Calendar) "_late" = some none)
    (z_all : PySem.W.nsIn K mainGlobals "all" = some none)
    (z_bool : PySem.W.nsIn K mainGlobals "bool" = some none)
    (z_divmod : PySem.W.nsIn K mainGlobals "divmod" = some none)
    (z_int : PySem.W.nsIn K mainGlobals "int" = some none)
    (z_isinstance : PySem.W.nsIn K mainGlobals "isinstance" = some none)
    (z_len : PySem.W.nsIn K mainGlobals "len" = some none)
    (z_list : PySem.W.nsIn K mainGlobals "list" = some none)
    (z_max : PySem.W.nsIn K mainGlobals "max" = some none)
    (z_min : PySem.W.nsIn K mainGlobals "min" = some none)
    (z_range : PySem.W.nsIn K mainGlobals "range" = some none)
    (z_reversed : PySem.W.nsIn K mainGlobals "reversed" = some none)
    (z_sorted : PySem.W.nsIn K mainGlobals "sorted" = some none)
    (z_tuple : PySem.W.nsIn K mainGlobals "tuple" = some none)
    (z_zip : PySem.W.nsIn K mainGlobals "zip" = some none)
    (zi_lcm : PySem.W.nsIn K mainGlobals "lcm" = some (some (.builtin "math.lcm")))
    (a0 : PySem.W.nsIn K mainGlobals "_law_draw" = some (some (.ref f0)))
    (l0 : K.lookup f0 = some ⟨oc0, od0, .func (PySem.W.fnOf "_law_draw" "_law_draw" (defArgs s__law_draw) (defBody s__law_draw) (defScope s__law_draw) .none kV0 dc0 pm0 an0 cd0 ct0), sl0⟩)
    (c0 : PySem.W.codeIn K cd0 "_law_draw" = true)
    (k0 : PySem.W.keepIn K (.ref f0) = true)
    (a1 : PySem.W.nsIn K mainGlobals "is_sequence" = some (some (.ref f1)))
    (l1 : K.lookup f1 = some ⟨oc1, od1, .func (PySem.W.fnOf "is_sequence" "is_sequence" (defArgs s_is_sequence) (defBody s_is_sequence) (defScope s_is_sequence) .none kV1 dc1 pm1 an1 cd1 ct1), sl1⟩)
    (c1 : PySem.W.codeIn K cd1 "is_sequence" = true)
    (k1 : PySem.W.keepIn K (.ref f1) = true)
    (a2 : PySem.W.nsIn K mainGlobals "is_whole" = some (some (.ref f2)))
    (l2 : K.lookup f2 = some ⟨oc2, od2, .func (PySem.W.fnOf "is_whole" "is_whole" (defArgs s_is_whole) (defBody s_is_whole) (defScope s_is_whole) dV2 kV2 dc2 pm2 an2 cd2 ct2), sl2⟩)
    (c2 : PySem.W.codeIn K cd2 "is_whole" = true)
    (k2 : PySem.W.keepIn K (.ref f2) = true)
    (v2 : He.dflB K dV2 [.non, .non] = true)
    (a3 : PySem.W.nsIn K mainGlobals "_are_numbers" = some (some (.ref f3)))
    (l3 : K.lookup f3 = some ⟨oc3, od3, .func (PySem.W.fnOf "_are_numbers" "_are_numbers" (defArgs s__are_numbers) (defBody s__are_numbers) (defScope s__are_numbers) .none kV3 dc3 pm3 an3 cd3 ct3), sl3⟩)
    (c3 : PySem.W.codeIn K cd3 "_are_numbers" = true)
    (k3 : PySem.W.keepIn K (.ref f3) = true)
    (a4 : PySem.W.findIn K (.ref c_BadCalendar) "__init__" = some (some (.ref f4)))
    (l4 : K.lookup f4 = some ⟨oc4, od4, .func (PySem.W.fnOf "__init__" "BadCalendar.__init__" (defArgs s_BadCalendar___init__) (defBody s_BadCalendar___init__) (defScope s_BadCalendar___init__) .none kV4 dc4 pm4 an4 cd4 ct4), sl4⟩)
    (c4 : PySem.W.codeIn K cd4 "BadCalendar.__init__" = true)
    (k4 : PySem.W.keepIn K (.ref f4) = true)
    (t4 : PySem.W.typeIn K (.ref f4) = some (.type "function"))
    (a5 : PySem.W.nsIn K mainGlobals "_check_parts" = some (some (.ref f5)))
    (l5 : K.lookup f5 = some ⟨oc5, od5, .func (PySem.W.fnOf "_check_parts" "_check_parts" (defArgs s__check_parts) (defBody s__check_parts) (defScope s__check_parts) .none kV5 dc5 pm5 an5 cd5 ct5), sl5⟩)
    (c5 : PySem.W.codeIn K cd5 "_check_parts" = true)
    (k5 : PySem.W.keepIn K (.ref f5) = true)
    (a6 : PySem.W.nsIn K mainGlobals "_law_yes" = some (some (.ref f6)))
    (l6 : K.lookup f6 = some ⟨oc6, od6, .func (PySem.W.fnOf "_law_yes" "_law_yes" (defArgs s__law_yes) (defBody s__law_yes) (defScope s__law_yes) .none kV6 dc6 pm6 an6 cd6 ct6), sl6⟩)
    (c6 : PySem.W.codeIn K cd6 "_law_yes" = true)
    (k6 : PySem.W.keepIn K (.ref f6) = true)
    (a7 : PySem.W.nsIn K mainGlobals "_law_bits" = some (some (.ref f7)))
    (l7 : K.lookup f7 = some ⟨oc7, od7, .func (PySem.W.fnOf "_law_bits" "_law_bits" (defArgs s__law_bits) (defBody s__law_bits) (defScope s__law_bits) .none kV7 dc7 pm7 an7 cd7 ct7), sl7⟩)
    (c7 : PySem.W.codeIn K cd7 "_law_bits" = true)
    (k7 : PySem.W.keepIn K (.ref f7) = true)
    (a8 : PySem.W.nsIn K mainGlobals "_law_world" = some (some (.ref f8)))
    (l8 : K.lookup f8 = some ⟨oc8, od8, .func (PySem.W.fnOf "_law_world" "_law_world" (defArgs s__law_world) (defBody s__law_world) (defScope s__law_world) .none kV8 dc8 pm8 an8 cd8 ct8), sl8⟩)
    (c8 : PySem.W.codeIn K cd8 "_law_world" = true)
    (k8 : PySem.W.keepIn K (.ref f8) = true)
    (a9 : PySem.W.nsIn K mainGlobals "_least_period" = some (some (.ref f9)))
    (l9 : K.lookup f9 = some ⟨oc9, od9, .func (PySem.W.fnOf "_least_period" "_least_period" (defArgs s__least_period) (defBody s__least_period) (defScope s__least_period) .none kV9 dc9 pm9 an9 cd9 ct9), sl9⟩)
    (c9 : PySem.W.codeIn K cd9 "_least_period" = true)
    (k9 : PySem.W.keepIn K (.ref f9) = true)
    (a10 : PySem.W.nsIn K mainGlobals "_least_before" = some (some (.ref f10)))
    (l10 : K.lookup f10 = some ⟨oc10, od10, .func (PySem.W.fnOf "_least_before" "_least_before" (defArgs s__least_before) (defBody s__least_before) (defScope s__least_before) .none kV10 dc10 pm10 an10 cd10 ct10), sl10⟩)
    (c10 : PySem.W.codeIn K cd10 "_least_before" = true)
    (k10 : PySem.W.keepIn K (.ref f10) = true)
    (a11 : PySem.W.findIn K (.ref c_Calendar) "__init__" = some (some (.ref f11)))
    (l11 : K.lookup f11 = some ⟨oc11, od11, .func (PySem.W.fnOf "__init__" "Calendar.__init__" (defArgs s_Calendar___init__) (defBody s_Calendar___init__) (defScope s_Calendar___init__) .none kV11 dc11 pm11 an11 cd11 ct11), sl11⟩)
    (c11 : PySem.W.codeIn K cd11 "Calendar.__init__" = true)
    (k11 : PySem.W.keepIn K (.ref f11) = true)
    (i11 : PySem.W.isFn K (.ref f11) = true)
    (mk_Calendar : PySem.W.makesIn K c_Calendar = true)
    (kc_Calendar : PySem.W.keepIn K (.ref c_Calendar) = true)
    (a12 : PySem.W.nsIn K mainGlobals "_law_whole" = some (some (.ref f12)))
    (l12 : K.lookup f12 = some ⟨oc12, od12, .func (PySem.W.fnOf "_law_whole" "_law_whole" (defArgs s__law_whole) (defBody s__law_whole) (defScope s__law_whole) .none kV12 dc12 pm12 an12 cd12 ct12), sl12⟩)
    (c12 : PySem.W.codeIn K cd12 "_law_whole" = true)
    (k12 : PySem.W.keepIn K (.ref f12) = true)
    (a13 : PySem.W.nsIn K mainGlobals "_law_row" = some (some (.ref f13)))
    (l13 : K.lookup f13 = some ⟨oc13, od13, .func (PySem.W.fnOf "_law_row" "_law_row" (defArgs s__law_row) (defBody s__law_row) (defScope s__law_row) .none kV13 dc13 pm13 an13 cd13 ct13), sl13⟩)
    (c13 : PySem.W.codeIn K cd13 "_law_row" = true)
    (k13 : PySem.W.keepIn K (.ref f13) = true)
    (a14 : PySem.W.nsIn K mainGlobals "_law_plain" = some (some (.ref f14)))
    (l14 : K.lookup f14 = some ⟨oc14, od14, .func (PySem.W.fnOf "_law_plain" "_law_plain" (defArgs s__law_plain) (defBody s__law_plain) (defScope s__law_plain) .none kV14 dc14 pm14 an14 cd14 ct14), sl14⟩)
    (c14 : PySem.W.codeIn K cd14 "_law_plain" = true)
    (k14 : PySem.W.keepIn K (.ref f14) = true)
    (a15 : PySem.W.nsIn K mainGlobals "_law_second" = some (some (.ref f15)))
    (l15 : K.lookup f15 = some ⟨oc15, od15, .func (PySem.W.fnOf "_law_second" "_law_second" (defArgs s__law_second) (defBody s__law_second) (defScope s__law_second) .none kV15 dc15 pm15 an15 cd15 ct15), sl15⟩)
    (c15 : PySem.W.codeIn K cd15 "_law_second" = true)
    (k15 : PySem.W.keepIn K (.ref f15) = true)
    (a16 : PySem.W.nsIn K mainGlobals "_law_one_rest" = some (some (.ref f16)))
    (l16 : K.lookup f16 = some ⟨oc16, od16, .func (PySem.W.fnOf "_law_one_rest" "_law_one_rest" (defArgs s__law_one_rest) (defBody s__law_one_rest) (defScope s__law_one_rest) .none kV16 dc16 pm16 an16 cd16 ct16), sl16⟩)
    (c16 : PySem.W.codeIn K cd16 "_law_one_rest" = true)
    (k16 : PySem.W.keepIn K (.ref f16) = true)
    (a17 : PySem.W.nsIn K mainGlobals "_law_listed" = some (some (.ref f17)))
    (l17 : K.lookup f17 = some ⟨oc17, od17, .func (PySem.W.fnOf "_law_listed" "_law_listed" (defArgs s__law_listed) (defBody s__law_listed) (defScope s__law_listed) .none kV17 dc17 pm17 an17 cd17 ct17), sl17⟩)
    (c17 : PySem.W.codeIn K cd17 "_law_listed" = true)
    (k17 : PySem.W.keepIn K (.ref f17) = true)
    (a18 : PySem.W.findIn K (.ref c_Calendar) "__contains__" = some (some (.ref f18)))
    (l18 : K.lookup f18 = some ⟨oc18, od18, .func (PySem.W.fnOf "__contains__" "Calendar.__contains__" (defArgs s_Calendar___contains__) (defBody s_Calendar___contains__) (defScope s_Calendar___contains__) .none kV18 dc18 pm18 an18 cd18 ct18), sl18⟩)
    (c18 : PySem.W.codeIn K cd18 "Calendar.__contains__" = true)
    (k18 : PySem.W.keepIn K (.ref f18) = true)
    (t18 : PySem.W.typeIn K (.ref f18) = some (.type "function"))
    (a19 : PySem.W.nsIn K mainGlobals "_law_made" = some (some (.ref f19)))
    (l19 : K.lookup f19 = some ⟨oc19, od19, .func (PySem.W.fnOf "_law_made" "_law_made" (defArgs s__law_made) (defBody s__law_made) (defScope s__law_made) .none kV19 dc19 pm19 an19 cd19 ct19), sl19⟩)
    (c19 : PySem.W.codeIn K cd19 "_law_made" = true)
    (k19 : PySem.W.keepIn K (.ref f19) = true)
    (a20 : PySem.W.nsIn K mainGlobals "check_far" = some (some (.ref f20)))
    (l20 : K.lookup f20 = some ⟨oc20, od20, .func (PySem.W.fnOf "check_far" "check_far" (defArgs s_check_far) (defBody s_check_far) (defScope s_check_far) .none kV20 dc20 pm20 an20 cd20 ct20), sl20⟩)
    (c20 : PySem.W.codeIn K cd20 "check_far" = true)
    (k20 : PySem.W.keepIn K (.ref f20) = true)
    (a21 : PySem.W.nsIn K mainGlobals "first_served" = some (some (.ref f21)))
    (l21 : K.lookup f21 = some ⟨oc21, od21, .func (PySem.W.fnOf "first_served" "first_served" (defArgs s_first_served) (defBody s_first_served) (defScope s_first_served) .none kV21 dc21 pm21 an21 cd21 ct21), sl21⟩)
    (c21 : PySem.W.codeIn K cd21 "first_served" = true)
    (k21 : PySem.W.keepIn K (.ref f21) = true)
    (a22 : PySem.W.nsIn K mainGlobals "_law_next" = some (some (.ref f22)))
    (l22 : K.lookup f22 = some ⟨oc22, od22, .func (PySem.W.fnOf "_law_next" "_law_next" (defArgs s__law_next) (defBody s__law_next) (defScope s__law_next) .none kV22 dc22 pm22 an22 cd22 ct22), sl22⟩)
    (c22 : PySem.W.codeIn K cd22 "_law_next" = true)
    (k22 : PySem.W.keepIn K (.ref f22) = true)
    (a23 : PySem.W.nsIn K mainGlobals "_law_count" = some (some (.ref f23)))
    (l23 : K.lookup f23 = some ⟨oc23, od23, .func (PySem.W.fnOf "_law_count" "_law_count" (defArgs s__law_count) (defBody s__law_count) (defScope s__law_count) .none kV23 dc23 pm23 an23 cd23 ct23), sl23⟩)
    (c23 : PySem.W.codeIn K cd23 "_law_count" = true)
    (k23 : PySem.W.keepIn K (.ref f23) = true)
    (a24 : PySem.W.nsIn K mainGlobals "serves" = some (some (.ref f24)))
    (l24 : K.lookup f24 = some ⟨oc24, od24, .func (PySem.W.fnOf "serves" "serves" (defArgs s_serves) (defBody s_serves) (defScope s_serves) .none kV24 dc24 pm24 an24 cd24 ct24), sl24⟩)
    (c24 : PySem.W.codeIn K cd24 "serves" = true)
    (k24 : PySem.W.keepIn K (.ref f24) = true)
    (a25 : PySem.W.nsIn K mainGlobals "_many_by_rests" = some (some (.ref f25)))
    (l25 : K.lookup f25 = some ⟨oc25, od25, .func (PySem.W.fnOf "_many_by_rests" "_many_by_rests" (defArgs s__many_by_rests) (defBody s__many_by_rests) (defScope s__many_by_rests) .none kV25 dc25 pm25 an25 cd25 ct25), sl25⟩)
    (c25 : PySem.W.codeIn K cd25 "_many_by_rests" = true)
    (k25 : PySem.W.keepIn K (.ref f25) = true)
    (a26 : PySem.W.nsIn K mainGlobals "count_served" = some (some (.ref f26)))
    (l26 : K.lookup f26 = some ⟨oc26, od26, .func (PySem.W.fnOf "count_served" "count_served" (defArgs s_count_served) (defBody s_count_served) (defScope s_count_served) .none kV26 dc26 pm26 an26 cd26 ct26), sl26⟩)
    (c26 : PySem.W.codeIn K cd26 "count_served" = true)
    (k26 : PySem.W.keepIn K (.ref f26) = true)
    (a27 : PySem.W.nsIn K mainGlobals "_law_asked" = some (some (.ref f27)))
    (l27 : K.lookup f27 = some ⟨oc27, od27, .func (PySem.W.fnOf "_law_asked" "_law_asked" (defArgs s__law_asked) (defBody s__law_asked) (defScope s__law_asked) .none kV27 dc27 pm27 an27 cd27 ct27), sl27⟩)
    (c27 : PySem.W.codeIn K cd27 "_law_asked" = true)
    (k27 : PySem.W.keepIn K (.ref f27) = true)
    (a28 : PySem.W.nsIn K mainGlobals "_calendar_of" = some (some (.ref f28)))
    (l28 : K.lookup f28 = some ⟨oc28, od28, .func (PySem.W.fnOf "_calendar_of" "_calendar_of" (defArgs s__calendar_of) (defBody s__calendar_of) (defScope s__calendar_of) .none kV28 dc28 pm28 an28 cd28 ct28), sl28⟩)
    (c28 : PySem.W.codeIn K cd28 "_calendar_of" = true)
    (k28 : PySem.W.keepIn K (.ref f28) = true)
    (a29 : PySem.W.nsIn K mainGlobals "_common_period" = some (some (.ref f29)))
    (l29 : K.lookup f29 = some ⟨oc29, od29, .func (PySem.W.fnOf "_common_period" "_common_period" (defArgs s__common_period) (defBody s__common_period) (defScope s__common_period) .none kV29 dc29 pm29 an29 cd29 ct29), sl29⟩)
    (c29 : PySem.W.codeIn K cd29 "_common_period" = true)
    (k29 : PySem.W.keepIn K (.ref f29) = true)
    (a30 : PySem.W.nsIn K mainGlobals "_law_multiple" = some (some (.ref f30)))
    (l30 : K.lookup f30 = some ⟨oc30, od30, .func (PySem.W.fnOf "_law_multiple" "_law_multiple" (defArgs s__law_multiple) (defBody s__law_multiple) (defScope s__law_multiple) .none kV30 dc30 pm30 an30 cd30 ct30), sl30⟩)
    (c30 : PySem.W.codeIn K cd30 "_law_multiple" = true)
    (k30 : PySem.W.keepIn K (.ref f30) = true)
    (a31 : PySem.W.nsIn K mainGlobals "_law_merged" = some (some (.ref f31)))
    (l31 : K.lookup f31 = some ⟨oc31, od31, .func (PySem.W.fnOf "_law_merged" "_law_merged" (defArgs s__law_merged) (defBody s__law_merged) (defScope s__law_merged) .none kV31 dc31 pm31 an31 cd31 ct31), sl31⟩)
    (c31 : PySem.W.codeIn K cd31 "_law_merged" = true)
    (k31 : PySem.W.keepIn K (.ref f31) = true)
    (a32 : PySem.W.nsIn K mainGlobals "joined_calendars" = some (some (.ref f32)))
    (l32 : K.lookup f32 = some ⟨oc32, od32, .func (PySem.W.fnOf "joined_calendars" "joined_calendars" (defArgs s_joined_calendars) (defBody s_joined_calendars) (defScope s_joined_calendars) .none kV32 dc32 pm32 an32 cd32 ct32), sl32⟩)
    (c32 : PySem.W.codeIn K cd32 "joined_calendars" = true)
    (k32 : PySem.W.keepIn K (.ref f32) = true)
    (a33 : PySem.W.nsIn K mainGlobals "common_calendar" = some (some (.ref f33)))
    (l33 : K.lookup f33 = some ⟨oc33, od33, .func (PySem.W.fnOf "common_calendar" "common_calendar" (defArgs s_common_calendar) (defBody s_common_calendar) (defScope s_common_calendar) .none kV33 dc33 pm33 an33 cd33 ct33), sl33⟩)
    (c33 : PySem.W.codeIn K cd33 "common_calendar" = true)
    (k33 : PySem.W.keepIn K (.ref f33) = true)
    (a34 : PySem.W.nsIn K mainGlobals "_law_put" = some (some (.ref f34)))
    (l34 : K.lookup f34 = some ⟨oc34, od34, .func (PySem.W.fnOf "_law_put" "_law_put" (defArgs s__law_put) (defBody s__law_put) (defScope s__law_put) .none kV34 dc34 pm34 an34 cd34 ct34), sl34⟩)
    (c34 : PySem.W.codeIn K cd34 "_law_put" = true)
    (k34 : PySem.W.keepIn K (.ref f34) = true)
    (a35 : PySem.W.findIn K (.ref c_Calendar) "__eq__" = some (some (.ref f35)))
    (l35 : K.lookup f35 = some ⟨oc35, od35, .func (PySem.W.fnOf "__eq__" "Calendar.__eq__" (defArgs s_Calendar___eq__) (defBody s_Calendar___eq__) (defScope s_Calendar___eq__) .none kV35 dc35 pm35 an35 cd35 ct35), sl35⟩)
    (c35 : PySem.W.codeIn K cd35 "Calendar.__eq__" = true)
    (k35 : PySem.W.keepIn K (.ref f35) = true)
    (i35 : PySem.W.isFn K (.ref f35) = true)
    (ne_Calendar : PySem.W.findIn K (.ref c_Calendar) "__ne__" = some (some (.builtin "object.__ne__")))
    (a36 : PySem.W.nsIn K mainGlobals "_law_hand" = some (some (.ref f36)))
    (l36 : K.lookup f36 = some ⟨oc36, od36, .func (PySem.W.fnOf "_law_hand" "_law_hand" (defArgs s__law_hand) (defBody s__law_hand) (defScope s__law_hand) .none kV36 dc36 pm36 an36 cd36 ct36), sl36⟩)
    (c36 : PySem.W.codeIn K cd36 "_law_hand" = true)
    (k36 : PySem.W.keepIn K (.ref f36) = true)
    (a37 : PySem.W.nsIn K mainGlobals "_law_big" = some (some (.ref f37)))
    (l37 : K.lookup f37 = some ⟨oc37, od37, .func (PySem.W.fnOf "_law_big" "_law_big" (defArgs s__law_big) (defBody s__law_big) (defScope s__law_big) .none kV37 dc37 pm37 an37 cd37 ct37), sl37⟩)
    (c37 : PySem.W.codeIn K cd37 "_law_big" = true)
    (k37 : PySem.W.keepIn K (.ref f37) = true)
    (a38 : PySem.W.nsIn K mainGlobals "first_difference" = some (some (.ref f38)))
    (l38 : K.lookup f38 = some ⟨oc38, od38, .func (PySem.W.fnOf "first_difference" "first_difference" (defArgs s_first_difference) (defBody s_first_difference) (defScope s_first_difference) .none kV38 dc38 pm38 an38 cd38 ct38), sl38⟩)
    (c38 : PySem.W.codeIn K cd38 "first_difference" = true)
    (k38 : PySem.W.keepIn K (.ref f38) = true)
    (a39 : PySem.W.nsIn K mainGlobals "_law_difference" = some (some (.ref f39)))
    (l39 : K.lookup f39 = some ⟨oc39, od39, .func (PySem.W.fnOf "_law_difference" "_law_difference" (defArgs s__law_difference) (defBody s__law_difference) (defScope s__law_difference) .none kV39 dc39 pm39 an39 cd39 ct39), sl39⟩)
    (c39 : PySem.W.codeIn K cd39 "_law_difference" = true)
    (k39 : PySem.W.keepIn K (.ref f39) = true)
    (a40 : PySem.W.nsIn K mainGlobals "_law_refused" = some (some (.ref f40)))
    (l40 : K.lookup f40 = some ⟨oc40, od40, .func (PySem.W.fnOf "_law_refused" "_law_refused" (defArgs s__law_refused) (defBody s__law_refused) (defScope s__law_refused) .none kV40 dc40 pm40 an40 cd40 ct40), sl40⟩)
    (c40 : PySem.W.codeIn K cd40 "_law_refused" = true)
    (k40 : PySem.W.keepIn K (.ref f40) = true)
    (a41 : PySem.W.nsIn K mainGlobals "opposite_calendar" = some (some (.ref f41)))
    (l41 : K.lookup f41 = some ⟨oc41, od41, .func (PySem.W.fnOf "opposite_calendar" "opposite_calendar" (defArgs s_opposite_calendar) (defBody s_opposite_calendar) (defScope s_opposite_calendar) .none kV41 dc41 pm41 an41 cd41 ct41), sl41⟩)
    (c41 : PySem.W.codeIn K cd41 "opposite_calendar" = true)
    (k41 : PySem.W.keepIn K (.ref f41) = true)
    (a42 : PySem.W.nsIn K mainGlobals "law" = some (some (.ref f42)))
    (l42 : K.lookup f42 = some ⟨oc42, od42, .func (PySem.W.fnOf "law" "law" (defArgs s_law) (defBody s_law) (defScope s_law) .none kV42 dc42 pm42 an42 cd42 ct42), sl42⟩)
    (c42 : PySem.W.codeIn K cd42 "law" = true)
    (k42 : PySem.W.keepIn K (.ref f42) = true)
    (q_BadCalendar_BadLength : PySem.W.subIn K (.ref c_BadCalendar) (.ref c_BadLength) = some false)
    (q_BadLength_BadCalendar : PySem.W.subIn K (.ref c_BadLength) (.ref c_BadCalendar) = some false)
    : ∃ fd : FuncData, (∀ (s : Shared) (u : Value), BindsTo s fd ⟨[u], []⟩ [("_law_script", u)]) ∧ ∀ base : Heap, K.In base → base.Ns mainGlobals mg → FnOk l.prog w K mg base CX0 9 fa fd ["_law_script"] (sp_law K) := by
  have e := hfa.symm.trans (PySem.W.mg_of X G a42)
  cases e
  have T : Txt K mg c_BadCalendar c_BadLength c_Calendar :=
    { g_BadCalendar := PySem.W.mg_of X G g_BadCalendar,
      x_BadCalendar := ⟨⟨⟨_, _, _, _, _, _, _, _, _, _, _, _, _, _, _, xL_BadCalendar, rv_BadCalendar⟩, sa_BadCalendar, ex_BadCalendar, ty_BadCalendar, kc_BadCalendar⟩, ⟨ga_BadCalendar, gg_BadCalendar, ex_BadCalendar, hd_BadCalendar⟩, Z.exm_of ex_BadCalendar ic_BadCalendar ty_BadCalendar ss_BadCalendar⟩,
      q_BadCalendar_BadLength := Z.exm_of ex_BadLength ic_BadLength ty_BadLength q_BadCalendar_BadLength,
      n_BadCalendar_what := n_BadCalendar_what,
      g_BadLength := PySem.W.mg_of X G g_BadLength,
      x_BadLength := ⟨⟨⟨_, _, _, _, _, _, _, _, _, _, _, _, _, _, _, xL_BadLength, rv_BadLength⟩, sa_BadLength, ex_BadLength, ty_BadLength, kc_BadLength⟩, ⟨ga_BadLength, gg_BadLength, ex_BadLength, hd_BadLength⟩, Z.exm_of ex_BadLength ic_BadLength ty_BadLength ss_BadLength⟩,
      y_BadLength := ⟨e0_BadLength, kc_BadLength, ex_BadLength, ty_BadLength⟩,
      q_BadLength_BadCalendar := Z.exm_of ex_BadCalendar ic_BadCalendar ty_BadCalendar q_BadLength_BadCalendar,
      g_Calendar := PySem.W.mg_of X G g_Calendar,
      i_Calendar := ⟨⟨pg_Calendar, hd_Calendar, po_Calendar, sa_Calendar⟩, ha_Calendar, hn_Calendar, tk_Calendar, hm_Calendar, me_Calendar, nt_Calendar, nl_Calendar, ns_Calendar, nf_Calendar⟩,
      n_Calendar_before := n_Calendar_before,
      n_Calendar_lengths := n_Calendar_lengths,
      n_Calendar_period := n_Calendar_period,
      n_Calendar_rests := n_Calendar_rests,
      n_Calendar__early := n_Calendar__early,
      n_Calendar__late := n_Calendar__late,
      b_all := PySem.W.mg_none_of X G z_all,
      b_bool := PySem.W.mg_none_of X G z_bool,
      b_divmod := PySem.W.mg_none_of X G z_divmod,
      b_int := PySem.W.mg_none_of X G z_int,
      b_isinstance := PySem.W.mg_none_of X G z_isinstance,
      b_len := PySem.W.mg_none_of X G z_len,
      b_list := PySem.W.mg_none_of X G z_list,
      b_max := PySem.W.mg_none_of X G z_max,
      b_min := PySem.W.mg_none_of X G z_min,
      b_range := PySem.W.mg_none_of X G z_range,
      b_reversed := PySem.W.mg_none_of X G z_reversed,
      b_sorted := PySem.W.mg_none_of X G z_sorted,
      b_tuple := PySem.W.mg_none_of X G z_tuple,
      b_zip := PySem.W.mg_none_of X G z_zip,
      m_lcm := PySem.W.mg_of X G zi_lcm,
      d__law_draw := ⟨f0, _, fun_mk (st := s__law_draw) l0 c0 k0, PySem.W.mg_of X G a0⟩,
      d_is_sequence := ⟨f1, _, fun_mk (st := s_is_sequence) l1 c1 k1, PySem.W.mg_of X G a1⟩,
      d_is_whole := ⟨f2, _, ⟨⟨_, _, _, _, _, _, _, _, _, _, rfl, l2, c2, He.dflB_ok v2, .inl rfl⟩, k2⟩, PySem.W.mg_of X G a2⟩,
      d__are_numbers := ⟨f3, _, fun_mk (st := s__are_numbers) l3 c3 k3, PySem.W.mg_of X G a3⟩,
      d_BadCalendar___init__ := ⟨f4, _, fun_mk (st := s_BadCalendar___init__) l4 c4 k4, ⟨a4, t4⟩⟩,
      d__check_parts := ⟨f5, _, fun_mk (st := s__check_parts) l5 c5 k5, PySem.W.mg_of X G a5⟩,
      d__law_yes := ⟨f6, _, fun_mk (st := s__law_yes) l6 c6 k6, PySem.W.mg_of X G a6⟩,
      d__law_bits := ⟨f7, _, fun_mk (st := s__law_bits) l7 c7 k7, PySem.W.mg_of X G a7⟩,
      d__law_world := ⟨f8, _, fun_mk (st := s__law_world) l8 c8 k8, PySem.W.mg_of X G a8⟩,
      d__least_period := ⟨f9, _, fun_mk (st := s__least_period) l9 c9 k9, PySem.W.mg_of X G a9⟩,
      d__least_before := ⟨f10, _, fun_mk (st := s__least_before) l10 c10 k10, PySem.W.mg_of X G a10⟩,
      d_Calendar___init__ := ⟨f11, _, fun_mk (st := s_Calendar___init__) l11 c11 k11, ⟨mk_Calendar, a11, i11, kc_Calendar⟩⟩,
      d__law_whole := ⟨f12, _, fun_mk (st := s__law_whole) l12 c12 k12, PySem.W.mg_of X G a12⟩,
      d__law_row := ⟨f13, _, fun_mk (st := s__law_row) l13 c13 k13, PySem.W.mg_of X G a13⟩,
      d__law_plain := ⟨f14, _, fun_mk (st := s__law_plain) l14 c14 k14, PySem.W.mg_of X G a14⟩,
      d__law_second := ⟨f15, _, fun_mk (st := s__law_second) l15 c15 k15, PySem.W.mg_of X G a15⟩,
      d__law_one_rest := ⟨f16, _, fun_mk (st := s__law_one_rest) l16 c16 k16, PySem.W.mg_of X G a16⟩,
      d__law_listed := ⟨f17, _, fun_mk (st := s__law_listed) l17 c17 k17, PySem.W.mg_of X G a17⟩,
      d_Calendar___contains__ := ⟨f18, _, fun_mk (st := s_Calendar___contains__) l18 c18 k18, ⟨a18, t18⟩⟩,
      d__law_made := ⟨f19, _, fun_mk (st := s__law_made) l19 c19 k19, PySem.W.mg_of X G a19⟩,
      d_check_far := ⟨f20, _, fun_mk (st := s_check_far) l20 c20 k20, PySem.W.mg_of X G a20⟩,
      d_first_served := ⟨f21, _, fun_mk (st := s_first_served) l21 c21 k21, PySem.W.mg_of X G a21⟩,
      d__law_next := ⟨f22, _, fun_mk (st := s__law_next) l22 c22 k22, PySem.W.mg_of X G a22⟩,
      d__law_count := ⟨f23, _, fun_mk (st := s__law_count) l23 c23 k23, PySem.W.mg_of X G a23⟩,
      d_serves := ⟨f24, _, fun_mk (st := s_serves) l24 c24 k24, PySem.W.mg_of X G a24⟩,
      d__many_by_rests := ⟨f25, _, fun_mk (st := s__many_by_rests) l25 c25 k25, PySem.W.mg_of X G a25⟩,
      d_count_served := ⟨f26, _, fun_mk (st := s_count_served) l26 c26 k26, PySem.W.mg_of X G a26⟩,
      d__law_asked := ⟨f27, _, fun_mk (st := s__law_asked) l27 c27 k27, PySem.W.mg_of X G a27⟩,
      d__calendar_of := ⟨f28, _, fun_mk (st := s__calendar_of) l28 c28 k28, PySem.W.mg_of X G a28⟩,
      d__common_period := ⟨f29, _, fun_mk (st := s__common_period) l29 c29 k29, PySem.W.mg_of X G a29⟩,
      d__law_multiple := ⟨f30, _, fun_mk (st := s__law_multiple) l30 c30 k30, PySem.W.mg_of X G a30⟩,
      d__law_merged := ⟨f31, _, fun_mk (st := s__law_merged) l31 c31 k31, PySem.W.mg_of X G a31⟩,
      d_joined_calendars := ⟨f32, _, fun_mk (st := s_joined_calendars) l32 c32 k32, PySem.W.mg_of X G a32⟩,
      d_common_calendar := ⟨f33, _, fun_mk (st := s_common_calendar) l33 c33 k33, PySem.W.mg_of X G a33⟩,
      d__law_put := ⟨f34, _, fun_mk (st := s__law_put) l34 c34 k34, PySem.W.mg_of X G a34⟩,
      d_Calendar___eq__ := ⟨f35, _, fun_mk (st := s_Calendar___eq__) l35 c35 k35, ⟨a35, ne_Calendar, i35, hm_Calendar⟩⟩,
      d__law_hand := ⟨f36, _, fun_mk (st := s__law_hand) l36 c36 k36, PySem.W.mg_of X G a36⟩,
      d__law_big := ⟨f37, _, fun_mk (st := s__law_big) l37 c37 k37, PySem.W.mg_of X G a37⟩,
      d_first_difference := ⟨f38, _, fun_mk (st := s_first_difference) l38 c38 k38, PySem.W.mg_of X G a38⟩,
      d__law_difference := ⟨f39, _, fun_mk (st := s__law_difference) l39 c39 k39, PySem.W.mg_of X G a39⟩,
      d__law_refused := ⟨f40, _, fun_mk (st := s__law_refused) l40 c40 k40, PySem.W.mg_of X G a40⟩,
      d_opposite_calendar := ⟨f41, _, fun_mk (st := s_opposite_calendar) l41 c41 k41, PySem.W.mg_of X G a41⟩,
      d_law := ⟨fa, _, fun_mk (st := s_law) l42 c42 k42, PySem.W.mg_of X G a42⟩ }
  exact ⟨PySem.W.fnOf "law" "law" (defArgs s_law) (defBody s_law) (defScope s_law) .none kV42 dc42 pm42 an42 cd42 ct42, fun s u => .of_eq rfl, fun base _ _ => fn_law T (fun_mk (st := s_law) l42 c42 k42)⟩
theorem walk {l : PySem.W.OpenLaw} {q : Program} {loose : List Str} {XP : (Str → Option Value) → Heap → Prop} {YP : World → Heap → Prop}
    {d : DefRec} {K : Params → PySem.W.Frag} (hn : l.most = some 63) (hdf : d.params.defaults = [])
    (hY : ∀ (w : World) (h : Heap),
          YP w h → (K w.params).In h)
    (F : ∀ (w : World) (mg : Str → Option Value) (fa : Addr) (h : Heap),
      (K w.params).In h → h.Ns mainGlobals mg → mg d.name = some (.ref fa) →
      ∃ fd : FuncData, (∀ (s : Shared) (u : Value), BindsTo s fd ⟨[u], []⟩ [("_law_script", u)]) ∧
        ∀ base : Heap, (K w.params).In base → base.Ns mainGlobals mg → FnOk l.prog w (K w.params) mg base CX0 9 fa fd ["_law_script"] (sp_law (K w.params))) :
    PySem.W.WalkO q loose XP YP l.row.toRowW
          d [] (fun f vs => PySem.call f vs) :=
  L2.walk_of (n := 63) (k := 9) (x := "_law_script") (CX := fun _ => CX0) (sp := fun w => sp_law (K w.params)) hn (by decide) hdf ⟨rfl, by decide, by decide⟩
    hY F (fun _ _ a ns hl _ hS => ⟨_, rfl, a, ns, rfl, hS, hl, fun _ => rfl⟩) fun _ _ _ _ _ z => z
end
end M
open PySem PySem.W
      PyProof.Rows
set_option
      maxRecDepth 100000 in
set_option maxHeartbeats 0 in
theorem PySem.Challenge.cw_jointsapart_k27_whole_calendars_asked_an_holds : PySem.Challenge.rw_jointsapart_k27_whole_calendars_asked_an.Holds := by
  w_on; o_law; k_head;
        (case hw => w_witness2)
  k_fill
  refine M.walk (l := PySem.Challenge.rw_jointsapart_k27_whole_calendars_asked_an) rfl rfl (fun w h Y => PySem.W.kIn_of Y) ?F
  case F =>
    intro w mg fa h KX G hmg
    refine' M.all_facts (l := PySem.Challenge.rw_jointsapart_k27_whole_calendars_asked_an) KX G hmg ?h_g_BadCalendar ?h_xL_BadCalendar ?h_rv_BadCalendar ?h_sa_BadCalendar ?h_ex_BadCalendar ?h_ty_BadCalendar ?h_kc_BadCalendar ?h_ga_BadCalendar ?h_gg_BadCalendar ?h_hd_BadCalendar ?h_ic_BadCalendar ?h_ss_BadCalendar ?h_n_BadCalendar_what ?h_g_BadLength ?h_xL_BadLength ?h_rv_BadLength ?h_sa_BadLength ?h_ex_BadLength ?h_ty_BadLength ?h_kc_BadLength ?h_ga_BadLength ?h_gg_BadLength ?h_hd_BadLength ?h_ic_BadLength ?h_ss_BadLength ?h_e0_BadLength ?h_g_Calendar ?h_pg_Calendar ?h_hd_Calendar ?h_po_Calendar ?h_sa_Calendar ?h_ha_Calendar ?h_hn_Calendar ?h_tk_Calendar ?h_hm_Calendar ?h_me_Calendar ?h_nt_Calendar ?h_nl_Calendar ?h_ns_Calendar ?h_nf_Calendar ?h_n_Calendar_before ?h_n_Calendar_lengths ?h_n_Calendar_period ?h_n_Calendar_rests ?h_n_Calendar__early ?h_n_Calendar__late ?h_z_all ?h_z_bool ?h_z_divmod ?h_z_int ?h_z_isinstance ?h_z_len ?h_z_list ?h_z_max ?h_z_min ?h_z_range ?h_z_reversed ?h_z_sorted ?h_z_tuple ?h_z_zip ?h_zi_lcm ?h_a0 ?h_l0 ?h_c0 ?h_k0 ?h_a1 ?h_l1 ?h_c1 ?h_k1 ?h_a2 ?h_l2 ?h_c2 ?h_k2 ?h_v2 ?h_a3 ?h_l3 ?h_c3 ?h_k3 ?h_a4 ?h_l4 ?h_c4 ?h_k4 ?h_t4 ?h_a5 ?h_l5 ?h_c5 ?h_k5 ?h_a6 ?h_l6 ?h_c6 ?h_k6 ?h_a7 ?h_l7 ?h_c7 ?h_k7 ?h_a8 ?h_l8 ?h_c8 ?h_k8 ?h_a9 ?h_l9 ?h_c9 ?h_k9 ?h_a10 ?h_l10 ?h_c10 ?h_k10 ?h_a11 ?h_l11 ?h_c11 ?h_k11 ?h_i11 ?h_mk_Calendar ?h_kc_Calendar ?h_a12 ?h_l12 ?h_c12 ?h_k12 ?h_a13 ?h_l13 ?h_c13 ?h_k13 ?h_a14 ?h_l14 ?h_c14 ?h_k14 ?h_a15 ?h_l15 ?h_c15 ?h_k15 ?h_a16 ?h_l16 ?h_c16 ?h_k16 ?h_a17 ?h_l17 ?h_c17 ?h_k17 ?h_a18 ?h_l18 ?h_c18 ?h_k18 ?h_t18 ?h_a19 ?h_l19 ?h_c19 ?h_k19 ?h_a20 ?h_l20 ?h_c20 ?h_k20 ?h_a21 ?h_l21 ?h_c21 ?h_k21 ?h_a22 ?h_l22 ?h_c22 ?h_k22 ?h_a23 ?h_l23 ?h_c23 ?h_k23 ?h_a24 ?h_l24 ?h_c24 ?h_k24 ?h_a25 ?h_l25 ?h_c25 ?h_k25 ?h_a26 ?h_l26 ?h_c26 ?h_k26 ?h_a27 ?h_l27 ?h_c27 ?h_k27 ?h_a28 ?h_l28 ?h_c28 ?h_k28 ?h_a29 ?h_l29 ?h_c29 ?h_k29 ?h_a30 ?h_l30 ?h_c30 ?h_k30 ?h_a31 ?h_l31 ?h_c31 ?h_k31 ?h_a32 ?h_l32 ?h_c32 ?h_k32 ?h_a33 ?h_l33 ?h_c33 ?h_k33 ?h_a34 ?h_l34 ?h_c34 ?h_k34 ?h_a35 ?h_l35 ?h_c35 ?h_k35 ?h_i35 ?h_ne_Calendar ?h_a36 ?h_l36 ?h_c36 ?h_k36 ?h_a37 ?h_l37 ?h_c37 ?h_k37 ?h_a38 ?h_l38 ?h_c38 ?h_k38 ?h_a39 ?h_l39 ?h_c39 ?h_k39 ?h_a40 ?h_l40 ?h_c40 ?h_k40 ?h_a41 ?h_l41 ?h_c41 ?h_k41 ?h_a42 ?h_l42 ?h_c42 ?h_k42 ?h_q_BadCalendar_BadLength ?h_q_BadLength_BadCalendar
    case h_g_BadCalendar => first | k_is | rfl | decide +kernel
    case h_xL_BadCalendar => first | k_is | rfl | decide +kernel
    case h_rv_BadCalendar => first | k_is | rfl | decide +kernel
    case h_sa_BadCalendar => first | k_is | rfl | decide +kernel
    case h_ex_BadCalendar => first | k_is | rfl | decide +kernel
    case h_ty_BadCalendar => first | k_is | rfl | decide +kernel
    case h_kc_BadCalendar => first | k_is | rfl | decide +kernel
    case h_ga_BadCalendar => first | k_is | rfl | decide +kernel
    case h_gg_BadCalendar => first | k_is | rfl | decide +kernel
    case h_hd_BadCalendar => first | k_is | rfl | decide +kernel
    case h_ic_BadCalendar => first | k_is | rfl | decide +kernel
    case h_ss_BadCalendar => first | k_is | rfl | decide +kernel
    case h_n_BadCalendar_what => first | k_is | rfl | decide +kernel
    case h_g_BadLength => first | k_is | rfl | decide +kernel
    case h_xL_BadLength => first | k_is | rfl | decide +kernel
    case h_rv_BadLength => first | k_is | rfl | decide +kernel
    case h_sa_BadLength => first | k_is | rfl | decide +kernel
    case h_ex_BadLength => first | k_is | rfl | decide +kernel
    case h_ty_BadLength => first | k_is | rfl | decide +kernel
    case h_kc_BadLength => first | k_is | rfl | decide +kernel
    case h_ga_BadLength => first | k_is | rfl | decide +kernel
    case h_gg_BadLength => first | k_is | rfl | decide +kernel
    case h_hd_BadLength => first | k_is | rfl | decide +kernel
    case h_ic_BadLength => first | k_is | rfl | decide +kernel
    case h_ss_BadLength => first | k_is | rfl | decide +kernel
    case h_e0_BadLength => k_exc
    case h_g_Calendar => first | k_is | rfl | decide +kernel
    case h_pg_Calendar => first | k_is | rfl | decide +kernel
    case h_hd_Calendar => first | k_is | rfl | decide +kernel
    case h_po_Calendar => first | k_is | rfl | decide +kernel
    case h_sa_Calendar => first | k_is | rfl | decide +kernel
    case h_ha_Calendar => first | k_is | rfl | decide +kernel
    case h_hn_Calendar => first | k_is | rfl | decide +kernel
    case h_tk_Calendar => first | k_is | rfl | decide +kernel
    case h_hm_Calendar => first | k_is | rfl | decide +kernel
    case h_me_Calendar => first | k_is | rfl | decide +kernel
    case h_nt_Calendar => first | k_is | rfl | decide +kernel
    case h_nl_Calendar => first | k_is | rfl | decide +kernel
    case h_ns_Calendar => first | k_is | rfl | decide +kernel
    case h_nf_Calendar => first | k_is | rfl | decide +kernel
    case h_n_Calendar_before => first | k_is | rfl | decide +kernel
    case h_n_Calendar_lengths => first | k_is | rfl | decide +kernel
    case h_n_Calendar_period => first | k_is | rfl | decide +kernel
    case h_n_Calendar_rests => first | k_is | rfl | decide +kernel
    case h_n_Calendar__early => first | k_is | rfl | decide +kernel
    case h_n_Calendar__late => first | k_is | rfl | decide +kernel
    case h_z_all => first | k_is | rfl | decide +kernel
    case h_z_bool => first | k_is | rfl | decide +kernel
    case h_z_divmod => first | k_is | rfl | decide +kernel
    case h_z_int => first | k_is | rfl | decide +kernel
    case h_z_isinstance => first | k_is | rfl | decide +kernel
    case h_z_len => first | k_is | rfl | decide +kernel
    case h_z_list => first | k_is | rfl | decide +kernel
    case h_z_max => first | k_is | rfl | decide +kernel
    case h_z_min => first | k_is | rfl | decide +kernel
    case h_z_range => first | k_is | rfl | decide +kernel
    case h_z_reversed => first | k_is | rfl | decide +kernel
    case h_z_sorted => first | k_is | rfl | decide +kernel
    case h_z_tuple => first | k_is | rfl | decide +kernel
    case h_z_zip => first | k_is | rfl | decide +kernel
    case h_zi_lcm => first | k_is | rfl | decide +kernel
    case h_a0 => first | k_is | rfl | decide +kernel
    case h_l0 => first | k_is | rfl | decide +kernel
    case h_c0 => first | k_is | rfl | decide +kernel
    case h_k0 => first | k_is | rfl | decide +kernel
    case h_a1 => first | k_is | rfl | decide +kernel
    case h_l1 => first | k_is | rfl | decide +kernel
    case h_c1 => first | k_is | rfl | decide +kernel
    case h_k1 => first | k_is | rfl | decide +kernel
    case h_a2 => first | k_is | rfl | decide +kernel
    case h_l2 => first | k_is | rfl | decide +kernel
    case h_c2 => first | k_is | rfl | decide +kernel
    case h_k2 => first | k_is | rfl | decide +kernel
    case h_v2 => first | k_is | rfl | decide +kernel
    case h_a3 => first | k_is | rfl | decide +kernel
    case h_l3 => first | k_is | rfl | decide +kernel
    case h_c3 => first | k_is | rfl | decide +kernel
    case h_k3 => first | k_is | rfl | decide +kernel
    case h_a4 => first | k_is | rfl | decide +kernel
    case h_l4 => first | k_is | rfl | decide +kernel
    case h_c4 => first | k_is | rfl | decide +kernel
    case h_k4 => first | k_is | rfl | decide +kernel
    case h_t4 => first | k_is | rfl | decide +kernel
    case h_a5 => first | k_is | rfl | decide +kernel
    case h_l5 => first | k_is | rfl | decide +kernel
    case h_c5 => first | k_is | rfl | decide +kernel
    case h_k5 => first | k_is | rfl | decide +kernel
    case h_a6 => first | k_is | rfl | decide +kernel
    case h_l6 => first | k_is | rfl | decide +kernel
    case h_c6 => first | k_is | rfl | decide +kernel
    case h_k6 => first | k_is | rfl | decide +kernel
    case h_a7 => first | k_is | rfl | decide +kernel
    case h_l7 => first | k_is | rfl | decide +kernel
    case h_c7 => first | k_is | rfl | decide +kernel
    case h_k7 => first | k_is | rfl | decide +kernel
    case h_a8 => first | k_is | rfl | decide +kernel
    case h_l8 => first | k_is | rfl | decide +kernel
    case h_c8 => first | k_is | rfl | decide +kernel
    case h_k8 => first | k_is | rfl | decide +kernel
    case h_a9 => first | k_is | rfl | decide +kernel
    case h_l9 => first | k_is | rfl | decide +kernel
    case h_c9 => first | k_is | rfl | decide +kernel
    case h_k9 => first | k_is | rfl | decide +kernel
    case h_a10 => first | k_is | rfl | decide +kernel
    case h_l10 => first | k_is | rfl | decide +kernel
    case h_c10 => first | k_is | rfl | decide +kernel
    case h_k10 => first | k_is | rfl | decide +kernel
    case h_a11 => first | k_is | rfl | decide +kernel
    case h_l11 => first | k_is | rfl | decide +kernel
    case h_c11 => first | k_is | rfl | decide +kernel
    case h_k11 => first | k_is | rfl | decide +kernel
    case h_i11 => first | k_is | rfl | decide +kernel
    case h_mk_Calendar => first | k_is | rfl | decide +kernel
    case h_kc_Calendar => first | k_is | rfl | decide +kernel
    case h_a12 => first | k_is | rfl | decide +kernel
    case h_l12 => first | k_is | rfl | decide +kernel
    case h_c12 => first | k_is | rfl | decide +kernel
    case h_k12 => first | k_is | rfl | decide +kernel
    case h_a13 => first | k_is | rfl | decide +kernel
    case h_l13 => first | k_is | rfl | decide +kernel
    case h_c13 => first | k_is | rfl | decide +kernel
    case h_k13 => first | k_is | rfl | decide +kernel
    case h_a14 => first | k_is | rfl | decide +kernel
    case h_l14 => first | k_is | rfl | decide +kernel
    case h_c14 => first | k_is | rfl | decide +kernel
    case h_k14 => first | k_is | rfl | decide +kernel
    case h_a15 => first | k_is | rfl | decide +kernel
    case h_l15 => first | k_is | rfl | decide +kernel
    case h_c15 => first | k_is | rfl | decide +kernel
    case h_k15 => first | k_is | rfl | decide +kernel
    case h_a16 => first | k_is | rfl | decide +kernel
    case h_l16 => first | k_is | rfl | decide +kernel
    case h_c16 => first | k_is | rfl | decide +kernel
    case h_k16 => first | k_is | rfl | decide +kernel
    case h_a17 => first | k_is | rfl | decide +kernel
    case h_l17 => first | k_is | rfl | decide +kernel
    case h_c17 => first | k_is | rfl | decide +kernel
    case h_k17 => first | k_is | rfl | decide +kernel
    case h_a18 => first | k_is | rfl | decide +kernel
    case h_l18 => first | k_is | rfl | decide +kernel
    case h_c18 => first | k_is | rfl | decide +kernel
    case h_k18 => first | k_is | rfl | decide +kernel
    case h_t18 => first | k_is | rfl | decide +kernel
    case h_a19 => first | k_is | rfl | decide +kernel
    case h_l19 => first | k_is | rfl | decide +kernel
    case h_c19 => first | k_is | rfl | decide +kernel
    case h_k19 => first | k_is | rfl | decide +kernel
    case h_a20 => first | k_is | rfl | decide +kernel
    case h_l20 => first | k_is | rfl | decide +kernel
    case h_c20 => first | k_is | rfl | decide +kernel
    case h_k20 => first | k_is | rfl | decide +kernel
    case h_a21 => first | k_is | rfl | decide +kernel
    case h_l21 => first | k_is | rfl | decide +kernel
    case h_c21 => first | k_is | rfl | decide +kernel
    case h_k21 => first | k_is | rfl | decide +kernel
    case h_a22 => first | k_is | rfl | decide +kernel
    case h_l22 => first | k_is | rfl | decide +kernel
    case h_c22 => first | k_is | rfl | decide +kernel
    case h_k22 => first | k_is | rfl | decide +kernel
    case h_a23 => first | k_is | rfl | decide +kernel
    case h_l23 => first | k_is | rfl | decide +kernel
    case h_c23 => first | k_is | rfl | decide +kernel
    case h_k23 => first | k_is | rfl | decide +kernel
    case h_a24 => first | k_is | rfl | decide +kernel
    case h_l24 => first | k_is | rfl | decide +kernel
    case h_c24 => first | k_is | rfl | decide +kernel
    case h_k24 => first | k_is | rfl | decide +kernel
    case h_a25 => first | k_is | rfl | decide +kernel
    case h_l25 => first | k_is | rfl | decide +kernel
    case h_c25 => first | k_is | rfl | decide +kernel
    case h_k25 => first | k_is | rfl | decide +kernel
    case h_a26 => first | k_is | rfl | decide +kernel
    case h_l26 => first | k_is | rfl | decide +kernel
    case h_c26 => first | k_is | rfl | decide +kernel
    case h_k26 => first | k_is | rfl | decide +kernel
    case h_a27 => first | k_is | rfl | decide +kernel
    case h_l27 => first | k_is | rfl | decide +kernel
    case h_c27 => first | k_is | rfl | decide +kernel
    case h_k27 => first | k_is | rfl | decide +kernel
    case h_a28 => first | k_is | rfl | decide +kernel
    case h_l28 => first | k_is | rfl | decide +kernel
    case h_c28 => first | k_is | rfl | decide +kernel
    case h_k28 => first | k_is | rfl | decide +kernel
    case h_a29 => first | k_is | rfl | decide +kernel
    case h_l29 => first | k_is | rfl | decide +kernel
    case h_c29 => first | k_is | rfl | decide +kernel
    case h_k29 => first | k_is | rfl | decide +kernel
    case h_a30 => first | k_is | rfl | decide +kernel
    case h_l30 => first | k_is | rfl | decide +kernel
    case h_c30 => first | k_is | rfl | decide +kernel
    case h_k30 => first | k_is | rfl | decide +kernel
    case h_a31 => first | k_is | rfl | decide +kernel
    case h_l31 => first | k_is | rfl | decide +kernel
    case h_c31 => first | k_is | rfl | decide +kernel
    case h_k31 => first | k_is | rfl | decide +kernel
    case h_a32 => first | k_is | rfl | decide +kernel
    case h_l32 => first | k_is | rfl | decide +kernel
    case h_c32 => first | k_is | rfl | decide +kernel
    case h_k32 => first | k_is | rfl | decide +kernel
    case h_a33 => first | k_is | rfl | decide +kernel
    case h_l33 => first | k_is | rfl | decide +kernel
    case h_c33 => first | k_is | rfl | decide +kernel
    case h_k33 => first | k_is | rfl | decide +kernel
    case h_a34 => first | k_is | rfl | decide +kernel
    case h_l34 => first | k_is | rfl | decide +kernel
    case h_c34 => first | k_is | rfl | decide +kernel
    case h_k34 => first | k_is | rfl | decide +kernel
    case h_a35 => first | k_is | rfl | decide +kernel
    case h_l35 => first | k_is | rfl | decide +kernel
    case h_c35 => first | k_is | rfl | decide +kernel
    case h_k35 => first | k_is | rfl | decide +kernel
    case h_i35 => first | k_is | rfl | decide +kernel
    case h_ne_Calendar => first | k_is | rfl | decide +kernel
    case h_a36 => first | k_is | rfl | decide +kernel
    case h_l36 => first | k_is | rfl | decide +kernel
    case h_c36 => first | k_is | rfl | decide +kernel
    case h_k36 => first | k_is | rfl | decide +kernel
    case h_a37 => first | k_is | rfl | decide +kernel
    case h_l37 => first | k_is | rfl | decide +kernel
    case h_c37 => first | k_is | rfl | decide +kernel
    case h_k37 => first | k_is | rfl | decide +kernel
    case h_a38 => first | k_is | rfl | decide +kernel
    case h_l38 => first | k_is | rfl | decide +kernel
    case h_c38 => first | k_is | rfl | decide +kernel
    case h_k38 => first | k_is | rfl | decide +kernel
    case h_a39 => first | k_is | rfl | decide +kernel
    case h_l39 => first | k_is | rfl | decide +kernel
    case h_c39 => first | k_is | rfl | decide +kernel
    case h_k39 => first | k_is | rfl | decide +kernel
    case h_a40 => first | k_is | rfl | decide +kernel
    case h_l40 => first | k_is | rfl | decide +kernel
    case h_c40 => first | k_is | rfl | decide +kernel
    case h_k40 => first | k_is | rfl | decide +kernel
    case h_a41 => first | k_is | rfl | decide +kernel
    case h_l41 => first | k_is | rfl | decide +kernel
    case h_c41 => first | k_is | rfl | decide +kernel
    case h_k41 => first | k_is | rfl | decide +kernel
    case h_a42 => first | k_is | rfl | decide +kernel
    case h_l42 => first | k_is | rfl | decide +kernel
    case h_c42 => first | k_is | rfl | decide +kernel
    case h_k42 => first | k_is | rfl | decide +kernel
    case h_q_BadCalendar_BadLength => first | k_is | rfl | decide +kernel
    case h_q_BadLength_BadCalendar => first | k_is | rfl | decide +kernel