import PyProof.Rows.All
import Wide.All
import OpenK.AllK
import Wide.FinOn
import HandS.ForMost
import HandS.IsInst
import KE.KRevSl
import PyProof.SliceStr2
import OpenK.KMore
import HandS.ForExc
import HandS.ExcInit
import HandS.ExcValue
import HandS.ExcField
import HandS.ExcIs
import HandS.DeepEq
import PySem.Challenge.RW_surerests_k02_errors
set_option Elab.async false
set_option linter.all false
set_option maxRecDepth 100000
namespace Rl
open PySem PySem.Spec PyProof.Rows L2
/-! ### globals, defs of the text, calls -/
theorem pe_glb {X : Cx} {x : Str} {p : Pos} {v : V} (hg : Gl X x) (h : ∃ u, X.mg x = some u ∧ RelV v u) (hd : (x == ("__debug__" : Str)) = false := by decide) : PE X (.Name x p) (tC v) := by
  obtain ⟨u, h1, h2⟩ := h
  exact pe_glob hg h1 h2 (hd := hd)
structure FnE (K : PySem.W.Frag) (mg : Str → Option Value) (x qual : Str) (st : Stmt) (ps : List Str) where
  f : Addr
  fd : FuncData
  F : Fun K x qual st f fd
  g : mg x = some (.ref f)
  b : Binds K fd ps []
section
variable {X : Cx} {x qual : Str} {st : Stmt} {ps : List Str} {sp : Sp} {k : Nat} {e : Expr} {es : List Expr} {p pos : Pos} {t tk : TA} {kws : List Keyword} {ks : List Str} {g : List Value → List Value → List Value} {gV : List V → List V → List V}
theorem pcall (M : FnE X.K X.mg x qual st ps) (F : FnOk X.prog X.w X.K X.mg X.base CX0 k M.f M.fd ps sp) (hr : Room k X.A) (hg : Gl X x) (hx : Passes CX0 X E0) (ha : PA X (e :: es) t)
    (hdb : (x == ("__debug__" : Str)) = false := by decide) (he : starEach (e :: es) X.env = (false, eval e X.env) :: starEach es X.env := by rfl) (hpl : (backTo pos (starEach es X.env)).any (·.1) = false := by rfl) :
    PE X (.Call (.Name x p) (e :: es) [] pos) (tCall sp [] E0 t) := pe_call F hr hg M.g M.F.kp M.b .nil hx ha (hdb := hdb) (he := he) (hpl := hpl)
theorem pcall0 (M : FnE X.K X.mg x qual st ps) (F : FnOk X.prog X.w X.K X.mg X.base CX0 k M.f M.fd ps sp) (hr : Room k X.A) (hg : Gl X x) (hx : Passes CX0 X E0)
    (hdb : (x == ("__debug__" : Str)) = false := by decide) :
    PE X (.Call (.Name x p) [] [] pos) (tCall sp [] E0 tNil) := pe_call0 F hr hg M.g M.F.kp M.b .nil hx (hdb := hdb)
/-- f(k = v, ..), keywords alone -/
theorem pe_callK0 {CX : CXT} {f : Addr} {fd : FuncData} {E : XK} (F : FnOk X.prog X.w X.K X.mg X.base CX k f fd ps sp) (hr : Room k X.A) (hg : Gl X x) (hm : X.mg x = some (.ref f)) (hk : PySem.W.keepIn X.K (.ref f) = true) (hb : KBinds X.K fd ps ks g gV) (hx : Passes CX X E)
    (hkw : PK X kws tk) (hall : (backToKw pos (keywordEach kws X.env)).all (·.1.isSome) = true := by rfl) (hks : (backToKw pos (keywordEach kws X.env)).filterMap (·.1) = ks := by rfl)
    (hdb : (x == ("__debug__" : Str)) = false := by decide)
    (hpl : ((backTo pos (starEach [] X.env)).any (·.1) || (backToKw pos (keywordEach kws X.env)).any (·.1.isNone)) = false := by rfl) :
    PE X (.Call (.Name x p) [] kws pos) (tCallK sp gV E tNil tk) := by
  refine ⟨fun pins s σ H Q I h => ?_⟩
  refine wpAny_Call_Name_kw (ld_glob I hg hm ?_ hdb)
  refine PySem.W.callWith_KW0 (h₀ := X.base) I.ok.mod.kin hk hall ?_ hpl
  refine thn (hkw.run pos pins s σ H _ I h) fun ws s2 ⟨zs, H2, I2, rz, q2⟩ => ⟨I2.kIn, ?_⟩
  rw [hks]
  exact run_fnk (us := []) (vs := []) F hr hb hx I2 .nil rz q2
end
/-! ### z[::-1] of a text -/
def revStr (z : Str) : Str := ⟨((Builtin.Str.strSliceIndices none none (-1) z.length).filterMap (z.cps[·]?)).toArray⟩
theorem revStr_length (z : Str) : (revStr z).length ≤ z.length := by
  show (((Builtin.Str.strSliceIndices none none (-1) z.length).filterMap (z.cps[·]?)).toArray).size ≤ z.length
  rw [List.size_toArray]
  refine Nat.le_trans (List.length_filterMap_le _ _) ?_
  have e : Builtin.Str.strSliceIndices none none (-1) z.length = (List.range z.length).map fun k => z.length - 1 - k := PySem.W.krv_sliceRange z.length
  rw [e, List.length_map, List.length_range]
  exact Nat.le_refl _
def tRevS (te : TE) : TE := fun σ H Q => te σ H fun x H1 => ∃ z, x = .str z ∧ z.length ≤ sizeLine ∧ Q (.str (revStr z)) H1
theorem pe_revS {X : Cx} {e : Expr} {te : TE} {k : Nat} {p1 p2 p3 pos : Pos} (he : PE X e te) : PE X (.Subscript e (.Slice none none (some (.UnaryOp .USub (.Constant (.int 1) k p1) p2)) p3) pos) (tRevS te) := by
  refine ⟨fun pins s σ H Q I h => ?_⟩
  refine Subscript_ (thn (he.run pins s σ H _ I h) fun v s1 ⟨x, H1, I1, r1, q1⟩ => ?_)
  obtain ⟨z, ex, hz, q⟩ := q1
  subst ex
  obtain ⟨t, rfl⟩ := r1
  have hst : PO X (some (.UnaryOp .USub (.Constant (.int 1) k p1) p2)) (tPart (tUn (rU fun i => .int (-i)) (tC (.int 1)))) := po_some (pe_un un_neg pe_int)
  refine wpAny_Slice (thn (po_none.run pins s1 σ H1 (fun o H2 => o = none ∧ H2 = H1) I1 ⟨rfl, rfl⟩) fun vl s2 ⟨l, H2, I2, pl, el, e2⟩ => ?_)
  subst el e2
  refine thn (po_none.run pins s2 σ H2 (fun o H3 => o = none ∧ H3 = H2) I2 ⟨rfl, rfl⟩) fun vu s3 ⟨u, H3, I3, pu, eu, e3⟩ => ?_
  subst eu e3
  refine thn (hst.run pins s3 σ H3 (fun o H4 => o = some (-1) ∧ H4 = H3) I3 ⟨1, rfl, -1, rfl, rfl, rfl⟩) fun vs s4 ⟨o, H4, I4, ps, eo, e4⟩ => ?_
  subst eo e4
  have I5 : Inv X pins σ H4 { s4 with heap := s4.heap.push { cls := .type "slice", data := .fields #[vl, vu, vs] } } := I4.kept (t' := s4.toks) fun b ob q => Heap.get?_push_of_some _ q
  obtain ⟨l', el1, el2⟩ := IsPart.raw pl
  obtain ⟨u', eu1, eu2⟩ := IsPart.raw pu
  obtain ⟨w', ew1, ew2⟩ := IsPart.raw ps
  have hl0 : l' = none := by cases l' <;> simp_all
  have hu0 : u' = none := by cases u' <;> simp_all
  obtain ⟨tw, hw0⟩ : ∃ tw, w' = some ((-1 : Int), tw) := by
    cases w' with
    | none => simp at ew2
    | some a =>
      obtain ⟨a1, a2⟩ := a
      simp at ew2
      exact ⟨a2, by rw [← ew2]⟩
  subst hl0 hu0 hw0
  have hsl : (s4.heap.push { cls := .type "slice", data := .fields #[vl, vu, vs] }).IsSlice s4.heap.objs.size none none (some ((-1 : Int), tw)) := by
    obtain ⟨o, h1, h2, h3⟩ := Heap.IsSliceOf.new s4.heap vl vu vs
    exact ⟨o, h1, h2, by rw [h3, el1, eu1, ew1] <;> rfl⟩
  show wpAny (model X.prog X.w) X.A (subscriptTail e (.Slice none none (some (.UnaryOp .USub (.Constant (.int 1) k p1) p2)) p3) (.str z t) (.ref s4.heap.objs.size)) (EP X pins σ Q) X.xe { s4 with heap := s4.heap.push { cls := .type "slice", data := .fields #[vl, vu, vs] } }
  refine tail_any (ops := [.str z t, .ref s4.heap.objs.size]) (typeIs_str _ _ _) (F.slot_str_getitem.lookup) ?_ (by with_unfolding_all rfl)
  refine wpAny_getItem_str_slice (l := none) (u := none) (st := some ((-1 : Int), tw)) hsl rfl ?_
  have hl := revStr_length z
  exact ⟨Nat.le_trans hl hz, .str _, H4, I5.tok _, ⟨_, rfl⟩, q⟩
theorem cx_K {CX : CXT} {P : Program} {w : World} {K : PySem.W.Frag} {mg : Str → Option Value} {base : Heap} {N : List Str} {qual : Str} {scope : Scope} {f : Addr} {cd : Value} {A : Around} {outer : List Env} {s : Shared} {H : Hp} {E : XK} : (cxOf CX P w K mg base N qual scope f cd A outer s H E).K = K := rfl
/-! ### joints: what holds behind a statement -/
theorem cutS {t u : TS} {D : Ends} {σ : L2.St} {H : Hp} (R : L2.St → Hp → Prop) (h : ∀ nx : L2.St → Hp → Prop, (∀ σ' H', R σ' H' → nx σ' H') → t { D with nx := nx } σ H) (hR : ∀ σ' H', R σ' H' → u D σ' H') : tSeq t u D σ H := h (u D) hR
end Rl

set_option Elab.async false
set_option linter.all false
set_option maxRecDepth 100000
namespace Dr
open PySem PySem.Spec PyProof.Rows L2 Rl
/-! ### small words -/
theorem sq {K : PySem.W.Frag} {H : Hp} {p : Addr} {xs : List V} (h : H p = some (.lst xs)) : SqL K H p xs := .inl (.inl h)
theorem st {K : PySem.W.Frag} {H : Hp} {p : Addr} {xs : List V} (h : H p = some (.tup xs)) : SqT K H p xs := .inl (.inl h)
theorem sz {n : Nat} (h : n ≤ 100000) : n ≤ sizeLine := Nat.le_trans h (by decide)
theorem szl {n : Nat} (h : n < 100000) : n < sizeLine := Nat.lt_of_lt_of_le h (by decide)
theorem at0 {xs : List V} {x : V} : atI (x :: xs) 0 = some x := atI_nat (j := 0) rfl
theorem at1 {xs : List V} {x y : V} : atI (x :: y :: xs) 1 = some y := atI_nat (j := 1) rfl
theorem at2 {xs : List V} {x y z : V} : atI (x :: y :: z :: xs) 2 = some z := atI_nat (j := 2) rfl
/-- o[i] of a list, where it is to be stored again -/
def rGetL (K : PySem.W.Frag) : V → V → Hp → VK → Prop := fun o i H Q => ∃ p xs k v, o = .ref p ∧ i = .int k ∧ 0 ≤ k ∧ SqL K H p xs ∧ xs[k.toNat]? = some v ∧ Q v H
theorem pg_list {X : Cx} : PGet X (rGetL X.K) := by
  intro pins s σ H x y v u Q I rx ry h
  obtain ⟨p, xs, k, z, rfl, rfl, h0, hq, he, q⟩ := h
  cases rx
  obtain ⟨t, rfl⟩ := ry
  obtain ⟨its, r, pl, hz⟩ := I.list hq
  obtain ⟨w, ew, rw'⟩ := r.get he
  have hl := r.length
  have hn := line63
  have hlt := (List.getElem?_eq_some_iff.mp he).1
  exact wpAny_getItem_list pl.isList h0 (by omega) (by simpa using ew) ⟨z, H, I, rw', q⟩
theorem ixN_nat {n k : Nat} (h : k < n) : ixN n (k : Int) = some k := by
  unfold ixN
  rw [if_pos (Int.natCast_nonneg k), if_pos (by omega), Int.toNat_natCast]
theorem ixN_0 {n : Nat} (h : 0 < n) : ixN n 0 = some 0 := ixN_nat (k := 0) h
theorem ixN_of {n : Nat} {z : Int} (h0 : 0 ≤ z) (h : z < n) : ixN n z = some z.toNat := by
  unfold ixN
  rw [if_pos h0, if_pos h]
/-- an item at a place within the list -/
theorem at_in {xs : List V} {z : Int} (h0 : 0 ≤ z) (h : z < xs.length) : ∃ v, v ∈ xs ∧ xs[z.toNat]? = some v ∧ atI xs z = some v := by
  have hl : z.toNat < xs.length := by omega
  have e : xs[z.toNat]? = some xs[z.toNat] := List.getElem?_eq_getElem hl
  exact ⟨xs[z.toNat], List.getElem_mem hl, e, at_of (by omega) e⟩
theorem at_ints {ns : List Int} {z : Int} (h0 : 0 ≤ z) (h : z < ns.length) : ∃ c, atI (ns.map V.int) z = some (.int c) := by
  obtain ⟨v, hm, _, h2⟩ := at_in (xs := ns.map V.int) h0 (by rw [List.length_map]; exact h)
  obtain ⟨c, _, rfl⟩ := List.mem_map.mp hm
  exact ⟨c, h2⟩
/-! ### == of ints in lists -/
theorem dp_ints {K : PySem.W.Frag} {H : Hp} : ∀ ns : List Int, DpAll K H (ns.map V.int) (ns.map PyData.int)
  | [] => .nil
  | n :: r => .cons (.int n) (dp_ints r)
theorem canLay_ints : ∀ ns : List Int, PyData.canLayAll0 (ns.map PyData.int) = true
  | [] => rfl
  | n :: r => by
    show (PyData.canLay0 (.int n) && PyData.canLayAll0 (r.map PyData.int)) = true
    rw [canLay_ints r]
    rfl
theorem depthAll_ints : ∀ ns : List Int, PyData.depthAll (ns.map PyData.int) ≤ 1
  | [] => Nat.zero_le _
  | n :: r => by
    have ih := depthAll_ints r
    simp only [List.map_cons, PyData.depthAll, PyData.depth]
    omega
theorem depth_ints (ns : List Int) : (PyData.list (ns.map PyData.int)).depth ≤ 64 := by
  have := depthAll_ints ns
  simp only [PyData.depth]
  omega
theorem shaped_ints (ns : List Int) : SeqAt.shaped (.list (ns.map PyData.int)) = true := by
  unfold SeqAt.shaped
  rw [show PyData.canLay0 (.list (ns.map PyData.int)) = PyData.canLayAll0 (ns.map PyData.int) from rfl, canLay_ints, decide_eq_true (depth_ints ns)]
  rfl
theorem eqv_nil_ints (ns : List Int) : PyData.eqv (.list (ns.map PyData.int)) (.list []) = ns.isEmpty := by
  cases ns <;> rfl
/-! ### a comprehension over a text's signs -/
theorem lc_str {x : Str} {g : TG} {tt : TT} {te : TE} {vs : List Nat} {σ : L2.St} {H1 : Hp} {D : Addr} {Qd : Hp → Prop} (Pv : Nat → Hp → Prop) (h0 : Pv 0 (upd H1 D (.lst [])))
    (hs : ∀ i c H, x.cps[i]? = some c → Pv i H → g (.str ⟨#[c]⟩) (wipe σ vs) H fun σ2 H2 => wipe σ2 vs = wipe σ vs ∧ tt σ2 H2 fun b H3 =>
      if b = true then te σ2 H3 fun y H4 => ∃ acc, H4 D = some (.lst acc) ∧ acc.length < sizeLine ∧ Pv (i + 1) (upd H4 D (.lst (acc ++ [y]))) else Pv (i + 1) H3) (hd : ∀ H, Pv x.cps.size H → Qd H) :
    ∃ W : Nat → Nat → Hp → Prop, (∃ m, W 0 m (upd H1 D (.lst []))) ∧ ∀ i m H, W i m H →
      ((Its x).stop i H ∧ Qd H) ∨ ((Its x).go i H ∧ ∃ Nx : Hp → Prop, (∀ H', Nx H' → ∃ m', m' < m ∧ W (i + 1) m' H') ∧ ∀ v H', (Its x).yld i H v H' → g v (wipe σ vs) H' fun σ2 H2 => wipe σ2 vs = wipe σ vs ∧ tt σ2 H2 fun b H3 =>
        if b = true then te σ2 H3 fun y H4 => ∃ acc, H4 D = some (.lst acc) ∧ acc.length < sizeLine ∧ Nx (upd H4 D (.lst (acc ++ [y]))) else Nx H3) := by
  refine ⟨fun i m H => m = x.cps.size - i ∧ i ≤ x.cps.size ∧ Pv i H, ⟨x.cps.size, by simp, Nat.zero_le _, h0⟩, ?_⟩
  rintro i m H ⟨rfl, hi, p⟩
  by_cases hlt : i < x.cps.size
  · refine .inr ⟨hlt, Pv (i + 1), fun H' p' => ⟨x.cps.size - (i + 1), by omega, rfl, hlt, p'⟩, fun v H' y => ?_⟩
    obtain ⟨e, c, hc, rfl⟩ := y
    subst e
    exact hs i c _ hc p
  · have e : i = x.cps.size := by omega
    subst e
    exact .inl ⟨Nat.le_refl _, hd _ p⟩
/-! ### what a draw leaves -/
/-- the cells of the drawing state's own -/
def vol (H : Hp) (s b : Addr) : Prop := b = s ∨ ∃ A B x, H s = some (.lst [.ref A, .ref B, x]) ∧ (b = A ∨ b = B)
def Kp (s : Addr) (H H' : Hp) : Prop := ∀ b o, H b = some o → ¬ vol H s b → H' b = some o ∧ ¬ vol H' s b
theorem Kp.refl {s : Addr} (H : Hp) : Kp s H H := fun _ _ h v => ⟨h, v⟩
theorem Kp.trans {s : Addr} {H H1 H2 : Hp} (a : Kp s H H1) (b : Kp s H1 H2) : Kp s H H2 := fun c o h v => b c o (a c o h v).1 (a c o h v).2
theorem Kp.of_same {s : Addr} {H H' : Hp} {u : HO} (hs : H s = some u) (h : Same H H') : Kp s H H' := fun b o e v => by
  refine ⟨h _ _ e, fun q => v ?_⟩
  rcases q with q | ⟨A, B, x, q, e⟩
  · exact .inl q
  · rw [h _ _ hs] at q
    rw [← hs] at q
    exact .inr ⟨A, B, x, q, e⟩
theorem same_new {H : Hp} {p : Addr} {o : HO} (h : H p = none) : Same H (upd H p o) := fun b x e => by
  rw [upd_ne (ne_of_none e h)]
  exact e
theorem Same.mut {H H' : Hp} {p : Addr} {o : HO} (k : Same H H') (h : H p = none) : Same H (upd H' p o) := fun b x e => by
  rw [upd_ne (ne_of_none e h)]
  exact k _ _ e
theorem vol_new {H : Hp} {s p b : Addr} {o : HO} (hs : s ≠ p) : vol (upd H p o) s b ↔ vol H s b := by
  unfold vol
  rw [upd_ne hs]
theorem Kp.new {H : Hp} {s p : Addr} {o u : HO} (hs : H s = some u) (hp : H p = none) : Kp s H (upd H p o) := fun b x h v =>
  ⟨by rw [upd_ne (ne_of_none h hp)]; exact h, fun q => v ((vol_new (ne_of_none hs hp)).mp q)⟩
/-- an object that H does not know changes -/
theorem Kp.mut {H H' : Hp} {s p : Addr} {o u : HO} (k : Kp s H H') (hs : H s = some u) (hp : H p = none) : Kp s H (upd H' p o) := fun b x h v =>
  ⟨by rw [upd_ne (ne_of_none h hp)]; exact (k b x h v).1, fun q => (k b x h v).2 ((vol_new (ne_of_none hs hp)).mp q)⟩
structure StAt (H : Hp) (s A B : Addr) (bigs cells : List Int) (n : Int) : Prop where
  st : H s = some (.lst [.ref A, .ref B, .int n])
  ha : H A = some (.lst (bigs.map V.int))
  hb : H B = some (.lst (cells.map V.int))
  ab : A ≠ B
  la : bigs.length ≤ 100
  lb : cells.length ≤ 100
  nb : 0 < cells.length
/-- a drawing state that has drawn at most N times -/
def Ds (H : Hp) (s : Addr) (N : Nat) : Prop := ∃ A B bigs cells n, StAt H s A B bigs cells (n : Nat) ∧ n ≤ N
theorem StAt.sa {H : Hp} {s A B : Addr} {bigs cells : List Int} {n : Int} (h : StAt H s A B bigs cells n) : s ≠ A := ne_of h.st h.ha (by
  intro e
  have e := HO.lst.inj e
  cases bigs with
  | nil => cases e
  | cons x r => cases e)
theorem StAt.sb {H : Hp} {s A B : Addr} {bigs cells : List Int} {n : Int} (h : StAt H s A B bigs cells n) : s ≠ B := ne_of h.st h.hb (by
  intro e
  have e := HO.lst.inj e
  cases cells with
  | nil => cases e
  | cons x r => cases e)
theorem StAt.new {H : Hp} {s A B p : Addr} {o : HO} {bigs cells : List Int} {n : Int} (h : StAt H s A B bigs cells n) (hp : H p = none) : StAt (upd H p o) s A B bigs cells n :=
  ⟨by rw [upd_ne (ne_of_none h.st hp)]; exact h.st, by rw [upd_ne (ne_of_none h.ha hp)]; exact h.ha, by rw [upd_ne (ne_of_none h.hb hp)]; exact h.hb, h.ab, h.la, h.lb, h.nb⟩
theorem StAt.volA {H : Hp} {s A B b : Addr} {bigs cells : List Int} {n : Int} (h : StAt H s A B bigs cells n) : vol H s b ↔ b = s ∨ b = A ∨ b = B := by
  unfold vol
  rw [h.st]
  constructor
  · rintro (e | ⟨A', B', x, e, q⟩)
    · exact .inl e
    · cases e
      exact .inr q
  · rintro (e | e)
    · exact .inl e
    · exact .inr ⟨_, _, _, rfl, e⟩
theorem Ds.new {H : Hp} {s p : Addr} {o : HO} {N : Nat} (h : Ds H s N) (hp : H p = none) : Ds (upd H p o) s N := by
  obtain ⟨A, B, bigs, cells, n, S, l⟩ := h
  exact ⟨A, B, bigs, cells, n, S.new hp, l⟩
theorem Ds.mono {H : Hp} {s : Addr} {N M : Nat} (h : Ds H s N) (l : N ≤ M) : Ds H s M := by
  obtain ⟨A, B, bigs, cells, n, S, l'⟩ := h
  exact ⟨A, B, bigs, cells, n, S, Nat.le_trans l' l⟩
theorem Ds.ex_ {H : Hp} {s : Addr} {N : Nat} (h : Ds H s N) : ∃ u, H s = some u := by
  obtain ⟨A, B, bigs, cells, n, S, l⟩ := h
  exact ⟨_, S.st⟩
theorem Ds.kp {H : Hp} {s p : Addr} {o : HO} {N : Nat} (h : Ds H s N) (hp : H p = none) : Kp s H (upd H p o) := by
  obtain ⟨u, hu⟩ := h.ex_
  exact Kp.new hu hp
/-- a new object is none of the state's own, whatever it holds -/
theorem Ds.nvol {H : Hp} {s p : Addr} {o : HO} {N : Nat} (h : Ds H s N) (hp : H p = none) : ¬ vol (upd H p o) s p := by
  obtain ⟨A, B, bigs, cells, n, S, l⟩ := h
  rw [(S.new hp).volA]
  rintro (e | e | e)
  · exact ne_of_none S.st hp e.symm
  · exact ne_of_none S.ha hp e.symm
  · exact ne_of_none S.hb hp e.symm
/-- a store into an object that is none of the state's own -/
theorem Ds.mut {H : Hp} {s p : Addr} {o : HO} {N : Nat} (h : Ds H s N) (hp : ¬ vol H s p) : Ds (upd H p o) s N ∧ ∀ b, vol (upd H p o) s b ↔ vol H s b := by
  obtain ⟨A, B, bigs, cells, n, S, l⟩ := h
  have hp' := hp
  rw [S.volA] at hp
  have h1 : s ≠ p := fun e => hp (.inl e.symm)
  have h2 : A ≠ p := fun e => hp (.inr (.inl e.symm))
  have h3 : B ≠ p := fun e => hp (.inr (.inr e.symm))
  have S' : StAt (upd H p o) s A B bigs cells n := ⟨by rw [upd_ne h1]; exact S.st, by rw [upd_ne h2]; exact S.ha, by rw [upd_ne h3]; exact S.hb, S.ab, S.la, S.lb, S.nb⟩
  exact ⟨⟨A, B, bigs, cells, n, S', l⟩, fun b => vol_new h1⟩
theorem cut1 (xs : List V) : cutV xs (some 1) none = xs.drop 1 := by
  unfold cutV
  rw [show HT.sIx xs.length 0 (some 1) = min 1 xs.length from HT.sIx_nat xs.length 0 1, HT.sIx_none]
  cases xs with
  | nil => rfl
  | cons x r =>
    rw [show min 1 (x :: r).length = 1 by
      rw [List.length_cons]
      omega]
    show (List.take ((x :: r).length - 1) r) = r
    rw [List.length_cons, Nat.add_sub_cancel]
    exact List.take_length
section
variable {H : Hp} {s A B q : Addr} {bigs cells new : List Int} {n m : Int}
theorem StAt.tick (S : StAt H s A B bigs cells n) : StAt (upd H s (.lst [.ref A, .ref B, .int m])) s A B bigs cells m ∧ Kp s H (upd H s (.lst [.ref A, .ref B, .int m])) := by
  have S' : StAt (upd H s (.lst [.ref A, .ref B, .int m])) s A B bigs cells m := ⟨upd_same, by rw [upd_ne S.sa.symm]; exact S.ha, by rw [upd_ne S.sb.symm]; exact S.hb, S.ab, S.la, S.lb, S.nb⟩
  refine ⟨S', fun b o hb hv => ?_⟩
  rw [S.volA] at hv
  rw [S'.volA]
  exact ⟨by rw [upd_ne (fun e => hv (.inl e))]; exact hb, hv⟩
theorem StAt.putA (S : StAt H s A B bigs cells n) (l : new.length ≤ 100) : StAt (upd H A (.lst (new.map V.int))) s A B new cells n ∧ Kp s H (upd H A (.lst (new.map V.int))) := by
  have S' : StAt (upd H A (.lst (new.map V.int))) s A B new cells n := ⟨by rw [upd_ne S.sa]; exact S.st, upd_same, by rw [upd_ne S.ab.symm]; exact S.hb, S.ab, l, S.lb, S.nb⟩
  refine ⟨S', fun b o hb hv => ?_⟩
  rw [S.volA] at hv
  rw [S'.volA]
  exact ⟨by rw [upd_ne (fun e => hv (.inr (.inl e)))]; exact hb, hv⟩
theorem StAt.next (S : StAt H s A B bigs cells n) (nq : H q = none) (l : new.length ≤ 100) :
    StAt (upd (upd H q (.lst (new.map V.int))) s (.lst [.ref q, .ref B, .int m])) s q B new cells m ∧ Kp s H (upd (upd H q (.lst (new.map V.int))) s (.lst [.ref q, .ref B, .int m])) := by
  have qs : q ≠ s := (ne_of_none S.st nq).symm
  have qB : q ≠ B := (ne_of_none S.hb nq).symm
  have S' : StAt (upd (upd H q (.lst (new.map V.int))) s (.lst [.ref q, .ref B, .int m])) s q B new cells m :=
    ⟨upd_same, by rw [upd_ne qs, upd_same], by rw [upd_ne S.sb.symm, upd_ne qB.symm]; exact S.hb, qB, l, S.lb, S.nb⟩
  refine ⟨S', fun b o hb hv => ?_⟩
  rw [S.volA] at hv
  rw [S'.volA]
  refine ⟨by rw [upd_ne (fun e => hv (.inl e)), upd_ne (ne_of_none hb nq)]; exact hb, ?_⟩
  rintro (e | e | e)
  · exact hv (.inl e)
  · exact ne_of_none hb nq e
  · exact hv (.inr (.inr e))
end
/-- a draw: a number from 0 to z - 1 -/
def spDraw : Sp := fun vs H Q _ => ∃ (s : Addr) (N : Nat) (z : Int), vs = [.ref s, .int z] ∧ Ds H s N ∧ N < 1000000 ∧ 0 < z ∧ z < 100000000 ∧
  ∀ (d : Int) (H' : Hp), 0 ≤ d → d < z → Ds H' s (N + 1) → Kp s H H' → Q (.int d) H'
def spStart (K : PySem.W.Frag) : Sp := fun vs H Q _ => ∃ (a : Addr) (ns : List Int), vs = [.ref a] ∧ SqL K H a (ns.map V.int) ∧ ns.length ≤ 63 ∧
  ∀ (s : Addr) (H' : Hp), Same H H' → H s = none → Ds H' s 0 → (∀ b o, H b = some o → ¬ vol H' s b) → Q (.ref s) H'
end Dr

set_option Elab.async false
set_option linter.all false
set_option maxRecDepth 100000
namespace Tx
open PySem PySem.Spec PyProof.Rows L2 Rl Dr
/-! ### keywords of one or more parameters -/
theorem kbinds {K : PySem.W.Frag} {x qual : Str} {st : Stmt} {f : Addr} {fd : FuncData} {ps ks : List Str} {g : List Value → List Value → List Value} {gV : List V → List V → List V} (F : Fun K x qual st f fd)
    (h : ∀ (kV doc pm : Value) (an : Option Addr) (cdv ct : Value) (us ws : List Value), (g us ws).length = ps.length → bindArgs (PySem.W.fnOf x qual (defArgs st) (defBody st) (defScope st) .none kV doc pm an cdv ct) ⟨us, ks.zip ws⟩ = pure (ps.zip (g us ws)))
    (hr : ∀ {vs : List V} {us : List Value} {zs : List V} {ws : List Value}, Vals vs us → Vals zs ws → Vals (gV vs zs) (g us ws)) : KBinds K fd ps ks g gV := by
  obtain ⟨oc, od, kV, doc, pm, an, cdv, ct, osl, rfl, lk, hcd⟩ := F.ex
  exact ⟨fun s us ws _ hl => .of_eq (h kV doc pm an cdv ct us ws hl), hr⟩
/-! ### texts of small signs -/
def OkS (z : Str) : Prop := ∀ c ∈ z.cps.toList, c < 128
theorem OkS.strOk {z : Str} (h : OkS z) : PyData.strOk z = true := by
  unfold PyData.strOk
  rw [← Array.all_toList]
  refine List.all_eq_true.mpr fun c hc => decide_eq_true ?_
  have := h c hc
  omega
theorem app_cps (a b : Str) : (a ++ b).cps.toList = a.cps.toList ++ b.cps.toList := by
  show (a.cps ++ b.cps).toList = _
  exact Array.toList_append
theorem app_len (a b : Str) : (a ++ b).length = a.length + b.length := by
  show (a.cps ++ b.cps).size = a.cps.size + b.cps.size
  exact Array.size_append
theorem OkS.app {a b : Str} (ha : OkS a) (hb : OkS b) : OkS (a ++ b) := fun c hc => by
  rw [app_cps] at hc
  rcases List.mem_append.mp hc with h | h
  · exact ha c h
  · exact hb c h
theorem okS_one {c : Nat} (h : c < 128) : OkS ⟨#[c]⟩ := fun d hd => by
  have e : d = c := by simpa using hd
  omega
theorem OkS.rev {z : Str} (h : OkS z) : OkS (revStr z) := fun c hc => by
  unfold revStr at hc
  obtain ⟨i, _, e⟩ := List.mem_filterMap.mp hc
  exact h c (Array.mem_toList_iff.mpr (Array.mem_of_getElem? e))
theorem OkS.at {z : Str} {i c : Nat} (h : OkS z) (e : z.cps[i]? = some c) : c < 128 := h c (Array.mem_toList_iff.mpr (Array.mem_of_getElem? e))
theorem okS_join {sep : Str} (hs : OkS sep) : ∀ {l : List Str}, (∀ z ∈ l, OkS z) → OkS (Str.join sep l)
  | [], _ => fun c hc => by cases hc
  | [x], h => h x (by simp)
  | x :: y :: r, h => ((h x (by simp)).app hs).app (okS_join hs (l := y :: r) fun z hz => h z (List.mem_cons_of_mem _ hz))
theorem join_len_ones {l : List Str} (h : ∀ z ∈ l, z.length = 1) : (Txt.join Str.empty l).length = l.length := by
  rw [TL.join_eq]
  induction l with
  | nil => rfl
  | cons x r ih =>
    cases r with
    | nil => exact h x (by simp)
    | cons y r =>
      show (x ++ Str.empty ++ Str.join Str.empty (y :: r)).length = _
      rw [app_len, app_len, ih fun z hz => h z (List.mem_cons_of_mem _ hz), h x (by simp)]
      show 1 + 0 + (y :: r).length = (y :: r).length + 1
      omega
/-- lists of texts -/
theorem dp_strs {K : PySem.W.Frag} {H : Hp} : ∀ zs : List Str, DpAll K H (zs.map V.str) (zs.map PyData.str)
  | [] => .nil
  | z :: r => .cons (.str z) (dp_strs r)
theorem canLay_strs : ∀ zs : List Str, (∀ z ∈ zs, OkS z) → PyData.canLayAll0 (zs.map PyData.str) = true
  | [], _ => rfl
  | z :: r, h => by
    show (PyData.strOk z && PyData.canLayAll0 (r.map PyData.str)) = true
    rw [canLay_strs r fun y hy => h y (List.mem_cons_of_mem _ hy), (h z (by simp)).strOk]
    rfl
theorem depthAll_strs : ∀ zs : List Str, PyData.depthAll (zs.map PyData.str) ≤ 1
  | [] => Nat.zero_le _
  | z :: r => by
    have ih := depthAll_strs r
    simp only [List.map_cons, PyData.depthAll, PyData.depth]
    omega
theorem shaped_strs {zs : List Str} (h : ∀ z ∈ zs, OkS z) : SeqAt.shaped (.list (zs.map PyData.str)) = true := by
  have hd : (PyData.list (zs.map PyData.str)).depth ≤ 64 := by
    have := depthAll_strs zs
    simp only [PyData.depth]
    omega
  unfold SeqAt.shaped
  rw [show PyData.canLay0 (.list (zs.map PyData.str)) = PyData.canLayAll0 (zs.map PyData.str) from rfl, canLay_strs zs h, decide_eq_true hd]
  rfl
theorem eqv_nil_strs (zs : List Str) : PyData.eqv (.list (zs.map PyData.str)) (.list []) = zs.isEmpty := by
  cases zs <;> rfl
end Tx

set_option Elab.async false
set_option linter.all false
set_option maxRecDepth 100000
set_option maxHeartbeats 4000000
namespace Ex
open PySem PySem.Spec PyProof.Rows L2 Rl Dr Tx
/-! ### an own exception class called with keywords alone: BaseException.__new__ passes them by, the own __init__ takes them -/
namespace Kw
open Builtin Builtin.ObjectAttr PySem.HandSPX
section
variable {cn qn : Str} {cA nA : Addr} {b0 mr mrB : List Value} {dc : Bool} {sl : List Str} {su : List Value} {abs : Bool} {co : Option Bool} {df : Option Addr} {z0 z1 z2 z3 z5 : Option Value} {tB nI iI : String}
variable {prog : Program} {w : World} {hp : Heap} {ge : Array GenState} {dw : Drawn} {tk : Nat} {os : OsState} {named : List (Str × Value)}
theorem fits {M : Model} {A : Around} {E : Value → Shared → Prop} {Q : Unit → Shared → Prop} (B : ExcBaseFacts tB nI iI mrB) (same : ∀ Y : String, mr.contains (.type Y) = mrB.contains (.type Y))
    (oC : hp.get? cA = some (excClassObj cn qn cA nA b0 mr dc sl su abs co df z0 z1 z2 z3 z5 nI)) (fin : Q () ⟨hp, ge, dw, tk, os⟩) : wpAny M A (checkBuiltinCall nI ⟨[.ref cA], named⟩) Q E ⟨hp, ge, dw, tk, os⟩ := by
  have inB : (Value.ref cA :: mr).contains (.type tB) = true := by simp only [List.contains_cons, same, B.hasB, Bool.or_true]
  have star := B.noStar
  simp only [checkBuiltinCall, B.newKind, B.newSplit, B.newRow]
  repeat (first
    | refine wpAny_loadPart_at oC ?_
    | (refine wpAny_isSubtype_exc oC ?_; rw [inB])
    | refine wpAny_staticBase_exc oC ?_
    | refine wpAny_madeBy_exc oC ?_
    | simp only [bne_self_eq_false, Bool.false_eq_true, if_false]
    | wp_step)
  exact fin
theorem lays {A : Around} {R : Result → Shared → Prop} (B : ExcBaseFacts tB nI iI mrB) (same : ∀ Y : String, mr.contains (.type Y) = mrB.contains (.type Y))
    (oC : hp.get? cA = some (excClassObj cn qn cA nA b0 mr dc sl su abs co df z0 z1 z2 z3 z5 nI))
    (fin : R (.ok (.ret (.ref (hp.objs.size + 1)))) ⟨(hp.push (PySem.W.kdv_tup [])).push (excO cA hp.objs.size), ge, dw, tk, os⟩) : codeAny (model prog w) A (.builtin nI ⟨[.ref cA], named⟩) R ⟨hp, ge, dw, tk, os⟩ := by
  have ends := B.ends
  have inB : (Value.ref cA :: mr).contains (.type tB) = true := by simp only [List.contains_cons, same, B.hasB, Bool.or_true]
  have noA : (Value.ref cA :: mr).contains (.type "AttributeError") = false := by simp only [List.contains_cons, same, B.noAttr]; rfl
  have noN : (Value.ref cA :: mr).contains (.type "NameError") = false := by simp only [List.contains_cons, same, B.noName]; rfl
  refine codeAny_builtinAt B.entry ?_
  unfold Builtin.«BaseException.__new__»
  refine PySem.wpAt_bind ?_
  show PySem.wpAt _ _ _ (stack >>= _) _ _ _
  refine PySem.wpAt_bind (PySem.wpAt_stack fun p0 p1 => PySem.wpAt_of_wpAny ?_)
  wp_walk
  refine PySem.wpAt_of_wpAny ?_
  rw [B.owner]
  repeat (first
    | with_reducible refine wpAny_madeHere_exc B.canon oC ?_
    | with_reducible refine wpAny_loadPart_at oC ?_
    | (with_reducible refine wpAny_isSubtype_exc oC ?_; first | rw [inB] | rw [noA] | rw [noN])
    | wp_step)
  show R _ _
  rw [Heap.size_push]
  exact fin
theorem calls {A : Around} {R : Result → Shared → Prop} {iA : Addr} (B : ExcBaseFacts tB nI iI mrB) (same : ∀ Y : String, mr.contains (.type Y) = mrB.contains (.type Y))
    (oC : hp.get? cA = some (excClassObj cn qn cA nA b0 mr dc sl su abs co df z0 z1 z2 z3 z5 nI))
    (at_ : W.Looks (model prog w) hp (typeLookup (.ref cA) "__init__") (some (.ref iA))) (bd : ∀ me, W.Looks (model prog w) hp (bindSpecial (.ref iA) me) (.ref iA, [me]))
    (body : codeAny (model prog w) (A.under (.builtin "type.__call__" ⟨[.ref cA], named⟩)) (.call (.ref iA) ⟨[.ref (hp.objs.size + 1)], named⟩) (W.InitBack (hp.objs.size + 1) R) ⟨(hp.push (PySem.W.kdv_tup [])).push (excO cA hp.objs.size), ge, dw, tk, os⟩) :
    codeAny (model prog w) A (.call (.ref cA) ⟨[], named⟩) R ⟨hp, ge, dw, tk, os⟩ := by
  have look := tc_lookup
  have bind := tc_bind (.ref cA)
  have isT : (⟨hp, ge, dw, tk, os⟩ : Shared).TypeIs (.ref cA) "type" := ⟨_, oC, rfl⟩
  have still : ∀ b o, hp.get? b = some o → ((hp.push (PySem.W.kdv_tup [])).push (excO cA hp.objs.size)).get? b = some o := fun b o q => Heap.get?_push_of_some _ (Heap.get?_push_of_some _ q)
  have oC' := still _ _ oC
  have oE : ((hp.push (PySem.W.kdv_tup [])).push (excO cA hp.objs.size)).get? (hp.objs.size + 1) = some (excO cA hp.objs.size) := by heap_get
  have own : (Value.ref cA :: mr).contains (.ref cA) = true := by simp
  refine codeAny_of_tree ?_
  show wpAny _ _ (callAny (.ref cA) _) _ _ _
  repeat (any_goals (first
    | assumption
    | with_reducible refine wpAny_loadPart_at oC ?_
    | wp_step))
  refine ⟨rfl, codeAny_call_builtin_at (Code.quiet_builtin _ (by decide +kernel)) entry_typeCall (wpAny_check_type_call_sub oC ?_)⟩
  repeat (first
    | with_reducible refine wpAny_loadPart_at oC ?_
    | with_reducible refine wpAny_madeBy_exc oC ?_
    | wp_step)
  refine codeAny_call_builtin_code (Code.quiet_builtin _ B.quiet) (fits B same oC (lays B same oC ?_))
  show wpAny _ _ _ _ _ _
  unfold isInstance
  repeat (first
    | with_reducible refine wpAny_loadPart_at oE ?_
    | (with_reducible refine wpAny_isSubtype_exc oC' ?_; rw [own])
    | wp_step)
  show wpAny _ _ (typeLookup (.ref cA) _) _ _ _
  refine (at_.keeps still).at (wpAny_holding (wpAny_bind (((bd (.ref (hp.objs.size + 1))).keeps still).at (wpAny_bind (wpAny_call (codeAny_mono body fun r s' z => ?_))))))
  cases r with
  | error er => exact z
  | ok fl =>
    cases fl with
    | ret v =>
      obtain ⟨ez, z'⟩ := z
      subst ez
      refine wpAny_pure ?_
      first
        | exact wpAny_pure (wpAny_pure z')
        | (wp_walk; exact z')
    | next => exact False.elim z
    | brk => exact False.elim z
    | cont => exact False.elim z
end
end Kw
end Ex

set_option Elab.async false
set_option linter.all false
set_option maxRecDepth 100000
set_option maxHeartbeats 4000000
namespace Ex
open PySem PySem.Spec PyProof.Rows L2 Rl Dr Tx
/-! ### an own exception as a value -/
/-- C(e, ..) -/
def tOex (C : Addr) (sp : Sp) (ta : TA) : TE := fun σ H Q => ta σ H fun vs H1 => vs.length ≤ 1000 ∧ ∀ a, H1 a = none → sp (.ref a :: vs) (upd H1 a (exo a C none)) (fun v H2 => v = .non ∧ Q (.ref a) H2) E0
section
variable {X : Cx} {C fI : Addr} {k : Nat} {fd : FuncData} {ps ks : List Str} {sp : Sp} {x : Str} {p pos : Pos} {e : Expr} {es : List Expr} {ta tk : TA} {kws : List Keyword}
theorem pe_oex (T : OexC X.K C) (iC : PySem.W.findIn X.K (.ref C) "__init__" = some (some (.ref fI))) (tI : PySem.W.typeIn X.K (.ref fI) = some (.type "function"))
    (F1 : FnOk X.prog X.w X.K X.mg X.base CX0 k fI fd ps sp) (hr : Room (k + 1) X.A) (hb : Binds X.K fd ps []) (hx : Passes CX0 X E0) (hg : Gl X x) (hm : X.mg x = some (.ref C)) (ha : PA X (e :: es) ta)
    (hdb : (x == ("__debug__" : Str)) = false := by decide) (he : starEach (e :: es) X.env = (false, eval e X.env) :: starEach es X.env := by rfl) (hpl : (backTo pos (starEach es X.env)).any (·.1) = false := by rfl) :
    PE X (.Call (.Name x p) (e :: es) [] pos) (tOex C sp ta) := by
  refine ⟨fun pins s σ H Q I h => wpAny_Call_Name_kw (ld_glob I hg hm ?_ hdb)⟩
  obtain ⟨nm, qn, N, bs, bm, sn, sub, ab, col, dd, k0, k1, k2, k3, k5, lC, lM⟩ := T.cls
  refine PySem.W.callWith_K (h₀ := X.base) I.ok.mod.kin T.kC (thn (ha.run pos pins s σ H _ I h) fun us s1 hv => ?_) he hpl
  obtain ⟨vs, H1, I1, r1, nz, go⟩ := hv
  refine ⟨I1.kIn, ?_⟩
  show wpAny _ _ (call (.ref C) us) _ _ _
  obtain ⟨m0, gs, dr, tk0, os⟩ := s1
  have free1 : H1 (m0.objs.size + 1) = none := I1.hok.fresh (Nat.le_succ _)
  have go1 := go _ free1
  have stays : ∀ b o, m0.get? b = some o → ((m0.push (PySem.W.kdv_tup us)).push (PySem.HandSPX.excO C m0.objs.size)).get? b = some o := fun b o q => Heap.get?_push_of_some _ (Heap.get?_push_of_some _ q)
  have made : ((m0.push (PySem.W.kdv_tup us)).push (PySem.HandSPX.excO C m0.objs.size)).get? (m0.objs.size + 1) = some (PySem.HandSPX.excO C m0.objs.size) := by heap_get
  have J : Inv X pins σ (upd H1 (m0.objs.size + 1) (exo (m0.objs.size + 1) C none)) ⟨(m0.push (PySem.W.kdv_tup us)).push (PySem.HandSPX.excO C m0.objs.size), gs, dr, tk0, os⟩ :=
    I1.laid (t' := tk0) (o := exo (m0.objs.size + 1) C none) stays (Nat.le_succ _) (exo_ok made)
  have rv : Vals (V.ref (m0.objs.size + 1) :: vs) (Value.ref (m0.objs.size + 1) :: us) := .cons rfl r1
  have len1 : (Value.ref (m0.objs.size + 1) :: us).length = ps.length := by rw [← rv.length]; exact F1.len _ _ _ _ go1
  have room : us.length ≤ sizeLine := by
    rw [← Paired.length r1]
    exact sz (by omega)
  have hbt := hb ⟨_, gs, dr, tk0, os⟩ (Value.ref (m0.objs.size + 1) :: us) J.kIn (by rw [List.append_nil]; exact len1)
  rw [List.append_nil] at hbt
  have body := F1.run (X.A.under (.builtin "type.__call__" ⟨.ref C :: us, []⟩)) X.stack _ _ ⟨Value.ref (m0.objs.size + 1) :: us, []⟩ _ _ _ E0 (hr.make C us []) (J.env0.make C us []) hbt rv go1
  refine wpAny_call (PySem.HandSPX.call_own F.excBase_ValueError (fun Y => PySem.HandSPX.refsVE_contains Y bm lM) (I1.kIn _ _ lC) (PySem.W.looks_findIn I1.kIn iC) (fun self => PySem.W.bind_fn I1.kIn self tI) room
    (codeAny_mono body fun r s' z => ?_))
  cases r with
  | error er => exact hx pins σ _ _ er s' J z
  | ok fl =>
    cases fl with
    | ret u =>
      obtain ⟨v, H3, J3, rv3, ev, q3⟩ := J.after z
      subst ev
      exact ⟨rv3, .ref _, H3, J3, rfl, q3⟩
    | next => exact False.elim z
    | brk => exact False.elim z
    | cont => exact False.elim z
/-- C(k = v), keywords alone: gV puts the values in the parameters' order -/
def tOexK (C : Addr) (sp : Sp) (gV : List V → List V → List V) (tk : TA) : TE := fun σ H Q => tk σ H fun zs H1 => ∀ a, H1 a = none → sp (gV [.ref a] zs) (upd H1 a (exo a C none)) (fun v H2 => v = .non ∧ Q (.ref a) H2) E0
theorem pe_oexK {g : List Value → List Value → List Value} {gV : List V → List V → List V} (T : OexC X.K C) (iC : PySem.W.findIn X.K (.ref C) "__init__" = some (some (.ref fI))) (tI : PySem.W.typeIn X.K (.ref fI) = some (.type "function"))
    (F1 : FnOk X.prog X.w X.K X.mg X.base CX0 k fI fd ps sp) (hr : Room (k + 1) X.A) (hb : KBinds X.K fd ps ks g gV) (hx : Passes CX0 X E0) (hg : Gl X x) (hm : X.mg x = some (.ref C)) (hkw : PK X kws tk)
    (hall : (backToKw pos (keywordEach kws X.env)).all (·.1.isSome) = true := by rfl) (hks : (backToKw pos (keywordEach kws X.env)).filterMap (·.1) = ks := by rfl) (hdb : (x == ("__debug__" : Str)) = false := by decide)
    (hpl : ((backTo pos (starEach [] X.env)).any (·.1) || (backToKw pos (keywordEach kws X.env)).any (·.1.isNone)) = false := by rfl) :
    PE X (.Call (.Name x p) [] kws pos) (tOexK C sp gV tk) := by
  refine ⟨fun pins s σ H Q I h => wpAny_Call_Name_kw (ld_glob I hg hm ?_ hdb)⟩
  obtain ⟨nm, qn, N, bs, bm, sn, sub, ab, col, dd, k0, k1, k2, k3, k5, lC, lM⟩ := T.cls
  refine PySem.W.callWith_KW0 (h₀ := X.base) I.ok.mod.kin T.kC hall (thn (hkw.run pos pins s σ H _ I h) fun ws s1 hv => ?_) hpl
  obtain ⟨zs, H1, I1, r1, go⟩ := hv
  refine ⟨I1.kIn, ?_⟩
  rw [hks]
  show wpAny _ _ (call (.ref C) [] (ks.zip ws)) _ _ _
  obtain ⟨m0, gs, dr, tk0, os⟩ := s1
  have free1 : H1 (m0.objs.size + 1) = none := I1.hok.fresh (Nat.le_succ _)
  have go1 := go _ free1
  have stays : ∀ b o, m0.get? b = some o → ((m0.push (PySem.W.kdv_tup [])).push (PySem.HandSPX.excO C m0.objs.size)).get? b = some o := fun b o q => Heap.get?_push_of_some _ (Heap.get?_push_of_some _ q)
  have made : ((m0.push (PySem.W.kdv_tup [])).push (PySem.HandSPX.excO C m0.objs.size)).get? (m0.objs.size + 1) = some (PySem.HandSPX.excO C m0.objs.size) := by heap_get
  have J : Inv X pins σ (upd H1 (m0.objs.size + 1) (exo (m0.objs.size + 1) C none)) ⟨(m0.push (PySem.W.kdv_tup [])).push (PySem.HandSPX.excO C m0.objs.size), gs, dr, tk0, os⟩ :=
    I1.laid (t' := tk0) (o := exo (m0.objs.size + 1) C none) stays (Nat.le_succ _) (exo_ok made)
  have rself : Vals [V.ref (m0.objs.size + 1)] [Value.ref (m0.objs.size + 1)] := .cons rfl .nil
  have rv := hb.rel rself r1
  have len1 : (g [Value.ref (m0.objs.size + 1)] ws).length = ps.length := by rw [← rv.length]; exact F1.len _ _ _ _ go1
  have hbt := hb.to ⟨_, gs, dr, tk0, os⟩ [Value.ref (m0.objs.size + 1)] ws J.kIn len1
  have body := F1.run (X.A.under (.builtin "type.__call__" ⟨[.ref C], ks.zip ws⟩)) X.stack _ _ ⟨[Value.ref (m0.objs.size + 1)], ks.zip ws⟩ _ _ _ E0 (hr.make C [] (ks.zip ws)) (J.env0.make C [] (ks.zip ws)) hbt rv go1
  refine wpAny_call (Kw.calls F.excBase_ValueError (fun Y => PySem.HandSPX.refsVE_contains Y bm lM) (I1.kIn _ _ lC) (PySem.W.looks_findIn I1.kIn iC) (fun self => PySem.W.bind_fn I1.kIn self tI)
    (codeAny_mono body fun r s' z => ?_))
  cases r with
  | error er => exact hx pins σ _ _ er s' J z
  | ok fl =>
    cases fl with
    | ret u =>
      obtain ⟨v, H3, J3, rv3, ev, q3⟩ := J.after z
      subst ev
      exact ⟨rv3, .ref _, H3, J3, rfl, q3⟩
    | next => exact False.elim z
    | brk => exact False.elim z
    | cont => exact False.elim z
/-- C() of an own exception class without an own __init__ -/
theorem pe_exc0 {bmB : List Value} {B newId initId : String} (F : ExcBaseFacts B newId initId bmB) (q : PySem.W.excIn X.K C bmB newId = true) (gC : X.mg x = some (.ref C)) (kC : PySem.W.keepIn X.K (.ref C) = true) (hg : Gl X x)
    (hdb : (x == ("__debug__" : Str)) = false := by decide) :
    PE X (.Call (.Name x p) [] [] pos) (fun _ H Q => ∀ a, H a = none → Q (.ref a) (upd H a (ExO (.ref C) a))) := by
  refine ⟨fun pins s σ H Q I h => wpAny_Call_Name_kw (ld_glob I hg gC ?_ hdb)⟩
  refine PySem.W.callWith_K0 I.kIn kC ?_
  show wpAny _ _ (call (.ref C) []) _ _ _
  obtain ⟨bm, N, nm, qn, bs, hdct, sn, sub, ab, col, dd, k0, k1, k2, k3, k5, mN, hC, hN, hni, T⟩ := exc_obj I.kIn q
  refine wpAny_call_exc_subT F T hC hN hni (fun h' a hm => ?_) (Nat.zero_le _)
  have gone : H a = none := I.hok.gone hm.new
  obtain ⟨t0, ht, _, _⟩ := hm.there
  exact ⟨.ref a, upd H a (ExO (.ref C) a), I.laidN hm.keeps hm.new gone (exO_ok ht ⟨rfl, rfl⟩ rfl rfl rfl (show 4 < 6 by decide)), rfl, h a gone⟩
/-- e.f of such an exception -/
def tOfl (K : PySem.W.Frag) (f : Str) (te : TE) : TE := fun σ H Q => te σ H fun x H1 => ∃ (a C d : Addr) (fs : List (Str × V)) (v : V), x = .ref a ∧ XfC K C ∧ PySem.W.findIn K (.ref C) f = some none ∧ H1 a = some (exo a C (some d)) ∧ H1 d = some (exd d fs) ∧ fs.lookup f = some v ∧ Q v H1
theorem pe_ofl {te : TE} {n : Str} (he : PE X e te) (hb : attributeBase e n X.env (eval e X.env) = eval e X.env := by rfl) : PE X (.Attribute e n pos) (tOfl X.K n te) := by
  refine ⟨fun pins s σ H Q I h => attr_of hb (thn (he.run pins s σ H _ I h) fun u s1 hh => ?_)⟩
  obtain ⟨x, H1, I1, rx, a, C, d, fs, v, ex, T, hno, ea, ed, l, q⟩ := hh
  subst ex
  obtain rfl : u = Value.ref a := rx
  obtain ⟨t1, ho⟩ := exo_at I1.hok ea
  obtain ⟨mA, hns, hr⟩ := exd_at I1.hok ed
  obtain ⟨od, hd, hl⟩ := lookIn_ns hns
  obtain ⟨u, hu, ru⟩ := RelO.some_of (v := v) (o := mA n) (by rw [← l]; exact hr n)
  have J : PySem.W.InstAt s1.heap a { cls := .ref C, dict := some d, data := .fields #[.ref t1, .none, .none, .none, .bool false, .none] } C (some od) := ⟨ho, rfl, rfl, hd⟩
  exact HandSPX.exc_get I1.kIn J T.ga T.gg T.exC (PySem.W.findObj_own T.hdC hno rfl (by rw [hl, hu])) (handed_of ru) ⟨v, H1, I1.tok _, ru, q⟩
end
/-! ### isinstance of such an exception -/
section
open PySem.W PySem.Calls
variable {prog : Program} {w : World} {A : Around} {E : Value → Shared → Prop} {K : PySem.W.Frag} {x D : Addr} {ox : Obj} {od : Option Obj}
theorem found_class (C : ExcC K D) : findObj K D od "__class__" = some (.bind (.builtin "getset_descriptor.__get__") (.builtin "object.__class__")) := by
  obtain ⟨cd, hc, _⟩ := any_some C.hd
  unfold findObj
  rw [hc, Option.bind_some, C.ha, Option.bind_some]
  simp [C.hn, C.ht]
theorem class_of {s : Shared} {Q : Option Value → Shared → Prop} (C : ExcC K D) (X : K.In s.heap) (I : InstAt s.heap x ox D od) (fin : Q (some (.ref D)) { s with toks := s.toks + 1 }) : wpAny (model prog w) A (getAttr? (.ref x) "__class__") Q E s := by
  obtain ⟨hp, ge, dw, tk, os⟩ := s
  have tyL := I.type (M := model prog w)
  have gaL := looks_findIn (M := model prog w) X C.hg
  have gtL := looks_findIn (M := model prog w) X C.hk
  have foL := looks_find (M := model prog w) X I (found_class C)
  have suL : Looks (model prog w) hp (isInstance (.ref x) (.type "BaseException")) true := tyL.andThen (looks_subIn X C.hs)
  have other : (Value.builtin "BaseException.__getattribute__" == Value.builtin "object.__getattribute__") = false := by decide +kernel
  have c1 : (onTheHeap (Value.ref D) && Value.builtin "BaseException.__getattribute__" == Value.builtin "object.__getattribute__") = false := by
    rw [other]
    rfl
  have c2 : (false && onTheHeap (Value.builtin "BaseException.__getattribute__")) = false := rfl
  unfold getAttr? getAttrBy? getAttrBy
  refine wpAny_bind (wpAny_mkText (wpAny_bind (wpAny_attempt (wpAny_holding (wpAny_bind (tyL.at (wpAny_bind (gaL.at ?_))))))))
  refine (show wpAny _ _ (if (onTheHeap (Value.ref D) && Value.builtin "BaseException.__getattribute__" == Value.builtin "object.__getattribute__") = true then _ else _) _ _ _ from ?_)
  rw [c1, if_neg Bool.false_ne_true]
  unfold getAttrByItsOwn hookBefore
  refine wpAny_bind ?_
  rw [if_pos (show onTheHeap (Value.ref D) = true from rfl)]
  refine gtL.at (wpAny_bind (wpAny_attempt (wpAny_holding ?_)))
  unfold callGetattribute
  rw [c2, if_neg Bool.false_ne_true]
  unfold boundAndCalled
  rw [PySem.F.excAttr_ValueError.ga.bind (.ref x)]
  refine wpAny_bind (wpAny_pure ?_)
  refine (show wpAny _ _ (call (.builtin "BaseException.__getattribute__") [.ref x, .str "__class__" tk]) _ _ _ from wpAny_call (codeAny_call_builtin PySem.F.excAttr_ValueError.ga.plain PySem.F.entry_bexc_ga ?_))
  refine @check_slot (model prog w) _ _ ⟨hp, ge, dw, tk + 1, os⟩ "BaseException.__getattribute__" "BaseException" "__getattribute__" (.ref x) [.str "__class__" tk] [] _ (by decide +kernel) (by decide +kernel) suL
    (PySem.F.args_bexc_ga (.ref x) (.str "__class__" tk)) ?_
  unfold Builtin.«object.__getattribute__»
  refine wpAny_bind (wpAny_of_eq (a := ((Value.ref x : Value), [Value.str "__class__" tk])) rfl (wpAny_bind (wpAny_pure (wpAny_bind (tyL.at (wpAny_bind (foL.at ?_)))))))
  refine (show wpAny _ _ (holding [Value.builtin "object.__class__"] (call (.builtin "getset_descriptor.__get__") [.builtin "object.__class__", .ref x, .ref D]) >>= ret) _ _ _ from ?_)
  refine wpAny_bind (wpAny_holding (wpAny_call (class_get (s := ⟨hp, ge, dw, tk + 1, os⟩) (ox := ox) (od := od) X I C.hm (wpAny_pure ?_))))
  refine (show wpAny _ _ (handedOut (.ref D)) _ _ _ from ?_)
  rw [handedOut_of (v := .ref D) rfl]
  first
    | exact wpAny_pure (wpAny_pure fin)
    | exact wpAny_pure fin
    | exact wpAny_pure (wpAny_bind (wpAny_pure (wpAny_pure fin)))
theorem kit_own (C : ExcC K D) : KitX K (.ref x) (.ref D) (fun h => InstAt h x ox D od) where
  ty := fun _ _ _ I => I.type
  it := fun _ _ X _ => by
    obtain ⟨cdD, hcD, _⟩ := any_some C.hd
    unfold clsIn at hcD
    split at hcD
    · rename_i lD
      intro A' Q' E' s' k q
      unfold isType loadHead
      exact wpAny_bind (wpAny_loadPart (k _ _ (X _ _ lD)) (wpAny_pure q))
    · cases hcD
  ne := fun h tp dd its n sl X htp => Bool.eq_false_iff.mpr fun q => by
    obtain ⟨cdD, hcD, _⟩ := any_some C.hd
    have e : D = tp := Value.ref.inj (beq_iff_eq.mp q)
    unfold clsIn at hcD
    split at hcD
    · rename_i lD
      have z := X _ _ lD
      rw [e, htp] at z
      cases z
    · cases hcD
  ca := fun X I k => class_of C X I k
end
/-- what stands at a is an exception of the class at C -/
def IsEx (H : Hp) (a C : Addr) : Prop := (∃ d fs, H a = some (exo a C (some d)) ∧ H d = some (exd d fs)) ∨ H a = some (ExO (.ref C) a)
def rIsx (K : PySem.W.Frag) : List V → Hp → VK → Prop := fun xs H Q => ∃ (a C : Addr) (c : V) (u : Value) (b : Bool), xs = [.ref a, c] ∧ ClsV c u ∧ ExcC K C ∧ IsEx H a C ∧ PySem.W.kitOne K (.ref C) u = some b ∧ Q (.bl b) H
theorem call_isx {X : Cx} : CallR X (.builtin "isinstance") (rIsx X.K) := by
  intro pins s σ H xs us Q I r h
  obtain ⟨a, C, c, u, b, rfl, k, T, hx, e, q⟩ := h
  obtain ⟨u1, u2, rfl, r1, r2⟩ := vals2 r
  have e2 := k.eq r2
  subst e2
  cases (show u1 = Value.ref a from r1)
  rcases hx with ⟨d, fs, ea, ed⟩ | ea
  · obtain ⟨t1, ho⟩ := exo_at I.hok ea
    obtain ⟨mA, hns, _⟩ := exd_at I.hok ed
    obtain ⟨od, hd, _⟩ := lookIn_ns hns
    exact PySem.W.kia_one (kit_own (od := some od) T) I.kIn ⟨ho, rfl, rfl, hd⟩ e (fun z => nomatch z) fun tk => ⟨.bl b, H, I.tok tk, rfl, q⟩
  · obtain ⟨⟨oe, vs, ho, hz, hd, _⟩, _, _⟩ := (show ObjOk X.prog X.w H s.heap a (ExO (.ref C) a) from I.hok a _ ea)
    exact PySem.W.kia_one (kit_own (od := none) T) I.kIn ⟨ho, hz.1, by unfold PySem.W.notCls; rw [hd] <;> rfl, by rw [hz.2]; trivial⟩ e (fun z => nomatch z) fun tk => ⟨.bl b, H, I.tok tk, rfl, q⟩
end Ex

set_option Elab.async false
set_option linter.all false
set_option maxRecDepth 100000
set_option maxHeartbeats 4000000
namespace Er
open PySem PySem.Spec PyProof.Rows L2 Rl Dr Tx Ex
/-! ### the package's error classes: each under the root, the root under ValueError -/
structure RootE (K : PySem.W.Frag) (mg : Str → Option Value) (name : Str) where
  C : Addr
  g : mg name = some (.ref C)
  isC : (PySem.W.clsIn K C).isSome = true
  tyC : PySem.W.typeIn K (.ref C) = some (.type "type")
/-- what is asked of the written part once -/
structure ObjCl (K : PySem.W.Frag) : Prop where
  hn : PySem.W.specialIn K (.builtin "object.__class__") "__get__" = some (some (.builtin "getset_descriptor.__get__"))
  ht : PySem.W.takesIn K (.builtin "object.__class__") = some true
structure ErrB (K : PySem.W.Frag) (mg : Str → Option Value) (name : Str) (R : Addr) where
  C : Addr
  obj : ∃ nm q N bs sn sub ab col dd k0 k1 k2 k3 k5, K.lookup C = some (excClassObj nm q C N bs (.ref R :: PySem.HandSPX.veTail) true sn sub ab col dd k0 k1 k2 k3 k5 "ValueError.__new__")
  g : mg name = some (.ref C)
  kC : PySem.W.keepIn K (.ref C) = true
  sa : PySem.W.findIn K (.ref C) "__setattr__" = some (some (.builtin "object.__setattr__"))
  ga : PySem.W.findIn K (.ref C) "__getattribute__" = some (some (.builtin "BaseException.__getattribute__"))
  gg : PySem.W.findIn K (.ref C) "__getattr__" = some none
  exC : PySem.W.subIn K (.ref C) (.type "BaseException") = some true
  tyC : PySem.W.typeIn K (.ref C) = some (.type "type")
  hd : PySem.W.hasDictIn K C = true
  ha : PySem.W.findIn K (.ref C) "__class__" = some (some (.builtin "object.__class__"))
  hm : PySem.W.mroIn K C (.type "object") = some true
structure ErrF (K : PySem.W.Frag) (mg : Str → Option Value) (name qual fld : Str) (st : Stmt) (R : Addr) extends ErrB K mg name R where
  f : Addr
  fd : FuncData
  F : Fun K "__init__" qual st f fd
  b : Binds K fd ["self", fld] []
  iC : PySem.W.findIn K (.ref C) "__init__" = some (some (.ref f))
  tI : PySem.W.typeIn K (.ref f) = some (.type "function")
  no : PySem.W.findIn K (.ref C) fld = some none
structure ErrN (K : PySem.W.Frag) (mg : Str → Option Value) (name : Str) (R : Addr) extends ErrB K mg name R where
  q : PySem.W.excIn K C PySem.HandSPX.veTail "ValueError.__new__" = true
section
variable {K : PySem.W.Frag} {mg : Str → Option Value} {name qual fld : Str} {st : Stmt} {R : Addr}
theorem ErrB.oex (E : ErrB K mg name R) : OexC K E.C := by
  obtain ⟨nm, q, N, bs, sn, sub, ab, col, dd, k0, k1, k2, k3, k5, h⟩ := E.obj
  exact ⟨⟨nm, q, N, bs, _, sn, sub, ab, col, dd, k0, k1, k2, k3, k5, h, by show PySem.HandSPX.refsVE PySem.HandSPX.veTail = true; decide +kernel⟩, E.sa, E.exC, E.tyC, E.kC⟩
theorem ErrB.xf (E : ErrB K mg name R) : XfC K E.C := ⟨E.ga, E.gg, E.exC, E.hd⟩
theorem ErrB.ec (E : ErrB K mg name R) (O : ObjCl K) : ExcC K E.C := ⟨E.ga, E.gg, E.exC, E.hd, E.ha, O.hn, O.ht, E.hm⟩
theorem ErrB.isC (E : ErrB K mg name R) : (PySem.W.clsIn K E.C).isSome = true := by
  obtain ⟨nm, q, N, bs, sn, sub, ab, col, dd, k0, k1, k2, k3, k5, h⟩ := E.obj
  unfold PySem.W.clsIn
  rw [h]
  rfl
theorem ErrB.mro (E : ErrB K mg name R) (v : Value) : PySem.W.subIn K (.ref E.C) v = some ((Value.ref E.C :: Value.ref R :: PySem.HandSPX.veTail).contains v) := by
  obtain ⟨nm, q, N, bs, sn, sub, ab, col, dd, k0, k1, k2, k3, k5, h⟩ := E.obj
  show PySem.W.mroIn K E.C v = _
  unfold PySem.W.mroIn PySem.W.clsIn
  rw [h]
  rfl
theorem ErrB.kit (E : ErrB K mg name R) {D : Addr} (h1 : (PySem.W.clsIn K D).isSome = true) (h2 : PySem.W.typeIn K (.ref D) = some (.type "type")) : PySem.W.kitOne K (.ref E.C) (.ref D) = some (decide (D = E.C) || decide (D = R)) := by
  unfold PySem.W.kitOne
  by_cases e : E.C = D
  · rw [e, if_pos (by simp), decide_eq_true rfl, Bool.true_or]
  · rw [if_neg (by simpa using e)]
    show (if ((PySem.W.clsIn K D).isSome && PySem.W.typeIn K (.ref D) == some (.type "type")) = true then PySem.W.subIn K (.ref E.C) (.ref D) else none) = _
    rw [h1, h2, if_pos (by rfl), E.mro]
    congr 1
    simp only [List.contains_cons]
    have e1 : ((Value.ref D == Value.ref E.C) : Bool) = decide (D = E.C) := by
      rw [Bool.eq_iff_iff]
      simp
    have e2 : ((Value.ref D == Value.ref R) : Bool) = decide (D = R) := by
      rw [Bool.eq_iff_iff]
      simp
    have e3 : ∀ z : String, (Value.ref D == Value.type z) = false := fun z => beq_eq_false_iff_ne.mpr fun q => nomatch q
    rw [e1, e2, e3, e3, e3, e3]
    simp
theorem ErrB.kitV (E : ErrB K mg name R) : PySem.W.kitOne K (.ref E.C) (.type "ValueError") = some true := by
  unfold PySem.W.kitOne
  rw [if_neg (by simp)]
  show (if PySem.W.kitMeta "ValueError" = true then PySem.W.subIn K (.ref E.C) (.type "ValueError") else none) = _
  rw [if_pos (by decide +kernel), E.mro]
  simp
def kb2 {α : Type} : List α → List α → List α
  | [u], [w] => [u, w]
  | _, _ => []
theorem ErrF.kb (E : ErrF K mg name qual fld st R) (h : ∀ (kV doc pm : Value) (an : Option Addr) (cdv ct u w : Value), bindArgs (PySem.W.fnOf "__init__" qual (defArgs st) (defBody st) (defScope st) .none kV doc pm an cdv ct) ⟨[u], [(fld, w)]⟩ = pure ([("self", u), (fld, w)] : List (Str × Value))) :
    KBinds K E.fd ["self", fld] [fld] kb2 kb2 := by
  refine kbinds E.F (fun kV doc pm an cdv ct us ws hl => ?_) (fun {vs us zs ws} r1 r2 => ?_)
  · unfold kb2 at hl ⊢
    split at hl
    · exact h ..
    · cases hl
  · have e1 := r1.length
    have e2 := r2.length
    by_cases hu : vs.length = 1 ∧ zs.length = 1
    · obtain ⟨h1, h2⟩ := hu
      match vs, us, zs, ws, r1, r2, h1, h2 with
      | [_], [_], [_], [_], .cons p .nil, .cons q .nil, _, _ => exact .cons p (.cons q .nil)
    · have a1 : kb2 vs zs = [] := by
        unfold kb2
        split
        · exact absurd ⟨rfl, rfl⟩ hu
        · rfl
      have a2 : kb2 us ws = [] := by
        unfold kb2
        split
        · exact absurd ⟨e1, e2⟩ hu
        · rfl
      rw [a1, a2]
      exact .nil
end
/-- __init__ of such a class -/
def spInit (C : Addr) (fld : Str) : Sp := fun vs H Q _ => ∃ (a : Addr) (v : V), vs = [.ref a, v] ∧ H a = some (exo a C none) ∧
  ∀ (H' : Hp) (d : Addr), (∀ b o, H b = some o → b ≠ a → H' b = some o) → H' a = some (exo a C (some d)) → H' d = some (exd d [(fld, v)]) → Q .non H'
theorem init_read {K : PySem.W.Frag} {mg : Str → Option Value} {name qual fld : Str} {st : Stmt} {R : Addr} (E : ErrF K mg name qual fld st R) {vs : List V} {H : Hp} {Q : VK} {X : XK} (h : spInit E.C fld vs H Q X) :
    tOst K fld (tVar 0) (tVar 1) { nx := fun _ H' => Q .non H', rt := Q } (start ["self", fld] vs) H := by
  obtain ⟨a, v, rfl, ha, k⟩ := h
  refine ⟨v, rfl, .ref a, rfl, a, E.C, rfl, E.oex, E.no, .inl ⟨ha, fun dx nd ne => ?_⟩⟩
  refine k _ dx (fun b o hb hne => ?_) upd_same ?_
  · rw [upd_ne hne, upd_ne (ne_of_none hb nd)]
    exact hb
  · rw [upd_ne ne, upd_same]
end Er

set_option Elab.async false
set_option linter.all false
set_option maxRecDepth 100000
set_option maxHeartbeats 600000
namespace K02
open PySem PySem.Spec PyProof.Rows L2 Rl Dr Tx Ex Er
def topS (i : Nat) : Stmt := PySem.Challenge.pw_surerests_k02_errors.main.body.getD i (.Pass ⟨0, 0, 0, 0⟩)
abbrev s_BadName___init__ : Stmt := inClass (topS 2) 0
abbrev N_BadName___init__ : List Str := ["self", "name"]
theorem sc_BadName___init__ : FnScope ["self", "name"] ["self", "name"] (defScope s_BadName___init__) := ⟨rfl, rfl, rfl, by decide +kernel, rfl, by decide +kernel, by decide +kernel⟩
abbrev s_UnknownName___init__ : Stmt := inClass (topS 3) 0
abbrev N_UnknownName___init__ : List Str := ["self", "name"]
theorem sc_UnknownName___init__ : FnScope ["self", "name"] ["self", "name"] (defScope s_UnknownName___init__) := ⟨rfl, rfl, rfl, by decide +kernel, rfl, by decide +kernel, by decide +kernel⟩
abbrev s_BadCount___init__ : Stmt := inClass (topS 4) 0
abbrev N_BadCount___init__ : List Str := ["self", "count"]
theorem sc_BadCount___init__ : FnScope ["self", "count"] ["self", "count"] (defScope s_BadCount___init__) := ⟨rfl, rfl, rfl, by decide +kernel, rfl, by decide +kernel, by decide +kernel⟩
abbrev s_BadTop___init__ : Stmt := inClass (topS 5) 0
abbrev N_BadTop___init__ : List Str := ["self", "value"]
theorem sc_BadTop___init__ : FnScope ["self", "value"] ["self", "value"] (defScope s_BadTop___init__) := ⟨rfl, rfl, rfl, by decide +kernel, rfl, by decide +kernel, by decide +kernel⟩
abbrev s_BadArrow___init__ : Stmt := inClass (topS 6) 0
abbrev N_BadArrow___init__ : List Str := ["self", "value"]
theorem sc_BadArrow___init__ : FnScope ["self", "value"] ["self", "value"] (defScope s_BadArrow___init__) := ⟨rfl, rfl, rfl, by decide +kernel, rfl, by decide +kernel, by decide +kernel⟩
abbrev s_BadText___init__ : Stmt := inClass (topS 7) 0
abbrev N_BadText___init__ : List Str := ["self", "text"]
theorem sc_BadText___init__ : FnScope ["self", "text"] ["self", "text"] (defScope s_BadText___init__) := ⟨rfl, rfl, rfl, by decide +kernel, rfl, by decide +kernel, by decide +kernel⟩
abbrev s_BadState___init__ : Stmt := inClass (topS 8) 0
abbrev N_BadState___init__ : List Str := ["self", "value"]
theorem sc_BadState___init__ : FnScope ["self", "value"] ["self", "value"] (defScope s_BadState___init__) := ⟨rfl, rfl, rfl, by decide +kernel, rfl, by decide +kernel, by decide +kernel⟩
abbrev s_BadTable___init__ : Stmt := inClass (topS 9) 0
abbrev N_BadTable___init__ : List Str := ["self", "name"]
theorem sc_BadTable___init__ : FnScope ["self", "name"] ["self", "name"] (defScope s_BadTable___init__) := ⟨rfl, rfl, rfl, by decide +kernel, rfl, by decide +kernel, by decide +kernel⟩
abbrev s_BadRing___init__ : Stmt := inClass (topS 10) 0
abbrev N_BadRing___init__ : List Str := ["self", "value"]
theorem sc_BadRing___init__ : FnScope ["self", "value"] ["self", "value"] (defScope s_BadRing___init__) := ⟨rfl, rfl, rfl, by decide +kernel, rfl, by decide +kernel, by decide +kernel⟩
abbrev s_BadSet___init__ : Stmt := inClass (topS 11) 0
abbrev N_BadSet___init__ : List Str := ["self", "value"]
theorem sc_BadSet___init__ : FnScope ["self", "value"] ["self", "value"] (defScope s_BadSet___init__) := ⟨rfl, rfl, rfl, by decide +kernel, rfl, by decide +kernel, by decide +kernel⟩
abbrev s_BadFact___init__ : Stmt := inClass (topS 12) 0
abbrev N_BadFact___init__ : List Str := ["self", "value"]
theorem sc_BadFact___init__ : FnScope ["self", "value"] ["self", "value"] (defScope s_BadFact___init__) := ⟨rfl, rfl, rfl, by decide +kernel, rfl, by decide +kernel, by decide +kernel⟩
abbrev s_BadNumber___init__ : Stmt := inClass (topS 13) 0
abbrev N_BadNumber___init__ : List Str := ["self", "value"]
theorem sc_BadNumber___init__ : FnScope ["self", "value"] ["self", "value"] (defScope s_BadNumber___init__) := ⟨rfl, rfl, rfl, by decide +kernel, rfl, by decide +kernel, by decide +kernel⟩
abbrev s_HasRing___init__ : Stmt := inClass (topS 14) 0
abbrev N_HasRing___init__ : List Str := ["self", "value"]
theorem sc_HasRing___init__ : FnScope ["self", "value"] ["self", "value"] (defScope s_HasRing___init__) := ⟨rfl, rfl, rfl, by decide +kernel, rfl, by decide +kernel, by decide +kernel⟩
abbrev s_HasOdd___init__ : Stmt := inClass (topS 15) 0
abbrev N_HasOdd___init__ : List Str := ["self", "value"]
theorem sc_HasOdd___init__ : FnScope ["self", "value"] ["self", "value"] (defScope s_HasOdd___init__) := ⟨rfl, rfl, rfl, by decide +kernel, rfl, by decide +kernel, by decide +kernel⟩
abbrev s_Clash___init__ : Stmt := inClass (topS 19) 0
abbrev N_Clash___init__ : List Str := ["self", "value"]
theorem sc_Clash___init__ : FnScope ["self", "value"] ["self", "value"] (defScope s_Clash___init__) := ⟨rfl, rfl, rfl, by decide +kernel, rfl, by decide +kernel, by decide +kernel⟩
abbrev s_UnlikeParts___init__ : Stmt := inClass (topS 20) 0
abbrev N_UnlikeParts___init__ : List Str := ["self", "names"]
theorem sc_UnlikeParts___init__ : FnScope ["self", "names"] ["self", "names"] (defScope s_UnlikeParts___init__) := ⟨rfl, rfl, rfl, by decide +kernel, rfl, by decide +kernel, by decide +kernel⟩
abbrev s_l_start : Stmt := topS 23
abbrev N_l_start : List Str := ["_law_script", "_law_cell"]
theorem sc_l_start : FnScope ["_law_script", "_law_cell"] ["_law_script"] (defScope s_l_start) := ⟨rfl, rfl, rfl, by decide +kernel, rfl, by decide +kernel, by decide +kernel⟩
abbrev s_l_draw : Stmt := topS 24
abbrev N_l_draw : List Str := ["_law_state", "_law_size", "_law_digit", "_law_cell", "_law_one"]
theorem sc_l_draw : FnScope ["_law_state", "_law_size", "_law_digit", "_law_cell", "_law_one"] ["_law_state", "_law_size"] (defScope s_l_draw) := ⟨rfl, rfl, rfl, by decide +kernel, rfl, by decide +kernel, by decide +kernel⟩
abbrev s_l_signs : Stmt := topS 25
abbrev N_l_signs : List Str := ["_law_signs_here"]
theorem sc_l_signs : FnScope ["_law_signs_here"] [] (defScope s_l_signs) := ⟨rfl, rfl, rfl, by decide +kernel, rfl, by decide +kernel, by decide +kernel⟩
abbrev s_l_sorts : Stmt := topS 26
abbrev N_l_sorts : List Str := ["_law_e", "_law_sorts_here"]
theorem sc_l_sorts : FnScope ["_law_e", "_law_sorts_here"] ["_law_e"] (defScope s_l_sorts) := ⟨rfl, rfl, rfl, by decide +kernel, rfl, by decide +kernel, by decide +kernel⟩
abbrev s_l_thing : Stmt := topS 27
abbrev N_l_thing : List Str := ["_law_state", "_law_amount", "_law_signs_here", "_law_scrap", "_law_k"]
theorem sc_l_thing : FnScope ["_law_state", "_law_amount", "_law_signs_here", "_law_scrap", "_law_k"] ["_law_state"] (defScope s_l_thing) := ⟨rfl, rfl, rfl, by decide +kernel, rfl, by decide +kernel, by decide +kernel⟩
abbrev s_l_all : Stmt := topS 28
abbrev N_l_all : List Str := ["_law_t", "_law_made"]
theorem sc_l_all : FnScope ["_law_t", "_law_made"] ["_law_t"] (defScope s_l_all) := ⟨rfl, rfl, rfl, by decide +kernel, rfl, by decide +kernel, by decide +kernel⟩
abbrev s_l_named : Stmt := topS 29
abbrev N_l_named : List Str := ["_law_t", "_law_made"]
theorem sc_l_named : FnScope ["_law_t", "_law_made"] ["_law_t"] (defScope s_l_named) := ⟨rfl, rfl, rfl, by decide +kernel, rfl, by decide +kernel, by decide +kernel⟩
abbrev s_l_keeps : Stmt := topS 30
abbrev N_l_keeps : List Str := ["_law_made", "_law_t", "_law_k", "_law_told", "_law_truths", "_law_j", "_law_item"]
theorem sc_l_keeps : FnScope ["_law_made", "_law_t", "_law_k", "_law_told", "_law_truths", "_law_j", "_law_item"] ["_law_made", "_law_t"] (defScope s_l_keeps) := ⟨rfl, rfl, rfl, by decide +kernel, rfl, by decide +kernel, by decide +kernel⟩
abbrev s_law : Stmt := topS 31
abbrev N_law : List Str := ["_law_script", "_law_state", "_law_t", "_law_lists", "_law_pair", "_law_row", "_law_inner", "_law_dicts", "_law_k"]
theorem sc_law : FnScope ["_law_script", "_law_state", "_law_t", "_law_lists", "_law_pair", "_law_row", "_law_inner", "_law_dicts", "_law_k"] ["_law_script"] (defScope s_law) := ⟨rfl, rfl, rfl, by decide +kernel, rfl, by decide +kernel, by decide +kernel⟩
structure Tx (K : PySem.W.Frag) (mg : Str → Option Value) where
  m_ValueError : mg "ValueError" = none
  m_abs : mg "abs" = none
  m_bool : mg "bool" = none
  m_int : mg "int" = none
  m_isinstance : mg "isinstance" = none
  m_len : mg "len" = none
  m_list : mg "list" = none
  m_range : mg "range" = none
  l_start : FnE K mg "_law_start" "_law_start" s_l_start ["_law_script"]
  l_draw : FnE K mg "_law_draw" "_law_draw" s_l_draw ["_law_state", "_law_size"]
  l_signs : FnE K mg "_law_signs" "_law_signs" s_l_signs []
  l_sorts : FnE K mg "_law_sorts" "_law_sorts" s_l_sorts ["_law_e"]
  l_thing : FnE K mg "_law_thing" "_law_thing" s_l_thing ["_law_state"]
  l_all : FnE K mg "_law_all" "_law_all" s_l_all ["_law_t"]
  l_named : FnE K mg "_law_named" "_law_named" s_l_named ["_law_t"]
  l_keeps : FnE K mg "_law_keeps" "_law_keeps" s_l_keeps ["_law_made", "_law_t"]
  oc : ObjCl K
  root : RootE K mg "RestError"
  e_BadName : ErrF K mg "BadName" "BadName.__init__" "name" s_BadName___init__ root.C
  e_UnknownName : ErrF K mg "UnknownName" "UnknownName.__init__" "name" s_UnknownName___init__ root.C
  e_BadCount : ErrF K mg "BadCount" "BadCount.__init__" "count" s_BadCount___init__ root.C
  e_BadTop : ErrF K mg "BadTop" "BadTop.__init__" "value" s_BadTop___init__ root.C
  e_BadArrow : ErrF K mg "BadArrow" "BadArrow.__init__" "value" s_BadArrow___init__ root.C
  e_BadText : ErrF K mg "BadText" "BadText.__init__" "text" s_BadText___init__ root.C
  e_BadState : ErrF K mg "BadState" "BadState.__init__" "value" s_BadState___init__ root.C
  e_BadTable : ErrF K mg "BadTable" "BadTable.__init__" "name" s_BadTable___init__ root.C
  e_BadRing : ErrF K mg "BadRing" "BadRing.__init__" "value" s_BadRing___init__ root.C
  e_BadSet : ErrF K mg "BadSet" "BadSet.__init__" "value" s_BadSet___init__ root.C
  e_BadFact : ErrF K mg "BadFact" "BadFact.__init__" "value" s_BadFact___init__ root.C
  e_BadNumber : ErrF K mg "BadNumber" "BadNumber.__init__" "value" s_BadNumber___init__ root.C
  e_HasRing : ErrF K mg "HasRing" "HasRing.__init__" "value" s_HasRing___init__ root.C
  e_HasOdd : ErrF K mg "HasOdd" "HasOdd.__init__" "value" s_HasOdd___init__ root.C
  e_NoEven : ErrN K mg "NoEven" root.C
  e_NoOdd : ErrN K mg "NoOdd" root.C
  e_Settles : ErrN K mg "Settles" root.C
  e_Clash : ErrF K mg "Clash" "Clash.__init__" "value" s_Clash___init__ root.C
  e_UnlikeParts : ErrF K mg "UnlikeParts" "UnlikeParts.__init__" "names" s_UnlikeParts___init__ root.C
  e_NothingToUndo : ErrN K mg "NothingToUndo" root.C
  nd : (root.C :: [e_BadName.C, e_UnknownName.C, e_BadCount.C, e_BadTop.C, e_BadArrow.C, e_BadText.C, e_BadState.C, e_BadTable.C, e_BadRing.C, e_BadSet.C, e_BadFact.C, e_BadNumber.C, e_HasRing.C, e_HasOdd.C, e_Clash.C, e_UnlikeParts.C, e_NoEven.C, e_NoOdd.C, e_Settles.C, e_NothingToUndo.C]).Nodup

section
variable {P : Program} {w : World} {K : PySem.W.Frag} {mg : Str → Option Value} {base : Heap}

theorem ok_l_draw (T : Tx K mg) : FnOk P w K mg base CX0 1 T.l_draw.f T.l_draw.fd ["_law_state", "_law_size"] spDraw := by
  refine T.l_draw.F.ok sc_l_draw (fun vs H Q E h => ?_) (fun cdv A outer s0 H vs Q E hr h => ?_)
  · obtain ⟨s, N, z, rfl, _⟩ := h
    rfl
  · obtain ⟨s, N, z, rfl, ⟨A0, B, bigs0, cells, n, S0, hn⟩, hN, z0, z1, k⟩ := h
    refine ⟨_, (pss_cons (ps_augS (pv 0) pe_int pg_list pe_int ip_add set_list)
      (pss_cons (ps_while PassesOwn.never (PW.pt (pw_and (pt_cmpR (op_neD hr.units) (pe_ix ix_list (pv 0) pe_int (fun _ _ => rfl)) (pe_lst pa_nil) (nomark _)) (pw_and1 (pt_cmpR op_eq (pe_ix ix_list (pe_ix ix_list (pv 0) pe_int (fun _ _ => rfl)) pe_int (fun _ _ => rfl)) pe_int (nomark _))))) (pss_one (ps_asg (pe_slice sl_list (pe_ix ix_list (pv 0) pe_int (fun _ _ => rfl)) (po_some pe_int) po_none) (pg_sub (pv 0) pe_int set_list))))
      (pss_cons (ps_if (pt_cmpR (op_neD hr.units) (pe_ix ix_list (pv 0) pe_int (fun _ _ => rfl)) (pe_lst pa_nil) (nomark _)) (pss_cons (ps_set (i := 2) sc_l_draw.nd rfl (.inl rfl) (pe_op op_modN (pe_callTy call_int1 (by rfl) T.m_int (by decide +kernel) (pa_cons (pe_ix ix_list (pe_ix ix_list (pv 0) pe_int (fun _ _ => rfl)) pe_int (fun _ _ => rfl)) pa_nil)) (pv 1)))
      (pss_cons (ps_asg (pe_op op_fdivN (pe_ix ix_list (pe_ix ix_list (pv 0) pe_int (fun _ _ => rfl)) pe_int (fun _ _ => rfl)) (pv 1)) (pg_sub (pe_ix ix_list (pv 0) pe_int (fun _ _ => rfl)) pe_int set_list))
      (pss_one (ps_ret (pv 2))))) pss_nil)
      (pss_cons (ps_set (i := 3) sc_l_draw.nd rfl (.inl rfl) (pe_op op_modN (pe_callTy call_int1 (by rfl) T.m_int (by decide +kernel) (pa_cons (pe_ix ix_list (pe_ix ix_list (pv 0) pe_int (fun _ _ => rfl)) (pe_op op_modN (pe_callTy call_int1 (by rfl) T.m_int (by decide +kernel) (pa_cons (pe_ix ix_list (pv 0) pe_int (fun _ _ => rfl)) pa_nil)) (pe_callB call_len_seq (by rfl) T.m_len (by decide +kernel) (pa_cons (pe_ix ix_list (pv 0) pe_int (fun _ _ => rfl)) pa_nil))) (fun _ _ => rfl)) pa_nil)) pe_int))
      (pss_cons (ps_set (i := 4) sc_l_draw.nd rfl (.inl rfl) (pe_op op_modN (pe_callTy call_int1 (by rfl) T.m_int (by decide +kernel) (pa_cons (pe_op op_pow (pe_op op_add (pe_op op_add (pe_op op_mul (pv 3) pe_int) (pe_op op_mul (pe_ix ix_list (pv 0) pe_int (fun _ _ => rfl)) pe_int)) pe_int) pe_int) pa_nil)) pe_int))
      (pss_one (ps_ret (pe_op op_modN (pe_op op_modN (pe_callTy call_int1 (by rfl) T.m_int (by decide +kernel) (pa_cons (pe_op op_pow (pe_op op_add (pe_op op_add (pe_op op_mul (pv 4) pe_int) (pe_op op_mul (pe_ix ix_list (pv 0) pe_int (fun _ _ => rfl)) pe_int)) pe_int) pe_int) pa_nil)) pe_int) (pv 1))))))))), ?_⟩
    -- state[2] += 1
    refine ⟨_, rfl, s, _, 2, _, rfl, rfl, by decide, sq S0.st, rfl, _, _, rfl, rfl, s, _, 2, 2, rfl, rfl, S0.st, rfl, ?_⟩
    obtain ⟨S1, K1⟩ := S0.tick (m := ((n + 1 : Nat) : Int))
    -- the while
    dsimp only [cx_K]
    refine cutS (fun σ' H' => σ' = [some (.ref s), some (.int z), none, none, none] ∧ ∃ A bigs, StAt H' s A B bigs cells ((n + 1 : Nat) : Int) ∧ Kp s H H') (fun nx hnx => ?_) (fun σ' H1 hR => ?_)
    · refine ⟨fun m σ H' => σ = [some (.ref s), some (.int z), none, none, none] ∧ ∃ A bigs, StAt H' s A B bigs cells ((n + 1 : Nat) : Int) ∧ Kp s H H' ∧ m = bigs.length,
        ⟨_, rfl, A0, bigs0, S1, K1, rfl⟩, fun m σ H' hW => ?_⟩
      obtain ⟨rfl, A, bigs, S, KK, rfl⟩ := hW
      refine ⟨_, rfl, s, _, 0, _, rfl, rfl, sq S.st, at0, Nat.zero_le _, fun p np => ?_⟩
      have S2 := S.new (o := .lst []) np
      have K2 : Kp s H (upd H' p (.lst [])) := KK.trans (Kp.new S.st np)
      refine ⟨.list (bigs.map PyData.int), .list [], .lst (sq S2.ha) (dp_ints _), .lst (sq upd_same) .nil, shaped_ints _, shaped_ints [], _, rfl, ?_⟩
      rw [eqv_nil_ints]
      cases bigs with
      | nil => exact iteF (hnx _ _ ⟨rfl, _, _, S2, K2⟩)
      | cons b r =>
        refine iteT ⟨_, rfl, s, _, 0, _, rfl, rfl, sq S2.st, at0, A, _, 0, _, rfl, rfl, sq S2.ha, at0, rfl, _, rfl, ?_⟩
        rw [dec_int]
        by_cases e : b = 0
        · subst e
          refine iteT ⟨fun σ' H' => σ' = [some (.ref s), some (.int z), none, none, none] ∧ ∃ A, StAt H' s A B r cells ((n + 1 : Nat) : Int) ∧ Kp s H H', fun σ' H' hN => ?_, ?_⟩
          · obtain ⟨rfl, A', S', K'⟩ := hN
            exact ⟨_, Nat.lt_succ_self _, rfl, A', r, S', K', rfl⟩
          · -- state[0] = state[0][1:]
            refine ⟨_, rfl, s, _, 0, _, rfl, rfl, sq S2.st, at0, 1, rfl, A, _, rfl, sq S2.ha, fun q nq => ?_⟩
            have lr : r.length ≤ 100 := Nat.le_trans (Nat.le_succ _) S2.la
            have S3 := S2.new (o := .lst (cutV ((0 :: r).map V.int) (some 1) none)) nq
            obtain ⟨S4, K4⟩ := S2.next (m := ((n + 1 : Nat) : Int)) nq lr
            refine ⟨_, rfl, s, _, 0, 0, rfl, rfl, S3.st, rfl, ?_⟩
            rw [cut1]
            exact ⟨rfl, q, S4, K2.trans K4⟩
        · rw [show (b == 0) = false from beq_eq_false_iff_ne.mpr e]
          exact iteF (hnx _ _ ⟨rfl, _, _, S2, K2⟩)
    · obtain ⟨rfl, A, bigs, S, KK⟩ := hR
      refine ⟨_, rfl, s, _, 0, _, rfl, rfl, sq S.st, at0, Nat.zero_le _, fun p np => ?_⟩
      have S2 := S.new (o := .lst []) np
      have K2 : Kp s H (upd H1 p (.lst [])) := KK.trans (Kp.new S.st np)
      refine ⟨.list (bigs.map PyData.int), .list [], .lst (sq S2.ha) (dp_ints _), .lst (sq upd_same) .nil, shaped_ints _, shaped_ints [], _, rfl, ?_⟩
      rw [eqv_nil_ints]
      cases bigs with
      | cons b r =>
        refine iteT ⟨_, rfl, s, _, 0, _, rfl, rfl, sq S2.st, at0, A, _, 0, _, rfl, rfl, sq S2.ha, at0, .inl ⟨_, rfl, _, rfl, _, _, rfl, rfl, (by omega), ?_⟩⟩
        refine ⟨_, rfl, s, _, 0, _, rfl, rfl, sq S2.st, at0, A, _, 0, _, rfl, rfl, sq S2.ha, at0, _, rfl, _, _, rfl, rfl, ⟨by omega, by omega⟩, ?_⟩
        refine ⟨_, rfl, s, _, 0, _, rfl, rfl, sq S2.st, at0, A, _, 0, 0, rfl, rfl, S2.ha, ixN_0 (Nat.succ_pos _), ?_⟩
        obtain ⟨S4, K4⟩ := S2.putA (new := b.fdiv z :: r) S2.la
        refine ⟨_, rfl, k _ _ (Int.fmod_nonneg_of_pos _ z0) (Int.fmod_lt_of_pos _ z0) ⟨_, _, _, _, _, S4, by omega⟩ (K2.trans K4)⟩
      | nil =>
        refine iteF ?_
        have hL : (0 : Int) < ((cells.map V.int).length : Int) := by
          rw [List.length_map]
          exact Int.natCast_pos.mpr S2.nb
        have i0 := Int.fmod_nonneg_of_pos ((n + 1 : Nat) : Int) hL
        have i1 := Int.fmod_lt_of_pos ((n + 1 : Nat) : Int) hL
        obtain ⟨c, hc⟩ := at_ints (ns := cells) i0 (by rw [← List.length_map (f := V.int) (as := cells)]; exact i1)
        refine ⟨_, rfl, s, _, 1, _, rfl, rfl, sq S2.st, at1, _, rfl, s, _, 2, _, rfl, rfl, sq S2.st, at2, .inl ⟨_, rfl, _, rfl, s, _, 1, _, rfl, rfl, sq S2.st, at1, B, _, rfl, .inl (sq S2.hb), _, _, rfl, rfl, (by omega), ?_⟩⟩
        have m1 : (2147483647 : Int) ≠ 0 := by decide
        have m2 : (2147483629 : Int) ≠ 0 := by decide
        refine ⟨B, _, _, _, rfl, rfl, sq S2.hb, hc, .inl ⟨_, rfl, _, _, rfl, rfl, m1, ?_⟩⟩
        have c0 := Int.fmod_nonneg_of_pos c (show (0 : Int) < 2147483647 by decide)
        have c1 := Int.fmod_lt_of_pos c (show (0 : Int) < 2147483647 by decide)
        refine ⟨_, rfl, _, _, rfl, rfl, .inl ⟨by omega, by omega⟩, _, rfl, s, _, 2, _, rfl, rfl, sq S2.st, at2, _, _, rfl, rfl, .inl ⟨by omega, by omega⟩, _, _, rfl, rfl, _, _, rfl, rfl, _, _, rfl, rfl, ⟨by decide, by decide, by omega⟩, .inl ⟨_, rfl, _, _, rfl, rfl, m1, ?_⟩⟩
        have o0 := Int.fmod_nonneg_of_pos ((c.fmod 2147483647 * 48271 + ((n + 1 : Nat) : Int) * 69621 + 7) ^ (5 : Int).toNat) (show (0 : Int) < 2147483647 by decide)
        have o1 := Int.fmod_lt_of_pos ((c.fmod 2147483647 * 48271 + ((n + 1 : Nat) : Int) * 69621 + 7) ^ (5 : Int).toNat) (show (0 : Int) < 2147483647 by decide)
        refine ⟨_, rfl, _, _, rfl, rfl, .inl ⟨by omega, by omega⟩, _, rfl, s, _, 2, _, rfl, rfl, sq S2.st, at2, _, _, rfl, rfl, .inl ⟨by omega, by omega⟩, _, _, rfl, rfl, _, _, rfl, rfl, _, _, rfl, rfl, ⟨by decide, by decide, by omega⟩, .inl ⟨_, rfl, _, _, rfl, rfl, m2, ?_⟩⟩
        refine ⟨_, rfl, _, _, rfl, rfl, (show z ≠ 0 by omega), ?_⟩
        exact k _ _ (Int.fmod_nonneg_of_pos _ z0) (Int.fmod_lt_of_pos _ z0) ⟨_, _, _, _, _, S2, by omega⟩ K2

/-! ### the signs -/
abbrev S1 : Str := " !\"#$&'()*+,-./0123456789:;<=>?@ABCDEFGHIJKLMNOPQRSTUVWXYZ[\\]^_`"
abbrev S2 : Str := "abcdefghijklmnopqrstuvwxyz{|}~\n"
theorem okS_S1 : OkS S1 := by
  have h : S1.cps.toList.all (fun c => decide (c < 128)) = true := by decide +kernel
  exact fun c hc => of_decide_eq_true (List.all_eq_true.mp h c hc)
theorem okS_S2 : OkS S2 := by
  have h : S2.cps.toList.all (fun c => decide (c < 128)) = true := by decide +kernel
  exact fun c hc => of_decide_eq_true (List.all_eq_true.mp h c hc)
theorem len_S : (S1 ++ S2).length = S1.length + S2.length := app_len _ _
theorem len_S1 : S1.length ≤ 100 := by decide +kernel
theorem len_S2 : S2.length ≤ 100 := by decide +kernel
theorem len_S0 : 0 < S1.length := by decide +kernel
def spS : Sp := fun vs H Q _ => vs = [] ∧ Q (.str (S1 ++ S2)) H
theorem ok_l_signs (T : Tx K mg) : FnOk P w K mg base CX0 1 T.l_signs.f T.l_signs.fd [] spS := by
  refine T.l_signs.F.ok sc_l_signs (fun vs H Q E h => ?_) (fun cdv A outer s0 H vs Q E hr h => ?_)
  · obtain ⟨rfl, _⟩ := h
    rfl
  · obtain ⟨rfl, k⟩ := h
    refine ⟨_, (pss_cons (ps_set (i := 0) sc_l_signs.nd rfl (.inl rfl) pe_str)
      (pss_one (ps_ret (pe_op op_add_str (pv 0) pe_str)))), ?_⟩
    have h1 := len_S1
    have h2 := len_S2
    exact ⟨_, rfl, _, _, rfl, rfl, sz (by show S1.length + S2.length ≤ 100000; omega), k⟩
theorem ok_l_start (T : Tx K mg) : FnOk P w K mg base CX0 1 T.l_start.f T.l_start.fd ["_law_script"] (spStart K) := by
  refine T.l_start.F.ok sc_l_start (fun vs H Q E h => ?_) (fun cdv A outer s0 H vs Q E hr h => ?_)
  · obtain ⟨a, ns, rfl, _⟩ := h
    rfl
  · obtain ⟨a, ns, rfl, hS, hl, k⟩ := h
    refine ⟨_, (pss_one (ps_ret (pe_lst (pa_cons (pe_lc (own := [("_law_cell", 1)]) (g := gName 1) rfl sc_l_start.nd (pi_list (pv 0)) (blkOk_by (own := [("_law_cell", 1)]) (N := N_l_start) (sc := defScope s_l_start) (by decide +kernel)) (fun _ _ _ _ _ => (pg_name (i := 1) sc_l_start.nd rfl (.inl rfl))) (fun _ _ _ _ _ => (pts_one (pt_cmpR op_ge (pe_callB call_abs (by rfl) T.m_abs (by decide +kernel) (pa_cons (pv 1) pa_nil)) (pe_op op_pow pe_int pe_int) (nomark _)))) (fun _ _ _ _ _ => (pe_callB call_abs (by rfl) T.m_abs (by decide +kernel) (pa_cons (pv 1) pa_nil)))) (pa_cons (pe_op op_cat (pe_callTy call_list_of (by rfl) T.m_list (by decide +kernel) (pa_cons (pv 0) pa_nil)) (pe_lst (pa_cons pe_int pa_nil))) (pa_cons pe_int pa_nil)))))), ?_⟩
    refine ⟨_, rfl, a, rfl, ⟨_, hS⟩, fun D nD => lc_list (xs := ns.map V.int) (fun i H' => ∃ l : List Int, H' D = some (.lst (l.map V.int)) ∧ l.length ≤ i ∧ Same H H') ⟨[], upd_same, Nat.le_refl _, same_new nD⟩ (fun i H' _ ⟨l, _, _, h3⟩ => h3.seq hS) (fun i x H' hx hp => ?_) (fun H' hp => ?_)⟩
    · obtain ⟨l, p1, p2, p3⟩ := hp
      obtain ⟨c, _, rfl⟩ := List.mem_map.mp (List.mem_of_getElem? hx)
      have hi : i < 63 := by
        have := (List.getElem?_eq_some_iff.mp hx).1
        rw [List.length_map] at this
        omega
      refine ⟨rfl, _, rfl, c, rfl, _, _, rfl, rfl, ⟨by decide, by decide, by decide⟩, _, _, rfl, rfl, _, rfl, ?_⟩
      refine ite2 (fun _ => ?_) (fun _ => ?_)
      · refine ⟨_, rfl, c, rfl, _, p1, ?_, l ++ [if c < 0 then -c else c], ?_, ?_, Same.mut p3 nD⟩
        · rw [List.length_map]
          exact szl (by omega)
        · rw [upd_same, List.map_append]
          rfl
        · rw [List.length_append]
          show l.length + 1 ≤ i + 1
          omega
      · exact ⟨l, p1, by omega, p3⟩
    · obtain ⟨l, p1, p2, p3⟩ := hp
      rw [List.length_map] at p2
      refine ⟨_, rfl, a, _, rfl, .inl (p3.seq hS), fun L nL => ⟨sz (by decide), fun q nq => ?_⟩⟩
      have nLq : L ≠ q := ne_of_none upd_same nq
      have nDL : D ≠ L := ne_of_none p1 nL
      have nDq : D ≠ q := ne_of_none (by rw [upd_ne nDL]; exact p1) nq
      refine ⟨L, q, _, _, rfl, rfl, by rw [upd_ne nLq]; exact upd_same, upd_same, sz (by rw [List.length_map]; show ns.length + 1 ≤ 100000; omega), fun p np => ⟨sz (by show 3 ≤ 100000; omega), fun s ns' => ?_⟩⟩
      have hD3 : (upd (upd H' L (.lst (ns.map V.int))) q (.lst [.int 5])) D = some (.lst (l.map V.int)) := by rw [upd_ne nDq, upd_ne nDL]; exact p1
      have nDp : D ≠ p := ne_of_none hD3 np
      have hD4 : (upd (upd (upd H' L (.lst (ns.map V.int))) q (.lst [.int 5])) p (.lst (ns.map V.int ++ [.int 5]))) D = some (.lst (l.map V.int)) := by rw [upd_ne nDp]; exact hD3
      have nDs : D ≠ s := ne_of_none hD4 ns'
      have nps : p ≠ s := ne_of_none upd_same ns'
      have s4 : Same H (upd (upd (upd H' L (.lst (ns.map V.int))) q (.lst [.int 5])) p (.lst (ns.map V.int ++ [.int 5]))) := ((p3.trans (same_new nL)).trans (same_new nq)).trans (same_new np)
      have hs0 : H s = none := s4.free ns'
      have hD0 : H D = none := nD
      have hp0 : H p = none := (((p3.trans (same_new nL)).trans (same_new nq))).free np
      have S : StAt (upd (upd (upd (upd H' L (.lst (ns.map V.int))) q (.lst [.int 5])) p (.lst (ns.map V.int ++ [.int 5]))) s (.lst [.ref D, .ref p, .int 0])) s D p l (ns ++ [5]) ((0 : Nat) : Int) := by
        refine ⟨upd_same, by rw [upd_ne nDs]; exact hD4, ?_, nDp, by omega, ?_, ?_⟩
        · rw [upd_ne nps, upd_same, List.map_append]
          rfl
        · rw [List.length_append]
          show ns.length + 1 ≤ 100
          omega
        · rw [List.length_append]
          exact Nat.succ_pos _
      refine k s _ (s4.trans (same_new ns')) hs0 ⟨D, p, l, _, 0, S, Nat.le_refl _⟩ fun b o hb => ?_
      rw [S.volA]
      rintro (e | e | e)
      · exact ne_of_none hb hs0 e
      · exact ne_of_none hb hD0 e
      · exact ne_of_none hb hp0 e

/-- texts of one sign each -/
def Ones (zs : List Str) : Prop := ∀ z ∈ zs, OkS z ∧ z.length = 1
theorem ones_snoc {zs : List Str} {c : Nat} (h : Ones zs) (hc : c < 128) : Ones (zs ++ [⟨#[c]⟩]) := fun z hz => by
  rcases List.mem_append.mp hz with q | q
  · exact h z q
  · rw [List.mem_singleton] at q
    subst q
    exact ⟨okS_one hc, rfl⟩
theorem ones_set {zs : List Str} {c j : Nat} (h : Ones zs) (hc : c < 128) : Ones (zs.set j ⟨#[c]⟩) := fun z hz => by
  rcases List.mem_or_eq_of_mem_set hz with q | q
  · exact h z q
  · subst q
    exact ⟨okS_one hc, rfl⟩
theorem join_ones {zs : List Str} (h : Ones zs) : OkS (Txt.join Str.empty zs) ∧ (Txt.join Str.empty zs).length = zs.length := by
  refine ⟨?_, join_len_ones fun z hz => (h z hz).2⟩
  rw [TL.join_eq]
  exact okS_join (fun c hc => by cases hc) fun z hz => (h z hz).1
theorem sum_ones : ∀ {zs : List Str}, Ones zs → (zs.map (·.length)).sum = zs.length
  | [], _ => rfl
  | z :: r, h => by
    rw [List.map_cons, List.sum_cons, (h z (by simp)).2, sum_ones (zs := r) fun y hy => h y (List.mem_cons_of_mem _ hy), List.length_cons]
    omega
theorem item_of {z : Str} {d : Int} (ho : OkS z) (h0 : 0 ≤ d) (h1 : d < (z.length : Int)) : ∃ c, z.cps[d.toNat]? = some c ∧ c < 128 := by
  have h : d.toNat < z.cps.size := by
    have : d.toNat < z.length := by omega
    exact this
  exact ⟨z.cps[d.toNat], Array.getElem?_eq_getElem h, ho.at (Array.getElem?_eq_getElem h)⟩

def Cs (T : Tx K mg) : List Addr := [T.e_BadName.C, T.e_UnknownName.C, T.e_BadCount.C, T.e_BadTop.C, T.e_BadArrow.C, T.e_BadText.C, T.e_BadState.C, T.e_BadTable.C, T.e_BadRing.C, T.e_BadSet.C, T.e_BadFact.C, T.e_BadNumber.C, T.e_HasRing.C, T.e_HasOdd.C, T.e_Clash.C, T.e_UnlikeParts.C, T.e_NoEven.C, T.e_NoOdd.C, T.e_Settles.C, T.e_NothingToUndo.C]
def Fs : List Str := ["name", "name", "count", "value", "value", "text", "value", "name", "value", "value", "value", "value", "value", "value", "value", "names"]
theorem ok_i_BadName (T : Tx K mg) : FnOk P w K mg base CX0 1 T.e_BadName.f T.e_BadName.fd ["self", "name"] (spInit T.e_BadName.C "name") := by
  refine T.e_BadName.F.ok sc_BadName___init__ (fun vs H Q E h => ?_) (fun cdv A outer s0 H vs Q E hr h => ⟨_, pss_one (ps_ost (pv 0) (pv 1)), init_read T.e_BadName h⟩)
  obtain ⟨a, v, rfl, _⟩ := h
  rfl
theorem ok_i_UnknownName (T : Tx K mg) : FnOk P w K mg base CX0 1 T.e_UnknownName.f T.e_UnknownName.fd ["self", "name"] (spInit T.e_UnknownName.C "name") := by
  refine T.e_UnknownName.F.ok sc_UnknownName___init__ (fun vs H Q E h => ?_) (fun cdv A outer s0 H vs Q E hr h => ⟨_, pss_one (ps_ost (pv 0) (pv 1)), init_read T.e_UnknownName h⟩)
  obtain ⟨a, v, rfl, _⟩ := h
  rfl
theorem ok_i_BadCount (T : Tx K mg) : FnOk P w K mg base CX0 1 T.e_BadCount.f T.e_BadCount.fd ["self", "count"] (spInit T.e_BadCount.C "count") := by
  refine T.e_BadCount.F.ok sc_BadCount___init__ (fun vs H Q E h => ?_) (fun cdv A outer s0 H vs Q E hr h => ⟨_, pss_one (ps_ost (pv 0) (pv 1)), init_read T.e_BadCount h⟩)
  obtain ⟨a, v, rfl, _⟩ := h
  rfl
theorem ok_i_BadTop (T : Tx K mg) : FnOk P w K mg base CX0 1 T.e_BadTop.f T.e_BadTop.fd ["self", "value"] (spInit T.e_BadTop.C "value") := by
  refine T.e_BadTop.F.ok sc_BadTop___init__ (fun vs H Q E h => ?_) (fun cdv A outer s0 H vs Q E hr h => ⟨_, pss_one (ps_ost (pv 0) (pv 1)), init_read T.e_BadTop h⟩)
  obtain ⟨a, v, rfl, _⟩ := h
  rfl
theorem ok_i_BadArrow (T : Tx K mg) : FnOk P w K mg base CX0 1 T.e_BadArrow.f T.e_BadArrow.fd ["self", "value"] (spInit T.e_BadArrow.C "value") := by
  refine T.e_BadArrow.F.ok sc_BadArrow___init__ (fun vs H Q E h => ?_) (fun cdv A outer s0 H vs Q E hr h => ⟨_, pss_one (ps_ost (pv 0) (pv 1)), init_read T.e_BadArrow h⟩)
  obtain ⟨a, v, rfl, _⟩ := h
  rfl
theorem ok_i_BadText (T : Tx K mg) : FnOk P w K mg base CX0 1 T.e_BadText.f T.e_BadText.fd ["self", "text"] (spInit T.e_BadText.C "text") := by
  refine T.e_BadText.F.ok sc_BadText___init__ (fun vs H Q E h => ?_) (fun cdv A outer s0 H vs Q E hr h => ⟨_, pss_one (ps_ost (pv 0) (pv 1)), init_read T.e_BadText h⟩)
  obtain ⟨a, v, rfl, _⟩ := h
  rfl
theorem ok_i_BadState (T : Tx K mg) : FnOk P w K mg base CX0 1 T.e_BadState.f T.e_BadState.fd ["self", "value"] (spInit T.e_BadState.C "value") := by
  refine T.e_BadState.F.ok sc_BadState___init__ (fun vs H Q E h => ?_) (fun cdv A outer s0 H vs Q E hr h => ⟨_, pss_one (ps_ost (pv 0) (pv 1)), init_read T.e_BadState h⟩)
  obtain ⟨a, v, rfl, _⟩ := h
  rfl
theorem ok_i_BadTable (T : Tx K mg) : FnOk P w K mg base CX0 1 T.e_BadTable.f T.e_BadTable.fd ["self", "name"] (spInit T.e_BadTable.C "name") := by
  refine T.e_BadTable.F.ok sc_BadTable___init__ (fun vs H Q E h => ?_) (fun cdv A outer s0 H vs Q E hr h => ⟨_, pss_one (ps_ost (pv 0) (pv 1)), init_read T.e_BadTable h⟩)
  obtain ⟨a, v, rfl, _⟩ := h
  rfl
theorem ok_i_BadRing (T : Tx K mg) : FnOk P w K mg base CX0 1 T.e_BadRing.f T.e_BadRing.fd ["self", "value"] (spInit T.e_BadRing.C "value") := by
  refine T.e_BadRing.F.ok sc_BadRing___init__ (fun vs H Q E h => ?_) (fun cdv A outer s0 H vs Q E hr h => ⟨_, pss_one (ps_ost (pv 0) (pv 1)), init_read T.e_BadRing h⟩)
  obtain ⟨a, v, rfl, _⟩ := h
  rfl
theorem ok_i_BadSet (T : Tx K mg) : FnOk P w K mg base CX0 1 T.e_BadSet.f T.e_BadSet.fd ["self", "value"] (spInit T.e_BadSet.C "value") := by
  refine T.e_BadSet.F.ok sc_BadSet___init__ (fun vs H Q E h => ?_) (fun cdv A outer s0 H vs Q E hr h => ⟨_, pss_one (ps_ost (pv 0) (pv 1)), init_read T.e_BadSet h⟩)
  obtain ⟨a, v, rfl, _⟩ := h
  rfl
theorem ok_i_BadFact (T : Tx K mg) : FnOk P w K mg base CX0 1 T.e_BadFact.f T.e_BadFact.fd ["self", "value"] (spInit T.e_BadFact.C "value") := by
  refine T.e_BadFact.F.ok sc_BadFact___init__ (fun vs H Q E h => ?_) (fun cdv A outer s0 H vs Q E hr h => ⟨_, pss_one (ps_ost (pv 0) (pv 1)), init_read T.e_BadFact h⟩)
  obtain ⟨a, v, rfl, _⟩ := h
  rfl
theorem ok_i_BadNumber (T : Tx K mg) : FnOk P w K mg base CX0 1 T.e_BadNumber.f T.e_BadNumber.fd ["self", "value"] (spInit T.e_BadNumber.C "value") := by
  refine T.e_BadNumber.F.ok sc_BadNumber___init__ (fun vs H Q E h => ?_) (fun cdv A outer s0 H vs Q E hr h => ⟨_, pss_one (ps_ost (pv 0) (pv 1)), init_read T.e_BadNumber h⟩)
  obtain ⟨a, v, rfl, _⟩ := h
  rfl
theorem ok_i_HasRing (T : Tx K mg) : FnOk P w K mg base CX0 1 T.e_HasRing.f T.e_HasRing.fd ["self", "value"] (spInit T.e_HasRing.C "value") := by
  refine T.e_HasRing.F.ok sc_HasRing___init__ (fun vs H Q E h => ?_) (fun cdv A outer s0 H vs Q E hr h => ⟨_, pss_one (ps_ost (pv 0) (pv 1)), init_read T.e_HasRing h⟩)
  obtain ⟨a, v, rfl, _⟩ := h
  rfl
theorem ok_i_HasOdd (T : Tx K mg) : FnOk P w K mg base CX0 1 T.e_HasOdd.f T.e_HasOdd.fd ["self", "value"] (spInit T.e_HasOdd.C "value") := by
  refine T.e_HasOdd.F.ok sc_HasOdd___init__ (fun vs H Q E h => ?_) (fun cdv A outer s0 H vs Q E hr h => ⟨_, pss_one (ps_ost (pv 0) (pv 1)), init_read T.e_HasOdd h⟩)
  obtain ⟨a, v, rfl, _⟩ := h
  rfl
theorem ok_i_Clash (T : Tx K mg) : FnOk P w K mg base CX0 1 T.e_Clash.f T.e_Clash.fd ["self", "value"] (spInit T.e_Clash.C "value") := by
  refine T.e_Clash.F.ok sc_Clash___init__ (fun vs H Q E h => ?_) (fun cdv A outer s0 H vs Q E hr h => ⟨_, pss_one (ps_ost (pv 0) (pv 1)), init_read T.e_Clash h⟩)
  obtain ⟨a, v, rfl, _⟩ := h
  rfl
theorem ok_i_UnlikeParts (T : Tx K mg) : FnOk P w K mg base CX0 1 T.e_UnlikeParts.f T.e_UnlikeParts.fd ["self", "names"] (spInit T.e_UnlikeParts.C "names") := by
  refine T.e_UnlikeParts.F.ok sc_UnlikeParts___init__ (fun vs H Q E h => ?_) (fun cdv A outer s0 H vs Q E hr h => ⟨_, pss_one (ps_ost (pv 0) (pv 1)), init_read T.e_UnlikeParts h⟩)
  obtain ⟨a, v, rfl, _⟩ := h
  rfl
/-! ### what the made ones hold -/
def MadeL (Cl : List Addr) (ts : Nat → V) (H : Hp) (es : List Addr) : Prop := ∀ j e, es[j]? = some e → ∃ C, Cl[j]? = some C ∧
  ((∃ F d, Fs[j]? = some F ∧ H e = some (exo e C (some d)) ∧ H d = some (exd d [(F, ts j)])) ∨ (Fs[j]? = none ∧ H e = some (ExO (.ref C) e)))
def isLst : HO → Bool
  | .lst _ => true
  | _ => false
/-- what is no list stays -/
def KeepN (H H' : Hp) : Prop := ∀ b o, H b = some o → isLst o = false → H' b = some o
theorem KeepN.of_same {H H' : Hp} (h : Same H H') : KeepN H H' := fun b o e _ => h b o e
theorem KeepN.trans {H H1 H2 : Hp} (a : KeepN H H1) (b : KeepN H1 H2) : KeepN H H2 := fun c o e l => b c o (a c o e l) l
theorem KeepN.of_kp {H H' : Hp} {s : Addr} {N : Nat} (D : Ds H s N) (k : Kp s H H') : KeepN H H' := fun b o e l => by
  refine (k b o e fun v => ?_).1
  obtain ⟨A, B, bigs, cells, n, S, _⟩ := D
  rw [S.volA] at v
  rcases v with rfl | rfl | rfl
  · rw [S.st] at e
    cases e
    cases l
  · rw [S.ha] at e
    cases e
    cases l
  · rw [S.hb] at e
    cases e
    cases l
theorem KeepN.upd {H : Hp} {p : Addr} {xs : List V} {o : HO} (h : H p = some (.lst xs)) : KeepN H (upd H p o) := fun b u e l => by
  have n : b ≠ p := fun z => by
    rw [z, h] at e
    cases e
    cases l
  rw [upd_ne n]
  exact e
/-- exceptions and their dicts stay -/
def KeepE (H H' : Hp) : Prop := ∀ b φ, H b = some (.ext φ) → H' b = some (.ext φ)
theorem KeepN.e {H H' : Hp} (h : KeepN H H') : KeepE H H' := fun b φ e => h b _ e rfl
theorem MadeL.keep {Cl : List Addr} {ts : Nat → V} {H H' : Hp} {es : List Addr} (M : MadeL Cl ts H es) (k : KeepE H H') : MadeL Cl ts H' es := fun j e h => by
  obtain ⟨C, hC, h⟩ := M j e h
  refine ⟨C, hC, ?_⟩
  rcases h with ⟨F, d, hF, h1, h2⟩ | ⟨hF, h1⟩
  · exact .inl ⟨F, d, hF, k _ _ h1, k _ _ h2⟩
  · exact .inr ⟨hF, k _ _ h1⟩
theorem MadeL.snocF {Cl : List Addr} {ts : Nat → V} {H H' : Hp} {es : List Addr} {C e d : Addr} {F : Str} (M : MadeL Cl ts H es) (k : Same H H') (hC : Cl[es.length]? = some C) (hF : Fs[es.length]? = some F)
    (h1 : H' e = some (exo e C (some d))) (h2 : H' d = some (exd d [(F, ts es.length)])) : MadeL Cl ts H' (es ++ [e]) := fun j x h => by
  by_cases hj : j < es.length
  · rw [List.getElem?_append_left hj] at h
    exact M.keep (KeepN.of_same k).e j x h
  · have hl := (List.getElem?_eq_some_iff.mp h).1
    rw [List.length_append] at hl
    have hj2 : j = es.length := by
      have : j < es.length + 1 := hl
      omega
    subst hj2
    rw [List.getElem?_append_right (Nat.le_refl _), Nat.sub_self] at h
    cases h
    exact ⟨C, hC, .inl ⟨F, d, hF, h1, h2⟩⟩
theorem MadeL.snocN {Cl : List Addr} {ts : Nat → V} {H H' : Hp} {es : List Addr} {C e : Addr} (M : MadeL Cl ts H es) (k : Same H H') (hC : Cl[es.length]? = some C) (hF : Fs[es.length]? = none)
    (h1 : H' e = some (ExO (.ref C) e)) : MadeL Cl ts H' (es ++ [e]) := fun j x h => by
  by_cases hj : j < es.length
  · rw [List.getElem?_append_left hj] at h
    exact M.keep (KeepN.of_same k).e j x h
  · have hl := (List.getElem?_eq_some_iff.mp h).1
    rw [List.length_append] at hl
    have hj2 : j = es.length := by
      have : j < es.length + 1 := hl
      omega
    subst hj2
    rw [List.getElem?_append_right (Nat.le_refl _), Nat.sub_self] at h
    cases h
    exact ⟨C, hC, .inr ⟨hF, h1⟩⟩
theorem made_nil {Cl : List Addr} {ts : Nat → V} {H : Hp} : MadeL Cl ts H [] := fun j e h => by cases h
theorem at_getD {ts : List V} {i : Nat} (h : i < ts.length) : atI ts (i : Int) = some (ts.getD i .non) := by
  rw [atI_nat (j := i) (v := ts[i]) (List.getElem?_eq_getElem h)]
  rw [List.getD_eq_getElem?_getD, List.getElem?_eq_getElem h]
  rfl
theorem oex_read {name qual fld : Str} {st : Stmt} {R : Addr} (E : ErrF K mg name qual fld st R) {v : V} {H1 : Hp} {Qa : Addr → Hp → Prop}
    (k : ∀ e d H', Same H1 H' → H' e = some (exo e E.C (some d)) → H' d = some (exd d [(fld, v)]) → Qa e H') :
    ∀ a, H1 a = none → spInit E.C fld [.ref a, v] (upd H1 a (exo a E.C none)) (fun x H2 => x = .non ∧ Qa a H2) E0 := fun a na =>
  ⟨a, v, rfl, upd_same, fun H' d keep h1 h2 => ⟨rfl, k a d H' (fun b o hb => keep b o (by rw [upd_ne (ne_of_none hb na)]; exact hb) (ne_of_none hb na)) h1 h2⟩⟩
theorem new_read {H1 : Hp} {o : HO} {Qa : Addr → Hp → Prop} (k : ∀ p H', Same H1 H' → H1 p = none → H' p = some o → Qa p H') : ∀ p, H1 p = none → Qa p (upd H1 p o) := fun p n => k p _ (same_new n) n upd_same
theorem new_readV {H1 : Hp} {o : HO} {Q : VK} (k : ∀ p H', Same H1 H' → H1 p = none → H' p = some o → Q (.ref p) H') : ∀ p, H1 p = none → Q (.ref p) (upd H1 p o) := fun p n => k p _ (same_new n) n upd_same
def spAll (Cl : List Addr) : Sp := fun vs H Q _ => ∃ (t : Addr) (ts : List V), vs = [.ref t] ∧ H t = some (.lst ts) ∧ ts.length = 16 ∧
  ∀ (M : Addr) (es : List Addr) (H' : Hp), Same H H' → H M = none → H' M = some (.lst (es.map V.ref)) → es.length = 20 → MadeL Cl (fun j => ts.getD j .non) H' es → Q (.ref M) H'

theorem ok_l_all (T : Tx K mg) : FnOk P w K mg base CX0 3 T.l_all.f T.l_all.fd ["_law_t"] (spAll (Cs T)) := by
  refine T.l_all.F.ok sc_l_all (fun vs H Q E h => ?_) (fun cdv A outer s0 H vs Q E hr h => ?_)
  · obtain ⟨t, ts, rfl, _⟩ := h
    rfl
  · obtain ⟨t, ts, rfl, ht, hl, k⟩ := h
    refine ⟨_, (pss_cons (ps_set (i := 1) sc_l_all.nd rfl (.inl rfl) (pe_lst (pa_cons (pe_oex T.e_BadName.oex T.e_BadName.iC T.e_BadName.tI (ok_i_BadName T) (hr.mono (by decide)) T.e_BadName.b pass0 (by rfl) T.e_BadName.g (pa_cons (pe_ix ix_list (pv 0) pe_int (fun _ _ => rfl)) pa_nil)) (pa_cons (pe_oex T.e_UnknownName.oex T.e_UnknownName.iC T.e_UnknownName.tI (ok_i_UnknownName T) (hr.mono (by decide)) T.e_UnknownName.b pass0 (by rfl) T.e_UnknownName.g (pa_cons (pe_ix ix_list (pv 0) pe_int (fun _ _ => rfl)) pa_nil)) (pa_cons (pe_oex T.e_BadCount.oex T.e_BadCount.iC T.e_BadCount.tI (ok_i_BadCount T) (hr.mono (by decide)) T.e_BadCount.b pass0 (by rfl) T.e_BadCount.g (pa_cons (pe_ix ix_list (pv 0) pe_int (fun _ _ => rfl)) pa_nil)) (pa_cons (pe_oex T.e_BadTop.oex T.e_BadTop.iC T.e_BadTop.tI (ok_i_BadTop T) (hr.mono (by decide)) T.e_BadTop.b pass0 (by rfl) T.e_BadTop.g (pa_cons (pe_ix ix_list (pv 0) pe_int (fun _ _ => rfl)) pa_nil)) (pa_cons (pe_oex T.e_BadArrow.oex T.e_BadArrow.iC T.e_BadArrow.tI (ok_i_BadArrow T) (hr.mono (by decide)) T.e_BadArrow.b pass0 (by rfl) T.e_BadArrow.g (pa_cons (pe_ix ix_list (pv 0) pe_int (fun _ _ => rfl)) pa_nil)) pa_nil)))))))
      (pss_cons (ps_set (i := 1) sc_l_all.nd rfl (.inl rfl) (pe_op op_cat (pv 1) (pe_lst (pa_cons (pe_oex T.e_BadText.oex T.e_BadText.iC T.e_BadText.tI (ok_i_BadText T) (hr.mono (by decide)) T.e_BadText.b pass0 (by rfl) T.e_BadText.g (pa_cons (pe_ix ix_list (pv 0) pe_int (fun _ _ => rfl)) pa_nil)) (pa_cons (pe_oex T.e_BadState.oex T.e_BadState.iC T.e_BadState.tI (ok_i_BadState T) (hr.mono (by decide)) T.e_BadState.b pass0 (by rfl) T.e_BadState.g (pa_cons (pe_ix ix_list (pv 0) pe_int (fun _ _ => rfl)) pa_nil)) (pa_cons (pe_oex T.e_BadTable.oex T.e_BadTable.iC T.e_BadTable.tI (ok_i_BadTable T) (hr.mono (by decide)) T.e_BadTable.b pass0 (by rfl) T.e_BadTable.g (pa_cons (pe_ix ix_list (pv 0) pe_int (fun _ _ => rfl)) pa_nil)) (pa_cons (pe_oex T.e_BadRing.oex T.e_BadRing.iC T.e_BadRing.tI (ok_i_BadRing T) (hr.mono (by decide)) T.e_BadRing.b pass0 (by rfl) T.e_BadRing.g (pa_cons (pe_ix ix_list (pv 0) pe_int (fun _ _ => rfl)) pa_nil)) (pa_cons (pe_oex T.e_BadSet.oex T.e_BadSet.iC T.e_BadSet.tI (ok_i_BadSet T) (hr.mono (by decide)) T.e_BadSet.b pass0 (by rfl) T.e_BadSet.g (pa_cons (pe_ix ix_list (pv 0) pe_int (fun _ _ => rfl)) pa_nil)) (pa_cons (pe_oex T.e_BadFact.oex T.e_BadFact.iC T.e_BadFact.tI (ok_i_BadFact T) (hr.mono (by decide)) T.e_BadFact.b pass0 (by rfl) T.e_BadFact.g (pa_cons (pe_ix ix_list (pv 0) pe_int (fun _ _ => rfl)) pa_nil)) pa_nil)))))))))
      (pss_cons (ps_set (i := 1) sc_l_all.nd rfl (.inl rfl) (pe_op op_cat (pv 1) (pe_lst (pa_cons (pe_oex T.e_BadNumber.oex T.e_BadNumber.iC T.e_BadNumber.tI (ok_i_BadNumber T) (hr.mono (by decide)) T.e_BadNumber.b pass0 (by rfl) T.e_BadNumber.g (pa_cons (pe_ix ix_list (pv 0) pe_int (fun _ _ => rfl)) pa_nil)) (pa_cons (pe_oex T.e_HasRing.oex T.e_HasRing.iC T.e_HasRing.tI (ok_i_HasRing T) (hr.mono (by decide)) T.e_HasRing.b pass0 (by rfl) T.e_HasRing.g (pa_cons (pe_ix ix_list (pv 0) pe_int (fun _ _ => rfl)) pa_nil)) (pa_cons (pe_oex T.e_HasOdd.oex T.e_HasOdd.iC T.e_HasOdd.tI (ok_i_HasOdd T) (hr.mono (by decide)) T.e_HasOdd.b pass0 (by rfl) T.e_HasOdd.g (pa_cons (pe_ix ix_list (pv 0) pe_int (fun _ _ => rfl)) pa_nil)) (pa_cons (pe_oex T.e_Clash.oex T.e_Clash.iC T.e_Clash.tI (ok_i_Clash T) (hr.mono (by decide)) T.e_Clash.b pass0 (by rfl) T.e_Clash.g (pa_cons (pe_ix ix_list (pv 0) pe_int (fun _ _ => rfl)) pa_nil)) (pa_cons (pe_oex T.e_UnlikeParts.oex T.e_UnlikeParts.iC T.e_UnlikeParts.tI (ok_i_UnlikeParts T) (hr.mono (by decide)) T.e_UnlikeParts.b pass0 (by rfl) T.e_UnlikeParts.g (pa_cons (pe_ix ix_list (pv 0) pe_int (fun _ _ => rfl)) pa_nil)) (pa_cons (pe_exc0 PySem.F.excBase_ValueError T.e_NoEven.q T.e_NoEven.g T.e_NoEven.kC (by rfl)) pa_nil)))))))))
      (pss_cons (ps_set (i := 1) sc_l_all.nd rfl (.inl rfl) (pe_op op_cat (pv 1) (pe_lst (pa_cons (pe_exc0 PySem.F.excBase_ValueError T.e_NoOdd.q T.e_NoOdd.g T.e_NoOdd.kC (by rfl)) (pa_cons (pe_exc0 PySem.F.excBase_ValueError T.e_Settles.q T.e_Settles.g T.e_Settles.kC (by rfl)) (pa_cons (pe_exc0 PySem.F.excBase_ValueError T.e_NothingToUndo.q T.e_NothingToUndo.g T.e_NothingToUndo.kC (by rfl)) pa_nil))))))
      (pss_one (ps_ret (pv 1))))))), ?_⟩
    have M := made_nil (Cl := Cs T) (ts := fun j => ts.getD j .non) (H := H)
    have S := Same.refl H
    refine ⟨_, rfl, t, _, 0, _, rfl, rfl, sq ht, at_getD (i := 0) (by omega), (by show 1 ≤ 1000; omega), oex_read T.e_BadName fun e0 d0 H1 s0 a0 b0 => ?_⟩
    replace M : MadeL (Cs T) (fun j => ts.getD j .non) H1 [e0] := M.snocF s0 (C := T.e_BadName.C) (F := "name") rfl rfl a0 b0
    replace S := S.trans s0
    replace ht := s0 _ _ ht
    refine ⟨_, rfl, t, _, 1, _, rfl, rfl, sq ht, at_getD (i := 1) (by omega), (by show 1 ≤ 1000; omega), oex_read T.e_UnknownName fun e1 d1 H2 s1 a1 b1 => ?_⟩
    replace M : MadeL (Cs T) (fun j => ts.getD j .non) H2 [e0, e1] := M.snocF s1 (C := T.e_UnknownName.C) (F := "name") rfl rfl a1 b1
    replace S := S.trans s1
    replace ht := s1 _ _ ht
    refine ⟨_, rfl, t, _, 2, _, rfl, rfl, sq ht, at_getD (i := 2) (by omega), (by show 1 ≤ 1000; omega), oex_read T.e_BadCount fun e2 d2 H3 s2 a2 b2 => ?_⟩
    replace M : MadeL (Cs T) (fun j => ts.getD j .non) H3 [e0, e1, e2] := M.snocF s2 (C := T.e_BadCount.C) (F := "count") rfl rfl a2 b2
    replace S := S.trans s2
    replace ht := s2 _ _ ht
    refine ⟨_, rfl, t, _, 3, _, rfl, rfl, sq ht, at_getD (i := 3) (by omega), (by show 1 ≤ 1000; omega), oex_read T.e_BadTop fun e3 d3 H4 s3 a3 b3 => ?_⟩
    replace M : MadeL (Cs T) (fun j => ts.getD j .non) H4 [e0, e1, e2, e3] := M.snocF s3 (C := T.e_BadTop.C) (F := "value") rfl rfl a3 b3
    replace S := S.trans s3
    replace ht := s3 _ _ ht
    refine ⟨_, rfl, t, _, 4, _, rfl, rfl, sq ht, at_getD (i := 4) (by omega), (by show 1 ≤ 1000; omega), oex_read T.e_BadArrow fun e4 d4 H5 s4 a4 b4 => ?_⟩
    replace M : MadeL (Cs T) (fun j => ts.getD j .non) H5 [e0, e1, e2, e3, e4] := M.snocF s4 (C := T.e_BadArrow.C) (F := "value") rfl rfl a4 b4
    replace S := S.trans s4
    replace ht := s4 _ _ ht
    refine ⟨sz (by show 5 ≤ 100000; omega), fun p0 np0 => ?_⟩
    have sp0 := same_new (o := (.lst [.ref e0, .ref e1, .ref e2, .ref e3, .ref e4])) np0
    have ap0 := upd_same (H := H5) (a := p0) (o := (.lst [.ref e0, .ref e1, .ref e2, .ref e3, .ref e4]))
    generalize upd H5 p0 (.lst [.ref e0, .ref e1, .ref e2, .ref e3, .ref e4]) = G0 at sp0 ap0 ⊢
    have nm0 : H p0 = none := S.free np0
    replace M := M.keep (KeepN.of_same sp0).e
    replace ht := sp0 _ _ ht
    replace S := S.trans sp0
    have hm := ap0
    have nm := nm0
    refine ⟨_, rfl, ?_⟩
    refine ⟨_, rfl, t, _, 5, _, rfl, rfl, sq ht, at_getD (i := 5) (by omega), (by show 1 ≤ 1000; omega), oex_read T.e_BadText fun e5 d5 H6 s5 a5 b5 => ?_⟩
    replace M : MadeL (Cs T) (fun j => ts.getD j .non) H6 [e0, e1, e2, e3, e4, e5] := M.snocF s5 (C := T.e_BadText.C) (F := "text") rfl rfl a5 b5
    replace S := S.trans s5
    replace ht := s5 _ _ ht
    replace hm := s5 _ _ hm
    refine ⟨_, rfl, t, _, 6, _, rfl, rfl, sq ht, at_getD (i := 6) (by omega), (by show 1 ≤ 1000; omega), oex_read T.e_BadState fun e6 d6 H7 s6 a6 b6 => ?_⟩
    replace M : MadeL (Cs T) (fun j => ts.getD j .non) H7 [e0, e1, e2, e3, e4, e5, e6] := M.snocF s6 (C := T.e_BadState.C) (F := "value") rfl rfl a6 b6
    replace S := S.trans s6
    replace ht := s6 _ _ ht
    replace hm := s6 _ _ hm
    refine ⟨_, rfl, t, _, 7, _, rfl, rfl, sq ht, at_getD (i := 7) (by omega), (by show 1 ≤ 1000; omega), oex_read T.e_BadTable fun e7 d7 H8 s7 a7 b7 => ?_⟩
    replace M : MadeL (Cs T) (fun j => ts.getD j .non) H8 [e0, e1, e2, e3, e4, e5, e6, e7] := M.snocF s7 (C := T.e_BadTable.C) (F := "name") rfl rfl a7 b7
    replace S := S.trans s7
    replace ht := s7 _ _ ht
    replace hm := s7 _ _ hm
    refine ⟨_, rfl, t, _, 8, _, rfl, rfl, sq ht, at_getD (i := 8) (by omega), (by show 1 ≤ 1000; omega), oex_read T.e_BadRing fun e8 d8 H9 s8 a8 b8 => ?_⟩
    replace M : MadeL (Cs T) (fun j => ts.getD j .non) H9 [e0, e1, e2, e3, e4, e5, e6, e7, e8] := M.snocF s8 (C := T.e_BadRing.C) (F := "value") rfl rfl a8 b8
    replace S := S.trans s8
    replace ht := s8 _ _ ht
    replace hm := s8 _ _ hm
    refine ⟨_, rfl, t, _, 9, _, rfl, rfl, sq ht, at_getD (i := 9) (by omega), (by show 1 ≤ 1000; omega), oex_read T.e_BadSet fun e9 d9 H10 s9 a9 b9 => ?_⟩
    replace M : MadeL (Cs T) (fun j => ts.getD j .non) H10 [e0, e1, e2, e3, e4, e5, e6, e7, e8, e9] := M.snocF s9 (C := T.e_BadSet.C) (F := "value") rfl rfl a9 b9
    replace S := S.trans s9
    replace ht := s9 _ _ ht
    replace hm := s9 _ _ hm
    refine ⟨_, rfl, t, _, 10, _, rfl, rfl, sq ht, at_getD (i := 10) (by omega), (by show 1 ≤ 1000; omega), oex_read T.e_BadFact fun e10 d10 H11 s10 a10 b10 => ?_⟩
    replace M : MadeL (Cs T) (fun j => ts.getD j .non) H11 [e0, e1, e2, e3, e4, e5, e6, e7, e8, e9, e10] := M.snocF s10 (C := T.e_BadFact.C) (F := "value") rfl rfl a10 b10
    replace S := S.trans s10
    replace ht := s10 _ _ ht
    replace hm := s10 _ _ hm
    refine ⟨sz (by show 6 ≤ 100000; omega), fun p1 np1 => ?_⟩
    have sp1 := same_new (o := (.lst [.ref e5, .ref e6, .ref e7, .ref e8, .ref e9, .ref e10])) np1
    have ap1 := upd_same (H := H11) (a := p1) (o := (.lst [.ref e5, .ref e6, .ref e7, .ref e8, .ref e9, .ref e10]))
    generalize upd H11 p1 (.lst [.ref e5, .ref e6, .ref e7, .ref e8, .ref e9, .ref e10]) = G1 at sp1 ap1 ⊢
    have nm1 : H p1 = none := S.free np1
    replace M := M.keep (KeepN.of_same sp1).e
    replace ht := sp1 _ _ ht
    replace S := S.trans sp1
    refine ⟨p0, p1, _, _, rfl, rfl, sp1 _ _ hm, ap1, sz (by show 11 ≤ 100000; omega), fun r1 nr1 => ?_⟩
    have sr1 := same_new (o := (.lst ([.ref e0, .ref e1, .ref e2, .ref e3, .ref e4] ++ [.ref e5, .ref e6, .ref e7, .ref e8, .ref e9, .ref e10]))) nr1
    have ar1 := upd_same (H := G1) (a := r1) (o := (.lst ([.ref e0, .ref e1, .ref e2, .ref e3, .ref e4] ++ [.ref e5, .ref e6, .ref e7, .ref e8, .ref e9, .ref e10])))
    generalize upd G1 r1 (.lst ([.ref e0, .ref e1, .ref e2, .ref e3, .ref e4] ++ [.ref e5, .ref e6, .ref e7, .ref e8, .ref e9, .ref e10])) = R1 at sr1 ar1 ⊢
    replace nm : H r1 = none := S.free nr1
    replace M := M.keep (KeepN.of_same sr1).e
    replace ht := sr1 _ _ ht
    replace S := S.trans sr1
    replace hm := ar1
    refine ⟨_, rfl, ?_⟩
    refine ⟨_, rfl, t, _, 11, _, rfl, rfl, sq ht, at_getD (i := 11) (by omega), (by show 1 ≤ 1000; omega), oex_read T.e_BadNumber fun e11 d11 H12 s11 a11 b11 => ?_⟩
    replace M : MadeL (Cs T) (fun j => ts.getD j .non) H12 [e0, e1, e2, e3, e4, e5, e6, e7, e8, e9, e10, e11] := M.snocF s11 (C := T.e_BadNumber.C) (F := "value") rfl rfl a11 b11
    replace S := S.trans s11
    replace ht := s11 _ _ ht
    replace hm := s11 _ _ hm
    refine ⟨_, rfl, t, _, 12, _, rfl, rfl, sq ht, at_getD (i := 12) (by omega), (by show 1 ≤ 1000; omega), oex_read T.e_HasRing fun e12 d12 H13 s12 a12 b12 => ?_⟩
    replace M : MadeL (Cs T) (fun j => ts.getD j .non) H13 [e0, e1, e2, e3, e4, e5, e6, e7, e8, e9, e10, e11, e12] := M.snocF s12 (C := T.e_HasRing.C) (F := "value") rfl rfl a12 b12
    replace S := S.trans s12
    replace ht := s12 _ _ ht
    replace hm := s12 _ _ hm
    refine ⟨_, rfl, t, _, 13, _, rfl, rfl, sq ht, at_getD (i := 13) (by omega), (by show 1 ≤ 1000; omega), oex_read T.e_HasOdd fun e13 d13 H14 s13 a13 b13 => ?_⟩
    replace M : MadeL (Cs T) (fun j => ts.getD j .non) H14 [e0, e1, e2, e3, e4, e5, e6, e7, e8, e9, e10, e11, e12, e13] := M.snocF s13 (C := T.e_HasOdd.C) (F := "value") rfl rfl a13 b13
    replace S := S.trans s13
    replace ht := s13 _ _ ht
    replace hm := s13 _ _ hm
    refine ⟨_, rfl, t, _, 14, _, rfl, rfl, sq ht, at_getD (i := 14) (by omega), (by show 1 ≤ 1000; omega), oex_read T.e_Clash fun e14 d14 H15 s14 a14 b14 => ?_⟩
    replace M : MadeL (Cs T) (fun j => ts.getD j .non) H15 [e0, e1, e2, e3, e4, e5, e6, e7, e8, e9, e10, e11, e12, e13, e14] := M.snocF s14 (C := T.e_Clash.C) (F := "value") rfl rfl a14 b14
    replace S := S.trans s14
    replace ht := s14 _ _ ht
    replace hm := s14 _ _ hm
    refine ⟨_, rfl, t, _, 15, _, rfl, rfl, sq ht, at_getD (i := 15) (by omega), (by show 1 ≤ 1000; omega), oex_read T.e_UnlikeParts fun e15 d15 H16 s15 a15 b15 => ?_⟩
    replace M : MadeL (Cs T) (fun j => ts.getD j .non) H16 [e0, e1, e2, e3, e4, e5, e6, e7, e8, e9, e10, e11, e12, e13, e14, e15] := M.snocF s15 (C := T.e_UnlikeParts.C) (F := "names") rfl rfl a15 b15
    replace S := S.trans s15
    replace ht := s15 _ _ ht
    replace hm := s15 _ _ hm
    refine fun e16 n16 => ?_
    have s16 := same_new (o := (ExO (.ref T.e_NoEven.C) e16)) n16
    have a16 := upd_same (H := H16) (a := e16) (o := (ExO (.ref T.e_NoEven.C) e16))
    generalize upd H16 e16 (ExO (.ref T.e_NoEven.C) e16) = H17 at s16 a16 ⊢
    replace M : MadeL (Cs T) (fun j => ts.getD j .non) H17 [e0, e1, e2, e3, e4, e5, e6, e7, e8, e9, e10, e11, e12, e13, e14, e15, e16] := M.snocN s16 (C := T.e_NoEven.C) (e := e16) rfl rfl a16
    replace S := S.trans s16
    replace ht := s16 _ _ ht
    replace hm := s16 _ _ hm
    refine ⟨sz (by show 6 ≤ 100000; omega), fun p2 np2 => ?_⟩
    have sp2 := same_new (o := (.lst [.ref e11, .ref e12, .ref e13, .ref e14, .ref e15, .ref e16])) np2
    have ap2 := upd_same (H := H17) (a := p2) (o := (.lst [.ref e11, .ref e12, .ref e13, .ref e14, .ref e15, .ref e16]))
    generalize upd H17 p2 (.lst [.ref e11, .ref e12, .ref e13, .ref e14, .ref e15, .ref e16]) = G2 at sp2 ap2 ⊢
    have nm2 : H p2 = none := S.free np2
    replace M := M.keep (KeepN.of_same sp2).e
    replace ht := sp2 _ _ ht
    replace S := S.trans sp2
    refine ⟨r1, p2, _, _, rfl, rfl, sp2 _ _ hm, ap2, sz (by show 17 ≤ 100000; omega), fun r2 nr2 => ?_⟩
    have sr2 := same_new (o := (.lst (([.ref e0, .ref e1, .ref e2, .ref e3, .ref e4] ++ [.ref e5, .ref e6, .ref e7, .ref e8, .ref e9, .ref e10]) ++ [.ref e11, .ref e12, .ref e13, .ref e14, .ref e15, .ref e16]))) nr2
    have ar2 := upd_same (H := G2) (a := r2) (o := (.lst (([.ref e0, .ref e1, .ref e2, .ref e3, .ref e4] ++ [.ref e5, .ref e6, .ref e7, .ref e8, .ref e9, .ref e10]) ++ [.ref e11, .ref e12, .ref e13, .ref e14, .ref e15, .ref e16])))
    generalize upd G2 r2 (.lst (([.ref e0, .ref e1, .ref e2, .ref e3, .ref e4] ++ [.ref e5, .ref e6, .ref e7, .ref e8, .ref e9, .ref e10]) ++ [.ref e11, .ref e12, .ref e13, .ref e14, .ref e15, .ref e16])) = R2 at sr2 ar2 ⊢
    replace nm : H r2 = none := S.free nr2
    replace M := M.keep (KeepN.of_same sr2).e
    replace ht := sr2 _ _ ht
    replace S := S.trans sr2
    replace hm := ar2
    refine ⟨_, rfl, ?_⟩
    refine fun e17 n17 => ?_
    have s17 := same_new (o := (ExO (.ref T.e_NoOdd.C) e17)) n17
    have a17 := upd_same (H := R2) (a := e17) (o := (ExO (.ref T.e_NoOdd.C) e17))
    generalize upd R2 e17 (ExO (.ref T.e_NoOdd.C) e17) = H18 at s17 a17 ⊢
    replace M : MadeL (Cs T) (fun j => ts.getD j .non) H18 [e0, e1, e2, e3, e4, e5, e6, e7, e8, e9, e10, e11, e12, e13, e14, e15, e16, e17] := M.snocN s17 (C := T.e_NoOdd.C) (e := e17) rfl rfl a17
    replace S := S.trans s17
    replace ht := s17 _ _ ht
    replace hm := s17 _ _ hm
    refine fun e18 n18 => ?_
    have s18 := same_new (o := (ExO (.ref T.e_Settles.C) e18)) n18
    have a18 := upd_same (H := H18) (a := e18) (o := (ExO (.ref T.e_Settles.C) e18))
    generalize upd H18 e18 (ExO (.ref T.e_Settles.C) e18) = H19 at s18 a18 ⊢
    replace M : MadeL (Cs T) (fun j => ts.getD j .non) H19 [e0, e1, e2, e3, e4, e5, e6, e7, e8, e9, e10, e11, e12, e13, e14, e15, e16, e17, e18] := M.snocN s18 (C := T.e_Settles.C) (e := e18) rfl rfl a18
    replace S := S.trans s18
    replace ht := s18 _ _ ht
    replace hm := s18 _ _ hm
    refine fun e19 n19 => ?_
    have s19 := same_new (o := (ExO (.ref T.e_NothingToUndo.C) e19)) n19
    have a19 := upd_same (H := H19) (a := e19) (o := (ExO (.ref T.e_NothingToUndo.C) e19))
    generalize upd H19 e19 (ExO (.ref T.e_NothingToUndo.C) e19) = H20 at s19 a19 ⊢
    replace M : MadeL (Cs T) (fun j => ts.getD j .non) H20 [e0, e1, e2, e3, e4, e5, e6, e7, e8, e9, e10, e11, e12, e13, e14, e15, e16, e17, e18, e19] := M.snocN s19 (C := T.e_NothingToUndo.C) (e := e19) rfl rfl a19
    replace S := S.trans s19
    replace ht := s19 _ _ ht
    replace hm := s19 _ _ hm
    refine ⟨sz (by show 3 ≤ 100000; omega), fun p3 np3 => ?_⟩
    have sp3 := same_new (o := (.lst [.ref e17, .ref e18, .ref e19])) np3
    have ap3 := upd_same (H := H20) (a := p3) (o := (.lst [.ref e17, .ref e18, .ref e19]))
    generalize upd H20 p3 (.lst [.ref e17, .ref e18, .ref e19]) = G3 at sp3 ap3 ⊢
    have nm3 : H p3 = none := S.free np3
    replace M := M.keep (KeepN.of_same sp3).e
    replace ht := sp3 _ _ ht
    replace S := S.trans sp3
    refine ⟨r2, p3, _, _, rfl, rfl, sp3 _ _ hm, ap3, sz (by show 20 ≤ 100000; omega), fun r3 nr3 => ?_⟩
    have sr3 := same_new (o := (.lst ((([.ref e0, .ref e1, .ref e2, .ref e3, .ref e4] ++ [.ref e5, .ref e6, .ref e7, .ref e8, .ref e9, .ref e10]) ++ [.ref e11, .ref e12, .ref e13, .ref e14, .ref e15, .ref e16]) ++ [.ref e17, .ref e18, .ref e19]))) nr3
    have ar3 := upd_same (H := G3) (a := r3) (o := (.lst ((([.ref e0, .ref e1, .ref e2, .ref e3, .ref e4] ++ [.ref e5, .ref e6, .ref e7, .ref e8, .ref e9, .ref e10]) ++ [.ref e11, .ref e12, .ref e13, .ref e14, .ref e15, .ref e16]) ++ [.ref e17, .ref e18, .ref e19])))
    generalize upd G3 r3 (.lst ((([.ref e0, .ref e1, .ref e2, .ref e3, .ref e4] ++ [.ref e5, .ref e6, .ref e7, .ref e8, .ref e9, .ref e10]) ++ [.ref e11, .ref e12, .ref e13, .ref e14, .ref e15, .ref e16]) ++ [.ref e17, .ref e18, .ref e19])) = R3 at sr3 ar3 ⊢
    replace nm : H r3 = none := S.free nr3
    replace M := M.keep (KeepN.of_same sr3).e
    replace ht := sr3 _ _ ht
    replace S := S.trans sr3
    replace hm := ar3
    exact ⟨_, rfl, k _ [e0, e1, e2, e3, e4, e5, e6, e7, e8, e9, e10, e11, e12, e13, e14, e15, e16, e17, e18, e19] _ S nm hm rfl M⟩
theorem ok_l_named (T : Tx K mg) : FnOk P w K mg base CX0 3 T.l_named.f T.l_named.fd ["_law_t"] (spAll (Cs T)) := by
  refine T.l_named.F.ok sc_l_named (fun vs H Q E h => ?_) (fun cdv A outer s0 H vs Q E hr h => ?_)
  · obtain ⟨t, ts, rfl, _⟩ := h
    rfl
  · obtain ⟨t, ts, rfl, ht, hl, k⟩ := h
    refine ⟨_, (pss_cons (ps_set (i := 1) sc_l_named.nd rfl (.inl rfl) (pe_lst (pa_cons (pe_oexK T.e_BadName.oex T.e_BadName.iC T.e_BadName.tI (ok_i_BadName T) (hr.mono (by decide)) (T.e_BadName.kb (fun _ _ _ _ _ _ _ _ => rfl)) pass0 (by rfl) T.e_BadName.g (pk_cons (pe_ix ix_list (pv 0) pe_int (fun _ _ => rfl)) pk_nil)) (pa_cons (pe_oexK T.e_UnknownName.oex T.e_UnknownName.iC T.e_UnknownName.tI (ok_i_UnknownName T) (hr.mono (by decide)) (T.e_UnknownName.kb (fun _ _ _ _ _ _ _ _ => rfl)) pass0 (by rfl) T.e_UnknownName.g (pk_cons (pe_ix ix_list (pv 0) pe_int (fun _ _ => rfl)) pk_nil)) (pa_cons (pe_oexK T.e_BadCount.oex T.e_BadCount.iC T.e_BadCount.tI (ok_i_BadCount T) (hr.mono (by decide)) (T.e_BadCount.kb (fun _ _ _ _ _ _ _ _ => rfl)) pass0 (by rfl) T.e_BadCount.g (pk_cons (pe_ix ix_list (pv 0) pe_int (fun _ _ => rfl)) pk_nil)) (pa_cons (pe_oexK T.e_BadTop.oex T.e_BadTop.iC T.e_BadTop.tI (ok_i_BadTop T) (hr.mono (by decide)) (T.e_BadTop.kb (fun _ _ _ _ _ _ _ _ => rfl)) pass0 (by rfl) T.e_BadTop.g (pk_cons (pe_ix ix_list (pv 0) pe_int (fun _ _ => rfl)) pk_nil)) pa_nil))))))
      (pss_cons (ps_set (i := 1) sc_l_named.nd rfl (.inl rfl) (pe_op op_cat (pv 1) (pe_lst (pa_cons (pe_oexK T.e_BadArrow.oex T.e_BadArrow.iC T.e_BadArrow.tI (ok_i_BadArrow T) (hr.mono (by decide)) (T.e_BadArrow.kb (fun _ _ _ _ _ _ _ _ => rfl)) pass0 (by rfl) T.e_BadArrow.g (pk_cons (pe_ix ix_list (pv 0) pe_int (fun _ _ => rfl)) pk_nil)) (pa_cons (pe_oexK T.e_BadText.oex T.e_BadText.iC T.e_BadText.tI (ok_i_BadText T) (hr.mono (by decide)) (T.e_BadText.kb (fun _ _ _ _ _ _ _ _ => rfl)) pass0 (by rfl) T.e_BadText.g (pk_cons (pe_ix ix_list (pv 0) pe_int (fun _ _ => rfl)) pk_nil)) (pa_cons (pe_oexK T.e_BadState.oex T.e_BadState.iC T.e_BadState.tI (ok_i_BadState T) (hr.mono (by decide)) (T.e_BadState.kb (fun _ _ _ _ _ _ _ _ => rfl)) pass0 (by rfl) T.e_BadState.g (pk_cons (pe_ix ix_list (pv 0) pe_int (fun _ _ => rfl)) pk_nil)) (pa_cons (pe_oexK T.e_BadTable.oex T.e_BadTable.iC T.e_BadTable.tI (ok_i_BadTable T) (hr.mono (by decide)) (T.e_BadTable.kb (fun _ _ _ _ _ _ _ _ => rfl)) pass0 (by rfl) T.e_BadTable.g (pk_cons (pe_ix ix_list (pv 0) pe_int (fun _ _ => rfl)) pk_nil)) pa_nil)))))))
      (pss_cons (ps_set (i := 1) sc_l_named.nd rfl (.inl rfl) (pe_op op_cat (pv 1) (pe_lst (pa_cons (pe_oexK T.e_BadRing.oex T.e_BadRing.iC T.e_BadRing.tI (ok_i_BadRing T) (hr.mono (by decide)) (T.e_BadRing.kb (fun _ _ _ _ _ _ _ _ => rfl)) pass0 (by rfl) T.e_BadRing.g (pk_cons (pe_ix ix_list (pv 0) pe_int (fun _ _ => rfl)) pk_nil)) (pa_cons (pe_oexK T.e_BadSet.oex T.e_BadSet.iC T.e_BadSet.tI (ok_i_BadSet T) (hr.mono (by decide)) (T.e_BadSet.kb (fun _ _ _ _ _ _ _ _ => rfl)) pass0 (by rfl) T.e_BadSet.g (pk_cons (pe_ix ix_list (pv 0) pe_int (fun _ _ => rfl)) pk_nil)) (pa_cons (pe_oexK T.e_BadFact.oex T.e_BadFact.iC T.e_BadFact.tI (ok_i_BadFact T) (hr.mono (by decide)) (T.e_BadFact.kb (fun _ _ _ _ _ _ _ _ => rfl)) pass0 (by rfl) T.e_BadFact.g (pk_cons (pe_ix ix_list (pv 0) pe_int (fun _ _ => rfl)) pk_nil)) (pa_cons (pe_oexK T.e_BadNumber.oex T.e_BadNumber.iC T.e_BadNumber.tI (ok_i_BadNumber T) (hr.mono (by decide)) (T.e_BadNumber.kb (fun _ _ _ _ _ _ _ _ => rfl)) pass0 (by rfl) T.e_BadNumber.g (pk_cons (pe_ix ix_list (pv 0) pe_int (fun _ _ => rfl)) pk_nil)) pa_nil)))))))
      (pss_cons (ps_set (i := 1) sc_l_named.nd rfl (.inl rfl) (pe_op op_cat (pv 1) (pe_lst (pa_cons (pe_oexK T.e_HasRing.oex T.e_HasRing.iC T.e_HasRing.tI (ok_i_HasRing T) (hr.mono (by decide)) (T.e_HasRing.kb (fun _ _ _ _ _ _ _ _ => rfl)) pass0 (by rfl) T.e_HasRing.g (pk_cons (pe_ix ix_list (pv 0) pe_int (fun _ _ => rfl)) pk_nil)) (pa_cons (pe_oexK T.e_HasOdd.oex T.e_HasOdd.iC T.e_HasOdd.tI (ok_i_HasOdd T) (hr.mono (by decide)) (T.e_HasOdd.kb (fun _ _ _ _ _ _ _ _ => rfl)) pass0 (by rfl) T.e_HasOdd.g (pk_cons (pe_ix ix_list (pv 0) pe_int (fun _ _ => rfl)) pk_nil)) (pa_cons (pe_oexK T.e_Clash.oex T.e_Clash.iC T.e_Clash.tI (ok_i_Clash T) (hr.mono (by decide)) (T.e_Clash.kb (fun _ _ _ _ _ _ _ _ => rfl)) pass0 (by rfl) T.e_Clash.g (pk_cons (pe_ix ix_list (pv 0) pe_int (fun _ _ => rfl)) pk_nil)) (pa_cons (pe_oexK T.e_UnlikeParts.oex T.e_UnlikeParts.iC T.e_UnlikeParts.tI (ok_i_UnlikeParts T) (hr.mono (by decide)) (T.e_UnlikeParts.kb (fun _ _ _ _ _ _ _ _ => rfl)) pass0 (by rfl) T.e_UnlikeParts.g (pk_cons (pe_ix ix_list (pv 0) pe_int (fun _ _ => rfl)) pk_nil)) pa_nil)))))))
      (pss_cons (ps_set (i := 1) sc_l_named.nd rfl (.inl rfl) (pe_op op_cat (pv 1) (pe_lst (pa_cons (pe_exc0 PySem.F.excBase_ValueError T.e_NoEven.q T.e_NoEven.g T.e_NoEven.kC (by rfl)) (pa_cons (pe_exc0 PySem.F.excBase_ValueError T.e_NoOdd.q T.e_NoOdd.g T.e_NoOdd.kC (by rfl)) (pa_cons (pe_exc0 PySem.F.excBase_ValueError T.e_Settles.q T.e_Settles.g T.e_Settles.kC (by rfl)) (pa_cons (pe_exc0 PySem.F.excBase_ValueError T.e_NothingToUndo.q T.e_NothingToUndo.g T.e_NothingToUndo.kC (by rfl)) pa_nil)))))))
      (pss_one (ps_ret (pv 1)))))))), ?_⟩
    have M := made_nil (Cl := Cs T) (ts := fun j => ts.getD j .non) (H := H)
    have S := Same.refl H
    refine ⟨_, rfl, t, _, 0, _, rfl, rfl, sq ht, at_getD (i := 0) (by omega), oex_read T.e_BadName fun e0 d0 H1 s0 a0 b0 => ?_⟩
    replace M : MadeL (Cs T) (fun j => ts.getD j .non) H1 [e0] := M.snocF s0 (C := T.e_BadName.C) (F := "name") rfl rfl a0 b0
    replace S := S.trans s0
    replace ht := s0 _ _ ht
    refine ⟨_, rfl, t, _, 1, _, rfl, rfl, sq ht, at_getD (i := 1) (by omega), oex_read T.e_UnknownName fun e1 d1 H2 s1 a1 b1 => ?_⟩
    replace M : MadeL (Cs T) (fun j => ts.getD j .non) H2 [e0, e1] := M.snocF s1 (C := T.e_UnknownName.C) (F := "name") rfl rfl a1 b1
    replace S := S.trans s1
    replace ht := s1 _ _ ht
    refine ⟨_, rfl, t, _, 2, _, rfl, rfl, sq ht, at_getD (i := 2) (by omega), oex_read T.e_BadCount fun e2 d2 H3 s2 a2 b2 => ?_⟩
    replace M : MadeL (Cs T) (fun j => ts.getD j .non) H3 [e0, e1, e2] := M.snocF s2 (C := T.e_BadCount.C) (F := "count") rfl rfl a2 b2
    replace S := S.trans s2
    replace ht := s2 _ _ ht
    refine ⟨_, rfl, t, _, 3, _, rfl, rfl, sq ht, at_getD (i := 3) (by omega), oex_read T.e_BadTop fun e3 d3 H4 s3 a3 b3 => ?_⟩
    replace M : MadeL (Cs T) (fun j => ts.getD j .non) H4 [e0, e1, e2, e3] := M.snocF s3 (C := T.e_BadTop.C) (F := "value") rfl rfl a3 b3
    replace S := S.trans s3
    replace ht := s3 _ _ ht
    refine ⟨sz (by show 4 ≤ 100000; omega), fun p0 np0 => ?_⟩
    have sp0 := same_new (o := (.lst [.ref e0, .ref e1, .ref e2, .ref e3])) np0
    have ap0 := upd_same (H := H4) (a := p0) (o := (.lst [.ref e0, .ref e1, .ref e2, .ref e3]))
    generalize upd H4 p0 (.lst [.ref e0, .ref e1, .ref e2, .ref e3]) = G0 at sp0 ap0 ⊢
    have nm0 : H p0 = none := S.free np0
    replace M := M.keep (KeepN.of_same sp0).e
    replace ht := sp0 _ _ ht
    replace S := S.trans sp0
    have hm := ap0
    have nm := nm0
    refine ⟨_, rfl, ?_⟩
    refine ⟨_, rfl, t, _, 4, _, rfl, rfl, sq ht, at_getD (i := 4) (by omega), oex_read T.e_BadArrow fun e4 d4 H5 s4 a4 b4 => ?_⟩
    replace M : MadeL (Cs T) (fun j => ts.getD j .non) H5 [e0, e1, e2, e3, e4] := M.snocF s4 (C := T.e_BadArrow.C) (F := "value") rfl rfl a4 b4
    replace S := S.trans s4
    replace ht := s4 _ _ ht
    replace hm := s4 _ _ hm
    refine ⟨_, rfl, t, _, 5, _, rfl, rfl, sq ht, at_getD (i := 5) (by omega), oex_read T.e_BadText fun e5 d5 H6 s5 a5 b5 => ?_⟩
    replace M : MadeL (Cs T) (fun j => ts.getD j .non) H6 [e0, e1, e2, e3, e4, e5] := M.snocF s5 (C := T.e_BadText.C) (F := "text") rfl rfl a5 b5
    replace S := S.trans s5
    replace ht := s5 _ _ ht
    replace hm := s5 _ _ hm
    refine ⟨_, rfl, t, _, 6, _, rfl, rfl, sq ht, at_getD (i := 6) (by omega), oex_read T.e_BadState fun e6 d6 H7 s6 a6 b6 => ?_⟩
    replace M : MadeL (Cs T) (fun j => ts.getD j .non) H7 [e0, e1, e2, e3, e4, e5, e6] := M.snocF s6 (C := T.e_BadState.C) (F := "value") rfl rfl a6 b6
    replace S := S.trans s6
    replace ht := s6 _ _ ht
    replace hm := s6 _ _ hm
    refine ⟨_, rfl, t, _, 7, _, rfl, rfl, sq ht, at_getD (i := 7) (by omega), oex_read T.e_BadTable fun e7 d7 H8 s7 a7 b7 => ?_⟩
    replace M : MadeL (Cs T) (fun j => ts.getD j .non) H8 [e0, e1, e2, e3, e4, e5, e6, e7] := M.snocF s7 (C := T.e_BadTable.C) (F := "name") rfl rfl a7 b7
    replace S := S.trans s7
    replace ht := s7 _ _ ht
    replace hm := s7 _ _ hm
    refine ⟨sz (by show 4 ≤ 100000; omega), fun p1 np1 => ?_⟩
    have sp1 := same_new (o := (.lst [.ref e4, .ref e5, .ref e6, .ref e7])) np1
    have ap1 := upd_same (H := H8) (a := p1) (o := (.lst [.ref e4, .ref e5, .ref e6, .ref e7]))
    generalize upd H8 p1 (.lst [.ref e4, .ref e5, .ref e6, .ref e7]) = G1 at sp1 ap1 ⊢
    have nm1 : H p1 = none := S.free np1
    replace M := M.keep (KeepN.of_same sp1).e
    replace ht := sp1 _ _ ht
    replace S := S.trans sp1
    refine ⟨p0, p1, _, _, rfl, rfl, sp1 _ _ hm, ap1, sz (by show 8 ≤ 100000; omega), fun r1 nr1 => ?_⟩
    have sr1 := same_new (o := (.lst ([.ref e0, .ref e1, .ref e2, .ref e3] ++ [.ref e4, .ref e5, .ref e6, .ref e7]))) nr1
    have ar1 := upd_same (H := G1) (a := r1) (o := (.lst ([.ref e0, .ref e1, .ref e2, .ref e3] ++ [.ref e4, .ref e5, .ref e6, .ref e7])))
    generalize upd G1 r1 (.lst ([.ref e0, .ref e1, .ref e2, .ref e3] ++ [.ref e4, .ref e5, .ref e6, .ref e7])) = R1 at sr1 ar1 ⊢
    replace nm : H r1 = none := S.free nr1
    replace M := M.keep (KeepN.of_same sr1).e
    replace ht := sr1 _ _ ht
    replace S := S.trans sr1
    replace hm := ar1
    refine ⟨_, rfl, ?_⟩
    refine ⟨_, rfl, t, _, 8, _, rfl, rfl, sq ht, at_getD (i := 8) (by omega), oex_read T.e_BadRing fun e8 d8 H9 s8 a8 b8 => ?_⟩
    replace M : MadeL (Cs T) (fun j => ts.getD j .non) H9 [e0, e1, e2, e3, e4, e5, e6, e7, e8] := M.snocF s8 (C := T.e_BadRing.C) (F := "value") rfl rfl a8 b8
    replace S := S.trans s8
    replace ht := s8 _ _ ht
    replace hm := s8 _ _ hm
    refine ⟨_, rfl, t, _, 9, _, rfl, rfl, sq ht, at_getD (i := 9) (by omega), oex_read T.e_BadSet fun e9 d9 H10 s9 a9 b9 => ?_⟩
    replace M : MadeL (Cs T) (fun j => ts.getD j .non) H10 [e0, e1, e2, e3, e4, e5, e6, e7, e8, e9] := M.snocF s9 (C := T.e_BadSet.C) (F := "value") rfl rfl a9 b9
    replace S := S.trans s9
    replace ht := s9 _ _ ht
    replace hm := s9 _ _ hm
    refine ⟨_, rfl, t, _, 10, _, rfl, rfl, sq ht, at_getD (i := 10) (by omega), oex_read T.e_BadFact fun e10 d10 H11 s10 a10 b10 => ?_⟩
    replace M : MadeL (Cs T) (fun j => ts.getD j .non) H11 [e0, e1, e2, e3, e4, e5, e6, e7, e8, e9, e10] := M.snocF s10 (C := T.e_BadFact.C) (F := "value") rfl rfl a10 b10
    replace S := S.trans s10
    replace ht := s10 _ _ ht
    replace hm := s10 _ _ hm
    refine ⟨_, rfl, t, _, 11, _, rfl, rfl, sq ht, at_getD (i := 11) (by omega), oex_read T.e_BadNumber fun e11 d11 H12 s11 a11 b11 => ?_⟩
    replace M : MadeL (Cs T) (fun j => ts.getD j .non) H12 [e0, e1, e2, e3, e4, e5, e6, e7, e8, e9, e10, e11] := M.snocF s11 (C := T.e_BadNumber.C) (F := "value") rfl rfl a11 b11
    replace S := S.trans s11
    replace ht := s11 _ _ ht
    replace hm := s11 _ _ hm
    refine ⟨sz (by show 4 ≤ 100000; omega), fun p2 np2 => ?_⟩
    have sp2 := same_new (o := (.lst [.ref e8, .ref e9, .ref e10, .ref e11])) np2
    have ap2 := upd_same (H := H12) (a := p2) (o := (.lst [.ref e8, .ref e9, .ref e10, .ref e11]))
    generalize upd H12 p2 (.lst [.ref e8, .ref e9, .ref e10, .ref e11]) = G2 at sp2 ap2 ⊢
    have nm2 : H p2 = none := S.free np2
    replace M := M.keep (KeepN.of_same sp2).e
    replace ht := sp2 _ _ ht
    replace S := S.trans sp2
    refine ⟨r1, p2, _, _, rfl, rfl, sp2 _ _ hm, ap2, sz (by show 12 ≤ 100000; omega), fun r2 nr2 => ?_⟩
    have sr2 := same_new (o := (.lst (([.ref e0, .ref e1, .ref e2, .ref e3] ++ [.ref e4, .ref e5, .ref e6, .ref e7]) ++ [.ref e8, .ref e9, .ref e10, .ref e11]))) nr2
    have ar2 := upd_same (H := G2) (a := r2) (o := (.lst (([.ref e0, .ref e1, .ref e2, .ref e3] ++ [.ref e4, .ref e5, .ref e6, .ref e7]) ++ [.ref e8, .ref e9, .ref e10, .ref e11])))
    generalize upd G2 r2 (.lst (([.ref e0, .ref e1, .ref e2, .ref e3] ++ [.ref e4, .ref e5, .ref e6, .ref e7]) ++ [.ref e8, .ref e9, .ref e10, .ref e11])) = R2 at sr2 ar2 ⊢
    replace nm : H r2 = none := S.free nr2
    replace M := M.keep (KeepN.of_same sr2).e
    replace ht := sr2 _ _ ht
    replace S := S.trans sr2
    replace hm := ar2
    refine ⟨_, rfl, ?_⟩
    refine ⟨_, rfl, t, _, 12, _, rfl, rfl, sq ht, at_getD (i := 12) (by omega), oex_read T.e_HasRing fun e12 d12 H13 s12 a12 b12 => ?_⟩
    replace M : MadeL (Cs T) (fun j => ts.getD j .non) H13 [e0, e1, e2, e3, e4, e5, e6, e7, e8, e9, e10, e11, e12] := M.snocF s12 (C := T.e_HasRing.C) (F := "value") rfl rfl a12 b12
    replace S := S.trans s12
    replace ht := s12 _ _ ht
    replace hm := s12 _ _ hm
    refine ⟨_, rfl, t, _, 13, _, rfl, rfl, sq ht, at_getD (i := 13) (by omega), oex_read T.e_HasOdd fun e13 d13 H14 s13 a13 b13 => ?_⟩
    replace M : MadeL (Cs T) (fun j => ts.getD j .non) H14 [e0, e1, e2, e3, e4, e5, e6, e7, e8, e9, e10, e11, e12, e13] := M.snocF s13 (C := T.e_HasOdd.C) (F := "value") rfl rfl a13 b13
    replace S := S.trans s13
    replace ht := s13 _ _ ht
    replace hm := s13 _ _ hm
    refine ⟨_, rfl, t, _, 14, _, rfl, rfl, sq ht, at_getD (i := 14) (by omega), oex_read T.e_Clash fun e14 d14 H15 s14 a14 b14 => ?_⟩
    replace M : MadeL (Cs T) (fun j => ts.getD j .non) H15 [e0, e1, e2, e3, e4, e5, e6, e7, e8, e9, e10, e11, e12, e13, e14] := M.snocF s14 (C := T.e_Clash.C) (F := "value") rfl rfl a14 b14
    replace S := S.trans s14
    replace ht := s14 _ _ ht
    replace hm := s14 _ _ hm
    refine ⟨_, rfl, t, _, 15, _, rfl, rfl, sq ht, at_getD (i := 15) (by omega), oex_read T.e_UnlikeParts fun e15 d15 H16 s15 a15 b15 => ?_⟩
    replace M : MadeL (Cs T) (fun j => ts.getD j .non) H16 [e0, e1, e2, e3, e4, e5, e6, e7, e8, e9, e10, e11, e12, e13, e14, e15] := M.snocF s15 (C := T.e_UnlikeParts.C) (F := "names") rfl rfl a15 b15
    replace S := S.trans s15
    replace ht := s15 _ _ ht
    replace hm := s15 _ _ hm
    refine ⟨sz (by show 4 ≤ 100000; omega), fun p3 np3 => ?_⟩
    have sp3 := same_new (o := (.lst [.ref e12, .ref e13, .ref e14, .ref e15])) np3
    have ap3 := upd_same (H := H16) (a := p3) (o := (.lst [.ref e12, .ref e13, .ref e14, .ref e15]))
    generalize upd H16 p3 (.lst [.ref e12, .ref e13, .ref e14, .ref e15]) = G3 at sp3 ap3 ⊢
    have nm3 : H p3 = none := S.free np3
    replace M := M.keep (KeepN.of_same sp3).e
    replace ht := sp3 _ _ ht
    replace S := S.trans sp3
    refine ⟨r2, p3, _, _, rfl, rfl, sp3 _ _ hm, ap3, sz (by show 16 ≤ 100000; omega), fun r3 nr3 => ?_⟩
    have sr3 := same_new (o := (.lst ((([.ref e0, .ref e1, .ref e2, .ref e3] ++ [.ref e4, .ref e5, .ref e6, .ref e7]) ++ [.ref e8, .ref e9, .ref e10, .ref e11]) ++ [.ref e12, .ref e13, .ref e14, .ref e15]))) nr3
    have ar3 := upd_same (H := G3) (a := r3) (o := (.lst ((([.ref e0, .ref e1, .ref e2, .ref e3] ++ [.ref e4, .ref e5, .ref e6, .ref e7]) ++ [.ref e8, .ref e9, .ref e10, .ref e11]) ++ [.ref e12, .ref e13, .ref e14, .ref e15])))
    generalize upd G3 r3 (.lst ((([.ref e0, .ref e1, .ref e2, .ref e3] ++ [.ref e4, .ref e5, .ref e6, .ref e7]) ++ [.ref e8, .ref e9, .ref e10, .ref e11]) ++ [.ref e12, .ref e13, .ref e14, .ref e15])) = R3 at sr3 ar3 ⊢
    replace nm : H r3 = none := S.free nr3
    replace M := M.keep (KeepN.of_same sr3).e
    replace ht := sr3 _ _ ht
    replace S := S.trans sr3
    replace hm := ar3
    refine ⟨_, rfl, ?_⟩
    refine fun e16 n16 => ?_
    have s16 := same_new (o := (ExO (.ref T.e_NoEven.C) e16)) n16
    have a16 := upd_same (H := R3) (a := e16) (o := (ExO (.ref T.e_NoEven.C) e16))
    generalize upd R3 e16 (ExO (.ref T.e_NoEven.C) e16) = H17 at s16 a16 ⊢
    replace M : MadeL (Cs T) (fun j => ts.getD j .non) H17 [e0, e1, e2, e3, e4, e5, e6, e7, e8, e9, e10, e11, e12, e13, e14, e15, e16] := M.snocN s16 (C := T.e_NoEven.C) (e := e16) rfl rfl a16
    replace S := S.trans s16
    replace ht := s16 _ _ ht
    replace hm := s16 _ _ hm
    refine fun e17 n17 => ?_
    have s17 := same_new (o := (ExO (.ref T.e_NoOdd.C) e17)) n17
    have a17 := upd_same (H := H17) (a := e17) (o := (ExO (.ref T.e_NoOdd.C) e17))
    generalize upd H17 e17 (ExO (.ref T.e_NoOdd.C) e17) = H18 at s17 a17 ⊢
    replace M : MadeL (Cs T) (fun j => ts.getD j .non) H18 [e0, e1, e2, e3, e4, e5, e6, e7, e8, e9, e10, e11, e12, e13, e14, e15, e16, e17] := M.snocN s17 (C := T.e_NoOdd.C) (e := e17) rfl rfl a17
    replace S := S.trans s17
    replace ht := s17 _ _ ht
    replace hm := s17 _ _ hm
    refine fun e18 n18 => ?_
    have s18 := same_new (o := (ExO (.ref T.e_Settles.C) e18)) n18
    have a18 := upd_same (H := H18) (a := e18) (o := (ExO (.ref T.e_Settles.C) e18))
    generalize upd H18 e18 (ExO (.ref T.e_Settles.C) e18) = H19 at s18 a18 ⊢
    replace M : MadeL (Cs T) (fun j => ts.getD j .non) H19 [e0, e1, e2, e3, e4, e5, e6, e7, e8, e9, e10, e11, e12, e13, e14, e15, e16, e17, e18] := M.snocN s18 (C := T.e_Settles.C) (e := e18) rfl rfl a18
    replace S := S.trans s18
    replace ht := s18 _ _ ht
    replace hm := s18 _ _ hm
    refine fun e19 n19 => ?_
    have s19 := same_new (o := (ExO (.ref T.e_NothingToUndo.C) e19)) n19
    have a19 := upd_same (H := H19) (a := e19) (o := (ExO (.ref T.e_NothingToUndo.C) e19))
    generalize upd H19 e19 (ExO (.ref T.e_NothingToUndo.C) e19) = H20 at s19 a19 ⊢
    replace M : MadeL (Cs T) (fun j => ts.getD j .non) H20 [e0, e1, e2, e3, e4, e5, e6, e7, e8, e9, e10, e11, e12, e13, e14, e15, e16, e17, e18, e19] := M.snocN s19 (C := T.e_NothingToUndo.C) (e := e19) rfl rfl a19
    replace S := S.trans s19
    replace ht := s19 _ _ ht
    replace hm := s19 _ _ hm
    refine ⟨sz (by show 4 ≤ 100000; omega), fun p4 np4 => ?_⟩
    have sp4 := same_new (o := (.lst [.ref e16, .ref e17, .ref e18, .ref e19])) np4
    have ap4 := upd_same (H := H20) (a := p4) (o := (.lst [.ref e16, .ref e17, .ref e18, .ref e19]))
    generalize upd H20 p4 (.lst [.ref e16, .ref e17, .ref e18, .ref e19]) = G4 at sp4 ap4 ⊢
    have nm4 : H p4 = none := S.free np4
    replace M := M.keep (KeepN.of_same sp4).e
    replace ht := sp4 _ _ ht
    replace S := S.trans sp4
    refine ⟨r3, p4, _, _, rfl, rfl, sp4 _ _ hm, ap4, sz (by show 20 ≤ 100000; omega), fun r4 nr4 => ?_⟩
    have sr4 := same_new (o := (.lst (((([.ref e0, .ref e1, .ref e2, .ref e3] ++ [.ref e4, .ref e5, .ref e6, .ref e7]) ++ [.ref e8, .ref e9, .ref e10, .ref e11]) ++ [.ref e12, .ref e13, .ref e14, .ref e15]) ++ [.ref e16, .ref e17, .ref e18, .ref e19]))) nr4
    have ar4 := upd_same (H := G4) (a := r4) (o := (.lst (((([.ref e0, .ref e1, .ref e2, .ref e3] ++ [.ref e4, .ref e5, .ref e6, .ref e7]) ++ [.ref e8, .ref e9, .ref e10, .ref e11]) ++ [.ref e12, .ref e13, .ref e14, .ref e15]) ++ [.ref e16, .ref e17, .ref e18, .ref e19])))
    generalize upd G4 r4 (.lst (((([.ref e0, .ref e1, .ref e2, .ref e3] ++ [.ref e4, .ref e5, .ref e6, .ref e7]) ++ [.ref e8, .ref e9, .ref e10, .ref e11]) ++ [.ref e12, .ref e13, .ref e14, .ref e15]) ++ [.ref e16, .ref e17, .ref e18, .ref e19])) = R4 at sr4 ar4 ⊢
    replace nm : H r4 = none := S.free nr4
    replace M := M.keep (KeepN.of_same sr4).e
    replace ht := sr4 _ _ ht
    replace S := S.trans sr4
    replace hm := ar4
    exact ⟨_, rfl, k _ [e0, e1, e2, e3, e4, e5, e6, e7, e8, e9, e10, e11, e12, e13, e14, e15, e16, e17, e18, e19] _ S nm hm rfl M⟩

end
end K02
set_option Elab.async false
set_option linter.all false
set_option maxRecDepth 100000
set_option maxHeartbeats 1000000
namespace K02
open PySem PySem.Spec PyProof.Rows L2 Rl Dr Tx Ex Er
section
variable {P : Program} {w : World} {K : PySem.W.Frag} {mg : Str → Option Value} {base : Heap}
--B--
/-! ### any value that a law hands in -/
inductive Ok1 (H : Hp) : V → Prop where
  | non : Ok1 H .non
  | bl (b : Bool) : Ok1 H (.bl b)
  | int (i : Int) : Ok1 H (.int i)
  | str (z : Str) : Ok1 H (.str z)
  | lst {a : Addr} {xs : List V} (h : H a = some (.lst xs)) : Ok1 H (.ref a)
  | tup {a : Addr} {xs : List V} (h : H a = some (.tup xs)) : Ok1 H (.ref a)
  | dK {a : Addr} {kvs : List (Key × V)} (h : H a = some (.dK kvs)) : Ok1 H (.ref a)
def isB : V → Bool
  | .bl _ => true
  | _ => false
theorem Ok1.kit {H : Hp} {v : V} (h : Ok1 H v) : ∃ t, TyX K H v t ∧ PySem.W.kitOne K t (.type "bool") = some (isB v) := by
  cases h with
  | non => exact ⟨_, .base .non, kit_ty (by decide +kernel)⟩
  | bl b => exact ⟨_, .base (.bl b), kit_ty (show kitB "bool" "bool" = some true by decide +kernel)⟩
  | int i => exact ⟨_, .base (.int i), kit_ty (show kitB "int" "bool" = some false by decide +kernel)⟩
  | str z => exact ⟨_, .base (.str z), kit_ty (show kitB "str" "bool" = some false by decide +kernel)⟩
  | lst h => exact ⟨_, .base (.lst h), kit_ty (show kitB "list" "bool" = some false by decide +kernel)⟩
  | tup h => exact ⟨_, .base (.tup h), kit_ty (show kitB "tuple" "bool" = some false by decide +kernel)⟩
  | dK h => exact ⟨_, .base (.dK h), kit_ty (show kitB "dict" "bool" = some false by decide +kernel)⟩
theorem Ok1.same {H H' : Hp} {v : V} (h : Ok1 H v) (s : Same H H') : Ok1 H' v := by
  cases h with
  | non => exact .non
  | bl b => exact .bl b
  | int i => exact .int i
  | str z => exact .str z
  | lst h => exact .lst (s _ _ h)
  | tup h => exact .tup (s _ _ h)
  | dK h => exact .dK (s _ _ h)
theorem Ok1.eqv {H : Hp} {v : V} (h : Ok1 H v) : EqV K H 1 v v := by
  cases h with
  | non => exact .inl ⟨rfl, rfl⟩
  | bl b => exact .inl ⟨rfl, rfl⟩
  | int i => exact .inl ⟨rfl, rfl⟩
  | str z => exact .inl ⟨rfl, rfl⟩
  | lst h => exact .inr (.inl ⟨_, rfl, rfl⟩)
  | tup h => exact .inr (.inl ⟨_, rfl, rfl⟩)
  | dK h => exact .inr (.inl ⟨_, rfl, rfl⟩)
theorem paired_self {F : V → V → Prop} : ∀ {l : List V}, (∀ v ∈ l, F v v) → Paired F l l
  | [], _ => .nil
  | v :: r, h => .cons (h v (by simp)) (paired_self fun x hx => h x (List.mem_cons_of_mem _ hx))
/-- lists of truth values -/
theorem dp_bls {H : Hp} : ∀ bs : List Bool, DpAll K H (bs.map V.bl) (bs.map PyData.bool)
  | [] => .nil
  | b :: r => .cons (.bl b) (dp_bls r)
theorem canLay_bls : ∀ bs : List Bool, PyData.canLayAll0 (bs.map PyData.bool) = true
  | [] => rfl
  | b :: r => by
    show (PyData.canLay0 (.bool b) && PyData.canLayAll0 (r.map PyData.bool)) = true
    rw [canLay_bls r]
    rfl
theorem depthAll_bls : ∀ bs : List Bool, PyData.depthAll (bs.map PyData.bool) ≤ 1
  | [] => Nat.zero_le _
  | b :: r => by
    have ih := depthAll_bls r
    simp only [List.map_cons, PyData.depthAll, PyData.depth]
    omega
theorem shaped_bls (bs : List Bool) : SeqAt.shaped (.list (bs.map PyData.bool)) = true := by
  have hd : (PyData.list (bs.map PyData.bool)).depth ≤ 64 := by
    have := depthAll_bls bs
    simp only [PyData.depth]
    omega
  unfold SeqAt.shaped
  rw [show PyData.canLay0 (.list (bs.map PyData.bool)) = PyData.canLayAll0 (bs.map PyData.bool) from rfl, canLay_bls, decide_eq_true hd]
  rfl
theorem eqvAll_bls : ∀ bs : List Bool, PyData.eqvAll (bs.map PyData.bool) (bs.map PyData.bool) = true
  | [] => rfl
  | b :: r => by
    show ((b == b) && PyData.eqvAll (r.map PyData.bool) (r.map PyData.bool)) = true
    rw [eqvAll_bls r, beq_self_eq_true]
    rfl
theorem eqv_bls (bs : List Bool) : PyData.eqv (.list (bs.map PyData.bool)) (.list (bs.map PyData.bool)) = true := eqvAll_bls bs
/-! ### the classes -/
theorem err_of (T : Tx K mg) {C : Addr} (h : C ∈ Cs T) : ∃ n, ∃ E : ErrB K mg n T.root.C, E.C = C := by
  unfold Cs at h
  simp only [List.mem_cons, List.not_mem_nil, or_false] at h
  rcases h with rfl | rfl | rfl | rfl | rfl | rfl | rfl | rfl | rfl | rfl | rfl | rfl | rfl | rfl | rfl | rfl | rfl | rfl | rfl | rfl
  · exact ⟨_, T.e_BadName.toErrB, rfl⟩
  · exact ⟨_, T.e_UnknownName.toErrB, rfl⟩
  · exact ⟨_, T.e_BadCount.toErrB, rfl⟩
  · exact ⟨_, T.e_BadTop.toErrB, rfl⟩
  · exact ⟨_, T.e_BadArrow.toErrB, rfl⟩
  · exact ⟨_, T.e_BadText.toErrB, rfl⟩
  · exact ⟨_, T.e_BadState.toErrB, rfl⟩
  · exact ⟨_, T.e_BadTable.toErrB, rfl⟩
  · exact ⟨_, T.e_BadRing.toErrB, rfl⟩
  · exact ⟨_, T.e_BadSet.toErrB, rfl⟩
  · exact ⟨_, T.e_BadFact.toErrB, rfl⟩
  · exact ⟨_, T.e_BadNumber.toErrB, rfl⟩
  · exact ⟨_, T.e_HasRing.toErrB, rfl⟩
  · exact ⟨_, T.e_HasOdd.toErrB, rfl⟩
  · exact ⟨_, T.e_Clash.toErrB, rfl⟩
  · exact ⟨_, T.e_UnlikeParts.toErrB, rfl⟩
  · exact ⟨_, T.e_NoEven.toErrB, rfl⟩
  · exact ⟨_, T.e_NoOdd.toErrB, rfl⟩
  · exact ⟨_, T.e_Settles.toErrB, rfl⟩
  · exact ⟨_, T.e_NothingToUndo.toErrB, rfl⟩
theorem nd_root (T : Tx K mg) {C : Addr} (h : C ∈ Cs T) : C ≠ T.root.C := fun e => by
  have nd := T.nd
  have h1 := (List.nodup_cons.mp nd).1
  exact h1 (e ▸ h)
theorem nd_cs (T : Tx K mg) : (Cs T).Nodup := (List.nodup_cons.mp T.nd).2
/-- isinstance of an exception of the class at C, asked for D -/
theorem kit_cs (T : Tx K mg) {C D : Addr} (hC : C ∈ Cs T) (hD : D ∈ Cs T) : PySem.W.kitOne K (.ref C) (.ref D) = some (decide (D = C)) := by
  obtain ⟨n, E, rfl⟩ := err_of T hC
  obtain ⟨n', E', rfl⟩ := err_of T hD
  rw [E.kit E'.isC E'.tyC, decide_eq_false (nd_root T hD), Bool.or_false]
theorem kit_root (T : Tx K mg) {C : Addr} (hC : C ∈ Cs T) : PySem.W.kitOne K (.ref C) (.ref T.root.C) = some true := by
  obtain ⟨n, E, rfl⟩ := err_of T hC
  rw [E.kit T.root.isC T.root.tyC, decide_eq_true rfl, Bool.or_true]
theorem kit_ve (T : Tx K mg) {C : Addr} (hC : C ∈ Cs T) : PySem.W.kitOne K (.ref C) (.type "ValueError") = some true := by
  obtain ⟨n, E, rfl⟩ := err_of T hC
  exact E.kitV
theorem ec_cs (T : Tx K mg) {C : Addr} (hC : C ∈ Cs T) : ExcC K C := by
  obtain ⟨n, E, rfl⟩ := err_of T hC
  exact E.ec T.oc
def spSorts (T : Tx K mg) : Sp := fun vs H Q _ => ∃ a C, vs = [.ref a] ∧ C ∈ Cs T ∧ IsEx H a C ∧
  ∀ (p : Addr) (H' : Hp), Same H H' → H p = none → H' p = some (.lst (((Cs T).map fun D => decide (D = C)).map V.bl)) → Q (.ref p) H'
theorem isEx_same {H H' : Hp} {a C : Addr} (h : IsEx H a C) (s : Same H H') : IsEx H' a C := by
  rcases h with ⟨d, fs, h1, h2⟩ | h
  · exact .inl ⟨d, fs, s _ _ h1, s _ _ h2⟩
  · exact .inr (s _ _ h)
theorem ok_l_sorts (T : Tx K mg) : FnOk P w K mg base CX0 1 T.l_sorts.f T.l_sorts.fd ["_law_e"] (spSorts T) := by
  refine T.l_sorts.F.ok sc_l_sorts (fun vs H Q E h => ?_) (fun cdv A outer s0 H vs Q E hr h => ?_)
  · obtain ⟨a, C, rfl, _⟩ := h
    rfl
  · obtain ⟨a, C, rfl, hC, hx, k⟩ := h
    refine ⟨_, (pss_cons (ps_set (i := 1) sc_l_sorts.nd rfl (.inl rfl) (pe_lst (pa_cons (pe_callB call_isx (by rfl) T.m_isinstance (by decide +kernel) (pa_cons (pv 0) (pa_cons (pe_glob (v := .ref T.e_BadName.C) (by rfl) T.e_BadName.g rfl) pa_nil))) (pa_cons (pe_callB call_isx (by rfl) T.m_isinstance (by decide +kernel) (pa_cons (pv 0) (pa_cons (pe_glob (v := .ref T.e_UnknownName.C) (by rfl) T.e_UnknownName.g rfl) pa_nil))) (pa_cons (pe_callB call_isx (by rfl) T.m_isinstance (by decide +kernel) (pa_cons (pv 0) (pa_cons (pe_glob (v := .ref T.e_BadCount.C) (by rfl) T.e_BadCount.g rfl) pa_nil))) pa_nil)))))
      (pss_cons (ps_set (i := 1) sc_l_sorts.nd rfl (.inl rfl) (pe_op op_cat (pv 1) (pe_lst (pa_cons (pe_callB call_isx (by rfl) T.m_isinstance (by decide +kernel) (pa_cons (pv 0) (pa_cons (pe_glob (v := .ref T.e_BadTop.C) (by rfl) T.e_BadTop.g rfl) pa_nil))) (pa_cons (pe_callB call_isx (by rfl) T.m_isinstance (by decide +kernel) (pa_cons (pv 0) (pa_cons (pe_glob (v := .ref T.e_BadArrow.C) (by rfl) T.e_BadArrow.g rfl) pa_nil))) (pa_cons (pe_callB call_isx (by rfl) T.m_isinstance (by decide +kernel) (pa_cons (pv 0) (pa_cons (pe_glob (v := .ref T.e_BadText.C) (by rfl) T.e_BadText.g rfl) pa_nil))) pa_nil))))))
      (pss_cons (ps_set (i := 1) sc_l_sorts.nd rfl (.inl rfl) (pe_op op_cat (pv 1) (pe_lst (pa_cons (pe_callB call_isx (by rfl) T.m_isinstance (by decide +kernel) (pa_cons (pv 0) (pa_cons (pe_glob (v := .ref T.e_BadState.C) (by rfl) T.e_BadState.g rfl) pa_nil))) (pa_cons (pe_callB call_isx (by rfl) T.m_isinstance (by decide +kernel) (pa_cons (pv 0) (pa_cons (pe_glob (v := .ref T.e_BadTable.C) (by rfl) T.e_BadTable.g rfl) pa_nil))) (pa_cons (pe_callB call_isx (by rfl) T.m_isinstance (by decide +kernel) (pa_cons (pv 0) (pa_cons (pe_glob (v := .ref T.e_BadRing.C) (by rfl) T.e_BadRing.g rfl) pa_nil))) pa_nil))))))
      (pss_cons (ps_set (i := 1) sc_l_sorts.nd rfl (.inl rfl) (pe_op op_cat (pv 1) (pe_lst (pa_cons (pe_callB call_isx (by rfl) T.m_isinstance (by decide +kernel) (pa_cons (pv 0) (pa_cons (pe_glob (v := .ref T.e_BadSet.C) (by rfl) T.e_BadSet.g rfl) pa_nil))) (pa_cons (pe_callB call_isx (by rfl) T.m_isinstance (by decide +kernel) (pa_cons (pv 0) (pa_cons (pe_glob (v := .ref T.e_BadFact.C) (by rfl) T.e_BadFact.g rfl) pa_nil))) (pa_cons (pe_callB call_isx (by rfl) T.m_isinstance (by decide +kernel) (pa_cons (pv 0) (pa_cons (pe_glob (v := .ref T.e_BadNumber.C) (by rfl) T.e_BadNumber.g rfl) pa_nil))) pa_nil))))))
      (pss_cons (ps_set (i := 1) sc_l_sorts.nd rfl (.inl rfl) (pe_op op_cat (pv 1) (pe_lst (pa_cons (pe_callB call_isx (by rfl) T.m_isinstance (by decide +kernel) (pa_cons (pv 0) (pa_cons (pe_glob (v := .ref T.e_HasRing.C) (by rfl) T.e_HasRing.g rfl) pa_nil))) (pa_cons (pe_callB call_isx (by rfl) T.m_isinstance (by decide +kernel) (pa_cons (pv 0) (pa_cons (pe_glob (v := .ref T.e_HasOdd.C) (by rfl) T.e_HasOdd.g rfl) pa_nil))) (pa_cons (pe_callB call_isx (by rfl) T.m_isinstance (by decide +kernel) (pa_cons (pv 0) (pa_cons (pe_glob (v := .ref T.e_Clash.C) (by rfl) T.e_Clash.g rfl) pa_nil))) pa_nil))))))
      (pss_cons (ps_set (i := 1) sc_l_sorts.nd rfl (.inl rfl) (pe_op op_cat (pv 1) (pe_lst (pa_cons (pe_callB call_isx (by rfl) T.m_isinstance (by decide +kernel) (pa_cons (pv 0) (pa_cons (pe_glob (v := .ref T.e_UnlikeParts.C) (by rfl) T.e_UnlikeParts.g rfl) pa_nil))) (pa_cons (pe_callB call_isx (by rfl) T.m_isinstance (by decide +kernel) (pa_cons (pv 0) (pa_cons (pe_glob (v := .ref T.e_NoEven.C) (by rfl) T.e_NoEven.g rfl) pa_nil))) (pa_cons (pe_callB call_isx (by rfl) T.m_isinstance (by decide +kernel) (pa_cons (pv 0) (pa_cons (pe_glob (v := .ref T.e_NoOdd.C) (by rfl) T.e_NoOdd.g rfl) pa_nil))) pa_nil))))))
      (pss_cons (ps_set (i := 1) sc_l_sorts.nd rfl (.inl rfl) (pe_op op_cat (pv 1) (pe_lst (pa_cons (pe_callB call_isx (by rfl) T.m_isinstance (by decide +kernel) (pa_cons (pv 0) (pa_cons (pe_glob (v := .ref T.e_Settles.C) (by rfl) T.e_Settles.g rfl) pa_nil))) (pa_cons (pe_callB call_isx (by rfl) T.m_isinstance (by decide +kernel) (pa_cons (pv 0) (pa_cons (pe_glob (v := .ref T.e_NothingToUndo.C) (by rfl) T.e_NothingToUndo.g rfl) pa_nil))) pa_nil)))))
      (pss_one (ps_ret (pv 1)))))))))), ?_⟩
    have ec := ec_cs T hC
    have S := Same.refl H
    have kit_BadName := kit_cs T hC (D := T.e_BadName.C) (by unfold Cs; simp)
    have kit_UnknownName := kit_cs T hC (D := T.e_UnknownName.C) (by unfold Cs; simp)
    have kit_BadCount := kit_cs T hC (D := T.e_BadCount.C) (by unfold Cs; simp)
    refine ⟨_, rfl, a, C, _, _, _, rfl, .own T.e_BadName.C, ec, hx, kit_BadName, ?_⟩
    refine ⟨_, rfl, a, C, _, _, _, rfl, .own T.e_UnknownName.C, ec, hx, kit_UnknownName, ?_⟩
    refine ⟨_, rfl, a, C, _, _, _, rfl, .own T.e_BadCount.C, ec, hx, kit_BadCount, ?_⟩
    refine ⟨sz (by show 3 ≤ 100000; omega), fun p0 np0 => ?_⟩
    have sp0 := same_new (o := .lst [.bl (decide (T.e_BadName.C = C)), .bl (decide (T.e_UnknownName.C = C)), .bl (decide (T.e_BadCount.C = C))]) np0
    have ap0 := upd_same (H := H) (a := p0) (o := .lst [.bl (decide (T.e_BadName.C = C)), .bl (decide (T.e_UnknownName.C = C)), .bl (decide (T.e_BadCount.C = C))])
    generalize upd H p0 (.lst [.bl (decide (T.e_BadName.C = C)), .bl (decide (T.e_UnknownName.C = C)), .bl (decide (T.e_BadCount.C = C))]) = G0 at sp0 ap0 ⊢
    have nm : H p0 = none := S.free np0
    replace hx := isEx_same hx sp0
    replace S := S.trans sp0
    have hm := ap0
    refine ⟨_, rfl, ?_⟩
    have kit_BadTop := kit_cs T hC (D := T.e_BadTop.C) (by unfold Cs; simp)
    have kit_BadArrow := kit_cs T hC (D := T.e_BadArrow.C) (by unfold Cs; simp)
    have kit_BadText := kit_cs T hC (D := T.e_BadText.C) (by unfold Cs; simp)
    refine ⟨_, rfl, a, C, _, _, _, rfl, .own T.e_BadTop.C, ec, hx, kit_BadTop, ?_⟩
    refine ⟨_, rfl, a, C, _, _, _, rfl, .own T.e_BadArrow.C, ec, hx, kit_BadArrow, ?_⟩
    refine ⟨_, rfl, a, C, _, _, _, rfl, .own T.e_BadText.C, ec, hx, kit_BadText, ?_⟩
    refine ⟨sz (by show 3 ≤ 100000; omega), fun p1 np1 => ?_⟩
    have sp1 := same_new (o := .lst [.bl (decide (T.e_BadTop.C = C)), .bl (decide (T.e_BadArrow.C = C)), .bl (decide (T.e_BadText.C = C))]) np1
    have ap1 := upd_same (H := G0) (a := p1) (o := .lst [.bl (decide (T.e_BadTop.C = C)), .bl (decide (T.e_BadArrow.C = C)), .bl (decide (T.e_BadText.C = C))])
    generalize upd G0 p1 (.lst [.bl (decide (T.e_BadTop.C = C)), .bl (decide (T.e_BadArrow.C = C)), .bl (decide (T.e_BadText.C = C))]) = G1 at sp1 ap1 ⊢
    have nm : H p1 = none := S.free np1
    replace hx := isEx_same hx sp1
    replace S := S.trans sp1
    refine ⟨p0, p1, _, _, rfl, rfl, sp1 _ _ hm, ap1, sz (by show 6 ≤ 100000; omega), fun r1 nr1 => ?_⟩
    have sr1 := same_new (o := .lst ([.bl (decide (T.e_BadName.C = C)), .bl (decide (T.e_UnknownName.C = C)), .bl (decide (T.e_BadCount.C = C))] ++ [.bl (decide (T.e_BadTop.C = C)), .bl (decide (T.e_BadArrow.C = C)), .bl (decide (T.e_BadText.C = C))])) nr1
    have ar1 := upd_same (H := G1) (a := r1) (o := .lst ([.bl (decide (T.e_BadName.C = C)), .bl (decide (T.e_UnknownName.C = C)), .bl (decide (T.e_BadCount.C = C))] ++ [.bl (decide (T.e_BadTop.C = C)), .bl (decide (T.e_BadArrow.C = C)), .bl (decide (T.e_BadText.C = C))]))
    generalize upd G1 r1 (.lst ([.bl (decide (T.e_BadName.C = C)), .bl (decide (T.e_UnknownName.C = C)), .bl (decide (T.e_BadCount.C = C))] ++ [.bl (decide (T.e_BadTop.C = C)), .bl (decide (T.e_BadArrow.C = C)), .bl (decide (T.e_BadText.C = C))])) = R1 at sr1 ar1 ⊢
    replace nm : H r1 = none := S.free nr1
    replace hx := isEx_same hx sr1
    replace S := S.trans sr1
    replace hm := ar1
    refine ⟨_, rfl, ?_⟩
    have kit_BadState := kit_cs T hC (D := T.e_BadState.C) (by unfold Cs; simp)
    have kit_BadTable := kit_cs T hC (D := T.e_BadTable.C) (by unfold Cs; simp)
    have kit_BadRing := kit_cs T hC (D := T.e_BadRing.C) (by unfold Cs; simp)
    refine ⟨_, rfl, a, C, _, _, _, rfl, .own T.e_BadState.C, ec, hx, kit_BadState, ?_⟩
    refine ⟨_, rfl, a, C, _, _, _, rfl, .own T.e_BadTable.C, ec, hx, kit_BadTable, ?_⟩
    refine ⟨_, rfl, a, C, _, _, _, rfl, .own T.e_BadRing.C, ec, hx, kit_BadRing, ?_⟩
    refine ⟨sz (by show 3 ≤ 100000; omega), fun p2 np2 => ?_⟩
    have sp2 := same_new (o := .lst [.bl (decide (T.e_BadState.C = C)), .bl (decide (T.e_BadTable.C = C)), .bl (decide (T.e_BadRing.C = C))]) np2
    have ap2 := upd_same (H := R1) (a := p2) (o := .lst [.bl (decide (T.e_BadState.C = C)), .bl (decide (T.e_BadTable.C = C)), .bl (decide (T.e_BadRing.C = C))])
    generalize upd R1 p2 (.lst [.bl (decide (T.e_BadState.C = C)), .bl (decide (T.e_BadTable.C = C)), .bl (decide (T.e_BadRing.C = C))]) = G2 at sp2 ap2 ⊢
    have nm : H p2 = none := S.free np2
    replace hx := isEx_same hx sp2
    replace S := S.trans sp2
    refine ⟨r1, p2, _, _, rfl, rfl, sp2 _ _ hm, ap2, sz (by show 9 ≤ 100000; omega), fun r2 nr2 => ?_⟩
    have sr2 := same_new (o := .lst (([.bl (decide (T.e_BadName.C = C)), .bl (decide (T.e_UnknownName.C = C)), .bl (decide (T.e_BadCount.C = C))] ++ [.bl (decide (T.e_BadTop.C = C)), .bl (decide (T.e_BadArrow.C = C)), .bl (decide (T.e_BadText.C = C))]) ++ [.bl (decide (T.e_BadState.C = C)), .bl (decide (T.e_BadTable.C = C)), .bl (decide (T.e_BadRing.C = C))])) nr2
    have ar2 := upd_same (H := G2) (a := r2) (o := .lst (([.bl (decide (T.e_BadName.C = C)), .bl (decide (T.e_UnknownName.C = C)), .bl (decide (T.e_BadCount.C = C))] ++ [.bl (decide (T.e_BadTop.C = C)), .bl (decide (T.e_BadArrow.C = C)), .bl (decide (T.e_BadText.C = C))]) ++ [.bl (decide (T.e_BadState.C = C)), .bl (decide (T.e_BadTable.C = C)), .bl (decide (T.e_BadRing.C = C))]))
    generalize upd G2 r2 (.lst (([.bl (decide (T.e_BadName.C = C)), .bl (decide (T.e_UnknownName.C = C)), .bl (decide (T.e_BadCount.C = C))] ++ [.bl (decide (T.e_BadTop.C = C)), .bl (decide (T.e_BadArrow.C = C)), .bl (decide (T.e_BadText.C = C))]) ++ [.bl (decide (T.e_BadState.C = C)), .bl (decide (T.e_BadTable.C = C)), .bl (decide (T.e_BadRing.C = C))])) = R2 at sr2 ar2 ⊢
    replace nm : H r2 = none := S.free nr2
    replace hx := isEx_same hx sr2
    replace S := S.trans sr2
    replace hm := ar2
    refine ⟨_, rfl, ?_⟩
    have kit_BadSet := kit_cs T hC (D := T.e_BadSet.C) (by unfold Cs; simp)
    have kit_BadFact := kit_cs T hC (D := T.e_BadFact.C) (by unfold Cs; simp)
    have kit_BadNumber := kit_cs T hC (D := T.e_BadNumber.C) (by unfold Cs; simp)
    refine ⟨_, rfl, a, C, _, _, _, rfl, .own T.e_BadSet.C, ec, hx, kit_BadSet, ?_⟩
    refine ⟨_, rfl, a, C, _, _, _, rfl, .own T.e_BadFact.C, ec, hx, kit_BadFact, ?_⟩
    refine ⟨_, rfl, a, C, _, _, _, rfl, .own T.e_BadNumber.C, ec, hx, kit_BadNumber, ?_⟩
    refine ⟨sz (by show 3 ≤ 100000; omega), fun p3 np3 => ?_⟩
    have sp3 := same_new (o := .lst [.bl (decide (T.e_BadSet.C = C)), .bl (decide (T.e_BadFact.C = C)), .bl (decide (T.e_BadNumber.C = C))]) np3
    have ap3 := upd_same (H := R2) (a := p3) (o := .lst [.bl (decide (T.e_BadSet.C = C)), .bl (decide (T.e_BadFact.C = C)), .bl (decide (T.e_BadNumber.C = C))])
    generalize upd R2 p3 (.lst [.bl (decide (T.e_BadSet.C = C)), .bl (decide (T.e_BadFact.C = C)), .bl (decide (T.e_BadNumber.C = C))]) = G3 at sp3 ap3 ⊢
    have nm : H p3 = none := S.free np3
    replace hx := isEx_same hx sp3
    replace S := S.trans sp3
    refine ⟨r2, p3, _, _, rfl, rfl, sp3 _ _ hm, ap3, sz (by show 12 ≤ 100000; omega), fun r3 nr3 => ?_⟩
    have sr3 := same_new (o := .lst ((([.bl (decide (T.e_BadName.C = C)), .bl (decide (T.e_UnknownName.C = C)), .bl (decide (T.e_BadCount.C = C))] ++ [.bl (decide (T.e_BadTop.C = C)), .bl (decide (T.e_BadArrow.C = C)), .bl (decide (T.e_BadText.C = C))]) ++ [.bl (decide (T.e_BadState.C = C)), .bl (decide (T.e_BadTable.C = C)), .bl (decide (T.e_BadRing.C = C))]) ++ [.bl (decide (T.e_BadSet.C = C)), .bl (decide (T.e_BadFact.C = C)), .bl (decide (T.e_BadNumber.C = C))])) nr3
    have ar3 := upd_same (H := G3) (a := r3) (o := .lst ((([.bl (decide (T.e_BadName.C = C)), .bl (decide (T.e_UnknownName.C = C)), .bl (decide (T.e_BadCount.C = C))] ++ [.bl (decide (T.e_BadTop.C = C)), .bl (decide (T.e_BadArrow.C = C)), .bl (decide (T.e_BadText.C = C))]) ++ [.bl (decide (T.e_BadState.C = C)), .bl (decide (T.e_BadTable.C = C)), .bl (decide (T.e_BadRing.C = C))]) ++ [.bl (decide (T.e_BadSet.C = C)), .bl (decide (T.e_BadFact.C = C)), .bl (decide (T.e_BadNumber.C = C))]))
    generalize upd G3 r3 (.lst ((([.bl (decide (T.e_BadName.C = C)), .bl (decide (T.e_UnknownName.C = C)), .bl (decide (T.e_BadCount.C = C))] ++ [.bl (decide (T.e_BadTop.C = C)), .bl (decide (T.e_BadArrow.C = C)), .bl (decide (T.e_BadText.C = C))]) ++ [.bl (decide (T.e_BadState.C = C)), .bl (decide (T.e_BadTable.C = C)), .bl (decide (T.e_BadRing.C = C))]) ++ [.bl (decide (T.e_BadSet.C = C)), .bl (decide (T.e_BadFact.C = C)), .bl (decide (T.e_BadNumber.C = C))])) = R3 at sr3 ar3 ⊢
    replace nm : H r3 = none := S.free nr3
    replace hx := isEx_same hx sr3
    replace S := S.trans sr3
    replace hm := ar3
    refine ⟨_, rfl, ?_⟩
    have kit_HasRing := kit_cs T hC (D := T.e_HasRing.C) (by unfold Cs; simp)
    have kit_HasOdd := kit_cs T hC (D := T.e_HasOdd.C) (by unfold Cs; simp)
    have kit_Clash := kit_cs T hC (D := T.e_Clash.C) (by unfold Cs; simp)
    refine ⟨_, rfl, a, C, _, _, _, rfl, .own T.e_HasRing.C, ec, hx, kit_HasRing, ?_⟩
    refine ⟨_, rfl, a, C, _, _, _, rfl, .own T.e_HasOdd.C, ec, hx, kit_HasOdd, ?_⟩
    refine ⟨_, rfl, a, C, _, _, _, rfl, .own T.e_Clash.C, ec, hx, kit_Clash, ?_⟩
    refine ⟨sz (by show 3 ≤ 100000; omega), fun p4 np4 => ?_⟩
    have sp4 := same_new (o := .lst [.bl (decide (T.e_HasRing.C = C)), .bl (decide (T.e_HasOdd.C = C)), .bl (decide (T.e_Clash.C = C))]) np4
    have ap4 := upd_same (H := R3) (a := p4) (o := .lst [.bl (decide (T.e_HasRing.C = C)), .bl (decide (T.e_HasOdd.C = C)), .bl (decide (T.e_Clash.C = C))])
    generalize upd R3 p4 (.lst [.bl (decide (T.e_HasRing.C = C)), .bl (decide (T.e_HasOdd.C = C)), .bl (decide (T.e_Clash.C = C))]) = G4 at sp4 ap4 ⊢
    have nm : H p4 = none := S.free np4
    replace hx := isEx_same hx sp4
    replace S := S.trans sp4
    refine ⟨r3, p4, _, _, rfl, rfl, sp4 _ _ hm, ap4, sz (by show 15 ≤ 100000; omega), fun r4 nr4 => ?_⟩
    have sr4 := same_new (o := .lst (((([.bl (decide (T.e_BadName.C = C)), .bl (decide (T.e_UnknownName.C = C)), .bl (decide (T.e_BadCount.C = C))] ++ [.bl (decide (T.e_BadTop.C = C)), .bl (decide (T.e_BadArrow.C = C)), .bl (decide (T.e_BadText.C = C))]) ++ [.bl (decide (T.e_BadState.C = C)), .bl (decide (T.e_BadTable.C = C)), .bl (decide (T.e_BadRing.C = C))]) ++ [.bl (decide (T.e_BadSet.C = C)), .bl (decide (T.e_BadFact.C = C)), .bl (decide (T.e_BadNumber.C = C))]) ++ [.bl (decide (T.e_HasRing.C = C)), .bl (decide (T.e_HasOdd.C = C)), .bl (decide (T.e_Clash.C = C))])) nr4
    have ar4 := upd_same (H := G4) (a := r4) (o := .lst (((([.bl (decide (T.e_BadName.C = C)), .bl (decide (T.e_UnknownName.C = C)), .bl (decide (T.e_BadCount.C = C))] ++ [.bl (decide (T.e_BadTop.C = C)), .bl (decide (T.e_BadArrow.C = C)), .bl (decide (T.e_BadText.C = C))]) ++ [.bl (decide (T.e_BadState.C = C)), .bl (decide (T.e_BadTable.C = C)), .bl (decide (T.e_BadRing.C = C))]) ++ [.bl (decide (T.e_BadSet.C = C)), .bl (decide (T.e_BadFact.C = C)), .bl (decide (T.e_BadNumber.C = C))]) ++ [.bl (decide (T.e_HasRing.C = C)), .bl (decide (T.e_HasOdd.C = C)), .bl (decide (T.e_Clash.C = C))]))
    generalize upd G4 r4 (.lst (((([.bl (decide (T.e_BadName.C = C)), .bl (decide (T.e_UnknownName.C = C)), .bl (decide (T.e_BadCount.C = C))] ++ [.bl (decide (T.e_BadTop.C = C)), .bl (decide (T.e_BadArrow.C = C)), .bl (decide (T.e_BadText.C = C))]) ++ [.bl (decide (T.e_BadState.C = C)), .bl (decide (T.e_BadTable.C = C)), .bl (decide (T.e_BadRing.C = C))]) ++ [.bl (decide (T.e_BadSet.C = C)), .bl (decide (T.e_BadFact.C = C)), .bl (decide (T.e_BadNumber.C = C))]) ++ [.bl (decide (T.e_HasRing.C = C)), .bl (decide (T.e_HasOdd.C = C)), .bl (decide (T.e_Clash.C = C))])) = R4 at sr4 ar4 ⊢
    replace nm : H r4 = none := S.free nr4
    replace hx := isEx_same hx sr4
    replace S := S.trans sr4
    replace hm := ar4
    refine ⟨_, rfl, ?_⟩
    have kit_UnlikeParts := kit_cs T hC (D := T.e_UnlikeParts.C) (by unfold Cs; simp)
    have kit_NoEven := kit_cs T hC (D := T.e_NoEven.C) (by unfold Cs; simp)
    have kit_NoOdd := kit_cs T hC (D := T.e_NoOdd.C) (by unfold Cs; simp)
    refine ⟨_, rfl, a, C, _, _, _, rfl, .own T.e_UnlikeParts.C, ec, hx, kit_UnlikeParts, ?_⟩
    refine ⟨_, rfl, a, C, _, _, _, rfl, .own T.e_NoEven.C, ec, hx, kit_NoEven, ?_⟩
    refine ⟨_, rfl, a, C, _, _, _, rfl, .own T.e_NoOdd.C, ec, hx, kit_NoOdd, ?_⟩
    refine ⟨sz (by show 3 ≤ 100000; omega), fun p5 np5 => ?_⟩
    have sp5 := same_new (o := .lst [.bl (decide (T.e_UnlikeParts.C = C)), .bl (decide (T.e_NoEven.C = C)), .bl (decide (T.e_NoOdd.C = C))]) np5
    have ap5 := upd_same (H := R4) (a := p5) (o := .lst [.bl (decide (T.e_UnlikeParts.C = C)), .bl (decide (T.e_NoEven.C = C)), .bl (decide (T.e_NoOdd.C = C))])
    generalize upd R4 p5 (.lst [.bl (decide (T.e_UnlikeParts.C = C)), .bl (decide (T.e_NoEven.C = C)), .bl (decide (T.e_NoOdd.C = C))]) = G5 at sp5 ap5 ⊢
    have nm : H p5 = none := S.free np5
    replace hx := isEx_same hx sp5
    replace S := S.trans sp5
    refine ⟨r4, p5, _, _, rfl, rfl, sp5 _ _ hm, ap5, sz (by show 18 ≤ 100000; omega), fun r5 nr5 => ?_⟩
    have sr5 := same_new (o := .lst ((((([.bl (decide (T.e_BadName.C = C)), .bl (decide (T.e_UnknownName.C = C)), .bl (decide (T.e_BadCount.C = C))] ++ [.bl (decide (T.e_BadTop.C = C)), .bl (decide (T.e_BadArrow.C = C)), .bl (decide (T.e_BadText.C = C))]) ++ [.bl (decide (T.e_BadState.C = C)), .bl (decide (T.e_BadTable.C = C)), .bl (decide (T.e_BadRing.C = C))]) ++ [.bl (decide (T.e_BadSet.C = C)), .bl (decide (T.e_BadFact.C = C)), .bl (decide (T.e_BadNumber.C = C))]) ++ [.bl (decide (T.e_HasRing.C = C)), .bl (decide (T.e_HasOdd.C = C)), .bl (decide (T.e_Clash.C = C))]) ++ [.bl (decide (T.e_UnlikeParts.C = C)), .bl (decide (T.e_NoEven.C = C)), .bl (decide (T.e_NoOdd.C = C))])) nr5
    have ar5 := upd_same (H := G5) (a := r5) (o := .lst ((((([.bl (decide (T.e_BadName.C = C)), .bl (decide (T.e_UnknownName.C = C)), .bl (decide (T.e_BadCount.C = C))] ++ [.bl (decide (T.e_BadTop.C = C)), .bl (decide (T.e_BadArrow.C = C)), .bl (decide (T.e_BadText.C = C))]) ++ [.bl (decide (T.e_BadState.C = C)), .bl (decide (T.e_BadTable.C = C)), .bl (decide (T.e_BadRing.C = C))]) ++ [.bl (decide (T.e_BadSet.C = C)), .bl (decide (T.e_BadFact.C = C)), .bl (decide (T.e_BadNumber.C = C))]) ++ [.bl (decide (T.e_HasRing.C = C)), .bl (decide (T.e_HasOdd.C = C)), .bl (decide (T.e_Clash.C = C))]) ++ [.bl (decide (T.e_UnlikeParts.C = C)), .bl (decide (T.e_NoEven.C = C)), .bl (decide (T.e_NoOdd.C = C))]))
    generalize upd G5 r5 (.lst ((((([.bl (decide (T.e_BadName.C = C)), .bl (decide (T.e_UnknownName.C = C)), .bl (decide (T.e_BadCount.C = C))] ++ [.bl (decide (T.e_BadTop.C = C)), .bl (decide (T.e_BadArrow.C = C)), .bl (decide (T.e_BadText.C = C))]) ++ [.bl (decide (T.e_BadState.C = C)), .bl (decide (T.e_BadTable.C = C)), .bl (decide (T.e_BadRing.C = C))]) ++ [.bl (decide (T.e_BadSet.C = C)), .bl (decide (T.e_BadFact.C = C)), .bl (decide (T.e_BadNumber.C = C))]) ++ [.bl (decide (T.e_HasRing.C = C)), .bl (decide (T.e_HasOdd.C = C)), .bl (decide (T.e_Clash.C = C))]) ++ [.bl (decide (T.e_UnlikeParts.C = C)), .bl (decide (T.e_NoEven.C = C)), .bl (decide (T.e_NoOdd.C = C))])) = R5 at sr5 ar5 ⊢
    replace nm : H r5 = none := S.free nr5
    replace hx := isEx_same hx sr5
    replace S := S.trans sr5
    replace hm := ar5
    refine ⟨_, rfl, ?_⟩
    have kit_Settles := kit_cs T hC (D := T.e_Settles.C) (by unfold Cs; simp)
    have kit_NothingToUndo := kit_cs T hC (D := T.e_NothingToUndo.C) (by unfold Cs; simp)
    refine ⟨_, rfl, a, C, _, _, _, rfl, .own T.e_Settles.C, ec, hx, kit_Settles, ?_⟩
    refine ⟨_, rfl, a, C, _, _, _, rfl, .own T.e_NothingToUndo.C, ec, hx, kit_NothingToUndo, ?_⟩
    refine ⟨sz (by show 2 ≤ 100000; omega), fun p6 np6 => ?_⟩
    have sp6 := same_new (o := .lst [.bl (decide (T.e_Settles.C = C)), .bl (decide (T.e_NothingToUndo.C = C))]) np6
    have ap6 := upd_same (H := R5) (a := p6) (o := .lst [.bl (decide (T.e_Settles.C = C)), .bl (decide (T.e_NothingToUndo.C = C))])
    generalize upd R5 p6 (.lst [.bl (decide (T.e_Settles.C = C)), .bl (decide (T.e_NothingToUndo.C = C))]) = G6 at sp6 ap6 ⊢
    have nm : H p6 = none := S.free np6
    replace hx := isEx_same hx sp6
    replace S := S.trans sp6
    refine ⟨r5, p6, _, _, rfl, rfl, sp6 _ _ hm, ap6, sz (by show 20 ≤ 100000; omega), fun r6 nr6 => ?_⟩
    have sr6 := same_new (o := .lst (((((([.bl (decide (T.e_BadName.C = C)), .bl (decide (T.e_UnknownName.C = C)), .bl (decide (T.e_BadCount.C = C))] ++ [.bl (decide (T.e_BadTop.C = C)), .bl (decide (T.e_BadArrow.C = C)), .bl (decide (T.e_BadText.C = C))]) ++ [.bl (decide (T.e_BadState.C = C)), .bl (decide (T.e_BadTable.C = C)), .bl (decide (T.e_BadRing.C = C))]) ++ [.bl (decide (T.e_BadSet.C = C)), .bl (decide (T.e_BadFact.C = C)), .bl (decide (T.e_BadNumber.C = C))]) ++ [.bl (decide (T.e_HasRing.C = C)), .bl (decide (T.e_HasOdd.C = C)), .bl (decide (T.e_Clash.C = C))]) ++ [.bl (decide (T.e_UnlikeParts.C = C)), .bl (decide (T.e_NoEven.C = C)), .bl (decide (T.e_NoOdd.C = C))]) ++ [.bl (decide (T.e_Settles.C = C)), .bl (decide (T.e_NothingToUndo.C = C))])) nr6
    have ar6 := upd_same (H := G6) (a := r6) (o := .lst (((((([.bl (decide (T.e_BadName.C = C)), .bl (decide (T.e_UnknownName.C = C)), .bl (decide (T.e_BadCount.C = C))] ++ [.bl (decide (T.e_BadTop.C = C)), .bl (decide (T.e_BadArrow.C = C)), .bl (decide (T.e_BadText.C = C))]) ++ [.bl (decide (T.e_BadState.C = C)), .bl (decide (T.e_BadTable.C = C)), .bl (decide (T.e_BadRing.C = C))]) ++ [.bl (decide (T.e_BadSet.C = C)), .bl (decide (T.e_BadFact.C = C)), .bl (decide (T.e_BadNumber.C = C))]) ++ [.bl (decide (T.e_HasRing.C = C)), .bl (decide (T.e_HasOdd.C = C)), .bl (decide (T.e_Clash.C = C))]) ++ [.bl (decide (T.e_UnlikeParts.C = C)), .bl (decide (T.e_NoEven.C = C)), .bl (decide (T.e_NoOdd.C = C))]) ++ [.bl (decide (T.e_Settles.C = C)), .bl (decide (T.e_NothingToUndo.C = C))]))
    generalize upd G6 r6 (.lst (((((([.bl (decide (T.e_BadName.C = C)), .bl (decide (T.e_UnknownName.C = C)), .bl (decide (T.e_BadCount.C = C))] ++ [.bl (decide (T.e_BadTop.C = C)), .bl (decide (T.e_BadArrow.C = C)), .bl (decide (T.e_BadText.C = C))]) ++ [.bl (decide (T.e_BadState.C = C)), .bl (decide (T.e_BadTable.C = C)), .bl (decide (T.e_BadRing.C = C))]) ++ [.bl (decide (T.e_BadSet.C = C)), .bl (decide (T.e_BadFact.C = C)), .bl (decide (T.e_BadNumber.C = C))]) ++ [.bl (decide (T.e_HasRing.C = C)), .bl (decide (T.e_HasOdd.C = C)), .bl (decide (T.e_Clash.C = C))]) ++ [.bl (decide (T.e_UnlikeParts.C = C)), .bl (decide (T.e_NoEven.C = C)), .bl (decide (T.e_NoOdd.C = C))]) ++ [.bl (decide (T.e_Settles.C = C)), .bl (decide (T.e_NothingToUndo.C = C))])) = R6 at sr6 ar6 ⊢
    replace nm : H r6 = none := S.free nr6
    replace hx := isEx_same hx sr6
    replace S := S.trans sr6
    replace hm := ar6
    exact ⟨_, rfl, k _ _ S nm hm⟩
--C--
end
end K02

set_option Elab.async false
set_option linter.all false
set_option maxRecDepth 100000
set_option maxHeartbeats 1000000
namespace K02
open PySem PySem.Spec PyProof.Rows L2 Rl Dr Tx Ex Er
section
variable {P : Program} {w : World} {K : PySem.W.Frag} {mg : Str → Option Value} {base : Heap}
--C--
theorem pe_isi {X : Cx} {e : Expr} {es : List Expr} {p pos : Pos} {t : TA} (hg : Gl X "isinstance") (hm : X.mg "isinstance" = none) (ha : PA X (e :: es) t) (he : starEach (e :: es) X.env = (false, eval e X.env) :: starEach es X.env := by rfl) (hpl : (backTo pos (starEach es X.env)).any (·.1) = false := by rfl) :
    PE X (.Call (.Name "isinstance" p) (e :: es) [] pos) (tCB (rIsi X.K) t) := pe_callB call_isi hg hm (by decide +kernel) ha (he := he) (hpl := hpl)
theorem isEx_of {T : Tx K mg} {ts : Nat → V} {H : Hp} {es : List Addr} (M : MadeL (Cs T) ts H es) {j : Nat} {e : Addr} (h : es[j]? = some e) : ∃ C, (Cs T)[j]? = some C ∧ C ∈ Cs T ∧ IsEx H e C := by
  obtain ⟨C, hC, h⟩ := M j e h
  refine ⟨C, hC, List.mem_of_getElem? hC, ?_⟩
  rcases h with ⟨F, d, _, h1, h2⟩ | ⟨_, h1⟩
  · exact .inl ⟨d, _, h1, h2⟩
  · exact .inr h1
/-- the classes differ: the place says which -/
theorem sorts_eq {Cl : List Addr} (nd : Cl.Nodup) {k : Nat} {C : Addr} (h : Cl[k]? = some C) : (Cl.map fun D => decide (D = C)) = (List.range Cl.length).map fun j => decide (j = k) := by
  refine List.ext_getElem (by simp) fun i h1 h2 => ?_
  rw [List.getElem_map, List.getElem_map, List.getElem_range]
  rw [List.length_map] at h1
  obtain ⟨hk, e⟩ := List.getElem?_eq_some_iff.mp h
  refine decide_eq_decide.mpr ?_
  subst e
  exact List.getElem_inj nd
theorem cs_len (T : Tx K mg) : (Cs T).length = 20 := rfl
/-- the field of the j-th -/
theorem fld_of {T : Tx K mg} {ts : Nat → V} {H : Hp} {es : List Addr} (M : MadeL (Cs T) ts H es) {j : Nat} {e C : Addr} {F : Str} (h : es[j]? = some e) (hC : (Cs T)[j]? = some C) (hF : Fs[j]? = some F) :
    ∃ d, H e = some (exo e C (some d)) ∧ H d = some (exd d [(F, ts j)]) := by
  obtain ⟨C', hC', h⟩ := M j e h
  rw [hC] at hC'
  cases hC'
  rcases h with ⟨F', d, hF', h1, h2⟩ | ⟨hF', _⟩
  · rw [hF] at hF'
    cases hF'
    exact ⟨d, h1, h2⟩
  · rw [hF] at hF'
    cases hF'
def spKeeps (T : Tx K mg) : Sp := fun vs H Q _ => ∃ (M t : Addr) (es : List Addr) (ts : List V), vs = [.ref M, .ref t] ∧ H M = some (.lst (es.map V.ref)) ∧ es.length = 20 ∧ H t = some (.lst ts) ∧ ts.length = 16 ∧
  MadeL (Cs T) (fun j => ts.getD j .non) H es ∧ (∀ v ∈ ts, Ok1 H v) ∧ ∀ H', Same H H' → Q (.bl true) H'
theorem at_ref {es : List Addr} {j : Nat} {e : Addr} (h : es[j]? = some e) : atI (es.map V.ref) (j : Int) = some (.ref e) := by
  refine atI_nat ?_
  rw [List.getElem?_map, h]
  rfl
/-- the j-th field, read -/
theorem fld_read {T : Tx K mg} {ts : List V} {H : Hp} {es : List Addr} {M : Addr} (hM : H M = some (.lst (es.map V.ref))) (Md : MadeL (Cs T) (fun j => ts.getD j .non) H es) {name qual F : Str} {st : Stmt} (E : ErrF K mg name qual F st T.root.C) (j : Nat) (hj : j < es.length)
    (hC : (Cs T)[j]? = some E.C) (hF : Fs[j]? = some F) {σ : L2.St} {Q : VK} (h0 : σ[0]? = some (some (.ref M))) (k : Q (ts.getD j .non) H) :
    tOfl K F (tOp (rIxL K) (tVar 0) (tC (.int (j : Int)))) σ H Q := by
  have he : es[j]? = some es[j] := List.getElem?_eq_getElem hj
  obtain ⟨d, h1, h2⟩ := fld_of Md he hC hF
  refine ⟨_, h0, M, _, (j : Int), _, rfl, rfl, sq hM, at_ref he, es[j], E.C, d, _, _, rfl, E.xf, E.no, h1, h2, ?_, k⟩
  simp [List.lookup]
theorem ok_l_keeps (T : Tx K mg) : FnOk P w K mg base CX0 2 T.l_keeps.f T.l_keeps.fd ["_law_made", "_law_t"] (spKeeps T) := by
  refine T.l_keeps.F.ok sc_l_keeps (fun vs H Q E h => ?_) (fun cdv A outer s0 H vs Q E hr h => ?_)
  · obtain ⟨M, t, es, ts, rfl, _⟩ := h
    rfl
  · obtain ⟨M, t, es, ts, rfl, hM, le, ht, lt, Md, hv, k⟩ := h
    refine ⟨_, (pss_cons (ps_for PassesOwn.never rfl (pi_range1 rfl T.m_range (pa_cons pe_int pa_nil)) (pg_name (i := 2) sc_l_keeps.nd rfl (.inr rfl)) (pss_cons (ps_if (PW.pt (pw_or (pt_not (pt_val (pe_callB call_isx (by rfl) T.m_isinstance (by decide +kernel) (pa_cons (pe_ix (r := rIxL K) ix_list (pv 0) (pv 2) (fun _ _ => rfl)) (pa_cons (pe_glob (v := .ref T.root.C) (by rfl) T.root.g rfl) pa_nil))))) (pw_or1 (pt_not (pt_val (pe_callB call_isx (by rfl) T.m_isinstance (by decide +kernel) (pa_cons (pe_ix (r := rIxL K) ix_list (pv 0) (pv 2) (fun _ _ => rfl)) (pa_cons (pe_bltn (v := .ty "ValueError") (by rfl) T.m_ValueError (by decide +kernel) rfl) pa_nil)))))))) (pss_one (ps_ret pe_bl)) pss_nil)
      (pss_one (ps_if (pt_cmpR (op_neD hr.units) (pcall T.l_sorts (ok_l_sorts T) (hr.mono (by decide)) (by rfl) pass0 (pa_cons (pe_ix (r := rIxL K) ix_list (pv 0) (pv 2) (fun _ _ => rfl)) pa_nil)) (pe_lc (own := [("_law_j", 5)]) (g := gName 5) (tt := tYes) rfl sc_l_keeps.nd (pi_range1 rfl T.m_range (pa_cons pe_int pa_nil)) (blkOk_by (own := [("_law_j", 5)]) (N := N_l_keeps) (sc := defScope s_l_keeps) (by decide +kernel)) (fun _ _ _ _ _ => (pg_name (i := 5) sc_l_keeps.nd rfl (.inl rfl))) (fun _ _ _ _ _ => pts_nil) (fun _ _ _ _ _ => (pe_cmpR op_eq (pv 5) (pv 2) (nomark _)))) (nomark _)) (pss_one (ps_ret pe_bl)) pss_nil))))
      (pss_cons (ps_set (i := 3) sc_l_keeps.nd rfl (.inl rfl) (pe_lst (pa_cons (pe_ofl (pe_ix (r := rIxL K) ix_list (pv 0) pe_int (fun _ _ => rfl))) (pa_cons (pe_ofl (pe_ix (r := rIxL K) ix_list (pv 0) pe_int (fun _ _ => rfl))) (pa_cons (pe_ofl (pe_ix (r := rIxL K) ix_list (pv 0) pe_int (fun _ _ => rfl))) (pa_cons (pe_ofl (pe_ix (r := rIxL K) ix_list (pv 0) pe_int (fun _ _ => rfl))) (pa_cons (pe_ofl (pe_ix (r := rIxL K) ix_list (pv 0) pe_int (fun _ _ => rfl))) (pa_cons (pe_ofl (pe_ix (r := rIxL K) ix_list (pv 0) pe_int (fun _ _ => rfl))) pa_nil))))))))
      (pss_cons (ps_set (i := 3) sc_l_keeps.nd rfl (.inl rfl) (pe_op op_cat (pv 3) (pe_lst (pa_cons (pe_ofl (pe_ix (r := rIxL K) ix_list (pv 0) pe_int (fun _ _ => rfl))) (pa_cons (pe_ofl (pe_ix (r := rIxL K) ix_list (pv 0) pe_int (fun _ _ => rfl))) (pa_cons (pe_ofl (pe_ix (r := rIxL K) ix_list (pv 0) pe_int (fun _ _ => rfl))) (pa_cons (pe_ofl (pe_ix (r := rIxL K) ix_list (pv 0) pe_int (fun _ _ => rfl))) (pa_cons (pe_ofl (pe_ix (r := rIxL K) ix_list (pv 0) pe_int (fun _ _ => rfl))) (pa_cons (pe_ofl (pe_ix (r := rIxL K) ix_list (pv 0) pe_int (fun _ _ => rfl))) pa_nil)))))))))
      (pss_cons (ps_set (i := 3) sc_l_keeps.nd rfl (.inl rfl) (pe_op op_cat (pv 3) (pe_lst (pa_cons (pe_ofl (pe_ix (r := rIxL K) ix_list (pv 0) pe_int (fun _ _ => rfl))) (pa_cons (pe_ofl (pe_ix (r := rIxL K) ix_list (pv 0) pe_int (fun _ _ => rfl))) (pa_cons (pe_ofl (pe_ix (r := rIxL K) ix_list (pv 0) pe_int (fun _ _ => rfl))) (pa_cons (pe_ofl (pe_ix (r := rIxL K) ix_list (pv 0) pe_int (fun _ _ => rfl))) pa_nil)))))))
      (pss_cons (ps_setLc (i := 4) (own := [("_law_item", 6)]) (g := gName 6) (tt := tYes) rfl sc_l_keeps.nd rfl rfl (sw_true rfl rfl rfl (by decide +kernel)) (pi_list (pv 3)) (blkOk_by (own := [("_law_item", 6)]) (N := N_l_keeps) (sc := defScope s_l_keeps) (by decide +kernel)) (fun _ _ _ _ _ => (pg_name (i := 6) sc_l_keeps.nd rfl (.inl rfl))) (fun _ _ _ _ _ => pts_nil) (fun _ _ _ _ _ => (pe_callB (id := "isinstance") (r := rIsi K) call_isi (by rfl) T.m_isinstance (by decide +kernel) (pa_cons (pv 6) (pa_cons (pe_bltn (v := .ty "bool") (by rfl) T.m_bool (by decide +kernel) rfl) pa_nil)))))
      (pss_one (ps_ret (pe_and (pe_cmpR (op_eqV hr.units) (pv 3) (pv 1) (nomark _)) (pe_one (pe_cmpR (op_eqD hr.units) (pv 4) (pe_lc (own := [("_law_item", 6)]) (g := gName 6) (tt := tYes) rfl sc_l_keeps.nd (pi_list (pv 1)) (blkOk_by (own := [("_law_item", 6)]) (N := N_l_keeps) (sc := defScope s_l_keeps) (by decide +kernel)) (fun _ _ _ _ _ => (pg_name (i := 6) sc_l_keeps.nd rfl (.inl rfl))) (fun _ _ _ _ _ => pts_nil) (fun _ _ _ _ _ => (pe_callB (id := "isinstance") (r := rIsi K) call_isi (by rfl) T.m_isinstance (by decide +kernel) (pa_cons (pv 6) (pa_cons (pe_bltn (v := .ty "bool") (by rfl) T.m_bool (by decide +kernel) rfl) pa_nil))))) (nomark _))))))))))), ?_⟩
    refine ⟨20, rfl, by decide, by decide, for_range (lo := 0) (n := 20) (fun i σ H' => (∃ v, σ = [some (.ref M), some (.ref t), v, none, none, none, none]) ∧ Same H H') ⟨⟨_, rfl⟩, Same.refl _⟩ (fun i σ H' hi hp => ?_) (fun σ H' hp => ?_)⟩
    · obtain ⟨⟨v, rfl⟩, s1⟩ := hp
      have hi2 : i < es.length := by omega
      have he : es[i]? = some es[i] := List.getElem?_eq_getElem hi2
      have Md1 := Md.keep (KeepN.of_same s1).e
      obtain ⟨C, hC, mC, hx⟩ := isEx_of Md1 he
      have hM1 := s1 _ _ hM
      have ai : atI (es.map V.ref) (0 + (i : Int)) = some (.ref es[i]) := by
        rw [Int.zero_add]
        exact at_ref he
      refine ⟨_, rfl, _, rfl, M, _, _, _, rfl, rfl, sq hM1, ai, es[i], C, _, _, true, rfl, .own T.root.C, ec_cs T mC, hx, kit_root T mC, true, rfl, ?_⟩
      refine iteF ⟨_, rfl, _, rfl, M, _, _, _, rfl, rfl, sq hM1, ai, es[i], C, _, _, true, rfl, .ty "ValueError", ec_cs T mC, hx, kit_ve T mC, true, rfl, ?_⟩
      refine iteF ⟨_, rfl, _, rfl, M, _, _, _, rfl, rfl, sq hM1, ai, es[i], C, rfl, mC, hx, fun p H2 s2 np hp2 => ?_⟩
      have hp3 := hp2
      rw [sorts_eq (nd_cs T) hC, cs_len] at hp3
      refine ⟨20, rfl, by decide, by decide, fun D nD => lc_range (lo := 0) (n := 20) (fun j H' => H' D = some (.lst (((List.range j).map fun x => decide (x = i)).map V.bl)) ∧ Same H2 H') ⟨upd_same, same_new nD⟩ (fun j H' hj hq => ?_) (fun H' hq => ?_)⟩
      · obtain ⟨q1, q2⟩ := hq
        refine ⟨rfl, _, rfl, _, rfl, rfl, _, q1, ?_, ?_, Same.mut q2 nD⟩
        · rw [List.length_map, List.length_map, List.length_range]
          exact szl (by omega)
        · rw [upd_same, List.range_succ, List.map_append, List.map_append]
          have e : decide (V.int (0 + (j : Int)) = V.int (0 + (i : Int))) = decide (j = i) := by
            rw [dec_int]
            refine Bool.eq_iff_iff.mpr ?_
            rw [beq_iff_eq, decide_eq_true_iff]
            omega
          rw [e]
          rfl
      · obtain ⟨q1, q2⟩ := hq
        refine ⟨_, _, .lst (sq (q2 _ _ hp3)) (dp_bls _), .lst (sq q1) (dp_bls _), shaped_bls _, shaped_bls _, _, rfl, ?_⟩
        rw [eqv_bls]
        exact iteF ⟨⟨_, rfl⟩, (s1.trans s2).trans q2⟩
    · obtain ⟨⟨v, rfl⟩, s1⟩ := hp
      replace Md := Md.keep (KeepN.of_same s1).e
      replace hM := s1 _ _ hM
      replace ht := s1 _ _ ht
      have S := s1
      refine fld_read hM Md T.e_BadName 0 (by omega) rfl rfl rfl ?_
      refine fld_read hM Md T.e_UnknownName 1 (by omega) rfl rfl rfl ?_
      refine fld_read hM Md T.e_BadCount 2 (by omega) rfl rfl rfl ?_
      refine fld_read hM Md T.e_BadTop 3 (by omega) rfl rfl rfl ?_
      refine fld_read hM Md T.e_BadArrow 4 (by omega) rfl rfl rfl ?_
      refine fld_read hM Md T.e_BadText 5 (by omega) rfl rfl rfl ?_
      refine ⟨sz (by show 6 ≤ 100000; omega), fun p0 np0 => ?_⟩
      have sp0 := same_new (o := (.lst [ts.getD 0 .non, ts.getD 1 .non, ts.getD 2 .non, ts.getD 3 .non, ts.getD 4 .non, ts.getD 5 .non])) np0
      have ap0 := upd_same (H := H') (a := p0) (o := (.lst [ts.getD 0 .non, ts.getD 1 .non, ts.getD 2 .non, ts.getD 3 .non, ts.getD 4 .non, ts.getD 5 .non]))
      generalize upd H' p0 (.lst [ts.getD 0 .non, ts.getD 1 .non, ts.getD 2 .non, ts.getD 3 .non, ts.getD 4 .non, ts.getD 5 .non]) = G0 at sp0 ap0 ⊢
      replace Md := Md.keep (KeepN.of_same sp0).e
      replace hM := sp0 _ _ hM
      replace ht := sp0 _ _ ht
      replace S := S.trans sp0
      have hm := ap0
      refine ⟨_, rfl, ?_⟩
      refine fld_read hM Md T.e_BadState 6 (by omega) rfl rfl rfl ?_
      refine fld_read hM Md T.e_BadTable 7 (by omega) rfl rfl rfl ?_
      refine fld_read hM Md T.e_BadRing 8 (by omega) rfl rfl rfl ?_
      refine fld_read hM Md T.e_BadSet 9 (by omega) rfl rfl rfl ?_
      refine fld_read hM Md T.e_BadFact 10 (by omega) rfl rfl rfl ?_
      refine fld_read hM Md T.e_BadNumber 11 (by omega) rfl rfl rfl ?_
      refine ⟨sz (by show 6 ≤ 100000; omega), fun p1 np1 => ?_⟩
      have sp1 := same_new (o := (.lst [ts.getD 6 .non, ts.getD 7 .non, ts.getD 8 .non, ts.getD 9 .non, ts.getD 10 .non, ts.getD 11 .non])) np1
      have ap1 := upd_same (H := G0) (a := p1) (o := (.lst [ts.getD 6 .non, ts.getD 7 .non, ts.getD 8 .non, ts.getD 9 .non, ts.getD 10 .non, ts.getD 11 .non]))
      generalize upd G0 p1 (.lst [ts.getD 6 .non, ts.getD 7 .non, ts.getD 8 .non, ts.getD 9 .non, ts.getD 10 .non, ts.getD 11 .non]) = G1 at sp1 ap1 ⊢
      replace Md := Md.keep (KeepN.of_same sp1).e
      replace hM := sp1 _ _ hM
      replace ht := sp1 _ _ ht
      replace S := S.trans sp1
      refine ⟨p0, p1, _, _, rfl, rfl, sp1 _ _ hm, ap1, sz (by show 12 ≤ 100000; omega), fun r1 nr1 => ?_⟩
      have sr1 := same_new (o := (.lst ([ts.getD 0 .non, ts.getD 1 .non, ts.getD 2 .non, ts.getD 3 .non, ts.getD 4 .non, ts.getD 5 .non] ++ [ts.getD 6 .non, ts.getD 7 .non, ts.getD 8 .non, ts.getD 9 .non, ts.getD 10 .non, ts.getD 11 .non]))) nr1
      have ar1 := upd_same (H := G1) (a := r1) (o := (.lst ([ts.getD 0 .non, ts.getD 1 .non, ts.getD 2 .non, ts.getD 3 .non, ts.getD 4 .non, ts.getD 5 .non] ++ [ts.getD 6 .non, ts.getD 7 .non, ts.getD 8 .non, ts.getD 9 .non, ts.getD 10 .non, ts.getD 11 .non])))
      generalize upd G1 r1 (.lst ([ts.getD 0 .non, ts.getD 1 .non, ts.getD 2 .non, ts.getD 3 .non, ts.getD 4 .non, ts.getD 5 .non] ++ [ts.getD 6 .non, ts.getD 7 .non, ts.getD 8 .non, ts.getD 9 .non, ts.getD 10 .non, ts.getD 11 .non])) = R1 at sr1 ar1 ⊢
      replace Md := Md.keep (KeepN.of_same sr1).e
      replace hM := sr1 _ _ hM
      replace ht := sr1 _ _ ht
      replace S := S.trans sr1
      replace hm := ar1
      refine ⟨_, rfl, ?_⟩
      refine fld_read hM Md T.e_HasRing 12 (by omega) rfl rfl rfl ?_
      refine fld_read hM Md T.e_HasOdd 13 (by omega) rfl rfl rfl ?_
      refine fld_read hM Md T.e_Clash 14 (by omega) rfl rfl rfl ?_
      refine fld_read hM Md T.e_UnlikeParts 15 (by omega) rfl rfl rfl ?_
      refine ⟨sz (by show 4 ≤ 100000; omega), fun p2 np2 => ?_⟩
      have sp2 := same_new (o := (.lst [ts.getD 12 .non, ts.getD 13 .non, ts.getD 14 .non, ts.getD 15 .non])) np2
      have ap2 := upd_same (H := R1) (a := p2) (o := (.lst [ts.getD 12 .non, ts.getD 13 .non, ts.getD 14 .non, ts.getD 15 .non]))
      generalize upd R1 p2 (.lst [ts.getD 12 .non, ts.getD 13 .non, ts.getD 14 .non, ts.getD 15 .non]) = G2 at sp2 ap2 ⊢
      replace Md := Md.keep (KeepN.of_same sp2).e
      replace hM := sp2 _ _ hM
      replace ht := sp2 _ _ ht
      replace S := S.trans sp2
      refine ⟨r1, p2, _, _, rfl, rfl, sp2 _ _ hm, ap2, sz (by show 16 ≤ 100000; omega), fun r2 nr2 => ?_⟩
      have sr2 := same_new (o := (.lst (([ts.getD 0 .non, ts.getD 1 .non, ts.getD 2 .non, ts.getD 3 .non, ts.getD 4 .non, ts.getD 5 .non] ++ [ts.getD 6 .non, ts.getD 7 .non, ts.getD 8 .non, ts.getD 9 .non, ts.getD 10 .non, ts.getD 11 .non]) ++ [ts.getD 12 .non, ts.getD 13 .non, ts.getD 14 .non, ts.getD 15 .non]))) nr2
      have ar2 := upd_same (H := G2) (a := r2) (o := (.lst (([ts.getD 0 .non, ts.getD 1 .non, ts.getD 2 .non, ts.getD 3 .non, ts.getD 4 .non, ts.getD 5 .non] ++ [ts.getD 6 .non, ts.getD 7 .non, ts.getD 8 .non, ts.getD 9 .non, ts.getD 10 .non, ts.getD 11 .non]) ++ [ts.getD 12 .non, ts.getD 13 .non, ts.getD 14 .non, ts.getD 15 .non])))
      generalize upd G2 r2 (.lst (([ts.getD 0 .non, ts.getD 1 .non, ts.getD 2 .non, ts.getD 3 .non, ts.getD 4 .non, ts.getD 5 .non] ++ [ts.getD 6 .non, ts.getD 7 .non, ts.getD 8 .non, ts.getD 9 .non, ts.getD 10 .non, ts.getD 11 .non]) ++ [ts.getD 12 .non, ts.getD 13 .non, ts.getD 14 .non, ts.getD 15 .non])) = R2 at sr2 ar2 ⊢
      replace Md := Md.keep (KeepN.of_same sr2).e
      replace hM := sr2 _ _ hM
      replace ht := sr2 _ _ ht
      replace S := S.trans sr2
      replace hm := ar2
      have hall : (([ts.getD 0 .non, ts.getD 1 .non, ts.getD 2 .non, ts.getD 3 .non, ts.getD 4 .non, ts.getD 5 .non] ++ [ts.getD 6 .non, ts.getD 7 .non, ts.getD 8 .non, ts.getD 9 .non, ts.getD 10 .non, ts.getD 11 .non]) ++ [ts.getD 12 .non, ts.getD 13 .non, ts.getD 14 .non, ts.getD 15 .non]) = ts := by
        match ts, lt with
        | [_, _, _, _, _, _, _, _, _, _, _, _, _, _, _, _], _ => rfl
      rw [hall] at hm
      clear hall
      have hv1 : ∀ v ∈ ts, Ok1 R2 v := fun v h => (hv v h).same S
      refine ⟨_, rfl, r2, rfl, ⟨_, sq hm⟩, fun D nD => lc_list (xs := ts) (fun i H2 => H2 D = some (.lst (((ts.take i).map isB).map V.bl)) ∧ Same R2 H2) ⟨upd_same, same_new nD⟩ (fun i H2 _ h => h.2.seq (sq hm)) (fun i x H2 hx hq => ?_) (fun H2 hq => ?_)⟩
      · obtain ⟨q1, q2⟩ := hq
        obtain ⟨ty, t1, t2⟩ := ((hv1 x (List.mem_of_getElem? hx)).same q2).kit (K := K)
        have hlt := (List.getElem?_eq_some_iff.mp hx).1
        refine ⟨rfl, _, rfl, x, .ty "bool", ty, _, _, rfl, .ty "bool", t1, t2, _, q1, ?_, ?_, Same.mut q2 nD⟩
        · rw [List.length_map, List.length_map, List.length_take]
          exact szl (by omega)
        · rw [upd_same, List.take_add_one, hx, List.map_append, List.map_append]
          rfl
      · obtain ⟨q1, q2⟩ := hq
        rw [List.take_length] at q1
        have hm2 := q2 _ _ hm
        have ht2 := q2 _ _ ht
        have hv2 : ∀ v ∈ ts, Ok1 H2 v := fun v h => (hv1 v h).same q2
        refine ⟨_, rfl, _, rfl, 1, by decide, .inl ⟨_, _, ts, ts, rfl, rfl, sq hm2, sq ht2, paired_self fun v h => (hv2 v h).eqv⟩, true, rfl, iteT ?_⟩
        refine ⟨_, rfl, _, rfl, t, rfl, ⟨_, sq ht2⟩, fun D2 nD2 => lc_list (xs := ts) (fun i H3 => H3 D2 = some (.lst (((ts.take i).map isB).map V.bl)) ∧ Same H2 H3) ⟨upd_same, same_new nD2⟩ (fun i H3 _ h => h.2.seq (sq ht2)) (fun i x H3 hx hq => ?_) (fun H3 hq => ?_)⟩
        · obtain ⟨q3, q4⟩ := hq
          obtain ⟨ty, t1, t2⟩ := ((hv2 x (List.mem_of_getElem? hx)).same q4).kit (K := K)
          have hlt := (List.getElem?_eq_some_iff.mp hx).1
          refine ⟨rfl, _, rfl, x, .ty "bool", ty, _, _, rfl, .ty "bool", t1, t2, _, q3, ?_, ?_, Same.mut q4 nD2⟩
          · rw [List.length_map, List.length_map, List.length_take]
            exact szl (by omega)
          · rw [upd_same, List.take_add_one, hx, List.map_append, List.map_append]
            rfl
        · obtain ⟨q3, q4⟩ := hq
          rw [List.take_length] at q3
          refine ⟨_, _, .lst (sq (q4 _ _ q1)) (dp_bls _), .lst (sq q3) (dp_bls _), shaped_bls _, shaped_bls _, ?_⟩
          rw [eqv_bls]
          exact k _ ((S.trans q2).trans q4)
--D--
end
end K02

set_option Elab.async false
set_option linter.all false
set_option maxRecDepth 100000
set_option maxHeartbeats 1000000
namespace K02
open PySem PySem.Spec PyProof.Rows L2 Rl Dr Tx Ex Er
section
variable {P : Program} {w : World} {K : PySem.W.Frag} {mg : Str → Option Value} {base : Heap}
--D--
/-- a value that holds no list of its own -/
inductive Ok2 (H : Hp) : V → Prop where
  | non : Ok2 H .non
  | bl (b : Bool) : Ok2 H (.bl b)
  | int (i : Int) : Ok2 H (.int i)
  | str (z : Str) : Ok2 H (.str z)
  | tup {a : Addr} {xs : List V} (h : H a = some (.tup xs)) : Ok2 H (.ref a)
  | dK {a : Addr} {kvs : List (Key × V)} (h : H a = some (.dK kvs)) : Ok2 H (.ref a)
theorem Ok2.ok1 {H : Hp} {v : V} (h : Ok2 H v) : Ok1 H v := by
  cases h with
  | non => exact .non
  | bl b => exact .bl b
  | int i => exact .int i
  | str z => exact .str z
  | tup h => exact .tup h
  | dK h => exact .dK h
theorem Ok2.keep {H H' : Hp} {v : V} (h : Ok2 H v) (k : KeepN H H') : Ok2 H' v := by
  cases h with
  | non => exact .non
  | bl b => exact .bl b
  | int i => exact .int i
  | str z => exact .str z
  | tup h => exact .tup (k _ _ h rfl)
  | dK h => exact .dK (k _ _ h rfl)
def spThing : Sp := fun vs H Q _ => ∃ (s : Addr) (N : Nat), vs = [.ref s] ∧ Ds H s N ∧ N < 900000 ∧ ∀ (v : V) (H' : Hp), Ok2 H' v → Ds H' s (N + 20) → Kp s H H' → Q v H'
theorem ok_l_thing (T : Tx K mg) : FnOk P w K mg base CX0 2 T.l_thing.f T.l_thing.fd ["_law_state"] spThing := by
  refine T.l_thing.F.ok sc_l_thing (fun vs H Q E h => ?_) (fun cdv A outer s0 H vs Q E hr h => ?_)
  · obtain ⟨s, N, rfl, _⟩ := h
    rfl
  · obtain ⟨s, N, rfl, D, hN, k⟩ := h
    refine ⟨_, (pss_cons (ps_set (i := 1) sc_l_thing.nd rfl (.inl rfl) (pe_op op_sub (pcall T.l_draw (ok_l_draw T) (hr.mono (by decide)) (by rfl) pass0 (pa_cons (pv 0) (pa_cons pe_int pa_nil))) pe_int))
      (pss_cons (ps_set (i := 2) sc_l_thing.nd rfl (.inr rfl) (pcall0 T.l_signs (ok_l_signs T) (hr.mono (by decide)) (by rfl) pass0))
      (pss_cons (ps_set (i := 3) sc_l_thing.nd rfl (.inl rfl) (pe_join pe_str (pe_lc (own := [("_law_k", 4)]) (g := gName 4) (tt := tYes) rfl sc_l_thing.nd (pi_range1 rfl T.m_range (pa_cons (pcall T.l_draw (ok_l_draw T) (hr.mono (by decide)) (by rfl) pass0 (pa_cons (pv 0) (pa_cons pe_int pa_nil))) pa_nil)) (blkOk_by (own := [("_law_k", 4)]) (N := N_l_thing) (sc := defScope s_l_thing) (by decide +kernel)) (fun _ _ _ _ _ => (pg_name (i := 4) sc_l_thing.nd rfl (.inl rfl))) (fun _ _ _ _ _ => pts_nil) (fun _ _ _ _ _ => (pe_item_str (pv 2) (pcall T.l_draw (ok_l_draw T) (hr.mono (by decide)) (by rfl) pass0 (pa_cons (pv 0) (pa_cons (pe_callB call_len_str (by rfl) T.m_len (by decide +kernel) (pa_cons (pv 2) pa_nil)) pa_nil))) (fun _ _ => rfl))))))
      (pss_one (ps_ret (pe_ix (r := rIxL K) ix_list (pe_lst (pa_cons (pv 3) (pa_cons (pv 1) (pa_cons pe_non (pa_cons (pe_tup (pa_cons (pv 3) (pa_cons (pv 1) pa_nil))) (pa_cons (pe_op op_sub (pe_un un_neg (pe_op op_pow pe_int pe_int)) (pv 1)) (pa_cons pe_str (pa_cons pe_int (pa_cons pe_bl (pa_cons (pe_disp (pps_cons (pv 3) pe_int pps_nil) (by rfl) (by rfl) (fun z => by cases z) (by decide)) pa_nil)))))))))) (pcall T.l_draw (ok_l_draw T) (hr.mono (by decide)) (by rfl) pass0 (pa_cons (pv 0) (pa_cons pe_int pa_nil))) (fun _ _ => rfl))))))), ?_⟩
    have hS1 := len_S1
    have hS2 := len_S2
    have hS0 := len_S0
    have hSS := len_S
    refine ⟨_, rfl, s, N, _, rfl, D, by omega, by decide, by decide, fun am H1 _ _ D1 K1 => ⟨_, _, rfl, rfl, rfl, ?_⟩⟩
    refine ⟨⟨_, rfl⟩, _, rfl, s, _, 6, rfl, D1, by omega, by decide, by decide, fun n H2 n0 n1 D2 K2 => ⟨n, rfl, by omega, by omega, fun L nL => ?_⟩⟩
    have nvL := D2.nvol (o := .lst []) nL
    refine lc_range (lo := 0) (n := n.toNat) (fun i H' => ∃ zs : List Str, H' L = some (.lst (zs.map V.str)) ∧ zs.length = i ∧ Ones zs ∧ Ds H' s (N + 2 + i) ∧ ¬ vol H' s L ∧ Kp s H2 H') ⟨[], upd_same, rfl, fun _ h => (nomatch h), (D2.new nL).mono (by omega), nvL, D2.kp nL⟩ (fun i H' hi hp => ?_) (fun H' hp => ?_)
    · obtain ⟨zs, e1, e2, e5, e6, e7, e8⟩ := hp
      refine ⟨rfl, _, rfl, _, rfl, _, rfl, _, rfl, sz (by omega), s, _, _, rfl, e6, by omega, by omega, by omega, fun d H6 b0 b1 D6 K6 => ?_⟩
      obtain ⟨c, hc, c1⟩ := item_of (okS_S1.app okS_S2) b0 b1
      obtain ⟨f1, f2⟩ := K6 L _ e1 e7
      refine ⟨_, d, c, rfl, rfl, b0, by omega, b1, hc, _, f1, ?_, ?_⟩
      · rw [List.length_map]
        exact szl (by omega)
      · obtain ⟨D7, v7⟩ := D6.mut (o := .lst (zs.map V.str ++ [.str ⟨#[c]⟩])) f2
        obtain ⟨u, hu⟩ := D2.ex_
        refine ⟨zs ++ [⟨#[c]⟩], ?_, ?_, ones_snoc e5 c1, D7, fun z => f2 ((v7 L).mp z), (e8.trans K6).mut hu nL⟩
        · rw [upd_same, List.map_append]
          rfl
        · rw [List.length_append, e2]
          rfl
    · obtain ⟨zs, e1, e2, e5, e6, e7, e8⟩ := hp
      have hz : zs.length ≤ 6 := by omega
      obtain ⟨oj, lj⟩ := join_ones e5
      have KK := (K1.trans K2).trans e8
      replace e6 := e6.mono (show N + 2 + n.toNat ≤ N + 10 by omega)
      have e0 : (Str.ofString "").length = 0 := by decide +kernel
      refine ⟨_, L, zs, rfl, rfl, .inl (sq e1), ?_, ?_⟩
      · rw [sum_ones e5, e0]
        omega
      · generalize Txt.join (Str.ofString "") zs = z0
        refine ⟨_, rfl, _, rfl, _, rfl, _, rfl, sz (by show 2 ≤ 100000; omega), fun p np => ?_⟩
        have sp := same_new (o := .tup [.str z0, .int (am - 1000000)]) np
        have ap := upd_same (H := H') (a := p) (o := .tup [.str z0, .int (am - 1000000)])
        have D8 := e6.new (o := .tup [.str z0, .int (am - 1000000)]) np
        have K8 := KK.trans (e6.kp (o := .tup [.str z0, .int (am - 1000000)]) np)
        generalize upd H' p (.tup [.str z0, .int (am - 1000000)]) = G at sp ap D8 K8 ⊢
        refine ⟨_, _, rfl, rfl, ⟨by decide, by decide, by decide⟩, _, rfl, _, rfl, _, _, rfl, rfl, fun q nq => ?_⟩
        have sq1 := same_new (o := .dK []) nq
        have D9 := D8.new (o := .dK []) nq
        have K9 := K8.trans (D8.kp (o := .dK []) nq)
        refine ⟨_, rfl, upd_same, [(.inr z0, .int 1)], rfl, (by show 1 ≤ 15; omega), ?_⟩
        rw [upd_upd]
        generalize hkv : mergeK [] [((.inr z0 : Key), V.int 1)] = kvs
        have sq2 := same_new (o := .dK kvs) nq
        have aq := upd_same (H := G) (a := q) (o := .dK kvs)
        have Da := D8.new (o := .dK kvs) nq
        have Ka := K8.trans (D8.kp (o := .dK kvs) nq)
        have apq := sq2 _ _ ap
        generalize upd G q (.dK kvs) = G2 at sq2 aq Da Ka apq ⊢
        refine ⟨sz (by show 9 ≤ 100000; omega), fun r nr => ?_⟩
        have nvr := Da.nvol (o := .lst [.str z0, .int (am - 1000000), .non, .ref p, .int (-(10 ^ (28 : Int).toNat) - (am - 1000000)), .str (Str.ofString ""), .int 0, .bl true, .ref q]) nr
        have sr := same_new (o := .lst [.str z0, .int (am - 1000000), .non, .ref p, .int (-(10 ^ (28 : Int).toNat) - (am - 1000000)), .str (Str.ofString ""), .int 0, .bl true, .ref q]) nr
        have ar := upd_same (H := G2) (a := r) (o := .lst [.str z0, .int (am - 1000000), .non, .ref p, .int (-(10 ^ (28 : Int).toNat) - (am - 1000000)), .str (Str.ofString ""), .int 0, .bl true, .ref q])
        refine ⟨_, rfl, s, _, 9, rfl, Da.new nr, by omega, by decide, by decide, fun d H9 b0 b1 Db Kb => ?_⟩
        obtain ⟨f1, _⟩ := Kb r _ ar nvr
        have kn := KeepN.of_kp (Da.new nr) Kb
        obtain ⟨v, hv, _, h2⟩ := at_in (xs := [V.str z0, .int (am - 1000000), .non, .ref p, .int (-(10 ^ (28 : Int).toNat) - (am - 1000000)), .str (Str.ofString ""), .int 0, .bl true, .ref q]) b0 b1
        refine ⟨r, _, d, v, rfl, rfl, sq f1, h2, k v H9 ?_ (Db.mono (by omega)) ((Ka.trans (Da.kp nr)).trans Kb)⟩
        simp only [List.mem_cons, List.not_mem_nil, or_false] at hv
        rcases hv with rfl | rfl | rfl | rfl | rfl | rfl | rfl | rfl | rfl
        · exact .str _
        · exact .int _
        · exact .non
        · exact .tup (kn _ _ (sr _ _ apq) rfl)
        · exact .int _
        · exact .str _
        · exact .int _
        · exact .bl _
        · exact .dK (kn _ _ (sr _ _ aq) rfl)
end
end K02

set_option Elab.async false
set_option linter.all false
set_option maxRecDepth 100000
set_option maxHeartbeats 2000000
namespace K02
open PySem PySem.Spec PyProof.Rows L2 Rl Dr Tx Ex Er
section
variable {P : Program} {w : World} {K : PySem.W.Frag} {mg : Str → Option Value} {base : Heap}
--E--
theorem vol_same {H H' : Hp} {s b : Addr} {N : Nat} (D : Ds H s N) (S : Same H H') : vol H' s b ↔ vol H s b := by
  obtain ⟨u, hu⟩ := D.ex_
  unfold vol
  rw [S _ _ hu, hu]
theorem ds_same {H H' : Hp} {s : Addr} {N : Nat} (D : Ds H s N) (S : Same H H') : Ds H' s N := by
  obtain ⟨A, B, bigs, cells, n, S0, l⟩ := D
  exact ⟨A, B, bigs, cells, n, ⟨S _ _ S0.st, S _ _ S0.ha, S _ _ S0.hb, S0.ab, S0.la, S0.lb, S0.nb⟩, l⟩
/-- two rows of made ones about the values of the list at L -/
structure Pr (Cl : List Addr) (H : Hp) (L p M1 M2 : Addr) (es1 es2 : List Addr) (vs : List V) : Prop where
  hL : H L = some (.lst vs)
  hp : H p = some (.lst [.ref M1, .ref M2])
  h1 : H M1 = some (.lst (es1.map V.ref))
  h2 : H M2 = some (.lst (es2.map V.ref))
  l1 : es1.length = 20
  l2 : es2.length = 20
  lv : vs.length = 16
  d1 : MadeL Cl (fun j => vs.getD j .non) H es1
  d2 : MadeL Cl (fun j => vs.getD j .non) H es2
theorem Pr.keep {Cl : List Addr} {H H' : Hp} {L p M1 M2 : Addr} {es1 es2 : List Addr} {vs : List V} (R : Pr Cl H L p M1 M2 es1 es2 vs) (k : KeepE H H') (f : ∀ b, b = L ∨ b = p ∨ b = M1 ∨ b = M2 → ∀ o, H b = some o → H' b = some o) : Pr Cl H' L p M1 M2 es1 es2 vs :=
  ⟨f _ (.inl rfl) _ R.hL, f _ (.inr (.inl rfl)) _ R.hp, f _ (.inr (.inr (.inl rfl))) _ R.h1, f _ (.inr (.inr (.inr rfl))) _ R.h2, R.l1, R.l2, R.lv, R.d1.keep k, R.d2.keep k⟩
theorem Pr.same {Cl : List Addr} {H H' : Hp} {L p M1 M2 : Addr} {es1 es2 : List Addr} {vs : List V} (R : Pr Cl H L p M1 M2 es1 es2 vs) (S : Same H H') : Pr Cl H' L p M1 M2 es1 es2 vs :=
  R.keep (KeepN.of_same S).e fun b _ o h => S b o h
theorem Pr.make {Cl : List Addr} {H H1 H2 : Hp} {L p M1 M2 : Addr} {es1 es2 : List Addr} {vs : List V} (hL : H L = some (.lst vs)) (lv : vs.length = 16) (s1 : Same H H1) (n1 : H M1 = none) (hM1 : H1 M1 = some (.lst (es1.map V.ref))) (l1 : es1.length = 20) (d1 : MadeL Cl (fun j => vs.getD j .non) H1 es1)
    (s2 : Same H1 H2) (n2 : H1 M2 = none) (hM2 : H2 M2 = some (.lst (es2.map V.ref))) (l2 : es2.length = 20) (d2 : MadeL Cl (fun j => vs.getD j .non) H2 es2) (np : H2 p = none) :
    ∃ G, G = upd H2 p (.lst [.ref M1, .ref M2]) ∧ Same H G ∧ H p = none ∧ H M1 = none ∧ H M2 = none ∧ Pr Cl G L p M1 M2 es1 es2 vs := by
  have s3 := same_new (o := .lst [.ref M1, .ref M2]) np
  exact ⟨_, rfl, (s1.trans s2).trans s3, (s1.trans s2).free np, n1, s1.free n2,
    ⟨s3 _ _ (s2 _ _ (s1 _ _ hL)), upd_same, s3 _ _ (s2 _ _ hM1), s3 _ _ hM2, l1, l2, lv, d1.keep (KeepN.of_same (s2.trans s3)).e, d2.keep (KeepN.of_same s3).e⟩⟩
theorem put_len {κ : Type} [DecidableEq κ] (c : List (κ × V)) (k : κ) (x : V) : (putK c k x).length ≤ c.length + 1 := by
  unfold putK
  split
  · rw [List.length_map]
    omega
  · rw [List.length_append]
    show c.length + 1 ≤ _
    omega
def spLaw (K : PySem.W.Frag) : Sp := fun vs H Q _ => ∃ (a : Addr) (ns : List Int), vs = [.ref a] ∧ SqL K H a (ns.map V.int) ∧ ns.length ≤ 63 ∧ ∀ H', Q (.bl true) H'
theorem ok_law {f : Addr} {fd : FuncData} (F : Fun K "law" "law" s_law f fd) (T : Tx K mg) : FnOk P w K mg base CX0 4 f fd ["_law_script"] (spLaw K) := by
  refine F.ok sc_law (fun vs H Q E h => ?_) (fun cdv A outer s0 H vs Q E hr h => ?_)
  · obtain ⟨a, ns, rfl, _⟩ := h
    rfl
  · obtain ⟨a, ns, rfl, hS, hlen, k⟩ := h
    refine ⟨_, (pss_cons (ps_set (i := 1) sc_law.nd rfl (.inr rfl) (pcall T.l_start (ok_l_start T) (hr.mono (by decide)) (by rfl) pass0 (pa_cons (pv 0) pa_nil)))
      (pss_cons (ps_setLc (i := 2) (own := [("_law_k", 8)]) (g := gName 8) (tt := tYes) rfl sc_law.nd rfl rfl (sw_true rfl rfl rfl (by decide +kernel)) (pi_range1 rfl T.m_range (pa_cons pe_int pa_nil)) (blkOk_by (own := [("_law_k", 8)]) (N := N_law) (sc := defScope s_law) (by decide +kernel)) (fun _ _ _ _ _ => (pg_name (i := 8) sc_law.nd rfl (.inl rfl))) (fun _ _ _ _ _ => pts_nil) (fun _ _ _ _ _ => (pcall T.l_thing (ok_l_thing T) (hr.mono (by decide)) (by rfl) pass0 (pa_cons (pv 1) pa_nil))))
      (pss_cons (ps_if (PW.pt (pw_or (pt_not (pt_val (pcall T.l_keeps (ok_l_keeps T) (hr.mono (by decide)) (by rfl) pass0 (pa_cons (pcall T.l_all (ok_l_all T) (hr.mono (by decide)) (by rfl) pass0 (pa_cons (pv 2) pa_nil)) (pa_cons (pv 2) pa_nil))))) (pw_or1 (pt_not (pt_val (pcall T.l_keeps (ok_l_keeps T) (hr.mono (by decide)) (by rfl) pass0 (pa_cons (pcall T.l_named (ok_l_named T) (hr.mono (by decide)) (by rfl) pass0 (pa_cons (pv 2) pa_nil)) (pa_cons (pv 2) pa_nil)))))))) (pss_one (ps_ret pe_bl)) pss_nil)
      (pss_cons (ps_setLc (i := 3) (own := [("_law_k", 8)]) (g := gName 8) (tt := tYes) rfl sc_law.nd rfl rfl (sw_true rfl rfl rfl (by decide +kernel)) (pi_range1 rfl T.m_range (pa_cons pe_int pa_nil)) (blkOk_by (own := [("_law_k", 8)]) (N := N_law) (sc := defScope s_law) (by decide +kernel)) (fun _ _ _ _ _ => (pg_name (i := 8) sc_law.nd rfl (.inl rfl))) (fun _ _ _ _ _ => pts_nil) (fun _ _ _ _ _ => (pe_lst (pa_cons (pcall T.l_draw (ok_l_draw T) (hr.mono (by decide)) (by rfl) pass0 (pa_cons (pv 1) (pa_cons pe_int pa_nil))) pa_nil))))
      (pss_cons (ps_set (i := 4) sc_law.nd rfl (.inl rfl) (pe_lst (pa_cons (pcall T.l_all (ok_l_all T) (hr.mono (by decide)) (by rfl) pass0 (pa_cons (pv 3) pa_nil)) (pa_cons (pcall T.l_named (ok_l_named T) (hr.mono (by decide)) (by rfl) pass0 (pa_cons (pv 3) pa_nil)) pa_nil))))
      (pss_cons (ps_for PassesOwn.never rfl (pi_list (pv 3)) (pg_name (i := 5) sc_law.nd rfl (.inl rfl)) (pss_one (ps_expr (pe_bm PySem.F.plainAttrs_list PySem.F.slot_list_append PySem.F.type_list_append mt_append (pv 5) (pa_cons (pcall T.l_draw (ok_l_draw T) (hr.mono (by decide)) (by rfl) pass0 (pa_cons (pv 1) (pa_cons pe_int pa_nil))) pa_nil)))))
      (pss_cons (ps_if (PW.pt (pw_or (pt_not (pt_val (pcall T.l_keeps (ok_l_keeps T) (hr.mono (by decide)) (by rfl) pass0 (pa_cons (pe_ix (r := rIxL K) ix_list (pv 4) pe_int (fun _ _ => rfl)) (pa_cons (pv 3) pa_nil))))) (pw_or1 (pt_not (pt_val (pcall T.l_keeps (ok_l_keeps T) (hr.mono (by decide)) (by rfl) pass0 (pa_cons (pe_ix (r := rIxL K) ix_list (pv 4) pe_int (fun _ _ => rfl)) (pa_cons (pv 3) pa_nil)))))))) (pss_one (ps_ret pe_bl)) pss_nil)
      (pss_cons (ps_setLc (i := 6) (own := [("_law_k", 8)]) (g := gName 8) (tt := tYes) rfl sc_law.nd rfl rfl (sw_true rfl rfl rfl (by decide +kernel)) (pi_range1 rfl T.m_range (pa_cons pe_int pa_nil)) (blkOk_by (own := [("_law_k", 8)]) (N := N_law) (sc := defScope s_law) (by decide +kernel)) (fun _ _ _ _ _ => (pg_name (i := 8) sc_law.nd rfl (.inl rfl))) (fun _ _ _ _ _ => pts_nil) (fun _ _ _ _ _ => (pe_tup (pa_cons (pe_lst (pa_cons (pcall T.l_draw (ok_l_draw T) (hr.mono (by decide)) (by rfl) pass0 (pa_cons (pv 1) (pa_cons pe_int pa_nil))) pa_nil)) pa_nil))))
      (pss_cons (ps_set (i := 4) sc_law.nd rfl (.inl rfl) (pe_lst (pa_cons (pcall T.l_all (ok_l_all T) (hr.mono (by decide)) (by rfl) pass0 (pa_cons (pv 6) pa_nil)) (pa_cons (pcall T.l_named (ok_l_named T) (hr.mono (by decide)) (by rfl) pass0 (pa_cons (pv 6) pa_nil)) pa_nil))))
      (pss_cons (ps_for PassesOwn.never rfl (pi_list (pv 6)) (pg_name (i := 5) sc_law.nd rfl (.inl rfl)) (pss_one (ps_expr (pe_bm PySem.F.plainAttrs_list PySem.F.slot_list_append PySem.F.type_list_append mt_append (pe_ix ix_tup (pv 5) pe_int (fun _ _ => rfl)) (pa_cons pe_int pa_nil)))))
      (pss_cons (ps_if (PW.pt (pw_or (pt_not (pt_val (pcall T.l_keeps (ok_l_keeps T) (hr.mono (by decide)) (by rfl) pass0 (pa_cons (pe_ix (r := rIxL K) ix_list (pv 4) pe_int (fun _ _ => rfl)) (pa_cons (pv 6) pa_nil))))) (pw_or1 (pt_not (pt_val (pcall T.l_keeps (ok_l_keeps T) (hr.mono (by decide)) (by rfl) pass0 (pa_cons (pe_ix (r := rIxL K) ix_list (pv 4) pe_int (fun _ _ => rfl)) (pa_cons (pv 6) pa_nil)))))))) (pss_one (ps_ret pe_bl)) pss_nil)
      (pss_cons (ps_setLc (i := 7) (own := [("_law_k", 8)]) (g := gName 8) (tt := tYes) rfl sc_law.nd rfl rfl (sw_true rfl rfl rfl (by decide +kernel)) (pi_range1 rfl T.m_range (pa_cons pe_int pa_nil)) (blkOk_by (own := [("_law_k", 8)]) (N := N_law) (sc := defScope s_law) (by decide +kernel)) (fun _ _ _ _ _ => (pg_name (i := 8) sc_law.nd rfl (.inl rfl))) (fun _ _ _ _ _ => pts_nil) (fun _ _ _ _ _ => (pe_disp (pps_cons pe_str (pcall T.l_draw (ok_l_draw T) (hr.mono (by decide)) (by rfl) pass0 (pa_cons (pv 1) (pa_cons pe_int pa_nil))) pps_nil) (by rfl) (by rfl) (fun z => by cases z) (by decide))))
      (pss_cons (ps_set (i := 4) sc_law.nd rfl (.inl rfl) (pe_lst (pa_cons (pcall T.l_all (ok_l_all T) (hr.mono (by decide)) (by rfl) pass0 (pa_cons (pv 7) pa_nil)) (pa_cons (pcall T.l_named (ok_l_named T) (hr.mono (by decide)) (by rfl) pass0 (pa_cons (pv 7) pa_nil)) pa_nil))))
      (pss_cons (ps_for PassesOwn.never rfl (pi_list (pv 7)) (pg_name (i := 5) sc_law.nd rfl (.inl rfl)) (pss_one (ps_dput (hu_of hr) (pv 5) pe_str (pe_lst (pa_cons (pe_dget (hu_of hr) (pv 5) pe_str (fun _ _ => rfl)) pa_nil)) rfl)))
      (pss_one (ps_ret (pe_and (pcall T.l_keeps (ok_l_keeps T) (hr.mono (by decide)) (by rfl) pass0 (pa_cons (pe_ix (r := rIxL K) ix_list (pv 4) pe_int (fun _ _ => rfl)) (pa_cons (pv 7) pa_nil))) (pe_one (pcall T.l_keeps (ok_l_keeps T) (hr.mono (by decide)) (by rfl) pass0 (pa_cons (pe_ix (r := rIxL K) ix_list (pv 4) pe_int (fun _ _ => rfl)) (pa_cons (pv 7) pa_nil))))))))))))))))))))), ?_⟩
    dsimp only [cx_K]
    refine ⟨_, rfl, a, ns, rfl, hS, hlen, fun s H1 sm1 ns1 D1 _ => ?_⟩
    refine ⟨16, rfl, by decide, by decide, fun L nL => ?_⟩
    refine lc_range (lo := 0) (n := 16) (fun i H' => ∃ ts : List V, H' L = some (.lst ts) ∧ ts.length = i ∧ (∀ v ∈ ts, Ok2 H' v) ∧ Ds H' s (20 * i) ∧ ¬ vol H' s L) ⟨[], upd_same, rfl, fun _ h => (nomatch h), D1.new nL, D1.nvol nL⟩ (fun i H' hi hp => ?_) (fun H' hp => ?_)
    · obtain ⟨ts, e1, e2, e3, e4, e5⟩ := hp
      refine ⟨rfl, _, rfl, s, _, rfl, e4, by omega, fun v H6 okv D6 K6 => ?_⟩
      obtain ⟨f1, f2⟩ := K6 L _ e1 e5
      obtain ⟨D7, v7⟩ := D6.mut (o := .lst (ts ++ [v])) f2
      have kn := KeepN.of_kp e4 K6
      have kn2 := KeepN.upd (o := .lst (ts ++ [v])) f1
      refine ⟨_, f1, szl (by omega), ts ++ [v], upd_same, by rw [List.length_append, e2]; rfl, fun x hx => ?_, D7.mono (by omega), fun z => f2 ((v7 L).mp z)⟩
      rcases List.mem_append.mp hx with q | q
      · exact ((e3 x q).keep kn).keep kn2
      · rw [List.mem_singleton] at q
        subst q
        exact okv.keep kn2
    · obtain ⟨ts, e1, e2, e3, e4, e5⟩ := hp
      refine ⟨_, rfl, L, ts, rfl, e1, e2, fun M es H2 S2 _ hM le Md => ?_⟩
      refine ⟨_, rfl, M, L, es, ts, rfl, hM, le, S2 _ _ e1, e2, Md, fun v h => ((e3 v h).ok1).same S2, fun H3 S3 => ⟨true, rfl, iteF ?_⟩⟩
      have S13 := S2.trans S3
      refine ⟨_, rfl, L, ts, rfl, S13 _ _ e1, e2, fun M' es' H4 S4 _ hM' le' Md' => ?_⟩
      have S14 := S13.trans S4
      refine ⟨_, rfl, M', L, es', ts, rfl, hM', le', S14 _ _ e1, e2, Md', fun v h => ((e3 v h).ok1).same S14, fun H5 S5 => ⟨true, rfl, iteF ?_⟩⟩
      have D5 := ds_same e4 (S14.trans S5)
      clear Md Md' hM hM' S2 S3 S4 S5 S13 S14 e1 e2 e3 e4 e5
      -- lists that grow
      refine ⟨16, rfl, by decide, by decide, fun L2 nL2 => ?_⟩
      refine lc_range (lo := 0) (n := 16) (fun i H' => ∃ rs : List Addr, H' L2 = some (.lst (rs.map V.ref)) ∧ rs.length = i ∧ (∀ r ∈ rs, r ≠ L2 ∧ (∃ xs, H' r = some (.lst xs) ∧ xs.length ≤ 1) ∧ ¬ vol H' s r) ∧ Ds H' s (1000 + i) ∧ ¬ vol H' s L2)
        ⟨[], upd_same, rfl, fun _ h => (nomatch h), (D5.new nL2).mono (by omega), D5.nvol nL2⟩ (fun i H' hi hp => ?_) (fun H' hp => ?_)
      · obtain ⟨rs, e1, e2, e3, e4, e5⟩ := hp
        refine ⟨rfl, _, rfl, s, _, _, rfl, e4, by omega, by decide, by decide, fun d H6 _ _ D6 K6 => ⟨sz (by show 1 ≤ 100000; omega), fun r nr => ?_⟩⟩
        obtain ⟨f1, f2⟩ := K6 L2 _ e1 e5
        have sr := same_new (o := .lst [.int d]) nr
        have ar := upd_same (H := H6) (a := r) (o := .lst [.int d])
        have D7 := D6.new (o := .lst [.int d]) nr
        have vr := D6.nvol (o := .lst [.int d]) nr
        have vs7 : ∀ b, vol (upd H6 r (.lst [.int d])) s b ↔ vol H6 s b := fun b => vol_same D6 sr
        have nrL : r ≠ L2 := (ne_of_none f1 nr).symm
        have old : ∀ x ∈ rs, x ≠ L2 ∧ (∃ xs, (upd H6 r (.lst [.int d])) x = some (.lst xs) ∧ xs.length ≤ 1) ∧ ¬ vol (upd H6 r (.lst [.int d])) s x := fun x hx => by
          obtain ⟨g1, ⟨xs, g2, g3⟩, g4⟩ := e3 x hx
          obtain ⟨k1, k2⟩ := K6 x _ g2 g4
          exact ⟨g1, ⟨xs, sr _ _ k1, g3⟩, fun z => k2 ((vs7 x).mp z)⟩
        have f1' := sr _ _ f1
        have f2' : ¬ vol (upd H6 r (.lst [.int d])) s L2 := fun z => f2 ((vs7 L2).mp z)
        generalize upd H6 r (.lst [.int d]) = G at sr ar D7 vr vs7 old f1' f2' ⊢
        obtain ⟨D8, v8⟩ := D7.mut (o := .lst (rs.map V.ref ++ [.ref r])) f2'
        refine ⟨_, f1', szl (by rw [List.length_map]; omega), rs ++ [r], by rw [upd_same, List.map_append]; rfl, by rw [List.length_append, e2]; rfl, fun x hx => ?_, D8.mono (by omega), fun z => f2' ((v8 L2).mp z)⟩
        rcases List.mem_append.mp hx with q | q
        · obtain ⟨g1, ⟨xs, g2, g3⟩, g4⟩ := old x q
          exact ⟨g1, ⟨xs, by rw [upd_ne g1]; exact g2, g3⟩, fun z => g4 ((v8 x).mp z)⟩
        · rw [List.mem_singleton] at q
          subst q
          exact ⟨nrL, ⟨_, by rw [upd_ne nrL]; exact ar, by show 1 ≤ 1; omega⟩, fun z => vr ((v8 x).mp z)⟩
      · obtain ⟨rs, e1, e2, e3, e4, e5⟩ := hp
        have lrs : (rs.map V.ref).length = 16 := by rw [List.length_map]; exact e2
        refine ⟨_, rfl, L2, _, rfl, e1, lrs, fun M1 es1 G1 s1 m1 hM1 l1 d1 => ⟨_, rfl, L2, _, rfl, s1 _ _ e1, lrs, fun M2 es2 G2 s2 m2 hM2 l2 d2 => ⟨sz (by show 2 ≤ 100000; omega), fun p mp => ?_⟩⟩⟩
        obtain ⟨G, eG, S, np, n1, n2, R⟩ := Pr.make e1 lrs s1 m1 hM1 l1 d1 s2 m2 hM2 l2 d2 mp
        rw [← eG]
        clear eG s1 m1 hM1 l1 d1 s2 m2 hM2 l2 d2 mp
        have D9 := ds_same e4 S
        have vS : ∀ b, vol G s b ↔ vol H' s b := fun b => vol_same e4 S
        have nvp : ∀ b, H' b = none → ¬ vol G s b := fun b hb z => by
          rw [vS] at z
          obtain ⟨A0, B0, bg, ce, nn, S0, _⟩ := e4
          rw [S0.volA] at z
          rcases z with rfl | rfl | rfl
          · rw [S0.st] at hb
            cases hb
          · rw [S0.ha] at hb
            cases hb
          · rw [S0.hb] at hb
            cases hb
        have rows : ∀ r ∈ rs, (r ≠ L2 ∧ r ≠ p ∧ r ≠ M1 ∧ r ≠ M2) ∧ (∃ xs, G r = some (.lst xs) ∧ xs.length ≤ 1) ∧ ¬ vol G s r := fun r hr => by
          obtain ⟨g1, ⟨xs, g2, g3⟩, g4⟩ := e3 r hr
          exact ⟨⟨g1, ne_of_none g2 np, ne_of_none g2 n1, ne_of_none g2 n2⟩, ⟨xs, S _ _ g2, g3⟩, fun z => g4 ((vS r).mp z)⟩
        have fixv : ∀ b, b = L2 ∨ b = p ∨ b = M1 ∨ b = M2 → ¬ vol G s b := fun b hb => by
          rcases hb with rfl | rfl | rfl | rfl
          · exact fun z => e5 ((vS _).mp z)
          · exact nvp _ np
          · exact nvp _ n1
          · exact nvp _ n2
        clear e1 e2 e3 e4 e5 S vS nvp np n1 n2
        -- each row grows
        refine ⟨_, rfl, L2, rfl, ⟨_, sq R.hL⟩, for_list (K := K) (a := L2) (xs := rs.map V.ref) (fun i σ H' => (∃ v, σ = [some (.ref a), some (.ref s), some (.ref L), some (.ref L2), some (.ref p), v, none, none, none]) ∧ Pr (Cs T) H' L2 p M1 M2 es1 es2 (rs.map V.ref) ∧
          (∀ r ∈ rs, (r ≠ L2 ∧ r ≠ p ∧ r ≠ M1 ∧ r ≠ M2) ∧ (∃ xs, H' r = some (.lst xs) ∧ xs.length ≤ 1 + i) ∧ ¬ vol H' s r) ∧ (∀ b, b = L2 ∨ b = p ∨ b = M1 ∨ b = M2 → ¬ vol H' s b) ∧ Ds H' s (2000 + i))
          ⟨⟨_, rfl⟩, R, rows, fixv, D9.mono (by omega)⟩ (fun i σ H' _ h => sq h.2.1.hL) (fun i x σ H' hx hp => ?_) (fun σ H' hp => ?_)⟩
        · obtain ⟨⟨v, rfl⟩, R, rows, fixv, D9⟩ := hp
          obtain ⟨r, hr0, rfl⟩ := List.mem_map.mp (List.mem_of_getElem? hx)
          have hi := (List.getElem?_eq_some_iff.mp hx).1
          rw [lrs] at hi
          obtain ⟨g0, ⟨xs, g2, g3⟩, g4⟩ := rows r hr0
          refine ⟨_, rfl, .inl ⟨rfl, _, sq g2⟩, _, rfl, s, _, 9, rfl, D9, by omega, by decide, by decide, fun d H6 _ _ D6 K6 => ?_⟩
          obtain ⟨f1, f2⟩ := K6 r _ g2 g4
          obtain ⟨D7, v7⟩ := D6.mut (o := .lst (xs ++ [.int d])) f2
          have R6 := R.keep (KeepN.of_kp D9 K6).e fun b hb o ho => (K6 b o ho (fixv b hb)).1
          have fix6 : ∀ b, b = L2 ∨ b = p ∨ b = M1 ∨ b = M2 → ¬ vol H6 s b := fun b hb => by
            rcases hb with rfl | rfl | rfl | rfl
            · exact (K6 _ _ R.hL (fixv _ (.inl rfl))).2
            · exact (K6 _ _ R.hp (fixv _ (.inr (.inl rfl)))).2
            · exact (K6 _ _ R.h1 (fixv _ (.inr (.inr (.inl rfl))))).2
            · exact (K6 _ _ R.h2 (fixv _ (.inr (.inr (.inr rfl))))).2
          refine ⟨r, _, _, rfl, rfl, f1, szl (by omega), ⟨_, rfl⟩, R6.keep (KeepN.upd f1).e fun b hb o ho => ?_, fun y hy => ?_, fun b hb z => fix6 b hb ((v7 b).mp z), D7.mono (by omega)⟩
          · rw [upd_ne ?_]
            · exact ho
            · rcases hb with rfl | rfl | rfl | rfl
              · exact g0.1.symm
              · exact g0.2.1.symm
              · exact g0.2.2.1.symm
              · exact g0.2.2.2.symm
          · obtain ⟨q0, ⟨ys, q2, q3⟩, q4⟩ := rows y hy
            obtain ⟨t1, t2⟩ := K6 y _ q2 q4
            refine ⟨q0, ?_, fun z => t2 ((v7 y).mp z)⟩
            by_cases hyr : y = r
            · subst hyr
              refine ⟨_, upd_same, ?_⟩
              rw [List.length_append]
              show xs.length + 1 ≤ 1 + (i + 1)
              omega
            · exact ⟨ys, by rw [upd_ne hyr]; exact t1, by omega⟩
        · obtain ⟨⟨v, rfl⟩, R, rows, fixv, D9⟩ := hp
          have hv : ∀ x ∈ rs.map V.ref, Ok1 H' x := fun x hx => by
            obtain ⟨r, hr0, rfl⟩ := List.mem_map.mp hx
            obtain ⟨_, ⟨xs, g2, _⟩, _⟩ := rows r hr0
            exact .lst g2
          refine ⟨_, rfl, p, _, _, _, rfl, rfl, sq R.hp, at0, _, rfl, M1, L2, es1, _, rfl, R.h1, R.l1, R.hL, R.lv, R.d1, hv, fun G1 S1 => ⟨true, rfl, iteF ?_⟩⟩
          have R1 := R.same S1
          refine ⟨_, rfl, p, _, _, _, rfl, rfl, sq R1.hp, at1, _, rfl, M2, L2, es2, _, rfl, R1.h2, R1.l2, R1.hL, R1.lv, R1.d2, fun x h => (hv x h).same S1, fun G2 S2 => ⟨true, rfl, iteF ?_⟩⟩
          have Da := ds_same D9 (S1.trans S2)
          rw [lrs] at Da
          clear hv R R1 rows fixv D9 S1 S2
          -- lists within tuples
          refine ⟨16, rfl, by decide, by decide, fun L3 nL3 => ?_⟩
          refine lc_range (lo := 0) (n := 16) (fun i H' => ∃ rs : List Addr, H' L3 = some (.lst (rs.map V.ref)) ∧ rs.length = i ∧ (∀ r ∈ rs, ∃ q xs, H' r = some (.tup [.ref q]) ∧ q ≠ L3 ∧ H' q = some (.lst xs) ∧ xs.length ≤ 1 ∧ ¬ vol H' s q) ∧ Ds H' s (3000 + i) ∧ ¬ vol H' s L3)
            ⟨[], upd_same, rfl, fun _ h => (nomatch h), (Da.new nL3).mono (by omega), Da.nvol nL3⟩ (fun i H' hi hp => ?_) (fun H' hp => ?_)
          · obtain ⟨rs, e1, e2, e3, e4, e5⟩ := hp
            refine ⟨rfl, _, rfl, s, _, _, rfl, e4, by omega, by decide, by decide, fun d H6 _ _ D6 K6 => ⟨sz (by show 1 ≤ 100000; omega), fun q nq => ⟨sz (by show 1 ≤ 100000; omega), fun r nr => ?_⟩⟩⟩
            obtain ⟨f1, f2⟩ := K6 L3 _ e1 e5
            have kn := KeepN.of_kp e4 K6
            have s1 := same_new (o := .lst [.int d]) nq
            have a1 := upd_same (H := H6) (a := q) (o := .lst [.int d])
            have D7 := D6.new (o := .lst [.int d]) nq
            have v1 := D6.nvol (o := .lst [.int d]) nq
            have nqL : q ≠ L3 := (ne_of_none f1 nq).symm
            generalize upd H6 q (.lst [.int d]) = G1 at s1 a1 D7 v1 nr ⊢
            have s2 := same_new (o := .tup [.ref q]) nr
            have a2 := upd_same (H := G1) (a := r) (o := .tup [.ref q])
            have D8 := D7.new (o := .tup [.ref q]) nr
            generalize upd G1 r (.tup [.ref q]) = G at s2 a2 D8 ⊢
            have S := s1.trans s2
            have vS : ∀ b, vol G s b ↔ vol H6 s b := fun b => vol_same D6 S
            have vS2 : ∀ b, vol G s b ↔ vol G1 s b := fun b => vol_same D7 s2
            have f1' := S _ _ f1
            have f2' : ¬ vol G s L3 := fun z => f2 ((vS L3).mp z)
            have old : ∀ x ∈ rs, ∃ q xs, G x = some (.tup [.ref q]) ∧ q ≠ L3 ∧ G q = some (.lst xs) ∧ xs.length ≤ 1 ∧ ¬ vol G s q := fun x hx => by
              obtain ⟨q', xs, g1, g2, g3, g4, g5⟩ := e3 x hx
              obtain ⟨k1, k2⟩ := K6 q' _ g3 g5
              exact ⟨q', xs, S _ _ (kn _ _ g1 rfl), g2, S _ _ k1, g4, fun z => k2 ((vS q').mp z)⟩
            obtain ⟨D9, v9⟩ := D8.mut (o := .lst (rs.map V.ref ++ [.ref r])) f2'
            have kn2 := KeepN.upd (o := .lst (rs.map V.ref ++ [.ref r])) f1'
            refine ⟨_, f1', szl (by rw [List.length_map]; omega), rs ++ [r], by rw [upd_same, List.map_append]; rfl, by rw [List.length_append, e2]; rfl, fun x hx => ?_, D9.mono (by omega), fun z => f2' ((v9 L3).mp z)⟩
            rcases List.mem_append.mp hx with qq | qq
            · obtain ⟨q', xs, g1, g2, g3, g4, g5⟩ := old x qq
              exact ⟨q', xs, kn2 _ _ g1 rfl, g2, by rw [upd_ne g2]; exact g3, g4, fun z => g5 ((v9 q').mp z)⟩
            · rw [List.mem_singleton] at qq
              subst qq
              exact ⟨q, _, kn2 _ _ a2 rfl, nqL, by rw [upd_ne nqL]; exact s2 _ _ a1, by show 1 ≤ 1; omega, fun z => v1 ((vS2 q).mp ((v9 q).mp z))⟩
          · obtain ⟨rs, e1, e2, e3, e4, e5⟩ := hp
            have lrs : (rs.map V.ref).length = 16 := by rw [List.length_map]; exact e2
            refine ⟨_, rfl, L3, _, rfl, e1, lrs, fun M1 es1 G1 s1 m1 hM1 l1 d1 => ⟨_, rfl, L3, _, rfl, s1 _ _ e1, lrs, fun M2 es2 G2 s2 m2 hM2 l2 d2 => ⟨sz (by show 2 ≤ 100000; omega), fun p mp => ?_⟩⟩⟩
            obtain ⟨G, eG, S, np, n1, n2, R⟩ := Pr.make e1 lrs s1 m1 hM1 l1 d1 s2 m2 hM2 l2 d2 mp
            rw [← eG]
            clear eG s1 m1 hM1 l1 d1 s2 m2 hM2 l2 d2 mp
            have D9 := ds_same e4 S
            have vS : ∀ b, vol G s b ↔ vol H' s b := fun b => vol_same e4 S
            have rows : ∀ r ∈ rs, ∃ q xs, G r = some (.tup [.ref q]) ∧ (q ≠ L3 ∧ q ≠ p ∧ q ≠ M1 ∧ q ≠ M2) ∧ G q = some (.lst xs) ∧ xs.length ≤ 1 ∧ ¬ vol G s q := fun r hr => by
              obtain ⟨q, xs, g1, g2, g3, g4, g5⟩ := e3 r hr
              exact ⟨q, xs, S _ _ g1, ⟨g2, ne_of_none g3 np, ne_of_none g3 n1, ne_of_none g3 n2⟩, S _ _ g3, g4, fun z => g5 ((vS q).mp z)⟩
            clear e1 e2 e3 e4 e5 S vS np n1 n2
            refine ⟨_, rfl, L3, rfl, ⟨_, sq R.hL⟩, for_list (K := K) (a := L3) (xs := rs.map V.ref) (fun i σ H' => (∃ v, σ = [some (.ref a), some (.ref s), some (.ref L), some (.ref L2), some (.ref p), v, some (.ref L3), none, none]) ∧ Pr (Cs T) H' L3 p M1 M2 es1 es2 (rs.map V.ref) ∧
              (∀ r ∈ rs, ∃ q xs, H' r = some (.tup [.ref q]) ∧ (q ≠ L3 ∧ q ≠ p ∧ q ≠ M1 ∧ q ≠ M2) ∧ H' q = some (.lst xs) ∧ xs.length ≤ 1 + i ∧ ¬ vol H' s q) ∧ Ds H' s 4000)
              ⟨⟨_, rfl⟩, R, rows, D9.mono (by omega)⟩ (fun i σ H' _ h => sq h.2.1.hL) (fun i x σ H' hx hp => ?_) (fun σ H' hp => ?_)⟩
            · obtain ⟨⟨v, rfl⟩, R, rows, D9⟩ := hp
              obtain ⟨r, hr0, rfl⟩ := List.mem_map.mp (List.mem_of_getElem? hx)
              have hi := (List.getElem?_eq_some_iff.mp hx).1
              rw [lrs] at hi
              obtain ⟨q, xs, g1, g2, g3, g4, g5⟩ := rows r hr0
              obtain ⟨D7, v7⟩ := D9.mut (o := .lst (xs ++ [.int 1])) g5
              have kn := KeepN.upd (o := .lst (xs ++ [.int 1])) g3
              refine ⟨_, rfl, r, _, 0, _, rfl, rfl, st g1, at0, .inl ⟨rfl, _, sq g3⟩, q, _, _, rfl, rfl, g3, szl (by omega), ⟨_, rfl⟩, R.keep kn.e fun b hb o ho => ?_, fun y hy => ?_, D7⟩
              · rw [upd_ne ?_]
                · exact ho
                · rcases hb with rfl | rfl | rfl | rfl
                  · exact g2.1.symm
                  · exact g2.2.1.symm
                  · exact g2.2.2.1.symm
                  · exact g2.2.2.2.symm
              · obtain ⟨q', ys, t1, t2, t3, t4, t5⟩ := rows y hy
                by_cases hq : q' = q
                · subst hq
                  refine ⟨q', _, kn _ _ t1 rfl, t2, upd_same, ?_, fun z => t5 ((v7 q').mp z)⟩
                  rw [List.length_append]
                  show xs.length + 1 ≤ 1 + (i + 1)
                  omega
                · exact ⟨q', ys, kn _ _ t1 rfl, t2, by rw [upd_ne hq]; exact t3, by omega, fun z => t5 ((v7 q').mp z)⟩
            · obtain ⟨⟨v, rfl⟩, R, rows, D9⟩ := hp
              have hv : ∀ x ∈ rs.map V.ref, Ok1 H' x := fun x hx => by
                obtain ⟨r, hr0, rfl⟩ := List.mem_map.mp hx
                obtain ⟨_, _, g2, _⟩ := rows r hr0
                exact .tup g2
              refine ⟨_, rfl, p, _, _, _, rfl, rfl, sq R.hp, at0, _, rfl, M1, L3, es1, _, rfl, R.h1, R.l1, R.hL, R.lv, R.d1, hv, fun G1 S1 => ⟨true, rfl, iteF ?_⟩⟩
              have R1 := R.same S1
              refine ⟨_, rfl, p, _, _, _, rfl, rfl, sq R1.hp, at1, _, rfl, M2, L3, es2, _, rfl, R1.h2, R1.l2, R1.hL, R1.lv, R1.d2, fun x h => (hv x h).same S1, fun G2 S2 => ⟨true, rfl, iteF ?_⟩⟩
              have Db := ds_same D9 (S1.trans S2)
              clear hv R R1 rows D9 S1 S2
              -- dicts
              refine ⟨16, rfl, by decide, by decide, fun L4 nL4 => ?_⟩
              refine lc_range (lo := 0) (n := 16) (fun i H' => ∃ rs : List Addr, H' L4 = some (.lst (rs.map V.ref)) ∧ rs.length = i ∧ (∀ r ∈ rs, ∃ kvs v, H' r = some (.dK kvs) ∧ valV kvs (.inr "a" : Key) = some v ∧ kvs.length ≤ 1) ∧ Ds H' s (5000 + i) ∧ ¬ vol H' s L4)
                ⟨[], upd_same, rfl, fun _ h => (nomatch h), (Db.new nL4).mono (by omega), Db.nvol nL4⟩ (fun i H' hi hp => ?_) (fun H' hp => ?_)
              · obtain ⟨rs, e1, e2, e3, e4, e5⟩ := hp
                refine ⟨rfl, fun q nq => ?_⟩
                have s1 := same_new (o := .dK []) nq
                have a1 := upd_same (H := H') (a := q) (o := .dK [])
                have D7 := e4.new (o := .dK []) nq
                have v1 := e4.nvol (o := .dK []) nq
                have e1' := s1 _ _ e1
                have e5' : ¬ vol (upd H' q (.dK [])) s L4 := fun z => e5 ((vol_same e4 s1).mp z)
                have e3' : ∀ r ∈ rs, r ≠ q ∧ ∃ kvs v, (upd H' q (.dK [])) r = some (.dK kvs) ∧ valV kvs (.inr "a" : Key) = some v ∧ kvs.length ≤ 1 := fun r hr => by
                  obtain ⟨kvs, v, g1, g2, g3⟩ := e3 r hr
                  exact ⟨ne_of_none g1 nq, kvs, v, s1 _ _ g1, g2, g3⟩
                have nqL : L4 ≠ q := ne_of_none e1 nq
                generalize upd H' q (.dK []) = G1 at s1 a1 D7 v1 e1' e5' e3' ⊢
                refine ⟨_, rfl, s, _, _, rfl, D7, by omega, by decide, by decide, fun d H6 _ _ D6 K6 => ?_⟩
                obtain ⟨f1, f2⟩ := K6 L4 _ e1' e5'
                obtain ⟨f3, f4⟩ := K6 q _ a1 v1
                have kn := KeepN.of_kp D7 K6
                refine ⟨f3, [(.inr "a", .int d)], rfl, (by show 1 ≤ 15; omega), ?_⟩
                have em : mergeK [] [((.inr "a" : Key), V.int d)] = [(.inr "a", .int d)] := rfl
                rw [em]
                obtain ⟨D8, v8⟩ := D6.mut (o := .dK [(.inr "a", .int d)]) f4
                have f1' : (upd H6 q (.dK [(.inr "a", .int d)])) L4 = some (.lst (rs.map V.ref)) := by rw [upd_ne nqL]; exact f1
                have f2' : ¬ vol (upd H6 q (.dK [(.inr "a", .int d)])) s L4 := fun z => f2 ((v8 L4).mp z)
                have old : ∀ r ∈ rs, ∃ kvs v, (upd H6 q (.dK [(.inr "a", .int d)])) r = some (.dK kvs) ∧ valV kvs (.inr "a" : Key) = some v ∧ kvs.length ≤ 1 := fun r hr => by
                  obtain ⟨g0, kvs, v, g1, g2, g3⟩ := e3' r hr
                  exact ⟨kvs, v, by rw [upd_ne g0]; exact kn _ _ g1 rfl, g2, g3⟩
                have aq := upd_same (H := H6) (a := q) (o := .dK [(.inr "a", .int d)])
                generalize upd H6 q (.dK [(.inr "a", .int d)]) = G at D8 f1' f2' old aq ⊢
                obtain ⟨D9, v9⟩ := D8.mut (o := .lst (rs.map V.ref ++ [.ref q])) f2'
                have kn2 := KeepN.upd (o := .lst (rs.map V.ref ++ [.ref q])) f1'
                refine ⟨_, f1', szl (by rw [List.length_map]; omega), rs ++ [q], by rw [upd_same, List.map_append]; rfl, by rw [List.length_append, e2]; rfl, fun x hx => ?_, D9.mono (by omega), fun z => f2' ((v9 L4).mp z)⟩
                rcases List.mem_append.mp hx with qq | qq
                · obtain ⟨kvs, v, g1, g2, g3⟩ := old x qq
                  exact ⟨kvs, v, kn2 _ _ g1 rfl, g2, g3⟩
                · rw [List.mem_singleton] at qq
                  subst qq
                  exact ⟨_, .int d, kn2 _ _ aq rfl, valV_pos rfl, Nat.le_refl _⟩
              · obtain ⟨rs, e1, e2, e3, e4, e5⟩ := hp
                have lrs : (rs.map V.ref).length = 16 := by rw [List.length_map]; exact e2
                refine ⟨_, rfl, L4, _, rfl, e1, lrs, fun M1 es1 G1 s1 m1 hM1 l1 d1 => ⟨_, rfl, L4, _, rfl, s1 _ _ e1, lrs, fun M2 es2 G2 s2 m2 hM2 l2 d2 => ⟨sz (by show 2 ≤ 100000; omega), fun p mp => ?_⟩⟩⟩
                obtain ⟨G, eG, S, np, n1, n2, R⟩ := Pr.make e1 lrs s1 m1 hM1 l1 d1 s2 m2 hM2 l2 d2 mp
                rw [← eG]
                clear eG s1 m1 hM1 l1 d1 s2 m2 hM2 l2 d2 mp
                have rows : ∀ r ∈ rs, ∃ kvs v, G r = some (.dK kvs) ∧ valV kvs (.inr "a" : Key) = some v ∧ kvs.length ≤ 1 := fun r hr => by
                  obtain ⟨kvs, v, g1, g2, g3⟩ := e3 r hr
                  exact ⟨kvs, v, S _ _ g1, g2, g3⟩
                clear e1 e2 e3 e4 e5 S np n1 n2
                refine ⟨_, rfl, L4, rfl, ⟨_, sq R.hL⟩, for_list (K := K) (a := L4) (xs := rs.map V.ref) (fun i σ H' => (∃ v, σ = [some (.ref a), some (.ref s), some (.ref L), some (.ref L2), some (.ref p), v, some (.ref L3), some (.ref L4), none]) ∧ Pr (Cs T) H' L4 p M1 M2 es1 es2 (rs.map V.ref) ∧
                  (∀ r ∈ rs, ∃ kvs v, H' r = some (.dK kvs) ∧ valV kvs (.inr "a" : Key) = some v ∧ kvs.length ≤ 1 + i))
                  ⟨⟨_, rfl⟩, R, rows⟩ (fun i σ H' _ h => sq h.2.1.hL) (fun i x σ H' hx hp => ?_) (fun σ H' hp => ?_)⟩
                · obtain ⟨⟨v, rfl⟩, R, rows⟩ := hp
                  obtain ⟨r, hr0, rfl⟩ := List.mem_map.mp (List.mem_of_getElem? hx)
                  have hi := (List.getElem?_eq_some_iff.mp hx).1
                  rw [lrs] at hi
                  obtain ⟨kvs, va, g1, g2, g3⟩ := rows r hr0
                  refine ⟨_, rfl, r, va, rfl, g2 ▸ DGet.k (k := Sum.inr "a") g1, sz (by show 1 ≤ 100000; omega), fun q nq => ?_⟩
                  have s1 := same_new (o := .lst [va]) nq
                  have R1 := R.same s1
                  have rows1 : ∀ r ∈ rs, ∃ kvs v, (upd H' q (.lst [va])) r = some (.dK kvs) ∧ valV kvs (.inr "a" : Key) = some v ∧ kvs.length ≤ 1 + i := fun r hr => by
                    obtain ⟨kvs, v, g1, g2, g3⟩ := rows r hr
                    exact ⟨kvs, v, s1 _ _ g1, g2, g3⟩
                  have g1' := s1 _ _ g1
                  generalize upd H' q (.lst [va]) = G1 at s1 R1 rows1 g1' ⊢
                  refine ⟨_, rfl, r, _, rfl, DPut.k (k := Sum.inr "b") g1' (szl (by omega)), ⟨_, rfl⟩, R1.keep (fun b φ hb => ?_) (fun b hb o ho => ?_), fun y hy => ?_⟩
                  · rw [upd_ne (ne_of hb g1' (by intro z; cases z))]
                    exact hb
                  · rw [upd_ne ?_]
                    · exact ho
                    · rcases hb with rfl | rfl | rfl | rfl
                      · exact ne_of R1.hL g1' (by intro z; cases z)
                      · exact ne_of R1.hp g1' (by intro z; cases z)
                      · exact ne_of R1.h1 g1' (by intro z; cases z)
                      · exact ne_of R1.h2 g1' (by intro z; cases z)
                  · obtain ⟨kvs', v', t1, t2, t3⟩ := rows1 y hy
                    by_cases hyr : y = r
                    · subst hyr
                      refine ⟨_, va, upd_same, ?_, ?_⟩
                      · rw [valV_put, if_neg (by intro z; exact absurd (Sum.inr.inj z) (by decide +kernel))]
                        exact g2
                      · have := put_len kvs (.inr "b" : Key) (V.ref q)
                        omega
                    · exact ⟨kvs', v', by rw [upd_ne hyr]; exact t1, t2, by omega⟩
                · obtain ⟨⟨v, rfl⟩, R, rows⟩ := hp
                  have hv : ∀ x ∈ rs.map V.ref, Ok1 H' x := fun x hx => by
                    obtain ⟨r, hr0, rfl⟩ := List.mem_map.mp hx
                    obtain ⟨_, _, g2, _⟩ := rows r hr0
                    exact .dK g2
                  refine ⟨_, rfl, p, _, _, _, rfl, rfl, sq R.hp, at0, _, rfl, M1, L4, es1, _, rfl, R.h1, R.l1, R.hL, R.lv, R.d1, hv, fun G1 S1 => ⟨true, rfl, iteT ?_⟩⟩
                  have R1 := R.same S1
                  exact ⟨_, rfl, p, _, _, _, rfl, rfl, sq R1.hp, at1, _, rfl, M2, L4, es2, _, rfl, R1.h2, R1.l2, R1.hL, R1.lv, R1.d2, fun x h => (hv x h).same S1, fun G2 S2 => k _⟩
--F--
end
end K02

set_option Elab.async false
set_option linter.all false
set_option maxRecDepth 100000
set_option maxHeartbeats 2000000
namespace K02
open PySem PySem.Spec PyProof.Rows L2 Rl Dr Tx Ex Er
--G--
theorem all_mk {l : PySem.W.OpenLaw} {w : World} {K : PySem.W.Frag} {h : Heap} {mg : Str → Option Value} {fa f0 f1 f2 f3 f4 f5 f6 f7 f8 R Ce0 fe0 Ce1 fe1 Ce2 fe2 Ce3 fe3 Ce4 fe4 Ce5 fe5 Ce6 fe6 Ce7 fe7 Ce8 fe8 Ce9 fe9 Ce10 fe10 Ce11 fe11 Ce12 fe12 Ce13 fe13 Ce14 Ce15 Ce16 Ce17 fe17 Ce18 fe18 Ce19 : Addr} (X : K.In h) (G : h.Ns mainGlobals mg) (hfa : mg "law" = some (.ref fa))
    {od0 an0 od1 an1 od2 an2 od3 an3 od4 an4 od5 an5 od6 an6 od7 an7 od8 an8 : Option Addr} {sl0 sl1 sl2 sl3 sl4 sl5 sl6 sl7 sl8 : Array (Option Value)} {oc0 kV0 dc0 pm0 cd0 ct0 oc1 kV1 dc1 pm1 cd1 ct1 oc2 kV2 dc2 pm2 cd2 ct2 oc3 kV3 dc3 pm3 cd3 ct3 oc4 kV4 dc4 pm4 cd4 ct4 oc5 kV5 dc5 pm5 cd5 ct5 oc6 kV6 dc6 pm6 cd6 ct6 oc7 kV7 dc7 pm7 cd7 ct7 oc8 kV8 dc8 pm8 cd8 ct8  : Value}
    {nmR qR : Str} {NR : Addr} {bsR bmR : List Value} {hdR abR : Bool} {snR : List Str} {suR : List Value} {coR : Option Bool} {ddR : Option Addr} {k0R k1R k2R k3R k5R : Option Value} {niR : String}
    {nme0 qe0 : Str} {Ne0 : Addr} {bse0 : List Value} {abe0 : Bool} {sne0 : List Str} {sue0 : List Value} {coe0 : Option Bool} {dde0 : Option Addr} {k0e0 k1e0 k2e0 k3e0 k5e0 : Option Value}
    {ode0 ane0 : Option Addr} {sle0 : Array (Option Value)} {oce0 kVe0 dce0 pme0 cde0 cte0 : Value}
    {nme1 qe1 : Str} {Ne1 : Addr} {bse1 : List Value} {abe1 : Bool} {sne1 : List Str} {sue1 : List Value} {coe1 : Option Bool} {dde1 : Option Addr} {k0e1 k1e1 k2e1 k3e1 k5e1 : Option Value}
    {ode1 ane1 : Option Addr} {sle1 : Array (Option Value)} {oce1 kVe1 dce1 pme1 cde1 cte1 : Value}
    {nme2 qe2 : Str} {Ne2 : Addr} {bse2 : List Value} {abe2 : Bool} {sne2 : List Str} {sue2 : List Value} {coe2 : Option Bool} {dde2 : Option Addr} {k0e2 k1e2 k2e2 k3e2 k5e2 : Option Value}
    {ode2 ane2 : Option Addr} {sle2 : Array (Option Value)} {oce2 kVe2 dce2 pme2 cde2 cte2 : Value}
    {nme3 qe3 : Str} {Ne3 : Addr} {bse3 : List Value} {abe3 : Bool} {sne3 : List Str} {sue3 : List Value} {coe3 : Option Bool} {dde3 : Option Addr} {k0e3 k1e3 k2e3 k3e3 k5e3 : Option Value}
    {ode3 ane3 : Option Addr} {sle3 : Array (Option Value)} {oce3 kVe3 dce3 pme3 cde3 cte3 : Value}
    {nme4 qe4 : Str} {Ne4 : Addr} {bse4 : List Value} {abe4 : Bool} {sne4 : List Str} {sue4 : List Value} {coe4 : Option Bool} {dde4 : Option Addr} {k0e4 k1e4 k2e4 k3e4 k5e4 : Option Value}
    {ode4 ane4 : Option Addr} {sle4 : Array (Option Value)} {oce4 kVe4 dce4 pme4 cde4 cte4 : Value}
    {nme5 qe5 : Str} {Ne5 : Addr} {bse5 : List Value} {abe5 : Bool} {sne5 : List Str} {sue5 : List Value} {coe5 : Option Bool} {dde5 : Option Addr} {k0e5 k1e5 k2e5 k3e5 k5e5 : Option Value}
    {ode5 ane5 : Option Addr} {sle5 : Array (Option Value)} {oce5 kVe5 dce5 pme5 cde5 cte5 : Value}
    {nme6 qe6 : Str} {Ne6 : Addr} {bse6 : List Value} {abe6 : Bool} {sne6 : List Str} {sue6 : List Value} {coe6 : Option Bool} {dde6 : Option Addr} {k0e6 k1e6 k2e6 k3e6 k5e6 : Option Value}
    {ode6 ane6 : Option Addr} {sle6 : Array (Option Value)} {oce6 kVe6 dce6 pme6 cde6 cte6 : Value}
    {nme7 qe7 : Str} {Ne7 : Addr} {bse7 : List Value} {abe7 : Bool} {sne7 : List Str} {sue7 : List Value} {coe7 : Option Bool} {dde7 : Option Addr} {k0e7 k1e7 k2e7 k3e7 k5e7 : Option Value}
    {ode7 ane7 : Option Addr} {sle7 : Array (Option Value)} {oce7 kVe7 dce7 pme7 cde7 cte7 : Value}
    {nme8 qe8 : Str} {Ne8 : Addr} {bse8 : List Value} {abe8 : Bool} {sne8 : List Str} {sue8 : List Value} {coe8 : Option Bool} {dde8 : Option Addr} {k0e8 k1e8 k2e8 k3e8 k5e8 : Option Value}
    {ode8 ane8 : Option Addr} {sle8 : Array (Option Value)} {oce8 kVe8 dce8 pme8 cde8 cte8 : Value}
    {nme9 qe9 : Str} {Ne9 : Addr} {bse9 : List Value} {abe9 : Bool} {sne9 : List Str} {sue9 : List Value} {coe9 : Option Bool} {dde9 : Option Addr} {k0e9 k1e9 k2e9 k3e9 k5e9 : Option Value}
    {ode9 ane9 : Option Addr} {sle9 : Array (Option Value)} {oce9 kVe9 dce9 pme9 cde9 cte9 : Value}
    {nme10 qe10 : Str} {Ne10 : Addr} {bse10 : List Value} {abe10 : Bool} {sne10 : List Str} {sue10 : List Value} {coe10 : Option Bool} {dde10 : Option Addr} {k0e10 k1e10 k2e10 k3e10 k5e10 : Option Value}
    {ode10 ane10 : Option Addr} {sle10 : Array (Option Value)} {oce10 kVe10 dce10 pme10 cde10 cte10 : Value}
    {nme11 qe11 : Str} {Ne11 : Addr} {bse11 : List Value} {abe11 : Bool} {sne11 : List Str} {sue11 : List Value} {coe11 : Option Bool} {dde11 : Option Addr} {k0e11 k1e11 k2e11 k3e11 k5e11 : Option Value}
    {ode11 ane11 : Option Addr} {sle11 : Array (Option Value)} {oce11 kVe11 dce11 pme11 cde11 cte11 : Value}
    {nme12 qe12 : Str} {Ne12 : Addr} {bse12 : List Value} {abe12 : Bool} {sne12 : List Str} {sue12 : List Value} {coe12 : Option Bool} {dde12 : Option Addr} {k0e12 k1e12 k2e12 k3e12 k5e12 : Option Value}
    {ode12 ane12 : Option Addr} {sle12 : Array (Option Value)} {oce12 kVe12 dce12 pme12 cde12 cte12 : Value}
    {nme13 qe13 : Str} {Ne13 : Addr} {bse13 : List Value} {abe13 : Bool} {sne13 : List Str} {sue13 : List Value} {coe13 : Option Bool} {dde13 : Option Addr} {k0e13 k1e13 k2e13 k3e13 k5e13 : Option Value}
    {ode13 ane13 : Option Addr} {sle13 : Array (Option Value)} {oce13 kVe13 dce13 pme13 cde13 cte13 : Value}
    {nme14 qe14 : Str} {Ne14 : Addr} {bse14 : List Value} {abe14 : Bool} {sne14 : List Str} {sue14 : List Value} {coe14 : Option Bool} {dde14 : Option Addr} {k0e14 k1e14 k2e14 k3e14 k5e14 : Option Value}
    {nme15 qe15 : Str} {Ne15 : Addr} {bse15 : List Value} {abe15 : Bool} {sne15 : List Str} {sue15 : List Value} {coe15 : Option Bool} {dde15 : Option Addr} {k0e15 k1e15 k2e15 k3e15 k5e15 : Option Value}
    {nme16 qe16 : Str} {Ne16 : Addr} {bse16 : List Value} {abe16 : Bool} {sne16 : List Str} {sue16 : List Value} {coe16 : Option Bool} {dde16 : Option Addr} {k0e16 k1e16 k2e16 k3e16 k5e16 : Option Value}
    {nme17 qe17 : Str} {Ne17 : Addr} {bse17 : List Value} {abe17 : Bool} {sne17 : List Str} {sue17 : List Value} {coe17 : Option Bool} {dde17 : Option Addr} {k0e17 k1e17 k2e17 k3e17 k5e17 : Option Value}
    {ode17 ane17 : Option Addr} {sle17 : Array (Option Value)} {oce17 kVe17 dce17 pme17 cde17 cte17 : Value}
    {nme18 qe18 : Str} {Ne18 : Addr} {bse18 : List Value} {abe18 : Bool} {sne18 : List Str} {sue18 : List Value} {coe18 : Option Bool} {dde18 : Option Addr} {k0e18 k1e18 k2e18 k3e18 k5e18 : Option Value}
    {ode18 ane18 : Option Addr} {sle18 : Array (Option Value)} {oce18 kVe18 dce18 pme18 cde18 cte18 : Value}
    {nme19 qe19 : Str} {Ne19 : Addr} {bse19 : List Value} {abe19 : Bool} {sne19 : List Str} {sue19 : List Value} {coe19 : Option Bool} {dde19 : Option Addr} {k0e19 k1e19 k2e19 k3e19 k5e19 : Option Value}
    (a0 : PySem.W.nsIn K mainGlobals "_law_start" = some (some (.ref f0))) (l0 : K.lookup f0 = some ⟨oc0, od0, .func (PySem.W.fnOf "_law_start" "_law_start" (defArgs s_l_start) (defBody s_l_start) (defScope s_l_start) .none kV0 dc0 pm0 an0 cd0 ct0), sl0⟩) (c0 : PySem.W.codeIn K cd0 "_law_start" = true) (k0 : PySem.W.keepIn K (.ref f0) = true)
    (a1 : PySem.W.nsIn K mainGlobals "_law_draw" = some (some (.ref f1))) (l1 : K.lookup f1 = some ⟨oc1, od1, .func (PySem.W.fnOf "_law_draw" "_law_draw" (defArgs s_l_draw) (defBody s_l_draw) (defScope s_l_draw) .none kV1 dc1 pm1 an1 cd1 ct1), sl1⟩) (c1 : PySem.W.codeIn K cd1 "_law_draw" = true) (k1 : PySem.W.keepIn K (.ref f1) = true)
    (a2 : PySem.W.nsIn K mainGlobals "_law_signs" = some (some (.ref f2))) (l2 : K.lookup f2 = some ⟨oc2, od2, .func (PySem.W.fnOf "_law_signs" "_law_signs" (defArgs s_l_signs) (defBody s_l_signs) (defScope s_l_signs) .none kV2 dc2 pm2 an2 cd2 ct2), sl2⟩) (c2 : PySem.W.codeIn K cd2 "_law_signs" = true) (k2 : PySem.W.keepIn K (.ref f2) = true)
    (a3 : PySem.W.nsIn K mainGlobals "_law_sorts" = some (some (.ref f3))) (l3 : K.lookup f3 = some ⟨oc3, od3, .func (PySem.W.fnOf "_law_sorts" "_law_sorts" (defArgs s_l_sorts) (defBody s_l_sorts) (defScope s_l_sorts) .none kV3 dc3 pm3 an3 cd3 ct3), sl3⟩) (c3 : PySem.W.codeIn K cd3 "_law_sorts" = true) (k3 : PySem.W.keepIn K (.ref f3) = true)
    (a4 : PySem.W.nsIn K mainGlobals "_law_thing" = some (some (.ref f4))) (l4 : K.lookup f4 = some ⟨oc4, od4, .func (PySem.W.fnOf "_law_thing" "_law_thing" (defArgs s_l_thing) (defBody s_l_thing) (defScope s_l_thing) .none kV4 dc4 pm4 an4 cd4 ct4), sl4⟩) (c4 : PySem.W.codeIn K cd4 "_law_thing" = true) (k4 : PySem.W.keepIn K (.ref f4) = true)
    (a5 : PySem.W.nsIn K mainGlobals "_law_all" = some (some (.ref f5))) (l5 : K.lookup f5 = some ⟨oc5, od5, .func (PySem.W.fnOf "_law_all" "_law_all" (defArgs s_l_all) (defBody s_l_all) (defScope s_l_all) .none kV5 dc5 pm5 an5 cd5 ct5), sl5⟩) (c5 : PySem.W.codeIn K cd5 "_law_all" = true) (k5 : PySem.W.keepIn K (.ref f5) = true)
    (a6 : PySem.W.nsIn K mainGlobals "_law_named" = some (some (.ref f6))) (l6 : K.lookup f6 = some ⟨oc6, od6, .func (PySem.W.fnOf "_law_named" "_law_named" (defArgs s_l_named) (defBody s_l_named) (defScope s_l_named) .none kV6 dc6 pm6 an6 cd6 ct6), sl6⟩) (c6 : PySem.W.codeIn K cd6 "_law_named" = true) (k6 : PySem.W.keepIn K (.ref f6) = true)
    (a7 : PySem.W.nsIn K mainGlobals "_law_keeps" = some (some (.ref f7))) (l7 : K.lookup f7 = some ⟨oc7, od7, .func (PySem.W.fnOf "_law_keeps" "_law_keeps" (defArgs s_l_keeps) (defBody s_l_keeps) (defScope s_l_keeps) .none kV7 dc7 pm7 an7 cd7 ct7), sl7⟩) (c7 : PySem.W.codeIn K cd7 "_law_keeps" = true) (k7 : PySem.W.keepIn K (.ref f7) = true)
    (a8 : PySem.W.nsIn K mainGlobals "law" = some (some (.ref f8))) (l8 : K.lookup f8 = some ⟨oc8, od8, .func (PySem.W.fnOf "law" "law" (defArgs s_law) (defBody s_law) (defScope s_law) .none kV8 dc8 pm8 an8 cd8 ct8), sl8⟩) (c8 : PySem.W.codeIn K cd8 "law" = true) (k8 : PySem.W.keepIn K (.ref f8) = true)
    (z_ValueError : PySem.W.nsIn K mainGlobals "ValueError" = some none)
    (z_abs : PySem.W.nsIn K mainGlobals "abs" = some none)
    (z_bool : PySem.W.nsIn K mainGlobals "bool" = some none)
    (z_int : PySem.W.nsIn K mainGlobals "int" = some none)
    (z_isinstance : PySem.W.nsIn K mainGlobals "isinstance" = some none)
    (z_len : PySem.W.nsIn K mainGlobals "len" = some none)
    (z_list : PySem.W.nsIn K mainGlobals "list" = some none)
    (z_range : PySem.W.nsIn K mainGlobals "range" = some none)
    (aR : PySem.W.nsIn K mainGlobals "RestError" = some (some (.ref R))) (lR : K.lookup R = some (excClassObj nmR qR R NR bsR bmR hdR snR suR abR coR ddR k0R k1R k2R k3R k5R niR)) (tR : PySem.W.typeIn K (.ref R) = some (.type "type"))
    (on : PySem.W.specialIn K (.builtin "object.__class__") "__get__" = some (some (.builtin "getset_descriptor.__get__"))) (ot : PySem.W.takesIn K (.builtin "object.__class__") = some true)
    (ae0 : PySem.W.nsIn K mainGlobals "BadName" = some (some (.ref Ce0))) (le0 : K.lookup Ce0 = some (excClassObj nme0 qe0 Ce0 Ne0 bse0 (.ref R :: PySem.HandSPX.veTail) true sne0 sue0 abe0 coe0 dde0 k0e0 k1e0 k2e0 k3e0 k5e0 "ValueError.__new__")) (ke0 : PySem.W.keepIn K (.ref Ce0) = true) (sae0 : PySem.W.findIn K (.ref Ce0) "__setattr__" = some (some (.builtin "object.__setattr__"))) (gae0 : PySem.W.findIn K (.ref Ce0) "__getattribute__" = some (some (.builtin "BaseException.__getattribute__"))) (gge0 : PySem.W.findIn K (.ref Ce0) "__getattr__" = some none) (exe0 : PySem.W.subIn K (.ref Ce0) (.type "BaseException") = some true) (tye0 : PySem.W.typeIn K (.ref Ce0) = some (.type "type")) (hde0 : PySem.W.hasDictIn K Ce0 = true) (hae0 : PySem.W.findIn K (.ref Ce0) "__class__" = some (some (.builtin "object.__class__"))) (hme0 : PySem.W.mroIn K Ce0 (.type "object") = some true)
    (ie0 : PySem.W.findIn K (.ref Ce0) "__init__" = some (some (.ref fe0))) (tie0 : PySem.W.typeIn K (.ref fe0) = some (.type "function")) (lie0 : K.lookup fe0 = some ⟨oce0, ode0, .func (PySem.W.fnOf "__init__" "BadName.__init__" (defArgs s_BadName___init__) (defBody s_BadName___init__) (defScope s_BadName___init__) .none kVe0 dce0 pme0 ane0 cde0 cte0), sle0⟩) (cie0 : PySem.W.codeIn K cde0 "BadName.__init__" = true) (kie0 : PySem.W.keepIn K (.ref fe0) = true) (noe0 : PySem.W.findIn K (.ref Ce0) "name" = some none)
    (ae1 : PySem.W.nsIn K mainGlobals "UnknownName" = some (some (.ref Ce1))) (le1 : K.lookup Ce1 = some (excClassObj nme1 qe1 Ce1 Ne1 bse1 (.ref R :: PySem.HandSPX.veTail) true sne1 sue1 abe1 coe1 dde1 k0e1 k1e1 k2e1 k3e1 k5e1 "ValueError.__new__")) (ke1 : PySem.W.keepIn K (.ref Ce1) = true) (sae1 : PySem.W.findIn K (.ref Ce1) "__setattr__" = some (some (.builtin "object.__setattr__"))) (gae1 : PySem.W.findIn K (.ref Ce1) "__getattribute__" = some (some (.builtin "BaseException.__getattribute__"))) (gge1 : PySem.W.findIn K (.ref Ce1) "__getattr__" = some none) (exe1 : PySem.W.subIn K (.ref Ce1) (.type "BaseException") = some true) (tye1 : PySem.W.typeIn K (.ref Ce1) = some (.type "type")) (hde1 : PySem.W.hasDictIn K Ce1 = true) (hae1 : PySem.W.findIn K (.ref Ce1) "__class__" = some (some (.builtin "object.__class__"))) (hme1 : PySem.W.mroIn K Ce1 (.type "object") = some true)
    (ie1 : PySem.W.findIn K (.ref Ce1) "__init__" = some (some (.ref fe1))) (tie1 : PySem.W.typeIn K (.ref fe1) = some (.type "function")) (lie1 : K.lookup fe1 = some ⟨oce1, ode1, .func (PySem.W.fnOf "__init__" "UnknownName.__init__" (defArgs s_UnknownName___init__) (defBody s_UnknownName___init__) (defScope s_UnknownName___init__) .none kVe1 dce1 pme1 ane1 cde1 cte1), sle1⟩) (cie1 : PySem.W.codeIn K cde1 "UnknownName.__init__" = true) (kie1 : PySem.W.keepIn K (.ref fe1) = true) (noe1 : PySem.W.findIn K (.ref Ce1) "name" = some none)
    (ae2 : PySem.W.nsIn K mainGlobals "BadCount" = some (some (.ref Ce2))) (le2 : K.lookup Ce2 = some (excClassObj nme2 qe2 Ce2 Ne2 bse2 (.ref R :: PySem.HandSPX.veTail) true sne2 sue2 abe2 coe2 dde2 k0e2 k1e2 k2e2 k3e2 k5e2 "ValueError.__new__")) (ke2 : PySem.W.keepIn K (.ref Ce2) = true) (sae2 : PySem.W.findIn K (.ref Ce2) "__setattr__" = some (some (.builtin "object.__setattr__"))) (gae2 : PySem.W.findIn K (.ref Ce2) "__getattribute__" = some (some (.builtin "BaseException.__getattribute__"))) (gge2 : PySem.W.findIn K (.ref Ce2) "__getattr__" = some none) (exe2 : PySem.W.subIn K (.ref Ce2) (.type "BaseException") = some true) (tye2 : PySem.W.typeIn K (.ref Ce2) = some (.type "type")) (hde2 : PySem.W.hasDictIn K Ce2 = true) (hae2 : PySem.W.findIn K (.ref Ce2) "__class__" = some (some (.builtin "object.__class__"))) (hme2 : PySem.W.mroIn K Ce2 (.type "object") = some true)
    (ie2 : PySem.W.findIn K (.ref Ce2) "__init__" = some (some (.ref fe2))) (tie2 : PySem.W.typeIn K (.ref fe2) = some (.type "function")) (lie2 : K.lookup fe2 = some ⟨oce2, ode2, .func (PySem.W.fnOf "__init__" "BadCount.__init__" (defArgs s_BadCount___init__) (defBody s_BadCount___init__) (defScope s_BadCount___init__) .none kVe2 dce2 pme2 ane2 cde2 cte2), sle2⟩) (cie2 : PySem.W.codeIn K cde2 "BadCount.__init__" = true) (kie2 : PySem.W.keepIn K (.ref fe2) = true) (noe2 : PySem.W.findIn K (.ref Ce2) "count" = some none)
    (ae3 : PySem.W.nsIn K mainGlobals "BadTop" = some (some (.ref Ce3))) (le3 : K.lookup Ce3 = some (excClassObj nme3 qe3 Ce3 Ne3 bse3 (.ref R :: PySem.HandSPX.veTail) true sne3 sue3 abe3 coe3 dde3 k0e3 k1e3 k2e3 k3e3 k5e3 "ValueError.__new__")) (ke3 : PySem.W.keepIn K (.ref Ce3) = true) (sae3 : PySem.W.findIn K (.ref Ce3) "__setattr__" = some (some (.builtin "object.__setattr__"))) (gae3 : PySem.W.findIn K (.ref Ce3) "__getattribute__" = some (some (.builtin "BaseException.__getattribute__"))) (gge3 : PySem.W.findIn K (.ref Ce3) "__getattr__" = some none) (exe3 : PySem.W.subIn K (.ref Ce3) (.type "BaseException") = some true) (tye3 : PySem.W.typeIn K (.ref Ce3) = some (.type "type")) (hde3 : PySem.W.hasDictIn K Ce3 = true) (hae3 : PySem.W.findIn K (.ref Ce3) "__class__" = some (some (.builtin "object.__class__"))) (hme3 : PySem.W.mroIn K Ce3 (.type "object") = some true)
    (ie3 : PySem.W.findIn K (.ref Ce3) "__init__" = some (some (.ref fe3))) (tie3 : PySem.W.typeIn K (.ref fe3) = some (.type "function")) (lie3 : K.lookup fe3 = some ⟨oce3, ode3, .func (PySem.W.fnOf "__init__" "BadTop.__init__" (defArgs s_BadTop___init__) (defBody s_BadTop___init__) (defScope s_BadTop___init__) .none kVe3 dce3 pme3 ane3 cde3 cte3), sle3⟩) (cie3 : PySem.W.codeIn K cde3 "BadTop.__init__" = true) (kie3 : PySem.W.keepIn K (.ref fe3) = true) (noe3 : PySem.W.findIn K (.ref Ce3) "value" = some none)
    (ae4 : PySem.W.nsIn K mainGlobals "BadArrow" = some (some (.ref Ce4))) (le4 : K.lookup Ce4 = some (excClassObj nme4 qe4 Ce4 Ne4 bse4 (.ref R :: PySem.HandSPX.veTail) true sne4 sue4 abe4 coe4 dde4 k0e4 k1e4 k2e4 k3e4 k5e4 "ValueError.__new__")) (ke4 : PySem.W.keepIn K (.ref Ce4) = true) (sae4 : PySem.W.findIn K (.ref Ce4) "__setattr__" = some (some (.builtin "object.__setattr__"))) (gae4 : PySem.W.findIn K (.ref Ce4) "__getattribute__" = some (some (.builtin "BaseException.__getattribute__"))) (gge4 : PySem.W.findIn K (.ref Ce4) "__getattr__" = some none) (exe4 : PySem.W.subIn K (.ref Ce4) (.type "BaseException") = some true) (tye4 : PySem.W.typeIn K (.ref Ce4) = some (.type "type")) (hde4 : PySem.W.hasDictIn K Ce4 = true) (hae4 : PySem.W.findIn K (.ref Ce4) "__class__" = some (some (.builtin "object.__class__"))) (hme4 : PySem.W.mroIn K Ce4 (.type "object") = some true)
    (ie4 : PySem.W.findIn K (.ref Ce4) "__init__" = some (some (.ref fe4))) (tie4 : PySem.W.typeIn K (.ref fe4) = some (.type "function")) (lie4 : K.lookup fe4 = some ⟨oce4, ode4, .func (PySem.W.fnOf "__init__" "BadArrow.__init__" (defArgs s_BadArrow___init__) (defBody s_BadArrow___init__) (defScope s_BadArrow___init__) .none kVe4 dce4 pme4 ane4 cde4 cte4), sle4⟩) (cie4 : PySem.W.codeIn K cde4 "BadArrow.__init__" = true) (kie4 : PySem.W.keepIn K (.ref fe4) = true) (noe4 : PySem.W.findIn K (.ref Ce4) "value" = some none)
    (ae5 : PySem.W.nsIn K mainGlobals "BadText" = some (some (.ref Ce5))) (le5 : K.lookup Ce5 = some (excClassObj nme5 qe5 Ce5 Ne5 bse5 (.ref R :: PySem.HandSPX.veTail) true sne5 sue5 abe5 coe5 dde5 k0e5 k1e5 k2e5 k3e5 k5e5 "ValueError.__new__")) (ke5 : PySem.W.keepIn K (.ref Ce5) = true) (sae5 : PySem.W.findIn K (.ref Ce5) "__setattr__" = some (some (.builtin "object.__setattr__"))) (gae5 : PySem.W.findIn K (.ref Ce5) "__getattribute__" = some (some (.builtin "BaseException.__getattribute__"))) (gge5 : PySem.W.findIn K (.ref Ce5) "__getattr__" = some none) (exe5 : PySem.W.subIn K (.ref Ce5) (.type "BaseException") = some true) (tye5 : PySem.W.typeIn K (.ref Ce5) = some (.type "type")) (hde5 : PySem.W.hasDictIn K Ce5 = true) (hae5 : PySem.W.findIn K (.ref Ce5) "__class__" = some (some (.builtin "object.__class__"))) (hme5 : PySem.W.mroIn K Ce5 (.type "object") = some true)
    (ie5 : PySem.W.findIn K (.ref Ce5) "__init__" = some (some (.ref fe5))) (tie5 : PySem.W.typeIn K (.ref fe5) = some (.type "function")) (lie5 : K.lookup fe5 = some ⟨oce5, ode5, .func (PySem.W.fnOf "__init__" "BadText.__init__" (defArgs s_BadText___init__) (defBody s_BadText___init__) (defScope s_BadText___init__) .none kVe5 dce5 pme5 ane5 cde5 cte5), sle5⟩) (cie5 : PySem.W.codeIn K cde5 "BadText.__init__" = true) (kie5 : PySem.W.keepIn K (.ref fe5) = true) (noe5 : PySem.W.findIn K (.ref Ce5) "text" = some none)
    (ae6 : PySem.W.nsIn K mainGlobals "BadState" = some (some (.ref Ce6))) (le6 : K.lookup Ce6 = some (excClassObj nme6 qe6 Ce6 Ne6 bse6 (.ref R :: PySem.HandSPX.veTail) true sne6 sue6 abe6 coe6 dde6 k0e6 k1e6 k2e6 k3e6 k5e6 "ValueError.__new__")) (ke6 : PySem.W.keepIn K (.ref Ce6) = true) (sae6 : PySem.W.findIn K (.ref Ce6) "__setattr__" = some (some (.builtin "object.__setattr__"))) (gae6 : PySem.W.findIn K (.ref Ce6) "__getattribute__" = some (some (.builtin "BaseException.__getattribute__"))) (gge6 : PySem.W.findIn K (.ref Ce6) "__getattr__" = some none) (exe6 : PySem.W.subIn K (.ref Ce6) (.type "BaseException") = some true) (tye6 : PySem.W.typeIn K (.ref Ce6) = some (.type "type")) (hde6 : PySem.W.hasDictIn K Ce6 = true) (hae6 : PySem.W.findIn K (.ref Ce6) "__class__" = some (some (.builtin "object.__class__"))) (hme6 : PySem.W.mroIn K Ce6 (.type "object") = some true)
    (ie6 : PySem.W.findIn K (.ref Ce6) "__init__" = some (some (.ref fe6))) (tie6 : PySem.W.typeIn K (.ref fe6) = some (.type "function")) (lie6 : K.lookup fe6 = some ⟨oce6, ode6, .func (PySem.W.fnOf "__init__" "BadState.__init__" (defArgs s_BadState___init__) (defBody s_BadState___init__) (defScope s_BadState___init__) .none kVe6 dce6 pme6 ane6 cde6 cte6), sle6⟩) (cie6 : PySem.W.codeIn K cde6 "BadState.__init__" = true) (kie6 : PySem.W.keepIn K (.ref fe6) = true) (noe6 : PySem.W.findIn K (.ref Ce6) "value" = some none)
    (ae7 : PySem.W.nsIn K mainGlobals "BadTable" = some (some (.ref Ce7))) (le7 : K.lookup Ce7 = some (excClassObj nme7 qe7 Ce7 Ne7 bse7 (.ref R :: PySem.HandSPX.veTail) true sne7 sue7 abe7 coe7 dde7 k0e7 k1e7 k2e7 k3e7 k5e7 "ValueError.__new__")) (ke7 : PySem.W.keepIn K (.ref Ce7) = true) (sae7 : PySem.W.findIn K (.ref Ce7) "__setattr__" = some (some (.builtin "object.__setattr__"))) (gae7 : PySem.W.findIn K (.ref Ce7) "__getattribute__" = some (some (.builtin "BaseException.__getattribute__"))) (gge7 : PySem.W.findIn K (.ref Ce7) "__getattr__" = some none) (exe7 : PySem.W.subIn K (.ref Ce7) (.type "BaseException") = some true) (tye7 : PySem.W.typeIn K (.ref Ce7) = some (.type "type")) (hde7 : PySem.W.hasDictIn K Ce7 = true) (hae7 : PySem.W.findIn K (.ref Ce7) "__class__" = some (some (.builtin "object.__class__"))) (hme7 : PySem.W.mroIn K Ce7 (.type "object") = some true)
    (ie7 : PySem.W.findIn K (.ref Ce7) "__init__" = some (some (.ref fe7))) (tie7 : PySem.W.typeIn K (.ref fe7) = some (.type "function")) (lie7 : K.lookup fe7 = some ⟨oce7, ode7, .func (PySem.W.fnOf "__init__" "BadTable.__init__" (defArgs s_BadTable___init__) (defBody s_BadTable___init__) (defScope s_BadTable___init__) .none kVe7 dce7 pme7 ane7 cde7 cte7), sle7⟩) (cie7 : PySem.W.codeIn K cde7 "BadTable.__init__" = true) (kie7 : PySem.W.keepIn K (.ref fe7) = true) (noe7 : PySem.W.findIn K (.ref Ce7) "name" = some none)
    (ae8 : PySem.W.nsIn K mainGlobals "BadRing" = some (some (.ref Ce8))) (le8 : K.lookup Ce8 = some (excClassObj nme8 qe8 Ce8 Ne8 bse8 (.ref R :: PySem.HandSPX.veTail) true sne8 sue8 abe8 coe8 dde8 k0e8 k1e8 k2e8 k3e8 k5e8 "ValueError.__new__")) (ke8 : PySem.W.keepIn K (.ref Ce8) = true) (sae8 : PySem.W.findIn K (.ref Ce8) "__setattr__" = some (some (.builtin "object.__setattr__"))) (gae8 : PySem.W.findIn K (.ref Ce8) "__getattribute__" = some (some (.builtin "BaseException.__getattribute__"))) (gge8 : PySem.W.findIn K (.ref Ce8) "__getattr__" = some none) (exe8 : PySem.W.subIn K (.ref Ce8) (.type "BaseException") = some true) (tye8 : PySem.W.typeIn K (.ref Ce8) = some (.type "type")) (hde8 : PySem.W.hasDictIn K Ce8 = true) (hae8 : PySem.W.findIn K (.ref Ce8) "__class__" = some (some (.builtin "object.__class__"))) (hme8 : PySem.W.mroIn K Ce8 (.type "object") = some true)
    (ie8 : PySem.W.findIn K (.ref Ce8) "__init__" = some (some (.ref fe8))) (tie8 : PySem.W.typeIn K (.ref fe8) = some (.type "function")) (lie8 : K.lookup fe8 = some ⟨oce8, ode8, .func (PySem.W.fnOf "__init__" "BadRing.__init__" (defArgs s_BadRing___init__) (defBody s_BadRing___init__) (defScope s_BadRing___init__) .none kVe8 dce8 pme8 ane8 cde8 cte8), sle8⟩) (cie8 : PySem.W.codeIn K cde8 "BadRing.__init__" = true) (kie8 : PySem.W.keepIn K (.ref fe8) = true) (noe8 : PySem.W.findIn K (.ref Ce8) "value" = some none)
    (ae9 : PySem.W.nsIn K mainGlobals "BadSet" = some (some (.ref Ce9))) (le9 : K.lookup Ce9 = some (excClassObj nme9 qe9 Ce9 Ne9 bse9 (.ref R :: PySem.HandSPX.veTail) true sne9 sue9 abe9 coe9 dde9 k0e9 k1e9 k2e9 k3e9 k5e9 "ValueError.__new__")) (ke9 : PySem.W.keepIn K (.ref Ce9) = true) (sae9 : PySem.W.findIn K (.ref Ce9) "__setattr__" = some (some (.builtin "object.__setattr__"))) (gae9 : PySem.W.findIn K (.ref Ce9) "__getattribute__" = some (some (.builtin "BaseException.__getattribute__"))) (gge9 : PySem.W.findIn K (.ref Ce9) "__getattr__" = some none) (exe9 : PySem.W.subIn K (.ref Ce9) (.type "BaseException") = some true) (tye9 : PySem.W.typeIn K (.ref Ce9) = some (.type "type")) (hde9 : PySem.W.hasDictIn K Ce9 = true) (hae9 : PySem.W.findIn K (.ref Ce9) "__class__" = some (some (.builtin "object.__class__"))) (hme9 : PySem.W.mroIn K Ce9 (.type "object") = some true)
    (ie9 : PySem.W.findIn K (.ref Ce9) "__init__" = some (some (.ref fe9))) (tie9 : PySem.W.typeIn K (.ref fe9) = some (.type "function")) (lie9 : K.lookup fe9 = some ⟨oce9, ode9, .func (PySem.W.fnOf "__init__" "BadSet.__init__" (defArgs s_BadSet___init__) (defBody s_BadSet___init__) (defScope s_BadSet___init__) .none kVe9 dce9 pme9 ane9 cde9 cte9), sle9⟩) (cie9 : PySem.W.codeIn K cde9 "BadSet.__init__" = true) (kie9 : PySem.W.keepIn K (.ref fe9) = true) (noe9 : PySem.W.findIn K (.ref Ce9) "value" = some none)
    (ae10 : PySem.W.nsIn K mainGlobals "BadFact" = some (some (.ref Ce10))) (le10 : K.lookup Ce10 = some (excClassObj nme10 qe10 Ce10 Ne10 bse10 (.ref R :: PySem.HandSPX.veTail) true sne10 sue10 abe10 coe10 dde10 k0e10 k1e10 k2e10 k3e10 k5e10 "ValueError.__new__")) (ke10 : PySem.W.keepIn K (.ref Ce10) = true) (sae10 : PySem.W.findIn K (.ref Ce10) "__setattr__" = some (some (.builtin "object.__setattr__"))) (gae10 : PySem.W.findIn K (.ref Ce10) "__getattribute__" = some (some (.builtin "BaseException.__getattribute__"))) (gge10 : PySem.W.findIn K (.ref Ce10) "__getattr__" = some none) (exe10 : PySem.W.subIn K (.ref Ce10) (.type "BaseException") = some true) (tye10 : PySem.W.typeIn K (.ref Ce10) = some (.type "type")) (hde10 : PySem.W.hasDictIn K Ce10 = true) (hae10 : PySem.W.findIn K (.ref Ce10) "__class__" = some (some (.builtin "object.__class__"))) (hme10 : PySem.W.mroIn K Ce10 (.type "object") = some true)
    (ie10 : PySem.W.findIn K (.ref Ce10) "__init__" = some (some (.ref fe10))) (tie10 : PySem.W.typeIn K (.ref fe10) = some (.type "function")) (lie10 : K.lookup fe10 = some ⟨oce10, ode10, .func (PySem.W.fnOf "__init__" "BadFact.__init__" (defArgs s_BadFact___init__) (defBody s_BadFact___init__) (defScope s_BadFact___init__) .none kVe10 dce10 pme10 ane10 cde10 cte10), sle10⟩) (cie10 : PySem.W.codeIn K cde10 "BadFact.__init__" = true) (kie10 : PySem.W.keepIn K (.ref fe10) = true) (noe10 : PySem.W.findIn K (.ref Ce10) "value" = some none)
    (ae11 : PySem.W.nsIn K mainGlobals "BadNumber" = some (some (.ref Ce11))) (le11 : K.lookup Ce11 = some (excClassObj nme11 qe11 Ce11 Ne11 bse11 (.ref R :: PySem.HandSPX.veTail) true sne11 sue11 abe11 coe11 dde11 k0e11 k1e11 k2e11 k3e11 k5e11 "ValueError.__new__")) (ke11 : PySem.W.keepIn K (.ref Ce11) = true) (sae11 : PySem.W.findIn K (.ref Ce11) "__setattr__" = some (some (.builtin "object.__setattr__"))) (gae11 : PySem.W.findIn K (.ref Ce11) "__getattribute__" = some (some (.builtin "BaseException.__getattribute__"))) (gge11 : PySem.W.findIn K (.ref Ce11) "__getattr__" = some none) (exe11 : PySem.W.subIn K (.ref Ce11) (.type "BaseException") = some true) (tye11 : PySem.W.typeIn K (.ref Ce11) = some (.type "type")) (hde11 : PySem.W.hasDictIn K Ce11 = true) (hae11 : PySem.W.findIn K (.ref Ce11) "__class__" = some (some (.builtin "object.__class__"))) (hme11 : PySem.W.mroIn K Ce11 (.type "object") = some true)
    (ie11 : PySem.W.findIn K (.ref Ce11) "__init__" = some (some (.ref fe11))) (tie11 : PySem.W.typeIn K (.ref fe11) = some (.type "function")) (lie11 : K.lookup fe11 = some ⟨oce11, ode11, .func (PySem.W.fnOf "__init__" "BadNumber.__init__" (defArgs s_BadNumber___init__) (defBody s_BadNumber___init__) (defScope s_BadNumber___init__) .none kVe11 dce11 pme11 ane11 cde11 cte11), sle11⟩) (cie11 : PySem.W.codeIn K cde11 "BadNumber.__init__" = true) (kie11 : PySem.W.keepIn K (.ref fe11) = true) (noe11 : PySem.W.findIn K (.ref Ce11) "value" = some none)
    (ae12 : PySem.W.nsIn K mainGlobals "HasRing" = some (some (.ref Ce12))) (le12 : K.lookup Ce12 = some (excClassObj nme12 qe12 Ce12 Ne12 bse12 (.ref R :: PySem.HandSPX.veTail) true sne12 sue12 abe12 coe12 dde12 k0e12 k1e12 k2e12 k3e12 k5e12 "ValueError.__new__")) (ke12 : PySem.W.keepIn K (.ref Ce12) = true) (sae12 : PySem.W.findIn K (.ref Ce12) "__setattr__" = some (some (.builtin "object.__setattr__"))) (gae12 : PySem.W.findIn K (.ref Ce12) "__getattribute__" = some (some (.builtin "BaseException.__getattribute__"))) (gge12 : PySem.W.findIn K (.ref Ce12) "__getattr__" = some none) (exe12 : PySem.W.subIn K (.ref Ce12) (.type "BaseException") = some true) (tye12 : PySem.W.typeIn K (.ref Ce12) = some (.type "type")) (hde12 : PySem.W.hasDictIn K Ce12 = true) (hae12 : PySem.W.findIn K (.ref Ce12) "__class__" = some (some (.builtin "object.__class__"))) (hme12 : PySem.W.mroIn K Ce12 (.type "object") = some true)
    (ie12 : PySem.W.findIn K (.ref Ce12) "__init__" = some (some (.ref fe12))) (tie12 : PySem.W.typeIn K (.ref fe12) = some (.type "function")) (lie12 : K.lookup fe12 = some ⟨oce12, ode12, .func (PySem.W.fnOf "__init__" "HasRing.__init__" (defArgs s_HasRing___init__) (defBody s_HasRing___init__) (defScope s_HasRing___init__) .none kVe12 dce12 pme12 ane12 cde12 cte12), sle12⟩) (cie12 : PySem.W.codeIn K cde12 "HasRing.__init__" = true) (kie12 : PySem.W.keepIn K (.ref fe12) = true) (noe12 : PySem.W.findIn K (.ref Ce12) "value" = some none)
    (ae13 : PySem.W.nsIn K mainGlobals "HasOdd" = some (some (.ref Ce13))) (le13 : K.lookup Ce13 = some (excClassObj nme13 qe13 Ce13 Ne13 bse13 (.ref R :: PySem.HandSPX.veTail) true sne13 sue13 abe13 coe13 dde13 k0e13 k1e13 k2e13 k3e13 k5e13 "ValueError.__new__")) (ke13 : PySem.W.keepIn K (.ref Ce13) = true) (sae13 : PySem.W.findIn K (.ref Ce13) "__setattr__" = some (some (.builtin "object.__setattr__"))) (gae13 : PySem.W.findIn K (.ref Ce13) "__getattribute__" = some (some (.builtin "BaseException.__getattribute__"))) (gge13 : PySem.W.findIn K (.ref Ce13) "__getattr__" = some none) (exe13 : PySem.W.subIn K (.ref Ce13) (.type "BaseException") = some true) (tye13 : PySem.W.typeIn K (.ref Ce13) = some (.type "type")) (hde13 : PySem.W.hasDictIn K Ce13 = true) (hae13 : PySem.W.findIn K (.ref Ce13) "__class__" = some (some (.builtin "object.__class__"))) (hme13 : PySem.W.mroIn K Ce13 (.type "object") = some true)
    (ie13 : PySem.W.findIn K (.ref Ce13) "__init__" = some (some (.ref fe13))) (tie13 : PySem.W.typeIn K (.ref fe13) = some (.type "function")) (lie13 : K.lookup fe13 = some ⟨oce13, ode13, .func (PySem.W.fnOf "__init__" "HasOdd.__init__" (defArgs s_HasOdd___init__) (defBody s_HasOdd___init__) (defScope s_HasOdd___init__) .none kVe13 dce13 pme13 ane13 cde13 cte13), sle13⟩) (cie13 : PySem.W.codeIn K cde13 "HasOdd.__init__" = true) (kie13 : PySem.W.keepIn K (.ref fe13) = true) (noe13 : PySem.W.findIn K (.ref Ce13) "value" = some none)
    (ae14 : PySem.W.nsIn K mainGlobals "NoEven" = some (some (.ref Ce14))) (le14 : K.lookup Ce14 = some (excClassObj nme14 qe14 Ce14 Ne14 bse14 (.ref R :: PySem.HandSPX.veTail) true sne14 sue14 abe14 coe14 dde14 k0e14 k1e14 k2e14 k3e14 k5e14 "ValueError.__new__")) (ke14 : PySem.W.keepIn K (.ref Ce14) = true) (sae14 : PySem.W.findIn K (.ref Ce14) "__setattr__" = some (some (.builtin "object.__setattr__"))) (gae14 : PySem.W.findIn K (.ref Ce14) "__getattribute__" = some (some (.builtin "BaseException.__getattribute__"))) (gge14 : PySem.W.findIn K (.ref Ce14) "__getattr__" = some none) (exe14 : PySem.W.subIn K (.ref Ce14) (.type "BaseException") = some true) (tye14 : PySem.W.typeIn K (.ref Ce14) = some (.type "type")) (hde14 : PySem.W.hasDictIn K Ce14 = true) (hae14 : PySem.W.findIn K (.ref Ce14) "__class__" = some (some (.builtin "object.__class__"))) (hme14 : PySem.W.mroIn K Ce14 (.type "object") = some true)
    (qqe14 : PySem.W.excIn K Ce14 PySem.HandSPX.veTail "ValueError.__new__" = true)
    (ae15 : PySem.W.nsIn K mainGlobals "NoOdd" = some (some (.ref Ce15))) (le15 : K.lookup Ce15 = some (excClassObj nme15 qe15 Ce15 Ne15 bse15 (.ref R :: PySem.HandSPX.veTail) true sne15 sue15 abe15 coe15 dde15 k0e15 k1e15 k2e15 k3e15 k5e15 "ValueError.__new__")) (ke15 : PySem.W.keepIn K (.ref Ce15) = true) (sae15 : PySem.W.findIn K (.ref Ce15) "__setattr__" = some (some (.builtin "object.__setattr__"))) (gae15 : PySem.W.findIn K (.ref Ce15) "__getattribute__" = some (some (.builtin "BaseException.__getattribute__"))) (gge15 : PySem.W.findIn K (.ref Ce15) "__getattr__" = some none) (exe15 : PySem.W.subIn K (.ref Ce15) (.type "BaseException") = some true) (tye15 : PySem.W.typeIn K (.ref Ce15) = some (.type "type")) (hde15 : PySem.W.hasDictIn K Ce15 = true) (hae15 : PySem.W.findIn K (.ref Ce15) "__class__" = some (some (.builtin "object.__class__"))) (hme15 : PySem.W.mroIn K Ce15 (.type "object") = some true)
    (qqe15 : PySem.W.excIn K Ce15 PySem.HandSPX.veTail "ValueError.__new__" = true)
    (ae16 : PySem.W.nsIn K mainGlobals "Settles" = some (some (.ref Ce16))) (le16 : K.lookup Ce16 = some (excClassObj nme16 qe16 Ce16 Ne16 bse16 (.ref R :: PySem.HandSPX.veTail) true sne16 sue16 abe16 coe16 dde16 k0e16 k1e16 k2e16 k3e16 k5e16 "ValueError.__new__")) (ke16 : PySem.W.keepIn K (.ref Ce16) = true) (sae16 : PySem.W.findIn K (.ref Ce16) "__setattr__" = some (some (.builtin "object.__setattr__"))) (gae16 : PySem.W.findIn K (.ref Ce16) "__getattribute__" = some (some (.builtin "BaseException.__getattribute__"))) (gge16 : PySem.W.findIn K (.ref Ce16) "__getattr__" = some none) (exe16 : PySem.W.subIn K (.ref Ce16) (.type "BaseException") = some true) (tye16 : PySem.W.typeIn K (.ref Ce16) = some (.type "type")) (hde16 : PySem.W.hasDictIn K Ce16 = true) (hae16 : PySem.W.findIn K (.ref Ce16) "__class__" = some (some (.builtin "object.__class__"))) (hme16 : PySem.W.mroIn K Ce16 (.type "object") = some true)
    (qqe16 : PySem.W.excIn K Ce16 PySem.HandSPX.veTail "ValueError.__new__" = true)
    (ae17 : PySem.W.nsIn K mainGlobals "Clash" = some (some (.ref Ce17))) (le17 : K.lookup Ce17 = some (excClassObj nme17 qe17 Ce17 Ne17 bse17 (.ref R :: PySem.HandSPX.veTail) true sne17 sue17 abe17 coe17 dde17 k0e17 k1e17 k2e17 k3e17 k5e17 "ValueError.__new__")) (ke17 : PySem.W.keepIn K (.ref Ce17) = true) (sae17 : PySem.W.findIn K (.ref Ce17) "__setattr__" = some (some (.builtin "object.__setattr__"))) (gae17 : PySem.W.findIn K (.ref Ce17) "__getattribute__" = some (some (.builtin "BaseException.__getattribute__"))) (gge17 : PySem.W.findIn K (.ref Ce17) "__getattr__" = some none) (exe17 : PySem.W.subIn K (.ref Ce17) (.type "BaseException") = some true) (tye17 : PySem.W.typeIn K (.ref Ce17) = some (.type "type")) (hde17 : PySem.W.hasDictIn K Ce17 = true) (hae17 : PySem.W.findIn K (.ref Ce17) "__class__" = some (some (.builtin "object.__class__"))) (hme17 : PySem.W.mroIn K Ce17 (.type "object") = some true)
    (ie17 : PySem.W.findIn K (.ref Ce17) "__init__" = some (some (.ref fe17))) (tie17 : PySem.W.typeIn K (.ref fe17) = some (.type "function")) (lie17 : K.lookup fe17 = some ⟨oce17, ode17, .func (PySem.W.fnOf "__init__" "Clash.__init__" (defArgs s_Clash___init__) (defBody s_Clash___init__) (defScope s_Clash___init__) .none kVe17 dce17 pme17 ane17 cde17 cte17), sle17⟩) (cie17 : PySem.W.codeIn K cde17 "Clash.__init__" = true) (kie17 : PySem.W.keepIn K (.ref fe17) = true) (noe17 : PySem.W.findIn K (.ref Ce17) "value" = some none)
    (ae18 : PySem.W.nsIn K mainGlobals "UnlikeParts" = some (some (.ref Ce18))) (le18 : K.lookup Ce18 = some (excClassObj nme18 qe18 Ce18 Ne18 bse18 (.ref R :: PySem.HandSPX.veTail) true sne18 sue18 abe18 coe18 dde18 k0e18 k1e18 k2e18 k3e18 k5e18 "ValueError.__new__")) (ke18 : PySem.W.keepIn K (.ref Ce18) = true) (sae18 : PySem.W.findIn K (.ref Ce18) "__setattr__" = some (some (.builtin "object.__setattr__"))) (gae18 : PySem.W.findIn K (.ref Ce18) "__getattribute__" = some (some (.builtin "BaseException.__getattribute__"))) (gge18 : PySem.W.findIn K (.ref Ce18) "__getattr__" = some none) (exe18 : PySem.W.subIn K (.ref Ce18) (.type "BaseException") = some true) (tye18 : PySem.W.typeIn K (.ref Ce18) = some (.type "type")) (hde18 : PySem.W.hasDictIn K Ce18 = true) (hae18 : PySem.W.findIn K (.ref Ce18) "__class__" = some (some (.builtin "object.__class__"))) (hme18 : PySem.W.mroIn K Ce18 (.type "object") = some true)
    (ie18 : PySem.W.findIn K (.ref Ce18) "__init__" = some (some (.ref fe18))) (tie18 : PySem.W.typeIn K (.ref fe18) = some (.type "function")) (lie18 : K.lookup fe18 = some ⟨oce18, ode18, .func (PySem.W.fnOf "__init__" "UnlikeParts.__init__" (defArgs s_UnlikeParts___init__) (defBody s_UnlikeParts___init__) (defScope s_UnlikeParts___init__) .none kVe18 dce18 pme18 ane18 cde18 cte18), sle18⟩) (cie18 : PySem.W.codeIn K cde18 "UnlikeParts.__init__" = true) (kie18 : PySem.W.keepIn K (.ref fe18) = true) (noe18 : PySem.W.findIn K (.ref Ce18) "names" = some none)
    (ae19 : PySem.W.nsIn K mainGlobals "NothingToUndo" = some (some (.ref Ce19))) (le19 : K.lookup Ce19 = some (excClassObj nme19 qe19 Ce19 Ne19 bse19 (.ref R :: PySem.HandSPX.veTail) true sne19 sue19 abe19 coe19 dde19 k0e19 k1e19 k2e19 k3e19 k5e19 "ValueError.__new__")) (ke19 : PySem.W.keepIn K (.ref Ce19) = true) (sae19 : PySem.W.findIn K (.ref Ce19) "__setattr__" = some (some (.builtin "object.__setattr__"))) (gae19 : PySem.W.findIn K (.ref Ce19) "__getattribute__" = some (some (.builtin "BaseException.__getattribute__"))) (gge19 : PySem.W.findIn K (.ref Ce19) "__getattr__" = some none) (exe19 : PySem.W.subIn K (.ref Ce19) (.type "BaseException") = some true) (tye19 : PySem.W.typeIn K (.ref Ce19) = some (.type "type")) (hde19 : PySem.W.hasDictIn K Ce19 = true) (hae19 : PySem.W.findIn K (.ref Ce19) "__class__" = some (some (.builtin "object.__class__"))) (hme19 : PySem.W.mroIn K Ce19 (.type "object") = some true)
    (qqe19 : PySem.W.excIn K Ce19 PySem.HandSPX.veTail "ValueError.__new__" = true)
    (nd : (R :: [Ce0, Ce1, Ce2, Ce3, Ce4, Ce5, Ce6, Ce7, Ce8, Ce9, Ce10, Ce11, Ce12, Ce13, Ce17, Ce18, Ce14, Ce15, Ce16, Ce19]).Nodup) :
    ∃ fd : FuncData, (∀ (s : Shared) (v : Value), BindsTo s fd ⟨[v], []⟩ [("_law_script", v)]) ∧ ∀ base : Heap, K.In base → base.Ns mainGlobals mg → FnOk l.prog w K mg base CX0 4 fa fd ["_law_script"] (spLaw K) := by
  have e := hfa.symm.trans (PySem.W.mg_of X G a8)
  cases e
  have F0 := fun_mk (st := s_l_start) l0 c0 k0
  have b0 := F0.binds (ps := ["_law_script"]) fun _ _ _ _ _ _ us hl => match us, hl with | [_], _ => rfl
  have F1 := fun_mk (st := s_l_draw) l1 c1 k1
  have b1 := F1.binds (ps := ["_law_state", "_law_size"]) fun _ _ _ _ _ _ us hl => match us, hl with | [_, _], _ => rfl
  have F2 := fun_mk (st := s_l_signs) l2 c2 k2
  have b2 := F2.binds (ps := []) fun _ _ _ _ _ _ us hl => match us, hl with | [], _ => rfl
  have F3 := fun_mk (st := s_l_sorts) l3 c3 k3
  have b3 := F3.binds (ps := ["_law_e"]) fun _ _ _ _ _ _ us hl => match us, hl with | [_], _ => rfl
  have F4 := fun_mk (st := s_l_thing) l4 c4 k4
  have b4 := F4.binds (ps := ["_law_state"]) fun _ _ _ _ _ _ us hl => match us, hl with | [_], _ => rfl
  have F5 := fun_mk (st := s_l_all) l5 c5 k5
  have b5 := F5.binds (ps := ["_law_t"]) fun _ _ _ _ _ _ us hl => match us, hl with | [_], _ => rfl
  have F6 := fun_mk (st := s_l_named) l6 c6 k6
  have b6 := F6.binds (ps := ["_law_t"]) fun _ _ _ _ _ _ us hl => match us, hl with | [_], _ => rfl
  have F7 := fun_mk (st := s_l_keeps) l7 c7 k7
  have b7 := F7.binds (ps := ["_law_made", "_law_t"]) fun _ _ _ _ _ _ us hl => match us, hl with | [_, _], _ => rfl
  have F8 := fun_mk (st := s_law) l8 c8 k8
  have Fie0 := fun_mk (st := s_BadName___init__) lie0 cie0 kie0
  have bie0 := Fie0.binds (ps := ["self", "name"]) fun _ _ _ _ _ _ us hl => match us, hl with | [_, _], _ => rfl
  have Fie1 := fun_mk (st := s_UnknownName___init__) lie1 cie1 kie1
  have bie1 := Fie1.binds (ps := ["self", "name"]) fun _ _ _ _ _ _ us hl => match us, hl with | [_, _], _ => rfl
  have Fie2 := fun_mk (st := s_BadCount___init__) lie2 cie2 kie2
  have bie2 := Fie2.binds (ps := ["self", "count"]) fun _ _ _ _ _ _ us hl => match us, hl with | [_, _], _ => rfl
  have Fie3 := fun_mk (st := s_BadTop___init__) lie3 cie3 kie3
  have bie3 := Fie3.binds (ps := ["self", "value"]) fun _ _ _ _ _ _ us hl => match us, hl with | [_, _], _ => rfl
  have Fie4 := fun_mk (st := s_BadArrow___init__) lie4 cie4 kie4
  have bie4 := Fie4.binds (ps := ["self", "value"]) fun _ _ _ _ _ _ us hl => match us, hl with | [_, _], _ => rfl
  have Fie5 := fun_mk (st := s_BadText___init__) lie5 cie5 kie5
  have bie5 := Fie5.binds (ps := ["self", "text"]) fun _ _ _ _ _ _ us hl => match us, hl with | [_, _], _ => rfl
  have Fie6 := fun_mk (st := s_BadState___init__) lie6 cie6 kie6
  have bie6 := Fie6.binds (ps := ["self", "value"]) fun _ _ _ _ _ _ us hl => match us, hl with | [_, _], _ => rfl
  have Fie7 := fun_mk (st := s_BadTable___init__) lie7 cie7 kie7
  have bie7 := Fie7.binds (ps := ["self", "name"]) fun _ _ _ _ _ _ us hl => match us, hl with | [_, _], _ => rfl
  have Fie8 := fun_mk (st := s_BadRing___init__) lie8 cie8 kie8
  have bie8 := Fie8.binds (ps := ["self", "value"]) fun _ _ _ _ _ _ us hl => match us, hl with | [_, _], _ => rfl
  have Fie9 := fun_mk (st := s_BadSet___init__) lie9 cie9 kie9
  have bie9 := Fie9.binds (ps := ["self", "value"]) fun _ _ _ _ _ _ us hl => match us, hl with | [_, _], _ => rfl
  have Fie10 := fun_mk (st := s_BadFact___init__) lie10 cie10 kie10
  have bie10 := Fie10.binds (ps := ["self", "value"]) fun _ _ _ _ _ _ us hl => match us, hl with | [_, _], _ => rfl
  have Fie11 := fun_mk (st := s_BadNumber___init__) lie11 cie11 kie11
  have bie11 := Fie11.binds (ps := ["self", "value"]) fun _ _ _ _ _ _ us hl => match us, hl with | [_, _], _ => rfl
  have Fie12 := fun_mk (st := s_HasRing___init__) lie12 cie12 kie12
  have bie12 := Fie12.binds (ps := ["self", "value"]) fun _ _ _ _ _ _ us hl => match us, hl with | [_, _], _ => rfl
  have Fie13 := fun_mk (st := s_HasOdd___init__) lie13 cie13 kie13
  have bie13 := Fie13.binds (ps := ["self", "value"]) fun _ _ _ _ _ _ us hl => match us, hl with | [_, _], _ => rfl
  have Fie17 := fun_mk (st := s_Clash___init__) lie17 cie17 kie17
  have bie17 := Fie17.binds (ps := ["self", "value"]) fun _ _ _ _ _ _ us hl => match us, hl with | [_, _], _ => rfl
  have Fie18 := fun_mk (st := s_UnlikeParts___init__) lie18 cie18 kie18
  have bie18 := Fie18.binds (ps := ["self", "names"]) fun _ _ _ _ _ _ us hl => match us, hl with | [_, _], _ => rfl
  have T : Tx K mg := ⟨PySem.W.mg_none_of X G z_ValueError, PySem.W.mg_none_of X G z_abs, PySem.W.mg_none_of X G z_bool, PySem.W.mg_none_of X G z_int, PySem.W.mg_none_of X G z_isinstance, PySem.W.mg_none_of X G z_len, PySem.W.mg_none_of X G z_list, PySem.W.mg_none_of X G z_range, ⟨f0, _, F0, PySem.W.mg_of X G a0, b0⟩, ⟨f1, _, F1, PySem.W.mg_of X G a1, b1⟩, ⟨f2, _, F2, PySem.W.mg_of X G a2, b2⟩, ⟨f3, _, F3, PySem.W.mg_of X G a3, b3⟩, ⟨f4, _, F4, PySem.W.mg_of X G a4, b4⟩, ⟨f5, _, F5, PySem.W.mg_of X G a5, b5⟩, ⟨f6, _, F6, PySem.W.mg_of X G a6, b6⟩, ⟨f7, _, F7, PySem.W.mg_of X G a7, b7⟩, ⟨on, ot⟩, ⟨R, PySem.W.mg_of X G aR, by unfold PySem.W.clsIn; rw [lR]; rfl, tR⟩, ⟨⟨Ce0, ⟨_, _, _, _, _, _, _, _, _, _, _, _, _, _, le0⟩, PySem.W.mg_of X G ae0, ke0, sae0, gae0, gge0, exe0, tye0, hde0, hae0, hme0⟩, fe0, _, Fie0, bie0, ie0, tie0, noe0⟩, ⟨⟨Ce1, ⟨_, _, _, _, _, _, _, _, _, _, _, _, _, _, le1⟩, PySem.W.mg_of X G ae1, ke1, sae1, gae1, gge1, exe1, tye1, hde1, hae1, hme1⟩, fe1, _, Fie1, bie1, ie1, tie1, noe1⟩, ⟨⟨Ce2, ⟨_, _, _, _, _, _, _, _, _, _, _, _, _, _, le2⟩, PySem.W.mg_of X G ae2, ke2, sae2, gae2, gge2, exe2, tye2, hde2, hae2, hme2⟩, fe2, _, Fie2, bie2, ie2, tie2, noe2⟩, ⟨⟨Ce3, ⟨_, _, _, _, _, _, _, _, _, _, _, _, _, _, le3⟩, PySem.W.mg_of X G ae3, ke3, sae3, gae3, gge3, exe3, tye3, hde3, hae3, hme3⟩, fe3, _, Fie3, bie3, ie3, tie3, noe3⟩, ⟨⟨Ce4, ⟨_, _, _, _, _, _, _, _, _, _, _, _, _, _, le4⟩, PySem.W.mg_of X G ae4, ke4, sae4, gae4, gge4, exe4, tye4, hde4, hae4, hme4⟩, fe4, _, Fie4, bie4, ie4, tie4, noe4⟩, ⟨⟨Ce5, ⟨_, _, _, _, _, _, _, _, _, _, _, _, _, _, le5⟩, PySem.W.mg_of X G ae5, ke5, sae5, gae5, gge5, exe5, tye5, hde5, hae5, hme5⟩, fe5, _, Fie5, bie5, ie5, tie5, noe5⟩, ⟨⟨Ce6, ⟨_, _, _, _, _, _, _, _, _, _, _, _, _, _, le6⟩, PySem.W.mg_of X G ae6, ke6, sae6, gae6, gge6, exe6, tye6, hde6, hae6, hme6⟩, fe6, _, Fie6, bie6, ie6, tie6, noe6⟩, ⟨⟨Ce7, ⟨_, _, _, _, _, _, _, _, _, _, _, _, _, _, le7⟩, PySem.W.mg_of X G ae7, ke7, sae7, gae7, gge7, exe7, tye7, hde7, hae7, hme7⟩, fe7, _, Fie7, bie7, ie7, tie7, noe7⟩, ⟨⟨Ce8, ⟨_, _, _, _, _, _, _, _, _, _, _, _, _, _, le8⟩, PySem.W.mg_of X G ae8, ke8, sae8, gae8, gge8, exe8, tye8, hde8, hae8, hme8⟩, fe8, _, Fie8, bie8, ie8, tie8, noe8⟩, ⟨⟨Ce9, ⟨_, _, _, _, _, _, _, _, _, _, _, _, _, _, le9⟩, PySem.W.mg_of X G ae9, ke9, sae9, gae9, gge9, exe9, tye9, hde9, hae9, hme9⟩, fe9, _, Fie9, bie9, ie9, tie9, noe9⟩, ⟨⟨Ce10, ⟨_, _, _, _, _, _, _, _, _, _, _, _, _, _, le10⟩, PySem.W.mg_of X G ae10, ke10, sae10, gae10, gge10, exe10, tye10, hde10, hae10, hme10⟩, fe10, _, Fie10, bie10, ie10, tie10, noe10⟩, ⟨⟨Ce11, ⟨_, _, _, _, _, _, _, _, _, _, _, _, _, _, le11⟩, PySem.W.mg_of X G ae11, ke11, sae11, gae11, gge11, exe11, tye11, hde11, hae11, hme11⟩, fe11, _, Fie11, bie11, ie11, tie11, noe11⟩, ⟨⟨Ce12, ⟨_, _, _, _, _, _, _, _, _, _, _, _, _, _, le12⟩, PySem.W.mg_of X G ae12, ke12, sae12, gae12, gge12, exe12, tye12, hde12, hae12, hme12⟩, fe12, _, Fie12, bie12, ie12, tie12, noe12⟩, ⟨⟨Ce13, ⟨_, _, _, _, _, _, _, _, _, _, _, _, _, _, le13⟩, PySem.W.mg_of X G ae13, ke13, sae13, gae13, gge13, exe13, tye13, hde13, hae13, hme13⟩, fe13, _, Fie13, bie13, ie13, tie13, noe13⟩, ⟨⟨Ce14, ⟨_, _, _, _, _, _, _, _, _, _, _, _, _, _, le14⟩, PySem.W.mg_of X G ae14, ke14, sae14, gae14, gge14, exe14, tye14, hde14, hae14, hme14⟩, qqe14⟩, ⟨⟨Ce15, ⟨_, _, _, _, _, _, _, _, _, _, _, _, _, _, le15⟩, PySem.W.mg_of X G ae15, ke15, sae15, gae15, gge15, exe15, tye15, hde15, hae15, hme15⟩, qqe15⟩, ⟨⟨Ce16, ⟨_, _, _, _, _, _, _, _, _, _, _, _, _, _, le16⟩, PySem.W.mg_of X G ae16, ke16, sae16, gae16, gge16, exe16, tye16, hde16, hae16, hme16⟩, qqe16⟩, ⟨⟨Ce17, ⟨_, _, _, _, _, _, _, _, _, _, _, _, _, _, le17⟩, PySem.W.mg_of X G ae17, ke17, sae17, gae17, gge17, exe17, tye17, hde17, hae17, hme17⟩, fe17, _, Fie17, bie17, ie17, tie17, noe17⟩, ⟨⟨Ce18, ⟨_, _, _, _, _, _, _, _, _, _, _, _, _, _, le18⟩, PySem.W.mg_of X G ae18, ke18, sae18, gae18, gge18, exe18, tye18, hde18, hae18, hme18⟩, fe18, _, Fie18, bie18, ie18, tie18, noe18⟩, ⟨⟨Ce19, ⟨_, _, _, _, _, _, _, _, _, _, _, _, _, _, le19⟩, PySem.W.mg_of X G ae19, ke19, sae19, gae19, gge19, exe19, tye19, hde19, hae19, hme19⟩, qqe19⟩, nd⟩
  exact ⟨PySem.W.fnOf "law" "law" (defArgs s_law) (defBody s_law) (defScope s_law) .none kV8 dc8 pm8 an8 cd8 ct8, fun s v => .of_eq rfl, fun base _ _ => ok_law F8 T⟩

end K02
open PySem PySem.W PyProof.Rows
set_option maxRecDepth 100000 in
set_option maxHeartbeats 0 in
theorem PySem.Challenge.cw_surerests_k02_errors_holds : PySem.Challenge.rw_surerests_k02_errors.Holds := by
  w_on; o_law; k_head; (case hw => w_witness2)
  k_fill
  refine L2.walk_of (l := PySem.Challenge.rw_surerests_k02_errors) (n := 63) (k := 4) (x := "_law_script") (CX := fun _ => L2.CX0) (sp := fun w => K02.spLaw _) rfl (by decide) rfl ⟨rfl, by decide, by decide⟩ (fun w h Y => PySem.W.kIn_of Y) ?F (fun _ _ a ns hl _ hS => ⟨a, ns, rfl, hS, hl, fun _ => rfl⟩) (fun _ _ _ _ _ h => h)
  case F =>
    intro w mg fa h KX G hmg
    refine' K02.all_mk KX G hmg ?a0 ?l0 ?c0 ?k0 ?a1 ?l1 ?c1 ?k1 ?a2 ?l2 ?c2 ?k2 ?a3 ?l3 ?c3 ?k3 ?a4 ?l4 ?c4 ?k4 ?a5 ?l5 ?c5 ?k5 ?a6 ?l6 ?c6 ?k6 ?a7 ?l7 ?c7 ?k7 ?a8 ?l8 ?c8 ?k8 ?z_ValueError ?z_abs ?z_bool ?z_int ?z_isinstance ?z_len ?z_list ?z_range ?aR ?lR ?tR ?on ?ot ?ae0 ?le0 ?ke0 ?sae0 ?gae0 ?gge0 ?exe0 ?tye0 ?hde0 ?hae0 ?hme0 ?ie0 ?tie0 ?lie0 ?cie0 ?kie0 ?noe0 ?ae1 ?le1 ?ke1 ?sae1 ?gae1 ?gge1 ?exe1 ?tye1 ?hde1 ?hae1 ?hme1 ?ie1 ?tie1 ?lie1 ?cie1 ?kie1 ?noe1 ?ae2 ?le2 ?ke2 ?sae2 ?gae2 ?gge2 ?exe2 ?tye2 ?hde2 ?hae2 ?hme2 ?ie2 ?tie2 ?lie2 ?cie2 ?kie2 ?noe2 ?ae3 ?le3 ?ke3 ?sae3 ?gae3 ?gge3 ?exe3 ?tye3 ?hde3 ?hae3 ?hme3 ?ie3 ?tie3 ?lie3 ?cie3 ?kie3 ?noe3 ?ae4 ?le4 ?ke4 ?sae4 ?gae4 ?gge4 ?exe4 ?tye4 ?hde4 ?hae4 ?hme4 ?ie4 ?tie4 ?lie4 ?cie4 ?kie4 ?noe4 ?ae5 ?le5 ?ke5 ?sae5 ?gae5 ?gge5 ?exe5 ?tye5 ?hde5 ?hae5 ?hme5 ?ie5 ?tie5 ?lie5 ?cie5 ?kie5 ?noe5 ?ae6 ?le6 ?ke6 ?sae6 ?gae6 ?gge6 ?exe6 ?tye6 ?hde6 ?hae6 ?hme6 ?ie6 ?tie6 ?lie6 ?cie6 ?kie6 ?noe6 ?ae7 ?le7 ?ke7 ?sae7 ?gae7 ?gge7 ?exe7 ?tye7 ?hde7 ?hae7 ?hme7 ?ie7 ?tie7 ?lie7 ?cie7 ?kie7 ?noe7 ?ae8 ?le8 ?ke8 ?sae8 ?gae8 ?gge8 ?exe8 ?tye8 ?hde8 ?hae8 ?hme8 ?ie8 ?tie8 ?lie8 ?cie8 ?kie8 ?noe8 ?ae9 ?le9 ?ke9 ?sae9 ?gae9 ?gge9 ?exe9 ?tye9 ?hde9 ?hae9 ?hme9 ?ie9 ?tie9 ?lie9 ?cie9 ?kie9 ?noe9 ?ae10 ?le10 ?ke10 ?sae10 ?gae10 ?gge10 ?exe10 ?tye10 ?hde10 ?hae10 ?hme10 ?ie10 ?tie10 ?lie10 ?cie10 ?kie10 ?noe10 ?ae11 ?le11 ?ke11 ?sae11 ?gae11 ?gge11 ?exe11 ?tye11 ?hde11 ?hae11 ?hme11 ?ie11 ?tie11 ?lie11 ?cie11 ?kie11 ?noe11 ?ae12 ?le12 ?ke12 ?sae12 ?gae12 ?gge12 ?exe12 ?tye12 ?hde12 ?hae12 ?hme12 ?ie12 ?tie12 ?lie12 ?cie12 ?kie12 ?noe12 ?ae13 ?le13 ?ke13 ?sae13 ?gae13 ?gge13 ?exe13 ?tye13 ?hde13 ?hae13 ?hme13 ?ie13 ?tie13 ?lie13 ?cie13 ?kie13 ?noe13 ?ae14 ?le14 ?ke14 ?sae14 ?gae14 ?gge14 ?exe14 ?tye14 ?hde14 ?hae14 ?hme14 ?qqe14 ?ae15 ?le15 ?ke15 ?sae15 ?gae15 ?gge15 ?exe15 ?tye15 ?hde15 ?hae15 ?hme15 ?qqe15 ?ae16 ?le16 ?ke16 ?sae16 ?gae16 ?gge16 ?exe16 ?tye16 ?hde16 ?hae16 ?hme16 ?qqe16 ?ae17 ?le17 ?ke17 ?sae17 ?gae17 ?gge17 ?exe17 ?tye17 ?hde17 ?hae17 ?hme17 ?ie17 ?tie17 ?lie17 ?cie17 ?kie17 ?noe17 ?ae18 ?le18 ?ke18 ?sae18 ?gae18 ?gge18 ?exe18 ?tye18 ?hde18 ?hae18 ?hme18 ?ie18 ?tie18 ?lie18 ?cie18 ?kie18 ?noe18 ?ae19 ?le19 ?ke19 ?sae19 ?gae19 ?gge19 ?exe19 ?tye19 ?hde19 ?hae19 ?hme19 ?qqe19 ?nd
    (case a0 => k_is)
    (case l0 => k_is)
    (case c0 => k_is)
    (case k0 => k_is)
    (case a1 => k_is)
    (case l1 => k_is)
    (case c1 => k_is)
    (case k1 => k_is)
    (case a2 => k_is)
    (case l2 => k_is)
    (case c2 => k_is)
    (case k2 => k_is)
    (case a3 => k_is)
    (case l3 => k_is)
    (case c3 => k_is)
    (case k3 => k_is)
    (case a4 => k_is)
    (case l4 => k_is)
    (case c4 => k_is)
    (case k4 => k_is)
    (case a5 => k_is)
    (case l5 => k_is)
    (case c5 => k_is)
    (case k5 => k_is)
    (case a6 => k_is)
    (case l6 => k_is)
    (case c6 => k_is)
    (case k6 => k_is)
    (case a7 => k_is)
    (case l7 => k_is)
    (case c7 => k_is)
    (case k7 => k_is)
    (case a8 => k_is)
    (case l8 => k_is)
    (case c8 => k_is)
    (case k8 => k_is)
    (case z_ValueError => k_is)
    (case z_abs => k_is)
    (case z_bool => k_is)
    (case z_int => k_is)
    (case z_isinstance => k_is)
    (case z_len => k_is)
    (case z_list => k_is)
    (case z_range => k_is)
    (case aR => k_is)
    (case lR => k_is)
    (case tR => k_is)
    (case on => k_is)
    (case ot => k_is)
    (case ae0 => k_is)
    (case le0 => k_is)
    (case ke0 => k_is)
    (case sae0 => k_is)
    (case gae0 => k_is)
    (case gge0 => k_is)
    (case exe0 => k_is)
    (case tye0 => k_is)
    (case hde0 => k_is)
    (case hae0 => k_is)
    (case hme0 => k_is)
    (case ie0 => k_is)
    (case tie0 => k_is)
    (case lie0 => k_is)
    (case cie0 => k_is)
    (case kie0 => k_is)
    (case noe0 => k_is)
    (case ae1 => k_is)
    (case le1 => k_is)
    (case ke1 => k_is)
    (case sae1 => k_is)
    (case gae1 => k_is)
    (case gge1 => k_is)
    (case exe1 => k_is)
    (case tye1 => k_is)
    (case hde1 => k_is)
    (case hae1 => k_is)
    (case hme1 => k_is)
    (case ie1 => k_is)
    (case tie1 => k_is)
    (case lie1 => k_is)
    (case cie1 => k_is)
    (case kie1 => k_is)
    (case noe1 => k_is)
    (case ae2 => k_is)
    (case le2 => k_is)
    (case ke2 => k_is)
    (case sae2 => k_is)
    (case gae2 => k_is)
    (case gge2 => k_is)
    (case exe2 => k_is)
    (case tye2 => k_is)
    (case hde2 => k_is)
    (case hae2 => k_is)
    (case hme2 => k_is)
    (case ie2 => k_is)
    (case tie2 => k_is)
    (case lie2 => k_is)
    (case cie2 => k_is)
    (case kie2 => k_is)
    (case noe2 => k_is)
    (case ae3 => k_is)
    (case le3 => k_is)
    (case ke3 => k_is)
    (case sae3 => k_is)
    (case gae3 => k_is)
    (case gge3 => k_is)
    (case exe3 => k_is)
    (case tye3 => k_is)
    (case hde3 => k_is)
    (case hae3 => k_is)
    (case hme3 => k_is)
    (case ie3 => k_is)
    (case tie3 => k_is)
    (case lie3 => k_is)
    (case cie3 => k_is)
    (case kie3 => k_is)
    (case noe3 => k_is)
    (case ae4 => k_is)
    (case le4 => k_is)
    (case ke4 => k_is)
    (case sae4 => k_is)
    (case gae4 => k_is)
    (case gge4 => k_is)
    (case exe4 => k_is)
    (case tye4 => k_is)
    (case hde4 => k_is)
    (case hae4 => k_is)
    (case hme4 => k_is)
    (case ie4 => k_is)
    (case tie4 => k_is)
    (case lie4 => k_is)
    (case cie4 => k_is)
    (case kie4 => k_is)
    (case noe4 => k_is)
    (case ae5 => k_is)
    (case le5 => k_is)
    (case ke5 => k_is)
    (case sae5 => k_is)
    (case gae5 => k_is)
    (case gge5 => k_is)
    (case exe5 => k_is)
    (case tye5 => k_is)
    (case hde5 => k_is)
    (case hae5 => k_is)
    (case hme5 => k_is)
    (case ie5 => k_is)
    (case tie5 => k_is)
    (case lie5 => k_is)
    (case cie5 => k_is)
    (case kie5 => k_is)
    (case noe5 => k_is)
    (case ae6 => k_is)
    (case le6 => k_is)
    (case ke6 => k_is)
    (case sae6 => k_is)
    (case gae6 => k_is)
    (case gge6 => k_is)
    (case exe6 => k_is)
    (case tye6 => k_is)
    (case hde6 => k_is)
    (case hae6 => k_is)
    (case hme6 => k_is)
    (case ie6 => k_is)
    (case tie6 => k_is)
    (case lie6 => k_is)
    (case cie6 => k_is)
    (case kie6 => k_is)
    (case noe6 => k_is)
    (case ae7 => k_is)
    (case le7 => k_is)
    (case ke7 => k_is)
    (case sae7 => k_is)
    (case gae7 => k_is)
    (case gge7 => k_is)
    (case exe7 => k_is)
    (case tye7 => k_is)
    (case hde7 => k_is)
    (case hae7 => k_is)
    (case hme7 => k_is)
    (case ie7 => k_is)
    (case tie7 => k_is)
    (case lie7 => k_is)
    (case cie7 => k_is)
    (case kie7 => k_is)
    (case noe7 => k_is)
    (case ae8 => k_is)
    (case le8 => k_is)
    (case ke8 => k_is)
    (case sae8 => k_is)
    (case gae8 => k_is)
    (case gge8 => k_is)
    (case exe8 => k_is)
    (case tye8 => k_is)
    (case hde8 => k_is)
    (case hae8 => k_is)
    (case hme8 => k_is)
    (case ie8 => k_is)
    (case tie8 => k_is)
    (case lie8 => k_is)
    (case cie8 => k_is)
    (case kie8 => k_is)
    (case noe8 => k_is)
    (case ae9 => k_is)
    (case le9 => k_is)
    (case ke9 => k_is)
    (case sae9 => k_is)
    (case gae9 => k_is)
    (case gge9 => k_is)
    (case exe9 => k_is)
    (case tye9 => k_is)
    (case hde9 => k_is)
    (case hae9 => k_is)
    (case hme9 => k_is)
    (case ie9 => k_is)
    (case tie9 => k_is)
    (case lie9 => k_is)
    (case cie9 => k_is)
    (case kie9 => k_is)
    (case noe9 => k_is)
    (case ae10 => k_is)
    (case le10 => k_is)
    (case ke10 => k_is)
    (case sae10 => k_is)
    (case gae10 => k_is)
    (case gge10 => k_is)
    (case exe10 => k_is)
    (case tye10 => k_is)
    (case hde10 => k_is)
    (case hae10 => k_is)
    (case hme10 => k_is)
    (case ie10 => k_is)
    (case tie10 => k_is)
    (case lie10 => k_is)
    (case cie10 => k_is)
    (case kie10 => k_is)
    (case noe10 => k_is)
    (case ae11 => k_is)
    (case le11 => k_is)
    (case ke11 => k_is)
    (case sae11 => k_is)
    (case gae11 => k_is)
    (case gge11 => k_is)
    (case exe11 => k_is)
    (case tye11 => k_is)
    (case hde11 => k_is)
    (case hae11 => k_is)
    (case hme11 => k_is)
    (case ie11 => k_is)
    (case tie11 => k_is)
    (case lie11 => k_is)
    (case cie11 => k_is)
    (case kie11 => k_is)
    (case noe11 => k_is)
    (case ae12 => k_is)
    (case le12 => k_is)
    (case ke12 => k_is)
    (case sae12 => k_is)
    (case gae12 => k_is)
    (case gge12 => k_is)
    (case exe12 => k_is)
    (case tye12 => k_is)
    (case hde12 => k_is)
    (case hae12 => k_is)
    (case hme12 => k_is)
    (case ie12 => k_is)
    (case tie12 => k_is)
    (case lie12 => k_is)
    (case cie12 => k_is)
    (case kie12 => k_is)
    (case noe12 => k_is)
    (case ae13 => k_is)
    (case le13 => k_is)
    (case ke13 => k_is)
    (case sae13 => k_is)
    (case gae13 => k_is)
    (case gge13 => k_is)
    (case exe13 => k_is)
    (case tye13 => k_is)
    (case hde13 => k_is)
    (case hae13 => k_is)
    (case hme13 => k_is)
    (case ie13 => k_is)
    (case tie13 => k_is)
    (case lie13 => k_is)
    (case cie13 => k_is)
    (case kie13 => k_is)
    (case noe13 => k_is)
    (case ae14 => k_is)
    (case le14 => k_is)
    (case ke14 => k_is)
    (case sae14 => k_is)
    (case gae14 => k_is)
    (case gge14 => k_is)
    (case exe14 => k_is)
    (case tye14 => k_is)
    (case hde14 => k_is)
    (case hae14 => k_is)
    (case hme14 => k_is)
    (case qqe14 => k_exc)
    (case ae15 => k_is)
    (case le15 => k_is)
    (case ke15 => k_is)
    (case sae15 => k_is)
    (case gae15 => k_is)
    (case gge15 => k_is)
    (case exe15 => k_is)
    (case tye15 => k_is)
    (case hde15 => k_is)
    (case hae15 => k_is)
    (case hme15 => k_is)
    (case qqe15 => k_exc)
    (case ae16 => k_is)
    (case le16 => k_is)
    (case ke16 => k_is)
    (case sae16 => k_is)
    (case gae16 => k_is)
    (case gge16 => k_is)
    (case exe16 => k_is)
    (case tye16 => k_is)
    (case hde16 => k_is)
    (case hae16 => k_is)
    (case hme16 => k_is)
    (case qqe16 => k_exc)
    (case ae17 => k_is)
    (case le17 => k_is)
    (case ke17 => k_is)
    (case sae17 => k_is)
    (case gae17 => k_is)
    (case gge17 => k_is)
    (case exe17 => k_is)
    (case tye17 => k_is)
    (case hde17 => k_is)
    (case hae17 => k_is)
    (case hme17 => k_is)
    (case ie17 => k_is)
    (case tie17 => k_is)
    (case lie17 => k_is)
    (case cie17 => k_is)
    (case kie17 => k_is)
    (case noe17 => k_is)
    (case ae18 => k_is)
    (case le18 => k_is)
    (case ke18 => k_is)
    (case sae18 => k_is)
    (case gae18 => k_is)
    (case gge18 => k_is)
    (case exe18 => k_is)
    (case tye18 => k_is)
    (case hde18 => k_is)
    (case hae18 => k_is)
    (case hme18 => k_is)
    (case ie18 => k_is)
    (case tie18 => k_is)
    (case lie18 => k_is)
    (case cie18 => k_is)
    (case kie18 => k_is)
    (case noe18 => k_is)
    (case ae19 => k_is)
    (case le19 => k_is)
    (case ke19 => k_is)
    (case sae19 => k_is)
    (case gae19 => k_is)
    (case gge19 => k_is)
    (case exe19 => k_is)
    (case tye19 => k_is)
    (case hde19 => k_is)
    (case hae19 => k_is)
    (case hme19 => k_is)
    (case qqe19 => k_exc)
    (case nd => decide)

#print axioms PySem.Challenge.cw_surerests_k02_errors_holds
