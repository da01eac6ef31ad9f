import PyProof.Rows.All
import Wide.All
import OpenK.AllK
import Wide.FinOn
import HandS.ForMost
import HandS.IsInst
import KE.KRevSl
import PyProof.SliceStr2
import OpenK.KMore
import PySem.Challenge.RW_surerests_k01_valid_names
set_option Elab.async false
set_option linter.all false
set_option maxRecDepth 100000
namespace Rl
open PySem PySem.Spec PyProof.Rows L2
/-! ### globals, defs of the text, calls -/
theorem pe_glb {X : Cx} {x : Str} {p : Pos} {v : V} (hg : Gl X x) (h : ∃ u, X.mg x = some u ∧ RelV v u) (hd : (x == ("__debug__" : Str)) = false := by decide) : PE X (.Name x p) (tC v) := by
  obtain ⟨u, h1, h2⟩ := h
  exact pe_glob hg h1 h2 (hd := hd)
structure FnE (K : PySem.W.Frag) (mg : Str → Option Value) (x qual : Str) (st : Stmt) (ps : List Str) where
  f : Addr
  fd : FuncData
  F : Fun K x qual st f fd
  g : mg x = some (.ref f)
  b : Binds K fd ps []
section
variable {X : Cx} {x qual : Str} {st : Stmt} {ps : List Str} {sp : Sp} {k : Nat} {e : Expr} {es : List Expr} {p pos : Pos} {t tk : TA} {kws : List Keyword} {ks : List Str} {g : List Value → List Value → List Value} {gV : List V → List V → List V}
theorem pcall (M : FnE X.K X.mg x qual st ps) (F : FnOk X.prog X.w X.K X.mg X.base CX0 k M.f M.fd ps sp) (hr : Room k X.A) (hg : Gl X x) (hx : Passes CX0 X E0) (ha : PA X (e :: es) t)
    (hdb : (x == ("__debug__" : Str)) = false := by decide) (he : starEach (e :: es) X.env = (false, eval e X.env) :: starEach es X.env := by rfl) (hpl : (backTo pos (starEach es X.env)).any (·.1) = false := by rfl) :
    PE X (.Call (.Name x p) (e :: es) [] pos) (tCall sp [] E0 t) := pe_call F hr hg M.g M.F.kp M.b .nil hx ha (hdb := hdb) (he := he) (hpl := hpl)
theorem pcall0 (M : FnE X.K X.mg x qual st ps) (F : FnOk X.prog X.w X.K X.mg X.base CX0 k M.f M.fd ps sp) (hr : Room k X.A) (hg : Gl X x) (hx : Passes CX0 X E0)
    (hdb : (x == ("__debug__" : Str)) = false := by decide) :
    PE X (.Call (.Name x p) [] [] pos) (tCall sp [] E0 tNil) := pe_call0 F hr hg M.g M.F.kp M.b .nil hx (hdb := hdb)
/-- f(k = v, ..), keywords alone -/
theorem pe_callK0 {CX : CXT} {f : Addr} {fd : FuncData} {E : XK} (F : FnOk X.prog X.w X.K X.mg X.base CX k f fd ps sp) (hr : Room k X.A) (hg : Gl X x) (hm : X.mg x = some (.ref f)) (hk : PySem.W.keepIn X.K (.ref f) = true) (hb : KBinds X.K fd ps ks g gV) (hx : Passes CX X E)
    (hkw : PK X kws tk) (hall : (backToKw pos (keywordEach kws X.env)).all (·.1.isSome) = true := by rfl) (hks : (backToKw pos (keywordEach kws X.env)).filterMap (·.1) = ks := by rfl)
    (hdb : (x == ("__debug__" : Str)) = false := by decide)
    (hpl : ((backTo pos (starEach [] X.env)).any (·.1) || (backToKw pos (keywordEach kws X.env)).any (·.1.isNone)) = false := by rfl) :
    PE X (.Call (.Name x p) [] kws pos) (tCallK sp gV E tNil tk) := by
  refine ⟨fun pins s σ H Q I h => ?_⟩
  refine wpAny_Call_Name_kw (ld_glob I hg hm ?_ hdb)
  refine PySem.W.callWith_KW0 (h₀ := X.base) I.ok.mod.kin hk hall ?_ hpl
  refine thn (hkw.run pos pins s σ H _ I h) fun ws s2 ⟨zs, H2, I2, rz, q2⟩ => ⟨I2.kIn, ?_⟩
  rw [hks]
  exact run_fnk (us := []) (vs := []) F hr hb hx I2 .nil rz q2
end
/-! ### z[::-1] of a text -/
def revStr (z : Str) : Str := ⟨((Builtin.Str.strSliceIndices none none (-1) z.length).filterMap (z.cps[·]?)).toArray⟩
theorem revStr_length (z : Str) : (revStr z).length ≤ z.length := by
  show (((Builtin.Str.strSliceIndices none none (-1) z.length).filterMap (z.cps[·]?)).toArray).size ≤ z.length
  rw [List.size_toArray]
  refine Nat.le_trans (List.length_filterMap_le _ _) ?_
  have e : Builtin.Str.strSliceIndices none none (-1) z.length = (List.range z.length).map fun k => z.length - 1 - k := PySem.W.krv_sliceRange z.length
  rw [e, List.length_map, List.length_range]
  exact Nat.le_refl _
def tRevS (te : TE) : TE := fun σ H Q => te σ H fun x H1 => ∃ z, x = .str z ∧ z.length ≤ sizeLine ∧ Q (.str (revStr z)) H1
theorem pe_revS {X : Cx} {e : Expr} {te : TE} {k : Nat} {p1 p2 p3 pos : Pos} (he : PE X e te) : PE X (.Subscript e (.Slice none none (some (.UnaryOp .USub (.Constant (.int 1) k p1) p2)) p3) pos) (tRevS te) := by
  refine ⟨fun pins s σ H Q I h => ?_⟩
  refine Subscript_ (thn (he.run pins s σ H _ I h) fun v s1 ⟨x, H1, I1, r1, q1⟩ => ?_)
  obtain ⟨z, ex, hz, q⟩ := q1
  subst ex
  obtain ⟨t, rfl⟩ := r1
  have hst : PO X (some (.UnaryOp .USub (.Constant (.int 1) k p1) p2)) (tPart (tUn (rU fun i => .int (-i)) (tC (.int 1)))) := po_some (pe_un un_neg pe_int)
  refine wpAny_Slice (thn (po_none.run pins s1 σ H1 (fun o H2 => o = none ∧ H2 = H1) I1 ⟨rfl, rfl⟩) fun vl s2 ⟨l, H2, I2, pl, el, e2⟩ => ?_)
  subst el e2
  refine thn (po_none.run pins s2 σ H2 (fun o H3 => o = none ∧ H3 = H2) I2 ⟨rfl, rfl⟩) fun vu s3 ⟨u, H3, I3, pu, eu, e3⟩ => ?_
  subst eu e3
  refine thn (hst.run pins s3 σ H3 (fun o H4 => o = some (-1) ∧ H4 = H3) I3 ⟨1, rfl, -1, rfl, rfl, rfl⟩) fun vs s4 ⟨o, H4, I4, ps, eo, e4⟩ => ?_
  subst eo e4
  have I5 : Inv X pins σ H4 { s4 with heap := s4.heap.push { cls := .type "slice", data := .fields #[vl, vu, vs] } } := I4.kept (t' := s4.toks) fun b ob q => Heap.get?_push_of_some _ q
  obtain ⟨l', el1, el2⟩ := IsPart.raw pl
  obtain ⟨u', eu1, eu2⟩ := IsPart.raw pu
  obtain ⟨w', ew1, ew2⟩ := IsPart.raw ps
  have hl0 : l' = none := by cases l' <;> simp_all
  have hu0 : u' = none := by cases u' <;> simp_all
  obtain ⟨tw, hw0⟩ : ∃ tw, w' = some ((-1 : Int), tw) := by
    cases w' with
    | none => simp at ew2
    | some a =>
      obtain ⟨a1, a2⟩ := a
      simp at ew2
      exact ⟨a2, by rw [← ew2]⟩
  subst hl0 hu0 hw0
  have hsl : (s4.heap.push { cls := .type "slice", data := .fields #[vl, vu, vs] }).IsSlice s4.heap.objs.size none none (some ((-1 : Int), tw)) := by
    obtain ⟨o, h1, h2, h3⟩ := Heap.IsSliceOf.new s4.heap vl vu vs
    exact ⟨o, h1, h2, by rw [h3, el1, eu1, ew1] <;> rfl⟩
  show wpAny (model X.prog X.w) X.A (subscriptTail e (.Slice none none (some (.UnaryOp .USub (.Constant (.int 1) k p1) p2)) p3) (.str z t) (.ref s4.heap.objs.size)) (EP X pins σ Q) X.xe { s4 with heap := s4.heap.push { cls := .type "slice", data := .fields #[vl, vu, vs] } }
  refine tail_any (ops := [.str z t, .ref s4.heap.objs.size]) (typeIs_str _ _ _) (F.slot_str_getitem.lookup) ?_ (by with_unfolding_all rfl)
  refine wpAny_getItem_str_slice (l := none) (u := none) (st := some ((-1 : Int), tw)) hsl rfl ?_
  have hl := revStr_length z
  exact ⟨Nat.le_trans hl hz, .str _, H4, I5.tok _, ⟨_, rfl⟩, q⟩
theorem cx_K {CX : CXT} {P : Program} {w : World} {K : PySem.W.Frag} {mg : Str → Option Value} {base : Heap} {N : List Str} {qual : Str} {scope : Scope} {f : Addr} {cd : Value} {A : Around} {outer : List Env} {s : Shared} {H : Hp} {E : XK} : (cxOf CX P w K mg base N qual scope f cd A outer s H E).K = K := rfl
/-! ### joints: what holds behind a statement -/
theorem cutS {t u : TS} {D : Ends} {σ : L2.St} {H : Hp} (R : L2.St → Hp → Prop) (h : ∀ nx : L2.St → Hp → Prop, (∀ σ' H', R σ' H' → nx σ' H') → t { D with nx := nx } σ H) (hR : ∀ σ' H', R σ' H' → u D σ' H') : tSeq t u D σ H := h (u D) hR
end Rl

set_option Elab.async false
set_option linter.all false
set_option maxRecDepth 100000
namespace Dr
open PySem PySem.Spec PyProof.Rows L2 Rl
/-! ### small words -/
theorem sq {K : PySem.W.Frag} {H : Hp} {p : Addr} {xs : List V} (h : H p = some (.lst xs)) : SqL K H p xs := .inl (.inl h)
theorem st {K : PySem.W.Frag} {H : Hp} {p : Addr} {xs : List V} (h : H p = some (.tup xs)) : SqT K H p xs := .inl (.inl h)
theorem sz {n : Nat} (h : n ≤ 100000) : n ≤ sizeLine := Nat.le_trans h (by decide)
theorem szl {n : Nat} (h : n < 100000) : n < sizeLine := Nat.lt_of_lt_of_le h (by decide)
theorem at0 {xs : List V} {x : V} : atI (x :: xs) 0 = some x := atI_nat (j := 0) rfl
theorem at1 {xs : List V} {x y : V} : atI (x :: y :: xs) 1 = some y := atI_nat (j := 1) rfl
theorem at2 {xs : List V} {x y z : V} : atI (x :: y :: z :: xs) 2 = some z := atI_nat (j := 2) rfl
/-- o[i] of a list, where it is to be stored again -/
def rGetL (K : PySem.W.Frag) : V → V → Hp → VK → Prop := fun o i H Q => ∃ p xs k v, o = .ref p ∧ i = .int k ∧ 0 ≤ k ∧ SqL K H p xs ∧ xs[k.toNat]? = some v ∧ Q v H
theorem pg_list {X : Cx} : PGet X (rGetL X.K) := by
  intro pins s σ H x y v u Q I rx ry h
  obtain ⟨p, xs, k, z, rfl, rfl, h0, hq, he, q⟩ := h
  cases rx
  obtain ⟨t, rfl⟩ := ry
  obtain ⟨its, r, pl, hz⟩ := I.list hq
  obtain ⟨w, ew, rw'⟩ := r.get he
  have hl := r.length
  have hn := line63
  have hlt := (List.getElem?_eq_some_iff.mp he).1
  exact wpAny_getItem_list pl.isList h0 (by omega) (by simpa using ew) ⟨z, H, I, rw', q⟩
theorem ixN_nat {n k : Nat} (h : k < n) : ixN n (k : Int) = some k := by
  unfold ixN
  rw [if_pos (Int.natCast_nonneg k), if_pos (by omega), Int.toNat_natCast]
theorem ixN_0 {n : Nat} (h : 0 < n) : ixN n 0 = some 0 := ixN_nat (k := 0) h
theorem ixN_of {n : Nat} {z : Int} (h0 : 0 ≤ z) (h : z < n) : ixN n z = some z.toNat := by
  unfold ixN
  rw [if_pos h0, if_pos h]
/-- an item at a place within the list -/
theorem at_in {xs : List V} {z : Int} (h0 : 0 ≤ z) (h : z < xs.length) : ∃ v, v ∈ xs ∧ xs[z.toNat]? = some v ∧ atI xs z = some v := by
  have hl : z.toNat < xs.length := by omega
  have e : xs[z.toNat]? = some xs[z.toNat] := List.getElem?_eq_getElem hl
  exact ⟨xs[z.toNat], List.getElem_mem hl, e, at_of (by omega) e⟩
theorem at_ints {ns : List Int} {z : Int} (h0 : 0 ≤ z) (h : z < ns.length) : ∃ c, atI (ns.map V.int) z = some (.int c) := by
  obtain ⟨v, hm, _, h2⟩ := at_in (xs := ns.map V.int) h0 (by rw [List.length_map]; exact h)
  obtain ⟨c, _, rfl⟩ := List.mem_map.mp hm
  exact ⟨c, h2⟩
/-! ### == of ints in lists -/
theorem dp_ints {K : PySem.W.Frag} {H : Hp} : ∀ ns : List Int, DpAll K H (ns.map V.int) (ns.map PyData.int)
  | [] => .nil
  | n :: r => .cons (.int n) (dp_ints r)
theorem canLay_ints : ∀ ns : List Int, PyData.canLayAll0 (ns.map PyData.int) = true
  | [] => rfl
  | n :: r => by
    show (PyData.canLay0 (.int n) && PyData.canLayAll0 (r.map PyData.int)) = true
    rw [canLay_ints r]
    rfl
theorem depthAll_ints : ∀ ns : List Int, PyData.depthAll (ns.map PyData.int) ≤ 1
  | [] => Nat.zero_le _
  | n :: r => by
    have ih := depthAll_ints r
    simp only [List.map_cons, PyData.depthAll, PyData.depth]
    omega
theorem depth_ints (ns : List Int) : (PyData.list (ns.map PyData.int)).depth ≤ 64 := by
  have := depthAll_ints ns
  simp only [PyData.depth]
  omega
theorem shaped_ints (ns : List Int) : SeqAt.shaped (.list (ns.map PyData.int)) = true := by
  unfold SeqAt.shaped
  rw [show PyData.canLay0 (.list (ns.map PyData.int)) = PyData.canLayAll0 (ns.map PyData.int) from rfl, canLay_ints, decide_eq_true (depth_ints ns)]
  rfl
theorem eqv_nil_ints (ns : List Int) : PyData.eqv (.list (ns.map PyData.int)) (.list []) = ns.isEmpty := by
  cases ns <;> rfl
/-! ### a comprehension over a text's signs -/
theorem lc_str {x : Str} {g : TG} {tt : TT} {te : TE} {vs : List Nat} {σ : L2.St} {H1 : Hp} {D : Addr} {Qd : Hp → Prop} (Pv : Nat → Hp → Prop) (h0 : Pv 0 (upd H1 D (.lst [])))
    (hs : ∀ i c H, x.cps[i]? = some c → Pv i H → g (.str ⟨#[c]⟩) (wipe σ vs) H fun σ2 H2 => wipe σ2 vs = wipe σ vs ∧ tt σ2 H2 fun b H3 =>
      if b = true then te σ2 H3 fun y H4 => ∃ acc, H4 D = some (.lst acc) ∧ acc.length < sizeLine ∧ Pv (i + 1) (upd H4 D (.lst (acc ++ [y]))) else Pv (i + 1) H3) (hd : ∀ H, Pv x.cps.size H → Qd H) :
    ∃ W : Nat → Nat → Hp → Prop, (∃ m, W 0 m (upd H1 D (.lst []))) ∧ ∀ i m H, W i m H →
      ((Its x).stop i H ∧ Qd H) ∨ ((Its x).go i H ∧ ∃ Nx : Hp → Prop, (∀ H', Nx H' → ∃ m', m' < m ∧ W (i + 1) m' H') ∧ ∀ v H', (Its x).yld i H v H' → g v (wipe σ vs) H' fun σ2 H2 => wipe σ2 vs = wipe σ vs ∧ tt σ2 H2 fun b H3 =>
        if b = true then te σ2 H3 fun y H4 => ∃ acc, H4 D = some (.lst acc) ∧ acc.length < sizeLine ∧ Nx (upd H4 D (.lst (acc ++ [y]))) else Nx H3) := by
  refine ⟨fun i m H => m = x.cps.size - i ∧ i ≤ x.cps.size ∧ Pv i H, ⟨x.cps.size, by simp, Nat.zero_le _, h0⟩, ?_⟩
  rintro i m H ⟨rfl, hi, p⟩
  by_cases hlt : i < x.cps.size
  · refine .inr ⟨hlt, Pv (i + 1), fun H' p' => ⟨x.cps.size - (i + 1), by omega, rfl, hlt, p'⟩, fun v H' y => ?_⟩
    obtain ⟨e, c, hc, rfl⟩ := y
    subst e
    exact hs i c _ hc p
  · have e : i = x.cps.size := by omega
    subst e
    exact .inl ⟨Nat.le_refl _, hd _ p⟩
/-! ### what a draw leaves -/
/-- the cells of the drawing state's own -/
def vol (H : Hp) (s b : Addr) : Prop := b = s ∨ ∃ A B x, H s = some (.lst [.ref A, .ref B, x]) ∧ (b = A ∨ b = B)
def Kp (s : Addr) (H H' : Hp) : Prop := ∀ b o, H b = some o → ¬ vol H s b → H' b = some o ∧ ¬ vol H' s b
theorem Kp.refl {s : Addr} (H : Hp) : Kp s H H := fun _ _ h v => ⟨h, v⟩
theorem Kp.trans {s : Addr} {H H1 H2 : Hp} (a : Kp s H H1) (b : Kp s H1 H2) : Kp s H H2 := fun c o h v => b c o (a c o h v).1 (a c o h v).2
theorem Kp.of_same {s : Addr} {H H' : Hp} {u : HO} (hs : H s = some u) (h : Same H H') : Kp s H H' := fun b o e v => by
  refine ⟨h _ _ e, fun q => v ?_⟩
  rcases q with q | ⟨A, B, x, q, e⟩
  · exact .inl q
  · rw [h _ _ hs] at q
    rw [← hs] at q
    exact .inr ⟨A, B, x, q, e⟩
theorem same_new {H : Hp} {p : Addr} {o : HO} (h : H p = none) : Same H (upd H p o) := fun b x e => by
  rw [upd_ne (ne_of_none e h)]
  exact e
theorem Same.mut {H H' : Hp} {p : Addr} {o : HO} (k : Same H H') (h : H p = none) : Same H (upd H' p o) := fun b x e => by
  rw [upd_ne (ne_of_none e h)]
  exact k _ _ e
theorem vol_new {H : Hp} {s p b : Addr} {o : HO} (hs : s ≠ p) : vol (upd H p o) s b ↔ vol H s b := by
  unfold vol
  rw [upd_ne hs]
theorem Kp.new {H : Hp} {s p : Addr} {o u : HO} (hs : H s = some u) (hp : H p = none) : Kp s H (upd H p o) := fun b x h v =>
  ⟨by rw [upd_ne (ne_of_none h hp)]; exact h, fun q => v ((vol_new (ne_of_none hs hp)).mp q)⟩
/-- an object that H does not know changes -/
theorem Kp.mut {H H' : Hp} {s p : Addr} {o u : HO} (k : Kp s H H') (hs : H s = some u) (hp : H p = none) : Kp s H (upd H' p o) := fun b x h v =>
  ⟨by rw [upd_ne (ne_of_none h hp)]; exact (k b x h v).1, fun q => (k b x h v).2 ((vol_new (ne_of_none hs hp)).mp q)⟩
structure StAt (H : Hp) (s A B : Addr) (bigs cells : List Int) (n : Int) : Prop where
  st : H s = some (.lst [.ref A, .ref B, .int n])
  ha : H A = some (.lst (bigs.map V.int))
  hb : H B = some (.lst (cells.map V.int))
  ab : A ≠ B
  la : bigs.length ≤ 100
  lb : cells.length ≤ 100
  nb : 0 < cells.length
/-- a drawing state that has drawn at most N times -/
def Ds (H : Hp) (s : Addr) (N : Nat) : Prop := ∃ A B bigs cells n, StAt H s A B bigs cells (n : Nat) ∧ n ≤ N
theorem StAt.sa {H : Hp} {s A B : Addr} {bigs cells : List Int} {n : Int} (h : StAt H s A B bigs cells n) : s ≠ A := ne_of h.st h.ha (by
  intro e
  have e := HO.lst.inj e
  cases bigs with
  | nil => cases e
  | cons x r => cases e)
theorem StAt.sb {H : Hp} {s A B : Addr} {bigs cells : List Int} {n : Int} (h : StAt H s A B bigs cells n) : s ≠ B := ne_of h.st h.hb (by
  intro e
  have e := HO.lst.inj e
  cases cells with
  | nil => cases e
  | cons x r => cases e)
theorem StAt.new {H : Hp} {s A B p : Addr} {o : HO} {bigs cells : List Int} {n : Int} (h : StAt H s A B bigs cells n) (hp : H p = none) : StAt (upd H p o) s A B bigs cells n :=
  ⟨by rw [upd_ne (ne_of_none h.st hp)]; exact h.st, by rw [upd_ne (ne_of_none h.ha hp)]; exact h.ha, by rw [upd_ne (ne_of_none h.hb hp)]; exact h.hb, h.ab, h.la, h.lb, h.nb⟩
theorem StAt.volA {H : Hp} {s A B b : Addr} {bigs cells : List Int} {n : Int} (h : StAt H s A B bigs cells n) : vol H s b ↔ b = s ∨ b = A ∨ b = B := by
  unfold vol
  rw [h.st]
  constructor
  · rintro (e | ⟨A', B', x, e, q⟩)
    · exact .inl e
    · cases e
      exact .inr q
  · rintro (e | e)
    · exact .inl e
    · exact .inr ⟨_, _, _, rfl, e⟩
theorem Ds.new {H : Hp} {s p : Addr} {o : HO} {N : Nat} (h : Ds H s N) (hp : H p = none) : Ds (upd H p o) s N := by
  obtain ⟨A, B, bigs, cells, n, S, l⟩ := h
  exact ⟨A, B, bigs, cells, n, S.new hp, l⟩
theorem Ds.mono {H : Hp} {s : Addr} {N M : Nat} (h : Ds H s N) (l : N ≤ M) : Ds H s M := by
  obtain ⟨A, B, bigs, cells, n, S, l'⟩ := h
  exact ⟨A, B, bigs, cells, n, S, Nat.le_trans l' l⟩
theorem Ds.ex_ {H : Hp} {s : Addr} {N : Nat} (h : Ds H s N) : ∃ u, H s = some u := by
  obtain ⟨A, B, bigs, cells, n, S, l⟩ := h
  exact ⟨_, S.st⟩
theorem Ds.kp {H : Hp} {s p : Addr} {o : HO} {N : Nat} (h : Ds H s N) (hp : H p = none) : Kp s H (upd H p o) := by
  obtain ⟨u, hu⟩ := h.ex_
  exact Kp.new hu hp
/-- a new object is none of the state's own, whatever it holds -/
theorem Ds.nvol {H : Hp} {s p : Addr} {o : HO} {N : Nat} (h : Ds H s N) (hp : H p = none) : ¬ vol (upd H p o) s p := by
  obtain ⟨A, B, bigs, cells, n, S, l⟩ := h
  rw [(S.new hp).volA]
  rintro (e | e | e)
  · exact ne_of_none S.st hp e.symm
  · exact ne_of_none S.ha hp e.symm
  · exact ne_of_none S.hb hp e.symm
/-- a store into an object that is none of the state's own -/
theorem Ds.mut {H : Hp} {s p : Addr} {o : HO} {N : Nat} (h : Ds H s N) (hp : ¬ vol H s p) : Ds (upd H p o) s N ∧ ∀ b, vol (upd H p o) s b ↔ vol H s b := by
  obtain ⟨A, B, bigs, cells, n, S, l⟩ := h
  have hp' := hp
  rw [S.volA] at hp
  have h1 : s ≠ p := fun e => hp (.inl e.symm)
  have h2 : A ≠ p := fun e => hp (.inr (.inl e.symm))
  have h3 : B ≠ p := fun e => hp (.inr (.inr e.symm))
  have S' : StAt (upd H p o) s A B bigs cells n := ⟨by rw [upd_ne h1]; exact S.st, by rw [upd_ne h2]; exact S.ha, by rw [upd_ne h3]; exact S.hb, S.ab, S.la, S.lb, S.nb⟩
  exact ⟨⟨A, B, bigs, cells, n, S', l⟩, fun b => vol_new h1⟩
theorem cut1 (xs : List V) : cutV xs (some 1) none = xs.drop 1 := by
  unfold cutV
  rw [show HT.sIx xs.length 0 (some 1) = min 1 xs.length from HT.sIx_nat xs.length 0 1, HT.sIx_none]
  cases xs with
  | nil => rfl
  | cons x r =>
    rw [show min 1 (x :: r).length = 1 by
      rw [List.length_cons]
      omega]
    show (List.take ((x :: r).length - 1) r) = r
    rw [List.length_cons, Nat.add_sub_cancel]
    exact List.take_length
section
variable {H : Hp} {s A B q : Addr} {bigs cells new : List Int} {n m : Int}
theorem StAt.tick (S : StAt H s A B bigs cells n) : StAt (upd H s (.lst [.ref A, .ref B, .int m])) s A B bigs cells m ∧ Kp s H (upd H s (.lst [.ref A, .ref B, .int m])) := by
  have S' : StAt (upd H s (.lst [.ref A, .ref B, .int m])) s A B bigs cells m := ⟨upd_same, by rw [upd_ne S.sa.symm]; exact S.ha, by rw [upd_ne S.sb.symm]; exact S.hb, S.ab, S.la, S.lb, S.nb⟩
  refine ⟨S', fun b o hb hv => ?_⟩
  rw [S.volA] at hv
  rw [S'.volA]
  exact ⟨by rw [upd_ne (fun e => hv (.inl e))]; exact hb, hv⟩
theorem StAt.putA (S : StAt H s A B bigs cells n) (l : new.length ≤ 100) : StAt (upd H A (.lst (new.map V.int))) s A B new cells n ∧ Kp s H (upd H A (.lst (new.map V.int))) := by
  have S' : StAt (upd H A (.lst (new.map V.int))) s A B new cells n := ⟨by rw [upd_ne S.sa]; exact S.st, upd_same, by rw [upd_ne S.ab.symm]; exact S.hb, S.ab, l, S.lb, S.nb⟩
  refine ⟨S', fun b o hb hv => ?_⟩
  rw [S.volA] at hv
  rw [S'.volA]
  exact ⟨by rw [upd_ne (fun e => hv (.inr (.inl e)))]; exact hb, hv⟩
theorem StAt.next (S : StAt H s A B bigs cells n) (nq : H q = none) (l : new.length ≤ 100) :
    StAt (upd (upd H q (.lst (new.map V.int))) s (.lst [.ref q, .ref B, .int m])) s q B new cells m ∧ Kp s H (upd (upd H q (.lst (new.map V.int))) s (.lst [.ref q, .ref B, .int m])) := by
  have qs : q ≠ s := (ne_of_none S.st nq).symm
  have qB : q ≠ B := (ne_of_none S.hb nq).symm
  have S' : StAt (upd (upd H q (.lst (new.map V.int))) s (.lst [.ref q, .ref B, .int m])) s q B new cells m :=
    ⟨upd_same, by rw [upd_ne qs, upd_same], by rw [upd_ne S.sb.symm, upd_ne qB.symm]; exact S.hb, qB, l, S.lb, S.nb⟩
  refine ⟨S', fun b o hb hv => ?_⟩
  rw [S.volA] at hv
  rw [S'.volA]
  refine ⟨by rw [upd_ne (fun e => hv (.inl e)), upd_ne (ne_of_none hb nq)]; exact hb, ?_⟩
  rintro (e | e | e)
  · exact hv (.inl e)
  · exact ne_of_none hb nq e
  · exact hv (.inr (.inr e))
end
/-- a draw: a number from 0 to z - 1 -/
def spDraw : Sp := fun vs H Q _ => ∃ (s : Addr) (N : Nat) (z : Int), vs = [.ref s, .int z] ∧ Ds H s N ∧ N < 1000000 ∧ 0 < z ∧ z < 100000000 ∧
  ∀ (d : Int) (H' : Hp), 0 ≤ d → d < z → Ds H' s (N + 1) → Kp s H H' → Q (.int d) H'
def spStart (K : PySem.W.Frag) : Sp := fun vs H Q _ => ∃ (a : Addr) (ns : List Int), vs = [.ref a] ∧ SqL K H a (ns.map V.int) ∧ ns.length ≤ 63 ∧
  ∀ (s : Addr) (H' : Hp), Same H H' → H s = none → Ds H' s 0 → (∀ b o, H b = some o → ¬ vol H' s b) → Q (.ref s) H'
end Dr

set_option Elab.async false
set_option linter.all false
set_option maxRecDepth 100000
namespace Tx
open PySem PySem.Spec PyProof.Rows L2 Rl Dr
/-! ### keywords of one or more parameters -/
theorem kbinds {K : PySem.W.Frag} {x qual : Str} {st : Stmt} {f : Addr} {fd : FuncData} {ps ks : List Str} {g : List Value → List Value → List Value} {gV : List V → List V → List V} (F : Fun K x qual st f fd)
    (h : ∀ (kV doc pm : Value) (an : Option Addr) (cdv ct : Value) (us ws : List Value), (g us ws).length = ps.length → bindArgs (PySem.W.fnOf x qual (defArgs st) (defBody st) (defScope st) .none kV doc pm an cdv ct) ⟨us, ks.zip ws⟩ = pure (ps.zip (g us ws)))
    (hr : ∀ {vs : List V} {us : List Value} {zs : List V} {ws : List Value}, Vals vs us → Vals zs ws → Vals (gV vs zs) (g us ws)) : KBinds K fd ps ks g gV := by
  obtain ⟨oc, od, kV, doc, pm, an, cdv, ct, osl, rfl, lk, hcd⟩ := F.ex
  exact ⟨fun s us ws _ hl => .of_eq (h kV doc pm an cdv ct us ws hl), hr⟩
/-! ### texts of small signs -/
def OkS (z : Str) : Prop := ∀ c ∈ z.cps.toList, c < 128
theorem OkS.strOk {z : Str} (h : OkS z) : PyData.strOk z = true := by
  unfold PyData.strOk
  rw [← Array.all_toList]
  refine List.all_eq_true.mpr fun c hc => decide_eq_true ?_
  have := h c hc
  omega
theorem app_cps (a b : Str) : (a ++ b).cps.toList = a.cps.toList ++ b.cps.toList := by
  show (a.cps ++ b.cps).toList = _
  exact Array.toList_append
theorem app_len (a b : Str) : (a ++ b).length = a.length + b.length := by
  show (a.cps ++ b.cps).size = a.cps.size + b.cps.size
  exact Array.size_append
theorem OkS.app {a b : Str} (ha : OkS a) (hb : OkS b) : OkS (a ++ b) := fun c hc => by
  rw [app_cps] at hc
  rcases List.mem_append.mp hc with h | h
  · exact ha c h
  · exact hb c h
theorem okS_one {c : Nat} (h : c < 128) : OkS ⟨#[c]⟩ := fun d hd => by
  have e : d = c := by simpa using hd
  omega
theorem OkS.rev {z : Str} (h : OkS z) : OkS (revStr z) := fun c hc => by
  unfold revStr at hc
  obtain ⟨i, _, e⟩ := List.mem_filterMap.mp hc
  exact h c (Array.mem_toList_iff.mpr (Array.mem_of_getElem? e))
theorem OkS.at {z : Str} {i c : Nat} (h : OkS z) (e : z.cps[i]? = some c) : c < 128 := h c (Array.mem_toList_iff.mpr (Array.mem_of_getElem? e))
theorem okS_join {sep : Str} (hs : OkS sep) : ∀ {l : List Str}, (∀ z ∈ l, OkS z) → OkS (Str.join sep l)
  | [], _ => fun c hc => by cases hc
  | [x], h => h x (by simp)
  | x :: y :: r, h => ((h x (by simp)).app hs).app (okS_join hs (l := y :: r) fun z hz => h z (List.mem_cons_of_mem _ hz))
theorem join_len_ones {l : List Str} (h : ∀ z ∈ l, z.length = 1) : (Txt.join Str.empty l).length = l.length := by
  rw [TL.join_eq]
  induction l with
  | nil => rfl
  | cons x r ih =>
    cases r with
    | nil => exact h x (by simp)
    | cons y r =>
      show (x ++ Str.empty ++ Str.join Str.empty (y :: r)).length = _
      rw [app_len, app_len, ih fun z hz => h z (List.mem_cons_of_mem _ hz), h x (by simp)]
      show 1 + 0 + (y :: r).length = (y :: r).length + 1
      omega
/-- lists of texts -/
theorem dp_strs {K : PySem.W.Frag} {H : Hp} : ∀ zs : List Str, DpAll K H (zs.map V.str) (zs.map PyData.str)
  | [] => .nil
  | z :: r => .cons (.str z) (dp_strs r)
theorem canLay_strs : ∀ zs : List Str, (∀ z ∈ zs, OkS z) → PyData.canLayAll0 (zs.map PyData.str) = true
  | [], _ => rfl
  | z :: r, h => by
    show (PyData.strOk z && PyData.canLayAll0 (r.map PyData.str)) = true
    rw [canLay_strs r fun y hy => h y (List.mem_cons_of_mem _ hy), (h z (by simp)).strOk]
    rfl
theorem depthAll_strs : ∀ zs : List Str, PyData.depthAll (zs.map PyData.str) ≤ 1
  | [] => Nat.zero_le _
  | z :: r => by
    have ih := depthAll_strs r
    simp only [List.map_cons, PyData.depthAll, PyData.depth]
    omega
theorem shaped_strs {zs : List Str} (h : ∀ z ∈ zs, OkS z) : SeqAt.shaped (.list (zs.map PyData.str)) = true := by
  have hd : (PyData.list (zs.map PyData.str)).depth ≤ 64 := by
    have := depthAll_strs zs
    simp only [PyData.depth]
    omega
  unfold SeqAt.shaped
  rw [show PyData.canLay0 (.list (zs.map PyData.str)) = PyData.canLayAll0 (zs.map PyData.str) from rfl, canLay_strs zs h, decide_eq_true hd]
  rfl
theorem eqv_nil_strs (zs : List Str) : PyData.eqv (.list (zs.map PyData.str)) (.list []) = zs.isEmpty := by
  cases zs <;> rfl
end Tx

set_option Elab.async false
set_option linter.all false
set_option maxRecDepth 100000
set_option maxHeartbeats 4000000
namespace K01
open PySem PySem.Spec PyProof.Rows L2 Rl Dr Tx
def topS (i : Nat) : Stmt := PySem.Challenge.pw_surerests_k01_valid_names.main.body.getD i (.Pass ⟨0, 0, 0, 0⟩)
abbrev s_valid_name : Stmt := topS 4
abbrev N_valid_name : List Str := ["text", "character"]
theorem sc_valid_name : FnScope ["text", "character"] ["text"] (defScope s_valid_name) := ⟨rfl, rfl, rfl, by decide +kernel, rfl, by decide +kernel, by decide +kernel⟩
abbrev s_stands_in_name : Stmt := topS 5
abbrev N_stands_in_name : List Str := ["character"]
theorem sc_stands_in_name : FnScope ["character"] ["character"] (defScope s_stands_in_name) := ⟨rfl, rfl, rfl, by decide +kernel, rfl, by decide +kernel, by decide +kernel⟩
abbrev s_l_start : Stmt := topS 7
abbrev N_l_start : List Str := ["_law_script", "_law_cell"]
theorem sc_l_start : FnScope ["_law_script", "_law_cell"] ["_law_script"] (defScope s_l_start) := ⟨rfl, rfl, rfl, by decide +kernel, rfl, by decide +kernel, by decide +kernel⟩
abbrev s_l_draw : Stmt := topS 8
abbrev N_l_draw : List Str := ["_law_state", "_law_size", "_law_digit", "_law_cell", "_law_one"]
theorem sc_l_draw : FnScope ["_law_state", "_law_size", "_law_digit", "_law_cell", "_law_one"] ["_law_state", "_law_size"] (defScope s_l_draw) := ⟨rfl, rfl, rfl, by decide +kernel, rfl, by decide +kernel, by decide +kernel⟩
abbrev s_l_signs : Stmt := topS 9
abbrev N_l_signs : List Str := ["_law_signs_here"]
theorem sc_l_signs : FnScope ["_law_signs_here"] [] (defScope s_l_signs) := ⟨rfl, rfl, rfl, by decide +kernel, rfl, by decide +kernel, by decide +kernel⟩
abbrev s_l_good : Stmt := topS 10
abbrev N_l_good : List Str := ["_law_word", "_law_letters", "_law_sign"]
theorem sc_l_good : FnScope ["_law_word", "_law_letters", "_law_sign"] ["_law_word"] (defScope s_l_good) := ⟨rfl, rfl, rfl, by decide +kernel, rfl, by decide +kernel, by decide +kernel⟩
abbrev s_law : Stmt := topS 11
abbrev N_law : List Str := ["_law_script", "_law_state", "_law_plan", "_law_signs_here", "_law_chars", "_law_word", "_law_actual", "_law_k"]
theorem sc_law : FnScope ["_law_script", "_law_state", "_law_plan", "_law_signs_here", "_law_chars", "_law_word", "_law_actual", "_law_k"] ["_law_script"] (defScope s_law) := ⟨rfl, rfl, rfl, by decide +kernel, rfl, by decide +kernel, by decide +kernel⟩
structure Tx (K : PySem.W.Frag) (mg : Str → Option Value) where
  m_abs : mg "abs" = none
  m_all : mg "all" = none
  m_bool : mg "bool" = none
  m_int : mg "int" = none
  m_isinstance : mg "isinstance" = none
  m_len : mg "len" = none
  m_list : mg "list" = none
  m_range : mg "range" = none
  c_LETTERS : ∃ u, mg "LETTERS" = some u ∧ RelV (.str "abcdefghijklmnopqrstuvwxyz") u
  c_DIGITS : ∃ u, mg "DIGITS" = some u ∧ RelV (.str "0123456789") u
  c_LONGEST : ∃ u, mg "LONGEST" = some u ∧ RelV (.int 6) u
  valid_name : FnE K mg "valid_name" "valid_name" s_valid_name ["text"]
  stands_in_name : FnE K mg "_stands_in_name" "_stands_in_name" s_stands_in_name ["character"]
  l_start : FnE K mg "_law_start" "_law_start" s_l_start ["_law_script"]
  l_draw : FnE K mg "_law_draw" "_law_draw" s_l_draw ["_law_state", "_law_size"]
  l_signs : FnE K mg "_law_signs" "_law_signs" s_l_signs []
  l_good : FnE K mg "_law_good" "_law_good" s_l_good ["_law_word"]
def kb_valid_name_0_text_g {α : Type} : List α → List α → List α
  | [], [w0] => [w0]
  | _, _ => []
theorem kb_valid_name_0_text {K : PySem.W.Frag} {mg : Str → Option Value} (T : Tx K mg) : KBinds K T.valid_name.fd ["text"] ["text"] kb_valid_name_0_text_g kb_valid_name_0_text_g := by
  refine kbinds T.valid_name.F (fun _ _ _ _ _ _ us ws hl => ?_) (fun {vs us zs ws} r1 r2 => ?_)
  · unfold kb_valid_name_0_text_g at hl ⊢
    split at hl
    · rfl
    · cases hl
  · by_cases hu : vs.length = 0 ∧ zs.length = 1
    · obtain ⟨h1, h2⟩ := hu
      have e1 := r1.length
      have e2 := r2.length
      match vs, us, zs, ws, r1, r2, h1, h2 with
      | [], [], [z0], [w0], .nil, (.cons r0 .nil), _, _ => exact (.cons r0 .nil)
    · have a1 : kb_valid_name_0_text_g vs zs = [] := by
        unfold kb_valid_name_0_text_g
        split
        · exact absurd ⟨rfl, rfl⟩ hu
        · rfl
      have a2 : kb_valid_name_0_text_g us ws = [] := by
        have e1 := r1.length
        have e2 := r2.length
        unfold kb_valid_name_0_text_g
        split
        · exact absurd ⟨e1, e2⟩ hu
        · rfl
      rw [a1, a2]
      exact .nil
section
variable {P : Program} {w : World} {K : PySem.W.Frag} {mg : Str → Option Value} {base : Heap}
theorem ok_l_draw (T : Tx K mg) : FnOk P w K mg base CX0 1 T.l_draw.f T.l_draw.fd ["_law_state", "_law_size"] spDraw := by
  refine T.l_draw.F.ok sc_l_draw (fun vs H Q E h => ?_) (fun cdv A outer s0 H vs Q E hr h => ?_)
  · obtain ⟨s, N, z, rfl, _⟩ := h
    rfl
  · obtain ⟨s, N, z, rfl, ⟨A0, B, bigs0, cells, n, S0, hn⟩, hN, z0, z1, k⟩ := h
    refine ⟨_, (pss_cons (ps_augS (pv 0) pe_int pg_list pe_int ip_add set_list)
      (pss_cons (ps_while PassesOwn.never (PW.pt (pw_and (pt_cmpR (op_neD hr.units) (pe_ix ix_list (pv 0) pe_int (fun _ _ => rfl)) (pe_lst pa_nil) (nomark _)) (pw_and1 (pt_cmpR op_eq (pe_ix ix_list (pe_ix ix_list (pv 0) pe_int (fun _ _ => rfl)) pe_int (fun _ _ => rfl)) pe_int (nomark _))))) (pss_one (ps_asg (pe_slice sl_list (pe_ix ix_list (pv 0) pe_int (fun _ _ => rfl)) (po_some pe_int) po_none) (pg_sub (pv 0) pe_int set_list))))
      (pss_cons (ps_if (pt_cmpR (op_neD hr.units) (pe_ix ix_list (pv 0) pe_int (fun _ _ => rfl)) (pe_lst pa_nil) (nomark _)) (pss_cons (ps_set (i := 2) sc_l_draw.nd rfl (.inl rfl) (pe_op op_modN (pe_callTy call_int1 (by rfl) T.m_int (by decide +kernel) (pa_cons (pe_ix ix_list (pe_ix ix_list (pv 0) pe_int (fun _ _ => rfl)) pe_int (fun _ _ => rfl)) pa_nil)) (pv 1)))
      (pss_cons (ps_asg (pe_op op_fdivN (pe_ix ix_list (pe_ix ix_list (pv 0) pe_int (fun _ _ => rfl)) pe_int (fun _ _ => rfl)) (pv 1)) (pg_sub (pe_ix ix_list (pv 0) pe_int (fun _ _ => rfl)) pe_int set_list))
      (pss_one (ps_ret (pv 2))))) pss_nil)
      (pss_cons (ps_set (i := 3) sc_l_draw.nd rfl (.inl rfl) (pe_op op_modN (pe_callTy call_int1 (by rfl) T.m_int (by decide +kernel) (pa_cons (pe_ix ix_list (pe_ix ix_list (pv 0) pe_int (fun _ _ => rfl)) (pe_op op_modN (pe_callTy call_int1 (by rfl) T.m_int (by decide +kernel) (pa_cons (pe_ix ix_list (pv 0) pe_int (fun _ _ => rfl)) pa_nil)) (pe_callB call_len_seq (by rfl) T.m_len (by decide +kernel) (pa_cons (pe_ix ix_list (pv 0) pe_int (fun _ _ => rfl)) pa_nil))) (fun _ _ => rfl)) pa_nil)) pe_int))
      (pss_cons (ps_set (i := 4) sc_l_draw.nd rfl (.inl rfl) (pe_op op_modN (pe_callTy call_int1 (by rfl) T.m_int (by decide +kernel) (pa_cons (pe_op op_pow (pe_op op_add (pe_op op_add (pe_op op_mul (pv 3) pe_int) (pe_op op_mul (pe_ix ix_list (pv 0) pe_int (fun _ _ => rfl)) pe_int)) pe_int) pe_int) pa_nil)) pe_int))
      (pss_one (ps_ret (pe_op op_modN (pe_op op_modN (pe_callTy call_int1 (by rfl) T.m_int (by decide +kernel) (pa_cons (pe_op op_pow (pe_op op_add (pe_op op_add (pe_op op_mul (pv 4) pe_int) (pe_op op_mul (pe_ix ix_list (pv 0) pe_int (fun _ _ => rfl)) pe_int)) pe_int) pe_int) pa_nil)) pe_int) (pv 1))))))))), ?_⟩
    -- state[2] += 1
    refine ⟨_, rfl, s, _, 2, _, rfl, rfl, by decide, sq S0.st, rfl, _, _, rfl, rfl, s, _, 2, 2, rfl, rfl, S0.st, rfl, ?_⟩
    obtain ⟨S1, K1⟩ := S0.tick (m := ((n + 1 : Nat) : Int))
    -- the while
    dsimp only [cx_K]
    refine cutS (fun σ' H' => σ' = [some (.ref s), some (.int z), none, none, none] ∧ ∃ A bigs, StAt H' s A B bigs cells ((n + 1 : Nat) : Int) ∧ Kp s H H') (fun nx hnx => ?_) (fun σ' H1 hR => ?_)
    · refine ⟨fun m σ H' => σ = [some (.ref s), some (.int z), none, none, none] ∧ ∃ A bigs, StAt H' s A B bigs cells ((n + 1 : Nat) : Int) ∧ Kp s H H' ∧ m = bigs.length,
        ⟨_, rfl, A0, bigs0, S1, K1, rfl⟩, fun m σ H' hW => ?_⟩
      obtain ⟨rfl, A, bigs, S, KK, rfl⟩ := hW
      refine ⟨_, rfl, s, _, 0, _, rfl, rfl, sq S.st, at0, Nat.zero_le _, fun p np => ?_⟩
      have S2 := S.new (o := .lst []) np
      have K2 : Kp s H (upd H' p (.lst [])) := KK.trans (Kp.new S.st np)
      refine ⟨.list (bigs.map PyData.int), .list [], .lst (sq S2.ha) (dp_ints _), .lst (sq upd_same) .nil, shaped_ints _, shaped_ints [], _, rfl, ?_⟩
      rw [eqv_nil_ints]
      cases bigs with
      | nil => exact iteF (hnx _ _ ⟨rfl, _, _, S2, K2⟩)
      | cons b r =>
        refine iteT ⟨_, rfl, s, _, 0, _, rfl, rfl, sq S2.st, at0, A, _, 0, _, rfl, rfl, sq S2.ha, at0, rfl, _, rfl, ?_⟩
        rw [dec_int]
        by_cases e : b = 0
        · subst e
          refine iteT ⟨fun σ' H' => σ' = [some (.ref s), some (.int z), none, none, none] ∧ ∃ A, StAt H' s A B r cells ((n + 1 : Nat) : Int) ∧ Kp s H H', fun σ' H' hN => ?_, ?_⟩
          · obtain ⟨rfl, A', S', K'⟩ := hN
            exact ⟨_, Nat.lt_succ_self _, rfl, A', r, S', K', rfl⟩
          · -- state[0] = state[0][1:]
            refine ⟨_, rfl, s, _, 0, _, rfl, rfl, sq S2.st, at0, 1, rfl, A, _, rfl, sq S2.ha, fun q nq => ?_⟩
            have lr : r.length ≤ 100 := Nat.le_trans (Nat.le_succ _) S2.la
            have S3 := S2.new (o := .lst (cutV ((0 :: r).map V.int) (some 1) none)) nq
            obtain ⟨S4, K4⟩ := S2.next (m := ((n + 1 : Nat) : Int)) nq lr
            refine ⟨_, rfl, s, _, 0, 0, rfl, rfl, S3.st, rfl, ?_⟩
            rw [cut1]
            exact ⟨rfl, q, S4, K2.trans K4⟩
        · rw [show (b == 0) = false from beq_eq_false_iff_ne.mpr e]
          exact iteF (hnx _ _ ⟨rfl, _, _, S2, K2⟩)
    · obtain ⟨rfl, A, bigs, S, KK⟩ := hR
      refine ⟨_, rfl, s, _, 0, _, rfl, rfl, sq S.st, at0, Nat.zero_le _, fun p np => ?_⟩
      have S2 := S.new (o := .lst []) np
      have K2 : Kp s H (upd H1 p (.lst [])) := KK.trans (Kp.new S.st np)
      refine ⟨.list (bigs.map PyData.int), .list [], .lst (sq S2.ha) (dp_ints _), .lst (sq upd_same) .nil, shaped_ints _, shaped_ints [], _, rfl, ?_⟩
      rw [eqv_nil_ints]
      cases bigs with
      | cons b r =>
        refine iteT ⟨_, rfl, s, _, 0, _, rfl, rfl, sq S2.st, at0, A, _, 0, _, rfl, rfl, sq S2.ha, at0, .inl ⟨_, rfl, _, rfl, _, _, rfl, rfl, (by omega), ?_⟩⟩
        refine ⟨_, rfl, s, _, 0, _, rfl, rfl, sq S2.st, at0, A, _, 0, _, rfl, rfl, sq S2.ha, at0, _, rfl, _, _, rfl, rfl, ⟨by omega, by omega⟩, ?_⟩
        refine ⟨_, rfl, s, _, 0, _, rfl, rfl, sq S2.st, at0, A, _, 0, 0, rfl, rfl, S2.ha, ixN_0 (Nat.succ_pos _), ?_⟩
        obtain ⟨S4, K4⟩ := S2.putA (new := b.fdiv z :: r) S2.la
        refine ⟨_, rfl, k _ _ (Int.fmod_nonneg_of_pos _ z0) (Int.fmod_lt_of_pos _ z0) ⟨_, _, _, _, _, S4, by omega⟩ (K2.trans K4)⟩
      | nil =>
        refine iteF ?_
        have hL : (0 : Int) < ((cells.map V.int).length : Int) := by
          rw [List.length_map]
          exact Int.natCast_pos.mpr S2.nb
        have i0 := Int.fmod_nonneg_of_pos ((n + 1 : Nat) : Int) hL
        have i1 := Int.fmod_lt_of_pos ((n + 1 : Nat) : Int) hL
        obtain ⟨c, hc⟩ := at_ints (ns := cells) i0 (by rw [← List.length_map (f := V.int) (as := cells)]; exact i1)
        refine ⟨_, rfl, s, _, 1, _, rfl, rfl, sq S2.st, at1, _, rfl, s, _, 2, _, rfl, rfl, sq S2.st, at2, .inl ⟨_, rfl, _, rfl, s, _, 1, _, rfl, rfl, sq S2.st, at1, B, _, rfl, .inl (sq S2.hb), _, _, rfl, rfl, (by omega), ?_⟩⟩
        have m1 : (2147483647 : Int) ≠ 0 := by decide
        have m2 : (2147483629 : Int) ≠ 0 := by decide
        refine ⟨B, _, _, _, rfl, rfl, sq S2.hb, hc, .inl ⟨_, rfl, _, _, rfl, rfl, m1, ?_⟩⟩
        have c0 := Int.fmod_nonneg_of_pos c (show (0 : Int) < 2147483647 by decide)
        have c1 := Int.fmod_lt_of_pos c (show (0 : Int) < 2147483647 by decide)
        refine ⟨_, rfl, _, _, rfl, rfl, .inl ⟨by omega, by omega⟩, _, rfl, s, _, 2, _, rfl, rfl, sq S2.st, at2, _, _, rfl, rfl, .inl ⟨by omega, by omega⟩, _, _, rfl, rfl, _, _, rfl, rfl, _, _, rfl, rfl, ⟨by decide, by decide, by omega⟩, .inl ⟨_, rfl, _, _, rfl, rfl, m1, ?_⟩⟩
        have o0 := Int.fmod_nonneg_of_pos ((c.fmod 2147483647 * 48271 + ((n + 1 : Nat) : Int) * 69621 + 7) ^ (5 : Int).toNat) (show (0 : Int) < 2147483647 by decide)
        have o1 := Int.fmod_lt_of_pos ((c.fmod 2147483647 * 48271 + ((n + 1 : Nat) : Int) * 69621 + 7) ^ (5 : Int).toNat) (show (0 : Int) < 2147483647 by decide)
        refine ⟨_, rfl, _, _, rfl, rfl, .inl ⟨by omega, by omega⟩, _, rfl, s, _, 2, _, rfl, rfl, sq S2.st, at2, _, _, rfl, rfl, .inl ⟨by omega, by omega⟩, _, _, rfl, rfl, _, _, rfl, rfl, _, _, rfl, rfl, ⟨by decide, by decide, by omega⟩, .inl ⟨_, rfl, _, _, rfl, rfl, m2, ?_⟩⟩
        refine ⟨_, rfl, _, _, rfl, rfl, (show z ≠ 0 by omega), ?_⟩
        exact k _ _ (Int.fmod_nonneg_of_pos _ z0) (Int.fmod_lt_of_pos _ z0) ⟨_, _, _, _, _, S2, by omega⟩ K2
/-! ### what a name is -/
abbrev LD : Str := "abcdefghijklmnopqrstuvwxyz"
abbrev DG : Str := "0123456789"
def inL (c : Nat) : Bool := decide (c ∈ LD.cps.toList)
def inD (c : Nat) : Bool := decide (c ∈ DG.cps.toList)
def vn (z : Str) : Bool := decide (1 ≤ z.length) && decide (z.length ≤ 6) && (match z.cps[0]? with | some c => inL c | none => false) && z.cps.toList.all (fun c => inL c || inD c)
def spC : Sp := fun vs H Q _ => ∃ c : Nat, vs = [.str ⟨#[c]⟩] ∧ Q (.bl (inL c || inD c)) H
def spV : Sp := fun vs H Q _ => ∃ z : Str, vs = [.str z] ∧ z.length ≤ 1000 ∧ ∀ H', Same H H' → Q (.bl (vn z)) H'
theorem ok_stands_in_name (T : Tx K mg) : FnOk P w K mg base CX0 1 T.stands_in_name.f T.stands_in_name.fd ["character"] spC := by
  refine T.stands_in_name.F.ok sc_stands_in_name (fun vs H Q E h => ?_) (fun cdv A outer s0 H vs Q E hr h => ?_)
  · obtain ⟨c, rfl, _⟩ := h
    rfl
  · obtain ⟨c, rfl, k⟩ := h
    refine ⟨_, (pss_one (ps_ret (pe_or (pe_cmpR op_in_sign (pv 0) (pe_glb (by rfl) T.c_LETTERS) rfl) (pe_one (pe_cmpR op_in_sign (pv 0) (pe_glb (by rfl) T.c_DIGITS) rfl))))), ?_⟩
    refine ⟨_, rfl, c, _, rfl, rfl, _, rfl, ?_⟩
    show if inL c = true then _ else _
    by_cases e : inL c = true
    · rw [e] at k ⊢
      exact iteT k
    · rw [Bool.not_eq_true] at e
      rw [e] at k ⊢
      refine iteF ⟨_, rfl, c, _, rfl, rfl, k⟩
theorem ok_valid_name (T : Tx K mg) : FnOk P w K mg base CX0 2 T.valid_name.f T.valid_name.fd ["text"] spV := by
  refine T.valid_name.F.ok sc_valid_name (fun vs H Q E h => ?_) (fun cdv A outer s0 H vs Q E hr h => ?_)
  · obtain ⟨z, rfl, _⟩ := h
    rfl
  · obtain ⟨z, rfl, hz, k⟩ := h
    have hz2 : z.length ≤ sizeLine := sz (by omega)
    refine ⟨_, (pss_cons (ps_if (pt_not (pt_chain op_le op_le pe_int (pe_callB call_len_str (by rfl) T.m_len (by decide +kernel) (pa_cons (pv 0) pa_nil)) (pe_glb (by rfl) T.c_LONGEST))) (pss_one (ps_ret pe_bl)) pss_nil)
      (pss_one (ps_ret (pe_and (pe_cmpR op_in_sign (pe_item_str (pv 0) pe_int (fun _ _ => rfl)) (pe_glb (by rfl) T.c_LETTERS) rfl) (pe_one (pe_callB (cr_all rfl) (by rfl) T.m_all (by decide +kernel) (pa_cons (pe_lc (own := [("character", 1)]) (g := gName 1) (tt := tYes) rfl sc_valid_name.nd (pi_str (pv 0)) (blkOk_by (own := [("character", 1)]) (N := N_valid_name) (sc := defScope s_valid_name) (by decide +kernel)) (fun _ _ _ _ _ => (pg_name (i := 1) sc_valid_name.nd rfl (.inl rfl))) (fun _ _ _ _ _ => pts_nil) (fun _ _ _ _ _ => (pcall T.stands_in_name (ok_stands_in_name T) (hr.mono (by decide)) (by rfl) pass0 (pa_cons (pv 1) pa_nil)))) pa_nil))))))), ?_⟩
    refine ⟨_, rfl, z, rfl, hz2, _, _, rfl, rfl, _, rfl, ?_⟩
    by_cases h1 : 1 ≤ z.length
    · refine ite2 (fun _ => ?_) (fun q => absurd (decide_eq_true (by omega)) q)
      refine ⟨_, _, rfl, rfl, _, rfl, ?_⟩
      by_cases h6 : z.length ≤ 6
      · refine ite2 (fun q => ?_) (fun _ => ?_)
        · rw [decide_eq_true (by omega)] at q
          cases q
        · have h0 : 0 < z.cps.size := h1
          have e0 : z.cps[0]? = some z.cps[0] := Array.getElem?_eq_getElem h0
          refine ⟨_, rfl, z, 0, z.cps[0], rfl, rfl, by decide, by decide, (by show (0 : Int) < (z.length : Int); omega), e0, z.cps[0], _, rfl, rfl, _, rfl, ?_⟩
          show if inL z.cps[0] = true then _ else _
          have ev : vn z = (inL z.cps[0] && z.cps.toList.all (fun c => inL c || inD c)) := by
            unfold vn
            rw [decide_eq_true h1, decide_eq_true h6, e0, Bool.true_and, Bool.true_and]
          rw [ev] at k
          by_cases e : inL z.cps[0] = true
          · rw [e, Bool.true_and] at k
            refine ite2 (fun _ => ?_) (fun q => absurd e q)
            refine ⟨_, rfl, z, rfl, fun D nD => lc_str (fun i H' => H' D = some (.lst ((z.cps.toList.take i).map fun c => V.bl (inL c || inD c))) ∧ Same H H') ⟨upd_same, same_new nD⟩ (fun i c H' hc hp => ?_) (fun H' hp => ?_)⟩
            · obtain ⟨p1, p2⟩ := hp
              have hi : z.cps.toList[i]? = some c := by rw [Array.getElem?_toList]; exact hc
              refine ⟨rfl, _, rfl, c, rfl, _, p1, ?_, ?_, ?_⟩
              · rw [List.length_map, List.length_take]
                refine Nat.lt_of_le_of_lt (Nat.min_le_right _ _) ?_
                rw [Array.length_toList]
                exact szl (by have : z.cps.size ≤ 1000 := hz; omega)
              · rw [upd_same, List.take_add_one, hi, List.map_append]
                rfl
              · exact Same.mut p2 nD
            · obtain ⟨p1, p2⟩ := hp
              have et : z.cps.toList.take z.cps.size = z.cps.toList := List.take_of_length_le (by rw [Array.length_toList]; exact Nat.le_refl _)
              rw [et] at p1
              refine ⟨D, z.cps.toList.map (fun c => inL c || inD c), rfl, sq (by rw [List.map_map]; exact p1), ?_⟩
              have ea : (z.cps.toList.map (fun c => inL c || inD c)).all id = z.cps.toList.all (fun c => inL c || inD c) := by
                rw [List.all_map]
                rfl
              rw [ea]
              exact k _ p2
          · rw [Bool.not_eq_true] at e
            rw [e, Bool.false_and] at k
            refine ite2 (fun q => absurd (e.symm.trans q) Bool.false_ne_true) (fun _ => ?_)
            exact k _ (Same.refl _)
      · refine ite2 (fun _ => ?_) (fun q => ?_)
        · have e : vn z = false := by
            unfold vn
            rw [decide_eq_false h6, Bool.and_false, Bool.false_and, Bool.false_and]
          rw [e] at k
          exact k _ (Same.refl _)
        · rw [decide_eq_false (by omega)] at q
          exact absurd rfl q
    · refine ite2 (fun q => ?_) (fun _ => ?_)
      · rw [decide_eq_false (by omega)] at q
        cases q
      · refine ⟨_, rfl, iteT ?_⟩
        have e : vn z = false := by
          unfold vn
          rw [decide_eq_false h1, Bool.false_and, Bool.false_and, Bool.false_and]
        rw [e] at k
        exact k _ (Same.refl _)
theorem mem_LDDG (c : Nat) : decide (c ∈ (LD ++ DG).cps.toList) = (inL c || inD c) := by
  rw [app_cps]
  unfold inL inD
  rw [← Bool.decide_or]
  exact decide_eq_decide.mpr List.mem_append
def spG : Sp := fun vs H Q _ => ∃ z : Str, vs = [.str z] ∧ z.length ≤ 1000 ∧ OkS z ∧ ∀ H', Same H H' → Q (.bl (vn z)) H'
theorem vn_of {z : Str} {c : Nat} (h1 : 1 ≤ z.length) (h6 : z.length ≤ 6) (e0 : z.cps[0]? = some c) : vn z = (inL c && z.cps.toList.all (fun c => inL c || inD c)) := by
  unfold vn
  rw [decide_eq_true h1, decide_eq_true h6, e0, Bool.true_and, Bool.true_and]
theorem filter_not_all (p : Nat → Bool) : ∀ l : List Nat, (l.filter (fun c => !p c)).isEmpty = l.all p
  | [] => rfl
  | c :: r => by
    have ih := filter_not_all p r
    cases e : p c with
    | true =>
      rw [List.filter_cons, List.all_cons, e]
      simpa using ih
    | false =>
      rw [List.filter_cons, List.all_cons, e]
      rfl
theorem ok_l_good (T : Tx K mg) : FnOk P w K mg base CX0 1 T.l_good.f T.l_good.fd ["_law_word"] spG := by
  refine T.l_good.F.ok sc_l_good (fun vs H Q E h => ?_) (fun cdv A outer s0 H vs Q E hr h => ?_)
  · obtain ⟨z, rfl, _⟩ := h
    rfl
  · obtain ⟨z, rfl, hz, ho, k⟩ := h
    have hz2 : z.length ≤ sizeLine := sz (by omega)
    refine ⟨_, (pss_cons (ps_set (i := 1) sc_l_good.nd rfl (.inr rfl) pe_str)
      (pss_cons (ps_if (PW.pt (pw_or (pt_cmpR op_lt (pe_callB call_len_str (by rfl) T.m_len (by decide +kernel) (pa_cons (pv 0) pa_nil)) pe_int (nomark _)) (pw_or (pt_cmpR op_gt (pe_callB call_len_str (by rfl) T.m_len (by decide +kernel) (pa_cons (pv 0) pa_nil)) pe_int (nomark _)) (pw_or1 (pt_cmpR op_notIn_sign (pe_item_str (pv 0) pe_int (fun _ _ => rfl)) (pv 1) rfl))))) (pss_one (ps_ret pe_bl)) pss_nil)
      (pss_one (ps_ret (pe_cmpR (op_eqD hr.units) (pe_lc (own := [("_law_sign", 2)]) (g := gName 2) rfl sc_l_good.nd (pi_str (pv 0)) (blkOk_by (own := [("_law_sign", 2)]) (N := N_l_good) (sc := defScope s_l_good) (by decide +kernel)) (fun _ _ _ _ _ => (pg_name (i := 2) sc_l_good.nd rfl (.inl rfl))) (fun _ _ _ _ _ => (pts_one (pt_cmpR op_notIn_sign (pv 2) (pe_op op_add_str (pv 1) pe_str) rfl))) (fun _ _ _ _ _ => (pv 2))) (pe_lst pa_nil) (nomark _)))))), ?_⟩
    refine ⟨_, rfl, z, rfl, hz2, _, _, rfl, rfl, _, rfl, ?_⟩
    by_cases h1 : z.length < 1
    · refine ite2 (fun _ => ?_) (fun q => absurd (decide_eq_true (by omega)) q)
      have e : vn z = false := by
        unfold vn
        rw [decide_eq_false (by omega), Bool.false_and, Bool.false_and, Bool.false_and]
      rw [e] at k
      exact k _ (Same.refl _)
    · refine ite2 (fun q => absurd (of_decide_eq_true q) (by omega)) (fun _ => ?_)
      refine ⟨_, rfl, z, rfl, hz2, _, _, rfl, rfl, _, rfl, ?_⟩
      by_cases h6 : z.length ≤ 6
      · refine ite2 (fun q => absurd (of_decide_eq_true q) (by omega)) (fun _ => ?_)
        have h0 : 0 < z.cps.size := by show 0 < z.length; omega
        have e0 : z.cps[0]? = some z.cps[0] := Array.getElem?_eq_getElem h0
        have ev := vn_of (z := z) (by omega) h6 e0
        rw [ev] at k
        refine ⟨_, rfl, z, 0, z.cps[0], rfl, rfl, by decide, by decide, (by show (0 : Int) < (z.length : Int); omega), e0, _, rfl, z.cps[0], _, rfl, rfl, _, rfl, ?_⟩
        show if (!inL z.cps[0]) = true then _ else _
        by_cases e : inL z.cps[0] = true
        · rw [e] at k ⊢
          rw [Bool.true_and] at k
          refine iteF ?_
          refine ⟨_, rfl, z, rfl, fun D nD => lc_str (fun i H' => H' D = some (.lst (((z.cps.toList.take i).filter (fun c => !(inL c || inD c))).map fun c => V.str ⟨#[c]⟩)) ∧ Same H H') ⟨upd_same, same_new nD⟩ (fun i c H' hc hp => ?_) (fun H' hp => ?_)⟩
          · obtain ⟨p1, p2⟩ := hp
            have hi : z.cps.toList[i]? = some c := by rw [Array.getElem?_toList]; exact hc
            have et : (z.cps.toList.take (i + 1)).filter (fun c => !(inL c || inD c)) = (z.cps.toList.take i).filter (fun c => !(inL c || inD c)) ++ (if (!(inL c || inD c)) = true then [c] else []) := by
              rw [List.take_add_one, hi, List.filter_append]
              show _ ++ List.filter _ [c] = _
              rw [List.filter_cons]
              rfl
            refine ⟨rfl, _, rfl, _, rfl, _, _, rfl, rfl, ?_, c, _, rfl, rfl, _, rfl, ?_⟩
            · exact sz (by decide +kernel)
            · show if (!decide (c ∈ (LD ++ DG).cps.toList)) = true then _ else _
              rw [mem_LDDG]
              cases ec : (inL c || inD c) with
              | true =>
                rw [ec] at et
                refine iteF ⟨?_, p2⟩
                rw [et, p1]
                simp
              | false =>
                rw [ec] at et
                refine iteT ⟨_, rfl, _, p1, ?_, ?_, Same.mut p2 nD⟩
                · rw [List.length_map]
                  refine Nat.lt_of_le_of_lt (List.length_filter_le _ _) ?_
                  rw [List.length_take]
                  refine Nat.lt_of_le_of_lt (Nat.min_le_right _ _) ?_
                  rw [Array.length_toList]
                  exact szl (by have : z.cps.size ≤ 1000 := hz; omega)
                · rw [upd_same, et, List.map_append]
                  rfl
          · obtain ⟨p1, p2⟩ := hp
            have et : z.cps.toList.take z.cps.size = z.cps.toList := List.take_of_length_le (by rw [Array.length_toList]; exact Nat.le_refl _)
            rw [et] at p1
            refine ⟨Nat.zero_le _, fun p np => ?_⟩
            have nDp : D ≠ p := ne_of_none p1 np
            let zs : List Str := (z.cps.toList.filter (fun c => !(inL c || inD c))).map fun c => ⟨#[c]⟩
            have p1' : (upd H' p (.lst [])) D = some (.lst (zs.map V.str)) := by
              rw [upd_ne nDp, p1, List.map_map]
              rfl
            have hzs : ∀ y ∈ zs, OkS y := fun y hy => by
              obtain ⟨c, hc, rfl⟩ := List.mem_map.mp hy
              exact okS_one (ho c (List.mem_filter.mp hc).1)
            refine ⟨.list (zs.map PyData.str), .list [], .lst (sq p1') (dp_strs _), .lst (sq upd_same) .nil, shaped_strs hzs, shaped_ints [], ?_⟩
            rw [eqv_nil_strs, List.isEmpty_map, filter_not_all]
            exact k _ (p2.trans (same_new np))
        · rw [Bool.not_eq_true] at e
          rw [e] at k ⊢
          rw [Bool.false_and] at k
          exact iteT (k _ (Same.refl _))
      · refine ite2 (fun _ => ?_) (fun q => absurd (decide_eq_true (by omega)) q)
        have e : vn z = false := by
          unfold vn
          rw [decide_eq_false h6, Bool.and_false, Bool.false_and, Bool.false_and]
        rw [e] at k
        exact k _ (Same.refl _)
/-! ### the signs -/
abbrev S1 : Str := " !\"#$&'()*+,-./0123456789:;<=>?@ABCDEFGHIJKLMNOPQRSTUVWXYZ[\\]^_`"
abbrev S2 : Str := "abcdefghijklmnopqrstuvwxyz{|}~\n"
theorem okS_S1 : OkS S1 := by
  have h : S1.cps.toList.all (fun c => decide (c < 128)) = true := by decide +kernel
  exact fun c hc => of_decide_eq_true (List.all_eq_true.mp h c hc)
theorem okS_S2 : OkS S2 := by
  have h : S2.cps.toList.all (fun c => decide (c < 128)) = true := by decide +kernel
  exact fun c hc => of_decide_eq_true (List.all_eq_true.mp h c hc)
theorem len_S : (S1 ++ S2).length = S1.length + S2.length := app_len _ _
theorem len_S1 : S1.length ≤ 100 := by decide +kernel
theorem len_S2 : S2.length ≤ 100 := by decide +kernel
theorem len_S0 : 0 < S1.length := by decide +kernel
def spS : Sp := fun vs H Q _ => vs = [] ∧ Q (.str (S1 ++ S2)) H
theorem ok_l_signs (T : Tx K mg) : FnOk P w K mg base CX0 1 T.l_signs.f T.l_signs.fd [] spS := by
  refine T.l_signs.F.ok sc_l_signs (fun vs H Q E h => ?_) (fun cdv A outer s0 H vs Q E hr h => ?_)
  · obtain ⟨rfl, _⟩ := h
    rfl
  · obtain ⟨rfl, k⟩ := h
    refine ⟨_, (pss_cons (ps_set (i := 0) sc_l_signs.nd rfl (.inl rfl) pe_str)
      (pss_one (ps_ret (pe_op op_add_str (pv 0) pe_str)))), ?_⟩
    have h1 := len_S1
    have h2 := len_S2
    exact ⟨_, rfl, _, _, rfl, rfl, sz (by show S1.length + S2.length ≤ 100000; omega), k⟩
theorem ok_l_start (T : Tx K mg) : FnOk P w K mg base CX0 1 T.l_start.f T.l_start.fd ["_law_script"] (spStart K) := by
  refine T.l_start.F.ok sc_l_start (fun vs H Q E h => ?_) (fun cdv A outer s0 H vs Q E hr h => ?_)
  · obtain ⟨a, ns, rfl, _⟩ := h
    rfl
  · obtain ⟨a, ns, rfl, hS, hl, k⟩ := h
    refine ⟨_, (pss_one (ps_ret (pe_lst (pa_cons (pe_lc (own := [("_law_cell", 1)]) (g := gName 1) rfl sc_l_start.nd (pi_list (pv 0)) (blkOk_by (own := [("_law_cell", 1)]) (N := N_l_start) (sc := defScope s_l_start) (by decide +kernel)) (fun _ _ _ _ _ => (pg_name (i := 1) sc_l_start.nd rfl (.inl rfl))) (fun _ _ _ _ _ => (pts_one (pt_cmpR op_ge (pe_callB call_abs (by rfl) T.m_abs (by decide +kernel) (pa_cons (pv 1) pa_nil)) (pe_op op_pow pe_int pe_int) (nomark _)))) (fun _ _ _ _ _ => (pe_callB call_abs (by rfl) T.m_abs (by decide +kernel) (pa_cons (pv 1) pa_nil)))) (pa_cons (pe_op op_cat (pe_callTy call_list_of (by rfl) T.m_list (by decide +kernel) (pa_cons (pv 0) pa_nil)) (pe_lst (pa_cons pe_int pa_nil))) (pa_cons pe_int pa_nil)))))), ?_⟩
    refine ⟨_, rfl, a, rfl, ⟨_, hS⟩, fun D nD => lc_list (xs := ns.map V.int) (fun i H' => ∃ l : List Int, H' D = some (.lst (l.map V.int)) ∧ l.length ≤ i ∧ Same H H') ⟨[], upd_same, Nat.le_refl _, same_new nD⟩ (fun i H' _ ⟨l, _, _, h3⟩ => h3.seq hS) (fun i x H' hx hp => ?_) (fun H' hp => ?_)⟩
    · obtain ⟨l, p1, p2, p3⟩ := hp
      obtain ⟨c, _, rfl⟩ := List.mem_map.mp (List.mem_of_getElem? hx)
      have hi : i < 63 := by
        have := (List.getElem?_eq_some_iff.mp hx).1
        rw [List.length_map] at this
        omega
      refine ⟨rfl, _, rfl, c, rfl, _, _, rfl, rfl, ⟨by decide, by decide, by decide⟩, _, _, rfl, rfl, _, rfl, ?_⟩
      refine ite2 (fun _ => ?_) (fun _ => ?_)
      · refine ⟨_, rfl, c, rfl, _, p1, ?_, l ++ [if c < 0 then -c else c], ?_, ?_, Same.mut p3 nD⟩
        · rw [List.length_map]
          exact szl (by omega)
        · rw [upd_same, List.map_append]
          rfl
        · rw [List.length_append]
          show l.length + 1 ≤ i + 1
          omega
      · exact ⟨l, p1, by omega, p3⟩
    · obtain ⟨l, p1, p2, p3⟩ := hp
      rw [List.length_map] at p2
      refine ⟨_, rfl, a, _, rfl, .inl (p3.seq hS), fun L nL => ⟨sz (by decide), fun q nq => ?_⟩⟩
      have nLq : L ≠ q := ne_of_none upd_same nq
      have nDL : D ≠ L := ne_of_none p1 nL
      have nDq : D ≠ q := ne_of_none (by rw [upd_ne nDL]; exact p1) nq
      refine ⟨L, q, _, _, rfl, rfl, by rw [upd_ne nLq]; exact upd_same, upd_same, sz (by rw [List.length_map]; show ns.length + 1 ≤ 100000; omega), fun p np => ⟨sz (by show 3 ≤ 100000; omega), fun s ns' => ?_⟩⟩
      have hD3 : (upd (upd H' L (.lst (ns.map V.int))) q (.lst [.int 5])) D = some (.lst (l.map V.int)) := by rw [upd_ne nDq, upd_ne nDL]; exact p1
      have nDp : D ≠ p := ne_of_none hD3 np
      have hD4 : (upd (upd (upd H' L (.lst (ns.map V.int))) q (.lst [.int 5])) p (.lst (ns.map V.int ++ [.int 5]))) D = some (.lst (l.map V.int)) := by rw [upd_ne nDp]; exact hD3
      have nDs : D ≠ s := ne_of_none hD4 ns'
      have nps : p ≠ s := ne_of_none upd_same ns'
      have s4 : Same H (upd (upd (upd H' L (.lst (ns.map V.int))) q (.lst [.int 5])) p (.lst (ns.map V.int ++ [.int 5]))) := ((p3.trans (same_new nL)).trans (same_new nq)).trans (same_new np)
      have hs0 : H s = none := s4.free ns'
      have hD0 : H D = none := nD
      have hp0 : H p = none := (((p3.trans (same_new nL)).trans (same_new nq))).free np
      have S : StAt (upd (upd (upd (upd H' L (.lst (ns.map V.int))) q (.lst [.int 5])) p (.lst (ns.map V.int ++ [.int 5]))) s (.lst [.ref D, .ref p, .int 0])) s D p l (ns ++ [5]) ((0 : Nat) : Int) := by
        refine ⟨upd_same, by rw [upd_ne nDs]; exact hD4, ?_, nDp, by omega, ?_, ?_⟩
        · rw [upd_ne nps, upd_same, List.map_append]
          rfl
        · rw [List.length_append]
          show ns.length + 1 ≤ 100
          omega
        · rw [List.length_append]
          exact Nat.succ_pos _
      refine k s _ (s4.trans (same_new ns')) hs0 ⟨D, p, l, _, 0, S, Nat.le_refl _⟩ fun b o hb => ?_
      rw [S.volA]
      rintro (e | e | e)
      · exact ne_of_none hb hs0 e
      · exact ne_of_none hb hD0 e
      · exact ne_of_none hb hp0 e
/-! ### the law -/
def spLaw (K : PySem.W.Frag) : Sp := fun vs H Q _ => ∃ (a : Addr) (ns : List Int), vs = [.ref a] ∧ SqL K H a (ns.map V.int) ∧ ns.length ≤ 63 ∧ ∀ H', Q (.bl true) H'
/-- texts of one sign each -/
def Ones (zs : List Str) : Prop := ∀ z ∈ zs, OkS z ∧ z.length = 1
theorem ones_snoc {zs : List Str} {c : Nat} (h : Ones zs) (hc : c < 128) : Ones (zs ++ [⟨#[c]⟩]) := fun z hz => by
  rcases List.mem_append.mp hz with q | q
  · exact h z q
  · rw [List.mem_singleton] at q
    subst q
    exact ⟨okS_one hc, rfl⟩
theorem ones_set {zs : List Str} {c j : Nat} (h : Ones zs) (hc : c < 128) : Ones (zs.set j ⟨#[c]⟩) := fun z hz => by
  rcases List.mem_or_eq_of_mem_set hz with q | q
  · exact h z q
  · subst q
    exact ⟨okS_one hc, rfl⟩
theorem join_ones {zs : List Str} (h : Ones zs) : OkS (Txt.join Str.empty zs) ∧ (Txt.join Str.empty zs).length = zs.length := by
  refine ⟨?_, join_len_ones fun z hz => (h z hz).2⟩
  rw [TL.join_eq]
  exact okS_join (fun c hc => by cases hc) fun z hz => (h z hz).1
theorem sum_ones : ∀ {zs : List Str}, Ones zs → (zs.map (·.length)).sum = zs.length
  | [], _ => rfl
  | z :: r, h => by
    rw [List.map_cons, List.sum_cons, (h z (by simp)).2, sum_ones (zs := r) fun y hy => h y (List.mem_cons_of_mem _ hy), List.length_cons]
    omega
theorem item_of {z : Str} {d : Int} (ho : OkS z) (h0 : 0 ≤ d) (h1 : d < (z.length : Int)) : ∃ c, z.cps[d.toNat]? = some c ∧ c < 128 := by
  have h : d.toNat < z.cps.size := by
    have : d.toNat < z.length := by omega
    exact this
  exact ⟨z.cps[d.toNat], Array.getElem?_eq_getElem h, ho.at (Array.getElem?_eq_getElem h)⟩
theorem ok_law {f : Addr} {fd : FuncData} (F : Fun K "law" "law" s_law f fd) (T : Tx K mg) : FnOk P w K mg base CX0 3 f fd ["_law_script"] (spLaw K) := by
  refine F.ok sc_law (fun vs H Q E h => ?_) (fun cdv A outer s0 H vs Q E hr h => ?_)
  · obtain ⟨a, ns, rfl, _⟩ := h
    rfl
  · obtain ⟨a, ns, rfl, hS, hlen, k⟩ := h
    refine ⟨_, (pss_cons (ps_set (i := 1) sc_law.nd rfl (.inr rfl) (pcall T.l_start (ok_l_start T) (hr.mono (by decide)) (by rfl) pass0 (pa_cons (pv 0) pa_nil)))
      (pss_cons (ps_set (i := 2) sc_law.nd rfl (.inl rfl) (pcall T.l_draw (ok_l_draw T) (hr.mono (by decide)) (by rfl) pass0 (pa_cons (pv 1) (pa_cons pe_int pa_nil))))
      (pss_cons (ps_set (i := 3) sc_law.nd rfl (.inr rfl) pe_str)
      (pss_cons (ps_if (pt_cmpR op_eq (pv 2) pe_int (nomark _)) (pss_one (ps_set (i := 3) sc_law.nd rfl (.inr rfl) (pcall0 T.l_signs (ok_l_signs T) (hr.mono (by decide)) (by rfl) pass0))) pss_nil)
      (pss_cons (ps_setLc (i := 4) (own := [("_law_k", 7)]) (g := gName 7) (tt := tYes) rfl sc_law.nd rfl rfl (sw_true rfl rfl rfl (by decide +kernel)) (pi_range1 rfl T.m_range (pa_cons (pcall T.l_draw (ok_l_draw T) (hr.mono (by decide)) (by rfl) pass0 (pa_cons (pv 1) (pa_cons (pe_ix ix_list (pe_lst (pa_cons pe_int (pa_cons pe_int (pa_cons pe_int (pa_cons pe_int pa_nil))))) (pcall T.l_draw (ok_l_draw T) (hr.mono (by decide)) (by rfl) pass0 (pa_cons (pv 1) (pa_cons pe_int pa_nil))) (fun _ _ => rfl)) pa_nil))) pa_nil)) (blkOk_by (own := [("_law_k", 7)]) (N := N_law) (sc := defScope s_law) (by decide +kernel)) (fun _ _ _ _ _ => (pg_name (i := 7) sc_law.nd rfl (.inl rfl))) (fun _ _ _ _ _ => pts_nil) (fun _ _ _ _ _ => (pe_item_str (pv 3) (pcall T.l_draw (ok_l_draw T) (hr.mono (by decide)) (by rfl) pass0 (pa_cons (pv 1) (pa_cons (pe_callB call_len_str (by rfl) T.m_len (by decide +kernel) (pa_cons (pv 3) pa_nil)) pa_nil))) (fun _ _ => rfl))))
      (pss_cons (ps_if (PW.pt (pw_and (pt_cmpR op_eq (pv 2) pe_int (nomark _)) (pw_and1 (pt_cmpR (op_neD hr.units) (pv 4) (pe_lst pa_nil) (nomark _))))) (pss_one (ps_asg (pe_item_str (pcall0 T.l_signs (ok_l_signs T) (hr.mono (by decide)) (by rfl) pass0) (pcall T.l_draw (ok_l_draw T) (hr.mono (by decide)) (by rfl) pass0 (pa_cons (pv 1) (pa_cons (pe_callB call_len_str (by rfl) T.m_len (by decide +kernel) (pa_cons (pcall0 T.l_signs (ok_l_signs T) (hr.mono (by decide)) (by rfl) pass0) pa_nil)) pa_nil))) (fun _ _ => rfl)) (pg_sub (pv 4) (pcall T.l_draw (ok_l_draw T) (hr.mono (by decide)) (by rfl) pass0 (pa_cons (pv 1) (pa_cons (pe_callB call_len_seq (by rfl) T.m_len (by decide +kernel) (pa_cons (pv 4) pa_nil)) pa_nil))) set_list))) pss_nil)
      (pss_cons (ps_set (i := 5) sc_law.nd rfl (.inl rfl) (pe_join pe_str (pv 4)))
      (pss_cons (ps_if (pt_cmpR op_eq (pcall T.l_draw (ok_l_draw T) (hr.mono (by decide)) (by rfl) pass0 (pa_cons (pv 1) (pa_cons pe_int pa_nil))) pe_int (nomark _)) (pss_one (ps_set (i := 5) sc_law.nd rfl (.inl rfl) (pe_ix ix_list (pe_lst (pa_cons (pe_op op_add_str (pv 5) pe_str) (pa_cons (pe_op op_add_str (pv 5) pe_str) (pa_cons (pe_op op_add_str pe_str (pv 5)) (pa_cons (pe_op op_add_str pe_str (pv 5)) pa_nil))))) (pcall T.l_draw (ok_l_draw T) (hr.mono (by decide)) (by rfl) pass0 (pa_cons (pv 1) (pa_cons pe_int pa_nil))) (fun _ _ => rfl)))) pss_nil)
      (pss_cons (ps_set (i := 6) sc_law.nd rfl (.inl rfl) (pcall T.valid_name (ok_valid_name T) (hr.mono (by decide)) (by rfl) pass0 (pa_cons (pv 5) pa_nil)))
      (pss_cons (ps_if (PW.pt (pw_or (pt_not (pt_val (pe_callB call_isi (by rfl) T.m_isinstance (by decide +kernel) (pa_cons (pv 6) (pa_cons (pe_bltn (v := .ty "bool") (by rfl) T.m_bool (by decide +kernel) rfl) pa_nil))))) (pw_or1 (pt_cmpR op_ne (pv 6) (pcall T.l_good (ok_l_good T) (hr.mono (by decide)) (by rfl) pass0 (pa_cons (pv 5) pa_nil)) (nomark _))))) (pss_one (ps_ret pe_bl)) pss_nil)
      (pss_one (ps_ret (pe_cmpR op_eq (pe_callK0 (ok_valid_name T) (hr.mono (by decide)) (by rfl) T.valid_name.g T.valid_name.F.kp (kb_valid_name_0_text T) pass0 (pk_cons (pe_revS (pv 5)) pk_nil)) (pcall T.l_good (ok_l_good T) (hr.mono (by decide)) (by rfl) pass0 (pa_cons (pe_revS (pv 5)) pa_nil)) (nomark _)))))))))))))), ?_⟩
    dsimp only [cx_K]
    -- state, plan, signs
    refine ⟨_, rfl, a, ns, rfl, hS, hlen, fun s H1 sm1 ns1 D1 _ => ?_⟩
    refine ⟨_, rfl, s, 0, 3, rfl, D1, by decide, by decide, by decide, fun pl H2 p0 p1 D2 K2 => ?_⟩
    dsimp only
    refine cutS (fun σ' H' => H' = H2 ∧ σ' = [some (.ref a), some (.ref s), some (.int pl), some (.str "abcdefghijklmnopqrstuvwxyz0123456789"), none, none, none, none]) (fun nx hnx => hnx _ _ ⟨rfl, rfl⟩) (fun σ' H' hR => ?_)
    obtain ⟨rfl, rfl⟩ := hR
    refine cutS (fun σ' H'' => H'' = H' ∧ ∃ g : Str, σ' = [some (.ref a), some (.ref s), some (.int pl), some (.str g), none, none, none, none] ∧ OkS g ∧ 0 < g.length ∧ g.length ≤ 200) (fun nx hnx => ?_) (fun σ' H'' hR => ?_)
    · refine ⟨_, rfl, rfl, _, rfl, ite2 (fun _ => ?_) (fun _ => ?_)⟩
      · refine ⟨rfl, hnx _ _ ⟨rfl, _, rfl, okS_S1.app okS_S2, ?_, ?_⟩⟩
        · have := len_S0
          rw [len_S]
          omega
        · have h1 := len_S1
          have h2 := len_S2
          rw [len_S]
          omega
      · refine hnx _ _ ⟨rfl, _, rfl, ?_, by decide +kernel, by decide +kernel⟩
        have h : ("abcdefghijklmnopqrstuvwxyz0123456789" : Str).cps.toList.all (fun c => decide (c < 128)) = true := by decide +kernel
        exact fun c hc => of_decide_eq_true (List.all_eq_true.mp h c hc)
    · obtain ⟨rfl, g, rfl, og, g0, g1⟩ := hR
      -- chars
      refine ⟨_, rfl, sz (by show 4 ≤ 100000; omega), fun q nq => ⟨_, rfl, s, _, 4, rfl, D2.new nq, by decide, by decide, by decide, fun d4 H3 a0 a1 D3 K3 => ?_⟩⟩
      have nvq := D2.nvol (o := .lst [.int 9, .int 9, .int 9, .int 80]) nq
      obtain ⟨e3, _⟩ := K3 q _ upd_same nvq
      obtain ⟨m, hm, m0, m1⟩ : ∃ m : Int, atI [V.int 9, .int 9, .int 9, .int 80] d4 = some (.int m) ∧ 0 < m ∧ m ≤ 80 := by
        obtain ⟨v, hv, _, h2⟩ := at_in (xs := [V.int 9, .int 9, .int 9, .int 80]) a0 a1
        simp only [List.mem_cons, List.not_mem_nil, or_false] at hv
        rcases hv with rfl | rfl | rfl | rfl
        · exact ⟨9, h2, by decide, by decide⟩
        · exact ⟨9, h2, by decide, by decide⟩
        · exact ⟨9, h2, by decide, by decide⟩
        · exact ⟨80, h2, by decide, by decide⟩
      refine ⟨q, _, _, _, rfl, rfl, sq e3, hm, s, _, m, rfl, D3, by decide, m0, by omega, fun n H4 n0 n1 D4 K4 => ⟨n, rfl, by omega, by omega, fun D nD => ?_⟩⟩
      have nvD := D4.nvol (o := .lst []) nD
      have D5 := D4.new (o := .lst []) nD
      dsimp only
      refine lc_range (lo := 0) (n := n.toNat) (fun i H' => ∃ zs : List Str, H' D = some (.lst (zs.map V.str)) ∧ zs.length = i ∧ Ones zs ∧ Ds H' s (10 + i) ∧ ¬ vol H' s D) ⟨[], upd_same, rfl, fun _ h => (nomatch h), D5.mono (by omega), nvD⟩ (fun i H' hi hp => ?_) (fun H' hp => ?_)
      · obtain ⟨zs, e1, e2, e5, e6, e7⟩ := hp
        refine ⟨rfl, _, rfl, _, rfl, _, rfl, g, rfl, sz (by omega), s, _, _, rfl, e6, by omega, by omega, by omega, fun d H6 b0 b1 D6 K6 => ?_⟩
        obtain ⟨c, hc, c1⟩ := item_of og b0 b1
        obtain ⟨f1, f2⟩ := K6 D _ e1 e7
        refine ⟨g, d, c, rfl, rfl, b0, by omega, b1, hc, _, f1, ?_, ?_⟩
        · rw [List.length_map]
          exact szl (by omega)
        · obtain ⟨D7, v7⟩ := D6.mut (o := .lst (zs.map V.str ++ [.str ⟨#[c]⟩])) f2
          refine ⟨zs ++ [⟨#[c]⟩], ?_, ?_, ones_snoc e5 c1, D7, fun z => f2 ((v7 D).mp z)⟩
          · rw [upd_same, List.map_append]
            rfl
          · rw [List.length_append, e2]
            rfl
      · obtain ⟨zs, e1, e2, e5, e6, e7⟩ := hp
        have hz : zs.length ≤ 80 := by omega
        replace e6 := e6.mono (show 10 + n.toNat ≤ 100 by omega)
        -- one sign changed
        refine cutS (fun σ' H'' => ∃ zs : List Str, σ' = [some (.ref a), some (.ref s), some (.int pl), some (.str g), some (.ref D), none, none, none] ∧ H'' D = some (.lst (zs.map V.str)) ∧ zs.length ≤ 80 ∧ Ones zs ∧ Ds H'' s 200) (fun nx hnx => ?_) (fun σ' H'' hR => ?_)
        · refine ⟨_, rfl, rfl, _, rfl, ite2 (fun _ => ?_) (fun _ => ?_)⟩
          · refine ⟨_, rfl, Nat.zero_le _, fun p np => ?_⟩
            have nDp : D ≠ p := ne_of_none e1 np
            have e1' : (upd H' p (.lst [])) D = some (.lst (zs.map V.str)) := by rw [upd_ne nDp]; exact e1
            have e6' := e6.new (o := .lst []) np
            have e7' : ¬ vol (upd H' p (.lst [])) s D := by
              obtain ⟨u, hu⟩ := e6.ex_
              rw [vol_new (ne_of_none hu np)]
              exact e7
            refine ⟨.list (zs.map PyData.str), .list [], .lst (sq e1') (dp_strs _), .lst (sq upd_same) .nil, shaped_strs fun z hz => (e5 z hz).1, shaped_ints [], _, rfl, ?_⟩
            rw [eqv_nil_strs]
            cases zs with
            | nil => exact iteF (hnx _ _ ⟨[], rfl, e1', Nat.zero_le _, e5, e6'.mono (by omega)⟩)
            | cons z0 zr =>
              generalize hzs : z0 :: zr = zs at *
              have hz0 : 0 < zs.length := by rw [← hzs]; exact Nat.succ_pos _
              have hS1 := len_S1
              have hS2 := len_S2
              have hS0 := len_S0
              have hSS := len_S
              refine ite2 (fun _ => ?_) (fun q => absurd (by rw [← hzs]; rfl) q)
              refine ⟨rfl, _, rfl, rfl, _, rfl, sz (by omega), s, _, _, rfl, e6', by omega, by omega, by omega, fun d H6 b0 b1 D6 K6 => ?_⟩
              obtain ⟨c, hc, c1⟩ := item_of (okS_S1.app okS_S2) b0 b1
              obtain ⟨f1, f2⟩ := K6 D _ e1' e7'
              refine ⟨_, d, c, rfl, rfl, b0, by omega, b1, hc, _, rfl, _, rfl, _, rfl, D, _, rfl, .inl (sq f1), ?_⟩
              have hl : ((zs.map V.str).length : Int) = (zs.length : Int) := by rw [List.length_map]
              refine ⟨s, _, _, rfl, D6, by omega, by omega, by omega, fun d' H7 b0' b1' D7 K7 => ?_⟩
              obtain ⟨h1, h2⟩ := K7 D _ f1 f2
              refine ⟨D, _, d', d'.toNat, rfl, rfl, h1, ixN_of b0' b1', ?_⟩
              obtain ⟨D8, v8⟩ := D7.mut (o := .lst ((zs.map V.str).set d'.toNat (.str ⟨#[c]⟩))) h2
              refine hnx _ _ ⟨zs.set d'.toNat ⟨#[c]⟩, rfl, ?_, by rw [List.length_set]; exact hz, ones_set e5 c1, D8.mono (by omega)⟩
              rw [upd_same, List.map_set]
          · exact hnx _ _ ⟨zs, rfl, e1, hz, e5, e6.mono (by omega)⟩
        · clear e1 e2 e5 e6 e7 hz
          clear zs
          obtain ⟨zs, rfl, e1, hz, e5, e6⟩ := hR
          -- word
          obtain ⟨oj, lj⟩ := join_ones e5
          refine ⟨⟨_, rfl⟩, _, rfl, _, D, zs, rfl, rfl, .inl (sq e1), ?_, ?_⟩
          · rw [sum_ones e5]
            have e0 : (Str.ofString "").length = 0 := by decide +kernel
            rw [e0]
            omega
          · have e0 : Str.ofString "" = Str.empty := by decide +kernel
            rw [e0]
            generalize Txt.join Str.empty zs = z0 at oj lj
            dsimp only
            refine cutS (fun σ' H'' => ∃ z : Str, σ' = [some (.ref a), some (.ref s), some (.int pl), some (.str g), some (.ref D), some (.str z), none, none] ∧ OkS z ∧ z.length ≤ 100) (fun nx hnx => ?_) (fun σ' H1' hR => ?_)
            · refine ⟨_, rfl, s, _, 6, rfl, e6, by omega, by decide, by decide, fun d H6 b0 b1 D6 K6 => ⟨rfl, _, rfl, ite2 (fun _ => ?_) (fun _ => ?_)⟩⟩
              · have n1 : (Str.ofString "\n").length = 1 := by decide +kernel
                have n2 : (Str.ofString " ").length = 1 := by decide +kernel
                have o1 : OkS (Str.ofString "\n") := by
                  have h : (Str.ofString "\n").cps.toList.all (fun c => decide (c < 128)) = true := by decide +kernel
                  exact fun c hc => of_decide_eq_true (List.all_eq_true.mp h c hc)
                have o2 : OkS (Str.ofString " ") := by
                  have h : (Str.ofString " ").cps.toList.all (fun c => decide (c < 128)) = true := by decide +kernel
                  exact fun c hc => of_decide_eq_true (List.all_eq_true.mp h c hc)
                refine ⟨_, rfl, _, _, rfl, rfl, sz (by omega), _, rfl, _, _, rfl, rfl, sz (by omega), _, rfl, _, _, rfl, rfl, sz (by omega), _, rfl, _, _, rfl, rfl, sz (by omega), sz (by show 4 ≤ 100000; omega), fun q nq => ?_⟩
                have nvq := D6.nvol (o := .lst [.str (z0 ++ Str.ofString "\n"), .str (z0 ++ Str.ofString " "), .str (Str.ofString " " ++ z0), .str (Str.ofString "\n" ++ z0)]) nq
                refine ⟨_, rfl, s, _, 4, rfl, D6.new nq, by omega, by decide, by decide, fun d' H7 b0' b1' D7 K7 => ?_⟩
                obtain ⟨f1, _⟩ := K7 q _ upd_same nvq
                obtain ⟨z, hz4, oz, lz⟩ : ∃ z : Str, atI [V.str (z0 ++ Str.ofString "\n"), .str (z0 ++ Str.ofString " "), .str (Str.ofString " " ++ z0), .str (Str.ofString "\n" ++ z0)] d' = some (.str z) ∧ OkS z ∧ z.length ≤ 100 := by
                  obtain ⟨v, hv, _, h2⟩ := at_in (xs := [V.str (z0 ++ Str.ofString "\n"), .str (z0 ++ Str.ofString " "), .str (Str.ofString " " ++ z0), .str (Str.ofString "\n" ++ z0)]) b0' b1'
                  simp only [List.mem_cons, List.not_mem_nil, or_false] at hv
                  rcases hv with rfl | rfl | rfl | rfl
                  · exact ⟨_, h2, oj.app o1, by rw [app_len]; omega⟩
                  · exact ⟨_, h2, oj.app o2, by rw [app_len]; omega⟩
                  · exact ⟨_, h2, o2.app oj, by rw [app_len]; omega⟩
                  · exact ⟨_, h2, o1.app oj, by rw [app_len]; omega⟩
                exact ⟨q, _, _, _, rfl, rfl, sq f1, hz4, hnx _ _ ⟨z, rfl, oz, lz⟩⟩
              · exact hnx _ _ ⟨z0, rfl, oj, by omega⟩
            · obtain ⟨z, rfl, oz, lz⟩ := hR
              -- valid_name and the law's own word
              refine ⟨_, rfl, z, rfl, by omega, fun H2' _ => ?_⟩
              refine ⟨_, rfl, _, _, _, _, true, rfl, .ty "bool", .base (.bl _), kit_ty (by decide +kernel), true, rfl, ?_⟩
              refine iteF ?_
              refine ⟨_, rfl, _, rfl, z, rfl, by omega, oz, fun H3' _ => ⟨rfl, _, rfl, ?_⟩⟩
              rw [decide_eq_true rfl]
              refine iteF ?_
              have lr := revStr_length z
              refine ⟨_, rfl, z, rfl, sz (by omega), revStr z, rfl, by omega, fun H4' _ => ?_⟩
              refine ⟨_, rfl, z, rfl, sz (by omega), revStr z, rfl, by omega, oz.rev, fun H5' _ => ⟨rfl, ?_⟩⟩
              rw [decide_eq_true rfl]
              exact k _
end
theorem all_mk {l : PySem.W.OpenLaw} {w : World} {K : PySem.W.Frag} {h : Heap} {mg : Str → Option Value} {fa f0 f1 f2 f3 f4 f5 f6 : Addr} (X : K.In h) (G : h.Ns mainGlobals mg) (hfa : mg "law" = some (.ref fa))
    {od0 an0 od1 an1 od2 an2 od3 an3 od4 an4 od5 an5 od6 an6 : Option Addr} {sl0 sl1 sl2 sl3 sl4 sl5 sl6 : Array (Option Value)} {oc0 kV0 dc0 pm0 cd0 ct0 oc1 kV1 dc1 pm1 cd1 ct1 oc2 kV2 dc2 pm2 cd2 ct2 oc3 kV3 dc3 pm3 cd3 ct3 oc4 kV4 dc4 pm4 cd4 ct4 oc5 kV5 dc5 pm5 cd5 ct5 oc6 kV6 dc6 pm6 cd6 ct6 w_LETTERS w_DIGITS w_LONGEST : Value}
    (a0 : PySem.W.nsIn K mainGlobals "valid_name" = some (some (.ref f0))) (l0 : K.lookup f0 = some ⟨oc0, od0, .func (PySem.W.fnOf "valid_name" "valid_name" (defArgs s_valid_name) (defBody s_valid_name) (defScope s_valid_name) .none kV0 dc0 pm0 an0 cd0 ct0), sl0⟩) (c0 : PySem.W.codeIn K cd0 "valid_name" = true) (k0 : PySem.W.keepIn K (.ref f0) = true)
    (a1 : PySem.W.nsIn K mainGlobals "_stands_in_name" = some (some (.ref f1))) (l1 : K.lookup f1 = some ⟨oc1, od1, .func (PySem.W.fnOf "_stands_in_name" "_stands_in_name" (defArgs s_stands_in_name) (defBody s_stands_in_name) (defScope s_stands_in_name) .none kV1 dc1 pm1 an1 cd1 ct1), sl1⟩) (c1 : PySem.W.codeIn K cd1 "_stands_in_name" = true) (k1 : PySem.W.keepIn K (.ref f1) = true)
    (a2 : PySem.W.nsIn K mainGlobals "_law_start" = some (some (.ref f2))) (l2 : K.lookup f2 = some ⟨oc2, od2, .func (PySem.W.fnOf "_law_start" "_law_start" (defArgs s_l_start) (defBody s_l_start) (defScope s_l_start) .none kV2 dc2 pm2 an2 cd2 ct2), sl2⟩) (c2 : PySem.W.codeIn K cd2 "_law_start" = true) (k2 : PySem.W.keepIn K (.ref f2) = true)
    (a3 : PySem.W.nsIn K mainGlobals "_law_draw" = some (some (.ref f3))) (l3 : K.lookup f3 = some ⟨oc3, od3, .func (PySem.W.fnOf "_law_draw" "_law_draw" (defArgs s_l_draw) (defBody s_l_draw) (defScope s_l_draw) .none kV3 dc3 pm3 an3 cd3 ct3), sl3⟩) (c3 : PySem.W.codeIn K cd3 "_law_draw" = true) (k3 : PySem.W.keepIn K (.ref f3) = true)
    (a4 : PySem.W.nsIn K mainGlobals "_law_signs" = some (some (.ref f4))) (l4 : K.lookup f4 = some ⟨oc4, od4, .func (PySem.W.fnOf "_law_signs" "_law_signs" (defArgs s_l_signs) (defBody s_l_signs) (defScope s_l_signs) .none kV4 dc4 pm4 an4 cd4 ct4), sl4⟩) (c4 : PySem.W.codeIn K cd4 "_law_signs" = true) (k4 : PySem.W.keepIn K (.ref f4) = true)
    (a5 : PySem.W.nsIn K mainGlobals "_law_good" = some (some (.ref f5))) (l5 : K.lookup f5 = some ⟨oc5, od5, .func (PySem.W.fnOf "_law_good" "_law_good" (defArgs s_l_good) (defBody s_l_good) (defScope s_l_good) .none kV5 dc5 pm5 an5 cd5 ct5), sl5⟩) (c5 : PySem.W.codeIn K cd5 "_law_good" = true) (k5 : PySem.W.keepIn K (.ref f5) = true)
    (a6 : PySem.W.nsIn K mainGlobals "law" = some (some (.ref f6))) (l6 : K.lookup f6 = some ⟨oc6, od6, .func (PySem.W.fnOf "law" "law" (defArgs s_law) (defBody s_law) (defScope s_law) .none kV6 dc6 pm6 an6 cd6 ct6), sl6⟩) (c6 : PySem.W.codeIn K cd6 "law" = true) (k6 : PySem.W.keepIn K (.ref f6) = true)
    (z_abs : PySem.W.nsIn K mainGlobals "abs" = some none)
    (z_all : PySem.W.nsIn K mainGlobals "all" = some none)
    (z_bool : PySem.W.nsIn K mainGlobals "bool" = some none)
    (z_int : PySem.W.nsIn K mainGlobals "int" = some none)
    (z_isinstance : PySem.W.nsIn K mainGlobals "isinstance" = some none)
    (z_len : PySem.W.nsIn K mainGlobals "len" = some none)
    (z_list : PySem.W.nsIn K mainGlobals "list" = some none)
    (z_range : PySem.W.nsIn K mainGlobals "range" = some none)
    (y_LETTERS : PySem.W.nsIn K mainGlobals "LETTERS" = some (some w_LETTERS)) (x_LETTERS : RelV (.str "abcdefghijklmnopqrstuvwxyz") w_LETTERS)
    (y_DIGITS : PySem.W.nsIn K mainGlobals "DIGITS" = some (some w_DIGITS)) (x_DIGITS : RelV (.str "0123456789") w_DIGITS)
    (y_LONGEST : PySem.W.nsIn K mainGlobals "LONGEST" = some (some w_LONGEST)) (x_LONGEST : RelV (.int 6) w_LONGEST) :
    ∃ fd : FuncData, (∀ (s : Shared) (v : Value), BindsTo s fd ⟨[v], []⟩ [("_law_script", v)]) ∧ ∀ base : Heap, K.In base → base.Ns mainGlobals mg → FnOk l.prog w K mg base CX0 3 fa fd ["_law_script"] (spLaw K) := by
  have e := hfa.symm.trans (PySem.W.mg_of X G a6)
  cases e
  have F0 := fun_mk (st := s_valid_name) l0 c0 k0
  have b0 := F0.binds (ps := ["text"]) fun _ _ _ _ _ _ us hl => match us, hl with | [_], _ => rfl
  have F1 := fun_mk (st := s_stands_in_name) l1 c1 k1
  have b1 := F1.binds (ps := ["character"]) fun _ _ _ _ _ _ us hl => match us, hl with | [_], _ => rfl
  have F2 := fun_mk (st := s_l_start) l2 c2 k2
  have b2 := F2.binds (ps := ["_law_script"]) fun _ _ _ _ _ _ us hl => match us, hl with | [_], _ => rfl
  have F3 := fun_mk (st := s_l_draw) l3 c3 k3
  have b3 := F3.binds (ps := ["_law_state", "_law_size"]) fun _ _ _ _ _ _ us hl => match us, hl with | [_, _], _ => rfl
  have F4 := fun_mk (st := s_l_signs) l4 c4 k4
  have b4 := F4.binds (ps := []) fun _ _ _ _ _ _ us hl => match us, hl with | [], _ => rfl
  have F5 := fun_mk (st := s_l_good) l5 c5 k5
  have b5 := F5.binds (ps := ["_law_word"]) fun _ _ _ _ _ _ us hl => match us, hl with | [_], _ => rfl
  have F6 := fun_mk (st := s_law) l6 c6 k6
  have T : Tx K mg := ⟨PySem.W.mg_none_of X G z_abs, PySem.W.mg_none_of X G z_all, PySem.W.mg_none_of X G z_bool, PySem.W.mg_none_of X G z_int, PySem.W.mg_none_of X G z_isinstance, PySem.W.mg_none_of X G z_len, PySem.W.mg_none_of X G z_list, PySem.W.mg_none_of X G z_range, ⟨_, PySem.W.mg_of X G y_LETTERS, x_LETTERS⟩, ⟨_, PySem.W.mg_of X G y_DIGITS, x_DIGITS⟩, ⟨_, PySem.W.mg_of X G y_LONGEST, x_LONGEST⟩, ⟨f0, _, F0, PySem.W.mg_of X G a0, b0⟩, ⟨f1, _, F1, PySem.W.mg_of X G a1, b1⟩, ⟨f2, _, F2, PySem.W.mg_of X G a2, b2⟩, ⟨f3, _, F3, PySem.W.mg_of X G a3, b3⟩, ⟨f4, _, F4, PySem.W.mg_of X G a4, b4⟩, ⟨f5, _, F5, PySem.W.mg_of X G a5, b5⟩⟩
  exact ⟨PySem.W.fnOf "law" "law" (defArgs s_law) (defBody s_law) (defScope s_law) .none kV6 dc6 pm6 an6 cd6 ct6, fun s v => .of_eq rfl, fun base _ _ => ok_law F6 T⟩

end K01
open PySem PySem.W PyProof.Rows
set_option maxRecDepth 100000 in
set_option maxHeartbeats 0 in
theorem PySem.Challenge.cw_surerests_k01_valid_names_holds : PySem.Challenge.rw_surerests_k01_valid_names.Holds := by
  w_on; o_law; k_head; (case hw => w_witness2)
  k_fill
  refine L2.walk_of (l := PySem.Challenge.rw_surerests_k01_valid_names) (n := 63) (k := 3) (x := "_law_script") (CX := fun _ => L2.CX0) (sp := fun w => K01.spLaw _) rfl (by decide) rfl ⟨rfl, by decide, by decide⟩ (fun w h Y => PySem.W.kIn_of Y) ?F (fun _ _ a ns hl _ hS => ⟨a, ns, rfl, hS, hl, fun _ => rfl⟩) (fun _ _ _ _ _ h => h)
  case F =>
    intro w mg fa h KX G hmg
    refine' K01.all_mk KX G hmg ?a0 ?l0 ?c0 ?k0 ?a1 ?l1 ?c1 ?k1 ?a2 ?l2 ?c2 ?k2 ?a3 ?l3 ?c3 ?k3 ?a4 ?l4 ?c4 ?k4 ?a5 ?l5 ?c5 ?k5 ?a6 ?l6 ?c6 ?k6 ?z_abs ?z_all ?z_bool ?z_int ?z_isinstance ?z_len ?z_list ?z_range ?y_LETTERS ?x_LETTERS ?y_DIGITS ?x_DIGITS ?y_LONGEST ?x_LONGEST
    (case a0 => k_is)
    (case l0 => k_is)
    (case c0 => k_is)
    (case k0 => k_is)
    (case a1 => k_is)
    (case l1 => k_is)
    (case c1 => k_is)
    (case k1 => k_is)
    (case a2 => k_is)
    (case l2 => k_is)
    (case c2 => k_is)
    (case k2 => k_is)
    (case a3 => k_is)
    (case l3 => k_is)
    (case c3 => k_is)
    (case k3 => k_is)
    (case a4 => k_is)
    (case l4 => k_is)
    (case c4 => k_is)
    (case k4 => k_is)
    (case a5 => k_is)
    (case l5 => k_is)
    (case c5 => k_is)
    (case k5 => k_is)
    (case a6 => k_is)
    (case l6 => k_is)
    (case c6 => k_is)
    (case k6 => k_is)
    (case z_abs => k_is)
    (case z_all => k_is)
    (case z_bool => k_is)
    (case z_int => k_is)
    (case z_isinstance => k_is)
    (case z_len => k_is)
    (case z_list => k_is)
    (case z_range => k_is)
    (case y_LETTERS => k_is)
    (case x_LETTERS => exact ⟨_, rfl⟩)
    (case y_DIGITS => k_is)
    (case x_DIGITS => exact ⟨_, rfl⟩)
    (case y_LONGEST => k_is)
    (case x_LONGEST => exact ⟨_, rfl⟩)

#print axioms PySem.Challenge.cw_surerests_k01_valid_names_holds
